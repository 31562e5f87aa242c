import PyProof.Rows.All
import PyProof.FactsAll.NoneType_1
import Wide.All
import OpenK.AllK
import Wide.FinOn
import Lean
import PyProof.EqAt
import PyProof.EqKinds
import PyProof.TupleCall
import PyProof.SetScanFacts
import PyProof.SetKind
import PyProof.DictStraight
import PyProof.DictIter
import PyProof.Seq
import PyProof.CollectWalk
import PyProof.MakeMany
import PyProof.Rows.SetFrom
import PyProof.Rows.SortShell
import PyProof.ListRange
import PyProof.SetRoads
import PyProof.NeKinds
import PyProof.SumAny
import PyProof.Rows.RuleM_int
import PyProof.ZipIter
import PyProof.EnumFor
import PyProof.EnumMake
import PyProof.EnumStmt
import PyProof.MinMaxWalk
import PyProof.Rows.CallKwBuiltin
import PyProof.ListMulAny
import PyProof.StrBlockH
import PyProof.StrWalks
import PyProof.StrLawsReplace
import PyProof.StrLawsTight
import PyProof.StrLawsChain
import PyProof.StrLawsIn
import PyProof.StrOps2
import PyProof.StrCalls6
import PyProof.ToksMono
import PyProof.Rows.StrNews
import PyProof.StrLawsJoin
import OpenK.KMake
import PyProof.ExcInit
import PyProof.ExcArgsOwn
import PyProof.RulesAs
import PyProof.StationsW
import PyProof.ExcBaseAll.ValueError
import PyProof.NsDelKeeps
import KE.KIntText
import PyProof.Rows.StrIntSpec
import PyProof.Rows.StrDigitsNeg
import PySem.Challenge.RW_macrohouse_k15_no_text
set_option Elab.async false
set_option linter.all false
set_option maxRecDepth 100000
/-! THE HAND LAYER, for ints, bools, texts, own classes, LISTS and tuples (index, slices, in, append, pop ..), calls, loops. Paste it whole ahead of your own text; what your proof does not reach may be deleted. -/
namespace L2
open PySem PySem.Spec PyProof.Rows

theorem hash_none {prog : Program} {w : World} {A : Around} {E : Value → Shared → Prop} {s : Shared} {Q : Int → Shared → Prop} (h : Q 0xFCA86420 { s with toks := s.toks + 1 }) : wpAny (model prog w) A (pyHash .none) Q E s := by
  have hT : s.TypeIs .none "NoneType" := rfl
  unfold pyHash
  have hv : [Value.none].any Value.onHeap = false := rfl
  refine wpAny_bind ?_
  rw [cRoomFor, if_neg (by rw [hv]; exact Bool.false_ne_true)]
  refine wpAny_pure ?_
  refine wpAny_bind (wpAny_specialOf hT PySem.F.slot_NoneType_hash.lookup ?_)
  show wpAny _ _ (if (some (Value.builtin "NoneType.__hash__") == some Value.none) = true then _ else _) Q E s
  rw [if_neg (by rw [beq_builtin_none]; exact Bool.false_ne_true)]
  refine wpAny_bind (wpAny_specialOf hT PySem.F.slot_NoneType_hash.lookup ?_)
  show wpAny _ _ (callSpecialIfBoundUnlessNone? .none "__hash__" _ >>= _) Q E s
  refine wpAny_bind (wpAny_callSpecialIfBoundUnlessNone?_slot hT PySem.F.slot_NoneType_hash (wpAny_call_entry PySem.F.slot_NoneType_hash hT PySem.F.entry_NoneType_hash (show wpAny _ _ (retInt 0xFCA86420) _ _ s from wpAny_ret_mkInt ?_) (PySem.F.args_NoneType_hash_1 _)))
  show wpAny _ _ (if (decide (-(2 : Int) ^ 63 ≤ 0xFCA86420) && decide ((0xFCA86420 : Int) < 2 ^ 63)) = true then _ else _) Q E _
  rw [if_pos (by decide)]
  exact wpAny_pure h
theorem eqb_none {prog : Program} {w : World} {A : Around} {E : Value → Shared → Prop} {s : Shared} {Q : Bool → Shared → Prop} (h : Q true s) : wpAny (model prog w) A (eqBool .none .none) Q E s := by
  exact SeqAt.EqAt.same _ _ _ _ _ h
/-- a key: None, an int or a str -/
abbrev Key := Sum (Option Int) Str
def keyIs : Key → Value → Bool
  | .inl none, v => v == Value.none
  | .inl (some k), v => Value.isInt k v
  | .inr x, v => Value.isStrOf x v
def keyH (w : World) : Key → Int
  | .inl none => 0xFCA86420
  | .inl (some k) => hashInt k
  | .inr x => hashStr w x
theorem keyIs_shape : ∀ {k : Key} {v : Value}, keyIs k v = true → (k = Sum.inl none ∧ v = Value.none) ∨ (∃ i t, k = Sum.inl (some i) ∧ v = Value.int i t) ∨ (∃ x t, k = Sum.inr x ∧ v = Value.str x t)
  | .inl none, v, h => .inl ⟨rfl, eq_of_beq h⟩
  | .inl (some i), v, h => by
    obtain ⟨t, e⟩ := Value.isInt_shape (k := i) (v := v) h
    exact .inr (.inl ⟨i, t, rfl, e⟩)
  | .inr x, v, h => by
    obtain ⟨t, e⟩ := Value.isStrOf_shape (x := x) (v := v) h
    exact .inr (.inr ⟨x, t, rfl, e⟩)
theorem key_ne {a b : Key} (h : a ≠ b) : decide (a = b) = false := decide_eq_false h
theorem key_ll (a b : Int) : decide ((Sum.inl (some a) : Key) = Sum.inl (some b)) = (a == b) := by
  by_cases e : a = b
  · subst e; simp
  · rw [key_ne fun q => e (Option.some.inj (Sum.inl.inj q))]
    exact (beq_eq_false_iff_ne.mpr e).symm
theorem key_rr (a b : Str) : decide ((Sum.inr a : Key) = Sum.inr b) = decide (a = b) := by
  by_cases e : a = b
  · subst e; simp
  · rw [key_ne fun q => e (Sum.inr.inj q), decide_eq_false e]
def mixKind (prog : Program) (w : World) : PySem.KeyKind prog w Key where
  is := keyIs
  hash := keyH w
  inj := fun v a b ha hb => by
    rcases keyIs_shape ha with ⟨rfl, rfl⟩ | ⟨i, t, rfl, rfl⟩ | ⟨x, t, rfl, rfl⟩ <;> rcases keyIs_shape hb with ⟨rfl, e⟩ | ⟨j, u, rfl, e⟩ | ⟨y, u, rfl, e⟩
    · rfl
    · exact nomatch e
    · exact nomatch e
    · exact nomatch e
    · injection e with e1 _; rw [e1]
    · exact nomatch e
    · exact nomatch e
    · exact nomatch e
    · injection e with e1 _; rw [e1]
  byValue := fun k v h => by
    rcases keyIs_shape h with ⟨rfl, rfl⟩ | ⟨i, t, rfl, rfl⟩ | ⟨x, t, rfl, rfl⟩ <;> rfl
  pyHash := fun hv h => by
    rcases keyIs_shape hv with ⟨rfl, rfl⟩ | ⟨i, t, rfl, rfl⟩ | ⟨x, t, rfl, rfl⟩
    · exact hash_none h
    · exact wpAny_pyHash_int h
    · exact wpAny_pyHash_str h
  eqBool := fun hu hv h => by
    rcases keyIs_shape hu with ⟨rfl, rfl⟩ | ⟨i, t, rfl, rfl⟩ | ⟨x, t, rfl, rfl⟩ <;> rcases keyIs_shape hv with ⟨rfl, rfl⟩ | ⟨j, u, rfl, rfl⟩ | ⟨y, u, rfl, rfl⟩
    · exact eqb_none h
    · rw [key_ne] at h
      · exact SeqAt.EqAt.none_int j u _ _ _ _ h
      · intro q; cases q
    · rw [key_ne] at h
      · exact SeqAt.EqAt.none_str y u _ _ _ _ h
      · intro q; cases q
    · rw [key_ne] at h
      · exact SeqAt.EqAt.int_none i t _ _ _ _ h
      · intro q; cases q
    · rw [key_ll] at h; exact wpAny_eqBool_int h
    · rw [key_ne] at h
      · exact SeqAt.EqAt.int_str i t y u _ _ _ _ h
      · intro q; cases q
    · rw [key_ne] at h
      · exact SeqAt.EqAt.str_none x t _ _ _ _ h
      · intro q; cases q
    · rw [key_ne] at h
      · exact SeqAt.EqAt.str_int x t j u _ _ _ _ h
      · intro q; cases q
    · rw [key_rr] at h; exact wpAny_eqBool_str h
  «strs» := fun k x t v h => by
    rcases keyIs_shape h with ⟨rfl, e⟩ | ⟨i, u, rfl, e⟩ | ⟨y, u, rfl, e⟩
    · exact nomatch e
    · exact nomatch e
    · injection e with e1 _
      subst e1
      cases v <;> rfl

end L2

namespace L2
open PySem PySem.Spec PyProof.Rows

/-- a value, without the heap -/
inductive V where
  | non | bl (b : Bool) | int (i : Int) | str (x : Str) | byt (b : Array UInt8) | flt (b : UInt64) | ref (a : Addr) | ty (n : String)
  deriving DecidableEq

def RelV : V → Value → Prop
  | .non, u => u = Value.none
  | .bl b, u => u = Value.bool b
  | .int i, u => ∃ t, u = Value.int i t
  | .str x, u => ∃ t, u = Value.str x t
  | .byt b, u => ∃ t, u = Value.bytes b t
  | .flt b, u => ∃ t, u = Value.float b t
  | .ref a, u => u = Value.ref a
  | .ty n, u => u = Value.type n

abbrev Vals : List V → List Value → Prop := Paired RelV
theorem Vals.length {xs : List V} {us : List Value} (r : Vals xs us) : xs.length = us.length := Paired.length r
theorem Vals.get : ∀ {xs : List V} {us : List Value} {i : Nat} {x : V}, Vals xs us → xs[i]? = some x → ∃ u, us[i]? = some u ∧ RelV x u
  | _, _, _, _, .nil, e => by simp at e
  | _, _, 0, _, .cons r _, e => by simp at e; subst e; exact ⟨_, rfl, r⟩
  | _, _, i + 1, x, .cons _ t, e => by
    obtain ⟨u, h1, h2⟩ := Vals.get (i := i) (x := x) t (by simpa using e)
    exact ⟨u, by simpa using h1, h2⟩
theorem Vals.append : ∀ {xs ys : List V} {us ws : List Value}, Vals xs us → Vals ys ws → Vals (xs ++ ys) (us ++ ws)
  | _, _, _, _, .nil, s => s
  | _, _, _, _, .cons r t, s => .cons r (Vals.append t s)
theorem Vals.take : ∀ {xs : List V} {us : List Value} (n : Nat), Vals xs us → Vals (xs.take n) (us.take n)
  | _, _, 0, _ => .nil
  | _, _, _ + 1, .nil => .nil
  | _, _, n + 1, .cons r t => .cons r (Vals.take n t)
theorem Vals.drop : ∀ {xs : List V} {us : List Value} (n : Nat), Vals xs us → Vals (xs.drop n) (us.drop n)
  | _, _, 0, r => r
  | _, _, _ + 1, .nil => .nil
  | _, _, n + 1, .cons _ t => Vals.drop n t

def RelO : Option V → Option Value → Prop
  | some v, some u => RelV v u
  | none, none => True
  | _, _ => False
def KV {κ : Type} : List (κ × V) → List (κ × Value) → Prop := Paired fun (p : κ × V) (q : κ × Value) => p.1 = q.1 ∧ RelV p.2 q.2

/-- a key of a dict (00_mix): an int or a text -/
def kV : Key → V
  | .inl none => .non
  | .inl (some i) => .int i
  | .inr x => .str x

/-- what stands at a tracked address -/
inductive HO where
  /-- a list -/
  | lst (xs : List V)
  /-- a tuple (never changes) -/
  | tup (xs : List V)
  /-- a dict whose keys are ints and texts; one whose keys are tuples of ints and texts (the empty one is both) -/
  | dK (kvs : List (Key × V)) | dT (kvs : List (List Key × V))
  /-- a set of ints: its members, its size -/
  | set (S : Int → Bool) (n : Nat)
  /-- an instance of the class at C, its dict at dx, its attributes -/
  | ins (C dx : Addr) (fs : List (Str × V))
  /-- the dict of the instance at x -/
  | own (x : Addr)
  /-- the dict of an exception -/
  | xd (fs : List (Str × V))
  /-- a bound method, f of x -/
  | met (f x : Addr)
  /-- a range object lo, lo + 1, .. below hi -/
  | rng (lo hi : Int)
  /-- a thing that is known to the object (the script; a dict while a loop walks it): read, never written while it is so -/
  | frz (o : Obj) (u : HO)
  /-- a code object's table -/
  | tbl (ps : Array Value)
  /-- any other thing, by what is true of its one object (a def of one's own: SetO a S n := HO.ext fun h => ..) -/
  | ext (φ : Heap → Prop)

abbrev Hp := Addr → Option HO
def upd (H : Hp) (a : Addr) (o : HO) : Hp := fun b => if b = a then some o else H b
theorem upd_same {H : Hp} {a : Addr} {o : HO} : upd H a o a = some o := by unfold upd; rw [if_pos rfl]
theorem upd_ne {H : Hp} {a b : Addr} {o : HO} (h : b ≠ a) : upd H a o b = H b := by unfold upd; rw [if_neg h]
theorem upd_upd {H : Hp} {a : Addr} {o u : HO} : upd (upd H a o) a u = upd H a u := by
  funext b; unfold upd; split <;> rfl
/-- two objects of different content stand apart -/
theorem ne_of {H : Hp} {a b : Addr} {o u : HO} (h : H a = some o) (h' : H b = some u) (d : o ≠ u) : a ≠ b := by
  intro e; subst e; rw [h] at h'; exact d (Option.some.inj h')
theorem ne_of_none {H : Hp} {a b : Addr} {o : HO} (h : H a = some o) (h' : H b = none) : a ≠ b := by
  intro e; subst e; rw [h] at h'; cases h'

section
variable (P : Program) (w : World)
def ObjOk (H : Hp) (h : Heap) (a : Addr) : HO → Prop
  | .lst xs => xs.length ≤ sizeLine ∧ ∃ (its : List Value) (n : Nat), Vals xs its ∧ h.get? a = some { cls := .type "list", data := .seq its.toArray n }
  | .tup xs => xs.length ≤ sizeLine ∧ ∃ its : List Value, Vals xs its ∧ IsTup h a its.toArray
  | .dK kvs => kvs.length ≤ sizeLine ∧ (a == sysModules) = false ∧ ∃ vs, KV kvs vs ∧ h.DictOf (mixKind P w) a vs
  | .dT kvs => kvs.length ≤ sizeLine ∧ (a == sysModules) = false ∧ ∃ xs : List (List Key × Addr × Value),
      Paired (fun (p : List Key × V) (q : List Key × Addr × Value) => p.1 = q.1 ∧ H q.2.1 = some (.tup (p.1.map kV)) ∧ RelV p.2 q.2.2) kvs xs ∧
      ∃ o es ep, h.get? a = some o ∧ o.ExactDict ∧ o.data = .dict es ep ∧ es.toList = xs.map (entryOfKey (tupleKind (mixKind P w))) ∧ (xs.map (·.1)).Nodup
  | .set S n => h.SetOf (intKind P w) a S n
  | .ins C dx fs => H dx = some (.own a) ∧ fs.length ≤ 1000 ∧ dx ≠ a ∧ h.get? a = some (PySem.W.instObj C dx) ∧
      ∃ mA, h.Ns1 dx mA ∧ (∀ f, RelO (fs.lookup f) (mA f)) ∧ PySem.Within mA (fs.map (·.1))
  | .own _ => ∃ o, h.get? a = some o
  | .xd fs => ∃ mA, h.Ns1 a mA ∧ ∀ f, RelO (fs.lookup f) (mA f)
  | .rng lo hi => ∃ t u v, h.get? a = some { cls := .type "range", data := .fields #[.int lo t, .int hi u, .int 1 v] }
  | .frz o u => h.get? a = some o ∧ ObjOk H h a u
  | .tbl ps => h.get? a = some { cls := .none, data := .fields ps }
  | .met f x => h.get? a = some (PySem.W.methodObj (.ref f) (.ref x))
  | .ext φ => φ h ∧ (∃ o, h.get? a = some o) ∧ ∀ h1 h2 : Heap, φ h1 → (∀ o, h1.get? a = some o → h2.get? a = some o) → φ h2
/-- the abstract heap is held -/
def HOk (H : Hp) (h : Heap) : Prop := ∀ a o, H a = some o → ObjOk P w H h a o
end

section
variable {P : Program} {w : World} {H H' : Hp} {h h' : Heap} {a : Addr} {o : HO}
theorem ObjOk.lt (x : ObjOk P w H h a o) : a < h.objs.size := by
  cases o with
  | lst xs => obtain ⟨_, _, _, _, e⟩ := x; exact Heap.lt_size e
  | tup xs => obtain ⟨_, _, _, p⟩ := x; exact p.lt
  | dK kvs => obtain ⟨_, _, _, _, o, _, _, e, _⟩ := x; exact Heap.lt_size e
  | dT kvs => obtain ⟨_, _, _, _, o, _, _, e, _⟩ := x; exact Heap.lt_size e
  | set S n => obtain ⟨o, _, _, _, e, _⟩ := x; exact Heap.lt_size e
  | ins C dx fs => obtain ⟨_, _, _, e, _⟩ := x; exact Heap.lt_size e
  | own y => obtain ⟨_, e⟩ := x; exact Heap.lt_size e
  | xd fs => obtain ⟨_, ⟨_, _, _, e, _⟩, _⟩ := x; exact Heap.lt_size e
  | rng lo hi => obtain ⟨_, _, _, e⟩ := x; exact Heap.lt_size e
  | frz ob u => obtain ⟨e, _⟩ := x; exact Heap.lt_size e
  | tbl ps => exact Heap.lt_size (show h.get? a = some _ from x)
  | met f y => exact Heap.lt_size (show h.get? a = some _ from x)
  | ext φ => obtain ⟨_, ⟨_, e⟩, _⟩ := x; exact Heap.lt_size e
theorem Paired.mapP {α β : Type} {F G : α → β → Prop} : ∀ {l₁ : List α} {l₂ : List β}, Paired F l₁ l₂ → (∀ a b, F a b → G a b) → Paired G l₁ l₂
  | _, _, .nil, _ => .nil
  | _, _, .cons r t, f => .cons (f _ _ r) (Paired.mapP t f)
/-- what an object's description leans on: its own object, its own dict, the tuples -/
theorem ObjOk.stay (x : ObjOk P w H h a o) (k : ∀ b u, (b = a ∨ H b = some (.own a)) → h.get? b = some u → h'.get? b = some u)
    (ho : ∀ b, H b = some (.own a) → H' b = some (.own a)) (ht : ∀ b xs, H b = some (.tup xs) → H' b = some (.tup xs)) : ObjOk P w H' h' a o := by
  induction o with
  | lst xs => obtain ⟨z, its, n, r, e⟩ := x; exact ⟨z, its, n, r, k _ _ (.inl rfl) e⟩
  | tup xs => obtain ⟨z, its, r, ob, e, c⟩ := x; exact ⟨z, its, r, ob, k _ _ (.inl rfl) e, c⟩
  | dK kvs => obtain ⟨z, y, vs, r, ob, es, ep, e, c⟩ := x; exact ⟨z, y, vs, r, ob, es, ep, k _ _ (.inl rfl) e, c⟩
  | dT kvs =>
    obtain ⟨z, y, xs, r, ob, es, ep, e, c⟩ := x
    exact ⟨z, y, xs, Paired.mapP r fun p q z => ⟨z.1, ht _ _ z.2.1, z.2.2⟩, ob, es, ep, k _ _ (.inl rfl) e, c⟩
  | set S n => obtain ⟨ob, es, ep, t, e, c⟩ := x; exact ⟨ob, es, ep, t, k _ _ (.inl rfl) e, c⟩
  | ins C dx fs =>
    obtain ⟨d, z, ne, e, mA, ⟨od, es, ep, e2, c⟩, r⟩ := x
    exact ⟨ho _ d, z, ne, k _ _ (.inl rfl) e, mA, ⟨od, es, ep, k _ _ (.inr d) e2, c⟩, r⟩
  | own y => obtain ⟨ob, e⟩ := x; exact ⟨ob, k _ _ (.inl rfl) e⟩
  | xd fs => obtain ⟨mA, ⟨od, es, ep, e, c⟩, r⟩ := x; exact ⟨mA, ⟨od, es, ep, k _ _ (.inl rfl) e, c⟩, r⟩
  | rng lo hi => obtain ⟨t, u, v, e⟩ := x; exact ⟨t, u, v, k _ _ (.inl rfl) e⟩
  | frz ob u ih => obtain ⟨e, q⟩ := x; exact ⟨k _ _ (.inl rfl) e, ih q⟩
  | tbl ps =>
    have e : h.get? a = some { cls := .none, data := .fields ps } := x
    show h'.get? a = some { cls := .none, data := .fields ps }
    exact k a _ (.inl rfl) e
  | met f y =>
    have e : h.get? a = some (PySem.W.methodObj (.ref f) (.ref y)) := x
    show h'.get? a = some (PySem.W.methodObj (.ref f) (.ref y))
    exact k a _ (.inl rfl) e
  | ext φ => obtain ⟨p, ⟨o, e⟩, st⟩ := x; exact ⟨st _ _ p fun o q => k _ _ (.inl rfl) q, ⟨o, k _ _ (.inl rfl) e⟩, st⟩
theorem HOk.lt (x : HOk P w H h) (e : H a = some o) : a < h.objs.size := (x a o e).lt
theorem HOk.fresh (x : HOk P w H h) (e : h.objs.size ≤ a) : H a = none := by
  cases q : H a with
  | none => rfl
  | some u => exact absurd (Nat.lt_of_lt_of_le (x.lt q) e) (Nat.lt_irrefl _)
/-- every object of the heap is kept -/
theorem HOk.kept (x : HOk P w H h) (k : ∀ b u, h.get? b = some u → h'.get? b = some u) : HOk P w H h' := fun a o e =>
  (x a o e).stay (fun b u _ q => k b u q) (fun _ q => q) fun _ _ q => q
/-- a new object is laid and tracked -/
theorem HOk.laid (x : HOk P w H h) (k : ∀ b u, h.get? b = some u → h'.get? b = some u) (hp : h.objs.size ≤ a) (new : ObjOk P w (upd H a o) h' a o) : HOk P w (upd H a o) h' := fun b u e => by
  have hn := x.fresh hp
  by_cases hb : b = a
  · subst hb; rw [upd_same] at e; cases e; exact new
  · rw [upd_ne hb] at e
    exact (x b u e).stay (fun c v _ q => k c v q) (fun c q => by rw [upd_ne (ne_of_none q hn)]; exact q) fun c xs q => by rw [upd_ne (ne_of_none q hn)]; exact q
end

/-- what may be read as u: it is u, or a known u -/
def Rd (H : Hp) (a : Addr) (u : HO) : Prop := H a = some u ∨ ∃ o, H a = some (.frz o u)
theorem Rd.ok {P : Program} {w : World} {H : Hp} {h : Heap} {a : Addr} {u : HO} (r : Rd H a u) (x : HOk P w H h) : ObjOk P w H h a u := by
  rcases r with r | ⟨o, r⟩
  · exact x a u r
  · obtain ⟨_, q⟩ := x a _ r
    exact q
/-- what may be written -/
def Mut : Option HO → Prop
  | some (.lst _) => True
  | some (.dK _) => True
  | some (.dT _) => True
  | some (.set _ _) => True
  | some (.ins _ _ _) => True
  | some (.ext _) => True
  | _ => False
section
variable {P : Program} {w : World} {H : Hp} {h h' : Heap} {x e : Addr} {o' : HO}
/-- the object at e is changed: x itself, or the dict of the instance x -/
theorem HOk.write (ok : HOk P w H h) (mu : Mut (H x)) (he : e = x ∨ H e = some (.own x)) (k : ∀ b u, b ≠ e → h.get? b = some u → h'.get? b = some u) (heo : ∃ u, h'.get? e = some u)
    (new : ObjOk P w (upd H x o') h' x o') : HOk P w (upd H x o') h' := fun b u q => by
  have nown : ∀ c y, H c = some (.own y) → c ≠ x := fun c y r z => by subst z; rw [r] at mu; exact mu
  have ntup : ∀ c xs, H c = some (.tup xs) → c ≠ x := fun c xs r z => by subst z; rw [r] at mu; exact mu
  by_cases hb : b = x
  · subst hb; rw [upd_same] at q; cases q; exact new
  · rw [upd_ne hb] at q
    by_cases hbe : b = e
    · have q' : H b = some (.own x) := by
        rcases he with z | z
        · exact absurd (hbe.trans z) hb
        · rw [hbe]; exact z
      rw [q] at q'; cases q'
      obtain ⟨v, hv⟩ := heo
      exact ⟨v, by rw [hbe]; exact hv⟩
    · refine (ok b u q).stay (fun c v hc r => k c v ?_ r) (fun c r => by rw [upd_ne (nown c b r)]; exact r) fun c xs r => by rw [upd_ne (ntup c xs r)]; exact r
      rcases hc with rfl | hc
      · exact hbe
      · rintro rfl
        rcases he with z | z
        · exact nown c b hc z
        · rw [hc] at z; cases z; exact hb rfl
end

/-! ### kept unless tracked; of the frames at fs (the callers') the slots may change (an exception that passes writes there); of the records at ex (iterators) nothing is said -/
structure Un (fs ex : List Addr) (H H' : Hp) (h h' : Heap) : Prop where
  keep : ∀ b o, h.get? b = some o → H b = none → b ∉ fs → b ∉ ex → h'.get? b = some o
  slot : ∀ b o, h.get? b = some o → H b = none → b ∈ fs → b ∉ ex → ∃ sl, h'.get? b = some { o with slots := sl }
  free : ∀ b o, h.get? b = some o → H b = none → b ∉ ex → H' b = none
  there : ∀ b o, h.get? b = some o → b ∉ ex → ∃ o', h'.get? b = some o'
  tups : ∀ b xs, H b = some (.tup xs) → H' b = some (.tup xs)
  frzs : ∀ b o u, H b = some (.frz o u) → H' b = some (.frz o u)
  tbls : ∀ b ps, H b = some (.tbl ps) → ∃ more, H' b = some (.tbl (ps ++ more))
section
variable {fs fs' ex ex' : List Addr} {H H1 H2 : Hp} {h h1 h2 h' : Heap} {a x e : Addr} {o : HO}
theorem Un.any (u : Un fs ex H H1 h h1) {b : Addr} {ob : Obj} (q : h.get? b = some ob) (n : H b = none) (hx : b ∉ ex) : ∃ sl, h1.get? b = some { ob with slots := sl } := by
  by_cases hb : b ∈ fs
  · exact u.slot b ob q n hb hx
  · exact ⟨ob.slots, u.keep b ob q n hb hx⟩
theorem Un.kept (k : ∀ b u, h.get? b = some u → h'.get? b = some u) : Un fs ex H H h h' :=
  ⟨fun b ob q _ _ _ => k b ob q, fun b ob q _ _ _ => ⟨ob.slots, k b ob q⟩, fun _ _ _ n _ => n, fun b ob q _ => ⟨ob, k b ob q⟩, fun _ _ q => q, fun _ _ _ q => q, fun _ ps q => ⟨#[], by rw [q]; simp⟩⟩
theorem Un.refl : Un fs ex H H h h := Un.kept fun _ _ q => q
theorem Un.laid (k : ∀ b u, h.get? b = some u → h'.get? b = some u) (hp : h.objs.size ≤ a) (hn : H a = none) : Un fs ex H (upd H a o) h h' where
  keep := fun b u q _ _ _ => k b u q
  slot := fun b u q _ _ _ => ⟨u.slots, k b u q⟩
  free := fun b u q n _ => by rw [upd_ne (Nat.ne_of_lt (Nat.lt_of_lt_of_le (Heap.lt_size q) hp))]; exact n
  there := fun b u q _ => ⟨u, k b u q⟩
  tups := fun b xs q => by rw [upd_ne (ne_of_none q hn)]; exact q
  frzs := fun b u xs q => by rw [upd_ne (ne_of_none q hn)]; exact q
  tbls := fun b ps q => ⟨#[], by rw [upd_ne (ne_of_none q hn), q]; simp⟩
theorem Un.write (mu : Mut (H x)) (he : e = x ∨ H e = some (.own x)) (k : ∀ b u, b ≠ e → h.get? b = some u → h'.get? b = some u) (heo : ∃ u, h'.get? e = some u) : Un fs ex H (upd H x o) h h' := by
  have hx : ∀ b, H b = none → b ≠ x := fun b n z => by subst z; rw [n] at mu; exact mu
  have hb : ∀ b, H b = none → b ≠ e := fun b n z => by
    subst z
    rcases he with r | r
    · exact hx b n r
    · rw [n] at r; cases r
  have hm : ∀ b u, H b = some u → ¬ Mut (some u) → b ≠ x := fun b u q nm z => by subst z; rw [q] at mu; exact nm mu
  refine ⟨fun b u q n _ _ => k b u (hb b n) q, fun b u q n _ _ => ⟨u.slots, k b u (hb b n) q⟩, fun b u q n _ => by rw [upd_ne (hx b n)]; exact n, fun b u q _ => ?_,
    fun b xs q => by rw [upd_ne (hm b _ q fun z => z)]; exact q, fun b u xs q => by rw [upd_ne (hm b _ q fun z => z)]; exact q, fun b ps q => ⟨#[], by rw [upd_ne (hm b _ q fun z => z), q]; simp⟩⟩
  by_cases hbe : b = e
  · subst hbe; exact heo
  · exact ⟨u, k b u hbe q⟩
end

/-! ### the heap without what is tracked -/
def trk (h : Heap) (H : Hp) : List Addr := (List.range h.objs.size).filter fun a => (H a).isSome
def hidT (h : Heap) (H : Hp) : Heap := PySem.W.hideAll h (trk h H)
theorem hidT_size (h : Heap) (H : Hp) : (hidT h H).objs.size = h.objs.size := PySem.W.hideAll_size _ _
theorem hidT_get {h : Heap} {H : Hp} {b : Addr} {o : Obj} (e : h.get? b = some o) (n : H b = none) : (hidT h H).get? b = some o :=
  PySem.W.hideAll_get _ e fun hm => by
    have q : (H b).isSome = true := (List.mem_filter.mp hm).2
    rw [n] at q; simp at q
theorem of_hidT {h : Heap} {H : Hp} {b : Addr} {o : Obj} (e : (hidT h H).get? b = some o) : h.get? b = some o ∧ H b = none := by
  have e' : h.get? b = some o := PySem.W.of_hideAll (trk h H) e
  refine ⟨e', ?_⟩
  cases q : H b with
  | none => rfl
  | some x =>
    have hm : b ∈ trk h H := List.mem_filter.mpr ⟨List.mem_range.mpr (Heap.lt_size e'), by simp [q]⟩
    have z : (hidT h H).get? b = none := PySem.W.hideAll_none (trk h H) hm
    rw [z] at e; cases e

/-! ### OpenK's ledger, filled with every new object but one -/
def allNews (g h : Heap) (L : Addr) : List (Addr × Obj) := (List.range h.objs.size).filterMap fun a => if a = L ∨ (g.get? a).isSome = true then none else (h.get? a).map fun o => (a, o)
def rest (g h : Heap) (L d : Addr) : List (Addr × Obj) := (allNews g h L).filter fun p => decide (p.1 ≠ d)
end L2

namespace L2
open PySem PySem.Spec PyProof.Rows

/-- the module's facts, over the base: the heap at the law's entry without what is tracked there -/
structure Mod (K : PySem.W.Frag) (mg : Str → Option Value) (base : Heap) : Prop where
  kin : K.In base
  glob : base.Ns mainGlobals mg
  blt : ∃ mb, base.Ns builtinsNs mb ∧ ∀ x : Str, x ≠ "__name__" → mb x = bootBuiltins x
  nolimit : base.NoLimit

/-- the context: a def's body (or a comprehension's block) running. base: fixed through the whole law; s₀, H₀: the entry; outer: the frames whose slots others may change (a def's callers); stack: all frames that run;
   ex: iterators that were made ahead of the entry and are walked here (a comprehension's); fn: the names whose cells were made at the entry (a def: all; a comprehension's block: its own); calm: not within an except suite; pn: pins that every state bears; xe: what is wanted of an exception that leaves the code -/
structure Cx where
  prog : Program
  w : World
  K : PySem.W.Frag
  mg : Str → Option Value
  base : Heap
  A : Around
  N : List Str
  s₀ : Shared
  H₀ : Hp
  env : Env
  outer : List Env
  stack : List Env
  ex : List Addr
  fn : Str → Bool
  calm : Bool
  pn : List (Addr × Obj)
  xe : Value → Shared → Prop
/-- the callers' frames -/
def frs (l : List Env) : List Addr := l.filterMap (·.frame)
abbrev Cx.fs (X : Cx) : List Addr := frs X.outer

def Vis (sc : Scope) (x : Str) : Prop := sc.names.lookup x = some .local ∨ sc.names.lookup x = some .cell ∨ sc.names.lookup x = some .free
def Loc (sc : Scope) (x : Str) : Prop := sc.names.lookup x = some .local ∨ sc.names.lookup x = some .cell
def Look (env : Env) (h : Heap) (m : Str → Option Value) (x : Str) (u : Value) : Prop :=
  (env.kindOf x = some .local ∧ m x = some u) ∨ ((env.kindOf x = some .cell ∨ env.kindOf x = some .free) ∧ ∃ c, env.cells.lookup x = some c ∧ h.IsCell c (some u))

structure Cx.Ok (X : Cx) : Prop where
  mod : Mod X.K X.mg X.base
  kind : X.env.scope.kind = .function
  glob : X.env.globals = mainGlobals
  blt : X.env.builtins = builtinsNs
  above : X.s₀.heap.objs.size ≤ X.env.locals
  inj : ∀ x y c, X.env.cells.lookup x = some c → X.env.cells.lookup y = some c → x = y
  has : ∀ x, (X.env.kindOf x = some .cell ∨ X.env.kindOf x = some .free) → ∃ c, X.env.cells.lookup x = some c
  cab : ∀ x c, X.fn x = true → X.env.cells.lookup x = some c → X.s₀.heap.objs.size ≤ c
  hd : X.calm = true → X.A.handled = none
  frames : X.A.frames = some X.stack
  stk : X.stack = X.outer ∨ (X.stack = X.env :: X.outer ∧ X.env.frame = some X.env.locals)
  exf : ∀ b ∈ X.ex, b ≠ X.env.locals ∧ ∀ x c, X.env.cells.lookup x = some c → c ≠ b
  bs : ∀ b o, X.base.get? b = some o → X.s₀.heap.get? b = some o ∧ X.H₀ b = none
  bsz : X.base.objs.size ≤ X.s₀.heap.objs.size
  noex : ∀ b o, X.base.get? b = some o → b ∉ X.ex
  exfs : ∀ b ∈ X.ex, b ∉ X.fs
  funs : X.s₀.heap.FunFrames X.base X.outer
  frf : ∀ b ∈ X.fs, X.H₀ b = none

structure Inv (X : Cx) (pins : List (Addr × Obj)) (σ : List (Option V)) (H : Hp) (s : Shared) : Prop where
  ok : X.Ok
  os : s.os = X.s₀.os
  bare : AllBare s.gens
  base : Un X.fs X.ex X.H₀ H X.s₀.heap s.heap
  loc : ∃ m, s.heap.Ns X.env.locals m ∧ ∀ (i : Nat) (x : Str) (v : V), X.N[i]? = some x → σ[i]? = some (some v) → Vis X.env.scope x → ∃ u, RelV v u ∧ Look X.env s.heap m x u
  cell : ∀ x c, X.env.cells.lookup x = some c → ∃ v, s.heap.IsCell c v
  free : H X.env.locals = none
  freeC : ∀ x c, X.env.cells.lookup x = some c → H c = none
  pin : ∀ p ∈ X.pn ++ pins, s.heap.get? p.1 = some p.2 ∧ H p.1 = none ∧ p.1 ≠ X.env.locals ∧ p.1 ∉ X.fs ∧ ∀ v, p.2.data ≠ .cell v
  hok : HOk X.prog X.w H s.heap
  len : σ.length = X.N.length

section
variable {X : Cx} {pins : List (Addr × Obj)} {σ : List (Option V)} {H H' : Hp} {s : Shared} {h' : Heap}

theorem Cx.Ok.nofr (ok : X.Ok) {b : Addr} {o : Obj} (e : X.base.get? b = some o) : b ∉ X.fs := fun hb => by
  have := (ok.funs.mem hb).1
  rw [e] at this; cases this
theorem Inv.bs (I : Inv X pins σ H s) : ∀ b o, X.base.get? b = some o → s.heap.get? b = some o ∧ H b = none := fun b o e =>
  ⟨I.base.keep b o (I.ok.bs b o e).1 (I.ok.bs b o e).2 (I.ok.nofr e) (I.ok.noex b o e), I.base.free b o (I.ok.bs b o e).1 (I.ok.bs b o e).2 (I.ok.noex b o e)⟩
theorem Inv.bk (I : Inv X pins σ H s) : ∀ b o, X.base.get? b = some o → s.heap.get? b = some o := fun b o e => (I.bs b o e).1
theorem Inv.mod (I : Inv X pins σ H s) : Mod X.K X.mg X.base := I.ok.mod
theorem Inv.kIn (I : Inv X pins σ H s) : X.K.In s.heap := I.ok.mod.kin.keeps I.bk
/-- the frame over the base: for OpenK's rules (K.In X.base is I.mod.kin) -/
theorem Inv.fr (I : Inv X pins σ H s) : ∃ m, Fr X.base X.env.locals s.heap m :=
  let ⟨m, hn, _⟩ := I.loc
  ⟨m, hn, I.bk, Nat.le_trans I.ok.bsz I.ok.above⟩
theorem Inv.lt (I : Inv X pins σ H s) : X.env.locals < s.heap.objs.size := let ⟨_, hn, _⟩ := I.loc; hn.lt
theorem Inv.sz (I : Inv X pins σ H s) : X.s₀.heap.objs.size ≤ s.heap.objs.size := Nat.le_trans I.ok.above (Nat.le_of_lt I.lt)
theorem Inv.nofs (I : Inv X pins σ H s) {a : Addr} (h : s.heap.objs.size ≤ a) : a ∉ X.fs := fun hb => by
  obtain ⟨_, o, ho, _⟩ := I.ok.funs.mem hb
  exact absurd (Nat.lt_of_lt_of_le (Heap.lt_size ho) (Nat.le_trans I.sz h)) (Nat.lt_irrefl _)
theorem Inv.cne (I : Inv X pins σ H s) : ∀ x c, X.env.cells.lookup x = some c → c ≠ X.env.locals := fun x c e z => by
  obtain ⟨v, o, ho, hd⟩ := I.cell x c e
  obtain ⟨m, ⟨o', es, ep, ho', hd', _⟩, _⟩ := I.loc
  rw [z, ho'] at ho; cases ho; rw [hd'] at hd; cases hd
theorem Inv.funs (I : Inv X pins σ H s) : s.heap.FunFrames X.base X.outer := by
  have all : ∀ (l : List Env), (∀ b ∈ frs l, b ∈ X.fs) → X.s₀.heap.FunFrames X.base l → s.heap.FunFrames X.base l := by
    intro l
    induction l with
    | nil => intro _ _; trivial
    | cons env r ih =>
      intro hs hl
      obtain ⟨hk, ⟨L, o, hf, hn, ho, hd⟩, hr⟩ := hl
      have hL : L ∈ X.fs := hs L (by unfold frs; rw [List.filterMap_cons, hf]; exact List.mem_cons_self)
      obtain ⟨sl, e⟩ := I.base.slot L o ho (I.ok.frf L hL) hL fun z => I.ok.exfs L z hL
      exact ⟨hk, ⟨L, _, hf, hn, e, hd⟩, ih (fun b hb => hs b (by unfold frs; rw [List.filterMap_cons, hf]; exact List.mem_cons_of_mem _ hb)) hr⟩
  exact all X.outer (fun _ hb => hb) I.ok.funs

/-- the frames that run, for a call -/
theorem Inv.stack (I : Inv X pins σ H s) : s.heap.FunFrames X.base X.stack := by
  rcases I.ok.stk with e | ⟨e, hf⟩
  · rw [e]; exact I.funs
  · rw [e]
    obtain ⟨m, hn, _⟩ := I.loc
    refine .cons (by rw [I.ok.kind]; decide) hf hn ?_ I.funs
    exact Heap.get?_none_of_le (Nat.le_trans I.ok.bsz I.ok.above)
theorem Inv.stkSub (I : Inv X pins σ H s) : ∀ b ∈ frs X.stack, b ∈ X.env.locals :: X.fs := fun b hb => by
  rcases I.ok.stk with e | ⟨e, hf⟩
  · rw [e] at hb; exact List.mem_cons_of_mem _ hb
  · rw [e] at hb
    unfold frs at hb
    rw [List.filterMap_cons, hf] at hb
    exact hb
theorem Inv.stkFree (I : Inv X pins σ H s) : ∀ b ∈ frs X.stack, H b = none := fun b hb => by
  rcases List.mem_cons.mp (I.stkSub b hb) with e | hb
  · rw [e]; exact I.free
  · obtain ⟨_, o, ho, _⟩ := I.ok.funs.mem hb
    exact I.base.free b o ho (I.ok.frf b hb) fun z => I.ok.exfs b z hb

/-- THE STEP: the untracked objects but the frame and the records at ch are kept (the callers' frames up to slots), the frame's map is kept, the new abstract heap is held -/
theorem Inv.step {g' : Array GenState} {t' : Nat} {d' : Drawn} {ch : List Addr} (I : Inv X pins σ H s)
    (hch : ∀ b ∈ ch, (b ∈ X.ex ∨ X.s₀.heap.objs.size ≤ b) ∧ b ≠ X.env.locals ∧ (∀ x c, X.env.cells.lookup x = some c → c ≠ b) ∧ ∀ p ∈ X.pn ++ pins, p.1 ≠ b)
    (keep : ∀ b o, b ≠ X.env.locals → b ∉ X.fs → b ∉ ch → s.heap.get? b = some o → H b = none → h'.get? b = some o)
    (slot : ∀ b o, b ≠ X.env.locals → b ∈ X.fs → b ∉ ch → s.heap.get? b = some o → H b = none → ∃ sl, h'.get? b = some { o with slots := sl }) (free : ∀ b o, b ∉ ch → s.heap.get? b = some o → H b = none → H' b = none)
    (there : ∀ b o, b ∉ ch → s.heap.get? b = some o → ∃ o', h'.get? b = some o')
    (tups : ∀ b xs, H b = some (.tup xs) → H' b = some (.tup xs)) (frzs : ∀ b o u, H b = some (.frz o u) → H' b = some (.frz o u)) (tbls : ∀ b ps, H b = some (.tbl ps) → ∃ more, H' b = some (.tbl (ps ++ more)))
    (ns : ∀ m, s.heap.Ns X.env.locals m → h'.Ns X.env.locals m) (hok : HOk X.prog X.w H' h') (hg : AllBare g') :
    Inv X pins σ H' { s with heap := h', gens := g', drawn := d', toks := t' } := by
  have neL : ∀ b o, X.s₀.heap.get? b = some o → b ≠ X.env.locals := fun b o e => Nat.ne_of_lt (Nat.lt_of_lt_of_le (Heap.lt_size e) I.ok.above)
  have neC : ∀ b o, X.s₀.heap.get? b = some o → b ∉ X.ex → b ∉ ch := fun b o e hx hb => by
    rcases (hch b hb).1 with z | z
    · exact hx z
    · exact absurd (Nat.lt_of_lt_of_le (Heap.lt_size e) z) (Nat.lt_irrefl _)
  have cellK : ∀ x c, X.env.cells.lookup x = some c → ∀ v, s.heap.IsCell c v → h'.IsCell c v := fun x c e v ⟨o, ho, hd⟩ => by
    have nch : c ∉ ch := fun z => (hch c z).2.2.1 x c e rfl
    by_cases hc : c ∈ X.fs
    · obtain ⟨sl, q⟩ := slot c o (I.cne x c e) hc nch ho (I.freeC x c e)
      exact ⟨_, q, hd⟩
    · exact ⟨o, keep c o (I.cne x c e) hc nch ho (I.freeC x c e), hd⟩
  refine ⟨I.ok, I.os, hg, ⟨fun b o e n hb hx => ?_, fun b o e n hb hx => ?_, fun b o e n hx => ?_, fun b o e hx => ?_, fun b xs e => tups b xs (I.base.tups b xs e), fun b o xs e => frzs b o xs (I.base.frzs b o xs e), fun b ps e => ?_⟩, ?_, fun x c e => ?_, ?_, fun x c e => ?_, fun p hp => ?_, hok, I.len⟩
  · exact keep b o (neL b o e) hb (neC b o e hx) (I.base.keep b o e n hb hx) (I.base.free b o e n hx)
  · obtain ⟨sl, e1⟩ := I.base.slot b o e n hb hx
    obtain ⟨sl', e2⟩ := slot b _ (neL b o e) hb (neC b o e hx) e1 (I.base.free b o e n hx)
    exact ⟨sl', e2⟩
  · obtain ⟨o', e1⟩ := I.base.there b o e hx
    exact free b o' (neC b o e hx) e1 (I.base.free b o e n hx)
  · obtain ⟨o', e1⟩ := I.base.there b o e hx
    exact there b o' (neC b o e hx) e1
  · obtain ⟨m1, e1⟩ := I.base.tbls b ps e
    obtain ⟨m2, e2⟩ := tbls b _ e1
    exact ⟨m1 ++ m2, by rw [e2, Array.append_assoc]⟩
  · obtain ⟨m, hn, hl⟩ := I.loc
    refine ⟨m, ns m hn, fun i x v e1 e2 e3 => ?_⟩
    obtain ⟨u, r, l⟩ := hl i x v e1 e2 e3
    refine ⟨u, r, ?_⟩
    rcases l with l | ⟨k, c, e, z⟩
    · exact .inl l
    · exact .inr ⟨k, c, e, cellK x c e _ z⟩
  · obtain ⟨v, z⟩ := I.cell x c e
    exact ⟨v, cellK x c e v z⟩
  · obtain ⟨m, ⟨o, _, _, ho, _⟩, _⟩ := I.loc
    exact free _ o (fun z => (hch _ z).2.1 rfl) ho I.free
  · obtain ⟨v, o, ho, hd⟩ := I.cell x c e
    exact free c o (fun z => (hch c z).2.2.1 x c e rfl) ho (I.freeC x c e)
  · obtain ⟨e, n, ne, nf, d⟩ := I.pin p hp
    have nch : p.1 ∉ ch := fun z => (hch p.1 z).2.2.2 p hp rfl
    exact ⟨keep p.1 p.2 ne nf nch e n, free p.1 p.2 nch e n, ne, nf, d⟩
/-- .. where the frame's own object is kept too -/
theorem Inv.un {t' : Nat} (I : Inv X pins σ H s) (u : Un X.fs [] H H' s.heap h') (hok : HOk X.prog X.w H' h') : Inv X pins σ H' { s with heap := h', toks := t' } := by
  obtain ⟨m, ⟨o, es, ep, ho, r⟩, _⟩ := id I.loc
  obtain ⟨sl, hL⟩ := u.any ho I.free (by simp)
  exact I.step (g' := s.gens) (d' := s.drawn) (ch := []) (fun _ z => nomatch z) (fun b o _ hb _ e n => u.keep b o e n hb (by simp)) (fun b o _ hb _ e n => u.slot b o e n hb (by simp)) (fun b o _ e n => u.free b o e n (by simp)) (fun b o _ e => u.there b o e (by simp)) u.tups u.frzs u.tbls (fun m' hm => by
    obtain ⟨o', es', ep', ho', r'⟩ := hm
    rw [ho] at ho'; cases ho'
    exact ⟨_, es', ep', hL, r'⟩) hok I.bare
/-- behind a call (or a comprehension's block): the slots of this frame may have changed too, the records at ch may have turned -/
theorem Inv.call {g' : Array GenState} {t' : Nat} {d' : Drawn} {ch : List Addr} (I : Inv X pins σ H s) (u : Un (frs X.stack) ch H H' s.heap h') (hok : HOk X.prog X.w H' h') (hg : AllBare g')
    (hch : ∀ b ∈ ch, (b ∈ X.ex ∨ X.s₀.heap.objs.size ≤ b) ∧ b ≠ X.env.locals ∧ (∀ x c, X.env.cells.lookup x = some c → c ≠ b) ∧ ∀ p ∈ X.pn ++ pins, p.1 ≠ b) :
    Inv X pins σ H' { s with heap := h', gens := g', drawn := d', toks := t' } := by
  obtain ⟨m, ⟨o, es, ep, ho, r⟩, _⟩ := id I.loc
  obtain ⟨sl, hL⟩ := u.any ho I.free fun z => (hch _ z).2.1 rfl
  exact I.step (ch := ch) hch (fun b o hL hb hc e n => u.keep b o e n (fun z => (List.mem_cons.mp (I.stkSub b z)).elim hL hb) hc) (fun b o _ _ hc e n => u.any e n hc) (fun b o hc e n => u.free b o e n hc) (fun b o hc e => u.there b o e hc) u.tups u.frzs u.tbls (fun m' hm => by
    obtain ⟨o', es', ep', ho', r'⟩ := hm
    rw [ho] at ho'; cases ho'
    exact ⟨_, es', ep', hL, r'⟩) hok hg
/-- an untracked record of ours (an iterator) has turned -/
theorem Inv.turned {t' : Nat} {it : Addr} (I : Inv X pins σ H s) (k : ∀ b o, b ≠ it → s.heap.get? b = some o → h'.get? b = some o) (hn : H it = none) (hL : it ≠ X.env.locals)
    (h1 : it ∈ X.ex ∨ X.s₀.heap.objs.size ≤ it) (h2 : ∀ x c, X.env.cells.lookup x = some c → c ≠ it) (h3 : ∀ p ∈ X.pn ++ pins, p.1 ≠ it) : Inv X pins σ H { s with heap := h', toks := t' } := by
  have nit : ∀ b u, H b = some u → b ≠ it := fun b u e z => by rw [z, hn] at e; cases e
  refine I.step (g' := s.gens) (d' := s.drawn) (ch := [it]) (fun b hb => ?_) (fun b o _ _ hc e _ => k b o (fun z => hc (by simp [z])) e) (fun b o _ _ hc e _ => ⟨o.slots, k b o (fun z => hc (by simp [z])) e⟩) (fun _ _ _ _ n => n)
    (fun b o hc e => ⟨o, k b o (fun z => hc (by simp [z])) e⟩) (fun _ _ e => e) (fun _ _ _ e => e) (fun b ps e => ⟨#[], by rw [e]; simp⟩) (fun m hm => ?_) (fun b u e => ?_) I.bare
  · have e : b = it := by simpa using hb
    subst e
    exact ⟨h1, hL, h2, h3⟩
  · obtain ⟨o, es, ep, ho, r⟩ := hm
    exact ⟨o, es, ep, k _ o (Ne.symm hL) ho, r⟩
  · refine (I.hok b u e).stay (fun c v hc q => k c v ?_ q) (fun _ q => q) fun _ _ q => q
    rcases hc with z | z
    · rw [z]; exact nit b u e
    · exact nit c _ z
theorem Inv.tok (I : Inv X pins σ H s) (t : Nat) : Inv X pins σ H { s with toks := t } := I.un (h' := s.heap) (t' := t) Un.refl I.hok
/-- all objects kept -/
theorem Inv.kept {t' : Nat} (I : Inv X pins σ H s) (k : ∀ b u, s.heap.get? b = some u → h'.get? b = some u) : Inv X pins σ H { s with heap := h', toks := t' } := I.un (Un.kept k) (I.hok.kept k)
/-- a new object laid and tracked -/
theorem Inv.laid {a : Addr} {o : HO} {t' : Nat} (I : Inv X pins σ H s) (k : ∀ b u, s.heap.get? b = some u → h'.get? b = some u) (hp : s.heap.objs.size ≤ a) (new : ObjOk X.prog X.w (upd H a o) h' a o) :
    Inv X pins σ (upd H a o) { s with heap := h', toks := t' } := I.un (Un.laid k hp (I.hok.fresh hp)) (I.hok.laid k hp new)
/-- an object written -/
theorem Inv.write {x e : Addr} {o : HO} {t' : Nat} (I : Inv X pins σ H s) (mu : Mut (H x)) (he : e = x ∨ H e = some (.own x)) (k : ∀ b u, b ≠ e → s.heap.get? b = some u → h'.get? b = some u) (heo : ∃ u, h'.get? e = some u)
    (new : ObjOk X.prog X.w (upd H x o) h' x o) : Inv X pins σ (upd H x o) { s with heap := h', toks := t' } := I.un (Un.write mu he k heo) (I.hok.write mu he k heo new)
theorem Inv.pins_of {pins' : List (Addr × Obj)} (I : Inv X pins σ H s) (h : ∀ p ∈ pins', s.heap.get? p.1 = some p.2 ∧ H p.1 = none ∧ p.1 ≠ X.env.locals ∧ p.1 ∉ X.fs ∧ ∀ v, p.2.data ≠ .cell v) : Inv X pins' σ H s :=
  ⟨I.ok, I.os, I.bare, I.base, I.loc, I.cell, I.free, I.freeC, fun p hp => (List.mem_append.mp hp).elim (fun z => I.pin p (List.mem_append_left _ z)) (h p), I.hok, I.len⟩

theorem nodup_ix {N : List Str} (hN : N.Nodup) {i j : Nat} {x : Str} (a : N[i]? = some x) (b : N[j]? = some x) : i = j := by
  obtain ⟨h1, e1⟩ := List.getElem?_eq_some_iff.mp a
  obtain ⟨h2, e2⟩ := List.getElem?_eq_some_iff.mp b
  exact (List.getElem_inj hN).mp (e1.trans e2.symm)

/-- a name is stored; what changed -/
theorem store_ok2 {M : Model} {A : Around} {E : Value → Shared → Prop} {i : Nat} {x : Str} {v : V} {u : Value} {Q : Unit → Shared → Prop} (I : Inv X pins σ H s) (hN : X.N.Nodup) (hi : X.N[i]? = some x) (hx : Loc X.env.scope x) (r : RelV v u)
    (h : ∀ s', Inv X pins (σ.set i (some v)) H s' → (∃ a, Heap.SameBut a s.heap s'.heap ∧ (a = X.env.locals ∨ X.env.cells.lookup x = some a)) → Q () s') (hf : X.fn x = true ∨ X.env.scope.names.lookup x = some .local := by first | exact .inl rfl | exact .inr rfl | assumption) : wpAny M A (storeName X.env x u) Q E s := by
  obtain ⟨m, hn, hl⟩ := id I.loc
  have hcls : (X.env.scope.kind == .class || (X.env.scope.kind == .module && X.env.locals != X.env.globals)) = false := by rw [I.ok.kind]; rfl
  have hiσ : i < σ.length := by rw [I.len]; exact (List.getElem?_eq_some_iff.mp hi).1
  have cne := I.cne
  have tracked : ∀ {a : Addr} {h' : Heap}, (∃ o, s.heap.get? a = some o ∧ H a = none) → Heap.SameBut a s.heap h' → HOk X.prog X.w H h' := fun {a h'} ha hs b ob e => by
    obtain ⟨_, _, hfree⟩ := ha
    refine (I.hok b ob e).stay (fun c w' hc q => (hs.2 c ?_).trans q) (fun _ q => q) fun _ _ q => q
    rintro rfl
    rcases hc with rfl | hc
    · rw [hfree] at e; cases e
    · rw [hfree] at hc; cases hc
  rcases hx with hk | hk
  · refine wpAny_storeName_local hk hn (fun h' hn' hs => ?_) hcls
    obtain ⟨oL, _, _, hoL, _⟩ := id hn
    refine h _ ⟨I.ok, I.os, I.bare, ⟨fun b o e n hb hx => ?_, fun b o e n hb hx => ?_, I.base.free, fun b o e hx => ?_, I.base.tups, I.base.frzs, I.base.tbls⟩, ⟨_, hn', fun j y v' e1 e2 e3 => ?_⟩, fun y c e => ?_, I.free, I.freeC, fun p hp => ?_, tracked ⟨oL, hoL, I.free⟩ hs, by simpa using I.len⟩ ⟨_, hs, .inl rfl⟩
    · exact (hs.2 b (Nat.ne_of_lt (Nat.lt_of_lt_of_le (Heap.lt_size e) I.ok.above))).trans (I.base.keep b o e n hb hx)
    · obtain ⟨sl, e1⟩ := I.base.slot b o e n hb hx
      exact ⟨sl, (hs.2 b (Nat.ne_of_lt (Nat.lt_of_lt_of_le (Heap.lt_size e) I.ok.above))).trans e1⟩
    · obtain ⟨o', e1⟩ := I.base.there b o e hx
      exact ⟨o', (hs.2 b (Nat.ne_of_lt (Nat.lt_of_lt_of_le (Heap.lt_size e) I.ok.above))).trans e1⟩
    · by_cases hj : j = i
      · subst hj
        rw [hi] at e1; cases e1
        rw [List.getElem?_set_self hiσ] at e2
        cases e2
        exact ⟨u, r, .inl ⟨hk, by simp⟩⟩
      · rw [List.getElem?_set_ne (Ne.symm hj)] at e2
        obtain ⟨u', r', q⟩ := hl j y v' e1 e2 e3
        refine ⟨u', r', ?_⟩
        rcases q with ⟨k, e⟩ | ⟨k, c, e, z⟩
        · refine .inl ⟨k, ?_⟩
          have : y ≠ x := fun e => hj (nodup_ix hN e1 (e ▸ hi))
          simp [this, e]
        · exact .inr ⟨k, c, e, z.sameBut hs (cne y c e)⟩
    · obtain ⟨w', z⟩ := I.cell y c e
      exact ⟨w', z.sameBut hs (cne y c e)⟩
    · obtain ⟨e, n, ne, nf, d⟩ := I.pin p hp
      exact ⟨(hs.2 p.1 ne).trans e, n, ne, nf, d⟩
  · have hfn : X.fn x = true := by
      rcases hf with z | z
      · exact z
      · rw [z] at hk; cases hk
    obtain ⟨c, hc⟩ := I.ok.has x (.inl hk)
    obtain ⟨w', z⟩ := I.cell x c hc
    refine wpAny_storeName_cell I.ok.kind hk hc z (fun h' hc' hs => ?_)
    obtain ⟨oc, hoc, hocd⟩ := id z
    refine h { s with heap := h' } ⟨I.ok, I.os, I.bare, ⟨fun b o e n hb hx => ?_, fun b o e n hb hx => ?_, I.base.free, fun b o e hx => ?_, I.base.tups, I.base.frzs, I.base.tbls⟩, ⟨m, hn.sameBut hs (Ne.symm (cne x c hc)), fun j y v' e1 e2 e3 => ?_⟩, fun y c' e => ?_, I.free, I.freeC, fun p hp => ?_, tracked ⟨oc, hoc, I.freeC x c hc⟩ hs, by simpa using I.len⟩ ⟨c, hs, .inr hc⟩
    · exact (hs.2 b (Nat.ne_of_lt (Nat.lt_of_lt_of_le (Heap.lt_size e) (I.ok.cab x c hfn hc)))).trans (I.base.keep b o e n hb hx)
    · obtain ⟨sl, e1⟩ := I.base.slot b o e n hb hx
      exact ⟨sl, (hs.2 b (Nat.ne_of_lt (Nat.lt_of_lt_of_le (Heap.lt_size e) (I.ok.cab x c hfn hc)))).trans e1⟩
    · obtain ⟨o', e1⟩ := I.base.there b o e hx
      exact ⟨o', (hs.2 b (Nat.ne_of_lt (Nat.lt_of_lt_of_le (Heap.lt_size e) (I.ok.cab x c hfn hc)))).trans e1⟩
    · by_cases hj : j = i
      · subst hj
        rw [hi] at e1; cases e1
        rw [List.getElem?_set_self hiσ] at e2
        cases e2
        exact ⟨u, r, .inr ⟨.inl hk, c, hc, hc'⟩⟩
      · rw [List.getElem?_set_ne (Ne.symm hj)] at e2
        obtain ⟨u', r', q⟩ := hl j y v' e1 e2 e3
        refine ⟨u', r', ?_⟩
        rcases q with q | ⟨k, c', e, z'⟩
        · exact .inl q
        · refine .inr ⟨k, c', e, z'.sameBut hs ?_⟩
          rintro rfl
          exact hj (nodup_ix hN e1 (I.ok.inj _ _ _ e hc ▸ hi))
    · by_cases hcc : c' = c
      · subst hcc; exact ⟨_, hc'⟩
      · obtain ⟨w2, z2⟩ := I.cell y c' e
        exact ⟨w2, z2.sameBut hs hcc⟩
    · obtain ⟨e, n, ne, nf, d⟩ := I.pin p hp
      refine ⟨(hs.2 p.1 ?_).trans e, n, ne, nf, d⟩
      intro q
      rw [q, hoc] at e
      have q' : oc = p.2 := Option.some.inj e
      exact d w' (by rw [← q']; exact hocd)
theorem store_ok {M : Model} {A : Around} {E : Value → Shared → Prop} {i : Nat} {x : Str} {v : V} {u : Value} {Q : Unit → Shared → Prop} (I : Inv X pins σ H s) (hN : X.N.Nodup) (hi : X.N[i]? = some x) (hx : Loc X.env.scope x) (r : RelV v u)
    (h : ∀ s', Inv X pins (σ.set i (some v)) H s' → Q () s') (hf : X.fn x = true ∨ X.env.scope.names.lookup x = some .local := by first | exact .inl rfl | exact .inr rfl | assumption) : wpAny M A (storeName X.env x u) Q E s :=
  store_ok2 I hN hi hx r (fun s' I' _ => h s' I') hf
/-- behind a call or a block, the state as it is -/
theorem Inv.call' {s' : Shared} {ch : List Addr} (I : Inv X pins σ H s) (ho : s'.os = s.os) (u : Un (frs X.stack) ch H H' s.heap s'.heap) (hok : HOk X.prog X.w H' s'.heap) (hg : AllBare s'.gens)
    (hch : ∀ b ∈ ch, (b ∈ X.ex ∨ X.s₀.heap.objs.size ≤ b) ∧ b ≠ X.env.locals ∧ (∀ x c, X.env.cells.lookup x = some c → c ≠ b) ∧ ∀ p ∈ X.pn ++ pins, p.1 ≠ b) : Inv X pins σ H' s' := by
  obtain ⟨h', g', d', t', o'⟩ := s'
  have e : o' = s.os := ho
  subst e
  exact I.call (g' := g') (t' := t') (d' := d') u hok hg hch
end

/-! ### the judgements -/
/-- an exception: its class, its own dict's address (where it has one), the abstract heap behind it -/
abbrev XK := Value → Option Addr → Hp → Prop
abbrev St := List (Option V)
abbrev VK := V → Hp → Prop
/-- an expression's reading; a test's; an argument list's -/
abbrev TE := St → Hp → VK → Prop
abbrev TT := St → Hp → (Bool → Hp → Prop) → Prop
abbrev TA := St → Hp → (List V → Hp → Prop) → Prop
/-- what is wanted behind a statement -/
structure Ends where
  nx : St → Hp → Prop
  rt : VK
  bk : St → Hp → Prop := fun _ _ => False
  ct : St → Hp → Prop := fun _ _ => False
abbrev TS := Ends → St → Hp → Prop

def EP (X : Cx) (pins : List (Addr × Obj)) (σ : St) (Q : VK) (u : Value) (s' : Shared) : Prop := ∃ v H', Inv X pins σ H' s' ∧ RelV v u ∧ Q v H'
def TP (X : Cx) (pins : List (Addr × Obj)) (σ : St) (Q : Bool → Hp → Prop) (b : Bool) (s' : Shared) : Prop := ∃ H', Inv X pins σ H' s' ∧ Q b H'
def AP (X : Cx) (pins : List (Addr × Obj)) (σ : St) (Q : List V → Hp → Prop) (us : List Value) (s' : Shared) : Prop := ∃ vs H', Inv X pins σ H' s' ∧ Vals vs us ∧ Q vs H'
def SP (X : Cx) (pins : List (Addr × Obj)) (D : Ends) (f : Flow) (s' : Shared) : Prop :=
  match f with
  | .next => ∃ σ' H', Inv X pins σ' H' s' ∧ D.nx σ' H'
  | .brk => ∃ σ' H', Inv X pins σ' H' s' ∧ D.bk σ' H'
  | .cont => ∃ σ' H', Inv X pins σ' H' s' ∧ D.ct σ' H'
  | .ret u => ∃ v σ' H', Inv X pins σ' H' s' ∧ RelV v u ∧ D.rt v H'

def PE (X : Cx) (e : Expr) (t : TE) : Prop :=
  ∀ (pins : List (Addr × Obj)) (s : Shared) (σ : St) (H : Hp) (Q : VK), Inv X pins σ H s → t σ H Q → wpAny (model X.prog X.w) X.A (eval e X.env) (EP X pins σ Q) X.xe s
def PT (X : Cx) (e : Expr) (t : TT) : Prop :=
  ∀ (pins : List (Addr × Obj)) (s : Shared) (σ : St) (H : Hp) (Q : Bool → Hp → Prop), Inv X pins σ H s → t σ H Q → wpAny (model X.prog X.w) X.A (isTrue e X.env (eval e X.env)) (TP X pins σ Q) X.xe s
/-- a test whatever its 'whole' is (and, or) -/
def PW (X : Cx) (e : Expr) (t : TT) : Prop :=
  ∀ (whole : Sem Value) (pins : List (Addr × Obj)) (s : Shared) (σ : St) (H : Hp) (Q : Bool → Hp → Prop), Inv X pins σ H s → t σ H Q → wpAny (model X.prog X.w) X.A (isTrue e X.env whole) (TP X pins σ Q) X.xe s
theorem PW.pt {X : Cx} {e : Expr} {t : TT} (h : PW X e t) : PT X e t := h _
/-- an argument list (no star), from the left -/
def PA (X : Cx) (es : List Expr) (t : TA) : Prop :=
  ∀ (pos : Pos) (pins : List (Addr × Obj)) (s : Shared) (σ : St) (H : Hp) (Q : List V → Hp → Prop), Inv X pins σ H s → t σ H Q → wpAny (model X.prog X.w) X.A (spliced (backTo pos (starEach es X.env))) (AP X pins σ Q) X.xe s
def PS (X : Cx) (st : Stmt) (t : TS) : Prop :=
  ∀ (pins : List (Addr × Obj)) (s : Shared) (σ : St) (H : Hp) (D : Ends), Inv X pins σ H s → t D σ H → wpAny (model X.prog X.w) X.A (exec st X.env) (SP X pins D) X.xe s
def PSs (X : Cx) (st : List Stmt) (t : TS) : Prop :=
  ∀ (pins : List (Addr × Obj)) (s : Shared) (σ : St) (H : Hp) (D : Ends), Inv X pins σ H s → t D σ H → wpAny (model X.prog X.w) X.A (execs st X.env) (SP X pins D) X.xe s
/-- weaken the end -/
theorem thn {α : Type} {t : Sem α} {Q Q' : α → Shared → Prop} {M : Model} {A : Around} {E : Value → Shared → Prop} {s : Shared} (h : wpAny M A t Q E s) (hQ : ∀ a s, Q a s → Q' a s) : wpAny M A t Q' E s := wpAny_mono h hQ fun _ _ x => x
end L2

namespace L2
open PySem PySem.Spec PyProof.Rows
section
variable {X : Cx}


/-! ### names and constants -/
def tVar (i : Nat) : TE := fun σ H Q => ∃ v, σ[i]? = some (some v) ∧ Q v H
def tC (v : V) : TE := fun _ H Q => Q v H
theorem pe_var {i : Nat} {x : Str} {pos : Pos} (hN : X.N[i]? = some x) (hv : Vis X.env.scope x) (hd : (x == ("__debug__" : Str)) = false := by decide) (hcd : (x == ("__classdict__" : Str)) = false := by decide) : PE X (.Name x pos) (tVar i) := by
  intro pins s σ H Q I h
  obtain ⟨v, e, h⟩ := h
  obtain ⟨m, hn, hl⟩ := I.loc
  obtain ⟨u, r, l⟩ := hl i x v hN e hv
  have fin : EP X pins σ Q u s := ⟨v, H, I, r, h⟩
  rcases l with ⟨hk, hm⟩ | ⟨hk, c, hc, hcell⟩
  · exact wpAny_Name (wpAny_loadName_local I.ok.kind hk hn hm fin) hd
  · rcases hk with hk | hk
    · exact wpAny_Name (wpAny_loadName_cell I.ok.kind hk hc hcell fin) hd
    · exact wpAny_Name (wpAny_loadName_free I.ok.kind hk hc hcell fin hcd) hd
theorem pe_int {i j pos} : PE X (.Constant (.int i) j pos) (tC (.int i)) := fun _ _ _ H _ I h => wpAny_Constant_int ⟨.int i, H, I.tok _, ⟨_, rfl⟩, h⟩
theorem pe_bl {b j pos} : PE X (.Constant (.bool b) j pos) (tC (.bl b)) := fun _ _ _ H _ I h => Constant_bool ⟨.bl b, H, I, rfl, h⟩
theorem pe_non {j pos} : PE X (.Constant .none j pos) (tC .non) := fun _ _ _ H _ I h => Constant_none ⟨.non, H, I, rfl, h⟩
theorem pe_str {x j pos} : PE X (.Constant (.str x) j pos) (tC (.str x)) := fun _ _ _ H _ I h => Calls.Constant_str ⟨.str x, H, I.tok _, ⟨_, rfl⟩, h⟩

/-- a global name of the def -/
def Gl (X : Cx) (x : Str) : Prop := X.env.kindOf x = some .globalImplicit
theorem ld_glob {E : Value → Shared → Prop} {pins : List (Addr × Obj)} {s : Shared} {σ : St} {H : Hp} {x : Str} {u : Value} {pos : Pos} {Q : Value → Shared → Prop} (I : Inv X pins σ H s) (hg : Gl X x) (hm : X.mg x = some u) (h : Q u s)
    (hd : (x == ("__debug__" : Str)) = false := by decide) : wpAny (model X.prog X.w) X.A (eval (.Name x pos) X.env) Q E s :=
  Calls.Name_function_global I.ok.kind hg (Calls.loadGlobal_global (by rw [I.ok.glob]; exact I.mod.glob.keeps I.bk) hm h) hd
theorem ld_blt {E : Value → Shared → Prop} {pins : List (Addr × Obj)} {s : Shared} {σ : St} {H : Hp} {x : Str} {u : Value} {pos : Pos} {Q : Value → Shared → Prop} (I : Inv X pins σ H s) (hg : Gl X x) (hm : X.mg x = none) (hv : bootBuiltins x = some u) (h : Q u s)
    (hn : x ≠ "__name__" := by decide) (hd : (x == ("__debug__" : Str)) = false := by decide) : wpAny (model X.prog X.w) X.A (eval (.Name x pos) X.env) Q E s := by
  obtain ⟨mb, h1, h2⟩ := I.mod.blt
  exact Calls.Name_function_global I.ok.kind hg (Calls.loadGlobal_builtin (by rw [I.ok.glob]; exact I.mod.glob.keeps I.bk) hm (by rw [I.ok.blt]; exact h1.keeps I.bk) ((h2 x hn).trans hv) h) hd
/-- a module's constant, a class, a function, as a value -/
theorem pe_glob {x : Str} {v : V} {u : Value} {pos : Pos} (hg : Gl X x) (hm : X.mg x = some u) (r : RelV v u) (hd : (x == ("__debug__" : Str)) = false := by decide) : PE X (.Name x pos) (tC v) :=
  fun _ _ _ H _ I h => ld_glob I hg hm ⟨v, H, I, r, h⟩ hd
theorem pe_bltn {x : Str} {v : V} {u : Value} {pos : Pos} (hg : Gl X x) (hm : X.mg x = none) (hv : bootBuiltins x = some u) (r : RelV v u) (hn : x ≠ "__name__" := by decide) (hd : (x == ("__debug__" : Str)) = false := by decide) : PE X (.Name x pos) (tC v) :=
  fun _ _ _ H _ I h => ld_blt I hg hm hv ⟨v, H, I, r, h⟩ hn hd

/-! ### arithmetic -/
variable {a b : Expr} {ta tb : TE} {pos : Pos}

/-! ### comparisons -/
/-- a comparison as a value, as a test -/
def tB (t : TE) : TT := fun σ H Q => t σ H fun x H1 => ∃ c, x = .bl c ∧ Q c H1
/-- an expression whose value is a bool, as a test -/
theorem pt_val {e : Expr} {t : TE} (h : PE X e t) (he : ∀ whole, isTrue e X.env whole = (do let v ← whole; standAt e.pos; holding [v] (truthy v)) := by intro _; rfl) : PT X e (tB t) := by
  intro pins s σ H Q I hw
  refine isTrue_plain (thn (h pins s σ H _ I hw) fun v s1 ⟨x, H1, I1, r1, q1⟩ => ?_) (he _)
  obtain ⟨d, rfl, q⟩ := q1
  cases r1
  exact wpAny_truthy_bool ⟨H1, I1, q⟩

/-! ### and, or, not -/
variable {tA tB' : TT} {rest : List Expr}
def tAnd (t u : TT) : TT := fun σ H Q => t σ H fun c H1 => if c = true then u σ H1 Q else Q false H1
def tOr (t u : TT) : TT := fun σ H Q => t σ H fun c H1 => if c = true then Q true H1 else u σ H1 Q
def tNot (t : TT) : TT := fun σ H Q => t σ H fun c H1 => Q (!c) H1
theorem pw_and1 (ha : PT X a tA) : PW X (.BoolOp .And [a] pos) tA := by
  intro wh pins s σ H Q I h
  refine isTrue_and (thn (ha pins s σ H Q I h) fun c s1 e => ?_)
  cases c with
  | true => exact isTrue_and_nil e
  | false => exact e
theorem pw_or1 (ha : PT X a tA) : PW X (.BoolOp .Or [a] pos) tA := by
  intro wh pins s σ H Q I h
  refine isTrue_or (thn (ha pins s σ H Q I h) fun c s1 e => ?_)
  cases c with
  | false => exact isTrue_or_nil e
  | true => exact e
theorem pw_and (ha : PT X a tA) (hb : PW X (.BoolOp .And (b :: rest) pos) tB') : PW X (.BoolOp .And (a :: b :: rest) pos) (tAnd tA tB') := by
  intro wh pins s σ H Q I h
  refine isTrue_and (thn (ha pins s σ H _ I h) ?_)
  rintro c s1 ⟨H1, I1, q1⟩
  cases c with
  | true => exact hb wh pins s1 σ H1 Q I1 q1
  | false => exact ⟨H1, I1, q1⟩
theorem pw_or (ha : PT X a tA) (hb : PW X (.BoolOp .Or (b :: rest) pos) tB') : PW X (.BoolOp .Or (a :: b :: rest) pos) (tOr tA tB') := by
  intro wh pins s σ H Q I h
  refine isTrue_or (thn (ha pins s σ H _ I h) ?_)
  rintro c s1 ⟨H1, I1, q1⟩
  cases c with
  | true => exact ⟨H1, I1, q1⟩
  | false => exact hb wh pins s1 σ H1 Q I1 q1
theorem pt_not (ha : PT X a tA) : PT X (.UnaryOp .Not a pos) (tNot tA) := by
  intro pins s σ H Q I h
  exact isTrue_not (ha pins s σ H (fun c H1 => Q (!c) H1) I h)
/-- .. as values (bools) -/
def tAndV (ta tb : TE) : TE := fun σ H Q => ta σ H fun x H1 => ∃ c, x = .bl c ∧ if c = true then tb σ H1 Q else Q (.bl false) H1
def tOrV (ta tb : TE) : TE := fun σ H Q => ta σ H fun x H1 => ∃ c, x = .bl c ∧ if c = true then Q (.bl true) H1 else tb σ H1 Q
theorem pe_one {op} {t : TE} (h : PE X a t) : PE X (.BoolOp op [a] pos) t := fun pins s σ H Q I hw => BoolOp_one (h pins s σ H Q I hw)
theorem pe_and (ha : PE X a ta) (hb : PE X (.BoolOp .And (b :: rest) pos) tb) : PE X (.BoolOp .And (a :: b :: rest) pos) (tAndV ta tb) := by
  intro pins s σ H Q I h
  refine BoolOp_and (thn (ha pins s σ H _ I h) ?_)
  rintro v s1 ⟨x, H1, I1, r1, q1⟩
  obtain ⟨c, rfl, q1⟩ := q1
  cases r1
  refine wpAny_truthy_bool ?_
  cases c with
  | true => exact hb pins s1 σ H1 Q I1 q1
  | false => exact ⟨.bl false, H1, I1, rfl, q1⟩
theorem pe_or (ha : PE X a ta) (hb : PE X (.BoolOp .Or (b :: rest) pos) tb) : PE X (.BoolOp .Or (a :: b :: rest) pos) (tOrV ta tb) := by
  intro pins s σ H Q I h
  refine BoolOp_or (thn (ha pins s σ H _ I h) ?_)
  rintro v s1 ⟨x, H1, I1, r1, q1⟩
  obtain ⟨c, rfl, q1⟩ := q1
  cases r1
  refine wpAny_truthy_bool ?_
  cases c with
  | false => exact hb pins s1 σ H1 Q I1 q1
  | true => exact ⟨.bl true, H1, I1, rfl, q1⟩
/-- a if t else b -/
def tIf (t : TT) (ta tb : TE) : TE := fun σ H Q => t σ H fun c H1 => if c = true then ta σ H1 Q else tb σ H1 Q
theorem pe_ifExp {c : Expr} (hc : PT X c tA) (ha : PE X a ta) (hb : PE X b tb) : PE X (.IfExp c a b pos) (tIf tA ta tb) := by
  intro pins s σ H Q I h
  refine wpAny_IfExp (thn (hc pins s σ H _ I h) ?_)
  rintro d s1 ⟨H1, I1, q1⟩
  cases d with
  | true => exact ha pins s1 σ H1 Q I1 q1
  | false => exact hb pins s1 σ H1 Q I1 q1
end
end L2

namespace L2
open PySem PySem.Spec PyProof.Rows

/-! ### a list, a tuple that is read: tracked, frozen, or an object of the module -/
def SqL (K : PySem.W.Frag) (H : Hp) (a : Addr) (xs : List V) : Prop :=
  Rd H a (.lst xs) ∨
    ∃ (o : Obj) (its : Array Value) (n : Nat), K.lookup a = some o ∧ o.cls = .type "list" ∧ o.dict = none ∧ o.data = .seq its n ∧ its.size ≤ sizeLine ∧ Vals xs its.toList
def SqT (K : PySem.W.Frag) (H : Hp) (a : Addr) (xs : List V) : Prop :=
  Rd H a (.tup xs) ∨
    ∃ (o : Obj) (its : Array Value) (n : Nat), K.lookup a = some o ∧ o.cls = .type "tuple" ∧ o.data = .seq its n ∧ its.size ≤ sizeLine ∧ Vals xs its.toList
def absV : Value → Option V
  | .none => some .non
  | .bool b => some (.bl b)
  | .int i _ => some (.int i)
  | .str x _ => some (.str x)
  | .bytes b _ => some (.byt b)
  | .float b _ => some (.flt b)
  | .ref a => some (.ref a)
  | .type n => some (.ty n)
  | _ => none
theorem RelV.abs {x : V} {u : Value} (r : RelV x u) : absV u = some x := by
  cases x with
  | non => cases r; rfl
  | bl _ => cases r; rfl
  | int _ => obtain ⟨t, rfl⟩ := r; rfl
  | str _ => obtain ⟨t, rfl⟩ := r; rfl
  | byt _ => obtain ⟨t, rfl⟩ := r; rfl
  | flt _ => obtain ⟨t, rfl⟩ := r; rfl
  | ref _ => cases r; rfl
  | ty _ => cases r; rfl
theorem RelV.inj {x y : V} {u : Value} (r : RelV x u) (q : RelV y u) : x = y := Option.some.inj (r.abs.symm.trans q.abs)
theorem Vals.inj : ∀ {xs ys : List V} {us : List Value}, Vals xs us → Vals ys us → xs = ys
  | _, _, _, .nil, .nil => rfl
  | _, _, _, .cons r t, .cons r' t' => by rw [r.inj r', Vals.inj t t']
section
variable {X : Cx} {pins : List (Addr × Obj)} {σ : St} {H : Hp} {s : Shared} {a : Addr} {xs ys : List V}
theorem SqL.of {K : PySem.W.Frag} (h : H a = some (.lst xs)) : SqL K H a xs := .inl (.inl h)
theorem SqT.of {K : PySem.W.Frag} (h : H a = some (.tup xs)) : SqT K H a xs := .inl (.inl h)
theorem Inv.list (I : Inv X pins σ H s) (h : SqL X.K H a xs) : ∃ its : List Value, Vals xs its ∧ PlainL s.heap a its.toArray ∧ xs.length ≤ sizeLine := by
  rcases h with h | ⟨o, its, n, hk, hc, hd, hs, hz, r⟩
  · obtain ⟨z, its, n, r, e⟩ := h.ok I.hok
    exact ⟨its, r, ⟨_, n, e, rfl, rfl, rfl⟩, z⟩
  · refine ⟨its.toList, r, ⟨o, n, I.kIn a o hk, hc, hd, by simpa using hs⟩, ?_⟩
    have e := r.length
    simp only [Array.length_toList] at e
    omega
theorem Inv.tuple (I : Inv X pins σ H s) (h : SqT X.K H a xs) : ∃ its : List Value, Vals xs its ∧ IsTup s.heap a its.toArray ∧ xs.length ≤ sizeLine := by
  rcases h with h | ⟨o, its, n, hk, hc, hs, hz, r⟩
  · obtain ⟨z, its, r, p⟩ := h.ok I.hok
    exact ⟨its, r, p, z⟩
  · refine ⟨its.toList, r, ⟨o, I.kIn a o hk, hc, n, by simpa using hs⟩, ?_⟩
    have e := r.length
    simp only [Array.length_toList] at e
    omega
theorem Inv.list_inj (I : Inv X pins σ H s) (h : SqL X.K H a xs) (h' : SqL X.K H a ys) : xs = ys := by
  obtain ⟨its, r, ⟨o, n, e, _, _, d⟩, _⟩ := I.list h
  obtain ⟨its', r', ⟨o', n', e', _, _, d'⟩, _⟩ := I.list h'
  rw [e] at e'; cases e'
  rw [d] at d'
  injection d' with d1 _
  have : its = its' := by simpa using congrArg Array.toList d1
  subst this
  exact r.inj r'
end

/-! ### another wish about exceptions -/
abbrev Cx.wish (X : Cx) (E : Value → Shared → Prop) : Cx := { X with xe := E }
/-- no exception leaves -/
abbrev Cx.nox (X : Cx) : Cx := X.wish fun _ _ => False
theorem Cx.Ok.wish {X : Cx} (ok : X.Ok) (E : Value → Shared → Prop) : (X.wish E).Ok :=
  ⟨ok.mod, ok.kind, ok.glob, ok.blt, ok.above, ok.inj, ok.has, ok.cab, ok.hd, ok.frames, ok.stk, ok.exf, ok.bs, ok.bsz, ok.noex, ok.exfs, ok.funs, ok.frf⟩
theorem Cx.Ok.unwish {X : Cx} {E : Value → Shared → Prop} (ok : (X.wish E).Ok) : X.Ok :=
  ⟨ok.mod, ok.kind, ok.glob, ok.blt, ok.above, ok.inj, ok.has, ok.cab, ok.hd, ok.frames, ok.stk, ok.exf, ok.bs, ok.bsz, ok.noex, ok.exfs, ok.funs, ok.frf⟩
section
variable {X : Cx} {pins : List (Addr × Obj)} {σ : St} {H : Hp} {s : Shared} {E : Value → Shared → Prop}
theorem Inv.wish (I : Inv X pins σ H s) (E : Value → Shared → Prop) : Inv (X.wish E) pins σ H s := ⟨I.ok.wish E, I.os, I.bare, I.base, I.loc, I.cell, I.free, I.freeC, I.pin, I.hok, I.len⟩
theorem Inv.unwish (I : Inv (X.wish E) pins σ H s) : Inv X pins σ H s := ⟨I.ok.unwish, I.os, I.bare, I.base, I.loc, I.cell, I.free, I.freeC, I.pin, I.hok, I.len⟩
theorem SP.unwish {D : Ends} {f : Flow} {s' : Shared} (h : SP (X.wish E) pins D f s') : SP X pins D f s' := by
  cases f with
  | next => obtain ⟨σ', H', I, q⟩ := h; exact ⟨σ', H', I.unwish, q⟩
  | brk => obtain ⟨σ', H', I, q⟩ := h; exact ⟨σ', H', I.unwish, q⟩
  | cont => obtain ⟨σ', H', I, q⟩ := h; exact ⟨σ', H', I.unwish, q⟩
  | ret u => obtain ⟨v, σ', H', I, r, q⟩ := h; exact ⟨v, σ', H', I.unwish, r, q⟩
theorem PSs.nox {st : List Stmt} {t : TS} (h : PSs X.nox st t) : PSs X st t := fun pins s σ H D I hw =>
  wpAny_mono (h pins s σ H D (I.wish _) hw) (fun _ _ q => q.unwish) fun _ _ z => False.elim z
end

/-! ### blocks and small statements -/
section
variable {X : Cx} {st : Stmt} {rest : List Stmt} {t u : TS} {e : Expr} {te : TE} {pos : Pos}
def tNext : TS := fun D σ H => D.nx σ H
def tSeq (t u : TS) : TS := fun D σ H => t { D with nx := u D } σ H
theorem pss_nil : PSs X [] tNext := fun _ _ σ H _ I h => wpAny_execs_nil ⟨σ, H, I, h⟩
theorem pss_cons (h1 : PS X st t) (h2 : PSs X rest u) : PSs X (st :: rest) (tSeq t u) := by
  intro pins s σ H D I h
  refine wpAny_execs_cons (thn (h1 pins s σ H { D with nx := u D } I h) fun f s1 q => ?_)
  cases f with
  | next =>
    obtain ⟨σ', H', I', q⟩ := q
    exact h2 pins s1 σ' H' D I' q
  | ret v => exact q
  | brk => exact q
  | cont => exact q
theorem pss_one (h1 : PS X st t) : PSs X [st] t := by
  intro pins s σ H D I h
  refine wpAny_execs_cons (thn (h1 pins s σ H D I h) fun f s1 q => ?_)
  cases f with
  | next => exact wpAny_execs_nil q
  | ret v => exact q
  | brk => exact q
  | cont => exact q
/-- in a def's body nothing is shown -/
theorem Inv.quiet {pins : List (Addr × Obj)} {σ : St} {H : Hp} {s : Shared} (I : Inv X pins σ H s) : interactive X.env = false := by simp [interactive, I.ok.kind]
/-- an expression whose value is dropped -/
def tDrop (te : TE) : TS := fun D σ H => te σ H fun _ H1 => D.nx σ H1
theorem ps_expr (he : PE X e te) (hs : swapsWith e none pos.line X.env = pure false := by rfl) : PS X (.Expr e pos) (tDrop te) := by
  intro pins s σ H D I h
  exact wpAny_Expr_any (thn (he pins s σ H _ I h) fun v s1 ⟨x, H1, I1, r1, q1⟩ => ⟨σ, H1, I1, q1⟩) I.quiet hs
def tRet (te : TE) : TS := fun D σ H => te σ H D.rt
theorem ps_ret (he : PE X e te) : PS X (.Return (some e) pos) (tRet te) := by
  intro pins s σ H D I h
  exact wpAny_Return_some (thn (he pins s σ H _ I h) fun v s1 ⟨x, H1, I1, r1, q1⟩ => ⟨x, σ, H1, I1, r1, q1⟩)
def tIfS (c : TT) (t u : TS) : TS := fun D σ H => c σ H fun b H1 => if b = true then t D σ H1 else u D σ H1
theorem ps_if {c : Expr} {a b : List Stmt} {tc : TT} (hc : PT X c tc) (ha : PSs X a t) (hb : PSs X b u) : PS X (.If c a b pos) (tIfS tc t u) := by
  intro pins s σ H D I h
  refine wpAny_If (thn (hc pins s σ H _ I h) ?_)
  rintro d s1 ⟨H1, I1, q1⟩
  cases d with
  | true => exact ha pins s1 σ H1 D I1 q1
  | false => exact hb pins s1 σ H1 D I1 q1
end

/-! ### targets -/
abbrev TG := V → St → Hp → (St → Hp → Prop) → Prop
abbrev TGs := List V → St → Hp → (St → Hp → Prop) → Prop
def PG (X : Cx) (target : Expr) (t : TG) : Prop :=
  ∀ (pins : List (Addr × Obj)) (s : Shared) (σ : St) (H : Hp) (v : V) (u : Value) (Q : St → Hp → Prop), Inv X pins σ H s → RelV v u → t v σ H Q →
    wpAny (model X.prog X.w) X.A (assign target X.env u) (fun _ s' => ∃ σ' H', Inv X pins σ' H' s' ∧ Q σ' H') X.xe s
/-- several targets, one after another -/
def PGs (X : Cx) (ts : List Expr) (t : TGs) : Prop :=
  ∀ (pins : List (Addr × Obj)) (s : Shared) (σ : St) (H : Hp) (vs : List V) (us : List Value) (Q : St → Hp → Prop), Inv X pins σ H s → Vals vs us → t vs σ H Q →
    wpAny (model X.prog X.w) X.A (assignInOrder ((assignEach ts X.env).map (·.2)) us) (fun _ s' => ∃ σ' H', Inv X pins σ' H' s' ∧ Q σ' H') X.xe s
section
variable {X : Cx} {pos : Pos}
def gName (i : Nat) : TG := fun v σ H Q => Q (σ.set i (some v)) H
theorem pg_name {i : Nat} {x : Str} (hN : X.N.Nodup) (hi : X.N[i]? = some x) (hx : Loc X.env.scope x) (hf : X.fn x = true ∨ X.env.scope.names.lookup x = some .local := by first | exact .inl rfl | exact .inr rfl | assumption) : PG X (.Name x pos) (gName i) := by
  intro pins s σ H v u Q I r h
  exact wpAny_assign_Name (store_ok I hN hi hx r (fun s' I' => ⟨_, H, I', h⟩) hf)
def gNil : TGs := fun vs σ H Q => vs = [] ∧ Q σ H
def gCons (t : TG) (u : TGs) : TGs := fun vs σ H Q => ∃ v r, vs = v :: r ∧ t v σ H fun σ' H' => u r σ' H' Q
theorem pgs_nil : PGs X [] gNil := by
  intro pins s σ H vs us Q I r h
  obtain ⟨e, h⟩ := h
  subst e
  cases r
  exact assignInOrder_nil ⟨σ, H, I, h⟩
theorem pgs_cons {e : Expr} {es : List Expr} {t : TG} {u : TGs} (h1 : PG X e t) (h2 : PGs X es u)
    (hs : (assignEach (e :: es) X.env).map (·.2) = assign e X.env :: (assignEach es X.env).map (·.2) := by rfl) : PGs X (e :: es) (gCons t u) := by
  intro pins s σ H vs us Q I r h
  obtain ⟨v, vr, e1, h⟩ := h
  subst e1
  cases r with
  | cons r rr =>
    rw [hs]
    refine assignInOrder_cons (thn (h1 pins s σ H _ _ _ I r h) ?_)
    rintro _ s1 ⟨σ1, H1, I1, q1⟩
    exact h2 pins s1 σ1 H1 _ _ Q I1 rr q1
/-- (a, b, ..) = a tuple of that length -/
def gTup (K : PySem.W.Frag) (n : Nat) (t : TGs) : TG := fun v σ H Q => ∃ a xs, v = .ref a ∧ SqT K H a xs ∧ xs.length = n ∧ t xs σ H Q
theorem pg_tup {es : List Expr} {k : Nat} {t : TGs} {n : Nat} (hc : X.calm = true) (h : PGs X es t)
    (hn : (assignEach es X.env).length = n := by rfl) (hst : (assignEach es X.env).findIdx? (·.1) = none := by rfl) : PG X (.Tuple es k pos) (gTup X.K n t) := by
  intro pins s σ H v u Q I r hw
  obtain ⟨a, xs, e1, hq, hl, hw⟩ := hw
  subst e1
  cases r
  obtain ⟨its, rv, ht, hz⟩ := I.tuple hq
  refine assign_Tuple_tuple (I.ok.hd hc) ht (by simp [hn, ← hl, rv.length]) hst fun h' hx => ?_
  have I1 : Inv X pins σ H { s with heap := h' } := I.kept (t' := s.toks) fun b o e => hx b o (Nat.ne_of_lt (Heap.lt_size e)) e
  exact h pins _ σ H xs _ Q I1 (by simpa using rv) hw
/-- target = value -/
def tAsg (te : TE) (g : TG) : TS := fun D σ H => te σ H fun x H1 => g x σ H1 D.nx
/-- name = value -/
theorem ps_set {i : Nat} {x : Str} {e : Expr} {te : TE} {pos' : Pos} (hN : X.N.Nodup) (hi : X.N[i]? = some x) (hx : Loc X.env.scope x) (he : PE X e te) (hs : swapsWith e (some (.Name x pos')) pos.line X.env = pure false := by rfl) (hf : X.fn x = true ∨ X.env.scope.names.lookup x = some .local := by first | exact .inl rfl | exact .inr rfl | assumption) :
    PS X (.Assign [.Name x pos'] e pos) (tAsg te (gName i)) := by
  intro pins s σ H D I h
  refine wpAny_Assign_Name (thn (he pins s σ H _ I h) fun v s1 ⟨y, H1, I1, r1, q1⟩ => ?_) hs
  exact store_ok I1 hN hi hx r1 (fun s2 I2 => ⟨_, H1, I2, q1⟩) hf
end

/-! ### while -/
section
variable {X : Cx} {pos : Pos}
end

/-! ### what a loop or a comprehension walks -/
/-- at turn i: it yields x (the heap may grow), or it stops -/
structure It where
  go : Nat → Hp → Prop
  yld : Nat → Hp → V → Hp → Prop
  stop : Nat → Hp → Prop
/-- the iterator's own objects may turn: they are not the frame's, not pinned, younger than the entry (or a comprehension's own) -/
def FpOk (X : Cx) (pins : List (Addr × Obj)) (H : Hp) (b : Addr) : Prop :=
  H b = none ∧ b ≠ X.env.locals ∧ b ∉ X.fs ∧ (b ∈ X.ex ∨ X.s₀.heap.objs.size ≤ b) ∧ (∀ x c, X.env.cells.lookup x = some c → c ≠ b) ∧ ∀ p ∈ X.pn ++ pins, p.1 ≠ b
theorem Inv.fpOk {X : Cx} {pins : List (Addr × Obj)} {σ : St} {H H' : Hp} {s : Shared} {b : Addr} (I : Inv X pins σ H s) (hb : s.heap.objs.size ≤ b) (hn : H' b = none) : FpOk X pins H' b := by
  refine ⟨hn, Nat.ne_of_gt (Nat.lt_of_lt_of_le I.lt hb), I.nofs hb, .inr (Nat.le_trans I.sz hb), fun x c e z => ?_, fun p hp z => ?_⟩
  · obtain ⟨v, q⟩ := I.cell x c e
    exact absurd (Nat.lt_of_lt_of_le q.lt (by rw [z]; exact hb)) (Nat.lt_irrefl _)
  · exact absurd (Nat.lt_of_lt_of_le (Heap.lt_size (I.pin p hp).1) (by rw [z]; exact hb)) (Nat.lt_irrefl _)
structure Turn (P : Program) (w : World) (K : PySem.W.Frag) (tg : Expr) (J : It) (fp : List Addr) (it : Addr) (tn : Nat → Heap → Prop) : Prop where
  mem : it ∈ fp
  obj : ∀ i h, tn i h → ∀ b ∈ fp, ∃ o, h.get? b = some o ∧ ∀ v, o.data ≠ .cell v
  keep : ∀ i h h', tn i h → (∀ b ∈ fp, ∀ o, h.get? b = some o → h'.get? b = some o) → tn i h'
  item : ∀ (X : Cx), X.prog = P → X.w = w → X.K = K → X.calm = true → ∀ (i : Nat) (pins : List (Addr × Obj)) (s : Shared) (σ : St) (H : Hp) (E : Value → Shared → Prop), Inv X pins σ H s → (∀ b ∈ fp, FpOk X pins H b) → tn i s.heap → J.go i H →
    wpAny (model P w) X.A (pyNext (.ref it)) (fun r s1 => ∃ u, r = some u ∧
      wpAny (model P w) X.A (letOwnedTupleGo tg (.ref it) u) (fun _ s2 => ∃ x H', Inv X pins σ H' s2 ∧ RelV x u ∧ J.yld i H x H' ∧ tn (i + 1) s2.heap ∧ ∀ b ∈ fp, H' b = none) E s1) E s
  done : ∀ (X : Cx), X.prog = P → X.w = w → X.K = K → X.calm = true → ∀ (i : Nat) (pins : List (Addr × Obj)) (s : Shared) (σ : St) (H : Hp) (E : Value → Shared → Prop), Inv X pins σ H s → (∀ b ∈ fp, FpOk X pins H b) → tn i s.heap → J.stop i H →
    wpAny (model P w) X.A (pyNext (.ref it)) (fun r s1 => r = none ∧ Inv X pins σ H s1) E s
  self : ∀ (A : Around) (i : Nat) (s : Shared) (Q : Value → Shared → Prop) (E : Value → Shared → Prop), tn i s.heap → Q (.ref it) s → wpAny (model P w) A (pyIter (.ref it)) Q E s
abbrev TI := St → Hp → (It → Hp → Prop) → Prop
/-- an iterator has come -/
def PIE (X : Cx) (pins : List (Addr × Obj)) (σ : St) (tg : Expr) (R : It → Hp → Prop) (itv : Value) (s2 : Shared) : Prop :=
  ∃ (it : Addr) (fp : List Addr) (tn : Nat → Heap → Prop) (J : It) (H' : Hp), itv = .ref it ∧ Inv X pins σ H' s2 ∧ Turn X.prog X.w X.K tg J fp it tn ∧ tn 0 s2.heap ∧ (∀ b ∈ fp, FpOk X pins H' b) ∧ R J H'
def PI (X : Cx) (tg iter : Expr) (wi : TI) : Prop :=
  ∀ (pins : List (Addr × Obj)) (s : Shared) (σ : St) (H : Hp) (R : It → Hp → Prop), Inv X pins σ H s → wi σ H R →
    wpAny (model X.prog X.w) X.A (eval iter X.env) (fun v s1 => wpAny (model X.prog X.w) X.A (pyIter v) (PIE X pins σ tg R) X.xe s1) X.xe s

/-- the step ahead of the store is nothing for an iterator that keeps no tuple -/
theorem go_of {M : Model} {A : Around} {E : Value → Shared → Prop} {s : Shared} {tg : Expr} {it : Addr} {u : Value} {o : Obj} {n : String} {vs : Array Value} {Q : Unit → Shared → Prop} (ho : s.heap.get? it = some o) (hc : o.cls = .type n) (hd : o.data = .fields vs)
    (hn : ["enumerate", "zip", "dict_itemiterator", "dict_reverseitemiterator", "odict_iterator", "itertools.zip_longest", "itertools.pairwise"].contains n = false) (hQ : Q () s) : wpAny M A (letOwnedTupleGo tg (.ref it) u) Q E s := by
  unfold letOwnedTupleGo
  cases tg <;> first
    | exact wpAny_pure hQ
    | (cases u <;> first
        | exact wpAny_pure hQ
        | (refine wpAny_bind (wpAny_load ho ?_)
           rw [hc, hd]
           show wpAny M A (if (["enumerate", "zip", "dict_itemiterator", "dict_reverseitemiterator", "odict_iterator", "itertools.zip_longest", "itertools.pairwise"].contains n && vs[0]? == some (rawInt _)) = true then _ else _) Q E s
           rw [if_neg (by intro h; rw [hn, Bool.false_and] at h; cases h)]
           exact wpAny_pure hQ))

/-- the list at a, as it stands at each turn (a loop may append to it) -/
def Itl (K : PySem.W.Frag) (a : Addr) : It :=
  ⟨fun i H => ∃ xs x, SqL K H a xs ∧ xs[i]? = some x, fun i H x H' => H' = H ∧ ∀ xs, SqL K H a xs → xs[i]? = some x, fun i H => ∃ xs, SqL K H a xs ∧ xs.length ≤ i⟩
theorem turn_list {P : Program} {w : World} {K : PySem.W.Frag} {tg : Expr} (a it : Addr) : Turn P w K tg (Itl K a) [it] it (fun i h => h.IsListIter it a i) where
  mem := by simp
  obj := fun i h st b hb => by
    have e : b = it := by simpa using hb
    subst e
    obtain ⟨o, e, c, d⟩ := st
    exact ⟨o, e, fun v z => by rw [d] at z; cases z⟩
  keep := fun i h h' st k => st.at fun o e => k it (by simp) o e
  item := by
    intro X hP hw hK hc i pins s σ H E I hf st hg
    subst hP hw hK
    obtain ⟨xs, x, hq, hx⟩ := hg
    obtain ⟨its, rv, p, hz⟩ := I.list hq
    obtain ⟨u, hu, ru⟩ := rv.get hx
    obtain ⟨f0, f1, f2, f3, f4, f5⟩ := hf it (by simp)
    refine wpAny_pyNext_list_item st p.isList (x := u) (by simpa using hu) fun h' st' sb => ?_
    have I1 : Inv X pins σ H { s with heap := h' } := I.turned (t' := s.toks) (fun b o hb e => (sb.2 b hb).trans e) f0 f1 f3 f4 f5
    obtain ⟨o, e, c, d⟩ := id st'
    exact ⟨u, rfl, go_of (s := { s with heap := h' }) e c d (by decide) ⟨x, H, I1, ru, ⟨rfl, fun ys hy => by rw [I.list_inj hy hq]; exact hx⟩, st', fun b hb => (hf b hb).1⟩⟩
  done := by
    intro X hP hw hK hc i pins s σ H E I hf st hg
    subst hP hw hK
    obtain ⟨xs, hq, hx⟩ := hg
    obtain ⟨its, rv, p, hz⟩ := I.list hq
    obtain ⟨f0, f1, f2, f3, f4, f5⟩ := hf it (by simp)
    have hl := rv.length
    exact wpAny_pyNext_list_end (I.ok.hd hc) st p.isList (by simp; omega) fun h' eb => ⟨rfl, I.turned (t' := s.toks) (fun b o hb e => eb b o hb e) f0 f1 f3 f4 f5⟩
  self := fun _ _ _ _ _ st h => wpAny_pyIter_listiter st h
end L2

namespace L2
open PySem PySem.Spec PyProof.Rows
section
variable {X : Cx} {tg : Expr}
def iList (K : PySem.W.Frag) (tl : TE) : TI := fun σ H R => tl σ H fun x H1 => ∃ a, x = .ref a ∧ (∃ xs, SqL K H1 a xs) ∧ R (Itl K a) H1
theorem pi_list {l : Expr} {tl : TE} (hl : PE X l tl) : PI X tg l (iList X.K tl) := by
  intro pins s σ H R I h
  refine thn (hl pins s σ H _ I h) ?_
  rintro v s1 ⟨x, H1, I1, r1, q1⟩
  obtain ⟨a, e, ⟨xs, hq⟩, q⟩ := q1
  subst e
  cases r1
  obtain ⟨its, rv, p, hz⟩ := I1.list hq
  refine wpAny_pyIter_list p.isList ?_
  refine ⟨s1.heap.objs.size, [s1.heap.objs.size], _, _, H1, rfl, I1.kept (t' := s1.toks) fun b o e => Heap.get?_push_of_some _ e, turn_list a _, ⟨_, Heap.get?_push_size _ rfl, rfl, rfl⟩, fun b hb => ?_, q⟩
  have e : b = s1.heap.objs.size := by simpa using hb
  subst e
  exact I1.fpOk (Nat.le_refl _) (I1.hok.fresh (Nat.le_refl _))

/-! ### for -/
/-- W: the invariant by the turn and a measure; N: what the body is to reach -/
def tFor (wi : TI) (g : TG) (tb : TS) : TS := fun D σ H => wi σ H fun J H1 => ∃ W : Nat → Nat → St → Hp → Prop, (∃ m, W 0 m σ H1) ∧ ∀ i m σ H, W i m σ H →
  (J.stop i H ∧ D.nx σ H) ∨ (J.go i H ∧ ∃ N : St → Hp → Prop, (∀ σ' H', N σ' H' → ∃ m', m' < m ∧ W (i + 1) m' σ' H') ∧ ∀ x H', J.yld i H x H' → g x σ H' fun σ2 H2 => tb { D with nx := N, ct := N, bk := D.nx } σ2 H2)
/-- the records at fp as they stand -/
def pinsAt (fp : List Addr) (h : Heap) : List (Addr × Obj) := fp.filterMap fun b => (h.get? b).map fun o => (b, o)
theorem mem_pinsAt {fp : List Addr} {h : Heap} {b : Addr} {o : Obj} (hb : b ∈ fp) (e : h.get? b = some o) : (b, o) ∈ pinsAt fp h := List.mem_filterMap.mpr ⟨b, hb, by rw [e]; rfl⟩
theorem of_pinsAt {fp : List Addr} {h : Heap} {p : Addr × Obj} (hp : p ∈ pinsAt fp h) : p.1 ∈ fp ∧ h.get? p.1 = some p.2 := by
  obtain ⟨b, hb, e⟩ := List.mem_filterMap.mp hp
  cases q : h.get? b with
  | none => rw [q] at e; cases e
  | some o =>
    rw [q] at e
    have e' : (b, o) = p := Option.some.inj e
    subst e'
    exact ⟨hb, q⟩
theorem Inv.pinned {pins : List (Addr × Obj)} {σ : St} {H : Hp} {s : Shared} {fp : List Addr} (I : Inv X pins σ H s) (hf : ∀ b ∈ fp, FpOk X pins H b) (ho : ∀ b ∈ fp, ∃ o, s.heap.get? b = some o ∧ ∀ v, o.data ≠ .cell v) : Inv X (pins ++ pinsAt fp s.heap) σ H s :=
  I.pins_of fun p hp => (List.mem_append.mp hp).elim (fun z => I.pin p (List.mem_append_right _ z)) fun z => by
    obtain ⟨hb, e⟩ := of_pinsAt z
    obtain ⟨f0, f1, f2, _⟩ := hf p.1 hb
    obtain ⟨o, e', d⟩ := ho p.1 hb
    rw [e] at e'; cases e'
    exact ⟨e, f0, f1, f2, d⟩
theorem Inv.unpinned {pins pl : List (Addr × Obj)} {σ : St} {H : Hp} {s : Shared} (I : Inv X (pins ++ pl) σ H s) : Inv X pins σ H s := I.pins_of fun p hp => I.pin p (List.mem_append_right _ (List.mem_append_left _ hp))
theorem ps_for {iter : Expr} {body : List Stmt} {wi : TI} {g : TG} {tb : TS} {pos : Pos} (hp : PassesOwn (model X.prog X.w) X.A X.env X.xe) (hc : X.calm = true) (hi : PI X tg iter wi) (hg : PG X tg g) (hb : PSs X body tb)
    (hs : ∀ x, foldedSetIterable iter X.env x = pure x := by intro _; rfl) : PS X (.For tg iter body [] pos) (tFor wi g tb) := by
  intro pins s σ H D I h
  refine wpAny_For (thn (hi pins s σ H _ I h) fun v s1 h1 => thn h1 fun itv s2 h2 => ?_) hs
  obtain ⟨it, fp, tn, J, H2, e, I2, T, st2, f2, W, ⟨m0, w0⟩, turn⟩ := h2
  subst e
  -- what stays true of the iterator's objects through the loop
  have stat : ∀ {H' : Hp}, (∀ b ∈ fp, H' b = none) → ∀ b ∈ fp, FpOk X pins H' b := fun hn b hb => ⟨hn b hb, (f2 b hb).2⟩
  refine codeAny_forLoop_any (fun n s' => ∃ i σ' H', Inv X pins σ' H' s' ∧ tn i s'.heap ∧ (∀ b ∈ fp, H' b = none) ∧ W i n σ' H') ?_ m0 ⟨0, σ, H2, I2, st2, fun b hb => (f2 b hb).1, w0⟩
  rintro n s3 ⟨i, σ3, H3, I3, st3, fr3, w3⟩
  rcases turn i n σ3 H3 w3 with ⟨stop, qn⟩ | ⟨go, N, hN, step⟩
  · refine wpAny_passesOwn hp (thn (T.done X rfl rfl rfl hc i pins s3 σ3 H3 X.xe I3 (stat fr3) st3 stop) ?_)
    rintro r s4 ⟨hr, I4⟩
    subst hr
    exact wpAny_execs_nil ⟨σ3, H3, I4, qn⟩
  · refine wpAny_passesOwn hp (thn (T.item X rfl rfl rfl hc i pins s3 σ3 H3 X.xe I3 (stat fr3) st3 go) ?_)
    rintro r s4 ⟨u, hr, h4⟩
    subst hr
    refine wpAny_passesOwn hp (thn h4 ?_)
    rintro _ s5 ⟨x, H5, I5, r5, y5, st5, fr5⟩
    have I5' := I5.pinned (stat fr5) (T.obj _ _ st5)
    refine wpAny_passesOwn hp (thn (hg _ s5 σ3 H5 x u _ I5' r5 (step x H5 y5)) ?_)
    rintro _ s6 ⟨σ6, H6, I6, q6⟩
    refine wpAny_passesOwn hp (thn (hb _ s6 σ6 H6 _ I6 q6) fun f s7 q7 => ?_)
    have again : ∀ {σ7 : St} {H7 : Hp}, Inv X (pins ++ pinsAt fp s5.heap) σ7 H7 s7 → N σ7 H7 → ∃ m, m < n ∧ ∃ i σ' H', Inv X pins σ' H' s7 ∧ tn i s7.heap ∧ (∀ b ∈ fp, H' b = none) ∧ W i m σ' H' := fun {σ7 H7} I7 n7 => by
      obtain ⟨m', hm, w7⟩ := hN σ7 H7 n7
      refine ⟨m', hm, i + 1, σ7, H7, I7.unpinned, T.keep _ _ _ st5 fun b hb o e => (I7.pin (b, o) (List.mem_append_right _ (List.mem_append_right _ (mem_pinsAt hb e)))).1, fun b hb => ?_, w7⟩
      obtain ⟨o, e, d⟩ := T.obj _ _ st5 b hb
      exact (I7.pin (b, o) (List.mem_append_right _ (List.mem_append_right _ (mem_pinsAt hb e)))).2.1
    cases f with
    | next => obtain ⟨σ7, H7, I7, n7⟩ := q7; exact again I7 n7
    | cont => obtain ⟨σ7, H7, I7, n7⟩ := q7; exact again I7 n7
    | brk => obtain ⟨σ7, H7, I7, q7⟩ := q7; exact ⟨σ7, H7, I7.unpinned, q7⟩
    | ret v => obtain ⟨x7, σ7, H7, I7, r7, q7⟩ := q7; exact ⟨x7, σ7, H7, I7.unpinned, r7, q7⟩
end

/-! ### the forms one uses -/
/-- over a list that the body leaves as it is -/
theorem for_list {K : PySem.W.Frag} {a : Addr} {xs : List V} {g : TG} {tb : TS} {D : Ends} {σ : St} {H : Hp} (Pv : Nat → St → Hp → Prop) (h0 : Pv 0 σ H) (hl : ∀ i σ H, i ≤ xs.length → Pv i σ H → SqL K H a xs)
    (hs : ∀ i x σ H, xs[i]? = some x → Pv i σ H → g x σ H fun σ2 H2 => tb { D with nx := Pv (i + 1), ct := Pv (i + 1), bk := D.nx } σ2 H2) (hd : ∀ σ H, Pv xs.length σ H → D.nx σ H) :
    ∃ W : Nat → Nat → St → Hp → Prop, (∃ m, W 0 m σ H) ∧ ∀ i m σ H, W i m σ H →
      ((Itl K a).stop i H ∧ D.nx σ H) ∨ ((Itl K a).go i H ∧ ∃ N : St → Hp → Prop, (∀ σ' H', N σ' H' → ∃ m', m' < m ∧ W (i + 1) m' σ' H') ∧ ∀ x H', (Itl K a).yld i H x H' → g x σ H' fun σ2 H2 => tb { D with nx := N, ct := N, bk := D.nx } σ2 H2) := by
  refine ⟨fun i m σ H => m = xs.length - i ∧ i ≤ xs.length ∧ Pv i σ H, ⟨xs.length, by simp, Nat.zero_le _, h0⟩, ?_⟩
  rintro i m σ H ⟨rfl, hi, p⟩
  have q := hl i σ H hi p
  by_cases hlt : i < xs.length
  · refine .inr ⟨⟨xs, xs[i], q, by simp [hlt]⟩, Pv (i + 1), fun σ' H' p' => ⟨xs.length - (i + 1), by omega, rfl, hlt, p'⟩, fun x H' y => ?_⟩
    obtain ⟨e, y⟩ := y
    subst e
    exact hs i x σ _ (y xs q) p
  · have e : i = xs.length := by omega
    subst e
    exact .inl ⟨⟨xs, q, Nat.le_refl _⟩, hd σ H p⟩
end L2

namespace L2
open PySem PySem.Spec PyProof.Rows

abbrev R2 := V → V → Hp → VK → Prop
/-- a two-place operation on values: f is binaryOp op, inplaceOp op or compareOp op -/
def OpR (X : Cx) (f : Value → Value → Sem Value) (r : R2) : Prop :=
  ∀ (pins : List (Addr × Obj)) (s : Shared) (σ : St) (H : Hp) (x y : V) (v u : Value) (Q : VK), Inv X pins σ H s → RelV x v → RelV y u → r x y H Q →
    wpAny (model X.prog X.w) X.A (f v u) (EP X pins σ Q) X.xe s
/-- a call of a value that is known (a builtin, a type) with values -/
def CallR (X : Cx) (f : Value) (r : List V → Hp → VK → Prop) : Prop :=
  ∀ (pins : List (Addr × Obj)) (s : Shared) (σ : St) (H : Hp) (xs : List V) (us : List Value) (Q : VK), Inv X pins σ H s → Vals xs us → r xs H Q →
    wpAny (model X.prog X.w) X.A (call f us) (EP X pins σ Q) X.xe s

def tOp (r : R2) (ta tb : TE) : TE := fun σ H Q => ta σ H fun x H1 => tb σ H1 fun y H2 => r x y H2 Q
/-- ints in, under C, and a value out -/
def rI (C : Int → Int → Prop) (g : Int → Int → V) : R2 := fun x y H Q => ∃ i j, x = .int i ∧ y = .int j ∧ C i j ∧ Q (g i j) H
def rI0 (g : Int → Int → V) : R2 := fun x y H Q => ∃ i j, x = .int i ∧ y = .int j ∧ Q (g i j) H

section
variable {X : Cx} {a b c : Expr} {ta tb tc : TE} {pos : Pos}

theorem binT (ha : PE X a ta) (hb : PE X b tb) {pins : List (Addr × Obj)} {s : Shared} {σ : St} {H : Hp} {R : V → V → Hp → Prop} (I : Inv X pins σ H s)
    (h : ta σ H fun x H1 => tb σ H1 fun y H2 => R x y H2) {Q : Value → Shared → Prop} {f : Value → Value → Sem Value}
    (hf : ∀ v u s2 x y H2, Inv X pins σ H2 s2 → RelV x v → RelV y u → R x y H2 → wpAny (model X.prog X.w) X.A (f v u) Q X.xe s2) :
    wpAny (model X.prog X.w) X.A (eval a X.env) (fun v s₁ => wpAny (model X.prog X.w) X.A (eval b X.env) (fun u s₂ => wpAny (model X.prog X.w) X.A (f v u) Q X.xe s₂) X.xe s₁) X.xe s := by
  refine thn (ha pins s σ H _ I h) ?_
  rintro v s1 ⟨x, H1, I1, r1, q1⟩
  refine thn (hb pins s1 σ H1 _ I1 q1) ?_
  rintro u s2 ⟨y, H2, I2, r2, q2⟩
  exact hf v u s2 x y H2 I2 r1 r2 q2

theorem pe_op {op : Operator} {r : R2} (ho : OpR X (binaryOp op) r) (ha : PE X a ta) (hb : PE X b tb) : PE X (.BinOp a op b pos) (tOp r ta tb) := by
  intro pins s σ H Q I h
  exact wpAny_BinOp (binT ha hb I h fun v u s2 x y H2 I2 rx ry q => ho pins s2 σ H2 x y v u Q I2 rx ry q)

/-! ### ints -/
theorem opI {f : Value → Value → Sem Value} {C : Int → Int → Prop} {g : Int → Int → Int}
    (rule : ∀ (i j : Int) (t u : Tok) (s : Shared) (Q : Value → Shared → Prop) (E : Value → Shared → Prop), C i j → Q (.int (g i j) s.toks) { s with toks := s.toks + 1 } → wpAny (model X.prog X.w) X.A (f (.int i t) (.int j u)) Q E s) :
    OpR X f (rI C fun i j => .int (g i j)) := by
  intro pins s σ H x y v u Q I rx ry h
  obtain ⟨i, j, rfl, rfl, hc, q⟩ := h
  obtain ⟨t, rfl⟩ := rx
  obtain ⟨t', rfl⟩ := ry
  exact rule i j t t' s _ _ hc ⟨.int (g i j), H, I.tok _, ⟨_, rfl⟩, q⟩
theorem opI0 {f : Value → Value → Sem Value} {g : Int → Int → Int}
    (rule : ∀ (i j : Int) (t u : Tok) (s : Shared) (Q : Value → Shared → Prop) (E : Value → Shared → Prop), Q (.int (g i j) s.toks) { s with toks := s.toks + 1 } → wpAny (model X.prog X.w) X.A (f (.int i t) (.int j u)) Q E s) :
    OpR X f (rI0 fun i j => .int (g i j)) := by
  intro pins s σ H x y v u Q I rx ry h
  obtain ⟨i, j, rfl, rfl, q⟩ := h
  obtain ⟨t, rfl⟩ := rx
  obtain ⟨t', rfl⟩ := ry
  exact rule i j t t' s _ _ ⟨.int (g i j), H, I.tok _, ⟨_, rfl⟩, q⟩
theorem opB0 {f : Value → Value → Sem Value} {g : Int → Int → Bool}
    (rule : ∀ (i j : Int) (t u : Tok) (s : Shared) (Q : Value → Shared → Prop) (E : Value → Shared → Prop), Q (.bool (g i j)) s → wpAny (model X.prog X.w) X.A (f (.int i t) (.int j u)) Q E s) :
    OpR X f (rI0 fun i j => .bl (g i j)) := by
  intro pins s σ H x y v u Q I rx ry h
  obtain ⟨i, j, rfl, rfl, q⟩ := h
  obtain ⟨t, rfl⟩ := rx
  obtain ⟨t', rfl⟩ := ry
  exact rule i j t t' s _ _ ⟨.bl (g i j), H, I, rfl, q⟩

def CDiv (i j : Int) : Prop := 0 < j ∧ j < 1073741824
def CPow (i j : Int) : Prop := 0 ≤ j ∧ j ≤ 1000000 ∧ i.natAbs < 2 ^ 64
def CMul (i j : Int) : Prop := (-(2 ^ 64) < i ∧ i < 2 ^ 64) ∨ (-(2 ^ 64) < j ∧ j < 2 ^ 64)
theorem CMul.ok {i j : Int} (h : CMul i j) : IntMulOk i j := by
  rcases h with ⟨h1, h2⟩ | ⟨h1, h2⟩
  · exact .of_left (intBits_le_64 h1 h2)
  · exact .of_right (intBits_le_64 h1 h2)

theorem op_add : OpR X (binaryOp .Add) (rI0 fun i j => .int (i + j)) := opI0 fun _ _ _ _ _ _ _ q => add_int q
theorem op_sub : OpR X (binaryOp .Sub) (rI0 fun i j => .int (i - j)) := opI0 fun _ _ _ _ _ _ _ q => sub_int q
theorem op_mul : OpR X (binaryOp .Mult) (rI CMul fun i j => .int (i * j)) := opI fun _ _ _ _ _ _ _ hc q => mul_int q hc.ok
/-- // by a positive divisor -/
theorem op_fdiv : OpR X (binaryOp .FloorDiv) (rI CDiv fun i j => .int (i / j)) := opI fun i j _ _ _ _ _ hc q => by
  have h1 : (0 : Int) < j := hc.1
  have h2 : j < 1073741824 := hc.2
  exact floordiv_int (by omega) (by rw [Int.fdiv_eq_ediv_of_nonneg i (by omega)]; exact q) (.inl (PyProof.noPylong_small (by omega)))
/-- % by a positive divisor of any size -/
theorem op_mod : OpR X (binaryOp .Mod) (rI (fun _ j => 0 < j) fun i j => .int (i % j)) := opI fun i j _ _ _ _ _ hc q => by
  have h1 : (0 : Int) < j := hc
  exact mod_int' (by omega) (by rw [Int.fmod_eq_emod_of_nonneg i (by omega)]; exact q)
theorem op_pow : OpR X (binaryOp .Pow) (rI CPow fun i j => .int (i ^ j.toNat)) := opI fun _ _ _ _ _ _ _ hc q => pow_int_small hc.1 hc.2.1 hc.2.2 q



/-! ### bools among ints: n += (a < b) -/
end

/-! ### comparisons -/
/-- the scalars that == tells apart as data does -/
def scal : V → V → Bool
  | .non, .non => true | .non, .int _ => true | .int _, .non => true | .non, .bl _ => true | .bl _, .non => true | .non, .str _ => true | .str _, .non => true
  | .int _, .int _ => true | .bl _, .bl _ => true | .str _, .str _ => true | .byt _, .byt _ => true
  | .int _, .str _ => true | .str _, .int _ => true | .bl _, .str _ => true | .str _, .bl _ => true
  | _, _ => false
def rEq : R2 := fun x y H Q => scal x y = true ∧ Q (.bl (decide (x = y))) H
def rNe : R2 := fun x y H Q => scal x y = true ∧ Q (.bl (!decide (x = y))) H

theorem dec_int {i j : Int} : decide (V.int i = V.int j) = (i == j) := by
  rw [Bool.eq_iff_iff]
  simp
theorem dec_bl {i j : Bool} : decide (V.bl i = V.bl j) = (i == j) := by
  rw [Bool.eq_iff_iff]
  simp
theorem dec_str {i j : Str} : decide (V.str i = V.str j) = (i == j) := by
  rw [Bool.eq_iff_iff]
  simp
theorem dec_byt {i j : Array UInt8} : decide (V.byt i = V.byt j) = (i.toList == j.toList) := by
  rw [Bool.eq_iff_iff]
  cases i
  cases j
  simp

section
variable {X : Cx} {a b c : Expr} {ta tb tc : TE} {pos : Pos}
theorem fin_bl {pins : List (Addr × Obj)} {σ : St} {H : Hp} {s : Shared} {Q : VK} {k k' : Bool} (I : Inv X pins σ H s) (q : Q (.bl k) H) (e : k = k') : EP X pins σ Q (.bool k') s := by
  subst e
  exact ⟨.bl k, H, I, rfl, q⟩
theorem op_eq : OpR X (compareOp .Eq) rEq := by
  intro pins s σ H x y v u Q I rx ry h
  obtain ⟨hs, q⟩ := h
  cases x with
  | non =>
    cases rx
    cases y with
    | non => cases ry; exact PySem.EqNone.eq_none_none (fin_bl I q (by simp))
    | bl j => cases ry; exact PySem.EqNone.eq_none_bool (fin_bl I q (by simp))
    | int j => obtain ⟨t', rfl⟩ := ry; exact PySem.EqNone.eq_none_int (fin_bl I q (by simp))
    | str j => obtain ⟨t', rfl⟩ := ry; exact PySem.EqNone.eq_none_str (fin_bl I q (by simp))
    | _ => exact absurd (show false = true from hs) Bool.false_ne_true
  | bl i =>
    cases rx
    cases y with
    | non => cases ry; exact PySem.EqNone.eq_bool_none (fin_bl I q (by simp))
    | bl j => cases ry; exact eq_bool (fin_bl I q dec_bl)
    | str j => obtain ⟨t', rfl⟩ := ry; exact PySem.EqMixed.eq_bool_str (fin_bl I q (by simp))
    | _ => exact absurd (show false = true from hs) Bool.false_ne_true
  | int i =>
    obtain ⟨t, rfl⟩ := rx
    cases y with
    | non => cases ry; exact PySem.EqNone.eq_int_none (fin_bl I q (by simp))
    | int j => obtain ⟨t', rfl⟩ := ry; exact eq_int (fin_bl I q dec_int)
    | str j => obtain ⟨t', rfl⟩ := ry; exact PySem.EqMixed.eq_int_str (fin_bl I q (by simp))
    | _ => exact absurd (show false = true from hs) Bool.false_ne_true
  | str i =>
    obtain ⟨t, rfl⟩ := rx
    cases y with
    | non => cases ry; exact PySem.EqNone.eq_str_none (fin_bl I q (by simp))
    | bl j => cases ry; exact PySem.EqMixed.eq_str_bool (fin_bl I q (by simp))
    | int j => obtain ⟨t', rfl⟩ := ry; exact PySem.EqMixed.eq_str_int (fin_bl I q (by simp))
    | str j => obtain ⟨t', rfl⟩ := ry; exact eq_str (fin_bl I q dec_str)
    | _ => exact absurd (show false = true from hs) Bool.false_ne_true
  | byt i =>
    obtain ⟨t, rfl⟩ := rx
    cases y with
    | byt j => obtain ⟨t', rfl⟩ := ry; exact PySem.W.eq_bytes (fin_bl I q dec_byt)
    | _ => exact absurd (show false = true from hs) Bool.false_ne_true
  | _ => cases y <;> exact absurd (show false = true from hs) Bool.false_ne_true
theorem op_ne : OpR X (compareOp .NotEq) rNe := by
  intro pins s σ H x y v u Q I rx ry h
  obtain ⟨hs, q⟩ := h
  cases x with
  | non =>
    cases rx
    cases y with
    | non => cases ry; exact PySem.EqNone.ne_none_none (fin_bl I q (by simp))
    | bl j => cases ry; exact PySem.EqNone.ne_none_bool (fin_bl I q (by simp))
    | int j => obtain ⟨t', rfl⟩ := ry; exact PySem.EqNone.ne_none_int (fin_bl I q (by simp))
    | str j => obtain ⟨t', rfl⟩ := ry; exact PySem.EqNone.ne_none_str (fin_bl I q (by simp))
    | _ => exact absurd (show false = true from hs) Bool.false_ne_true
  | bl i =>
    cases rx
    cases y with
    | non => cases ry; exact PySem.EqNone.ne_bool_none (fin_bl I q (by simp))
    | bl j => cases ry; exact ne_bool (fin_bl I q (congrArg not dec_bl))
    | str j => obtain ⟨t', rfl⟩ := ry; exact PySem.EqMixed.ne_bool_str (fin_bl I q (by simp))
    | _ => exact absurd (show false = true from hs) Bool.false_ne_true
  | int i =>
    obtain ⟨t, rfl⟩ := rx
    cases y with
    | non => cases ry; exact PySem.EqNone.ne_int_none (fin_bl I q (by simp))
    | int j => obtain ⟨t', rfl⟩ := ry; exact ne_int (fin_bl I q (congrArg not dec_int))
    | str j => obtain ⟨t', rfl⟩ := ry; exact PySem.EqMixed.ne_int_str (fin_bl I q (by simp))
    | _ => exact absurd (show false = true from hs) Bool.false_ne_true
  | str i =>
    obtain ⟨t, rfl⟩ := rx
    cases y with
    | non => cases ry; exact PySem.EqNone.ne_str_none (fin_bl I q (by simp))
    | bl j => cases ry; exact PySem.EqMixed.ne_str_bool (fin_bl I q (by simp))
    | int j => obtain ⟨t', rfl⟩ := ry; exact PySem.EqMixed.ne_str_int (fin_bl I q (by simp))
    | str j => obtain ⟨t', rfl⟩ := ry; exact ne_str (fin_bl I q (congrArg not dec_str))
    | _ => exact absurd (show false = true from hs) Bool.false_ne_true
  | byt i =>
    obtain ⟨t, rfl⟩ := rx
    cases y with
    | byt j => obtain ⟨t', rfl⟩ := ry; exact PySem.W.ne_bytes (fin_bl I q (congrArg not dec_byt))
    | _ => exact absurd (show false = true from hs) Bool.false_ne_true
  | _ => cases y <;> exact absurd (show false = true from hs) Bool.false_ne_true

theorem op_lt : OpR X (compareOp .Lt) (rI0 fun i j => .bl (decide (i < j))) := opB0 fun _ _ _ _ _ _ _ q => lt_int q
theorem op_le : OpR X (compareOp .LtE) (rI0 fun i j => .bl (decide (i ≤ j))) := opB0 fun _ _ _ _ _ _ _ q => le_int q
theorem op_gt : OpR X (compareOp .Gt) (rI0 fun i j => .bl (decide (j < i))) := opB0 fun _ _ _ _ _ _ _ q => gt_int q
/-- the one string within the other -/
theorem op_in_str : OpR X (compareOp .In) (fun x y H Q => ∃ i j, x = .str i ∧ y = .str j ∧ Q (.bl (!(Builtin.Str.occurrences j i 0 j.length 1).isEmpty)) H) := by
  intro pins s σ H x y v u Q I rx ry h
  obtain ⟨i, j, rfl, rfl, q⟩ := h
  obtain ⟨t, rfl⟩ := rx
  obtain ⟨t', rfl⟩ := ry
  exact in_str (fin_bl I q rfl)

/-- is None, is not None: the right side a value none -/
theorem op_isN : OpR X (compareOp .Is) (fun x y H Q => y = .non ∧ Q (.bl (decide (x = .non))) H) := by
  intro pins s σ H x y v u Q I rx ry h
  obtain ⟨rfl, q⟩ := h
  cases ry
  refine is_none_gen (fin_bl I q ?_)
  cases x <;> first
    | (cases rx; rfl)
    | (obtain ⟨t, rfl⟩ := rx; rfl)
theorem op_notN : OpR X (compareOp .IsNot) (fun x y H Q => y = .non ∧ Q (.bl (!decide (x = .non))) H) := by
  intro pins s σ H x y v u Q I rx ry h
  obtain ⟨rfl, q⟩ := h
  cases ry
  refine isnot_none_gen (fin_bl I q ?_)
  cases x <;> first
    | (cases rx; rfl)
    | (obtain ⟨t, rfl⟩ := rx; rfl)



theorem nomark (b : Expr) {op : CmpOp} (h : op ≠ .In := by decide) (h2 : op ≠ .NotIn := by decide) : behindInMarks op b = false := by
  have e1 : (op == CmpOp.In) = false := by cases op <;> first | rfl | exact absurd rfl h
  have e2 : (op == CmpOp.NotIn) = false := by cases op <;> first | rfl | exact absurd rfl h2
  cases b <;> simp [behindInMarks, e1, e2]
/-- a comparison as a value; hm: nomark b, or (for in, not in) by with_unfolding_all rfl -/
theorem pe_cmpR {op : CmpOp} {r : R2} (ho : OpR X (compareOp op) r) (ha : PE X a ta) (hb : PE X b tb) (hm : behindInMarks op b = false) : PE X (.Compare a [op] [b] pos) (tOp r ta tb) := by
  intro pins s σ H Q I h
  exact wpAny_Compare1 (binT ha hb I h fun v u s2 x y H2 I2 rx ry q => ho pins s2 σ H2 x y v u Q I2 rx ry q) hm
/-- a reading of a value as a test -/
def tTest (t : TE) : TT := fun σ H Q => t σ H fun x H' => ∃ k, x = .bl k ∧ Q k H'
theorem pt_cmpR {op : CmpOp} {r : R2} (ho : OpR X (compareOp op) r) (ha : PE X a ta) (hb : PE X b tb) (hm : behindInMarks op b = false) : PT X (.Compare a [op] [b] pos) (tTest (tOp r ta tb)) := by
  intro pins s σ H Q I h
  refine wpAny_isTrue_Compare1 (thn (ha pins s σ H _ I h) fun v s1 ⟨x, H1, I1, r1, q1⟩ => thn (hb pins s1 σ H1 _ I1 q1) fun u s2 ⟨y, H2, I2, r2, q2⟩ =>
    thn (ho pins s2 σ H2 x y v u _ I2 r1 r2 q2) fun c s3 ⟨z, H3, I3, r3, k, e, q3⟩ => ?_) hm
  subst e
  cases r3
  exact wpAny_truthy_bool ⟨H3, I3, q3⟩
/-- a op1 b op2 c -/
def tChain (r r' : R2) (ta tb tc : TE) : TE := fun σ H Q => ta σ H fun x H1 => tb σ H1 fun y H2 => r x y H2 fun z H3 => ∃ k, z = .bl k ∧
  (if k = true then tc σ H3 fun w' H4 => r' y w' H4 Q else Q (.bl false) H3)
theorem pt_chain {op op' : CmpOp} {r r' : R2} (ho : OpR X (compareOp op) r) (ho' : OpR X (compareOp op') r') (ha : PE X a ta) (hb : PE X b tb) (hc : PE X c tc)
    (hm : lastMarks [op, op'] [b, c] = false := by with_unfolding_all rfl) : PT X (.Compare a [op, op'] [b, c] pos) (tTest (tChain r r' ta tb tc)) := by
  intro pins s σ H Q I h
  refine isTrue_chain (thn (ha pins s σ H _ I h) fun v s1 ⟨x, H1, I1, r1, q1⟩ => test_link (thn (hb pins s1 σ H1 _ I1 q1) fun u s2 ⟨y, H2, I2, r2, q2⟩ =>
    thn (ho pins s2 σ H2 x y v u _ I2 r1 r2 q2) fun d s3 ⟨z, H3, I3, r3, k, e, q3⟩ => ?_)) hm
  subst e
  cases r3
  refine wpAny_truthy_bool ?_
  cases k with
  | false =>
    obtain ⟨k', e', q'⟩ := q3
    cases e'
    exact ite_ff ⟨H3, I3, q'⟩
  | true =>
    refine ite_tt (test_last (thn (hc pins s3 σ H3 _ I3 q3) fun w' s4 ⟨z', H4, I4, r4, q4⟩ => thn (ho' pins s4 σ H4 y z' u w' _ I4 r2 r4 q4) ?_))
    rintro d' s5 ⟨z2, H5, I5, r5, k2, e2, q5⟩
    subst e2
    cases r5
    exact wpAny_truthy_bool ⟨H5, I5, q5⟩

/-! ### truth -/
theorem line63 : (sizeLine : Nat) < 2 ^ 63 := by rw [sizeLine_eq]; decide

/-! ### strs and bytes -/
theorem op_add_str : OpR X (binaryOp .Add) (fun x y H Q => ∃ i j, x = .str i ∧ y = .str j ∧ i.length + j.length ≤ sizeLine ∧ Q (.str (i ++ j)) H) := by
  intro pins s σ H x y v u Q I rx ry h
  obtain ⟨i, j, rfl, rfl, hz, q⟩ := h
  obtain ⟨t, rfl⟩ := rx
  obtain ⟨t', rfl⟩ := ry
  exact add_str (fun t' tk => ⟨.str (i ++ j), H, I.tok _, ⟨_, rfl⟩, q⟩) hz


/-! ### scalar builtins, by CallR -/
theorem vals1 {x : V} {us : List Value} (r : Vals [x] us) : ∃ u, us = [u] ∧ RelV x u := by
  cases r with
  | cons r1 r2 => cases r2; exact ⟨_, rfl, r1⟩
theorem vals2 {x y : V} {us : List Value} (r : Vals [x, y] us) : ∃ u w', us = [u, w'] ∧ RelV x u ∧ RelV y w' := by
  cases r with
  | cons r1 r2 =>
    cases r2 with
    | cons r3 r4 => cases r4; exact ⟨_, _, rfl, r1, r3⟩
theorem call_str_int : CallR X (.type "str") (fun xs H Q => ∃ i, xs = [.int i] ∧ i.natAbs.log2 < 1920 ∧ Q (.str (toString i)) H) := by
  intro pins s σ H xs us Q I r h
  obtain ⟨i, rfl, hz, q⟩ := h
  obtain ⟨u, rfl, t, rfl⟩ := vals1 r
  exact PySem.P.str_of_int hz ⟨.str _, H, I.tok _, ⟨_, rfl⟩, q⟩
end
end L2

namespace L2
open PySem PySem.Spec PyProof.Rows

/-! ### an instance, its attributes a map -/
structure ObjM (h : Heap) (x dx C : Addr) (mA : Str → Option Value) : Prop where
  obj : h.get? x = some (PySem.W.instObj C dx)
  ns : h.Ns1 dx mA
  ne : dx ≠ x

theorem lookIn_ns {h : Heap} {dx : Addr} {mA : Str → Option Value} (n : h.Ns1 dx mA) : ∃ od, h.get? dx = some od ∧ ∀ name, PySem.W.lookIn name od = some (mA name) := by
  obtain ⟨o, es, ep, ho, hd, hk, _, hm⟩ := n
  refine ⟨o, ho, fun name => ?_⟩
  have e := hm name
  unfold nsFind findBy at e
  rw [← Array.find?_toList] at e
  unfold PySem.W.lookIn
  rw [hd]
  dsimp only
  split
  · rename_i y q
    rw [q] at e
    exact congrArg some e
  · rename_i q
    rw [q] at e
    have a : es.toList.any (·.refKey) = false := by
      rw [List.any_eq_false]
      intro y hy
      obtain ⟨z, t, hkey⟩ := hk y (Array.mem_toList_iff.mp hy)
      simp [DictEntry.refKey, hkey]
    have a' : ¬ es.toList.any (·.refKey) = true := by rw [a]; exact Bool.false_ne_true
    rw [if_neg a']
    exact congrArg some e

theorem ObjM.look {h : Heap} {x dx C : Addr} {mA : Str → Option Value} (I : ObjM h x dx C mA) : ∃ od, PySem.W.InstAt h x (PySem.W.instObj C dx) C (some od) ∧ ∀ name, PySem.W.lookIn name od = some (mA name) :=
  let ⟨od, ho, hl⟩ := lookIn_ns I.ns
  ⟨od, ⟨I.obj, rfl, rfl, ho⟩, hl⟩

section
variable {prog : Program} {w : World} {A : Around} {E : Value → Shared → Prop} {s : Shared} {K : PySem.W.Frag} {x dx C f : Addr} {mA : Str → Option Value} {name : Str} {v : Value}

theorem get_map {expr : Bool} {Q : Value → Shared → Prop} (X : K.In s.heap) (I : ObjM s.heap x dx C mA) (hg : PySem.W.plainGet K C name = true) (hh : PySem.W.hasDictIn K C = true)
    (ha : PySem.W.findIn K (.ref C) name = some none) (hv : mA name = some v) (hv' : PySem.W.handedIn v = true) (h : Q v { s with toks := s.toks + 1 }) :
    wpAny (model prog w) A (getAttr (.ref x) name expr) Q E s := by
  obtain ⟨od, J, hl⟩ := I.look
  exact PySem.W.get_value X J (PySem.W.plainGet_of hg).1 (PySem.W.findObj_own hh ha rfl (by rw [hl, hv])) hv' h



theorem set_map {ns : List Str} {Q : Unit → Shared → Prop} (X : K.In s.heap) (I : ObjM s.heap x dx C mA)
    (hs : PySem.W.findIn K (.ref C) "__setattr__" = some (some (.builtin "object.__setattr__"))) (hp : PySem.W.plainOver K C = true) (ht : PySem.W.takerIn K C name = some none) (hh : PySem.W.hasDictIn K C = true)
    (hw : PySem.Within mA ns) (hsz : ns.length ≤ sizeLine)
    (h : ∀ h', ObjM h' x dx C (fun y => if y = name then some v else mA y) → Heap.SameBut dx s.heap h' → Q () { s with heap := h', toks := s.toks + 2 }) :
    wpAny (model prog w) A (setAttr (.ref x) name v) Q E s := by
  obtain ⟨od, J, hl⟩ := I.look
  refine PySem.W.set_plain X J hs (PySem.W.osa_open (s := { s with toks := s.toks + 1 }) (r := none) X J hp ht fun b => ?_)
  obtain ⟨cd, hc, hd'⟩ := PySem.W.any_some hh
  have hx : s.heap.get? x = some ⟨.ref C, some dx, .plain, #[]⟩ := I.obj
  refine wpAny_bind (wpAny_pure (wpAny_bind (wpAny_bind (wpAny_loadPart hx (wpAny_bind (PySem.W.Looks.here (s := { s with toks := s.toks + 1 }) (PySem.W.looks_clsIn X hc) ?_))))))
  rw [hd']
  refine wpAny_pure (a := some dx) (wpAny_bind (wpAny_pure (wpAny_bind ?_)))
  refine wpAny_nsSet1 (s := { s with toks := s.toks + 1 }) I.ns fun h' hn2 hs2 => ?_
  obtain ⟨oD, esD, epD, hoD, hdD, hcD⟩ := hn2.count (PySem.Within.cons name v hw)
  refine wpAny_bind (wpAny_lookBehind hoD (by rw [hdD]; exact pastItsLine_dict (Nat.le_trans hcD (by rw [List.length_cons]; omega))) ?_)
  exact wpAny_pure (h _ ⟨(hs2.2 _ (Ne.symm I.ne)).trans I.obj, hn2, I.ne⟩ hs2)

/-- C(..): the dict at the heap's end, the instance behind it; then its __init__ -/
theorem make_map {R : Result → Shared → Prop} {vs : List Value} {kw : List (Str × Value)} (X : K.In s.heap) (hm : PySem.W.makesIn K C = true)
    (hi : PySem.W.findIn K (.ref C) "__init__" = some (some (.ref f))) (hf : PySem.W.typeIn K (.ref f) = some (.type "function"))
    (h : codeAny (model prog w) (A.under (.builtin "type.__call__" ⟨.ref C :: vs, kw⟩)) (.call (.ref f) ⟨.ref (s.heap.objs.size + 1) :: vs, kw⟩) (PySem.W.InitBack (s.heap.objs.size + 1) R)
      { s with heap := (s.heap.push PySem.W.emptyDict).push (PySem.W.instObj C s.heap.objs.size) }) :
    codeAny (model prog w) A (.call (.ref C) ⟨vs, kw⟩) R s := by
  obtain ⟨hh, g, d, t, os⟩ := s
  exact PySem.W.make_core (PySem.W.makes_of X hm) (PySem.W.looks_findIn X hi) (fun self => PySem.W.bind_fn X self hf) (.inl rfl) h
end

/-! ### the attributes as a list of pairs -/
def putF (f : Str) (v : V) : List (Str × V) → List (Str × V)
  | [] => [(f, v)]
  | (g, x) :: r => if g = f then (g, v) :: r else (g, x) :: putF f v r
theorem lookup_putF (f g : Str) (v : V) : ∀ fs : List (Str × V), (putF f v fs).lookup g = if g = f then some v else fs.lookup g
  | [] => by
    show List.lookup g [(f, v)] = _
    by_cases h : g = f
    · have hb : (g == f) = true := beq_iff_eq.mpr h
      simp only [List.lookup, hb, if_pos h]
    · have hb : (g == f) = false := beq_eq_false_iff_ne.mpr h
      simp only [List.lookup, hb, if_neg h]
  | (k, x) :: r => by
    have ih := lookup_putF f g v r
    rw [show putF f v ((k, x) :: r) = (if k = f then (k, v) :: r else (k, x) :: putF f v r) from rfl]
    by_cases hk : k = f
    · rw [if_pos hk]
      by_cases h : g = k
      · have hb : (g == k) = true := beq_iff_eq.mpr h
        simp only [List.lookup, hb, if_pos (h.trans hk)]
      · have hb : (g == k) = false := beq_eq_false_iff_ne.mpr h
        simp only [List.lookup, hb, if_neg (fun e : g = f => h (e.trans hk.symm))]
    · rw [if_neg hk]
      by_cases h : g = k
      · have hb : (g == k) = true := beq_iff_eq.mpr h
        simp only [List.lookup, hb, if_neg (fun e : g = f => hk (h.symm.trans e))]
      · have hb : (g == k) = false := beq_eq_false_iff_ne.mpr h
        simp only [List.lookup, hb]
        exact ih
theorem keys_putF (f : Str) (v : V) : ∀ fs : List (Str × V), f ∈ (putF f v fs).map (·.1) ∧ ∀ g, g ∈ fs.map (·.1) → g ∈ (putF f v fs).map (·.1)
  | [] => ⟨by simp [putF], fun g h => by simp at h⟩
  | (k, x) :: r => by
    obtain ⟨i1, i2⟩ := keys_putF f v r
    rw [show putF f v ((k, x) :: r) = (if k = f then (k, v) :: r else (k, x) :: putF f v r) from rfl]
    by_cases hk : k = f
    · rw [if_pos hk]
      subst hk
      exact ⟨by simp, fun g h => by simpa using h⟩
    · rw [if_neg hk]
      refine ⟨?_, fun g h => ?_⟩
      · rw [List.map_cons]
        exact List.mem_cons_of_mem _ i1
      · rw [List.map_cons] at h ⊢
        rcases List.mem_cons.mp h with e | e
        · exact List.mem_cons.mpr (.inl e)
        · exact List.mem_cons_of_mem _ (i2 g e)
theorem length_putF (f : Str) (v : V) : ∀ fs : List (Str × V), (putF f v fs).length ≤ fs.length + 1
  | [] => by simp [putF]
  | (k, x) :: r => by
    have ih := length_putF f v r
    rw [show putF f v ((k, x) :: r) = (if k = f then (k, v) :: r else (k, x) :: putF f v r) from rfl]
    by_cases hk : k = f
    · rw [if_pos hk, List.length_cons, List.length_cons]; omega
    · rw [if_neg hk, List.length_cons, List.length_cons]; omega

theorem RelO.some_of {v : V} {o : Option Value} (r : RelO (some v) o) : ∃ u, o = some u ∧ RelV v u := by
  cases o with
  | none => exact (show False from r).elim
  | some u => exact ⟨u, rfl, r⟩
theorem handed_of {v : V} {u : Value} (r : RelV v u) : PySem.W.handedIn u = true := by
  cases v with
  | non => cases (show u = Value.none from r); rfl
  | bl b => cases (show u = Value.bool b from r); rfl
  | int i => obtain ⟨t, e⟩ := (show ∃ t, u = Value.int i t from r); cases e; rfl
  | str x => obtain ⟨t, e⟩ := (show ∃ t, u = Value.str x t from r); cases e; rfl
  | byt b => obtain ⟨t, e⟩ := (show ∃ t, u = Value.bytes b t from r); cases e; rfl
  | flt b => obtain ⟨t, e⟩ := (show ∃ t, u = Value.float b t from r); cases e; rfl
  | ref a => cases (show u = Value.ref a from r); rfl
  | ty n => cases (show u = Value.type n from r); rfl

section
variable {P : Program} {w : World} {H H' : Hp} {h h' : Heap} {a C dx : Addr} {fs fs' : List (Str × V)}
theorem ins_get (hok : HOk P w H h) (e : H a = some (.ins C dx fs)) : ∃ mA, ObjM h a dx C mA ∧ (∀ f, RelO (fs.lookup f) (mA f)) ∧ PySem.Within mA (fs.map (·.1)) ∧ fs.length ≤ 1000 ∧ H dx = some (.own a) := by
  obtain ⟨d, z, ne, ob, mA, n, r, q⟩ := (show ObjOk P w H h a (.ins C dx fs) from hok a _ e)
  exact ⟨mA, ⟨ob, n, ne⟩, r, q, z, d⟩
end

/-! ### what of the text a class must have -/
structure Cls (K : PySem.W.Frag) (C : Addr) : Prop where
  pg : PySem.W.plainGet K C Str.empty = true
  hd : PySem.W.hasDictIn K C = true
  po : PySem.W.plainOver K C = true
  sa : PySem.W.findIn K (.ref C) "__setattr__" = some (some (.builtin "object.__setattr__"))
theorem Cls.get {K : PySem.W.Frag} {C : Addr} (c : Cls K C) (f : Str) : PySem.W.plainGet K C f = true := c.pg
/-- no class of it has the name -/
def NoAttr (K : PySem.W.Frag) (C : Addr) (f : Str) : Prop := PySem.W.findIn K (.ref C) f = some none
theorem NoAttr.taker {K : PySem.W.Frag} {C : Addr} {f : Str} (n : NoAttr K C f) : PySem.W.takerIn K C f = some none := by
  unfold PySem.W.takerIn
  rw [show PySem.W.findIn K (.ref C) f = some none from n]
  rfl

section
variable {X : Cx} {pins : List (Addr × Obj)} {σ : St} {H : Hp} {s : Shared} {a C dx : Addr} {fs : List (Str × V)} {f : Str} {v : V} {A : Around} {E : Value → Shared → Prop}

theorem getattr_ok {b : Bool} {Q : Value → Shared → Prop} (I : Inv X pins σ H s) (e : H a = some (.ins C dx fs)) (c : Cls X.K C) (n : NoAttr X.K C f) (l : fs.lookup f = some v)
    (h : ∀ u s', Inv X pins σ H s' → RelV v u → Q u s') : wpAny (model X.prog X.w) A (getAttr (.ref a) f b) Q E s := by
  obtain ⟨mA, O, r, _, _, _⟩ := ins_get I.hok e
  obtain ⟨u, hu, ru⟩ := RelO.some_of (v := v) (o := mA f) (by rw [← l]; exact r f)
  exact get_map I.kIn O (c.get f) c.hd n hu (handed_of ru) (h u _ (I.tok _) ru)



theorem setattr_ok {y : V} {u : Value} {Q : Unit → Shared → Prop} (I : Inv X pins σ H s) (e : H a = some (.ins C dx fs)) (c : Cls X.K C) (n : NoAttr X.K C f) (hl : fs.length < 1000) (ry : RelV y u)
    (h : ∀ s', Inv X pins σ (upd H a (.ins C dx (putF f y fs))) s' → Q () s') : wpAny (model X.prog X.w) A (setAttr (.ref a) f u) Q E s := by
  obtain ⟨mA, O, r, wi, _, ho⟩ := ins_get I.hok e
  have hz : (fs.map (·.1)).length ≤ sizeLine := by rw [List.length_map, sizeLine_eq]; omega
  refine set_map I.kIn O c.sa c.po n.taker c.hd wi hz fun h' O' sb => h _ ?_
  have hd : ∃ o, h'.get? dx = some o := let ⟨o, _, _, e', _⟩ := O'.ns; ⟨o, e'⟩
  refine I.write (x := a) (e := dx) (by rw [e]; exact True.intro) (.inr ho) (fun b q hb z => (sb.2 b hb).trans z) hd ?_
  refine ⟨by rw [upd_ne O.ne]; exact ho, ?_, O.ne, O'.obj, _, O'.ns, fun g => ?_, fun g hg => ?_⟩
  · have := length_putF f y fs; omega
  · show RelO ((putF f y fs).lookup g) (if g = f then some u else mA g)
    rw [lookup_putF]
    by_cases q : g = f
    · rw [if_pos q, if_pos q]; exact ry
    · rw [if_neg q, if_neg q]; exact r g
  · by_cases q : g = f
    · rw [q]; exact (keys_putF f y fs).1
    · refine (keys_putF f y fs).2 g (wi g fun z => hg ?_)
      show (if g = f then some u else mA g) = none
      rw [if_neg q]; exact z

/-- a new instance, tracked, without attributes -/
theorem Inv.made (I : Inv X pins σ H s) : Inv X pins σ (upd (upd H s.heap.objs.size (.own (s.heap.objs.size + 1))) (s.heap.objs.size + 1) (.ins C s.heap.objs.size []))
    { s with heap := (s.heap.push PySem.W.emptyDict).push (PySem.W.instObj C s.heap.objs.size) } := by
  have e1 : (s.heap.push PySem.W.emptyDict).get? s.heap.objs.size = some PySem.W.emptyDict := Heap.get?_push_size s.heap rfl
  have e2 : ((s.heap.push PySem.W.emptyDict).push (PySem.W.instObj C s.heap.objs.size)).get? (s.heap.objs.size + 1) = some (PySem.W.instObj C s.heap.objs.size) := by
    have := Heap.get?_push_size (s.heap.push PySem.W.emptyDict) (o := PySem.W.instObj C s.heap.objs.size) rfl
    rwa [Heap.size_push] at this
  have e3 : (s.heap.push PySem.W.emptyDict).Ns s.heap.objs.size (fun _ => none) := ⟨PySem.W.emptyDict, #[], _, e1, rfl, (fun e he => absurd he (by simp)), fun _ => rfl⟩
  have I1 := I.laid (a := s.heap.objs.size) (o := .own (s.heap.objs.size + 1)) (h' := s.heap.push PySem.W.emptyDict) (t' := s.toks) (fun b u q => Heap.get?_push_of_some _ q) (Nat.le_refl _) ⟨_, e1⟩
  refine I1.laid (a := s.heap.objs.size + 1) (o := .ins C s.heap.objs.size []) (t' := s.toks) (fun b u q => Heap.get?_push_of_some _ q) (Nat.le_of_eq (Heap.size_push _ _)) ?_
  have ne : s.heap.objs.size ≠ s.heap.objs.size + 1 := Nat.ne_of_lt (Nat.lt_succ_self _)
  refine ⟨by rw [upd_ne ne, upd_same], Nat.zero_le _, ne, e2, fun _ => none, (Heap.Ns1.of_empty e3).at fun o q => Heap.get?_push_of_some _ q, fun _ => True.intro, fun y hy => absurd rfl hy⟩

/-- e.f where nothing but the object is asked: through attributeBase (super) and the last hold -/
theorem attr_of {prog : Program} {w : World} {env : Env} {e : Expr} {f : Str} {pos : Pos} {s : Shared} {Q : Value → Shared → Prop} (hb : attributeBase e f env (eval e env) = eval e env)
    (h : wpAny (model prog w) A (eval e env) (fun o s₁ => wpAny (model prog w) A (getAttr o f true) Q E s₁) E s) : wpAny (model prog w) A (eval (.Attribute e f pos) env) Q E s :=
  Attribute_any_ h (by rw [arm_eval_Attribute, hb])
end

/-! ### readings and rules -/
/-- e.f, an attribute of the instance -/
def tFld (K : PySem.W.Frag) (ta : TE) (f : Str) : TE := fun σ H Q => ta σ H fun x H1 => ∃ a C dx fs v, x = .ref a ∧ H1 a = some (.ins C dx fs) ∧ Cls K C ∧ NoAttr K C f ∧ fs.lookup f = some v ∧ Q v H1
/-- e.f = value -/
def sFld (K : PySem.W.Frag) (ta tv : TE) (f : Str) : TS := fun D σ H => tv σ H fun y H1 => ta σ H1 fun x H2 => ∃ a C dx fs, x = .ref a ∧ H2 a = some (.ins C dx fs) ∧ Cls K C ∧ NoAttr K C f ∧ fs.length < 1000 ∧
  D.nx σ (upd H2 a (.ins C dx (putF f y fs)))

section
variable {X : Cx} {o e value : Expr} {f : Str} {pos pos' tpos : Pos} {ta tv : TE}
theorem pe_fld (he : PE X e ta) (hb : attributeBase e f X.env (eval e X.env) = eval e X.env) : PE X (.Attribute e f pos) (tFld X.K ta f) := by
  intro pins s σ H Q I h
  refine attr_of hb (thn (he pins s σ H _ I h) ?_)
  rintro u s1 ⟨x, H1, I1, rx, a, C, dx, fs, v, ex, ea, c, n, l, q⟩
  subst ex
  obtain rfl : u = Value.ref a := rx
  exact getattr_ok I1 ea c n l fun u' s2 I2 ru => ⟨v, H1, I2, ru, q⟩
theorem ps_fld (ha : PE X o ta) (hv : PE X value tv) (hs : swapsWith value (some (.Attribute o f pos')) pos.line X.env = pure false) : PS X (.Assign [.Attribute o f pos'] value pos) (sFld X.K ta tv f) := by
  intro pins s σ H D I h
  refine plainObj_wpAny_Assign_Attribute (thn (hv pins s σ H _ I h) fun u s1 ⟨y, H1, I1, ry, q⟩ => thn (ha pins s1 σ H1 _ I1 q) fun ov s2 ⟨x, H2, I2, rx, a, C, dx, fs, ex, ea, c, n, l, q2⟩ => ?_) hs
  subst ex
  obtain rfl : ov = Value.ref a := rx
  exact setattr_ok I2 ea c n l ry fun s3 I3 => ⟨σ, _, I3, q2⟩

end

/-! ### isinstance -/
section
variable {X : Cx} {pins : List (Addr × Obj)} {σ : St} {H : Hp} {s : Shared} {A : Around} {E : Value → Shared → Prop} {Q : Value → Shared → Prop} {c : Value} {b : Bool}
/-- the type of a value, as the fragment's deciders take it; for an instance its class -/
inductive TyOf (K : PySem.W.Frag) (H : Hp) : V → Value → Prop where
  | non : TyOf K H .non (.type "NoneType")
  | bl (x : Bool) : TyOf K H (.bl x) (.type "bool")
  | int (i : Int) : TyOf K H (.int i) (.type "int")
  | str (x : Str) : TyOf K H (.str x) (.type "str")
  | flt (x : UInt64) : TyOf K H (.flt x) (.type "float")
  | lst {a : Addr} {xs : List V} (e : H a = some (.lst xs)) : TyOf K H (.ref a) (.type "list")
  | frz {a : Addr} {o : Obj} {xs : List V} (e : H a = some (.frz o (.lst xs))) : TyOf K H (.ref a) (.type "list")
  | tup {a : Addr} {xs : List V} (e : H a = some (.tup xs)) : TyOf K H (.ref a) (.type "tuple")
  | dK {a : Addr} {kvs : List (Key × V)} (e : H a = some (.dK kvs)) : TyOf K H (.ref a) (.type "dict")
  | dT {a : Addr} {kvs : List (List Key × V)} (e : H a = some (.dT kvs)) : TyOf K H (.ref a) (.type "dict")
  | ins {a C dx : Addr} {fs : List (Str × V)} (e : H a = some (.ins C dx fs)) (cl : Cls K C) (ha : PySem.W.findIn K (.ref C) "__class__" = some (some (.builtin "object.__class__")))
      (hn : PySem.W.specialIn K (.builtin "object.__class__") "__get__" = some (some (.builtin "getset_descriptor.__get__"))) (htk : PySem.W.takesIn K (.builtin "object.__class__") = some true)
      (hm : PySem.W.mroIn K C (.type "object") = some true) : TyOf K H (.ref a) (.ref C)
/-- isinstance(x, c) for one class c, a built-in or an own one: kitOne's answer -/
theorem isinst_ok {x : V} {u t : Value} (I : Inv X pins σ H s) (rx : RelV x u) (ty : TyOf X.K H x t) (e : PySem.W.kitOne X.K t c = some b) (h : ∀ tk, Q (.bool b) { s with toks := tk }) :
    wpAny (model X.prog X.w) A (call (.builtin "isinstance") [u, c]) Q E s := by
  cases ty with
  | non => cases (show u = Value.none from rx); exact PySem.W.kia_one PySem.W.kitx_none I.kIn True.intro e (fun z => nomatch z) h
  | bl y => cases (show u = Value.bool y from rx); exact PySem.W.kia_one PySem.W.kitx_bool I.kIn True.intro e (fun z => nomatch z) h
  | int i => obtain ⟨t, q⟩ := (show ∃ t, u = Value.int i t from rx); cases q; exact PySem.W.kia_one PySem.W.kitx_int I.kIn True.intro e (fun z => nomatch z) h
  | str y => obtain ⟨t, q⟩ := (show ∃ t, u = Value.str y t from rx); cases q; exact PySem.W.kia_one PySem.W.kitx_str I.kIn True.intro e (fun z => nomatch z) h
  | flt y => obtain ⟨t, q⟩ := (show ∃ t, u = Value.float y t from rx); cases q; exact PySem.W.kia_one PySem.W.kitx_float I.kIn True.intro e (fun z => nomatch z) h
  | @lst a xs ea =>
    cases (show u = Value.ref a from rx)
    obtain ⟨_, _, n, _, h1⟩ := (show ObjOk X.prog X.w H s.heap a (.lst xs) from I.hok a _ ea)
    exact PySem.W.kia_one PySem.W.kitx_list I.kIn ⟨_, h1, rfl⟩ e (fun z => nomatch z) h
  | @frz a ob xs ea =>
    cases (show u = Value.ref a from rx)
    obtain ⟨_, _, _, n, _, h1⟩ := (show ObjOk X.prog X.w H s.heap a (.frz ob (.lst xs)) from I.hok a _ ea)
    exact PySem.W.kia_one PySem.W.kitx_list I.kIn ⟨_, h1, rfl⟩ e (fun z => nomatch z) h
  | @tup a xs ea =>
    cases (show u = Value.ref a from rx)
    obtain ⟨_, _, _, p⟩ := (show ObjOk X.prog X.w H s.heap a (.tup xs) from I.hok a _ ea)
    obtain ⟨o, h1, h2, _⟩ := p
    exact PySem.W.kia_one PySem.W.kitx_tuple I.kIn ⟨o, h1, h2⟩ e (fun z => nomatch z) h
  | @dK a kvs ea =>
    cases (show u = Value.ref a from rx)
    obtain ⟨_, _, vs, _, p⟩ := (show ObjOk X.prog X.w H s.heap a (.dK kvs) from I.hok a _ ea)
    obtain ⟨o, es, ep, h1, h2, _⟩ := p
    exact PySem.W.kia_one PySem.W.kitx_dict I.kIn ⟨o, h1, h2.1⟩ e (fun z => nomatch z) h
  | @dT a kvs ea =>
    cases (show u = Value.ref a from rx)
    obtain ⟨_, _, xs, _, o, es, ep, h1, h2, _⟩ := (show ObjOk X.prog X.w H s.heap a (.dT kvs) from I.hok a _ ea)
    exact PySem.W.kia_one PySem.W.kitx_dict I.kIn ⟨o, h1, h2.1⟩ e (fun z => nomatch z) h
  | @ins a C dx fs ea cl ha hn htk hm =>
    cases (show u = Value.ref a from rx)
    obtain ⟨mA, O, _⟩ := ins_get I.hok ea
    obtain ⟨od, J, _⟩ := O.look
    exact PySem.W.kia_one (PySem.W.kitx_own (cl.get _) cl.hd ha hn htk hm) I.kIn J e (fun z => nomatch z) h
end
end L2

namespace L2
open PySem PySem.Spec PyProof.Rows

/-! ### room -/
structure Room (k : Nat) (A : Around) : Prop where
  hd : A.handled = none
  dp : A.depth + 3 * k + 5 < recursionLimit
  un : A.units + 16 * k + 200 < cLine
theorem Room.mono {j k : Nat} {A : Around} (r : Room k A) (h : j ≤ k) : Room j A := ⟨r.hd, by have := r.dp; omega, by have := r.un; omega⟩
theorem Room.deeper {k : Nat} {A : Around} (r : Room (k + 1) A) (env : Env) : Room k (A.deeper env) :=
  ⟨r.hd, by have := r.dp; show A.depth + 1 + 3 * k + 5 < _; omega, by have := r.un; show A.units + 3 + 16 * k + 200 < _; omega⟩
theorem make_depth {A : Around} {C : Addr} {us : List Value} {kw : List (Str × Value)} : (A.under (.builtin "type.__call__" ⟨.ref C :: us, kw⟩)).depth = A.depth + 1 := by
  first | rfl | simp [Around.under, Code.weight, Code.isCreation, Code.isGuard, Code.isCaller, Code.frames, Code.isFrame, guardIds]
theorem make_units {A : Around} {C : Addr} {us : List Value} {kw : List (Str × Value)} : (A.under (.builtin "type.__call__" ⟨.ref C :: us, kw⟩)).units = A.units + 1 := by
  first | rfl | simp [Around.under, Code.cUnits, Code.frames, Code.isFrame]
theorem Room.make {k : Nat} {A : Around} (r : Room (k + 1) A) (C : Addr) (us : List Value) (kw : List (Str × Value)) : Room k (A.under (.builtin "type.__call__" ⟨.ref C :: us, kw⟩)) :=
  ⟨r.hd, by have := r.dp; rw [make_depth]; omega, by have := r.un; rw [make_units]; omega⟩
theorem Room.depth {k : Nat} {A : Around} (r : Room k A) : A.depth < recursionLimit := by have := r.dp; omega
theorem Room.units {k : Nat} {A : Around} (r : Room k A) : A.units + 64 < cLine := by have := r.un; omega

/-! ### argument lists and displays -/
def tNil : TA := fun _ H Q => Q [] H
def tCons (ta : TE) (tr : TA) : TA := fun σ H Q => ta σ H fun x H1 => tr σ H1 fun xs H2 => Q (x :: xs) H2
section
variable {X : Cx} {e : Expr} {es : List Expr} {te : TE} {t : TA} {pos : Pos}
theorem pa_nil : PA X [] tNil := fun _ _ _ _ H Q I h => Calls.spliced_nil ⟨[], H, I, .nil, h⟩
theorem pa_cons (ha : PE X e te) (hr : PA X es t) (hs : starEach (e :: es) X.env = (false, eval e X.env) :: starEach es X.env := by rfl) : PA X (e :: es) (tCons te t) := by
  intro pos pins s σ H Q I h
  rw [hs]
  show wpAny _ _ (spliced ((false, eval e X.env) :: backTo pos (starEach es X.env))) _ _ s
  refine Calls.spliced_cons (thn (ha pins s σ H _ I h) ?_)
  rintro u s1 ⟨x, H1, I1, r1, q1⟩
  exact thn (hr pos pins s1 σ H1 _ I1 q1) fun us s2 ⟨xs, H2, I2, r2, q2⟩ => ⟨x :: xs, H2, I2, .cons r1 r2, q2⟩

/-- a tuple, a list of written items -/
def tTup (t : TA) : TE := fun σ H Q => t σ H fun xs H1 => xs.length ≤ sizeLine ∧ ∀ p, H1 p = none → Q (.ref p) (upd H1 p (.tup xs))
def tLst (t : TA) : TE := fun σ H Q => t σ H fun xs H1 => xs.length ≤ sizeLine ∧ ∀ p, H1 p = none → Q (.ref p) (upd H1 p (.lst xs))
theorem pe_tup {x1} (h : PA X es t) : PE X (.Tuple es x1 pos) (tTup t) := by
  intro pins s σ H Q I hq
  refine wpAny_Tuple_spliced (thn (h pos pins s σ H _ I hq) fun us s1 ⟨xs, H1, I1, r, z, q⟩ => ⟨by rw [← r.length]; exact z, ?_⟩)
  have hf : H1 s1.heap.objs.size = none := I1.hok.fresh (Nat.le_refl _)
  refine ⟨.ref s1.heap.objs.size, upd H1 s1.heap.objs.size (.tup xs), I1.laid (t' := s1.toks) (fun b u e => Heap.get?_push_of_some _ e) (Nat.le_refl _) ?_, rfl, q _ hf⟩
  exact ⟨z, us, r, ⟨_, Heap.get?_push_size _ rfl, rfl, _, rfl⟩⟩
theorem pe_lst (h : PA X es t) : PE X (.List es pos) (tLst t) := by
  intro pins s σ H Q I hq
  refine wpAny_List_spliced (thn (h pos pins s σ H _ I hq) fun us s1 ⟨xs, H1, I1, r, z, q⟩ => ⟨by rw [← r.length]; exact z, ?_⟩)
  have hf : H1 s1.heap.objs.size = none := I1.hok.fresh (Nat.le_refl _)
  refine ⟨.ref s1.heap.objs.size, upd H1 s1.heap.objs.size (.lst xs), I1.laid (t' := s1.toks) (fun b u e => Heap.get?_push_of_some _ e) (Nat.le_refl _) ?_, rfl, q _ hf⟩
  exact ⟨z, us, 0, r, Heap.get?_push_size _ rfl⟩
end

/-! ### what a def promises -/
/-- a def's promise: the bound arguments in the parameters' order, the heap, the wanted end, the wanted exception -/
abbrev Sp := List V → Hp → VK → XK → Prop
/-- how an exception lies behind a call (file 08 gives it): the callers' frames, abstract heap and state ahead of the call, the wish, the exception, the state -/
abbrev CXT := List Env → Hp → Shared → XK → Value → Shared → Prop

/-- the state at a call -/
structure Env0 (P : Program) (w : World) (K : PySem.W.Frag) (mg : Str → Option Value) (base : Heap) (A : Around) (outer : List Env) (s : Shared) (H : Hp) : Prop where
  frames : A.frames = some outer
  mod : Mod K mg base
  bs : ∀ b o, base.get? b = some o → s.heap.get? b = some o ∧ H b = none
  bsz : base.objs.size ≤ s.heap.objs.size
  funs : s.heap.FunFrames base outer
  frf : ∀ b ∈ frs outer, H b = none
  hok : HOk P w H s.heap
  bare : AllBare s.gens
/-- a call's end -/
def CE (outer : List Env) (P : Program) (w : World) (H : Hp) (s : Shared) (Q : VK) (u : Value) (s' : Shared) : Prop :=
  ∃ v H', s'.os = s.os ∧ AllBare s'.gens ∧ Un (frs outer) [] H H' s.heap s'.heap ∧ HOk P w H' s'.heap ∧ RelV v u ∧ Q v H'
def CR (CX : CXT) (outer : List Env) (P : Program) (w : World) (H : Hp) (s : Shared) (Q : VK) (E : XK) (r : Result) (s' : Shared) : Prop :=
  match r with
  | .ok (.ret u) => CE outer P w H s Q u s'
  | .ok _ => False
  | .error e => CX outer H s E e s'
structure FnOk (P : Program) (w : World) (K : PySem.W.Frag) (mg : Str → Option Value) (base : Heap) (CX : CXT) (k : Nat) (f : Addr) (fd : FuncData) (ps : List Str) (sp : Sp) : Prop where
  len : ∀ vs H Q E, sp vs H Q E → vs.length = ps.length
  run : ∀ (A : Around) (outer : List Env) (s : Shared) (H : Hp) (args : Args) (us : List Value) (vs : List V) (Q : VK) (E : XK), Room k A → Env0 P w K mg base A outer s H → BindsTo s fd args (ps.zip us) → Vals vs us → sp vs H Q E →
    codeAny (model P w) A (.call (.ref f) args) (CR CX outer P w H s Q E) s
theorem FnOk.mono {P : Program} {w : World} {K : PySem.W.Frag} {mg : Str → Option Value} {base : Heap} {CX : CXT} {j k : Nat} {f : Addr} {fd : FuncData} {ps : List Str} {sp : Sp} (F : FnOk P w K mg base CX j f fd ps sp) (h : j ≤ k) :
    FnOk P w K mg base CX k f fd ps sp := ⟨F.len, fun A outer s H args us vs Q E hr => F.run A outer s H args us vs Q E (hr.mono h)⟩

theorem Env0.make {P : Program} {w : World} {K : PySem.W.Frag} {mg : Str → Option Value} {base : Heap} {A : Around} {outer : List Env} {s : Shared} {H : Hp} (e : Env0 P w K mg base A outer s H) (C : Addr) (us : List Value) (kw : List (Str × Value)) :
    Env0 P w K mg base (A.under (.builtin "type.__call__" ⟨.ref C :: us, kw⟩)) outer s H := ⟨by first | exact e.frames | (simpa [Around.under, Code.envs, Code.isFrame, pushEnvs] using e.frames), e.mod, e.bs, e.bsz, e.funs, e.frf, e.hok, e.bare⟩

section
variable {X : Cx} {pins : List (Addr × Obj)} {σ : St} {H : Hp} {s s' : Shared}
/-- from a body: what a callee wants -/
theorem Inv.env0 (I : Inv X pins σ H s) : Env0 X.prog X.w X.K X.mg X.base X.A X.stack s H :=
  ⟨I.ok.frames, I.ok.mod, I.bs, Nat.le_trans I.ok.bsz I.sz, I.stack, I.stkFree, I.hok, I.bare⟩
/-- behind a call -/
theorem Inv.after {Q : VK} {u : Value} (I : Inv X pins σ H s) (h : CE X.stack X.prog X.w H s Q u s') : EP X pins σ Q u s' := by
  obtain ⟨v, H', os, bare, un, hok, r, q⟩ := h
  obtain ⟨hh, g, d, t, os'⟩ := s'
  obtain rfl : os' = s.os := os
  exact ⟨v, H', I.call (h' := hh) (g' := g) (d' := d) (t' := t) (ch := []) un hok bare (fun b z => absurd z (by simp)), r, q⟩
end

/-! ### calls -/
/-- f(..): the written arguments, then the defaults dvs; E: what is wanted of an exception -/
def tCall (sp : Sp) (dvs : List V) (E : XK) (t : TA) : TE := fun σ H Q => t σ H fun vs H1 => sp (vs ++ dvs) H1 Q E
/-- C(..): a new instance and its dict, then __init__ -/
def tMake (C : Addr) (sp : Sp) (dvs : List V) (E : XK) (t : TA) : TE := fun σ H Q => t σ H fun vs H1 => ∀ x dx, H1 x = none → H1 dx = none → dx ≠ x →
  sp (.ref x :: (vs ++ dvs)) (upd (upd H1 dx (.own x)) x (.ins C dx [])) (fun v H2 => v = .non ∧ Q (.ref x) H2) E

/-- how the parameters are bound: us the positional arguments, kw the keywords' values by name, ds the defaults that fill up -/
def Binds (K : PySem.W.Frag) (fd : FuncData) (ps : List Str) (ds : List Value) : Prop :=
  ∀ (s : Shared) (us : List Value), K.In s.heap → (us ++ ds).length = ps.length → BindsTo s fd ⟨us, []⟩ (ps.zip (us ++ ds))
/-- every parameter is given -/
theorem Binds.all {K : PySem.W.Frag} {fd : FuncData} {ps : List Str} (h : ∀ us : List Value, us.length = ps.length → bindArgs fd ⟨us, []⟩ = pure (ps.zip us)) : Binds K fd ps [] := fun s us _ hl => by
  rw [List.append_nil] at hl ⊢
  exact .of_eq (h us hl)

/-- an exception of a callee reaches what this body wants of exceptions -/
def Passes (CX : CXT) (X : Cx) (E : XK) : Prop := ∀ (pins : List (Addr × Obj)) (σ : St) (H : Hp) (s : Shared) (e : Value) (s' : Shared), Inv X pins σ H s → CX X.stack H s E e s' → X.xe e s'

section
variable {X : Cx} {CX : CXT} {k : Nat} {f C : Addr} {fd : FuncData} {ps : List Str} {sp : Sp} {dvs : List V} {ds : List Value} {E : XK} {x m : Str} {p pos apos : Pos} {e o : Expr} {es : List Expr} {ta : TE} {t : TA}

/-- the callee runs -/
theorem run_fn {pins : List (Addr × Obj)} {σ : St} {H : Hp} {s : Shared} {Q : VK} {us : List Value} {vs : List V} (F : FnOk X.prog X.w X.K X.mg X.base CX k f fd ps sp) (hr : Room k X.A) (hb : Binds X.K fd ps ds) (hd : Vals dvs ds) (hx : Passes CX X E)
    (I : Inv X pins σ H s) (r : Vals vs us) (h : sp (vs ++ dvs) H Q E) : wpAny (model X.prog X.w) X.A (call (.ref f) us) (EP X pins σ Q) X.xe s := by
  have r2 : Vals (vs ++ dvs) (us ++ ds) := r.append hd
  have hl : (us ++ ds).length = ps.length := by rw [← r2.length]; exact F.len _ _ _ _ h
  refine wpAny_call (codeAny_mono (F.run X.A X.stack s H ⟨us, []⟩ (us ++ ds) (vs ++ dvs) Q E hr I.env0 (hb s us I.kIn hl) r2 h) fun r s' hq => ?_)
  cases r with
  | error e => exact hx pins σ H s e s' I hq
  | ok fl =>
    cases fl with
    | ret u => exact I.after hq
    | next => exact False.elim hq
    | brk => exact False.elim hq
    | cont => exact False.elim hq

theorem pe_call (F : FnOk X.prog X.w X.K X.mg X.base CX k f fd ps sp) (hr : Room k X.A) (hg : Gl X x) (hm : X.mg x = some (.ref f)) (hk : PySem.W.keepIn X.K (.ref f) = true) (hb : Binds X.K fd ps ds) (hd : Vals dvs ds) (hx : Passes CX X E)
    (ha : PA X (e :: es) t) (hdb : (x == ("__debug__" : Str)) = false := by decide) (he : starEach (e :: es) X.env = (false, eval e X.env) :: starEach es X.env := by rfl) (hpl : (backTo pos (starEach es X.env)).any (·.1) = false := by rfl) :
    PE X (.Call (.Name x p) (e :: es) [] pos) (tCall sp dvs E t) := by
  intro pins s σ H Q I h
  refine wpAny_Call_Name_kw (ld_glob I hg hm ?_ hdb)
  refine PySem.W.callWith_K (h₀ := X.base) I.ok.mod.kin hk (thn (ha pos pins s σ H _ I h) fun us s1 ⟨vs, H1, I1, r, q⟩ => ⟨I1.kIn, ?_⟩) he hpl
  exact run_fn F hr hb hd hx I1 r q


/-- what a class must have to be made -/
structure Mk (K : PySem.W.Frag) (C f : Addr) : Prop where
  makes : PySem.W.makesIn K C = true
  init : PySem.W.findIn K (.ref C) "__init__" = some (some (.ref f))
  fn : PySem.W.isFn K (.ref f) = true
  kp : PySem.W.keepIn K (.ref C) = true

theorem run_make {pins : List (Addr × Obj)} {σ : St} {H : Hp} {s : Shared} {Q : VK} {us : List Value} {vs : List V} (M : Mk X.K C f) (F : FnOk X.prog X.w X.K X.mg X.base CX k f fd ps sp) (hr : Room (k + 1) X.A) (hb : Binds X.K fd ps ds) (hd : Vals dvs ds)
    (hx : Passes CX X E) (I : Inv X pins σ H s) (r : Vals vs us)
    (h : ∀ x dx, H x = none → H dx = none → dx ≠ x → sp (.ref x :: (vs ++ dvs)) (upd (upd H dx (.own x)) x (.ins C dx [])) (fun v H2 => v = .non ∧ Q (.ref x) H2) E) :
    wpAny (model X.prog X.w) X.A (call (.ref C) us) (EP X pins σ Q) X.xe s := by
  have hq := h (s.heap.objs.size + 1) s.heap.objs.size (I.hok.fresh (Nat.le_succ _)) (I.hok.fresh (Nat.le_refl _)) (Nat.ne_of_lt (Nat.lt_succ_self _))
  have I2 := Inv.made (C := C) I
  have r2 : Vals (V.ref (s.heap.objs.size + 1) :: (vs ++ dvs)) (Value.ref (s.heap.objs.size + 1) :: (us ++ ds)) := .cons rfl (r.append hd)
  have hl : (Value.ref (s.heap.objs.size + 1) :: us ++ ds).length = ps.length := by
    have e := r2.length
    rw [F.len _ _ _ _ hq] at e
    exact e.symm
  refine wpAny_call (make_map (f := f) I.kIn M.makes M.init (beq_iff_eq.mp M.fn) (codeAny_mono (F.run _ X.stack _ _ ⟨Value.ref (s.heap.objs.size + 1) :: us, []⟩ (Value.ref (s.heap.objs.size + 1) :: (us ++ ds)) _ _ E (hr.make C us [])
    (I2.env0.make C us []) (hb _ (Value.ref (s.heap.objs.size + 1) :: us) I2.kIn hl) r2 hq) fun r s' hq' => ?_))
  cases r with
  | error e => exact hx pins σ _ _ e s' I2 hq'
  | ok fl =>
    cases fl with
    | ret u =>
      obtain ⟨v, H', I3, rv, ev, q3⟩ := I2.after hq'
      subst ev
      exact ⟨rv, ⟨V.ref (s.heap.objs.size + 1), H', I3, rfl, q3⟩⟩
    | next => exact False.elim hq'
    | brk => exact False.elim hq'
    | cont => exact False.elim hq'
theorem pe_make (M : Mk X.K C f) (F : FnOk X.prog X.w X.K X.mg X.base CX k f fd ps sp) (hr : Room (k + 1) X.A) (hg : Gl X x) (hm : X.mg x = some (.ref C)) (hb : Binds X.K fd ps ds) (hd : Vals dvs ds) (hx : Passes CX X E)
    (ha : PA X (e :: es) t) (hdb : (x == ("__debug__" : Str)) = false := by decide) (he : starEach (e :: es) X.env = (false, eval e X.env) :: starEach es X.env := by rfl) (hpl : (backTo pos (starEach es X.env)).any (·.1) = false := by rfl) :
    PE X (.Call (.Name x p) (e :: es) [] pos) (tMake C sp dvs E t) := by
  intro pins s σ H Q I h
  refine wpAny_Call_Name_kw (ld_glob I hg hm ?_ hdb)
  refine PySem.W.callWith_K (h₀ := X.base) I.ok.mod.kin M.kp (thn (ha pos pins s σ H _ I h) fun us s1 ⟨vs, H1, I1, r, q⟩ => ⟨I1.kIn, ?_⟩) he hpl
  exact run_make M F hr hb hd hx I1 r q
end

/-! ### keywords -/
/-- the values of the keywords, from the left -/
def PK (X : Cx) (kws : List Keyword) (t : TA) : Prop :=
  ∀ (pos : Pos) (pins : List (Addr × Obj)) (s : Shared) (σ : St) (H : Hp) (Q : List V → Hp → Prop), Inv X pins σ H s → t σ H Q → wpAny (model X.prog X.w) X.A (evalAll ((backToKw pos (keywordEach kws X.env)).map (·.2))) (AP X pins σ Q) X.xe s
section
variable {X : Cx} {CX : CXT} {k : Nat} {f C : Addr} {fd : FuncData} {ps ks : List Str} {sp : Sp} {E : XK} {x m : Str} {p pos apos kpos : Pos} {e o : Expr} {es : List Expr} {kws : List Keyword} {te ta : TE} {t tk : TA} {nm : Option Str}
theorem pk_nil : PK X [] tNil := fun _ _ _ _ H Q I h => wpAny_evalAll_nil ⟨[], H, I, .nil, h⟩
theorem pk_cons (ha : PE X e te) (hr : PK X kws t) : PK X (⟨nm, e, kpos⟩ :: kws) (tCons te t) := by
  intro pos pins s σ H Q I h
  show wpAny _ _ (evalAll ((do let v ← eval e X.env; standAt pos; pure v) :: (backToKw pos (keywordEach kws X.env)).map (·.2))) _ _ s
  refine wpAny_evalAll_cons (wpAny_bind (thn (ha pins s σ H _ I h) fun u s1 ⟨x, H1, I1, r1, q1⟩ => wpAny_bind (wpAny_standAt (wpAny_pure ?_))))
  exact thn (hr pos pins s1 σ H1 _ I1 q1) fun us s2 ⟨xs, H2, I2, r2, q2⟩ => ⟨x :: xs, H2, I2, .cons r1 r2, q2⟩

variable {g : List Value → List Value → List Value} {gV : List V → List V → List V}
end

/-! ### a def's body keeps its promise -/
/-- names: the parameters first -/
structure FnScope (N P : List Str) (sc : Scope) : Prop where
  kind : sc.kind = .function
  co : sc.isCoroutine = false
  gen : sc.isGenerator = false
  nd : N.Nodup
  pre : N.take P.length = P
  par : ∀ x ∈ P, sc.names.lookup x = some .local ∨ sc.names.lookup x = some .cell
  nofree : ∀ y ∈ sc.names, y.2 ≠ .free

theorem bindL_out {kindOf : Str → Option NameKind} {x : Str} : ∀ {binds : List (Str × Value)} {m : Str → Option Value}, (∀ v, (x, v) ∉ binds) → bindL kindOf binds m x = m x
  | [], _, _ => rfl
  | (n, v) :: r, m, h => by
    unfold bindL
    rw [bindL_out fun w hw => h w (List.mem_cons_of_mem _ hw)]
    split
    · have : x ≠ n := by rintro rfl; exact h v List.mem_cons_self
      simp [this]
    · rfl
theorem bindC_out {kindOf : Str → Option NameKind} {x : Str} : ∀ {binds : List (Str × Value)} {m : Str → Option Value}, (∀ v, (x, v) ∉ binds) → bindC kindOf binds m x = m x
  | [], _, _ => rfl
  | (n, v) :: r, m, h => by
    unfold bindC
    rw [bindC_out fun w hw => h w (List.mem_cons_of_mem _ hw)]
    split
    · rfl
    · have : x ≠ n := by rintro rfl; exact h v List.mem_cons_self
      simp [this]
theorem bindL_get {kindOf : Str → Option NameKind} {x : Str} {v : Value} : ∀ {P : List Str} {vs : List Value} {i : Nat} {m : Str → Option Value}, P.Nodup → P[i]? = some x → vs[i]? = some v → kindOf x = some .local →
    bindL kindOf (P.zip vs) m x = some v
  | [], _, _, _, _, h, _, _ => by simp at h
  | _ :: _, [], _, _, _, _, h, _ => by simp at h
  | p :: P, w :: vs, 0, m, nd, h1, h2, hk => by
    simp at h1 h2; subst h1; subst h2
    show bindL kindOf ((p, w) :: P.zip vs) m p = _
    unfold bindL
    rw [bindL_out fun v hv => (List.nodup_cons.mp nd).1 (List.of_mem_zip hv).1, if_pos hk]
    simp
  | p :: P, w :: vs, i + 1, m, nd, h1, h2, hk => by
    show bindL kindOf ((p, w) :: P.zip vs) m x = _
    unfold bindL
    exact bindL_get (i := i) (List.nodup_cons.mp nd).2 (by simpa using h1) (by simpa using h2) hk
theorem bindC_get {kindOf : Str → Option NameKind} {x : Str} {v : Value} : ∀ {P : List Str} {vs : List Value} {i : Nat} {m : Str → Option Value}, P.Nodup → P[i]? = some x → vs[i]? = some v → kindOf x ≠ some .local →
    bindC kindOf (P.zip vs) m x = some v
  | [], _, _, _, _, h, _, _ => by simp at h
  | _ :: _, [], _, _, _, _, h, _ => by simp at h
  | p :: P, w :: vs, 0, m, nd, h1, h2, hk => by
    simp at h1 h2; subst h1; subst h2
    show bindC kindOf ((p, w) :: P.zip vs) m p = _
    unfold bindC
    rw [bindC_out fun v hv => (List.nodup_cons.mp nd).1 (List.of_mem_zip hv).1, if_neg hk]
    simp
  | p :: P, w :: vs, i + 1, m, nd, h1, h2, hk => by
    show bindC kindOf ((p, w) :: P.zip vs) m x = _
    unfold bindC
    exact bindC_get (i := i) (List.nodup_cons.mp nd).2 (by simpa using h1) (by simpa using h2) hk

/-- the names' values at the entry -/
def start (N : List Str) (vs : List V) : St := vs.map some ++ List.replicate (N.length - vs.length) none

/-- the context of a def's body, at its entry; an exception leaves the frame, then lies as CX says -/
def cxOf (CX : CXT) (P : Program) (w : World) (K : PySem.W.Frag) (mg : Str → Option Value) (base : Heap) (N : List Str) (qual : Str) (scope : Scope) (f : Addr) (cd : Value) (A : Around) (outer : List Env) (s : Shared) (H : Hp) (E : XK) : Cx where
  prog := P
  w := w
  K := K
  mg := mg
  base := base
  A := A.deeper (envOfC qual scope s.heap.objs.size f cd)
  N := N
  s₀ := s
  H₀ := H
  env := envOfC qual scope s.heap.objs.size f cd
  outer := outer
  stack := envOfC qual scope s.heap.objs.size f cd :: outer
  ex := []
  calm := true
  fn := fun _ => true
  pn := []
  xe := fun e s' => wpAny (model P w) (A.deeper (envOfC qual scope s.heap.objs.size f cd)) (leaving (envOfC qual scope s.heap.objs.size f cd) e) (fun _ s'' => CX outer H s E e s'') (fun e' s'' => CX outer H s E e' s'') s'

theorem cell_has {sc : Scope} {n : Nat} {x : Str} (h : sc.names.lookup x = some .cell) : ∃ c, (cellsFrom n sc.names []).lookup x = some c := by
  have q := PySem.W.cellsFrom_some sc.names n [] (.inl h)
  exact Option.isSome_iff_exists.mp q

theorem inv_start {CX : CXT} {P : Program} {w : World} {K : PySem.W.Frag} {mg : Str → Option Value} {base : Heap} {N ps : List Str} {qual : Str} {scope : Scope} {f : Addr} {cd : Value} {A : Around} {outer : List Env} {s s1 : Shared} {H : Hp} {E : XK} {us : List Value} {vs : List V}
    (S : FnScope N ps scope) (hd : A.handled = none) (e0 : Env0 P w K mg base A outer s H) (hl : vs.length = ps.length) (r : Vals vs us)
    (x : InCallC s s.heap.objs.size (bindL (envOfC qual scope s.heap.objs.size f cd).kindOf (ps.zip us) fun _ => none) (cellsFrom (s.heap.objs.size + 1) scope.names []) (bindC (envOfC qual scope s.heap.objs.size f cd).kindOf (ps.zip us) fun _ => none) s1) :
    Inv (cxOf CX P w K mg base N qual scope f cd A outer s H E) [] (start N vs) H s1 := by
  have hpl : ps.length ≤ N.length := by have := congrArg List.length S.pre; rw [List.length_take] at this; omega
  obtain ⟨h1, tk, rfl, hk⟩ := x.done
  have noA : ∀ b : Addr, b ∉ (cxOf CX P w K mg base N qual scope f cd A outer s H E).ex := fun b z => absurd (show b ∈ ([] : List Addr) from z) (by simp)
  refine ⟨⟨e0.mod, S.kind, rfl, rfl, Nat.le_refl _, fun y z c h1 h2 => ?_, fun y hy => ?_, fun y c _ h => ?_, fun _ => hd, Around.frames_deeper e0.frames, .inr ⟨rfl, rfl⟩, fun b z => absurd z (noA b), e0.bs, e0.bsz, fun b _ _ => noA b, fun b z => absurd z (noA b), e0.funs, e0.frf⟩,
    rfl, e0.bare, Un.kept hk, ⟨_, x.toInCall.ns, fun i y v h1 h2 h3 => ?_⟩, fun y c h => ⟨_, x.cell y c h⟩, e0.hok.fresh (Nat.le_refl _), fun y c h => ?_, fun p hp => absurd (show p ∈ ([] : List (Addr × Obj)) from hp) (by simp), e0.hok.kept hk, ?_⟩
  · exact name_of_addr x.apart (PySem.mem_of_lookup h1) (PySem.mem_of_lookup h2)
  · have hy : scope.names.lookup y = some .cell ∨ scope.names.lookup y = some .free := hy
    rcases hy with hy | hy
    · exact cell_has hy
    · exact absurd rfl (S.nofree _ (PySem.mem_of_lookup hy))
  · exact Nat.le_of_lt (x.above y c (PySem.mem_of_lookup h))
  · have hi : i < vs.length := by
      unfold start at h2
      by_cases hi : i < vs.length
      · exact hi
      · rw [List.getElem?_append_right (by simpa using hi)] at h2
        rw [List.getElem?_replicate] at h2
        split at h2 <;> cases h2
    have ha : vs[i]? = some v := by
      unfold start at h2
      rw [List.getElem?_append_left (by simpa using hi), List.getElem?_map] at h2
      cases e : vs[i]? with
      | none => rw [e] at h2; cases h2
      | some a => rw [e] at h2; cases h2; rfl
    obtain ⟨u, hu, rv⟩ := r.get ha
    have hp : ps[i]? = some y := by
      rw [← S.pre, List.getElem?_take_of_lt (by omega)]; exact h1
    have ndP : ps.Nodup := by rw [← S.pre]; exact S.nd.sublist (List.take_sublist _ _)
    refine ⟨u, rv, ?_⟩
    rcases S.par y (List.mem_of_getElem? hp) with k | k
    · exact .inl ⟨k, bindL_get ndP hp hu k⟩
    · obtain ⟨c, e⟩ := cell_has (n := s.heap.objs.size + 1) k
      refine .inr ⟨.inl k, c, e, ?_⟩
      have q := x.cell y c e
      rw [bindC_get ndP hp hu (by show scope.names.lookup y ≠ _; rw [k]; decide)] at q
      exact q
  · exact e0.hok.fresh (Nat.le_of_lt (x.above y c (PySem.mem_of_lookup h)))
  · unfold start
    show _ = N.length
    rw [List.length_append, List.length_map, List.length_replicate]
    omega

/-- THE RULE: a def (or a method) of the text, by its body. The body's reading t is chosen for each entry; it is run at the parameters' values -/
theorem fn_of {CX : CXT} {P : Program} {w : World} {K : PySem.W.Frag} {mg : Str → Option Value} {base : Heap} {k : Nat} {f : Addr} {name qual : Str} {params : Arguments} {body : List Stmt} {scope : Scope} {dV kV doc pm cdv ct oc : Value} {an od : Option Addr}
    {osl : Array (Option Value)} {N ps : List Str} {sp : Sp} (lk : K.lookup f = some ⟨oc, od, .func (PySem.W.fnOf name qual params body scope dV kV doc pm an cdv ct), osl⟩) (hcd : PySem.W.codeIn K cdv qual = true) (S : FnScope N ps scope)
    (len : ∀ vs H Q E, sp vs H Q E → vs.length = ps.length)
    (hbody : ∀ (A : Around) (outer : List Env) (s : Shared) (H : Hp) (vs : List V) (Q : VK) (E : XK), Room k (A.deeper (envOfC qual scope s.heap.objs.size f cdv)) → sp vs H Q E →
      ∃ t, PSs (cxOf CX P w K mg base N qual scope f cdv A outer s H E) body t ∧ t { nx := fun _ H' => Q .non H', rt := Q } (start N vs) H) :
    FnOk P w K mg base CX (k + 1) f (PySem.W.fnOf name qual params body scope dV kV doc pm an cdv ct) ps sp := by
  refine ⟨len, fun A outer s H args us vs Q E hr e0 hb r hsp => ?_⟩
  have hl := len _ _ _ _ hsp
  have KX : K.In s.heap := e0.mod.kin.keeps fun b o e => (e0.bs b o e).1
  have lim : s.heap.NoLimit := e0.mod.nolimit.keeps fun b o e => (e0.bs b o e).1
  have hkind : ∀ y ∈ ps.zip us, scope.names.lookup y.1 = some .local ∨ (scope.names.lookup y.1 = some .cell ∧ ((cellsFrom (s.heap.objs.size + 1) scope.names []).lookup y.1).isSome = true) := fun ⟨n, v⟩ hy => by
    rcases S.par n (List.of_mem_zip hy).1 with q | q
    · exact .inl q
    · exact .inr ⟨q, PySem.W.cellsFrom_some _ _ _ (.inl q)⟩
  refine codeAny_call_function hr.depth (KX _ _ lk) rfl S.co S.gen rfl (PySem.W.codeRec_of KX hcd) (hb _ _ _ _ ?_)
  refine wpAny_newFunctionEnv_cells S.kind hkind fun env he s1 x => ?_
  subst he
  refine ⟨lim.keeps x.toInCall.keep, codeAny_func ?_⟩
  obtain ⟨t, ht, hq⟩ := hbody A outer s H vs Q E (hr.deeper _) hsp
  have I : Inv (cxOf CX P w K mg base N qual scope f cdv A outer s H E) [] (start N vs) H s1 := inv_start S hr.hd e0 hl r x
  refine wpAny_mono (ht [] s1 (start N vs) H _ I hq) (fun fl s' hs => ?_) fun e s' hs => hs
  have fin : ∀ {σ' : St} {H' : Hp} {v : V} {u : Value}, Inv (cxOf CX P w K mg base N qual scope f cdv A outer s H E) [] σ' H' s' → RelV v u → Q v H' → CE outer P w H s Q u s' :=
    fun {σ' H' v u} J rv q => ⟨v, H', J.os, J.bare, J.base, J.hok, rv, q⟩
  cases fl with
  | ret u =>
    obtain ⟨v, σ', H', J, rv, q⟩ := hs
    exact fin J rv q
  | next =>
    obtain ⟨σ', H', J, q⟩ := hs
    exact fin (v := V.non) (u := Value.none) J rfl q
  | brk =>
    obtain ⟨_, _, _, q⟩ := hs
    exact False.elim q
  | cont =>
    obtain ⟨_, _, _, q⟩ := hs
    exact False.elim q
end L2

namespace L2
open PySem PySem.Spec PyProof.Rows
section
variable {X : Cx} {x : Str} {p pos : Pos} {e : Expr} {es : List Expr} {t : TA} {id T : String} {r : List V → Hp → VK → Prop}

def tCB (r : List V → Hp → VK → Prop) (t : TA) : TE := fun σ H Q => t σ H fun vs H1 => r vs H1 Q
/-- f(e, ..), f a built-in function -/
theorem pe_callB (hc : CallR X (.builtin id) r) (hg : Gl X x) (hm : X.mg x = none) (hv : bootBuiltins x = some (.builtin id)) (ha : PA X (e :: es) t) (hn : x ≠ "__name__" := by decide) (hdb : (x == ("__debug__" : Str)) = false := by decide)
    (he : starEach (e :: es) X.env = (false, eval e X.env) :: starEach es X.env := by rfl) (hpl : (backTo pos (starEach es X.env)).any (·.1) = false := by rfl) : PE X (.Call (.Name x p) (e :: es) [] pos) (tCB r t) := by
  intro pins s σ H Q I h
  refine wpAny_Call_Name_kw (ld_blt I hg hm hv ?_ hn hdb)
  exact PyProof.Rows.callWith_builtin1 (thn (ha pos pins s σ H _ I h) fun us s1 ⟨vs, H1, I1, r1, q1⟩ => hc pins s1 σ H1 vs us Q I1 r1 q1) he hpl
/-- T(e, ..), T a built-in type -/
theorem pe_callTy (hc : CallR X (.type T) r) (hg : Gl X x) (hm : X.mg x = none) (hv : bootBuiltins x = some (.type T)) (ha : PA X (e :: es) t) (hn : x ≠ "__name__" := by decide) (hdb : (x == ("__debug__" : Str)) = false := by decide)
    (he : starEach (e :: es) X.env = (false, eval e X.env) :: starEach es X.env := by rfl) (hpl : (backTo pos (starEach es X.env)).any (·.1) = false := by rfl) : PE X (.Call (.Name x p) (e :: es) [] pos) (tCB r t) := by
  intro pins s σ H Q I h
  refine wpAny_Call_Name_kw (ld_blt I hg hm hv ?_ hn hdb)
  exact PyProof.Rows.callWith_type1 (thn (ha pos pins s σ H _ I h) fun us s1 ⟨vs, H1, I1, r1, q1⟩ => hc pins s1 σ H1 vs us Q I1 r1 q1) he hpl
end
end L2

namespace HT
open PySem PyProof.Rows



section
open PySem.SeqAt
open PySem.AutoSeq1 (wpAny_loadPart')
open PySem.MeetsSeq PySem.MeetsSeq2 PySem.MeetsSeq3

end

section
variable {prog : Program} {w : World} {A : Around} {E : Value → Shared → Prop} {s : Shared}



/-! ### t[a:b], not the whole -/
/-- a slice's bound as a place among n (d where it is left out) -/
def sIx (n d : Nat) : Option Int → Nat
  | none => d
  | some v => if v < 0 then (v + (n : Int)).toNat else min v.toNat n
theorem sIx_none (n d : Nat) : sIx n d none = d := rfl
theorem sIx_nat (n d k : Nat) : sIx n d (some (k : Int)) = min k n := by
  show (if (k : Int) < 0 then ((k : Int) + (n : Int)).toNat else min (k : Int).toNat n) = min k n
  rw [if_neg (by omega), Int.toNat_natCast]

end
end HT

namespace L2
open PySem PySem.Spec PyProof.Rows

/-! ### the parts of a slice -/
abbrev TO := St → Hp → (Option Int → Hp → Prop) → Prop
/-- a slice's part (left out, or an int) -/
def PO (X : Cx) (e : Option Expr) (t : TO) : Prop :=
  ∀ (pins : List (Addr × Obj)) (s : Shared) (σ : St) (H : Hp) (Q : Option Int → Hp → Prop), Inv X pins σ H s → t σ H Q →
    wpAny (model X.prog X.w) X.A (evalPart e X.env) (fun u s' => ∃ o H', Inv X pins σ H' s' ∧ IsPart u o ∧ Q o H') X.xe s
def tNoPart : TO := fun _ H Q => Q none H
def tPart (t : TE) : TO := fun σ H Q => t σ H fun x H1 => ∃ i, x = .int i ∧ Q (some i) H1

theorem intsAre_of {ns : List Int} : ∀ {us : List Value}, Vals (ns.map V.int) us → IntsAre us ns := by
  induction ns with
  | nil => intro us r; rw [List.map_nil] at r; cases r; exact .nil
  | cons n ns ih =>
    intro us r
    rw [List.map_cons] at r
    cases r with
    | cons r1 r2 =>
      obtain ⟨t, e⟩ := r1
      subst e
      exact .cons n t (ih r2)

section
variable {X : Cx} {e : Expr} {te : TE} {lo hi : Option Expr} {tl th : TO} {pos p2 : Pos}

theorem po_none : PO X none tNoPart := by
  intro pins s σ H Q I h
  rw [evalPart_none]
  exact wpAny_pure ⟨none, H, I, .none, h⟩
theorem po_some (h : PE X e te) : PO X (some e) (tPart te) := by
  intro pins s σ H Q I hw
  rw [evalPart_some]
  refine thn (h pins s σ H _ I hw) ?_
  rintro u s1 ⟨x, H1, I1, r1, q1⟩
  obtain ⟨i, rfl, q⟩ := q1
  obtain ⟨t, rfl⟩ := r1
  exact ⟨some i, H1, I1, .int i t, q⟩

/-- what a slice of a value is, by values: the slice object stands at sl -/
def SlR (X : Cx) (r : V → Option Int → Option Int → Hp → VK → Prop) : Prop :=
  ∀ (pins : List (Addr × Obj)) (s : Shared) (σ : St) (H : Hp) (x : V) (v vl vu : Value) (lo hi : Option Int) (sl : Addr) (Q : VK), Inv X pins σ H s → RelV x v → s.heap.IsSliceOf sl vl vu .none → IsPart vl lo → IsPart vu hi → r x lo hi H Q →
    ∃ T id, typeLookup (.type T) "__getitem__" = pure (some (.builtin id)) ∧ s.TypeIs v T ∧ wpAny (model X.prog X.w) X.A (getItem v (.ref sl)) (EP X pins σ Q) X.xe s
def tSl (r : V → Option Int → Option Int → Hp → VK → Prop) (te : TE) (tl th : TO) : TE := fun σ H Q => te σ H fun x H1 => tl σ H1 fun l H2 => th σ H2 fun u H3 => r x l u H3 Q
/-- a[lo:hi], any a -/
theorem pe_slice {r : V → Option Int → Option Int → Hp → VK → Prop} (hr : SlR X r) (he : PE X e te) (hl : PO X lo tl) (hu : PO X hi th) : PE X (.Subscript e (.Slice lo hi none p2) pos) (tSl r te tl th) := by
  intro pins s σ H Q I h
  refine Subscript_ (thn (he pins s σ H _ I h) ?_)
  rintro v s1 ⟨x, H1, I1, r1, q1⟩
  refine wpAny_Slice (thn (hl pins s1 σ H1 _ I1 q1) fun vl s2 ⟨l, H2, I2, pl, q2⟩ => thn (hu pins s2 σ H2 _ I2 q2) ?_)
  rintro vu s3 ⟨u, H3, I3, pu, q3⟩
  rw [evalPart_none]
  refine wpAny_pure ?_
  have I4 : Inv X pins σ H3 { s3 with heap := s3.heap.push { cls := .type "slice", data := .fields #[vl, vu, .none] } } := I3.kept (t' := s3.toks) fun b ob q => Heap.get?_push_of_some _ q
  obtain ⟨T, id, hT, ht, hg⟩ := hr pins { s3 with heap := s3.heap.push { cls := .type "slice", data := .fields #[vl, vu, .none] } } σ H3 x v vl vu l u s3.heap.objs.size Q I4 r1 (Heap.IsSliceOf.new ..) pl pu q3
  show wpAny (model X.prog X.w) X.A (subscriptTail e (.Slice lo hi none p2) v (.ref s3.heap.objs.size)) (EP X pins σ Q) X.xe { s3 with heap := s3.heap.push { cls := .type "slice", data := .fields #[vl, vu, .none] } }
  exact tail_any (ops := [.ref s3.heap.objs.size, v]) ht hT hg (by with_unfolding_all rfl)

/-- the items of xs[lo:hi] -/
def cutV (xs : List V) (lo hi : Option Int) : List V := (xs.drop (HT.sIx xs.length 0 lo)).take (HT.sIx xs.length xs.length hi - HT.sIx xs.length 0 lo)
theorem cutV_length (xs : List V) (lo hi : Option Int) : (cutV xs lo hi).length ≤ xs.length := by
  unfold cutV
  rw [List.length_take, List.length_drop]
  omega

/-! ### t < u, t + u -/
end
end L2

namespace L2
open PySem PySem.Spec PyProof.Rows

/-! ### places -/
/-- the place that an index of any sign means -/
def ixN (n : Nat) (i : Int) : Option Nat := if 0 ≤ i then (if i < n then some i.toNat else none) else if -(n : Int) ≤ i then some (i + n).toNat else none
def atI {α : Type} (xs : List α) (i : Int) : Option α := (ixN xs.length i).bind fun j => xs[j]?
theorem ixN_seq {n : Nat} {i : Int} {j : Nat} (h : ixN n i = some j) : seqIndex? i n = some j ∧ j < n ∧ -(n : Int) ≤ i ∧ i < n := by
  unfold ixN at h
  by_cases h0 : 0 ≤ i
  · rw [if_pos h0] at h
    by_cases h1 : i < n
    · rw [if_pos h1] at h
      have e : i.toNat = j := Option.some.inj h
      exact ⟨by rw [seqIndex_of h0 h1, e], by omega, by omega, h1⟩
    · rw [if_neg h1] at h; cases h
  · rw [if_neg h0] at h
    by_cases h1 : -(n : Int) ≤ i
    · rw [if_pos h1] at h
      have e : (i + n).toNat = j := Option.some.inj h
      exact ⟨by rw [seqIndex_neg (by omega) h1, e], by omega, h1, by omega⟩
    · rw [if_neg h1] at h; cases h
theorem atI_get {α : Type} {xs : List α} {i : Int} {v : α} (h : atI xs i = some v) : ∃ j, seqIndex? i xs.length = some j ∧ xs[j]? = some v ∧ j < xs.length ∧ -(xs.length : Int) ≤ i ∧ i < xs.length := by
  unfold atI at h
  cases e : ixN xs.length i with
  | none => rw [e] at h; cases h
  | some j =>
    rw [e] at h
    obtain ⟨h1, h2, h3, h4⟩ := ixN_seq e
    exact ⟨j, h1, h, h2, h3, h4⟩

/-! ### what may be subscripted -/
/-- what stands as an index of a plain subscript -/
def PlainIx (b : Expr) : Prop := ∀ o i, subscripted b false o i = operate [o, i] (getItem o i)
/-- a subscript by values -/
def IxR (X : Cx) (r : R2) : Prop :=
  ∀ (value slice : Expr) (pins : List (Addr × Obj)) (s : Shared) (σ : St) (H : Hp) (x y : V) (v u : Value) (Q : VK), Inv X pins σ H s → RelV x v → RelV y u → r x y H Q →
    subscripted slice false v u = operate [v, u] (getItem v u) → wpAny (model X.prog X.w) X.A (subscriptTail value slice v u) (EP X pins σ Q) X.xe s
/-- a call of a builtin's method by values: the receiver, the arguments -/
def MtR (X : Cx) (id : String) (r : V → List V → Hp → VK → Prop) : Prop :=
  ∀ (pins : List (Addr × Obj)) (s : Shared) (σ : St) (H : Hp) (x : V) (xs : List V) (v : Value) (us : List Value) (Q : VK), Inv X pins σ H s → RelV x v → Vals xs us → r x xs H Q →
    wpAny (model X.prog X.w) X.A (call (.builtin id) (v :: us)) (EP X pins σ Q) X.xe s
section
variable {X : Cx} {a b : Expr} {ta tb : TE} {pos : Pos}
/-- a[b] -/
theorem pe_ix {r : R2} (hr : IxR X r) (ha : PE X a ta) (hb : PE X b tb) (hs : PlainIx b) : PE X (.Subscript a b pos) (tOp r ta tb) := by
  intro pins s σ H Q I h
  exact Subscript_ (binT ha hb I h fun v u s2 x y H2 I2 rx ry q => hr a b pins s2 σ H2 x y v u Q I2 rx ry q (hs _ _))

def rIxL (K : PySem.W.Frag) : R2 := fun x y H Q => ∃ p xs i v, x = .ref p ∧ y = .int i ∧ SqL K H p xs ∧ atI xs i = some v ∧ Q v H
def rIxT (K : PySem.W.Frag) : R2 := fun x y H Q => ∃ p xs i v, x = .ref p ∧ y = .int i ∧ SqT K H p xs ∧ atI xs i = some v ∧ Q v H
def rIxS : R2 := fun x y H Q => ∃ z i c, x = .str z ∧ y = .int i ∧ z.length ≤ sizeLine ∧ atI z.cps.toList i = some c ∧ Q (.str ⟨#[c]⟩) H
theorem ix_list : IxR X (rIxL X.K) := by
  intro value slice pins s σ H x y v u Q I rx ry h hs
  obtain ⟨p, xs, i, z, rfl, rfl, hq, he, q⟩ := h
  cases rx
  obtain ⟨t, rfl⟩ := ry
  obtain ⟨its, r, pl, hz⟩ := I.list hq
  obtain ⟨j, h1, h2, h3, h4, h5⟩ := atI_get he
  obtain ⟨w, ew, rw'⟩ := r.get h2
  have hl := r.length
  have hn := line63
  have fin : EP X pins σ Q w s := ⟨z, H, I, rw', q⟩
  by_cases h0 : 0 ≤ i
  · have hj : i.toNat = j := by
      rw [seqIndex_of h0 h5] at h1
      exact Option.some.inj h1
    exact item_listR pl.isList h0 (by omega) (by rw [hj]; simpa using ew) fin hs
  · have hj : (i + (its.toArray.size : Int)).toNat = j := by
      rw [seqIndex_neg (by omega) h4] at h1
      rw [List.size_toArray, ← hl]
      exact Option.some.inj h1
    exact subscriptTail_builtinR (x := w) pl.isList.typeIs slot_list_getitem.lookup
      (wpAny_getItem_list_neg (Q := fun r s' => r = w ∧ EP X pins σ Q r s') pl.isList (by omega) (by rw [List.size_toArray] <;> omega) (by omega) (by rw [hj]; simpa using ew) ⟨rfl, fin⟩) hs
theorem ix_tup : IxR X (rIxT X.K) := by
  intro value slice pins s σ H x y v u Q I rx ry h hs
  obtain ⟨p, xs, i, z, rfl, rfl, hq, he, q⟩ := h
  cases rx
  obtain ⟨t, rfl⟩ := ry
  obtain ⟨its, r, pl, hz⟩ := I.tuple hq
  obtain ⟨j, h1, h2, h3, h4, h5⟩ := atI_get he
  obtain ⟨w, ew, rw'⟩ := r.get h2
  have hl := r.length
  have hn := line63
  have fin : EP X pins σ Q w s := ⟨z, H, I, rw', q⟩
  exact subscriptTail_builtinR (x := w) pl.typeIs slot_tuple_getitem.lookup
    (getItem_tuple (j := j) (Q := fun r s' => r = w ∧ EP X pins σ Q r s') pl (by omega) (by omega) (by rw [List.size_toArray, ← hl]; exact h1) (by simpa using ew) ⟨rfl, fin⟩) hs
theorem ix_str : IxR X rIxS := by
  intro value slice pins s σ H x y v u Q I rx ry h hs
  obtain ⟨z, i, c, rfl, rfl, hz, he, q⟩ := h
  obtain ⟨t, rfl⟩ := rx
  obtain ⟨t', rfl⟩ := ry
  obtain ⟨j, h1, h2, h3, h4, h5⟩ := atI_get he
  have hl : z.cps.toList.length = z.length := by simp [Str.length]
  rw [hl] at h1 h4 h5
  have hn := line63
  exact tail_any (typeIs_str s z t) slot_str_getitem.lookup (getItem_str (c := c) (by
    have e1 : decide (i < -(2 ^ 63 : Int)) = false := decide_eq_false (by omega)
    have e2 : decide (i ≥ 2 ^ 63) = false := decide_eq_false (by omega)
    rw [e1, e2, Bool.or_false]) (by rw [h1]; simpa using h2) ⟨.str ⟨#[c]⟩, H, I.tok _, ⟨_, rfl⟩, q⟩) hs

/-! ### xs[i] = v, any sign -/

/-! ### slices -/
theorem slice_bounds (lo hi : Option Int) (n : Nat) : (sliceBounds lo hi none n).1 = ((HT.sIx n 0 lo : Nat) : Int) ∧ (sliceBounds lo hi none n).2.1 = ((HT.sIx n n hi : Nat) : Int) ∧ (sliceBounds lo hi none n).2.2 = 1 := by
  refine ⟨?_, ?_, rfl⟩
  · cases lo with
    | none => simp [sliceBounds, HT.sIx]
    | some i =>
      simp only [sliceBounds, HT.sIx, Option.getD_none, show (1 : Int) > 0 by decide, if_true]
      by_cases h : i < 0
      · simp only [h, if_true] <;> omega
      · simp only [h, if_false] <;> omega
  · cases hi with
    | none => simp [sliceBounds, HT.sIx]
    | some i =>
      simp only [sliceBounds, HT.sIx, Option.getD_none, show (1 : Int) > 0 by decide, if_true]
      by_cases h : i < 0
      · simp only [h, if_true] <;> omega
      · simp only [h, if_false] <;> omega
theorem slicePick_cut (its : List Value) (lo hi : Option Int) : slicePick its.toArray lo hi none = ((its.drop (HT.sIx its.length 0 lo)).take (HT.sIx its.length its.length hi - HT.sIx its.length 0 lo)).toArray := by
  obtain ⟨h1, h2, h3⟩ := slice_bounds lo hi its.toArray.size
  unfold slicePick
  rw [h1, h2, h3]
  simp only [sliceRange_one, pick_run, List.size_toArray] <;> rfl
/-- xs[lo:hi] of a list: a new list -/
def rSlL (K : PySem.W.Frag) : V → Option Int → Option Int → Hp → VK → Prop := fun x lo hi H Q => ∃ a xs, x = .ref a ∧ SqL K H a xs ∧ ∀ p, H p = none → Q (.ref p) (upd H p (.lst (cutV xs lo hi)))
theorem sl_list : SlR X (rSlL X.K) := by
  intro pins s σ H x v vl vu lo hi sl Q I rx hs pl pu h
  obtain ⟨a, xs, rfl, hx, q⟩ := h
  cases rx
  obtain ⟨its, r, ht, hz⟩ := I.list hx
  have hlen := r.length
  refine ⟨"list", _, slot_list_getitem.lookup, ht.isList.typeIs, ?_⟩
  refine wpAny_getItem_list_slice ht.isList hs pl pu .none (by simp) ?_ (by rw [List.size_toArray] <;> omega)
  rw [slicePick_cut, ← hlen]
  refine ⟨.ref s.heap.objs.size, _, I.laid (t' := s.toks) (o := .lst (cutV xs lo hi)) (fun b ob q => Heap.get?_push_of_some _ q) (Nat.le_refl _) ?_, rfl, q _ (I.hok.fresh (Nat.le_refl _))⟩
  exact ⟨Nat.le_trans (cutV_length xs lo hi) hz, _, 0, (r.drop (HT.sIx xs.length 0 lo)).take (HT.sIx xs.length xs.length hi - HT.sIx xs.length 0 lo), Heap.get?_push_size _ rfl⟩

/-! ### in, not in: flat items -/
def flatV : V → Bool
  | .non => true
  | .bl _ => true
  | .int _ => true
  | .str _ => true
  | _ => false
/-- == of flat values -/
def eqV : V → V → Bool
  | .non, .non => true
  | .bl a, .bl b => a == b
  | .bl a, .int b => (if a then 1 else 0) == b
  | .int a, .bl b => a == (if b then 1 else 0)
  | .int a, .int b => a == b
  | .str a, .str b => a == b
  | _, _ => false
theorem eqAt_V {A : Around} {s : Shared} {y x : V} {u v : Value} (ry : RelV y u) (rx : RelV x v) (fy : flatV y = true) (fx : flatV x = true) : SeqAt.EqAt A s u v (eqV y x) := by
  cases y with
  | non =>
    cases ry
    cases x with
    | non => cases rx; exact SeqAt.EqAt.same _
    | bl b => cases rx; exact SeqAt.EqAt.none_bool b
    | int b => obtain ⟨t, rfl⟩ := rx; exact SeqAt.EqAt.none_int b t
    | str b => obtain ⟨t, rfl⟩ := rx; exact SeqAt.EqAt.none_str b t
    | _ => exact absurd (show false = true from fx) Bool.false_ne_true
  | bl a =>
    cases ry
    cases x with
    | non => cases rx; exact SeqAt.EqAt.bool_none a
    | bl b => cases rx; exact SeqAt.EqAt.bool_bool a b
    | int b => obtain ⟨t, rfl⟩ := rx; exact SeqAt.EqAt.bool_int a b t
    | str b => obtain ⟨t, rfl⟩ := rx; exact SeqAt.EqAt.bool_str a b t
    | _ => exact absurd (show false = true from fx) Bool.false_ne_true
  | int a =>
    obtain ⟨t', rfl⟩ := ry
    cases x with
    | non => cases rx; exact SeqAt.EqAt.int_none a t'
    | bl b => cases rx; exact SeqAt.EqAt.int_bool a t' b
    | int b => obtain ⟨t, rfl⟩ := rx; exact SeqAt.EqAt.int_int a t' b t
    | str b => obtain ⟨t, rfl⟩ := rx; exact SeqAt.EqAt.int_str a t' b t
    | _ => exact absurd (show false = true from fx) Bool.false_ne_true
  | str a =>
    obtain ⟨t', rfl⟩ := ry
    cases x with
    | non => cases rx; exact SeqAt.EqAt.str_none a t'
    | bl b => cases rx; exact SeqAt.EqAt.str_bool a t' b
    | int b => obtain ⟨t, rfl⟩ := rx; exact SeqAt.EqAt.str_int a t' b t
    | str b => obtain ⟨t, rfl⟩ := rx; exact SeqAt.EqAt.str_str a t' b t
    | _ => exact absurd (show false = true from fx) Bool.false_ne_true
  | _ => exact absurd (show false = true from fy) Bool.false_ne_true
/-- the items' answers, read off the values (a value's own answer does not lean on its token) -/
def eqU (x : V) (u : Value) : Bool := match u with
  | .none => eqV .non x
  | .bool b => eqV (.bl b) x
  | .int i _ => eqV (.int i) x
  | .str z _ => eqV (.str z) x
  | _ => false
theorem eqU_of {x y : V} {u : Value} (r : RelV y u) (f : flatV y = true) : eqU x u = eqV y x := by
  cases y with
  | non => cases r; rfl
  | bl b => cases r; rfl
  | int i => obtain ⟨t, rfl⟩ := r; rfl
  | str z => obtain ⟨t, rfl⟩ := r; rfl
  | _ => exact absurd (show false = true from f) Bool.false_ne_true
theorem any_eqU {x : V} : ∀ {xs : List V} {us : List Value}, Vals xs us → xs.all flatV = true → us.any (eqU x) = xs.any fun y => eqV y x
  | _, _, .nil, _ => rfl
  | y :: xs, u :: us, .cons r t, f => by
    rw [List.all_cons, Bool.and_eq_true] at f
    rw [List.any_cons, List.any_cons, eqU_of r f.1, any_eqU t f.2]
theorem mem_eqAt {A : Around} {s : Shared} {x : V} {v : Value} (rx : RelV x v) (fx : flatV x = true) : ∀ {xs : List V} {us : List Value}, Vals xs us → xs.all flatV = true → ∀ u ∈ us, SeqAt.EqAt A s u v (eqU x u)
  | _, _, .nil, _ => fun u hu => by cases hu
  | y :: xs, u :: us, .cons r t, f => fun u' hu => by
    rw [List.all_cons, Bool.and_eq_true] at f
    rcases List.mem_cons.mp hu with rfl | hu
    · rw [eqU_of r f.1]; exact eqAt_V r rx f.1 fx
    · exact mem_eqAt rx fx t f.2 u' hu
def inV (x : V) (xs : List V) : Bool := xs.any fun y => eqV y x
/-- x in a list or tuple of flat items -/
def rIn (K : PySem.W.Frag) (neg : Bool) : R2 := fun x y H Q => ∃ p xs, y = .ref p ∧ (SqL K H p xs ∨ SqT K H p xs) ∧ flatV x = true ∧ xs.all flatV = true ∧ Q (.bl (if neg then !inV x xs else inV x xs)) H
theorem op_in_seq : OpR X (compareOp .In) (rIn X.K false) := by
  intro pins s σ H x y v u Q I rx ry h
  obtain ⟨p, xs, rfl, hq, fx, fs, q⟩ := h
  cases ry
  rcases hq with hq | hq
  · obtain ⟨its, r, pl, hz⟩ := I.list hq
    refine SeqAt.in_listAt (eqU x) pl.isList (fun w hw => mem_eqAt rx fx r fs w (by simpa using hw)) ⟨.bl _, H, I, rfl, ?_⟩
    rw [show its.toArray.any (eqU x) = its.any (eqU x) by simp, any_eqU r fs]
    exact q
  · obtain ⟨its, r, pl, hz⟩ := I.tuple hq
    refine SeqAt.in_tupleAt (eqU x) pl (fun w hw => mem_eqAt rx fx r fs w (by simpa using hw)) ⟨.bl _, H, I, rfl, ?_⟩
    rw [show its.toArray.any (eqU x) = its.any (eqU x) by simp, any_eqU r fs]
    exact q

/-! ### len, list(x), tuple(x) of any list or tuple that is read -/
theorem call_len_seq : CallR X (.builtin "len") (fun xs H Q => ∃ p ys, xs = [.ref p] ∧ (SqL X.K H p ys ∨ SqT X.K H p ys) ∧ Q (.int ys.length) H) := by
  intro pins s σ H xs us Q I r h
  obtain ⟨p, ys, rfl, hq, q⟩ := h
  obtain ⟨u, rfl, rx⟩ := vals1 r
  cases rx
  have hn := line63
  rcases hq with hq | hq
  · obtain ⟨its, r', pl, hz⟩ := I.list hq
    have hlen := r'.length
    exact Calls.call_len_list pl.isList (by simp only [List.size_toArray] <;> omega) ⟨.int ys.length, H, I.tok _, ⟨s.toks + 1, by rw [List.size_toArray, hlen]⟩, q⟩
  · obtain ⟨its, r', pl, hz⟩ := I.tuple hq
    have hlen := r'.length
    exact len_tuple pl (by simp only [List.size_toArray] <;> omega) ⟨.int ys.length, H, I.tok _, ⟨s.toks + 1, by rw [List.size_toArray, hlen]⟩, q⟩
theorem call_len_str : CallR X (.builtin "len") (fun xs H Q => ∃ z, xs = [.str z] ∧ z.length ≤ sizeLine ∧ Q (.int z.length) H) := by
  intro pins s σ H xs us Q I r h
  obtain ⟨z, rfl, hz, q⟩ := h
  obtain ⟨u, rfl, t, rfl⟩ := vals1 r
  have hn := line63
  exact len_str (by omega) ⟨.int z.length, H, I.tok _, ⟨_, rfl⟩, q⟩
theorem call_list_of : CallR X (.type "list") (fun xs H Q => ∃ p ys, xs = [.ref p] ∧ (SqL X.K H p ys ∨ SqT X.K H p ys) ∧ ∀ l, H l = none → Q (.ref l) (upd H l (.lst ys))) := by
  intro pins s σ H xs us Q I r h
  obtain ⟨p, ys, rfl, hq, q⟩ := h
  obtain ⟨u, rfl, rx⟩ := vals1 r
  cases rx
  have fin : ∀ (its : List Value), Vals ys its → ys.length ≤ sizeLine → ∀ (h' : Heap) (c' : Nat), (∀ b o', s.heap.get? b = some o' → h'.get? b = some o') →
      h'.get? s.heap.objs.size = some { cls := .type "list", dict := none, data := .seq its.toArray c', slots := #[] } → EP X pins σ Q (.ref s.heap.objs.size) { s with heap := h' } := fun its r' hz h' c' kp e =>
    ⟨.ref s.heap.objs.size, _, I.laid (t' := s.toks) kp (Nat.le_refl _) (show ObjOk X.prog X.w _ h' _ (.lst ys) from ⟨hz, its, c', r', e⟩), rfl, q _ (I.hok.fresh (Nat.le_refl _))⟩
  rcases hq with hq | hq
  · obtain ⟨its, r', pl, hz⟩ := I.list hq
    have hlen := r'.length
    obtain ⟨o, ho, hc, n, hd⟩ := pl.isList
    exact call_list_seq p (.inl rfl) ho hc hd (fun h' c' kp e => fin its r' hz h' c' kp e) (by simp only [List.size_toArray] <;> omega)
  · obtain ⟨its, r', pl, hz⟩ := I.tuple hq
    have hlen := r'.length
    obtain ⟨o, ho, hc, n, hd⟩ := pl
    exact call_list_seq p (.inr rfl) ho hc hd (fun h' c' kp e => fin its r' hz h' c' kp e) (by simp only [List.size_toArray] <;> omega)

/-! ### the call of a builtin's method: o.m(..) -/
/-- the value is of that builtin type -/
def tyV (K : PySem.W.Frag) (T : String) (x : V) (H : Hp) : Prop := match x with
  | .str _ => T = "str"
  | .int _ => T = "int"
  | .ref p => (T = "list" ∧ ∃ xs, SqL K H p xs) ∨ (T = "tuple" ∧ ∃ o, K.lookup p = some o ∧ o.cls = .type "tuple" ∧ o.dict = none) ∨
      (T = "dict" ∧ ((∃ kvs, H p = some (.dK kvs)) ∨ ∃ kvs, H p = some (.dT kvs))) ∨ (T = "set" ∧ ∃ S n, H p = some (.set S n))
  | _ => False
theorem tyV_is {pins : List (Addr × Obj)} {σ : St} {H : Hp} {s : Shared} {T : String} {x : V} {v : Value} (I : Inv X pins σ H s) (r : RelV x v) (ty : tyV X.K T x H) :
    s.TypeIs v T ∧ ∀ a, v = .ref a → ∃ ob, s.heap.get? a = some ob ∧ ob.dict = none := by
  cases x with
  | str z =>
    obtain ⟨t, rfl⟩ := r
    cases (show T = "str" from ty)
    exact ⟨typeIs_str s z t, fun _ e => nomatch e⟩
  | int i =>
    obtain ⟨t, rfl⟩ := r
    cases (show T = "int" from ty)
    exact ⟨typeIs_int s i t, fun _ e => nomatch e⟩
  | ref p =>
    cases r
    rcases ty with ⟨rfl, xs, hq⟩ | ⟨rfl, o, hk, hc, hd⟩ | ⟨rfl, hk⟩ | ⟨rfl, S, n, hk⟩
    · obtain ⟨its, _, pl, _⟩ := I.list hq
      refine ⟨pl.isList.typeIs, fun a e => ?_⟩
      cases e
      obtain ⟨o, n, e, c, hd, _⟩ := pl
      exact ⟨o, e, hd⟩
    · refine ⟨⟨o, I.kIn p o hk, hc⟩, fun a e => ?_⟩
      cases e
      exact ⟨o, I.kIn _ o hk, hd⟩
    · have z : ∃ o, s.heap.get? p = some o ∧ o.ExactDict := by
        rcases hk with ⟨kvs, hk⟩ | ⟨kvs, hk⟩
        · obtain ⟨_, _, _, _, o, _, _, e, ex, _⟩ := I.hok p _ hk
          exact ⟨o, e, ex⟩
        · obtain ⟨_, _, _, _, o, _, _, e, ex, _⟩ := I.hok p _ hk
          exact ⟨o, e, ex⟩
      obtain ⟨o, e, ex⟩ := z
      refine ⟨⟨o, e, ex.1⟩, fun a e2 => ?_⟩
      cases e2
      exact ⟨o, e, ex.2.1⟩
    · obtain ⟨o, _, _, _, e, ex, _⟩ := I.hok p _ hk
      refine ⟨⟨o, e, ex.1⟩, fun a e2 => ?_⟩
      cases e2
      exact ⟨o, e, ex.2.1⟩
  | _ => exact False.elim ty
def tBM0 (K : PySem.W.Frag) (T : String) (r : V → List V → Hp → VK → Prop) (to : TE) : TE := fun σ H Q => to σ H fun x H1 => tyV K T x H1 ∧ r x [] H1 Q
def tBM (K : PySem.W.Frag) (T : String) (r : V → List V → Hp → VK → Prop) (to : TE) (t : TA) : TE := fun σ H Q => to σ H fun x H1 => tyV K T x H1 ∧ t σ H1 fun xs H2 => r x xs H2 Q
variable {o e : Expr} {es : List Expr} {to : TE} {t : TA} {name : Str} {apos cpos : Pos} {T id : String} {r : V → List V → Hp → VK → Prop}
theorem pe_bm0 (pa : PlainAttrs T) (slot : Slot T name id) (hty : typeOf (.builtin id) = pure (.type "method_descriptor")) (hm : MtR X id r) (ho : PE X o to)
    (hbase : attributeBase o name X.env (eval o X.env) = eval o X.env := by rfl) (hline : (apos.endLine == cpos.line) = true := by rfl) : PE X (.Call (.Attribute o name apos) [] [] cpos) (tBM0 X.K T r to) := by
  intro pins s σ H Q I h
  refine wpAny_Call_method0_late hbase hline (thn (ho pins s σ H _ I h) ?_)
  rintro v s1 ⟨x, H1, I1, r1, ty, q1⟩
  obtain ⟨h1, h2⟩ := tyV_is I1 r1 ty
  exact ⟨T, id, pa, slot, hty, h1, h2, Calls.callWith_builtin rfl (PySem.evalArgs_none (hm pins s1 σ H1 x [] v [] Q I1 r1 .nil q1))⟩
theorem pe_bm (pa : PlainAttrs T) (slot : Slot T name id) (hty : typeOf (.builtin id) = pure (.type "method_descriptor")) (hm : MtR X id r) (ho : PE X o to) (ha : PA X (e :: es) t)
    (hbase : attributeBase o name X.env (eval o X.env) = eval o X.env := by rfl)
    (hfew : ((backTo cpos (starEach (e :: es) X.env)).all (fun x => !x.1) && (backToKw cpos (keywordEach [] X.env)).all (fun x => x.1.isSome)
      && decide ((e :: es).length + ([] : List Keyword).length + (if ([] : List Keyword).isEmpty then 0 else 1) < 30)) = true := by rfl)
    (hline : (apos.endLine == cpos.line) = true := by rfl) (hs : starEach (e :: es) X.env = (false, eval e X.env) :: starEach es X.env := by rfl) (hplain : (backTo cpos (starEach es X.env)).any (·.1) = false := by rfl) :
    PE X (.Call (.Attribute o name apos) (e :: es) [] cpos) (tBM X.K T r to t) := by
  intro pins s σ H Q I h
  refine wpAny_Call_method_late hbase hfew hline rfl (thn (ho pins s σ H _ I h) ?_)
  rintro v s1 ⟨x, H1, I1, r1, ty, q1⟩
  obtain ⟨h1, h2⟩ := tyV_is I1 r1 ty
  refine ⟨T, id, pa, slot, hty, h1, h2, ?_⟩
  have hA := ha cpos pins s1 σ H1 _ I1 q1
  rw [hs] at hA ⊢
  refine Calls.callWith_builtin (by show (false || (backTo cpos (starEach es X.env)).any (·.1)) = false; rw [hplain] <;> rfl) (Calls.evalArgs_plain ?_)
  exact thn hA fun us s2 ⟨vs, H2, I2, r2, q2⟩ => hm pins s2 σ H2 x vs v us Q I2 r1 r2 q2
/- xs.append(e), list.index on a module's tuple .. are MtR facts of 06m -/
end
end L2

namespace L2
open PySem PySem.Spec PyProof.Rows

def MtM (X : Cx) (id : String) (r : V → List V → Hp → VK → Prop) : Prop :=
  ∀ (pins : List (Addr × Obj)) (s : Shared) (σ : St) (H : Hp) (x : V) (xs : List V) (v : Value) (us : List Value) (Q : VK), Inv X pins σ H s → RelV x v → Vals xs us → r x xs H Q →
    wpAny (model X.prog X.w) X.A (call (.builtin id) (v :: us)) (EP X pins σ Q) X.xe s

/-! ### lists of values -/
theorem Vals.one : ∀ {x : V} {us : List Value}, Vals [x] us → ∃ u, us = [u] ∧ RelV x u
  | _, _, .cons r .nil => ⟨_, rfl, r⟩
theorem Vals.zero : ∀ {us : List Value}, Vals [] us → us = []
  | _, .nil => rfl
theorem Vals.dropLast {xs : List V} {us : List Value} (h : Vals xs us) : Vals xs.dropLast us.dropLast := by
  induction h with
  | nil => exact .nil
  | cons r t ih =>
    cases t with
    | nil => exact .nil
    | cons q t' => exact .cons r ih
theorem Vals.rep {xs : List V} {us : List Value} (h : Vals xs us) : ∀ k : Nat, Vals (List.replicate k xs).flatten (List.replicate k us).flatten
  | 0 => .nil
  | k + 1 => by
    rw [List.replicate_succ, List.replicate_succ, List.flatten_cons, List.flatten_cons]
    exact Vals.append h (Vals.rep h k)
theorem erase_last {α : Type} (l : List α) : l.eraseIdx (l.length - 1) = l.dropLast := by
  induction l with
  | nil => rfl
  | cons a r ih =>
    cases r with
    | nil => rfl
    | cons b r =>
      have e : (a :: b :: r).length - 1 = ((b :: r).length - 1) + 1 := by
        have h1 : (a :: b :: r).length = r.length + 2 := rfl
        have h2 : (b :: r).length = r.length + 1 := rfl
        omega
      rw [e, List.eraseIdx_cons_succ, ih]
      all_goals rfl
theorem foldl_rep (its : List Value) : ∀ (k : Nat) (acc : List Value),
    List.foldl (fun x1 x2 => x1 ++ x2) acc.toArray (List.replicate k its.toArray) = (acc ++ (List.replicate k its).flatten).toArray
  | 0, acc => by simp
  | k + 1, acc => by
    have e : acc.toArray ++ its.toArray = (acc ++ its).toArray := by simp
    have e2 : (acc ++ its) ++ (List.replicate k its).flatten = acc ++ (List.replicate (k + 1) its).flatten := by
      rw [List.replicate_succ, List.flatten_cons, List.append_assoc]
    rw [← e2, ← foldl_rep its k (acc ++ its), ← e, List.replicate_succ, List.foldl_cons]

section
variable {X : Cx} {pins : List (Addr × Obj)} {σ : St} {H : Hp} {s : Shared} {l b : Addr} {xs ys zs : List V}

/-! ### the two steps: a tracked list is rewritten, a new list is laid -/
theorem Inv.lset {its its' : List Value} {n : Nat} {f : Array Value → Array Value} {t' : Nat} (I : Inv X pins σ H s) (hH : H l = some (.lst xs))
    (e : s.heap.get? l = some { cls := .type "list", data := .seq its.toArray n }) (hf : f its.toArray = its'.toArray) (hv : Vals ys its') (hz : ys.length ≤ sizeLine) :
    Inv X pins σ (upd H l (.lst ys)) { s with heap := s.heap.update l (Obj.mapSeq f), toks := t' } := by
  have q := PySem.IsL.update e f
  rw [hf] at q
  refine I.write (x := l) (e := l) (by rw [hH]; exact trivial) (.inl rfl) (fun b' u hb hu => (Heap.get?_update_other s.heap (Obj.mapSeq f) (Ne.symm hb)).trans hu) ⟨_, q⟩ ?_
  exact ⟨hz, its', _, hv, q⟩
theorem Inv.lnew {its : List Value} {t' : Nat} (I : Inv X pins σ H s) (hv : Vals ys its) (hz : ys.length ≤ sizeLine) :
    Inv X pins σ (upd H s.heap.objs.size (.lst ys)) { s with heap := s.heap.push { cls := .type "list", data := .seq its.toArray }, toks := t' } :=
  I.laid (fun _ _ q => Heap.get?_push_of_some _ q) (Nat.le_refl _) ⟨hz, its, 0, hv, Heap.get?_push_size _ rfl⟩
theorem Inv.fresh (I : Inv X pins σ H s) : H s.heap.objs.size = none := I.hok.fresh (Nat.le_refl _)
theorem Inv.lstM (I : Inv X pins σ H s) (hH : H l = some (.lst xs)) : xs.length ≤ sizeLine ∧ ∃ (its : List Value) (n : Nat), Vals xs its ∧ xs.length = its.length ∧ s.heap.get? l = some { cls := .type "list", data := .seq its.toArray n } := by
  obtain ⟨z, its, n, r, e⟩ := I.hok l _ hH
  exact ⟨z, its, n, r, r.length, e⟩

theorem notLongL {n : Nat} (h : n ≤ sizeLine) : Builtin.List.listTooLong n = false := by
  unfold Builtin.List.listTooLong
  exact decide_eq_false (by omega)
end

section
variable {X : Cx}

/-! ### methods -/
def rAppend : V → List V → Hp → VK → Prop := fun x vs H Q => ∃ l xs y, x = .ref l ∧ vs = [y] ∧ H l = some (.lst xs) ∧ xs.length < sizeLine ∧ Q .non (upd H l (.lst (xs ++ [y])))
theorem mt_append : MtM X "list.append" rAppend := by
  intro pins s σ H x vs v us Q I rx rv h
  obtain ⟨l, xs, y, rfl, rfl, hH, hz, q⟩ := h
  cases rx
  obtain ⟨u, rfl, ru⟩ := rv.one
  obtain ⟨z, its, n, r, hl, e⟩ := I.lstM hH
  refine call_meets F.slot_list_append ⟨_, e, rfl⟩ F.entry_list_append (F.args_list_append_2 _ _) (PySem.list_append l its.toArray n u (by rw [List.size_toArray]; omega)) ⟨e, ?_⟩
  refine ⟨.non, _, I.lset (its' := its ++ [u]) hH e (by simp) (r.append (.cons ru .nil)) ?_, rfl, q⟩
  rw [List.length_append, List.length_singleton]
  omega


def rPop : V → List V → Hp → VK → Prop := fun x vs H Q => ∃ l xs y, x = .ref l ∧ vs = [] ∧ H l = some (.lst xs) ∧ xs[xs.length - 1]? = some y ∧ Q y (upd H l (.lst xs.dropLast))
theorem mt_pop : MtM X "list.pop" rPop := by
  intro pins s σ H x vs v us Q I rx rv h
  obtain ⟨l, xs, y, rfl, rfl, hH, hy, q⟩ := h
  cases rx
  have hus := rv.zero
  subst hus
  obtain ⟨z, its, n, r, hl, e⟩ := I.lstM hH
  obtain ⟨u, hu, ru⟩ := r.get hy
  have hy' : its.toArray[its.toArray.size - 1]? = some u := by
    show its.toArray[its.length - 1]? = some u
    rw [← Array.getElem?_toList, ← hl]
    exact hu
  refine call_meets F.slot_list_pop ⟨_, e, rfl⟩ F.entry_list_pop (F.args_list_pop_1 _) (MeetsSeq.list_pop_last l its.toArray n u hy' (by rw [List.size_toArray]; omega)) ⟨e, ?_⟩
  refine ⟨y, _, I.lset (its' := its.dropLast) hH e ?_ r.dropLast ?_, ru, q⟩
  · show its.toArray.eraseIdxIfInBounds (its.toArray.size - 1) = its.dropLast.toArray
    rw [List.size_toArray, List.eraseIdxIfInBounds_toArray, erase_last]
  · rw [List.length_dropLast]
    omega




/-! ### list + list, list += list, list * int -/
def rCat : R2 := fun x y H Q => ∃ l b xs zs, x = .ref l ∧ y = .ref b ∧ H l = some (.lst xs) ∧ H b = some (.lst zs) ∧ xs.length + zs.length ≤ sizeLine ∧ ∀ p, H p = none → Q (.ref p) (upd H p (.lst (xs ++ zs)))
theorem op_cat : OpR X (binaryOp .Add) rCat := by
  intro pins s σ H x y v u Q I rx ry h
  obtain ⟨l, b, xs, zs, rfl, rfl, hH, hB, hz, q⟩ := h
  cases rx
  cases ry
  obtain ⟨z, its, n, r, hl, e⟩ := I.lstM hH
  obtain ⟨z2, its2, n2, r2, hl2, e2⟩ := I.lstM hB
  refine PySem.P.add_list e e2 ?_ (by rw [List.size_toArray, List.size_toArray]; omega)
  have ea : its.toArray ++ its2.toArray = (its ++ its2).toArray := by simp
  rw [ea]
  exact ⟨.ref _, _, I.lnew (t' := s.toks) (r.append r2) (by rw [List.length_append]; omega), rfl, q _ I.fresh⟩
/-- a list times an int (a negative one is nothing) -/
def rRep : R2 := fun x y H Q => ∃ l k xs, x = .ref l ∧ y = .int k ∧ H l = some (.lst xs) ∧ -(2 ^ 63) ≤ k ∧ k < 2 ^ 63 ∧ xs.length * k.toNat ≤ sizeLine ∧
  ∀ p, H p = none → Q (.ref p) (upd H p (.lst (List.replicate k.toNat xs).flatten))
theorem len_rep {α : Type} (xs : List α) (k : Nat) : (List.replicate k xs).flatten.length = k * xs.length := by
  induction k with
  | zero => simp
  | succ k ih => rw [List.replicate_succ, List.flatten_cons, List.length_append, ih, Nat.succ_mul, Nat.add_comm]
theorem op_rep : OpR X (binaryOp .Mult) rRep := by
  intro pins s σ H x y v u Q I rx ry h
  obtain ⟨l, k, xs, rfl, rfl, hH, h1, h2, hz, q⟩ := h
  cases rx
  obtain ⟨t, rfl⟩ := ry
  obtain ⟨z, its, n, r, hl, e⟩ := I.lstM hH
  have hlen : its.toArray.size * k.toNat ≤ sizeLine := by rw [List.size_toArray, ← hl]; exact hz
  have hcap : ¬ its.toArray.size * k.toNat > (2 ^ 63 - 1) / 8 := by
    have : (sizeLine : Nat) ≤ (2 ^ 63 - 1) / 8 := by decide
    omega
  have hfit : ¬ (!Builtin.List.listFitsIndex k) = true := by
    rw [fitsIndex_both h1 h2]
    exact Bool.false_ne_true
  have hlong : ¬ Builtin.List.listTooLong (its.toArray.size * k.toNat) = true := by
    rw [notLongL hlen]
    exact Bool.false_ne_true
  have hnew : List.foldl (fun x1 x2 => x1 ++ x2) #[] (List.replicate (if its.toArray.isEmpty = true then 0 else k.toNat) its.toArray) = (List.replicate k.toNat its).flatten.toArray := by
    have f0 : ∀ m : Nat, List.foldl (fun x1 x2 => x1 ++ x2) #[] (List.replicate m its.toArray) = (List.replicate m its).flatten.toArray := fun m => by
      have := foldl_rep its m []
      rw [List.nil_append] at this
      exact this
    rw [f0]
    cases its with
    | nil => simp
    | cons a r' => rw [if_neg (by simp)]
  refine wpAny_binaryOp_repeat_ref (T := "list") (U := "int") (by decide) ⟨_, e, rfl⟩ (fun s' => typeIs_int s' k t) noFill_list_mul F.fills_int_mul F.slot_int_rmul repeat_list F.slot_int_index.lookup
    (call_meets F.slot_int_rmul (typeIs_int s k t) F.entry_int_rmul (F.args_int_rmul_2 _ _) (int___rmul___int_list k t l its.toArray n)
      ⟨e, rfl, ⟨_, e, rfl⟩, call_meets F.slot_list_mul ⟨_, e, rfl⟩ F.entry_list_mul (F.args_list_mul_2 _ _) (AutoListH.list___mul___list_int_3 l its.toArray n k t hfit hcap hlong) ⟨e, ?_⟩⟩)
  rw [hnew]
  exact ⟨.ref _, _, I.lnew (t' := s.toks) (r.rep k.toNat) (by rw [len_rep, Nat.mul_comm]; exact hz), rfl, q _ I.fresh⟩

/-! ### del xs[i] -/
end

/-! ### xs[a:b] = ys -/
section
variable {prog : Program} {w : World} {A : Around} {E : Value → Shared → Prop} {s : Shared}
end

section
variable {X : Cx}
end
end L2

namespace Att
open PySem PySem.W PySem.Calls PyProof.Rows

/-! ### the script -/
theorem ints_of_wellAll {P : Params} {h : Heap} : ∀ (ns : List Int) (vs : List Value), WellAll P h vs (ns.map WData.int) → IntsAre vs ns := by
  intro ns
  induction ns with
  | nil =>
    intro vs w
    rw [List.map_nil] at w
    cases w
    exact .nil
  | cons n ns ih =>
    intro vs w
    rw [List.map_cons] at w
    cases w with
    | cons a b =>
      cases a
      exact .cons _ _ (ih _ b)

theorem script_of {l : OpenLaw} {n : Nat} (hn : l.most = some n) {P : Params} {h : Heap} {args : List WData} {vals : List Value}
    (hpre : l.row.toRowW.claim.pre args = true) (hwl : WellAll P h vals args) :
    ∃ a vs ns, vals = [Value.ref a] ∧ args = [WData.list (ns.map WData.int)] ∧ h.get? a = some { cls := .type "list", data := .seq vs.toArray } ∧ IntsAre vs ns ∧ ns.length ≤ n := by
  have hsh : WShape.hasAll [] args [.list .int] = true := (pre_splitW hpre).1
  have hc : l.pre.holds [] { args := args } = true := (pre_splitW hpre).2
  obtain ⟨d, r, rfl, h1, h2⟩ := hasAllW_cons hsh
  obtain rfl := hasAllW_nil h2
  obtain ⟨xs, rfl, h3⟩ := hasW_list h1
  obtain ⟨ns, rfl⟩ := items_int h3
  have hlen : ns.length ≤ n := by
    unfold OpenLaw.pre at hc
    have h4 : (WTm.not (.lt (.lit (.int (n : Int))) (.len (.arg 0)))).holds [] { args := [.list (ns.map .int)] } = true := by
      have h4 := (holds_andW hc).1
      rw [hn] at h4
      exact h4
    have h5 := condW_of h4 (w_not (w_lt w_lit (w_len_list (w_arg rfl))))
    rw [List.length_map] at h5
    refine Nat.le_of_not_lt fun q => ?_
    have q' : (n : Int) < ((ns.length : Nat) : Int) := by omega
    first
      | (rw [decide_eq_true q'] at h5; exact absurd h5 (by decide))
      | (simp at h5; omega)
  cases hwl with
  | cons w1 w2 =>
    cases w2
    cases w1 with
    | list ho hall => exact ⟨_, _, ns, rfl, rfl, ho, ints_of_wellAll ns _ hall, hlen⟩

theorem post_true (l : OpenLaw) (args : List WData) : l.row.toRowW.claim.post args (.bool true) args = true :=
  postW_of (r := l.row.toRowW) (X := (true == true))
    (show WShape.has [] (.bool true) .bool = true by first | rfl | decide | simp [WShape.has, WShape.arms, WShape.armsAll])
    (show (WTm.eq .res (.lit (.bool true))).value [] { args := args, res := some (.bool true), after := args } = some (.bool (true == true)) from w_eq_bool (w_res rfl) w_lit) rfl

/-! ### the attachment: holds_open's last premise (the goal 'hc' behind k_head) from a wpAny of the law's body -/

/-- the same from a codeAny of the CALL (for a layer whose function contracts speak of calls) -/
theorem attach_call {l : OpenLaw} {n : Nat} {q : Program} {loose : List Str} {XP : (Str → Option Value) → Heap → Prop} {YP : World → Heap → Prop} {d : DefRec}
    (hn : l.most = some n) (hdf : d.params.defaults = [])
    (call : ∀ (w : World) (s₀ s₁ : Shared) (mg mb : Str → Option Value) (fa : Addr) (o : Obj) (pm cd doc : Value) (a : Addr) (vs : List Value) (ns : List Int),
      Ground q loose [] XP w s₀ mg mb s₁.heap → YP w s₁.heap →
      s₁.heap.get? fa = some o → o.data = .func (docDef d.name d.params d.body d.scope pm cd doc) → s₁.heap.CodeRec cd d.name → mg d.name = some (.ref fa) →
      s₁.heap.get? a = some { cls := .type "list", data := .seq vs.toArray } → IntsAre vs ns → ns.length ≤ n → s₁.gens = #[] →
      codeAny (model l.prog w) callerA (.call (.ref fa) ⟨[.ref a], []⟩) (fun r s' => r = .ok (.ret (.bool true)) ∧ OldK s₁.heap s'.heap ∧ s'.os = s₁.os ∧ AllBare s'.gens) s₁) :
    WalkO q loose XP YP l.row.toRowW d [] (fun f vs => PySem.call f vs) := by
  intro w s₀ s₁ mg mb G Y fa o pm cd doc dV kV ho hd hcd hD hmg hg args vals as hpre hlay hrd hwl hlo
  obtain rfl : dV = .none := Dflts.none hD hdf
  obtain rfl : kV = .none := Dflts.noKw hD
  obtain ⟨a, vs, ns, rfl, rfl, hobj, hints, hlen⟩ := script_of hn hpre hwl
  refine enter_call (codeAny_mono (call w s₀ s₁ mg mb fa o pm cd doc a vs ns G Y ho (fd_plain hd) hcd hmg hobj hints hlen hg) fun r s' hq => ?_)
  obtain ⟨rfl, h2, h3, h4⟩ := hq
  exact ⟨.inl ⟨.bool true, .bool true, [], rfl, fun _ => rfl, .bool true, post_true l _, fun _ => ⟨List.Pairwise.nil, fun _ hm => (nomatch hm)⟩⟩, h2, h3, h4⟩


/-! ### rules over ANY heap (no ledger) from facts about the written part K: the library's own take a ledger (News) for what they write -/
section
variable {prog : Program} {w : World} {A : Around} {E : Value → Shared → Prop} {s : Shared} {K : Frag}





/-! the whole heap as the ledger: makes every rule that writes through a ledger a rule over any heap -/
def ledger (h : Heap) (L d : Addr) : List (Addr × Obj) := (List.range h.objs.size).filterMap fun a => if a = L ∨ a = d then none else (h.get? a).map fun o => (a, o)

end
end Att

namespace L2
open PySem PySem.Spec PyProof.Rows

theorem vals_ints : ∀ {vs : List Value} {ns : List Int}, IntsAre vs ns → Vals (ns.map V.int) vs
  | _, _, .nil => .nil
  | _, _, .cons n t h => .cons ⟨t, rfl⟩ (vals_ints h)

/-- nothing is tracked but the script, known to the object (or it is an object of the module) -/
def Only (H : Hp) : Prop := ∀ b, H b = none ∨ ∃ o xs, H b = some (.frz o (.lst xs))

/-- THE HEAD: the law's promise, at the heap behind the top. F, the promise of the law's def, may use that base is part of the heap (so K.In base, base.Ns mainGlobals mg stand in Mod) -/
theorem law_call {P : Program} {w : World} {K : PySem.W.Frag} {mg mb : Str → Option Value} {CX : CXT} {k : Nat} {fa a : Addr} {fd : FuncData} {x : Str} {sp : Sp} {s₁ : Shared} {vs : List Value} {ns : List Int}
    (KX : K.In s₁.heap) (hns : s₁.heap.Ns mainGlobals mg) (hb : s₁.heap.Ns builtinsNs mb) (hbb : ∀ x : Str, x ≠ "__name__" → mb x = bootBuiltins x) (hlim : s₁.heap.NoLimit) (hg : s₁.gens = #[])
    (ha : s₁.heap.get? a = some { cls := .type "list", data := .seq vs.toArray }) (hi : IntsAre vs ns) (hl : ns.length ≤ sizeLine) (hr : Room k callerA)
    (F : ∀ base : Heap, K.In base → base.Ns mainGlobals mg → FnOk P w K mg base CX k fa fd [x] sp) (hbind : ∀ (s : Shared) (u : Value), BindsTo s fd ⟨[u], []⟩ [(x, u)])
    (hsp : ∀ H : Hp, Only H → SqL K H a (ns.map V.int) → sp [.ref a] H (fun v _ => v = .bl true) fun _ _ _ => False)
    (hCX : ∀ H e s', CX [] H s₁ (fun _ _ _ => False) e s' → False) :
    codeAny (model P w) callerA (.call (.ref fa) ⟨[.ref a], []⟩) (fun r s' => r = .ok (.ret (.bool true)) ∧ OldK s₁.heap s'.heap ∧ s'.os = s₁.os ∧ AllBare s'.gens) s₁ := by
  have rv := vals_ints hi
  have lenV := hi.length
  -- from an abstract heap in which nothing but the script may be tracked
  have core : ∀ H : Hp, Only H → SqL K H a (ns.map V.int) → HOk P w H s₁.heap → (∀ b, H b ≠ none → b = a) → (H a ≠ none → K.lookup a = none) →
      codeAny (model P w) callerA (.call (.ref fa) ⟨[.ref a], []⟩) (fun r s' => r = .ok (.ret (.bool true)) ∧ OldK s₁.heap s'.heap ∧ s'.os = s₁.os ∧ AllBare s'.gens) s₁ := by
    intro H hO hS hok hA hK
    have base_of : ∀ {b : Addr} {o : Obj}, s₁.heap.get? b = some o → H b = none → (hidT s₁.heap H).get? b = some o := fun e n => hidT_get e n
    have noA : ∀ {b : Addr} {o : Obj} {es : Array DictEntry} {ep : Nat}, s₁.heap.get? b = some o → o.data = .dict es ep → H b = none := fun {b o es ep} e d => by
      cases q : H b with
      | none => rfl
      | some u =>
        have e' : b = a := hA b (by rw [q]; simp)
        subst e'
        rw [ha] at e; cases e
        have d' : Data.seq vs.toArray _ = Data.dict es ep := d
        cases d'
    have nsK : ∀ {b : Addr} {m : Str → Option Value}, s₁.heap.Ns b m → (hidT s₁.heap H).Ns b m := fun {b m} ⟨o, es, ep, e, d, r⟩ => ⟨o, es, ep, base_of e (noA e d), d, r⟩
    have hKb : K.In (hidT s₁.heap H) := fun b o e => base_of (KX b o e) (by
      cases q : H b with
      | none => rfl
      | some u =>
        have e' : b = a := hA b (by rw [q]; simp)
        subst e'
        rw [hK (by rw [q]; simp)] at e; cases e)
    have hM : Mod K mg (hidT s₁.heap H) := ⟨hKb, nsK hns, ⟨mb, nsK hb, hbb⟩, let ⟨mc, h1, h2⟩ := hlim; ⟨mc, nsK h1, h2⟩⟩
    have e0 : Env0 P w K mg (hidT s₁.heap H) callerA [] s₁ H := ⟨rfl, hM, fun b o e => of_hidT e, Nat.le_of_eq (hidT_size _ _), trivial, fun b hb => absurd (show b ∈ ([] : List Addr) from hb) (by simp), hok, .of_eq hg⟩
    refine codeAny_mono ((F _ hKb (nsK hns)).run callerA [] s₁ H ⟨[.ref a], []⟩ [.ref a] [.ref a] _ _ hr e0 (hbind s₁ (.ref a)) (.cons rfl .nil) (hsp H hO hS)) fun r s' h => ?_
    cases r with
    | error e => exact (hCX H e s' h).elim
    | ok fl =>
      cases fl with
      | next => exact False.elim h
      | brk => exact False.elim h
      | cont => exact False.elim h
      | ret u =>
        obtain ⟨v, H', os, bare, un, hok', r', q⟩ := h
        have q' : v = .bl true := q
        subst q'
        obtain rfl : u = Value.bool true := r'
        refine ⟨rfl, OldK.of_keep fun b o e => ?_, os, bare⟩
        cases q : H b with
        | none => exact un.keep b o e q (by intro z; exact absurd (show b ∈ ([] : List Addr) from z) (by simp)) (by simp)
        | some u =>
          rcases hO b with z | ⟨ob, xs, z⟩
          · rw [q] at z; cases z
          · have z2 := un.frzs b ob _ z
            obtain ⟨e1, _⟩ := hok b _ z
            obtain ⟨e2, _⟩ := hok' b _ z2
            rw [e] at e1; cases e1
            exact e2
  cases hk : K.lookup a with
  | some o =>
    -- the script is one of the module's own objects
    have e := KX a o hk
    rw [ha] at e
    cases e
    refine core (fun _ => none) (fun _ => .inl rfl) (.inr ⟨_, vs.toArray, _, hk, rfl, rfl, rfl, by rw [List.size_toArray, lenV]; exact hl, by simpa using rv⟩) (fun b u z => by have z' : (none : Option HO) = some u := z; cases z') (fun b z => absurd rfl z) fun z => absurd rfl z
  | none =>
    refine core (fun b => if b = a then some (.frz { cls := .type "list", data := .seq vs.toArray } (.lst (ns.map V.int))) else none) (fun b => ?_) (.inl (.inr ⟨{ cls := .type "list", data := .seq vs.toArray }, if_pos rfl⟩)) (fun b u z => ?_) (fun b z => ?_) fun _ => hk
    · by_cases hb : b = a
      · exact .inr ⟨_, _, if_pos hb⟩
      · exact .inl (if_neg hb)
    · by_cases hb : b = a
      · have z' := (if_pos hb).symm.trans z
        cases z'
        subst hb
        exact ⟨ha, by rw [List.length_map]; exact hl, vs, _, rv, ha⟩
      · have z' := (if_neg hb).symm.trans z
        cases z'
    · by_cases hb : b = a
      · exact hb
      · exact absurd (if_neg hb) z
end L2

namespace L2
open PySem PySem.Spec PyProof.Rows


/-- the goal that k_head leaves (case hc), from the law's promise. F gives the function object fd (K's own) once, then the promise over every base -/
theorem walk_of {l : PySem.W.OpenLaw} {n k : Nat} {q : Program} {loose : List Str} {XP : (Str → Option Value) → Heap → Prop} {YP : World → Heap → Prop} {d : DefRec} {K : Params → PySem.W.Frag} {CX : World → CXT} {sp : World → Sp} {x : Str}
    (hn : l.most = some n) (hn2 : n ≤ sizeLine) (hdf : d.params.defaults = []) (hr : Room k callerA)
    (hY : ∀ (w : World) (h : Heap), YP w h → (K w.params).In h)
    (F : ∀ (w : World) (mg : Str → Option Value) (fa : Addr) (h : Heap), (K w.params).In h → h.Ns mainGlobals mg → mg d.name = some (.ref fa) →
      ∃ fd : FuncData, (∀ (s : Shared) (u : Value), BindsTo s fd ⟨[u], []⟩ [(x, u)]) ∧
        ∀ base : Heap, (K w.params).In base → base.Ns mainGlobals mg → FnOk l.prog w (K w.params) mg base (CX w) k fa fd [x] (sp w))
    (hsp : ∀ (w : World) (H : Hp) (a : Addr) (ns : List Int), ns.length ≤ n → Only H → SqL (K w.params) H a (ns.map V.int) → sp w [.ref a] H (fun v _ => v = .bl true) fun _ _ _ => False)
    (hCX : ∀ (w : World) (H : Hp) (s : Shared) (e : Value) (s' : Shared), CX w [] H s (fun _ _ _ => False) e s' → False) :
    PySem.W.WalkO q loose XP YP l.row.toRowW d [] (fun f vs => PySem.call f vs) := by
  refine Att.attach_call hn hdf fun w s₀ s₁ mg mb fa o pm cd doc a vs ns G Y ho hd hcd hmg hobj hints hlen hg => ?_
  have KX := hY w _ Y
  obtain ⟨fd, hb, hF⟩ := F w mg fa _ KX G.T.g hmg
  exact law_call KX G.T.g G.T.b G.T.builtins G.T.nolimit hg hobj hints (Nat.le_trans hlen hn2) hr hF hb (fun H hO hS => hsp w H a ns hlen hO hS) fun H e s' => hCX w H s₁ e s'
end L2



/-! SHORT WORDS over the layer: a def of the text, its body, what a loop and a test want. -/
namespace L2
open PySem PySem.Spec PyProof.Rows

/-! ### the text by places -/
/-- the j-th statement of a class's body -/
def inClass (s : Stmt) (j : Nat) : Stmt := match s with
  | .ClassDef _ _ _ body _ _ _ _ _ _ _ => body.getD j (.Pass ⟨0, 0, 0, 0⟩)
  | _ => .Pass ⟨0, 0, 0, 0⟩
def defArgs (s : Stmt) : Arguments := match s with
  | .FunctionDef _ a _ _ _ _ _ _ _ _ => a
  | _ => { posonlyargs := [], args := [], vararg := none, kwonlyargs := [], kw_defaults := [], kwarg := none, defaults := [] }
def defBody (s : Stmt) : List Stmt := match s with
  | .FunctionDef _ _ b _ _ _ _ _ _ _ => b
  | _ => []
def defScope (s : Stmt) : Scope := match s with
  | .FunctionDef _ _ _ _ _ _ sc _ _ _ => sc
  | _ => { kind := .function, names := [], isGenerator := false, isCoroutine := false }

/-! ### no exception leaves a def -/
abbrev CX0 : CXT := fun _ _ _ _ _ _ => False
abbrev E0 : XK := fun _ _ _ => False
theorem pass0 {X : Cx} : Passes CX0 X E0 := fun _ _ _ _ _ _ _ h => h.elim

/-! ### a def (or method) of the text as it stands behind the top -/
structure Fun (K : PySem.W.Frag) (x qual : Str) (st : Stmt) (f : Addr) (fd : FuncData) : Prop where
  ex : ∃ (oc : Value) (od : Option Addr) (kV doc pm : Value) (an : Option Addr) (cdv ct : Value) (osl : Array (Option Value)),
    fd = PySem.W.fnOf x qual (defArgs st) (defBody st) (defScope st) .none kV doc pm an cdv ct ∧ K.lookup f = some ⟨oc, od, .func fd, osl⟩ ∧ PySem.W.codeIn K cdv qual = true
  kp : PySem.W.keepIn K (.ref f) = true
section
variable {P : Program} {w : World} {K : PySem.W.Frag} {mg : Str → Option Value} {base : Heap}
/-- THE RULE for a def: its body as a term of rules, and the reading of that term -/
theorem Fun.ok {x qual : Str} {st : Stmt} {f : Addr} {fd : FuncData} {N ps : List Str} {k : Nat} {sp : Sp} (F : Fun K x qual st f fd) (S : FnScope N ps (defScope st)) (len : ∀ vs H Q E, sp vs H Q E → vs.length = ps.length)
    (hbody : ∀ (cdv : Value) (A : Around) (outer : List Env) (s : Shared) (H : Hp) (vs : List V) (Q : VK) (E : XK), Room k (A.deeper (envOfC qual (defScope st) s.heap.objs.size f cdv)) → sp vs H Q E →
      ∃ t, PSs (cxOf CX0 P w K mg base N qual (defScope st) f cdv A outer s H E).nox (defBody st) t ∧ t { nx := fun _ H' => Q .non H', rt := Q } (start N vs) H) : FnOk P w K mg base CX0 (k + 1) f fd ps sp := by
  obtain ⟨oc, od, kV, doc, pm, an, cdv, ct, osl, rfl, lk, hcd⟩ := F.ex
  refine fn_of lk hcd S len fun A outer s H vs Q E hr hsp => ?_
  obtain ⟨t, h, q⟩ := hbody cdv A outer s H vs Q E hr hsp
  exact ⟨t, h.nox, q⟩
/-- how its arguments bind (no defaults): h is «fun _ _ _ _ _ _ us hl => match us, hl with | [_, _], _ => rfl», one _ a parameter -/
theorem Fun.binds {x qual : Str} {st : Stmt} {f : Addr} {fd : FuncData} {ps : List Str} (F : Fun K x qual st f fd)
    (h : ∀ (kV doc pm : Value) (an : Option Addr) (cdv ct : Value) (us : List Value), us.length = ps.length → bindArgs (PySem.W.fnOf x qual (defArgs st) (defBody st) (defScope st) .none kV doc pm an cdv ct) ⟨us, []⟩ = pure (ps.zip us)) : Binds K fd ps [] := by
  obtain ⟨oc, od, kV, doc, pm, an, cdv, ct, osl, rfl, lk, hcd⟩ := F.ex
  exact .all (h kV doc pm an cdv ct)
theorem fun_mk {x qual : Str} {st : Stmt} {f : Addr} {oc : Value} {od an : Option Addr} {osl : Array (Option Value)} {kV doc pm cdv ct : Value} (l : K.lookup f = some ⟨oc, od, .func (PySem.W.fnOf x qual (defArgs st) (defBody st) (defScope st) .none kV doc pm an cdv ct), osl⟩)
    (c : PySem.W.codeIn K cdv qual = true) (k : PySem.W.keepIn K (.ref f) = true) : Fun K x qual st f (PySem.W.fnOf x qual (defArgs st) (defBody st) (defScope st) .none kV doc pm an cdv ct) := ⟨⟨oc, od, kV, doc, pm, an, cdv, ct, osl, rfl, l, c⟩, k⟩
end
theorem hu_of {A : Around} {k : Nat} (hr : Room k A) : A.units + 1 < cLine := Nat.lt_of_le_of_lt (Nat.add_le_add_left (by decide : 1 ≤ 64) _) hr.units

/-! ### expressions in short: the name that stands in the i-th slot -/
section
variable {X : Cx}
theorem pv (i : Nat) {x : Str} {pos : Pos} (hN : X.N[i]? = some x := by rfl) (hv : Vis X.env.scope x := by first | exact Or.inl rfl | exact Or.inr (Or.inl rfl) | exact Or.inr (Or.inr rfl)) (hd : (x == ("__debug__" : Str)) = false := by decide)
    (hcd : (x == ("__classdict__" : Str)) = false := by decide) : PE X (.Name x pos) (tVar i) := pe_var hN hv hd hcd
end

/-! ### tests -/
theorem iteF {A B : Prop} (h : B) : if false = true then A else B := by
  rw [if_neg Bool.false_ne_true]
  exact h
theorem iteT {A B : Prop} (h : A) : if true = true then A else B := by
  rw [if_pos rfl]
  exact h
theorem ite2 {c A B : Prop} [Decidable c] (h1 : c → A) (h2 : ¬ c → B) : if c then A else B := by
  by_cases h : c
  · rw [if_pos h]
    exact h1 h
  · rw [if_neg h]
    exact h2 h

/-! ### heaps -/
/-- all that was tracked is as it was -/
def Same (H H' : Hp) : Prop := ∀ b o, H b = some o → H' b = some o
theorem Same.refl (H : Hp) : Same H H := fun _ _ h => h
theorem Same.trans {H H1 H2 : Hp} (a : Same H H1) (b : Same H1 H2) : Same H H2 := fun c o h => b c o (a c o h)
theorem Same.free {H H' : Hp} (e : Same H H') {l : Addr} (h : H' l = Option.none) : H l = Option.none := by
  cases q : H l with
  | none => rfl
  | some o =>
    rw [e l o q] at h
    cases h
theorem Same.seq {K : PySem.W.Frag} {H H' : Hp} {a : Addr} {xs : List V} (e : Same H H') (h : SqL K H a xs) : SqL K H' a xs := by
  rcases h with (h | ⟨o, h⟩) | h
  · exact .inl (.inl (e _ _ h))
  · exact .inl (.inr ⟨o, e _ _ h⟩)
  · exact .inr h

end L2

set_option linter.all false
/-! The table of a set of ints: its places rise, so a walk meets each member once. Own work. -/
namespace SetPure
open PySem











end SetPure

set_option linter.all false
set_option maxRecDepth 100000
set_option maxHeartbeats 4000000
/-! A set of ints that is filled: which members, and that its table is good. Own work. -/
namespace SI
open PySem SetPure




section
variable {prog : Program} {w : World} {A : Around} {E : Value → Shared → Prop} {s : Shared}



end
end SI

set_option linter.all false
set_option maxRecDepth 100000
set_option maxHeartbeats 4000000
namespace SI
open PySem SetPure
section
variable {prog : Program} {w : World} {A : Around} {E : Value → Shared → Prop} {s : Shared}

end
end SI

set_option linter.all false
set_option maxRecDepth 100000
set_option maxHeartbeats 4000000
namespace SI
open PySem SetPure
section
variable {prog : Program} {w : World} {A : Around} {E : Value → Shared → Prop} {s : Shared}








end
end SI

set_option linter.all false
set_option maxRecDepth 100000
set_option maxHeartbeats 4000000
namespace SI
open PySem SetPure
section
variable {prog : Program} {w : World} {A : Around} {E : Value → Shared → Prop} {s : Shared}



end
end SI

set_option linter.all false
set_option maxRecDepth 100000
set_option maxHeartbeats 4000000
namespace SI
open PySem SetPure PyProof.Rows
section
variable {prog : Program} {w : World} {A : Around} {R : Result → Shared → Prop} {I : Addr} {fp wr : List Addr} {G : Array GenState → Array GenState → Prop} {n : Nat} {P : Nat → Value → Prop} {St : Nat → Shared → Prop}
end
section
variable {prog : Program} {w : World} {A : Around} {E : Value → Shared → Prop} {s : Shared}
end
end SI

set_option linter.all false
set_option maxRecDepth 100000
set_option maxHeartbeats 4000000
namespace SI
open PySem SetPure PyProof.Rows
section
variable {prog : Program} {w : World} {A : Around} {E : Value → Shared → Prop} {s : Shared}
end
end SI

set_option Elab.async false
set_option linter.all false
set_option maxRecDepth 100000
set_option maxHeartbeats 4000000
/-! A list comprehension of one clause over the hand layer: own work. -/
namespace L2
open PySem PySem.Spec PyProof.Rows

section
variable {prog : Program} {w : World} {A : Around} {R : Result → Shared → Prop} {s : Shared}
/-- the loop of a comprehension, its owned tuple let go, no exception within -/
theorem compLoop_own {elt target iter : Expr} {ifs : List Expr} {scope : Scope} {pos : Pos} {it acc : Value} {env : Env} (I : Nat → Shared → Prop)
    (turn : ∀ n s, I n s → wpAny (model prog w) A (pyNext it) (fun r s₁ => match r with
      | none => R (.ok .next) s₁
      | some v => wpAny (model prog w) A (letOwnedTupleGo target it v) (fun _ s₁' => wpAny (model prog w) A (assign target env v) (fun _ s₂ =>
          wpAny (model prog w) A (forIn ifs true fun c r => if r = true then do let ok ← isTrue c env (eval c env); pure (ForInStep.yield ok) else pure (ForInStep.yield r)) (fun ok s₃ =>
            if ok = true then wpAny (model prog w) A (eval elt env) (fun x s₄ =>
              wpAny (model prog w) A (call (.builtin "list.append") [acc, x]) (fun _ s₅ => ∃ m, m < n ∧ I m s₅) (fun _ _ => False) s₄) (fun _ _ => False) s₃
            else ∃ m, m < n ∧ I m s₃) (fun _ _ => False) s₂) (fun _ _ => False) s₁') (fun _ _ => False) s₁) (fun _ _ => False) s)
    (n : Nat) (h : I n s) : codeAny (model prog w) A (.compLoop (.ListComp elt [⟨target, iter, ifs, 0⟩] scope pos) 0 it acc env) R s := by
  refine codeAny_loop rfl I (fun n s hI => ?_) n h
  show wpAny _ A ((compTurn (.ListComp elt [⟨target, iter, ifs, 0⟩] scope pos) 0 it acc env).onRaise (fun x => do noteFrame x env; theTreesLotGoes x)) _ _ s
  refine wpAny_noted ?_
  rw [compTurn_list]
  refine wpAny_bind (wpAny_standAt (wpAny_bind (wpAny_mono (turn n s hI) (fun r s₁ h₁ => ?_) fun _ _ h' => h'.elim)))
  cases r with
  | none => exact wpAny_pure h₁
  | some v =>
    refine wpAny_bind (wpAny_mono h₁ (fun _ s₁' h₁' => wpAny_bind (wpAny_mono h₁' (fun _ s₂ h₂ => wpAny_bind (wpAny_mono h₂ (fun ok s₃ h₃ => ?_) fun _ _ h' => h'.elim)) fun _ _ h' => h'.elim)) fun _ _ h' => h'.elim)
    cases ok with
    | false => exact wpAny_pure ⟨rfl, h₃⟩
    | true =>
      exact wpAny_bind (wpAny_bind (wpAny_mono h₃ (fun x s₄ h₄ => wpAny_bind (wpAny_mono h₄ (fun _ s₅ h₅ => wpAny_pure (wpAny_pure ⟨rfl, h₅⟩)) fun _ _ h' => h'.elim)) fun _ _ h' => h'.elim))
end

/-- the cells that a comprehension's block takes from around it -/
theorem closure_of {scope : Scope} {env : Env} (h : ∀ y ∈ scope.names, y.2 = .free → ∃ c, env.cells.lookup y.1 = some c) :
    ∃ cl, closureFor scope env = pure cl ∧ (∀ x c, cl.lookup x = some c → env.cells.lookup x = some c) ∧ (∀ x, (x, NameKind.free) ∈ scope.names → ∃ c, cl.lookup x = some c) := by
  have key : ∀ (l : List (Str × NameKind)) (cs : List (Str × Addr)), (∀ y ∈ l, y.2 = .free → ∃ c, env.cells.lookup y.1 = some c) → (∀ x c, cs.lookup x = some c → env.cells.lookup x = some c) →
      ∃ cl, (forIn l cs (fun (p : Str × NameKind) (r : List (Str × Addr)) => (do
          if p.2 == NameKind.free then do
            let a ← cellOf env p.1
            pure (ForInStep.yield ((p.1, a) :: r))
          else pure (ForInStep.yield r) : Sem (ForInStep (List (Str × Addr)))))) = pure cl ∧ (∀ x c, cl.lookup x = some c → env.cells.lookup x = some c) ∧ (∀ x, ((x, NameKind.free) ∈ l ∨ ∃ c, cs.lookup x = some c) → ∃ c, cl.lookup x = some c) := by
    intro l
    induction l with
    | nil => intro cs _ hc; exact ⟨cs, rfl, hc, fun x hx => hx.elim (fun z => by cases z) id⟩
    | cons p r ih =>
      intro cs hl hc
      obtain ⟨n, k⟩ := p
      by_cases hk : k = .free
      · subst hk
        obtain ⟨c, e⟩ := hl (n, .free) List.mem_cons_self rfl
        obtain ⟨cl, e1, e2, e3⟩ := ih ((n, c) :: cs) (fun y hy => hl y (List.mem_cons_of_mem _ hy)) (fun x c' q => by
          rw [List.lookup_cons] at q
          by_cases hx : x == n
          · rw [hx] at q; cases q; rw [eq_of_beq hx]; exact e
          · have hx' : (x == n) = false := by simpa using hx
            rw [hx'] at q; exact hc x c' q)
        refine ⟨cl, ?_, e2, fun x hx => e3 x ?_⟩
        · rw [List.forIn_cons]
          have : (cellOf env n) = pure c := by unfold cellOf; rw [e]
          simp only [beq_self_eq_true, if_true, this, pure_bind]
          exact e1
        · rcases hx with hx | ⟨c', hx⟩
          · rcases List.mem_cons.mp hx with z | z
            · cases z; exact .inr ⟨c, by simp⟩
            · exact .inl z
          · by_cases q : x == n
            · exact .inr ⟨c, by rw [List.lookup_cons, q]⟩
            · have q' : (x == n) = false := by simpa using q
              exact .inr ⟨c', by rw [List.lookup_cons, q']; exact hx⟩
      · obtain ⟨cl, e1, e2, e3⟩ := ih cs (fun y hy => hl y (List.mem_cons_of_mem _ hy)) hc
        refine ⟨cl, ?_, e2, fun x hx => e3 x ?_⟩
        · rw [List.forIn_cons]
          have hb : (k == NameKind.free) = false := by simpa using hk
          simp only [hb, Bool.false_eq_true, if_false, pure_bind]
          exact e1
        · rcases hx with hx | hx
          · rcases List.mem_cons.mp hx with z | z
            · cases z; exact absurd rfl hk
            · exact .inl z
          · exact .inr hx
  obtain ⟨cl, e1, e2, e3⟩ := key scope.names [] h (fun x c q => by cases q)
  refine ⟨cl, ?_, e2, fun x hx => e3 x (.inl hx)⟩
  unfold closureFor
  have e1' := e1
  simp only [bind_pure] at e1' ⊢
  first
    | exact e1'
    | (rw [← e1']; rfl)
    | (show (forIn scope.names [] _ >>= fun r => pure r) = _; rw [bind_pure]; exact e1')
end L2

namespace L2
open PySem PySem.Spec PyProof.Rows

/-- what a comprehension's scope must be, over the def's own scope (outer), the def's names N; ks: which of N the block sees -/
structure LcS (outer names : List (Str × NameKind)) (N : List Str) (ks : List Bool) : Prop where
  fv : ∀ y ∈ names, y.2 = .free → outer.lookup y.1 = some .cell ∨ outer.lookup y.1 = some .free
  nocell : ∀ y ∈ names, y.2 ≠ .cell
  loc : ∀ y ∈ names, y.2 = .local → names.lookup y.1 = some .local
  free : ∀ y ∈ names, y.2 = .free → names.lookup y.1 = some .free
  vis : ∀ p ∈ N.zip ks, p.2 = true → names.lookup p.1 = some .free
  len : ks.length = N.length

/-- the values that the block sees -/
def mask (ks : List Bool) (σ : St) : St := List.zipWith (fun k v => if k then v else none) ks σ
theorem mask_get {ks : List Bool} {σ : St} {i : Nat} {v : V} (h : (mask ks σ)[i]? = some (some v)) : ks[i]? = some true ∧ σ[i]? = some (some v) := by
  unfold mask at h
  rw [List.getElem?_zipWith] at h
  cases e1 : ks[i]? with
  | none => rw [e1] at h; cases h
  | some k =>
    cases e2 : σ[i]? with
    | none => rw [e1, e2] at h; cases h
    | some u =>
      rw [e1, e2] at h
      cases k with
      | true => simp at h; subst h; exact ⟨rfl, rfl⟩
      | false => simp at h
theorem mask_len {ks : List Bool} {σ : St} (h : ks.length = σ.length) : (mask ks σ).length = σ.length := by
  unfold mask; rw [List.length_zipWith, h, Nat.min_self]

/-- the block's context -/
def cxLC (X : Cx) (scope : Scope) (cl : List (Str × Addr)) (ext : List Str) (C : Addr) (fp : List Addr) (s₀ : Shared) (H₀ : Hp) : Cx :=
  { X with N := X.N ++ ext, env := compEnvC scope cl C X.env, s₀ := s₀, H₀ := H₀, outer := X.stack, ex := fp, fn := fun _ => false, pn := [], xe := fun _ _ => False }

theorem relabel_kind {env : Env} : ∀ {names : List (Str × NameKind)} {x : Str} {k' : NameKind},
    (names.map fun (n, k) => if (k == NameKind.free && env.scope.kind == .function && env.kindOf n == some .cell) then (n, NameKind.cell) else (n, k)).lookup x = some k' →
    names.lookup x = some k' ∨ (k' = .cell ∧ names.lookup x = some .free)
  | [], _, _, h => by simp at h
  | (n, k) :: r, x, k', h => by
    have h : List.lookup x ((if (k == NameKind.free && env.scope.kind == .function && env.kindOf n == some .cell) = true then (n, NameKind.cell) else (n, k)) :: (r.map fun (n, k) => if (k == NameKind.free && env.scope.kind == .function && env.kindOf n == some .cell) then (n, NameKind.cell) else (n, k))) = some k' := h
    cases hx : x == n with
    | true =>
      by_cases hc : (k == NameKind.free && env.scope.kind == .function && env.kindOf n == some .cell) = true
      · rw [if_pos hc] at h
        simp only [List.lookup_cons, hx] at h
        cases h
        simp only [Bool.and_eq_true, beq_iff_eq] at hc
        exact .inr ⟨rfl, by simp only [List.lookup_cons, hx]; rw [hc.1.1]⟩
      · rw [if_neg hc] at h
        simp only [List.lookup_cons, hx] at h
        cases h
        exact .inl (by simp only [List.lookup_cons, hx])
    | false =>
      have h' : (r.map fun (n, k) => if (k == NameKind.free && env.scope.kind == .function && env.kindOf n == some .cell) then (n, NameKind.cell) else (n, k)).lookup x = some k' := by
        split at h <;> simpa only [List.lookup_cons, hx] using h
      simp only [List.lookup_cons, hx]
      exact relabel_kind h'
theorem relabel_free {env : Env} : ∀ {names : List (Str × NameKind)} {x : Str}, names.lookup x = some .free →
    (names.map fun (n, k) => if (k == NameKind.free && env.scope.kind == .function && env.kindOf n == some .cell) then (n, NameKind.cell) else (n, k)).lookup x = some .cell ∨
    (names.map fun (n, k) => if (k == NameKind.free && env.scope.kind == .function && env.kindOf n == some .cell) then (n, NameKind.cell) else (n, k)).lookup x = some .free
  | [], _, h => by simp at h
  | (n, k) :: r, x, h => by
    show List.lookup x ((if (k == NameKind.free && env.scope.kind == .function && env.kindOf n == some .cell) = true then (n, NameKind.cell) else (n, k)) :: _) = _ ∨ List.lookup x ((if (k == NameKind.free && env.scope.kind == .function && env.kindOf n == some .cell) = true then (n, NameKind.cell) else (n, k)) :: _) = _
    cases hx : x == n with
    | true =>
      simp only [List.lookup_cons, hx] at h
      cases h
      split
      · exact .inl (by simp only [List.lookup_cons, hx])
      · exact .inr (by simp only [List.lookup_cons, hx])
    | false =>
      simp only [List.lookup_cons, hx] at h
      have ih := @relabel_free env r x h
      split <;> simp only [List.lookup_cons, hx] <;> exact ih

/-- the block's entry -/
theorem inv_lc {X : Cx} {pins : List (Addr × Obj)} {σ : St} {H : Hp} {s : Shared} {scope : Scope} {cl : List (Str × Addr)} {ks : List Bool} {ext : List Str} {fp : List Addr} {C : Addr} {h1 : Heap} {tk : Nat}
    (I : Inv X pins σ H s) (S : LcS X.env.scope.names scope.names X.N ks) (hkind : scope.kind = .function) (c1 : ∀ x c, cl.lookup x = some c → X.env.cells.lookup x = some c) (c2 : ∀ x, (x, NameKind.free) ∈ scope.names → ∃ c, cl.lookup x = some c)
    (hfp : ∀ b ∈ fp, FpOk X pins H b) (hlt : ∀ b ∈ fp, b < s.heap.objs.size) (hC : C = s.heap.objs.size) (hn : h1.Ns C (fun _ => none)) (hk : ∀ b o, s.heap.get? b = some o → h1.get? b = some o) :
    Inv (cxLC X scope cl ext C fp s H) [] (mask ks σ ++ List.replicate ext.length none) H { s with heap := h1, toks := tk } := by
  have hlen : ks.length = σ.length := by rw [S.len, I.len]
  refine ⟨⟨I.ok.mod, hkind, I.ok.glob, I.ok.blt, Nat.le_of_eq hC.symm, fun x y c e1 e2 => I.ok.inj x y c (c1 x c e1) (c1 y c e2), fun x hx => ?_, (fun x c hf => by cases hf), I.ok.hd, I.ok.frames, .inl rfl, fun b hb => ⟨?_, fun x c e => (hfp b hb).2.2.2.2.1 x c (c1 x c e)⟩, I.bs, Nat.le_trans I.ok.bsz I.sz, fun b o e hb => ?_, fun b hb hz => ?_, I.stack, I.stkFree⟩,
    rfl, I.bare, Un.kept hk, ⟨_, hn, fun i x v e1 e2 e3 => ?_⟩, fun x c e => ?_, ?_, fun x c e => I.freeC x c (c1 x c e), fun p hp => absurd (show p ∈ ([] : List (Addr × Obj)) from hp) (by simp), I.hok.kept hk, ?_⟩
  · -- a cell for each cell or free name
    have hx' : (relabel scope X.env).names.lookup x = some .cell ∨ (relabel scope X.env).names.lookup x = some .free := hx
    have hfree : scope.names.lookup x = some .free := by
      rcases hx' with q | q
      · rcases relabel_kind q with z | ⟨_, z⟩
        · exact absurd rfl (S.nocell _ (PySem.mem_of_lookup z))
        · exact z
      · rcases relabel_kind q with z | ⟨z, _⟩
        · exact z
        · cases z
    exact c2 x (PySem.mem_of_lookup hfree)
  · intro z
    have h0 := hlt b hb
    have z' : b = C := z
    rw [z', hC] at h0
    exact Nat.lt_irrefl _ h0
  · obtain ⟨_, _, _, h4, _, _⟩ := hfp b hb
    rcases h4 with z | z
    · exact I.ok.noex b o e z
    · exact absurd (Heap.lt_size (I.ok.bs b o e).1) (Nat.not_lt.mpr z)
  · have hz' : b ∈ frs X.stack := hz
    rcases List.mem_cons.mp (I.stkSub b hz') with q | q
    · exact (hfp b hb).2.1 q
    · exact (hfp b hb).2.2.1 q
  · have hi : i < (mask ks σ).length := by
      by_cases hi : i < (mask ks σ).length
      · exact hi
      · rw [List.getElem?_append_right (by omega), List.getElem?_replicate] at e2
        split at e2 <;> cases e2
    rw [List.getElem?_append_left hi] at e2
    obtain ⟨k1, k2⟩ := mask_get e2
    have hiN : i < X.N.length := by rw [← I.len]; rw [mask_len hlen] at hi; exact hi
    have e1' : X.N[i]? = some x := by
      have : (X.N ++ ext)[i]? = some x := e1
      rwa [List.getElem?_append_left hiN] at this
    have hz : (x, true) ∈ X.N.zip ks := by
      rw [List.mem_iff_getElem?]
      exact ⟨i, by rw [List.getElem?_zip_eq_some]; exact ⟨e1', k1⟩⟩
    have hfree := S.vis (x, true) hz rfl
    have hvis : X.env.kindOf x = some .cell ∨ X.env.kindOf x = some .free := S.fv (x, .free) (PySem.mem_of_lookup hfree) rfl
    obtain ⟨m, hm, hl⟩ := I.loc
    obtain ⟨u, r, l⟩ := hl i x v e1' k2 (hvis.elim (fun z => .inr (.inl z)) fun z => .inr (.inr z))
    refine ⟨u, r, .inr ⟨relabel_free hfree, ?_⟩⟩
    rcases l with ⟨z, _⟩ | ⟨_, c, ec, hc⟩
    · rcases hvis with q | q <;> · rw [q] at z; cases z
    · obtain ⟨c', ec'⟩ := c2 x (PySem.mem_of_lookup hfree)
      have := c1 x c' ec'
      rw [ec] at this; cases this
      obtain ⟨o, ho, hd⟩ := hc
      exact ⟨c, ec', o, hk c o ho, hd⟩
  · obtain ⟨v, o, ho, hd⟩ := I.cell x c (c1 x c e)
    exact ⟨v, o, hk c o ho, hd⟩
  · show H C = none
    rw [hC]; exact I.hok.fresh (Nat.le_refl _)
  · rw [List.length_append, List.length_replicate, mask_len hlen, I.len]
    show _ = (X.N ++ ext).length
    rw [List.length_append]
end L2

namespace L2
open PySem PySem.Spec PyProof.Rows

/-- the tests of a clause -/
def PTs (X : Cx) (ifs : List Expr) (t : TT) : Prop :=
  ∀ (pins : List (Addr × Obj)) (s : Shared) (σ : St) (H : Hp) (Q : Bool → Hp → Prop), Inv X pins σ H s → t σ H Q →
    wpAny (model X.prog X.w) X.A (forIn ifs true fun c r => if r = true then do let ok ← isTrue c X.env (eval c X.env); pure (ForInStep.yield ok) else pure (ForInStep.yield r)) (TP X pins σ Q) X.xe s
def tYes : TT := fun _ H Q => Q true H
theorem pts_nil {X : Cx} : PTs X [] tYes := fun _ _ σ H Q I h => wpAny_tests_nil ⟨H, I, h⟩
theorem pts_one {X : Cx} {c : Expr} {t : TT} (h : PT X c t) : PTs X [c] t := fun pins s σ H Q I q => wpAny_tests_one (h pins s σ H Q I q)

/-- the turns, by a word W of turn, measure, what was gathered, values, heap -/
def lcTurn (J : It) (D : Addr) (g : TG) (tt : TT) (te : TE) (Q : Hp → Prop) (W : Nat → Nat → List V → St → Hp → Prop) : Prop :=
  ∀ i m ys σ H, W i m ys σ H → (J.stop i H ∧ Q H) ∨ (J.go i H ∧ ∀ x H', J.yld i H x H' → g x σ H' fun σ2 H2 => tt σ2 H2 fun b H3 =>
    if b = true then te σ2 H3 fun y H4 => H4 D = some (.lst ys) ∧ ys.length < sizeLine ∧ ∃ m', m' < m ∧ W (i + 1) m' (ys ++ [y]) σ2 (upd H4 D (.lst (ys ++ [y])))
    else ∃ m', m' < m ∧ W (i + 1) m' ys σ2 H3)
def tLC (ks : List Bool) (e : Nat) (wi : TI) (g : TG) (tt : TT) (te : TE) : TE := fun σ H Q => wi σ H fun J H1 => ∀ D, H1 D = none →
  ∃ W : Nat → Nat → List V → St → Hp → Prop, (∃ m, W 0 m [] (mask ks σ ++ List.replicate e none) (upd H1 D (.lst []))) ∧ lcTurn J D g tt te (fun H2 => Q (.ref D) H2) W

structure Blk (X : Cx) (scope : Scope) (ext : List Str) (tg : Expr) (ifs : List Expr) (elt : Expr) (g : TG) (tt : TT) (te : TE) : Prop where
  pg : ∀ cl C fp s₀ H₀, PG (cxLC X scope cl ext C fp s₀ H₀) tg g
  pt : ∀ cl C fp s₀ H₀, PTs (cxLC X scope cl ext C fp s₀ H₀) ifs tt
  pe : ∀ cl C fp s₀ H₀, PE (cxLC X scope cl ext C fp s₀ H₀) elt te

theorem lc_core {X : Cx} {elt tg iter : Expr} {ifs : List Expr} {scope : Scope} {pos : Pos} {ks : List Bool} {ext : List Str} {g : TG} {tt : TT} {te : TE} {pins : List (Addr × Obj)} {σ : St} {H2 : Hp} {s2 : Shared} {cl : List (Str × Addr)}
    {it : Addr} {fp : List Addr} {tn : Nat → Heap → Prop} {J : It} {RR : Value → Addr → Result → Shared → Prop} {QD : Addr → Hp → Prop} {E : Value → Shared → Prop}
    (S : LcS X.env.scope.names scope.names X.N ks) (hkind : scope.kind = .function) (hc : X.calm = true) (B : Blk X scope ext tg ifs elt g tt te)
    (c1 : ∀ x c, cl.lookup x = some c → X.env.cells.lookup x = some c) (c2 : ∀ x, (x, NameKind.free) ∈ scope.names → ∃ c, cl.lookup x = some c)
    (I2 : Inv X pins σ H2 s2) (T : Turn X.prog X.w X.K tg J fp it tn) (st2 : tn 0 s2.heap) (f2 : ∀ b ∈ fp, FpOk X pins H2 b)
    (hW : ∀ D, H2 D = none → ∃ W : Nat → Nat → List V → St → Hp → Prop, (∃ m, W 0 m [] (mask ks σ ++ List.replicate ext.length none) (upd H2 D (.lst []))) ∧ lcTurn J D g tt te (QD D) W)
    (hRR : ∀ D C s4 H' m, Inv X pins σ H' s4 → FpOk X pins H' C → s4.heap.Ns C m → QD D H' → RR (.ref D) C (.ok .next) s4) :
    wpAny (model X.prog X.w) X.A (newList []) (fun acc s₃ => wpAny (model X.prog X.w) X.A (newFunctionEnv scope X.env.globals cl [] X.env.qual none .none (some X.env)) (fun cenv s₄ =>
      codeAny (model X.prog X.w) X.A (.compStart (.ListComp elt [⟨tg, iter, ifs, 0⟩] scope pos) 0 (.ref it) acc { cenv with scope := relabel scope X.env }) (RR acc cenv.locals) s₄) E s₃) E s2 := by
  have hcell : ∀ y ∈ scope.names, y.2 ≠ .cell := S.nocell
  refine wpAny_newObj_type (wpAny_newFunctionEnv hcell (by intro y hy; simp at hy) (fun h₁ hns₁ hsb₁ => ?_) hkind)
  dsimp only at hns₁ hsb₁ ⊢
  have fD : H2 s2.heap.objs.size = none := I2.hok.fresh (Nat.le_refl _)
  have I3 : Inv X pins σ (upd H2 s2.heap.objs.size (.lst [])) { s2 with heap := s2.heap.push { cls := .type "list", dict := none, data := .seq ([] : List Value).toArray } } :=
    I2.laid (t' := s2.toks) (fun b u e => Heap.get?_push_of_some _ e) (Nat.le_refl _) ⟨Nat.zero_le _, [], 0, .nil, Heap.get?_push_size _ rfl⟩
  obtain ⟨W, ⟨m0, w0⟩, turn⟩ := hW s2.heap.objs.size fD
  generalize hH3 : s2.heap.push { cls := .type "list", dict := none, data := .seq ([] : List Value).toArray } = h3 at hns₁ hsb₁ I3 ⊢
  have hsz : h3.objs.size = s2.heap.objs.size + 1 := by rw [← hH3, Heap.size_push]
  have hlt2 : ∀ b ∈ fp, b < s2.heap.objs.size := fun b hb => let ⟨o, e, _⟩ := T.obj 0 _ st2 b hb; Heap.lt_size e
  have hlt : ∀ b ∈ fp, b < h3.objs.size := fun b hb => Nat.lt_of_lt_of_eq (Nat.lt_succ_of_lt (hlt2 b hb)) hsz.symm
  have f3 : ∀ b ∈ fp, FpOk X pins (upd H2 s2.heap.objs.size (.lst [])) b := fun b hb => ⟨by rw [upd_ne (Nat.ne_of_lt (hlt2 b hb))]; exact (f2 b hb).1, (f2 b hb).2⟩
  have hk : ∀ b o, h3.get? b = some o → h₁.get? b = some o := fun b o e => hsb₁.extBut b o (Nat.ne_of_lt (Heap.lt_size e)) (Heap.get?_push_of_some _ e)
  have I4 : Inv (cxLC X scope cl ext h3.objs.size fp { s2 with heap := h3 } (upd H2 s2.heap.objs.size (.lst []))) [] (mask ks σ ++ List.replicate ext.length none) (upd H2 s2.heap.objs.size (.lst [])) { s2 with heap := h₁, toks := s2.toks + ([] : List (Str × Value)).length } :=
    inv_lc (C := h3.objs.size) I3 S hkind c1 c2 f3 hlt rfl (by simpa using hns₁) hk
  have st4 : tn 0 h₁ := T.keep _ _ _ st2 fun b hb o e => hk b o (by rw [← hH3]; exact Heap.get?_push_of_some _ e)
  have stat : ∀ {H' : Hp} {p' : List (Addr × Obj)}, p' = [] → (∀ b ∈ fp, H' b = none) → ∀ b ∈ fp, FpOk (cxLC X scope cl ext h3.objs.size fp { s2 with heap := h3 } (upd H2 s2.heap.objs.size (.lst []))) p' H' b := fun {H' p'} hp hn b hb => by
    subst hp
    exact ⟨hn b hb, (I4.ok.exf b hb).1, I4.ok.exfs b hb, .inl hb, fun x c e => (I4.ok.exf b hb).2 x c e, fun p hp => absurd (show p ∈ ([] : List (Addr × Obj)) from hp) (by simp)⟩
  have loop : ∀ s₃ : Shared, s₃ = { s2 with heap := h₁, toks := s2.toks + ([] : List (Str × Value)).length } →
      codeAny (model X.prog X.w) X.A (.compLoop (.ListComp elt [⟨tg, iter, ifs, 0⟩] scope pos) 0 (.ref it) (.ref s2.heap.objs.size) (compEnvC scope cl h3.objs.size X.env)) (RR (.ref s2.heap.objs.size) h3.objs.size) s₃ := by
    rintro s₃ rfl
    refine compLoop_own (fun n s' => ∃ i ys σ' H', Inv (cxLC X scope cl ext h3.objs.size fp { s2 with heap := h3 } (upd H2 s2.heap.objs.size (.lst []))) [] σ' H' s' ∧ tn i s'.heap ∧ (∀ b ∈ fp, H' b = none) ∧ W i n ys σ' H') ?_ m0
      ⟨0, [], _, _, I4, st4, fun b hb => (f3 b hb).1, w0⟩
    rintro n s' ⟨i, ys, σ', H', I', st', fr', w'⟩
    rcases turn i n ys σ' H' w' with ⟨stop, q⟩ | ⟨go, step⟩
    · refine thn (T.done (cxLC X scope cl ext h3.objs.size fp { s2 with heap := h3 } (upd H2 s2.heap.objs.size (.lst []))) rfl rfl rfl hc i [] s' σ' H' _ I' (stat rfl fr') st' stop) ?_
      rintro r s4 ⟨hr, J4⟩
      subst hr
      show RR (.ref s2.heap.objs.size) h3.objs.size (.ok .next) s4
      obtain ⟨m, hn, _⟩ := J4.loc
      have fC : H' h3.objs.size = none := J4.free
      have IX : Inv X pins σ H' s4 := I3.call' (ch := fp) J4.os J4.base J4.hok J4.bare fun b hb => ⟨(f3 b hb).2.2.2.1, (f3 b hb).2.1, (f3 b hb).2.2.2.2.1, (f3 b hb).2.2.2.2.2⟩
      exact hRR _ _ s4 H' m IX (I3.fpOk (Nat.le_refl _) fC) hn q
    · refine thn (T.item (cxLC X scope cl ext h3.objs.size fp { s2 with heap := h3 } (upd H2 s2.heap.objs.size (.lst []))) rfl rfl rfl hc i [] s' σ' H' _ I' (stat rfl fr') st' go) ?_
      rintro r s4 ⟨u, hr, h4⟩
      subst hr
      refine thn h4 ?_
      rintro _ s5 ⟨x, H5, I5, r5, y5, st5, fr5⟩
      have I5' := I5.pinned (stat rfl fr5) (T.obj _ _ st5)
      refine thn (B.pg _ _ _ _ _ _ s5 σ' H5 x u _ I5' r5 (step x H5 y5)) ?_
      rintro _ s6 ⟨σ6, H6, I6, q6⟩
      refine thn (B.pt _ _ _ _ _ _ s6 σ6 H6 _ I6 q6) ?_
      rintro ok s7 ⟨H7, I7, q7⟩
      have again : ∀ {σ7 : St} {H8 : Hp} {s8 : Shared} {ys' : List V} {m' : Nat}, Inv (cxLC X scope cl ext h3.objs.size fp { s2 with heap := h3 } (upd H2 s2.heap.objs.size (.lst []))) ([] ++ pinsAt fp s5.heap) σ7 H8 s8 → m' < n → W (i + 1) m' ys' σ7 H8 →
          ∃ m, m < n ∧ ∃ i ys σ' H', Inv (cxLC X scope cl ext h3.objs.size fp { s2 with heap := h3 } (upd H2 s2.heap.objs.size (.lst []))) [] σ' H' s8 ∧ tn i s8.heap ∧ (∀ b ∈ fp, H' b = none) ∧ W i m ys σ' H' := fun {σ7 H8 s8 ys' m'} I8 hm w8 => by
        refine ⟨m', hm, i + 1, ys', σ7, H8, I8.unpinned, T.keep _ _ _ st5 fun b hb o e => (I8.pin (b, o) (List.mem_append_right _ (List.mem_append_right _ (mem_pinsAt hb e)))).1, fun b hb => ?_, w8⟩
        obtain ⟨o, e, d⟩ := T.obj _ _ st5 b hb
        exact (I8.pin (b, o) (List.mem_append_right _ (List.mem_append_right _ (mem_pinsAt hb e)))).2.1
      cases ok with
      | false =>
        obtain ⟨m', hm, w7⟩ := (show ∃ m', m' < n ∧ W (i + 1) m' ys σ6 H7 from q7)
        exact again I7 hm w7
      | true =>
        rw [if_pos rfl] at q7 ⊢
        refine thn (B.pe _ _ _ _ _ _ s7 σ6 H7 _ I7 q7) ?_
        rintro yv s8 ⟨y, H8, I8, r8, e8, z8, m', hm, w8⟩
        refine thn (mt_append _ s8 σ6 H8 (.ref s2.heap.objs.size) [y] (.ref s2.heap.objs.size) [yv] (fun _ H9 => H9 = upd H8 s2.heap.objs.size (.lst (ys ++ [y]))) I8 rfl (.cons r8 .nil) ⟨_, ys, y, rfl, rfl, e8, z8, rfl⟩) ?_
        rintro _ s9 ⟨_, H9, I9, _, e9⟩
        subst e9
        exact again I9 hm w8
  exact codeAny_compStart_list (loop _ rfl) (T.self _ 0 _ _ _ st4 (loop _ rfl))

section
variable {X : Cx} {elt tg iter : Expr} {ifs : List Expr} {scope : Scope} {pos : Pos} {ks : List Bool} {ext : List Str} {wi : TI} {g : TG} {tt : TT} {te : TE}

theorem lc_clos {pins : List (Addr × Obj)} {σ : St} {H : Hp} {s : Shared} (I : Inv X pins σ H s) (S : LcS X.env.scope.names scope.names X.N ks) :
    ∃ cl, closureFor scope X.env = pure cl ∧ (∀ x c, cl.lookup x = some c → X.env.cells.lookup x = some c) ∧ (∀ x, (x, NameKind.free) ∈ scope.names → ∃ c, cl.lookup x = some c) :=
  closure_of fun y hy hf => I.ok.has y.1 (S.fv y hy hf)

/-- [e for x in iter if ..] -/
theorem pe_lc (S : LcS X.env.scope.names scope.names X.N ks) (hc : X.calm = true) (hi : PI X tg iter wi) (B : Blk X scope ext tg ifs elt g tt te) (hkind : scope.kind = .function := by rfl)
    (hs : ∀ x, foldedSetIterable iter X.env x = pure x := by intro _; rfl) : PE X (.ListComp elt [⟨tg, iter, ifs, 0⟩] scope pos) (tLC ks ext.length wi g tt te) := by
  intro pins s σ H Q I h
  obtain ⟨cl, hcl, c1, c2⟩ := lc_clos I S
  rw [eval_ListComp]
  refine wpAny_comprehension_free (use := none) rfl hs hcl hkind S.loc (thn (hi pins s σ H _ I h) fun v s1 h1 => thn h1 fun itv s2 h2 => ?_)
  obtain ⟨it, fp, tn, J, H2, e, I2, T, st2, f2, hW⟩ := h2
  subst e
  refine lc_core (RR := fun acc C => compPost (model X.prog X.w) X.A X.xe none (EP X pins σ Q) acc C) (QD := fun D H' => Q (.ref D) H') S hkind hc B c1 c2 I2 T st2 f2 hW fun D C s4 H' m I4 fC hn q => ?_
  refine ⟨m, hn, fun h' sb => ⟨.ref D, H', ?_, rfl, q⟩⟩
  exact I4.turned (t' := s4.toks) (fun b o hb e => (sb.2 b hb).trans e) fC.1 fC.2.1 fC.2.2.2.1 fC.2.2.2.2.1 fC.2.2.2.2.2

/-- y = [e for x in iter if ..], y a plain local -/
theorem ps_lc {i : Nat} {y : Str} {py spos : Pos} (hN : X.N.Nodup) (hiN : X.N[i]? = some y) (hy : X.env.scope.names.lookup y = some .local) (S : LcS X.env.scope.names scope.names X.N ks) (hc : X.calm = true) (hi : PI X tg iter wi) (B : Blk X scope ext tg ifs elt g tt te) (hkind : scope.kind = .function := by rfl)
    (hsw : swapsWith (.ListComp elt [⟨tg, iter, ifs, 0⟩] scope pos) (some (.Name y py)) spos.line X.env = pure true := by rfl)
    (hs : ∀ x, foldedSetIterable iter X.env x = pure x := by intro _; rfl) : PS X (.Assign [.Name y py] (.ListComp elt [⟨tg, iter, ifs, 0⟩] scope pos) spos) (tAsg (tLC ks ext.length wi g tt te) (gName i)) := by
  intro pins s σ H D I h
  obtain ⟨cl, hcl, c1, c2⟩ := lc_clos I S
  rw [exec_Assign_Name_used _ _ _ _ hsw]
  refine wpAny_bind (wpAny_standAt (wpAny_bind ?_))
  show wpAny _ X.A (do let _ ← comprehension (.ListComp elt [⟨tg, iter, ifs, 0⟩] scope pos) scope X.env _ (newList []) false (eval iter X.env) (some (assign (.Name y py) X.env))) _ _ s
  refine wpAny_bind (wpAny_mono (wpAny_comprehension_free (use := some (assign (.Name y py) X.env)) (Q := fun _ s' => SP X pins D .next s') rfl hs hcl hkind S.loc
    (thn (hi pins s σ H _ I h) fun v s1 h1 => thn h1 fun itv s2 h2 => ?_)) (fun _ s' hq => wpAny_pure (wpAny_pure hq)) fun _ _ e => e)
  obtain ⟨it, fp, tn, J, H2, e, I2, T, st2, f2, hW⟩ := h2
  subst e
  refine lc_core (RR := fun acc C => compPost (model X.prog X.w) X.A X.xe (some (assign (.Name y py) X.env)) (fun _ s' => SP X pins D .next s') acc C) (QD := fun Dl H' => D.nx (σ.set i (some (.ref Dl))) H') S hkind hc B c1 c2 I2 T st2 f2 hW fun Dl C s4 H' m I4 fC hn q => ?_
  show wpAny _ X.A (assign (.Name y py) X.env (.ref Dl)) _ _ _
  refine wpAny_assign_Name (store_ok2 I4 hN hiN (.inl hy) (v := .ref Dl) rfl (fun s5 I5 ⟨a, sb, ha⟩ => ?_) (.inr hy))
  have hCa : C ≠ a := by
    rcases ha with rfl | ha
    · exact fC.2.1
    · exact fun z => fC.2.2.2.2.1 y a ha z.symm
  refine ⟨m, hn.sameBut sb hCa, fun h' sb' => ⟨_, H', ?_, q⟩⟩
  exact I5.turned (t' := s5.toks) (fun b o hb e => (sb'.2 b hb).trans e) fC.1 fC.2.1 fC.2.2.2.1 fC.2.2.2.2.1 fC.2.2.2.2.2
end

/-! ### forms -/
/-- over a list: what passes the test p becomes f, the tracked heap stays -/
theorem lc_list {K : PySem.W.Frag} {a : Addr} {xs : List V} {i : Nat} {tt : TT} {te : TE} {σ : St} {H : Hp} {D : Addr} {Q : Hp → Prop} (p : V → Bool) (f : V → V) (hl : ∀ ys, SqL K (upd H D (.lst ys)) a xs) (hn : xs.length ≤ sizeLine)
    (ht : ∀ (k : Nat) x (v : Option V) (ys : List V) (R : Bool → Hp → Prop), xs[k]? = some x → (∀ H', H' = upd H D (.lst ys) → R (p x) H') → tt ((σ.set i v).set i (some x)) (upd H D (.lst ys)) R)
    (hs : ∀ (k : Nat) x (v : Option V) (ys : List V) (R : VK), xs[k]? = some x → p x = true → (∀ H', H' = upd H D (.lst ys) → R (f x) H') → te ((σ.set i v).set i (some x)) (upd H D (.lst ys)) R)
    (hq : ∀ H', H' = upd H D (.lst ((xs.filter p).map f)) → Q H') :
    ∃ W : Nat → Nat → List V → St → Hp → Prop, (∃ m, W 0 m [] σ (upd H D (.lst []))) ∧ lcTurn (Itl K a) D (gName i) tt te Q W := by
  refine ⟨fun k m ys σ' H' => m = xs.length - k ∧ k ≤ xs.length ∧ ys = ((xs.take k).filter p).map f ∧ (σ' = σ ∨ ∃ v, σ' = σ.set i v) ∧ H' = upd H D (.lst ys), ⟨xs.length, by simp⟩, ?_⟩
  rintro k m ys σ' H' ⟨rfl, hk, rfl, hσ, rfl⟩
  by_cases hlt : k < xs.length
  · refine .inr ⟨⟨xs, xs[k], hl _, by simp [hlt]⟩, fun x H2 hy => ?_⟩
    obtain ⟨rfl, hy⟩ := hy
    have hx := hy xs (hl _)
    have ex : xs[k] = x := by have := hx; simp [hlt] at this; exact this
    show tt (σ'.set i _) _ _
    have hσ' : ∃ v, σ'.set i (some x) = (σ.set i v).set i (some x) := by
      rcases hσ with rfl | ⟨v, rfl⟩
      · exact ⟨none, by rw [List.set_set]⟩
      · exact ⟨v, rfl⟩
    obtain ⟨v, ev⟩ := hσ'
    have hσ2 : ∃ v', σ'.set i (some x) = σ.set i v' := ⟨some x, by rw [ev, List.set_set]⟩
    have etake : xs.take (k + 1) = xs.take k ++ [x] := by rw [List.take_succ, hx]; rfl
    rw [ev]
    refine ht k x v _ _ hx fun H3 e => ?_
    subst e
    cases hp : p x with
    | true =>
      rw [if_pos rfl]
      refine hs k x v _ _ hx hp fun H4 e => ?_
      subst e
      refine ⟨upd_same, ?_, xs.length - (k + 1), by omega, rfl, hlt, ?_, by rw [← ev]; exact .inr hσ2, upd_upd⟩
      · rw [List.length_map]
        have := List.length_filter_le p (xs.take k)
        rw [List.length_take] at this
        omega
      · rw [etake, List.filter_append, List.map_append]; simp [hp]
    | false =>
      rw [if_neg Bool.false_ne_true]
      refine ⟨xs.length - (k + 1), by omega, rfl, hlt, ?_, by rw [← ev]; exact .inr hσ2, rfl⟩
      rw [etake, List.filter_append]; simp [hp]
  · have e : k = xs.length := by omega
    subst e
    refine .inl ⟨⟨xs, hl _, Nat.le_refl _⟩, hq _ (by rw [List.take_length])⟩
end L2

namespace L2
open PySem PySem.Spec PyProof.Rows
end L2

set_option Elab.async false
set_option linter.all false
set_option maxRecDepth 100000
set_option maxHeartbeats 4000000
/-! Rules over the hand layer: sets of ints, all, isinstance, == of lists. Own work. -/
namespace L2
open PySem PySem.Spec PyProof.Rows SI

section
variable {X : Cx}




/-- all(a list of bools) -/
theorem call_allB (hc : X.calm = true) : CallR X (.builtin "all") (fun xs H Q => ∃ (p : Addr) (bs : List Bool), xs = [.ref p] ∧ SqL X.K H p (bs.map V.bl) ∧ Q (.bl (bs.all id)) H) := by
  intro pins s σ H xs us Q I r h
  obtain ⟨p, bs, rfl, hq, q⟩ := h
  obtain ⟨u, rfl, rx⟩ := vals1 r
  cases rx
  obtain ⟨its, rv, pl, hz⟩ := I.list hq
  have hlen : bs.length = its.length := by have := rv.length; rw [List.length_map] at this; exact this
  have hp : p < s.heap.objs.size := by obtain ⟨o, ho, _⟩ := pl.isList; exact Heap.lt_size ho
  refine call_all_walk (wpAny_pyIter_list pl.isList ?_)
  refine ⟨s.heap.objs.size, _, _, _, _, _, fun i => bs.getD i true, rfl, Walks.list (by simpa using I.ok.hd hc) s.heap.objs.size p (Nat.ne_of_lt hp) its.toArray, ⟨⟨_, Heap.get?_push_size _ rfl, rfl, rfl⟩, pl.isList.push _⟩, ?_, fun h' tk hk => ?_⟩
  · intro i v s' Q' E' hv hq'
    have hv' : its[i]? = some v := by simpa using hv
    have hb : bs[i]? = some (bs.getD i true) := by
      have hi : i < its.length := (List.getElem?_eq_some_iff.mp hv').1
      have hi' : i < bs.length := by omega
      simp [List.getD, hi']
    obtain ⟨u, hu, ru⟩ := rv.get (i := i) (x := .bl (bs.getD i true)) (by rw [List.getElem?_map, hb]; rfl)
    rw [hv'] at hu
    cases hu
    cases (show v = Value.bool (bs.getD i true) from ru)
    exact wpAny_truthy_bool hq'
  · have hf := I.fpOk (H' := H) (Nat.le_refl s.heap.objs.size) (I.hok.fresh (Nat.le_refl _))
    have I1 : Inv X pins σ H { s with heap := h', toks := tk } := I.turned (it := s.heap.objs.size) (fun b o hb e => hk b o (by simpa using hb) (Heap.get?_push_of_some _ e)) hf.1 hf.2.1 (.inr I.sz) hf.2.2.2.2.1 hf.2.2.2.2.2
    refine ⟨.bl (bs.all id), H, I1, ?_, q⟩
    show Value.bool _ = Value.bool _
    congr 1
    have e : (List.range its.toArray.size).map (fun i => bs.getD i true) = bs := by
      apply List.ext_getElem?
      intro i
      rw [List.getElem?_map, List.size_toArray]
      by_cases hi : i < bs.length
      · have hi2 : i < its.length := by omega
        simp [hi, hi2]
      · have hi2 : ¬ i < its.length := by omega
        simp [hi, hi2]
    conv => rhs; rw [← e]
    rw [List.all_map]
    rfl

/-- a class, as a value -/
def clsV : V → Option Value
  | .ty n => some (.type n)
  | .ref C => some (.ref C)
  | _ => none
theorem clsV_of {c : V} {cv u : Value} (h : clsV c = some cv) (r : RelV c u) : u = cv := by
  cases c with
  | ty n => cases h; exact r
  | ref C => cases h; exact r
  | _ => cases h
/-- isinstance(x, c) -/
theorem call_isI : CallR X (.builtin "isinstance") (fun xs H Q => ∃ (x c : V) (cv t : Value) (b : Bool), xs = [x, c] ∧ clsV c = some cv ∧ TyOf X.K H x t ∧ PySem.W.kitOne X.K t cv = some b ∧ Q (.bl b) H) := by
  intro pins s σ H xs us Q I r h
  obtain ⟨x, c, cv, t, b, rfl, hcv, ty, hk, q⟩ := h
  obtain ⟨u, w', rfl, r1, r2⟩ := vals2 r
  have e := clsV_of hcv r2
  subst e
  exact isinst_ok I r1 ty hk fun tk => ⟨.bl b, H, I.tok tk, rfl, q⟩

/-- == of two lists of flat things -/
def eqVs : List V → List V → Bool
  | [], [] => true
  | x :: xs, y :: ys => eqV x y && eqVs xs ys
  | _, _ => false
theorem eqVs_len : ∀ {xs ys : List V}, eqVs xs ys = true → xs.length = ys.length
  | [], [], _ => rfl
  | [], _ :: _, h => by cases h
  | _ :: _, [], h => by cases h
  | x :: xs, y :: ys, h => by
    unfold eqVs at h
    rw [Bool.and_eq_true] at h
    simp [eqVs_len h.2]
theorem eqVs_all : ∀ {xs ys : List V}, xs.length = ys.length → eqVs xs ys = (List.range xs.length).all fun i => eqV (xs.getD i .non) (ys.getD i .non)
  | [], [], _ => rfl
  | [], _ :: _, h => by cases h
  | _ :: _, [], h => by cases h
  | x :: xs, y :: ys, h => by
    have ih := eqVs_all (xs := xs) (ys := ys) (by simpa using h)
    unfold eqVs
    rw [ih, List.length_cons, List.range_succ_eq_map, List.all_cons, List.all_map]
    rfl
theorem eqVs_ne {xs ys : List V} (h : xs.length ≠ ys.length) : eqVs xs ys = false := by
  cases e : eqVs xs ys with
  | false => rfl
  | true => exact absurd (eqVs_len e) h
def rEqL (K : PySem.W.Frag) (neg : Bool) : R2 := fun x y H Q => ∃ a b xs ys, x = .ref a ∧ y = .ref b ∧ SqL K H a xs ∧ SqL K H b ys ∧ xs.all flatV = true ∧ ys.all flatV = true ∧ Q (.bl (if neg then !eqVs xs ys else eqVs xs ys)) H
theorem op_eqL (hu : X.A.units + 1 < cLine) : OpR X (compareOp .Eq) (rEqL X.K false) := by
  intro pins s σ H x y v u Q I rx ry h
  obtain ⟨a, b, xs, ys, rfl, rfl, ha, hb, fx, fy, q⟩ := h
  cases rx
  cases ry
  obtain ⟨i1, r1, p1, z1⟩ := I.list ha
  obtain ⟨i2, r2, p2, z2⟩ := I.list hb
  have l1 := r1.length
  have l2 := r2.length
  by_cases hl : xs.length = ys.length
  · refine SeqAt.eq_listAt (e := fun i => eqV (xs.getD i .non) (ys.getD i .non)) p1.isList p2.isList (by simp; omega) (by omega) (fun j h1 h2 => ?_) ⟨.bl (eqVs xs ys), H, I, ?_, q⟩
    · simp only [List.size_toArray] at h1 h2
      have j1 : j < xs.length := by omega
      have j2 : j < ys.length := by omega
      obtain ⟨u1, e1, s1⟩ := r1.get (List.getElem?_eq_getElem j1)
      obtain ⟨u2, e2, s2⟩ := r2.get (List.getElem?_eq_getElem j2)
      rw [List.getElem?_eq_getElem h1] at e1
      rw [List.getElem?_eq_getElem h2] at e2
      cases e1
      cases e2
      have := eqAt_V (A := X.A.in1) (s := s) s1 s2 (List.all_eq_true.mp fx _ (List.getElem_mem j1)) (List.all_eq_true.mp fy _ (List.getElem_mem j2))
      simpa [List.getD, j1, j2] using this
    · show Value.bool _ = Value.bool _
      rw [eqVs_all hl, List.size_toArray, ← l1]
  · refine SeqAt.eq_list_lengthsAt p1.isList p2.isList (by simp; omega) (by omega) ⟨.bl (eqVs xs ys), H, I, ?_, q⟩
    rw [eqVs_ne hl]; rfl
end

theorem bt_len : bootBuiltins "len" = some (.builtin "len") := by decide +kernel
theorem bt_list : bootBuiltins "list" = some (.type "list") := by decide +kernel
theorem bt_all : bootBuiltins "all" = some (.builtin "all") := by decide +kernel
theorem bt_isinstance : bootBuiltins "isinstance" = some (.builtin "isinstance") := by decide +kernel
theorem bt_int : bootBuiltins "int" = some (.type "int") := by decide +kernel
theorem bt_sum : bootBuiltins "sum" = some (.builtin "sum") := by decide +kernel
theorem same_upd {H : Hp} {l : Addr} {o : HO} (h : H l = none) : Same H (upd H l o) := fun b u e => by
  rw [upd_ne (ne_of_none e h)]; exact e
end L2

set_option Elab.async false
set_option linter.all false
set_option maxRecDepth 100000
set_option maxHeartbeats 4000000
/-! Rules over the hand layer: != of lists, sum, list(range(..)), bit_length. Own work. -/
namespace L2
open PySem PySem.Spec PyProof.Rows SI
section
variable {X : Cx}
theorem op_neL (hu : X.A.units + 1 < cLine) : OpR X (compareOp .NotEq) (rEqL X.K true) := by
  intro pins s σ H x y v u Q I rx ry h
  obtain ⟨a, b, xs, ys, rfl, rfl, ha, hb, fx, fy, q⟩ := h
  cases rx
  cases ry
  obtain ⟨i1, r1, p1, z1⟩ := I.list ha
  obtain ⟨i2, r2, p2, z2⟩ := I.list hb
  have l1 := r1.length
  have l2 := r2.length
  by_cases hl : xs.length = ys.length
  · refine SeqAt.RcNeAt.lists (e := fun i => eqV (xs.getD i .non) (ys.getD i .non)) p1.isList p2.isList (by simp; omega) (by omega) (fun j h1 h2 => ?_) X.prog X.w X.xe _ ⟨.bl (!eqVs xs ys), H, I, ?_, q⟩
    · simp only [List.size_toArray] at h1 h2
      have j1 : j < xs.length := by omega
      have j2 : j < ys.length := by omega
      obtain ⟨u1, e1, s1⟩ := r1.get (List.getElem?_eq_getElem j1)
      obtain ⟨u2, e2, s2⟩ := r2.get (List.getElem?_eq_getElem j2)
      rw [List.getElem?_eq_getElem h1] at e1
      rw [List.getElem?_eq_getElem h2] at e2
      cases e1
      cases e2
      have := eqAt_V (A := X.A.in1) (s := s) s1 s2 (List.all_eq_true.mp fx _ (List.getElem_mem j1)) (List.all_eq_true.mp fy _ (List.getElem_mem j2))
      simpa [List.getD, j1, j2] using this
    · show Value.bool _ = Value.bool _
      rw [eqVs_all hl, List.size_toArray, ← l1]
  · refine SeqAt.RcNeAt.lists_lengths p1.isList p2.isList (by simp; omega) (by omega) X.prog X.w X.xe _ ⟨.bl (!eqVs xs ys), H, I, ?_, q⟩
    rw [eqVs_ne hl]; rfl
theorem preSum_list : ∀ (ns : List Int) (n : Nat), n ≤ ns.length → preSum (fun i => ns.getD i 0) n = (ns.take n).sum
  | ns, 0, _ => by simp [preSum]
  | ns, n + 1, h => by
    have hn : n < ns.length := by omega
    have e : ns.take (n + 1) = ns.take n ++ [ns[n]] := by rw [List.take_succ, List.getElem?_eq_getElem hn]; rfl
    rw [preSum, preSum_list ns n (by omega), e, List.sum_append]
    simp [List.getD, List.getElem?_eq_getElem hn]
/-- sum(a list of ints) -/
theorem call_sumI (hc : X.calm = true) : CallR X (.builtin "sum") (fun xs H Q => ∃ (p : Addr) (ns : List Int), xs = [.ref p] ∧ SqL X.K H p (ns.map V.int) ∧ Q (.int ns.sum) H) := by
  intro pins s σ H xs us Q I r h
  obtain ⟨p, ns, rfl, hq, q⟩ := h
  obtain ⟨u, rfl, rx⟩ := vals1 r
  cases rx
  obtain ⟨its, rv, pl, hz⟩ := I.list hq
  have hI := intsAre_of rv
  have hlen : ns.length = its.length := by have := rv.length; rw [List.length_map] at this; exact this
  have hp : p < s.heap.objs.size := by obtain ⟨o, ho, _⟩ := pl.isList; exact Heap.lt_size ho
  refine call_sum_walkAnyS (wpAny_pyIter_list pl.isList ?_)
  refine ⟨s.heap.objs.size, _, _, _, _, _, _, fun i => ns.getD i 0, rfl, (Walks.list (by simpa using I.ok.hd hc) s.heap.objs.size p (Nat.ne_of_lt hp) its.toArray).toS, ⟨⟨_, Heap.get?_push_size _ rfl, rfl, rfl⟩, pl.isList.push _⟩, fun b hb => ?_, fun i v hv => ?_, fun s' t' hm => ?_⟩
  · simp only [List.mem_cons, List.not_mem_nil, or_false] at hb
    show b < (s.heap.push _).objs.size
    rw [Heap.size_push]
    rcases hb with rfl | rfl
    · exact Nat.lt_succ_self _
    · exact Nat.lt_succ_of_lt hp
  · exact IntsAre.int_at hI i v (by simpa using hv)
  · have hf := I.fpOk (H' := H) (Nat.le_refl s.heap.objs.size) (I.hok.fresh (Nat.le_refl _))
    have I1 : Inv X pins σ H { s with heap := s'.heap, toks := s'.toks } := I.turned (t' := s'.toks) (it := s.heap.objs.size) (fun b o hb e => hm.heap b o (by simpa using hb) (Heap.get?_push_of_some _ e)) hf.1 hf.2.1 (.inr I.sz) hf.2.2.2.2.1 hf.2.2.2.2.2
    have es0 := Moved.eq_with hm
    have es : s' = { s with heap := s'.heap, toks := s'.toks } := es0
    rw [es]
    refine ⟨.int ns.sum, H, I1, ⟨t', ?_⟩, q⟩
    rw [List.size_toArray, ← hlen, preSum_list ns ns.length (Nat.le_refl _), List.take_length]
end
end L2

set_option Elab.async false
set_option linter.all false
set_option maxRecDepth 100000
set_option maxHeartbeats 4000000
/-! Rules over the hand layer: classes' functions, methods by class, pairs walked (enumerate, zip), tuples compared, is. Own work. -/
namespace L2
open PySem PySem.Spec PyProof.Rows SI
/-! ### records of an iterator that is more than one object -/
section
variable {X : Cx} {pins : List (Addr × Obj)} {σ : St} {H : Hp} {s : Shared} {h' : Heap}
theorem Inv.turnedL {ch : List Addr} {t' : Nat} (I : Inv X pins σ H s) (hch : ∀ b ∈ ch, FpOk X pins H b) (k : ∀ b u, b ∉ ch → s.heap.get? b = some u → h'.get? b = some u) : Inv X pins σ H { s with heap := h', toks := t' } := by
  have nit : ∀ b u, H b = some u → b ∉ ch := fun b u e z => by rw [(hch b z).1] at e; cases e
  refine I.step (g' := s.gens) (d' := s.drawn) (ch := ch) (fun b hb => ?_) (fun b o _ _ hc e _ => k b o hc e) (fun b o _ _ hc e _ => ⟨o.slots, k b o hc e⟩) (fun _ _ _ _ n => n)
    (fun b o hc e => ⟨o, k b o hc e⟩) (fun _ _ e => e) (fun _ _ _ e => e) (fun b ps e => ⟨#[], by rw [e]; simp⟩) (fun m hm => ?_) (fun b u e => ?_) I.bare
  · obtain ⟨f0, f1, f2, f3, f4, f5⟩ := hch b hb
    exact ⟨f3, f1, f4, f5⟩
  · obtain ⟨o, es, ep, ho, r⟩ := hm
    exact ⟨o, es, ep, k _ o (fun z => (hch _ z).2.1 rfl) ho, r⟩
  · refine (I.hok b u e).stay (fun c v hc q => k c v ?_ q) (fun _ q => q) fun _ _ q => q
    rcases hc with z | z
    · rw [z]; exact nit b u e
    · exact nit c _ z
theorem Inv.turnedLaid {ch : List Addr} {t' : Nat} {n : Addr} {ob : HO} (I : Inv X pins σ H s) (hch : ∀ b ∈ ch, FpOk X pins H b) (k : ∀ b u, b ∉ ch → s.heap.get? b = some u → h'.get? b = some u)
    (hn : s.heap.objs.size ≤ n) (new : ObjOk X.prog X.w (upd H n ob) h' n ob) : Inv X pins σ (upd H n ob) { s with heap := h', toks := t' } := by
  have hno := I.hok.fresh hn
  have nit : ∀ b u, H b = some u → b ∉ ch := fun b u e z => by rw [(hch b z).1] at e; cases e
  refine I.step (g' := s.gens) (d' := s.drawn) (ch := ch) (fun b hb => ?_) (fun b o _ _ hc e _ => k b o hc e) (fun b o _ _ hc e _ => ⟨o.slots, k b o hc e⟩)
    (fun b o _ e q => by rw [upd_ne (Nat.ne_of_lt (Nat.lt_of_lt_of_le (Heap.lt_size e) hn))]; exact q)
    (fun b o hc e => ⟨o, k b o hc e⟩) (fun b xs e => by rw [upd_ne (ne_of_none e hno)]; exact e) (fun b o u e => by rw [upd_ne (ne_of_none e hno)]; exact e)
    (fun b ps e => ⟨#[], by rw [upd_ne (ne_of_none e hno), e]; simp⟩) (fun m hm => ?_) (fun b u e => ?_) I.bare
  · obtain ⟨f0, f1, f2, f3, f4, f5⟩ := hch b hb
    exact ⟨f3, f1, f4, f5⟩
  · obtain ⟨o, es, ep, ho, r⟩ := hm
    exact ⟨o, es, ep, k _ o (fun z => (hch _ z).2.1 rfl) ho, r⟩
  · by_cases hb : b = n
    · subst hb; rw [upd_same] at e; cases e; exact new
    · rw [upd_ne hb] at e
      refine (I.hok b u e).stay (fun c v hc q => k c v ?_ q) (fun c q => by rw [upd_ne (ne_of_none q hno)]; exact q) fun c xs q => by rw [upd_ne (ne_of_none q hno)]; exact q
      rcases hc with z | z
      · rw [z]; exact nit b u e
      · exact nit c _ z
end

/-! ### enumerate(a list), walked by a target of two -/
def Ite (K : PySem.W.Frag) (a : Addr) : It :=
  ⟨fun i H => ∃ xs x, SqL K H a xs ∧ xs[i]? = some x, fun i H x H' => ∃ p y, x = .ref p ∧ H p = none ∧ H' = upd H p (.tup [.int (i : Nat), y]) ∧ ∀ xs, SqL K H a xs → xs[i]? = some y, fun i H => ∃ xs, SqL K H a xs ∧ xs.length ≤ i⟩
theorem turn_enum {P : Program} {w : World} {K : PySem.W.Frag} {elts : List Expr} {x1 : Nat} {pos : Pos} (a e it : Addr) (hne : e ≠ it) :
    Turn P w K (.Tuple elts x1 pos) (Ite K a) [e, it] e (fun i h => (∃ old, IsEnum h e it ((i : Nat) : Int) old) ∧ h.IsListIter it a i) where
  mem := by simp
  obj := fun i h st b hb => by
    obtain ⟨⟨old, he⟩, o, ho, c, d⟩ := st
    rcases List.mem_cons.mp hb with rfl | hb
    · exact ⟨_, he, fun v z => by cases z⟩
    · rw [List.mem_singleton.mp hb]
      exact ⟨o, ho, fun v z => by rw [d] at z; cases z⟩
  keep := fun i h h' st k => ⟨let ⟨old, he⟩ := st.1; ⟨old, k e (by simp) _ he⟩, st.2.at fun o ho => k it (by simp) o ho⟩
  item := by
    intro X hP hw hK hc i pins s σ H E I hf st hg
    subst hP hw hK
    obtain ⟨xs, x, hq, hx⟩ := hg
    obtain ⟨its, rv, p, hz⟩ := I.list hq
    obtain ⟨u, hu, ru⟩ := rv.get hx
    obtain ⟨⟨old, he⟩, hit⟩ := st
    refine wpAny_pyNext_enum_item he hit p.isList (x := u) (by simpa using hu) hne fun h1 heo hit1 ht1 hz1 hk1 => ?_
    refine ⟨_, rfl, wpAny_letOwnedTupleGo_enum heo fun h2 he2 hs2 => ?_⟩
    have hs2' : Heap.SameBut e h1 h2 := hs2
    have hE : e < s.heap.objs.size := Heap.lt_size he
    have ht2 : h2.get? s.heap.objs.size = some { cls := .type "tuple", data := .seq #[.int i s.toks, u] } := (hs2'.2 _ (Nat.ne_of_gt hE)).trans ht1
    refine ⟨.ref s.heap.objs.size, upd H s.heap.objs.size (.tup [.int (i : Nat), x]), ?_, rfl, ⟨_, x, rfl, I.hok.fresh (Nat.le_refl _), rfl, fun ys hy => by rw [I.list_inj hy hq]; exact hx⟩, ⟨⟨u, ?_⟩, ?_⟩, fun b hb => ?_⟩
    · refine I.turnedLaid (ch := [e, it]) (t' := s.toks + 1) hf (fun b o hb q => ?_) (Nat.le_refl _) ⟨by show 2 ≤ sizeLine; rw [sizeLine_eq]; decide, [.int (i : Nat) s.toks, u], .cons ⟨_, rfl⟩ (.cons ru .nil), ⟨_, ht2, rfl, _, rfl⟩⟩
      have n1 : b ≠ e := fun z => hb (by simp [z])
      have n2 : b ≠ it := fun z => hb (by simp [z])
      exact (hs2'.2 b n1).trans (hk1 b o n1 n2 q)
    · have ee : (((i + 1 : Nat)) : Int) = (i : Int) + 1 := by omega
      rw [ee]; exact he2
    · obtain ⟨oi, hoi, ri⟩ := hit1
      exact ⟨oi, (hs2'.2 it (Ne.symm hne)).trans hoi, ri⟩
    · have hlt : b < s.heap.objs.size := by
        rcases List.mem_cons.mp hb with rfl | hb
        · exact hE
        · rw [List.mem_singleton.mp hb]; obtain ⟨oi, hoi, _⟩ := hit; exact Heap.lt_size hoi
      rw [upd_ne (Nat.ne_of_lt hlt)]
      exact (hf b hb).1
  done := by
    intro X hP hw hK hc i pins s σ H E I hf st hg
    subst hP hw hK
    obtain ⟨xs, hq, hx⟩ := hg
    obtain ⟨its, rv, p, hz⟩ := I.list hq
    obtain ⟨⟨old, he⟩, hit⟩ := st
    have hl := rv.length
    exact wpAny_pyNext_enum_end (I.ok.hd hc) he hit p.isList (by simp; omega) fun h' eb => ⟨rfl, I.turnedL (ch := [e, it]) (t' := s.toks) hf fun b o hb q => eb b o (fun z => hb (by simp [z])) q⟩
  self := fun _ _ _ _ _ st h => let ⟨_, he⟩ := st.1; wpAny_pyIter_enum he h
def iEnum (K : PySem.W.Frag) (ta : TA) : TI := fun σ H R => ta σ H fun vs H1 => ∃ a, vs = [.ref a] ∧ (∃ xs, SqL K H1 a xs) ∧ R (Ite K a) H1
theorem bt_enumerate : bootBuiltins "enumerate" = some (.type "enumerate") := by decide +kernel
theorem bt_max : bootBuiltins "max" = some (.builtin "max") := by decide +kernel
theorem bt_str : bootBuiltins "str" = some (.type "str") := by decide +kernel
section
variable {X : Cx}
theorem pi_enum {a : Expr} {ta : TA} {p pos pt : Pos} {elts : List Expr} {x1 : Nat} (hg : Gl X "enumerate") (hm : X.mg "enumerate" = none) (ha : PA X [a] ta) (hs : starEach [a] X.env = [(false, eval a X.env)] := by rfl) :
    PI X (.Tuple elts x1 pt) (.Call (.Name "enumerate" p) [a] [] pos) (iEnum X.K ta) := by
  intro pins s σ H R I h
  refine Call_ (ld_blt I hg hm bt_enumerate (PyProof.Rows.callWith_type1 (thn (ha pos pins s σ H _ I h) fun us s1 ⟨vs, H1, I1, r1, q1⟩ => ?_) hs rfl))
  obtain ⟨a, e, ⟨xs, hq⟩, q⟩ := q1
  subst e
  obtain ⟨u, rfl, rx⟩ := vals1 r1
  cases rx
  obtain ⟨its, rv, pl, hz⟩ := I1.list hq
  refine call_enumerate_list pl.isList fun h' hE hI hsz hk => ?_
  refine wpAny_pyIter_enum hE ?_
  have I2 : Inv X pins σ H1 { s1 with heap := h' } := I1.kept (t' := s1.toks) hk
  refine ⟨s1.heap.objs.size + 1, [s1.heap.objs.size + 1, s1.heap.objs.size], _, _, H1, rfl, I2, turn_enum a _ _ (Nat.succ_ne_self _), ⟨⟨_, hE⟩, hI⟩, fun b hb => ?_, q⟩
  have hb' : s1.heap.objs.size ≤ b := by
    rcases List.mem_cons.mp hb with rfl | hb
    · exact Nat.le_succ _
    · rw [List.mem_singleton.mp hb]; exact Nat.le_refl _
  exact I1.fpOk hb' (I1.hok.fresh hb')
end
theorem for_enum {K : PySem.W.Frag} {a : Addr} {xs : List V} {g : TG} {tb : TS} {D : Ends} {σ : St} {H : Hp} (Pv : Nat → St → Hp → Prop) (h0 : Pv 0 σ H) (hl : ∀ i σ H, i ≤ xs.length → Pv i σ H → SqL K H a xs)
    (hs : ∀ i x p σ H, xs[i]? = some x → Pv i σ H → H p = none → g (.ref p) σ (upd H p (.tup [.int (i : Nat), x])) fun σ2 H2 => tb { D with nx := Pv (i + 1), ct := Pv (i + 1), bk := D.nx } σ2 H2) (hd : ∀ σ H, Pv xs.length σ H → D.nx σ H) :
    ∃ W : Nat → Nat → St → Hp → Prop, (∃ m, W 0 m σ H) ∧ ∀ i m σ H, W i m σ H →
      ((Ite K a).stop i H ∧ D.nx σ H) ∨ ((Ite K a).go i H ∧ ∃ N : St → Hp → Prop, (∀ σ' H', N σ' H' → ∃ m', m' < m ∧ W (i + 1) m' σ' H') ∧ ∀ x H', (Ite K a).yld i H x H' → g x σ H' fun σ2 H2 => tb { D with nx := N, ct := N, bk := D.nx } σ2 H2) := by
  refine ⟨fun i m σ H => m = xs.length - i ∧ i ≤ xs.length ∧ Pv i σ H, ⟨xs.length, by simp, Nat.zero_le _, h0⟩, ?_⟩
  rintro i m σ H ⟨rfl, hi, p⟩
  have q := hl i σ H hi p
  by_cases hlt : i < xs.length
  · refine .inr ⟨⟨xs, xs[i], q, by simp [hlt]⟩, Pv (i + 1), fun σ' H' p' => ⟨xs.length - (i + 1), by omega, rfl, hlt, p'⟩, fun x H' y => ?_⟩
    obtain ⟨pp, z, rfl, hn, rfl, y⟩ := y
    exact hs i z pp σ _ (y xs q) p hn
  · have e : i = xs.length := by omega
    subst e
    exact .inl ⟨⟨xs, q, Nat.le_refl _⟩, hd σ H p⟩

/-! ### zip(a list, a list), walked by a target of two -/
section
variable {X : Cx}
end
end L2

set_option Elab.async false
set_option linter.all false
set_option maxRecDepth 100000
set_option maxHeartbeats 4000000
/-! Rules over the hand layer: a class's function by the class, a method by the instance's class, max with a default, tuples compared, is, defs with defaults, comprehensions that make things. Own work. -/
namespace L2
open PySem PySem.Spec PyProof.Rows SI
/-! ### C.m(..) -/
structure ClsFn (K : PySem.W.Frag) (C : Addr) (m : Str) (f : Addr) : Prop where
  gt : PySem.W.specialIn K (.ref C) "__getattribute__" = some (some (.builtin "type.__getattribute__"))
  rd : PySem.W.readsIn K C (.type "type") = true
  fc : PySem.W.findCls K (.ref C) (.type "type") m = some (.val (.ref f))
  kp : PySem.W.keepIn K (.ref f) = true
section
variable {X : Cx} {CX : CXT} {k : Nat} {f C : Addr} {fd : FuncData} {ps : List Str} {sp : Sp} {dvs : List V} {ds : List Value} {E : XK} {x m : Str} {p pos apos : Pos} {e o : Expr} {es : List Expr} {ta : TE} {t : TA}
theorem pe_clsfn {pl : Sem Bool} (hg : Gl X x) (hm : X.mg x = some (.ref C)) (cf : ClsFn X.K C m f) (F : FnOk X.prog X.w X.K X.mg X.base CX k f fd ps sp) (hr : Room k X.A) (hb : Binds X.K fd ps ds) (hd : Vals dvs ds) (hx : Passes CX X E) (ha : PA X (e :: es) t)
    (hdb : (x == ("__debug__" : Str)) = false := by decide) (hst : starEach (e :: es) X.env = (false, eval e X.env) :: starEach es X.env := by rfl) (hpl : (backTo pos (starEach es X.env)).any (·.1) = false := by rfl)
    (ht : eval (.Call (.Attribute (.Name x p) m apos) (e :: es) [] pos) X.env = (do
      let ov ← eval (.Name x p) X.env
      standAt apos.atName
      let (f, first) ← holding [ov] (getMethod ov m pl)
      callWith pos f first (backTo pos (starEach (e :: es) X.env)) (backToKw pos (keywordEach [] X.env))) := by rfl) :
    PE X (.Call (.Attribute (.Name x p) m apos) (e :: es) [] pos) (tCall sp dvs E t) := by
  intro pins s σ H Q I h
  refine PySem.W.methodCall_KW (pl := pl) (ld_glob I hg hm ?_ hdb) ht
  refine PySem.W.method_cls I.kIn cf.gt (PySem.W.cls_value I.kIn cf.rd cf.fc rfl ?_)
  have I2 := I.tok (s.toks + 1)
  refine PySem.W.callWith_K (first := []) (h₀ := X.base) I.ok.mod.kin cf.kp (thn (ha pos pins _ σ H _ I2 h) fun us s2 ⟨vs, H2, I3, r, q⟩ => ⟨I3.kIn, ?_⟩) hst hpl
  exact run_fn F hr hb hd hx I3 r q

/-! ### o.m(..), by the class of o -/
end

/-! ### a def with defaults -/
structure FunD (K : PySem.W.Frag) (x qual : Str) (st : Stmt) (f : Addr) (fd : FuncData) (T : Addr) : Prop where
  ex : ∃ (oc : Value) (od : Option Addr) (kV doc pm : Value) (an : Option Addr) (cdv ct : Value) (osl : Array (Option Value)),
    fd = PySem.W.fnOf x qual (defArgs st) (defBody st) (defScope st) (.ref T) kV doc pm an cdv ct ∧ K.lookup f = some ⟨oc, od, .func fd, osl⟩ ∧ PySem.W.codeIn K cdv qual = true
  kp : PySem.W.keepIn K (.ref f) = true
section
variable {P : Program} {w : World} {K : PySem.W.Frag} {mg : Str → Option Value} {base : Heap}
theorem FunD.ok {x qual : Str} {st : Stmt} {f T : Addr} {fd : FuncData} {N ps : List Str} {k : Nat} {sp : Sp} (F : FunD K x qual st f fd T) (S : FnScope N ps (defScope st)) (len : ∀ vs H Q E, sp vs H Q E → vs.length = ps.length)
    (hbody : ∀ (cdv : Value) (A : Around) (outer : List Env) (s : Shared) (H : Hp) (vs : List V) (Q : VK) (E : XK), Room k (A.deeper (envOfC qual (defScope st) s.heap.objs.size f cdv)) → sp vs H Q E →
      ∃ t, PSs (cxOf CX0 P w K mg base N qual (defScope st) f cdv A outer s H E).nox (defBody st) t ∧ t { nx := fun _ H' => Q .non H', rt := Q } (start N vs) H) : FnOk P w K mg base CX0 (k + 1) f fd ps sp := by
  obtain ⟨oc, od, kV, doc, pm, an, cdv, ct, osl, rfl, lk, hcd⟩ := F.ex
  refine fn_of lk hcd S len fun A outer s H vs Q E hr hsp => ?_
  obtain ⟨t, h, q⟩ := hbody cdv A outer s H vs Q E hr hsp
  exact ⟨t, h.nox, q⟩
theorem fund_mk {x qual : Str} {st : Stmt} {f T : Addr} {oc : Value} {od an : Option Addr} {osl : Array (Option Value)} {kV doc pm cdv ct : Value} (l : K.lookup f = some ⟨oc, od, .func (PySem.W.fnOf x qual (defArgs st) (defBody st) (defScope st) (.ref T) kV doc pm an cdv ct), osl⟩)
    (c : PySem.W.codeIn K cdv qual = true) (k : PySem.W.keepIn K (.ref f) = true) : FunD K x qual st f (PySem.W.fnOf x qual (defArgs st) (defBody st) (defScope st) (.ref T) kV doc pm an cdv ct) T := ⟨⟨oc, od, kV, doc, pm, an, cdv, ct, osl, rfl, l, c⟩, k⟩
end

/-! ### max(a list of ints, default = d) -/
def maxI : List Int → Int → Int
  | [], d => d
  | z :: r, _ => r.foldl (fun a b => if b > a then b else a) z
theorem ints_cons {vs : List Value} {n : Int} {ns : List Int} (h : IntsAre vs (n :: ns)) : ∃ t vs', vs = .int n t :: vs' ∧ IntsAre vs' ns := by
  cases h with
  | cons _ t q => exact ⟨t, _, rfl, q⟩
section
variable {prog : Program} {w : World} {A : Around} {R : Result → Shared → Prop}
theorem maxD_loop {I l : Addr} {d : Value} {its : List Value} (hh : A.handled = none) (hIl : I ≠ l) (S : Addr) (hSI : S ≠ I) (hSl : S ≠ l) :
    ∀ (ns : List Int) (j : Nat) (s : Shared) (best : Int) (tb : Tok) (c : Nat), IntsAre (its.drop (j + 1)) ns → j + 1 + ns.length = its.length →
    s.heap.IsListIter I l (j + 1) → s.heap.IsList l its.toArray → s.heap.get? S = some { cls := .type "list", dict := none, data := .seq #[.int best tb, .int best tb] c, slots := #[] } →
    (∀ t h' tk, (∀ b o, b ≠ I → b ≠ S → s.heap.get? b = some o → h'.get? b = some o) → R (.ok (.ret (.int (ns.foldl (fun a b => if b > a then b else a) best) t))) { s with heap := h', toks := tk }) →
    codeAny (model prog w) A (.builtin "max.loop" ⟨[.ref I, .none, .ref S], [("default", d)]⟩) R s := by
  have hname : (toString "max" ++ toString ".loop" : String) = "max.loop" := by decide
  intro ns
  induction ns with
  | nil =>
    intro j s best tb c hI hlen hit hl hS hR
    refine codeAny_builtin F.entry_max_loop ?_
    rw [Around.under_plainId F.plain_max_loop _]
    show wpAny _ A.in1 (seqItems? (.ref S) >>= _) _ _ s
    refine wpAny_bind (wpAny_seqItems hS rfl ?_)
    show wpAny _ A.in1 (tryCatch (pyNext (.ref I)) _ >>= _) _ _ s
    refine wpAny_bind (wpAny_tryCatch (wpAny_pyNext_list_end hh hit hl (by simp at hlen ⊢; omega) fun h' he => ?_))
    have hS' := he S _ hSI hS
    show wpAny _ A.in1 (updateSeq S (fun _ => #[]) >>= _) _ _ _
    refine wpAny_bind (wpAny_updateSeq hS' rfl (wpAny_bind (wpAny_letGo (wpAny_pure ?_))))
    exact hR tb _ s.toks fun b o n1 n2 e => (Heap.get?_update_other _ _ (Ne.symm n2)).trans (he b o n1 e)
  | cons z r ih =>
    intro j s best tb c hI hlen hit hl hS hR
    have hlt : j + 1 < its.length := by simp at hlen; omega
    obtain ⟨t, hz, hI'⟩ : ∃ t, its[j + 1]? = some (.int z t) ∧ IntsAre (its.drop (j + 2)) r := by
      obtain ⟨t, vs', e, q⟩ := ints_cons hI
      refine ⟨t, ?_, ?_⟩
      · have e0 : its[j + 1]? = (its.drop (j + 1))[0]? := by rw [List.getElem?_drop]
        rw [e0, e]; rfl
      · have e1 : its.drop (j + 2) = (its.drop (j + 1)).drop 1 := by rw [List.drop_drop]
        rw [e1, e]; exact q
    refine codeAny_builtin F.entry_max_loop ?_
    rw [Around.under_plainId F.plain_max_loop _]
    show wpAny _ A.in1 (seqItems? (.ref S) >>= _) _ _ s
    refine wpAny_bind (wpAny_seqItems hS rfl ?_)
    show wpAny _ A.in1 (tryCatch (pyNext (.ref I)) _ >>= _) _ _ s
    refine wpAny_bind (wpAny_tryCatch (wpAny_pyNext_list_item hit hl (x := .int z t) (by simpa using hz) fun h' hit' hs' => ?_))
    have hS' := hs'.extBut S _ hSI hS
    show wpAny _ A.in1 (tryCatch (holding [.int z t, .int z t] (richCompare .Gt (.int z t) (.int best tb) >>= _)) _ >>= _) _ _ _
    refine wpAny_bind (wpAny_tryCatch (wpAny_holding (wpAny_bind ?_)))
    refine (PyProof.Rows.gt_int ?_ : wpAny (model prog w) _ (compareOp .Gt (.int z t) (.int best tb)) _ _ _)
    refine wpAny_bind (wpAny_holding (wpAny_truthy_bool ?_))
    refine wpAny_bind (wpAny_letGo (wpAny_pure ?_))
    by_cases hb : best < z
    · rw [decide_eq_true hb]
      simp only [if_true]
      refine wpAny_bind (wpAny_updateSeq hS' rfl (wpAny_bind (wpAny_letGo ?_)))
      rw [hname]
      have e1 : List.foldl (fun a b : Int => if b > a then b else a) best (z :: r) = List.foldl (fun a b => if b > a then b else a) z r := by
        rw [List.foldl_cons, if_pos hb]
      rw [e1] at hR
      refine wpAny_pure ⟨plainId_quiet F.plain_max_loop _, ih (j + 1) _ z t _ hI' (by simp at hlen; omega) ?_ ?_ (Heap.get?_update_self _ hS' rfl) fun t' h2 tk hk => ?_⟩
      · obtain ⟨o, ho, q⟩ := hit'
        exact ⟨o, (Heap.get?_update_other _ _ hSI).trans ho, q⟩
      · obtain ⟨o, ho, q⟩ := hl
        exact ⟨o, (Heap.get?_update_other _ _ hSl).trans (hs'.extBut l o (Ne.symm hIl) ho), q⟩
      · exact hR t' h2 tk fun b o n1 n2 e => hk b o n1 n2 ((Heap.get?_update_other _ _ (Ne.symm n2)).trans (hs'.extBut b o n1 e))
    · rw [decide_eq_false hb]
      simp only [Bool.false_eq_true, if_false]
      refine wpAny_bind (wpAny_letGo ?_)
      rw [hname]
      have e1 : List.foldl (fun a b : Int => if b > a then b else a) best (z :: r) = List.foldl (fun a b => if b > a then b else a) best r := by
        rw [List.foldl_cons, if_neg hb]
      rw [e1] at hR
      refine wpAny_pure ⟨plainId_quiet F.plain_max_loop _, ih (j + 1) _ best tb c hI' (by simp at hlen; omega) hit' ?_ hS' fun t' h2 tk hk => ?_⟩
      · obtain ⟨o, ho, q⟩ := hl
        exact ⟨o, hs'.extBut l o (Ne.symm hIl) ho, q⟩
      · exact hR t' h2 tk fun b o n1 n2 e => hk b o n1 n2 (hs'.extBut b o n1 e)
theorem maxD_first {I l : Addr} {d : Value} {its : List Value} (hh : A.handled = none) (hIl : I ≠ l) (S : Addr) (hSI : S ≠ I) (hSl : S ≠ l) {ns : List Int} {s : Shared} {c : Nat} {di : Int} {dt : Tok} (hd : d = .int di dt) (hI : IntsAre its ns)
    (hit : s.heap.IsListIter I l 0) (hl : s.heap.IsList l its.toArray) (hS : s.heap.get? S = some { cls := .type "list", dict := none, data := .seq #[] c, slots := #[] })
    (hR : ∀ t h' tk, (∀ b o, b ≠ I → b ≠ S → s.heap.get? b = some o → h'.get? b = some o) → R (.ok (.ret (.int (maxI ns di) t))) { s with heap := h', toks := tk }) :
    codeAny (model prog w) A (.builtin "max.loop" ⟨[.ref I, .none, .ref S], [("default", d)]⟩) R s := by
  have hname : (toString "max" ++ toString ".loop" : String) = "max.loop" := by decide
  refine codeAny_builtin F.entry_max_loop ?_
  rw [Around.under_plainId F.plain_max_loop _]
  show wpAny _ A.in1 (seqItems? (.ref S) >>= _) _ _ s
  refine wpAny_bind (wpAny_seqItems hS rfl ?_)
  show wpAny _ A.in1 (tryCatch (pyNext (.ref I)) _ >>= _) _ _ s
  cases hI with
  | nil =>
    refine wpAny_bind (wpAny_tryCatch (wpAny_pyNext_list_end hh hit hl (by simp) fun h' he => ?_))
    refine wpAny_bind (wpAny_rule (wpAny_pure ?_))
    subst hd
    exact hR dt _ s.toks fun b o n1 n2 e => he b o n1 e
  | @cons z t vs r hI =>
    refine wpAny_bind (wpAny_tryCatch (wpAny_pyNext_list_item hit hl (x := .int z t) (by simp) fun h' hit' hs' => ?_))
    have hS' := hs'.extBut S _ hSI hS
    show wpAny _ A.in1 (updateSeq S (fun _ => #[.int z t, .int z t]) >>= _) _ _ _
    refine wpAny_bind (wpAny_updateSeq hS' rfl ?_)
    rw [hname]
    refine wpAny_pure ⟨plainId_quiet F.plain_max_loop _, maxD_loop (its := .int z t :: vs) hh hIl S hSI hSl r 0 _ z t _ (by simpa using hI) (by simp [hI.length]; omega) ?_ ?_ (Heap.get?_update_self _ hS' rfl) fun t' h2 tk hk => ?_⟩
    · obtain ⟨o, ho, q⟩ := hit'
      exact ⟨o, (Heap.get?_update_other _ _ hSI).trans ho, q⟩
    · obtain ⟨o, ho, q⟩ := hl
      exact ⟨o, (Heap.get?_update_other _ _ hSl).trans (hs'.extBut l o (Ne.symm hIl) ho), q⟩
    · exact hR t' h2 tk fun b o n1 n2 e => hk b o n1 n2 ((Heap.get?_update_other _ _ (Ne.symm n2)).trans (hs'.extBut b o n1 e))
end
end L2

set_option Elab.async false
set_option linter.all false
set_option maxRecDepth 100000
set_option maxHeartbeats 4000000
/-! Rules over the hand layer: max with a default, tuples compared, is, comprehensions that make things. Own work. -/
namespace L2
open PySem PySem.Spec PyProof.Rows SI
theorem args_maxD (a d : Value) : argsOk "max" ⟨[a], [("default", d)]⟩ := by unfold argsOk; kernel_rfl
section
variable {X : Cx}
theorem call_maxD (hc : X.calm = true) {pins : List (Addr × Obj)} {s : Shared} {σ : St} {H : Hp} {p : Addr} {ns : List Int} {d : Int} {td : Tok} {Q : VK} (I : Inv X pins σ H s) (hq : SqL X.K H p (ns.map V.int)) (q : Q (.int (maxI ns d)) H) :
    wpAny (model X.prog X.w) X.A (call (.builtin "max") [.ref p] [("default", .int d td)]) (EP X pins σ Q) X.xe s := by
  have hname : (toString "max" ++ toString ".loop" : String) = "max.loop" := by decide
  obtain ⟨its, rv, pl, hz⟩ := I.list hq
  have hI := intsAre_of rv
  have hp : p < s.heap.objs.size := by obtain ⟨o, ho, _⟩ := pl.isList; exact Heap.lt_size ho
  refine wpAny_call (codeAny_call_builtin F.plain_max F.entry_max ?_)
  simp only [checkBuiltinCall, F.kind_max]
  have hargs := args_maxD (.ref p) (.int d td)
  have body : wpAny (model X.prog X.w) X.A.in1 (Builtin.«max» ⟨[.ref p], [("default", .int d td)]⟩) (fun fin s' => match fin with
      | .done f => (match (Except.ok f : Result) with | .ok (.ret v) => EP X pins σ Q v s' | .ok _ => False | .error e => X.xe e s')
      | .again c' => c'.quiet = true ∧ codeAny (model X.prog X.w) X.A c' (fun r s' => match r with | .ok (.ret v) => EP X pins σ Q v s' | .ok _ => False | .error e => X.xe e s') s') X.xe s := by
    show wpAny _ X.A.in1 (Builtin.Builtins.bindParams "max" ["key", "default"] 0 ⟨[], [("default", .int d td)]⟩ >>= _) _ _ s
    refine wpAny_bind (wpAny_of_eq (show Builtin.Builtins.bindParams "max" ["key", "default"] 0 ⟨[], [("default", .int d td)]⟩ = pure [none, some (.int d td)] from rfl) ?_)
    refine wpAny_bind (wpAny_pure ?_)
    refine wpAny_bind (wpAny_pyIter_list pl.isList ?_)
    refine wpAny_bind (wpAny_newObj_type ?_)
    rw [hname]
    have hsz : (s.heap.push { cls := .type "list_iterator", data := .fields #[.ref p, .int 0 0] }).objs.size = s.heap.objs.size + 1 := Heap.size_push ..
    refine wpAny_pure ⟨plainId_quiet F.plain_max_loop _, maxD_first (its := its) (ns := ns) (I.ok.hd hc) (Nat.ne_of_gt hp) _ (by rw [hsz]; exact Nat.succ_ne_self _) (by rw [hsz]; exact Nat.ne_of_gt (Nat.lt_succ_of_lt hp)) rfl hI ⟨_, Heap.get?_push_of_some _ (Heap.get?_push_size _ rfl), rfl, rfl⟩
      ((pl.isList.push _).push _) (Heap.get?_push_size _ rfl) fun t h' tk hk => ⟨.int (maxI ns d), H, ?_, ⟨t, rfl⟩, q⟩⟩
    exact I.kept (t' := tk) fun b o e => hk b o (Nat.ne_of_lt (Heap.lt_size e)) (by rw [hsz]; exact Nat.ne_of_lt (Nat.lt_succ_of_lt (Heap.lt_size e))) (Heap.get?_push_of_some _ (Heap.get?_push_of_some _ e))
  cases hsig : Manifest.signature? "max" with
  | none => exact wpAny_pure body
  | some sig =>
    simp only [argsOk, hsig] at hargs
    have h2 : Bind.checkArgs "max" sig ⟨[.ref p], [("default", .int d td)]⟩ = pure () := hargs
    show wpAny _ X.A.in1 (Bind.checkArgs "max" sig ⟨[.ref p], [("default", .int d td)]⟩) _ _ s
    rw [h2]; exact wpAny_pure body
def tMaxD (K : PySem.W.Frag) (d : Int) (t : TA) : TE := fun σ H Q => t σ H fun vs H1 => ∃ p ns, vs = [.ref p] ∧ SqL K H1 p (ns.map V.int) ∧ Q (.int (maxI ns d)) H1
theorem pe_maxD {e : Expr} {t : TA} {p pos kp kpos : Pos} {d : Int} {j : Nat} (hc : X.calm = true) (hg : Gl X "max") (hm : X.mg "max" = none) (ha : PA X [e] t)
    (he : backTo pos (starEach [e] X.env) = [(false, eval e X.env)] := by rfl) :
    PE X (.Call (.Name "max" p) [e] [⟨some "default", .Constant (.int d) j kp, kpos⟩] pos) (tMaxD X.K d t) := by
  intro pins s σ H Q I h
  refine wpAny_Call_Name_kw (ld_blt I hg hm bt_max ?_)
  refine callWith_kw (thn (ha pos pins s σ H _ I h) fun us s1 ⟨vs, H1, I1, r1, q1⟩ => ?_) he (by rw [he]; rfl)
  refine thn (pk_cons (nm := some "default") (kpos := kpos) (pe_int (i := d) (j := j) (pos := kp)) pk_nil pos pins s1 σ H1 (fun zs H2 => zs = [.int d] ∧ H2 = H1) I1 ⟨rfl, rfl⟩) ?_
  rintro ws s2 ⟨zs, H2, I2, rz, ez, eH⟩
  subst ez eH
  obtain ⟨u, rfl, t', rfl⟩ := vals1 rz
  obtain ⟨a, ns, rfl, hq, q⟩ := q1
  obtain ⟨u, rfl, rx⟩ := vals1 r1
  cases rx
  exact call_maxD hc I2 hq q
/-! ### tuples compared -/
/-! ### is, of bools -/
end
/-! ### comprehensions over a list, of which each element may make things -/
theorem lc_grow {K : PySem.W.Frag} {a : Addr} {xs : List V} {i : Nat} {te : TE} {σ : St} {H : Hp} {D : Addr} {Q : Hp → Prop} (P : Nat → List V → Hp → Prop) (hD : H D = none) (hl : SqL K H a xs) (hn : xs.length ≤ sizeLine)
    (h0 : P 0 [] (upd H D (.lst [])))
    (he : ∀ (k : Nat) x (v : Option V) (ys : List V) (H1 : Hp) (R : VK), xs[k]? = some x → ys.length = k → Same H H1 → H1 D = some (.lst ys) → P k ys H1 → (∀ y H2, Same H1 H2 → P (k + 1) (ys ++ [y]) (upd H2 D (.lst (ys ++ [y]))) → R y H2) → te ((σ.set i v).set i (some x)) H1 R)
    (hq : ∀ ys H1, ys.length = xs.length → Same H H1 → H1 D = some (.lst ys) → P xs.length ys H1 → Q H1) :
    ∃ W : Nat → Nat → List V → St → Hp → Prop, (∃ m, W 0 m [] σ (upd H D (.lst []))) ∧ lcTurn (Itl K a) D (gName i) tYes te Q W := by
  refine ⟨fun k m ys σ' H' => m = xs.length - k ∧ k ≤ xs.length ∧ ys.length = k ∧ (σ' = σ ∨ ∃ v, σ' = σ.set i v) ∧ Same H H' ∧ H' D = some (.lst ys) ∧ P k ys H', ⟨xs.length, by simp, Nat.zero_le _, rfl, .inl rfl, same_upd hD, upd_same, h0⟩, ?_⟩
  rintro k m ys σ' H' ⟨rfl, hk, hlen, hσ, hS, hDD, hP⟩
  have hl' := hS.seq hl
  by_cases hlt : k < xs.length
  · refine .inr ⟨⟨xs, xs[k], hl', by simp [hlt]⟩, fun x H2 hy => ?_⟩
    obtain ⟨rfl, hy⟩ := hy
    have hx := hy xs hl'
    show te (σ'.set i _) _ _
    have hσ' : ∃ v, σ'.set i (some x) = (σ.set i v).set i (some x) := by
      rcases hσ with rfl | ⟨v, rfl⟩
      · exact ⟨none, by rw [List.set_set]⟩
      · exact ⟨v, rfl⟩
    obtain ⟨v, ev⟩ := hσ'
    have hσ2 : ∃ v', σ'.set i (some x) = σ.set i v' := ⟨some x, by rw [ev, List.set_set]⟩
    rw [ev]
    refine he k x v ys _ _ hx hlen hS hDD hP fun y H3 hS3 hP3 => ?_
    have hD3 := hS3 _ _ hDD
    refine ⟨hD3, by omega, xs.length - (k + 1), by omega, rfl, hlt, by simp [hlen], by rw [← ev]; exact .inr hσ2, fun b o e => ?_, upd_same, hP3⟩
    have hne : b ≠ D := fun z => by rw [z, hD] at e; cases e
    rw [upd_ne hne]
    exact hS3 _ _ (hS _ _ e)
  · have e : k = xs.length := by omega
    subst e
    exact .inl ⟨⟨xs, hl', Nat.le_refl _⟩, hq ys _ hlen hS hDD hP⟩
end L2

set_option Elab.async false
set_option linter.all false
set_option maxRecDepth 100000
set_option maxHeartbeats 4000000
/-! Rules over the hand layer: lists of different length compared, whatever they hold. Own work. -/
namespace L2
open PySem PySem.Spec PyProof.Rows SI
section
variable {X : Cx}
end
end L2

set_option Elab.async false
set_option linter.all false
set_option maxRecDepth 100000
set_option maxHeartbeats 4000000
/-! Comprehensions over enumerate, zip, range, whatever their elements do. Own work. -/
namespace L2
open PySem PySem.Spec PyProof.Rows
theorem lc_gen {J : It} {n : Nat} {g : TG} {tt : TT} {te : TE} {σ : St} {H : Hp} {D : Addr} {Q : Hp → Prop} (P : Nat → List V → St → Hp → Prop) (h0 : P 0 [] σ (upd H D (.lst [])))
    (hs : ∀ k ys σ' H', k < n → P k ys σ' H' → J.go k H' ∧ ∀ x H1, J.yld k H' x H1 → g x σ' H1 (fun σ2 H2 => tt σ2 H2 fun b H3 =>
      if b = true then te σ2 H3 fun y H4 => H4 D = some (.lst ys) ∧ ys.length < sizeLine ∧ ∃ m', m' < n - k ∧ m' = n - (k + 1) ∧ k + 1 ≤ n ∧ P (k + 1) (ys ++ [y]) σ2 (upd H4 D (.lst (ys ++ [y]))) else ∃ m', m' < n - k ∧ m' = n - (k + 1) ∧ k + 1 ≤ n ∧ P (k + 1) ys σ2 H3))
    (hd : ∀ ys σ' H', P n ys σ' H' → J.stop n H' ∧ Q H') :
    ∃ W : Nat → Nat → List V → St → Hp → Prop, (∃ m, W 0 m [] σ (upd H D (.lst []))) ∧ lcTurn J D g tt te Q W := by
  refine ⟨fun k m ys σ' H' => m = n - k ∧ k ≤ n ∧ P k ys σ' H', ⟨n, by simp, Nat.zero_le _, h0⟩, ?_⟩
  rintro k m ys σ' H' ⟨rfl, hk, hP⟩
  by_cases hlt : k < n
  · exact .inr (hs k ys σ' H' hlt hP)
  · have e : k = n := by omega
    subst e
    exact .inl (hd ys σ' H' hP)
/-- what stands behind a turn -/
def Beh (n k : Nat) (P : Nat → List V → St → Hp → Prop) (ys : List V) (σ : St) (H : Hp) : Prop := ∃ m', m' < n - k ∧ m' = n - (k + 1) ∧ k + 1 ≤ n ∧ P (k + 1) ys σ H
theorem Beh.of {n k : Nat} {P : Nat → List V → St → Hp → Prop} {ys : List V} {σ : St} {H : Hp} (hk : k < n) (h : P (k + 1) ys σ H) : Beh n k P ys σ H := ⟨n - (k + 1), by omega, rfl, hk, h⟩
theorem lc_enum {K : PySem.W.Frag} {a : Addr} {xs : List V} {g : TG} {tt : TT} {te : TE} {σ : St} {H : Hp} {D : Addr} {Q : Hp → Prop} (P : Nat → List V → St → Hp → Prop) (h0 : P 0 [] σ (upd H D (.lst []))) (hl : ∀ k ys σ' H', k ≤ xs.length → P k ys σ' H' → SqL K H' a xs)
    (hs : ∀ k x p ys σ' H', xs[k]? = some x → P k ys σ' H' → H' p = none → g (.ref p) σ' (upd H' p (.tup [.int (k : Nat), x])) (fun σ2 H2 => tt σ2 H2 fun b H3 =>
      if b = true then te σ2 H3 fun y H4 => H4 D = some (.lst ys) ∧ ys.length < sizeLine ∧ Beh xs.length k P (ys ++ [y]) σ2 (upd H4 D (.lst (ys ++ [y]))) else Beh xs.length k P ys σ2 H3))
    (hd : ∀ ys σ' H', P xs.length ys σ' H' → Q H') :
    ∃ W : Nat → Nat → List V → St → Hp → Prop, (∃ m, W 0 m [] σ (upd H D (.lst []))) ∧ lcTurn (Ite K a) D g tt te Q W := by
  refine lc_gen (n := xs.length) P h0 (fun k ys σ' H' hk hP => ?_) (fun ys σ' H' hP => ⟨⟨xs, hl _ _ _ _ (Nat.le_refl _) hP, Nat.le_refl _⟩, hd ys σ' H' hP⟩)
  have q := hl k ys σ' H' (Nat.le_of_lt hk) hP
  refine ⟨⟨xs, xs[k], q, by simp [hk]⟩, fun x H1 y => ?_⟩
  obtain ⟨pp, z, rfl, hn, rfl, y⟩ := y
  exact hs k z pp ys σ' H' (y xs q) hP hn
end L2

set_option Elab.async false
set_option linter.all false
set_option maxRecDepth 100000
set_option maxHeartbeats 4000000
/-! A list times a bool; the items of a cut. Own work. -/
namespace L2
open PySem PySem.Spec PyProof.Rows
def b2i (b : Bool) : Int := if b = true then 1 else 0
theorem rmul_bool_list (b : Bool) (l : Addr) (items : Array Value) (n : Nat) :
    Meets (Builtin.«int.__rmul__» ⟨[.bool b, .ref l], []⟩) (fun _ R s => s.heap.get? l = some { cls := .type "list", dict := none, data := .seq items n, slots := #[] } ∧ R (.ok (.ret Value.notImplemented)) s) :=
  .of_wp fun prog w A R s h => by obtain ⟨hp, g, d, tk, os⟩ := s; obtain ⟨hl, h⟩ := h; wp_walk; exact ⟨_, rfl, h⟩
theorem mul_list_bool (l : Addr) (items : Array Value) (n : Nat) (b : Bool) (hc2 : items.size ≤ sizeLine) :
    Meets (Builtin.«list.__mul__» ⟨[.ref l, .bool b], []⟩) (fun _ R s => s.heap.get? l = some { cls := .type "list", dict := none, data := .seq items n, slots := #[] } ∧ R (.ok (.ret (Value.ref s.heap.objs.size))) { s with heap := s.heap.push { cls := Value.type "list", data := Data.seq (List.foldl (fun x1 x2 => x1 ++ x2) #[] (List.replicate (if items.isEmpty = true then 0 else (b2i b).toNat) items)) }, toks := s.toks }) :=
  .of_wp fun prog w A R s h => by
    obtain ⟨hp, g, d, tk, os⟩ := s; obtain ⟨hl, h⟩ := h
    cases b
    · wp_walk; exact ⟨_, rfl, h⟩
    · have hc1 : ¬ items.size * (if true = true then (1 : Int) else 0).toNat > (2 ^ 63 - 1) / 8 := by
        have : (sizeLine : Nat) ≤ (2 ^ 63 - 1) / 8 := by decide
        show ¬ items.size * 1 > _
        omega
      have hc3 : ¬ Builtin.List.listTooLong (items.size * (if true = true then (1 : Int) else 0).toNat) = true := by
        show ¬ Builtin.List.listTooLong (items.size * 1) = true
        rw [Nat.mul_one, notLongL hc2]
        exact Bool.false_ne_true
      have hsz := AutoListH.joined_fits (items := items) hc3
      wp_walk
      rw [if_neg hc1]
      dsimp only
      rw [if_neg hc3]
      wp_walk
      refine wpAny_ite_false (decide_eq_false (Nat.not_lt.mpr hsz)) ?_
      wp_walk; exact ⟨_, rfl, h⟩
section
variable {X : Cx}
/-- a list times a bool -/
def rRepB : R2 := fun x y H Q => ∃ l b xs, x = .ref l ∧ y = .bl b ∧ H l = some (.lst xs) ∧ ∀ p, H p = none → Q (.ref p) (upd H p (.lst (if b = true then xs else [])))
theorem op_repB : OpR X (binaryOp .Mult) rRepB := by
  intro pins s σ H x y v u Q I rx ry h
  obtain ⟨l, b, xs, rfl, rfl, hH, q⟩ := h
  cases rx
  cases ry
  obtain ⟨z, its, n, r, hl, e⟩ := I.lstM hH
  have hlen : its.toArray.size ≤ sizeLine := by rw [List.size_toArray, ← hl]; exact z
  refine wpAny_binaryOp_repeat_ref (T := "list") (U := "bool") (by decide) ⟨_, e, rfl⟩ (fun s' => PySem.typeIs_bool s' b) noFill_list_mul F.fills_bool_mul F.slot_bool_rmul repeat_list F.slot_bool_index.lookup
    (call_meets F.slot_bool_rmul (PySem.typeIs_bool s b) F.entry_int_rmul (F.args_int_rmul_2 _ _) (rmul_bool_list b l its.toArray n)
      ⟨e, rfl, ⟨_, e, rfl⟩, call_meets F.slot_list_mul ⟨_, e, rfl⟩ F.entry_list_mul (F.args_list_mul_2 _ _) (mul_list_bool l its.toArray n b hlen) ⟨e, ?_⟩⟩)
  have hnew : List.foldl (fun x1 x2 => x1 ++ x2) #[] (List.replicate (if its.toArray.isEmpty = true then 0 else (b2i b).toNat) its.toArray) = (if b = true then its else []).toArray := by
    cases b with
    | false =>
      have : (if its.toArray.isEmpty = true then 0 else (b2i false).toNat) = 0 := by split <;> rfl
      rw [this]; rfl
    | true =>
      cases its with
      | nil => rfl
      | cons a r' => simp [b2i]
  rw [hnew]
  refine ⟨.ref _, _, I.lnew (t' := s.toks) (ys := if b = true then xs else []) (its := if b = true then its else []) ?_ ?_, rfl, q _ I.fresh⟩
  · cases b with
    | false => exact .nil
    | true => exact r
  · cases b with
    | false => exact Nat.zero_le _
    | true => exact z
end
/-! ### cuts of a list -/
theorem cutV_head (xs : List V) {k : Nat} (h : k ≤ xs.length) : cutV xs none (some (k : Int)) = xs.take k := by
  unfold cutV
  rw [HT.sIx_none, HT.sIx_nat, Nat.min_eq_left h, List.drop_zero, Nat.sub_zero]
theorem cutV_tail (xs : List V) {k : Nat} (h : k ≤ xs.length) : cutV xs (some (k : Int)) none = xs.drop k := by
  unfold cutV
  rw [HT.sIx_none, HT.sIx_nat, Nat.min_eq_left h, List.take_of_length_le]
  rw [List.length_drop]; exact Nat.le_refl _
theorem cutV_one (xs : List V) : cutV xs none (some 1) = xs.take 1 := by
  cases xs with
  | nil => rfl
  | cons x r => exact cutV_head (x :: r) (k := 1) (by simp)
end L2

set_option Elab.async false
set_option linter.all false
set_option maxRecDepth 100000
set_option maxHeartbeats 4000000
/-! Trees, as the program keeps them, and as plain data. Own work. -/
namespace TR
open PySem L2
inductive Tr where
  | word (n : Str) (at' : Int) (b : Nat)
  | fig (z at' : Int)
  | row (ps : List Tr) (at' : Int)
mutual
def many : Tr → Nat
  | .word _ _ _ => 1
  | .fig _ _ => 1
  | .row ps _ => 1 + manys ps
def manys : List Tr → Nat
  | [] => 0
  | p :: r => many p + manys r
end
mutual
def deep : Tr → Nat
  | .word _ _ _ => 0
  | .fig _ _ => 0
  | .row ps _ => deeps ps + 1
def deeps : List Tr → Nat
  | [] => 0
  | p :: r => max (deep p) (deeps r)
end
mutual
def addb (m : Nat) : Tr → Tr
  | .word n a b => .word n a (b ||| m)
  | .fig z a => .fig z a
  | .row ps a => .row (addbs m ps) a
def addbs (m : Nat) : List Tr → List Tr
  | [] => []
  | p :: r => addb m p :: addbs m r
end
mutual
theorem many_addb (m : Nat) : ∀ t : Tr, many (addb m t) = many t
  | .word _ _ _ => rfl
  | .fig _ _ => rfl
  | .row ps _ => by simp only [addb, many, manys_addbs m ps]
theorem manys_addbs (m : Nat) : ∀ ts : List Tr, manys (addbs m ts) = manys ts
  | [] => rfl
  | p :: r => by simp only [addbs, manys, many_addb m p, manys_addbs m r]
end
mutual
theorem deep_addb (m : Nat) : ∀ t : Tr, deep (addb m t) = deep t
  | .word _ _ _ => rfl
  | .fig _ _ => rfl
  | .row ps _ => by simp only [addb, deep, deeps_addbs m ps]
theorem deeps_addbs (m : Nat) : ∀ ts : List Tr, deeps (addbs m ts) = deeps ts
  | [] => rfl
  | p :: r => by simp only [addbs, deeps, deep_addb m p, deeps_addbs m r]
end
mutual
theorem addb_addb (m k : Nat) : ∀ t : Tr, addb m (addb k t) = addb (k ||| m) t
  | .word _ _ _ => by simp only [addb, Nat.or_assoc]
  | .fig _ _ => rfl
  | .row ps _ => by simp only [addb, addbs_addbs m k ps]
theorem addbs_addbs (m k : Nat) : ∀ ts : List Tr, addbs m (addbs k ts) = addbs (k ||| m) ts
  | [] => rfl
  | p :: r => by simp only [addbs, addb_addb m k p, addbs_addbs m k r]
end
mutual
theorem addb_zero : ∀ t : Tr, addb 0 t = t
  | .word _ _ _ => by simp only [addb, Nat.or_zero]
  | .fig _ _ => rfl
  | .row ps _ => by simp only [addb, addbs_zero ps]
theorem addbs_zero : ∀ ts : List Tr, addbs 0 ts = ts
  | [] => rfl
  | p :: r => by simp only [addbs, addb_zero p, addbs_zero r]
end

/-- the classes -/
structure C4 where
  T : Addr
  W : Addr
  F : Addr
  R : Addr
def f3 (a m d : Int) : List (Str × V) := [("at", .int a), ("many", .int m), ("deep", .int d)]
def fW (n : Str) (a : Int) (b : Nat) : List (Str × V) := [("at", .int a), ("many", .int 1), ("deep", .int 0), ("name", .str n), ("bits", .int b)]
def fF (z a : Int) : List (Str × V) := [("at", .int a), ("many", .int 1), ("deep", .int 0), ("number", .int z)]
def fR (l : Addr) (m d : Nat) (a : Int) : List (Str × V) := [("at", .int a), ("many", .int m), ("deep", .int d), ("parts", .ref l)]
theorem putF_ne {f g : Str} {v w : V} {r : List (Str × V)} (h : g ≠ f) : putF f v ((g, w) :: r) = (g, w) :: putF f v r := by
  show (if g = f then _ else _) = _
  rw [if_neg h]
theorem putF_nil {f : Str} {v : V} : putF f v [] = [(f, v)] := rfl
theorem put_many {a m : Int} : putF "many" (.int m) ([("at", .int a)] : List (Str × V)) = ([("at", .int a), ("many", .int m)] : List (Str × V)) := by
  rw [putF_ne (by decide +kernel), putF_nil]
theorem put_deep {a m d : Int} : putF "deep" (.int d) ([("at", .int a), ("many", .int m)] : List (Str × V)) = f3 a m d := by
  rw [putF_ne (by decide +kernel), putF_ne (by decide +kernel), putF_nil]; rfl
theorem put_x {a m d : Int} {f : Str} {v : V} (h1 : ("at" : Str) ≠ f) (h2 : ("many" : Str) ≠ f) (h3 : ("deep" : Str) ≠ f) : putF f v (f3 a m d) = ([("at", .int a), ("many", .int m), ("deep", .int d), (f, v)] : List (Str × V)) := by
  unfold f3
  rw [putF_ne h1, putF_ne h2, putF_ne h3, putF_nil]
theorem put_bits {n : Str} {a : Int} {b : Nat} : putF "bits" (.int b) ([("at", .int a), ("many", .int 1), ("deep", .int 0), ("name", .str n)] : List (Str × V)) = fW n a b := by
  rw [putF_ne (by decide +kernel), putF_ne (by decide +kernel), putF_ne (by decide +kernel), putF_ne (by decide +kernel), putF_nil]; rfl

mutual
/-- the tree stands at v, all its objects at addresses that are N -/
def TrIn (c : C4) (N : Addr → Prop) (H : Hp) : Tr → V → Prop
  | .word n a b, v => ∃ p dx, v = .ref p ∧ N p ∧ H p = some (.ins c.W dx (fW n a b))
  | .fig z a, v => ∃ p dx, v = .ref p ∧ N p ∧ H p = some (.ins c.F dx (fF z a))
  | .row ps a, v => ∃ p dx l vs, v = .ref p ∧ N p ∧ H p = some (.ins c.R dx (fR l (1 + manys ps) (deeps ps + 1) a)) ∧ N l ∧ H l = some (.lst vs) ∧ ps.length ≤ 1000 ∧ TrsIn c N H ps vs
def TrsIn (c : C4) (N : Addr → Prop) (H : Hp) : List Tr → List V → Prop
  | [], vs => vs = []
  | p :: r, vs => ∃ v ws, vs = v :: ws ∧ TrIn c N H p v ∧ TrsIn c N H r ws
end
mutual
theorem TrIn.mono {c : C4} {N N' : Addr → Prop} {H H' : Hp} (h : ∀ b o, N b → H b = some o → N' b ∧ H' b = some o) : ∀ {t : Tr} {v : V}, TrIn c N H t v → TrIn c N' H' t v
  | .word n a b, v, x => by
    simp only [TrIn] at x ⊢
    obtain ⟨p, dx, e, np, hp⟩ := x
    exact ⟨p, dx, e, (h p _ np hp).1, (h p _ np hp).2⟩
  | .fig z a, v, x => by
    simp only [TrIn] at x ⊢
    obtain ⟨p, dx, e, np, hp⟩ := x
    exact ⟨p, dx, e, (h p _ np hp).1, (h p _ np hp).2⟩
  | .row ps a, v, x => by
    simp only [TrIn] at x ⊢
    obtain ⟨p, dx, l, vs, e, np, hp, nl, hl, le, r⟩ := x
    exact ⟨p, dx, l, vs, e, (h p _ np hp).1, (h p _ np hp).2, (h l _ nl hl).1, (h l _ nl hl).2, le, TrsIn.mono h r⟩
theorem TrsIn.mono {c : C4} {N N' : Addr → Prop} {H H' : Hp} (h : ∀ b o, N b → H b = some o → N' b ∧ H' b = some o) : ∀ {ts : List Tr} {vs : List V}, TrsIn c N H ts vs → TrsIn c N' H' ts vs
  | [], vs, x => by simp only [TrsIn] at x ⊢; exact x
  | p :: r, vs, x => by
    simp only [TrsIn] at x ⊢
    obtain ⟨v, ws, e, y, z⟩ := x
    exact ⟨v, ws, e, TrIn.mono h y, TrsIn.mono h z⟩
end
theorem TrsIn.length {c : C4} {N : Addr → Prop} {H : Hp} : ∀ {ts : List Tr} {vs : List V}, TrsIn c N H ts vs → vs.length = ts.length
  | [], vs, x => by simp only [TrsIn] at x; rw [x]; rfl
  | p :: r, vs, x => by
    simp only [TrsIn] at x
    obtain ⟨v, ws, e, y, z⟩ := x
    rw [e, List.length_cons, List.length_cons, TrsIn.length z]
theorem TrsIn.get {c : C4} {N : Addr → Prop} {H : Hp} : ∀ {ts : List Tr} {vs : List V} {i : Nat} {v : V}, TrsIn c N H ts vs → vs[i]? = some v → ∃ t, ts[i]? = some t ∧ TrIn c N H t v
  | [], vs, i, v, x, e => by simp only [TrsIn] at x; rw [x] at e; simp at e
  | p :: r, vs, i, v, x, e => by
    simp only [TrsIn] at x
    obtain ⟨u, ws, ev, y, z⟩ := x
    subst ev
    cases i with
    | zero => simp at e; subst e; exact ⟨p, rfl, y⟩
    | succ i =>
      obtain ⟨t, et, q⟩ := TrsIn.get z (i := i) (v := v) (by simpa using e)
      exact ⟨t, by simpa using et, q⟩
theorem TrsIn.snoc {c : C4} {N : Addr → Prop} {H : Hp} {t : Tr} {v : V} (y : TrIn c N H t v) : ∀ {ts : List Tr} {vs : List V}, TrsIn c N H ts vs → TrsIn c N H (ts ++ [t]) (vs ++ [v])
  | [], vs, x => by simp only [TrsIn] at x; subst x; simp only [List.nil_append, TrsIn]; exact ⟨v, [], rfl, y, rfl⟩
  | p :: r, vs, x => by
    simp only [TrsIn] at x
    obtain ⟨u, ws, ev, y', z⟩ := x
    subst ev
    simp only [List.cons_append, TrsIn]
    exact ⟨u, ws ++ [v], rfl, y', TrsIn.snoc y z⟩
def All : Addr → Prop := fun _ => True
theorem TrIn.same {c : C4} {N : Addr → Prop} {H H' : Hp} {t : Tr} {v : V} (x : TrIn c N H t v) (s : Same H H') : TrIn c N H' t v := x.mono fun b o n e => ⟨n, s b o e⟩
end TR

set_option linter.all false
/-! Signs of texts as lists of numbers: parts at one sign, words between blanks, padding. Own work. -/
namespace TX
/-- parts at the sign c: the first one, and the rest -/
def spl (c : Nat) : List Nat → List Nat × List (List Nat)
  | [] => ([], [])
  | k :: r => if k = c then ([], (spl c r).1 :: (spl c r).2) else (k :: (spl c r).1, (spl c r).2)
def splitC (c : Nat) (l : List Nat) : List (List Nat) := (spl c l).1 :: (spl c l).2
theorem splitC_nil (c : Nat) : splitC c [] = [[]] := rfl
theorem spl_free {c : Nat} : ∀ {l : List Nat}, c ∉ l → spl c l = (l, [])
  | [], _ => rfl
  | k :: r, h => by
    have hk : k ≠ c := fun e => h (e ▸ List.mem_cons_self)
    have ih := spl_free (l := r) fun z => h (List.mem_cons_of_mem _ z)
    simp [spl, hk, ih]
theorem splitC_free {c : Nat} {l : List Nat} (h : c ∉ l) : splitC c l = [l] := by unfold splitC; rw [spl_free h]
theorem splitC_cat {c : Nat} {b : List Nat} : ∀ {a : List Nat}, splitC c (a ++ c :: b) = splitC c a ++ splitC c b
  | [] => by simp [splitC, spl]
  | k :: r => by
    have ih := splitC_cat (c := c) (b := b) (a := r)
    unfold splitC at ih ⊢
    simp only [List.cons_append, List.cons.injEq] at ih
    simp only [List.cons_append, spl]
    split
    · simp [ih.1, ih.2]
    · simp [ih.1, ih.2]
/-- what lies between blanks -/
def wordsC (l : List Nat) : List (List Nat) := (splitC 32 l).filter fun p => decide (p ≠ [])
theorem wordsC_cat {a b : List Nat} : wordsC (a ++ 32 :: b) = wordsC a ++ wordsC b := by
  unfold wordsC; rw [splitC_cat, List.filter_append]
theorem wordsC_one {l : List Nat} (h : (32 : Nat) ∉ l) (hn : l ≠ []) : wordsC l = [l] := by
  unfold wordsC; rw [splitC_free h]; simp [hn]
/-- each sign c exchanged for z -/
def rep (c : Nat) (z : List Nat) (l : List Nat) : List Nat := l.flatMap fun k => if k = c then z else [k]
theorem rep_cat {c : Nat} {z a b : List Nat} : rep c z (a ++ b) = rep c z a ++ rep c z b := by unfold rep; rw [List.flatMap_append]
theorem rep_free {c : Nat} {z : List Nat} : ∀ {l : List Nat}, c ∉ l → rep c z l = l
  | [], _ => rfl
  | k :: r, h => by
    have hk : k ≠ c := fun e => h (e ▸ List.mem_cons_self)
    have ih := rep_free (z := z) (l := r) fun q => h (List.mem_cons_of_mem _ q)
    unfold rep at ih ⊢
    rw [List.flatMap_cons, ih, if_neg hk]; rfl
theorem rep_one {c : Nat} {z : List Nat} : rep c z [c] = z := by simp [rep]
theorem rep_len {c : Nat} {z : List Nat} {n : Nat} (h : z.length ≤ n) (h1 : 1 ≤ n) : ∀ (l : List Nat), (rep c z l).length ≤ n * l.length
  | [] => by simp [rep]
  | k :: r => by
    have ih := rep_len (c := c) h h1 r
    unfold rep at ih ⊢
    rw [List.flatMap_cons, List.length_append, List.length_cons, Nat.mul_succ]
    split
    · omega
    · simp only [List.length_singleton]; omega
/-- the text as the reader pads it -/
def pad (l : List Nat) : List Nat := rep 10 [32] (rep 41 [32, 41, 32] (rep 40 [32, 40, 32] l))
theorem pad_cat {a b : List Nat} : pad (a ++ b) = pad a ++ pad b := by unfold pad; rw [rep_cat, rep_cat, rep_cat]
def Plain (l : List Nat) : Prop := ∀ k ∈ l, k ≠ 32 ∧ k ≠ 10 ∧ k ≠ 40 ∧ k ≠ 41
theorem pad_plain {l : List Nat} (h : Plain l) : pad l = l := by
  unfold pad
  rw [rep_free (c := 40) (fun q => (h _ q).2.2.1 rfl), rep_free (c := 41) (fun q => (h _ q).2.2.2 rfl), rep_free (c := 10) (fun q => (h _ q).2.1 rfl)]
theorem pad_blank : pad [32] = [32] := by decide
/-- the signs of a text -/
def cutC (l : List Nat) : List (List Nat) := wordsC (pad l)
theorem cutC_plain {l : List Nat} (h : Plain l) (hn : l ≠ []) : cutC l = [l] := by
  unfold cutC; rw [pad_plain h]; exact wordsC_one (fun q => (h _ q).1 rfl) hn
theorem cutC_open : cutC [40] = [[40]] := by decide
theorem cutC_shut : cutC [41] = [[41]] := by decide
/-- a sign as the reader takes one: a bracket, or plain -/
def SignC (l : List Nat) : Prop := l = [40] ∨ l = [41] ∨ (Plain l ∧ l ≠ [])
theorem cutC_sign {l : List Nat} (h : SignC l) : cutC l = [l] := by
  rcases h with rfl | rfl | ⟨h, hn⟩
  · exact cutC_open
  · exact cutC_shut
  · exact cutC_plain h hn
end TX

set_option Elab.async false
set_option linter.all false
set_option maxRecDepth 100000
set_option maxHeartbeats 4000000
/-! Texts over the hand layer: their mathematics as lists of numbers; split, replace, startswith, walks over the signs, cuts, repeats. Own work. -/
namespace L2
open PySem PySem.Spec PyProof.Rows Builtin Builtin.Str
/-! ### texts as lists of numbers -/
def cpl (x : Str) : List Nat := x.cps.toList
def ofL (l : List Nat) : Str := ⟨l.toArray⟩
theorem cpl_ofL (l : List Nat) : cpl (ofL l) = l := by simp [cpl, ofL]
theorem ofL_cpl (x : Str) : ofL (cpl x) = x := by cases x; simp [cpl, ofL]
theorem cpl_inj {x y : Str} (h : cpl x = cpl y) : x = y := by rw [← ofL_cpl x, ← ofL_cpl y, h]
theorem cpl_len (x : Str) : (cpl x).length = x.length := by simp [cpl, Str.length]
theorem cpl_cat (x y : Str) : cpl (x ++ y) = cpl x ++ cpl y := by
  show (x ++ y).cps.toList = _
  rw [Str.cps_append, Array.toList_append]; rfl
theorem splitC_join {c : Nat} : ∀ (parts : List Str), parts ≠ [] → (∀ p ∈ parts, c ∉ cpl p) → TX.splitC c (cpl (Str.join ⟨#[c]⟩ parts)) = parts.map cpl
  | [], h, _ => absurd rfl h
  | [p], _, h => TX.splitC_free (h p (List.mem_singleton.mpr rfl))
  | p :: q :: r, _, h => by
    have ih := splitC_join (c := c) (q :: r) (by simp) fun a ha => h a (List.mem_cons_of_mem _ ha)
    show TX.splitC c (cpl (p ++ ⟨#[c]⟩ ++ Str.join ⟨#[c]⟩ (q :: r))) = _
    rw [cpl_cat, cpl_cat, List.append_assoc]
    show TX.splitC c (cpl p ++ c :: cpl (Str.join ⟨#[c]⟩ (q :: r))) = _
    rw [TX.splitC_cat, ih, TX.splitC_free (h p (List.mem_cons_self ..))]
    rfl
theorem split_ne (x y : Str) : Txt.split x y ≠ [] := by
  unfold Txt.split
  split
  · simp
  · split
    · simp
    · rw [StrLaws.partsBetween_eq]
      obtain ⟨p, r, e⟩ := StrLaws.partsFrom_ne x y.length 0 (occurrences x y 0 x.length (x.length + 1))
      rw [e]; simp
theorem split_cpl (x : Str) (c : Nat) : (Txt.split x ⟨#[c]⟩).map cpl = TX.splitC c (cpl x) := by
  have h := splitC_join (c := c) (Txt.split x ⟨#[c]⟩) (split_ne x _) (StrLaws.split_free x c)
  rw [StrLaws.join_split] at h
  exact h.symm
theorem rep_join {c : Nat} {z : Str} : ∀ (parts : List Str), (∀ p ∈ parts, c ∉ cpl p) → TX.rep c (cpl z) (cpl (Str.join ⟨#[c]⟩ parts)) = cpl (Str.join z parts)
  | [], _ => rfl
  | [p], h => TX.rep_free (h p (List.mem_singleton.mpr rfl))
  | p :: q :: r, h => by
    have ih := rep_join (c := c) (z := z) (q :: r) fun a ha => h a (List.mem_cons_of_mem _ ha)
    show TX.rep c (cpl z) (cpl (p ++ ⟨#[c]⟩ ++ Str.join ⟨#[c]⟩ (q :: r))) = cpl (p ++ z ++ Str.join z (q :: r))
    rw [cpl_cat, cpl_cat, cpl_cat, cpl_cat, TX.rep_cat, TX.rep_cat, ih, TX.rep_free (h p (List.mem_cons_self ..))]
    show cpl p ++ TX.rep c (cpl z) [c] ++ _ = _
    rw [TX.rep_one]
theorem replace_cpl (x z : Str) (c : Nat) : cpl (Txt.replace x ⟨#[c]⟩ z) = TX.rep c (cpl z) (cpl x) := by
  rw [StrLaws.replace_one, ← rep_join _ (StrLaws.split_free x c), StrLaws.join_split]
theorem in_one (x : Str) (c : Nat) : (!(occurrences x ⟨#[c]⟩ 0 x.length 1).isEmpty) = decide (c ∈ cpl x) := StrLaws.found_one x c
theorem starts_one (x : Str) (c : Nat) : Txt.startswith x ⟨#[c]⟩ = decide ((cpl x).head? = some c) := by
  unfold Txt.startswith
  rw [StrLaws.subAt_eq, ← cpl_len x]
  show (decide (0 + 1 ≤ (cpl x).length) && ((List.drop 0 (cpl x)).take 1 == [c])) = _
  cases cpl x with
  | nil => simp
  | cons k r => simp; rfl
theorem slice_none (x : Str) (i : Option Int) : Txt.slice x i none = Txt.slice x i (some (x.length : Int)) := by
  have e : strSliceIndices i none 1 x.length = strSliceIndices i (some (x.length : Int)) 1 x.length := by
    unfold strSliceIndices
    have h1 : ¬ ((x.length : Int) < 0) := by omega
    have e2 : max (0 : Int) (min (x.length : Int) (x.length : Int)) = x.length := by omega
    simp only [h1, if_false, e2, show ((1 : Int) > 0) = True from by simp, if_true]
  unfold Txt.slice
  rw [e]
/-- x[1:] -/
theorem slice_tail (x : Str) : cpl (Txt.slice x (some 1) none) = (cpl x).drop 1 := by
  by_cases h0 : x.length = 0
  · have e : cpl x = [] := List.length_eq_zero_iff.mp (by rw [cpl_len]; exact h0)
    have h1 := Txt.slice_le x (some 1) none
    have e2 : cpl (Txt.slice x (some 1) none) = [] := List.length_eq_zero_iff.mp (by rw [cpl_len]; omega)
    rw [e, e2]; rfl
  · rw [slice_none]
    have h := StrLaws.sliced_plain x (a := 1) (b := x.length) (by omega) (Nat.le_refl _)
    have hi := StrLaws.strSliceIndices_plain (a := 1) (b := x.length) (len := x.length) (by omega) (Nat.le_refl _)
    have hne : ((strSliceIndices (some 1) (some (x.length : Int)) 1 x.length).length == x.length) = false := by
      have hi' : strSliceIndices (some 1) (some (x.length : Int)) 1 x.length = _ := hi
      rw [hi', List.length_map, List.length_range]
      exact beq_false_of_ne (by omega)
    unfold Txt.slice
    rw [hne]
    have h' : (strSliceIndices (some 1) (some (x.length : Int)) 1 x.length).filterMap (x.cps[·]?) = _ := h
    show ((strSliceIndices (some 1) (some (x.length : Int)) 1 x.length).filterMap (x.cps[·]?)) = _
    rw [h']
    show ((cpl x).drop 1).take (x.length - 1) = _
    rw [List.take_of_length_le (by rw [List.length_drop, cpl_len]; exact Nat.le_refl _)]
/-! ### rules -/
theorem vals_strs : ∀ l : List (Str × Tok), Vals ((l.map (·.1)).map V.str) (strValues l)
  | [] => .nil
  | (x, t) :: r => .cons ⟨t, rfl⟩ (vals_strs r)
section
variable {X : Cx}
def rStarts : V → List V → Hp → VK → Prop := fun x vs H Q => ∃ a b, x = .str a ∧ vs = [.str b] ∧ Q (.bl (Txt.startswith a b)) H
theorem mt_starts : MtR X "str.startswith" rStarts := by
  intro pins s σ H x xs v us Q I rx rs h
  obtain ⟨a, b, rfl, rfl, q⟩ := h
  obtain ⟨t, rfl⟩ := rx
  obtain ⟨u, rfl, t', rfl⟩ := vals1 rs
  exact SC.startswith ⟨.bl _, H, I, rfl, q⟩
def rSplit : V → List V → Hp → VK → Prop := fun x vs H Q => ∃ a b, x = .str a ∧ vs = [.str b] ∧ (b.length == 0) = false ∧ a.length + 2 ≤ sizeLine ∧ ∀ D, H D = none → Q (.ref D) (upd H D (.lst ((Txt.split a b).map V.str)))
theorem split_le (x y : Str) : (Txt.split x y).length ≤ x.length + 2 := by
  unfold Txt.split
  split
  · simp
  · split
    · simp
    · have e1 := StrLaws.occ_length_le x y 0 x.length (x.length + 1)
      rw [length_partsBetween]; omega
theorem mt_split : MtR X "str.split" rSplit := by
  intro pins s σ H x xs v us Q I rx rs h
  obtain ⟨x, y, rfl, rfl, hy, hsz, q⟩ := h
  obtain ⟨t, rfl⟩ := rx
  obtain ⟨_, rfl, u, rfl⟩ := vals1 rs
  have fin : ∀ (l : List (Str × Tok)) (k : Nat), l.map (·.1) = Txt.split x y → EP X pins σ Q (.ref s.heap.objs.size) { s with heap := s.heap.push { cls := .type "list", data := .seq (strValues l).toArray }, toks := k } := fun l k e =>
    ⟨.ref s.heap.objs.size, _, I.lnew (ys := (Txt.split x y).map V.str) (its := strValues l) (by rw [← e]; exact vals_strs l) (by rw [List.length_map]; exact Nat.le_trans (split_le x y) hsz), rfl, q _ I.fresh⟩
  have hn : (partsBetween x (occurrences x y 0 x.length (x.length + 1)) y.length).length ≤ sizeLine := by
    have e1 := StrLaws.occ_length_le x y 0 x.length (x.length + 1)
    rw [length_partsBetween]; omega
  cases h1 : (decide (x.length < y.length) || decide (strKind x < strKind y))
  · cases hf : (occurrences x y 0 x.length (x.length + 1)).isEmpty
    · refine call_meets F.slot_str_split (typeIs_str _ _ _) F.entry_str_split (F.args_str_split_2 _ _) (meets_str_split_sep x y t u h1 hy hf (by omega) hn) ?_
      show wants (EP X pins σ Q) X.xe _ { s with toks := _, heap := s.heap.push { cls := .type "list", data := .seq (strsFrom s.toks (partsBetween x (occurrences x y 0 x.length (x.length + 1)) y.length)).toArray } }
      rw [strsFrom_eq]
      exact fin (numbered s.toks _) _ ((numbered_texts _ _).trans ((if_neg (ne_true_of_eq_false h1)).trans (if_neg (ne_true_of_eq_false hf))).symm)
    · exact call_meets F.slot_str_split (typeIs_str _ _ _) F.entry_str_split (F.args_str_split_2 _ _) (meets_str_split_not_found x y t u h1 hy hf)
        (fin [(x, t)] s.toks ((if_neg (ne_true_of_eq_false h1)).trans (if_pos hf)).symm)
  · exact call_meets F.slot_str_split (typeIs_str _ _ _) F.entry_str_split (F.args_str_split_2 _ _) (meets_str_split_cannot_occur x y t u h1)
      (fin [(x, t)] s.toks (if_pos h1).symm)
/-- x[lo:hi] of a text -/
def rSlS : V → Option Int → Option Int → Hp → VK → Prop := fun x lo hi H Q => ∃ z, x = .str z ∧ z.length ≤ sizeLine ∧ Q (.str (Txt.slice z lo hi)) H
theorem sl_str : SlR X rSlS := by
  intro pins s σ H x v vl vu lo hi sl Q I rx hs pl pu h
  obtain ⟨z, rfl, hz, q⟩ := h
  obtain ⟨t, rfl⟩ := rx
  refine ⟨"str", _, F.slot_str_getitem.lookup, typeIs_str _ _ _, ?_⟩
  have fin : (Txt.slice z lo hi).length ≤ sizeLine ∧ ∀ t' k, EP X pins σ Q (.str (Txt.slice z lo hi) t') { s with toks := k } :=
    ⟨Nat.le_trans (Txt.slice_le z _ _) hz, fun t' k => ⟨.str _, H, I.tok _, ⟨t', rfl⟩, q⟩⟩
  cases pl with
  | none => cases pu with
    | none => exact wpAny_getItem_str_slice (l := none) (u := none) (st := none) hs rfl (post_val_or_str fin)
    | int j tj => exact wpAny_getItem_str_slice (l := none) (u := some (j, tj)) (st := none) hs rfl (post_val_or_str fin)
  | int i ti => cases pu with
    | none => exact wpAny_getItem_str_slice (l := some (i, ti)) (u := none) (st := none) hs rfl (post_val_or_str fin)
    | int j tj => exact wpAny_getItem_str_slice (l := some (i, ti)) (u := some (j, tj)) (st := none) hs rfl (post_val_or_str fin)
end
end L2

set_option Elab.async false
set_option linter.all false
set_option maxRecDepth 100000
set_option maxHeartbeats 4000000
/-! Texts over the hand layer: walks over the signs, repeats, replace behind a def's entry. Own work. -/
namespace L2
open PySem PySem.Spec PyProof.Rows Builtin Builtin.Str
/-- a text's signs, as values -/
def sgn (c : Nat) : V := .str ⟨#[c]⟩
def sgns (x : Str) : List V := (cpl x).map sgn
/-- the signs of x, one after another -/
def Its (x : Str) : It := ⟨fun i _ => i < x.length, fun i H v H' => H' = H ∧ (sgns x)[i]? = some v, fun i _ => i = x.length⟩
theorem turn_str {P : Program} {w : World} {K : PySem.W.Frag} {tg : Expr} {it : Addr} {x : Str} {t : Tok} {T : String}
    (hn : ["enumerate", "zip", "dict_itemiterator", "dict_reverseitemiterator", "odict_iterator", "itertools.zip_longest", "itertools.pairwise"].contains T = false)
    (W : ∀ A : Around, A.handled = none → Walks P w A it [it] [it] x.cps.size (SignAt x) (fun i h => h.IsStrIter it T x t i))
    (hself : ∀ (A : Around) (i : Nat) (s : Shared) (Q : Value → Shared → Prop) (E : Value → Shared → Prop), s.heap.IsStrIter it T x t i → Q (.ref it) s → wpAny (model P w) A (pyIter (.ref it)) Q E s) :
    Turn P w K tg (Its x) [it] it (fun i h => h.IsStrIter it T x t i) where
  mem := by simp
  obj := fun i h st b hb => by
    have e : b = it := by simpa using hb
    subst e
    obtain ⟨o, e, c, d⟩ := st
    exact ⟨o, e, fun v z => by rw [d] at z; cases z⟩
  keep := fun i h h' st k => let ⟨o, ho, r⟩ := st; ⟨o, k it (by simp) o ho, r⟩
  item := by
    intro X hP hw hK hc i pins s σ H E I hf st hg
    subst hP hw hK
    obtain ⟨f0, f1, f2, f3, f4, f5⟩ := hf it (by simp)
    refine (W X.A (I.ok.hd hc)).item i s _ _ hg st fun v h' tk hv st' kk => ?_
    obtain ⟨c, u, ec, rfl⟩ := hv
    have I1 : Inv X pins σ H { s with heap := h', toks := tk } := I.turned (fun b o hb e => kk b o (by simpa using hb) e) f0 f1 f3 f4 f5
    obtain ⟨o, e, cl, d⟩ := id st'
    refine ⟨_, rfl, go_of (s := { s with heap := h', toks := tk }) e cl d hn ⟨sgn c, H, I1, ⟨u, rfl⟩, ⟨rfl, ?_⟩, st', fun b hb => (hf b hb).1⟩⟩
    unfold sgns cpl
    rw [List.getElem?_map, Array.getElem?_toList, ec]; rfl
  done := by
    intro X hP hw hK hc i pins s σ H E I hf st hg
    subst hP hw hK
    obtain ⟨f0, f1, f2, f3, f4, f5⟩ := hf it (by simp)
    have e : i = x.cps.size := hg
    subst e
    exact (W X.A (I.ok.hd hc)).done s _ _ st fun h' tk eb => ⟨rfl, I.turned (fun b o hb e => eb b o (by simpa using hb) e) f0 f1 f3 f4 f5⟩
  self := hself
section
variable {X : Cx} {tg : Expr}
def iStr (tl : TE) : TI := fun σ H R => tl σ H fun v H1 => ∃ x, v = .str x ∧ R (Its x) H1
theorem pi_str {l : Expr} {tl : TE} (hl : PE X l tl) : PI X tg l (iStr tl) := by
  intro pins s σ H R I h
  refine thn (hl pins s σ H _ I h) ?_
  rintro v s1 ⟨y, H1, I1, r1, x, e, q⟩
  subst e
  obtain ⟨t, rfl⟩ := r1
  have fin : ∀ (T : String) (ob : Obj), ["enumerate", "zip", "dict_itemiterator", "dict_reverseitemiterator", "odict_iterator", "itertools.zip_longest", "itertools.pairwise"].contains T = false →
      (∀ A : Around, A.handled = none → Walks X.prog X.w A s1.heap.objs.size [s1.heap.objs.size] [s1.heap.objs.size] x.cps.size (SignAt x) (fun i h => h.IsStrIter s1.heap.objs.size T x t i)) →
      (∀ (A : Around) (i : Nat) (s : Shared) (Q : Value → Shared → Prop) (E : Value → Shared → Prop), s.heap.IsStrIter s1.heap.objs.size T x t i → Q (.ref s1.heap.objs.size) s → wpAny (model X.prog X.w) A (pyIter (.ref s1.heap.objs.size)) Q E s) →
      (s1.heap.push ob).IsStrIter s1.heap.objs.size T x t 0 → PIE X pins σ tg R (.ref s1.heap.objs.size) { s1 with heap := s1.heap.push ob } := fun T ob hn W hs st =>
    ⟨s1.heap.objs.size, [s1.heap.objs.size], _, _, H1, rfl, I1.kept (t' := s1.toks) fun b o e => Heap.get?_push_of_some _ e, turn_str hn W hs, st, fun b hb => by
      have e : b = s1.heap.objs.size := by simpa using hb
      subst e
      exact I1.fpOk (Nat.le_refl _) (I1.hok.fresh (Nat.le_refl _)), q⟩
  cases ha : x.cps.all (· < 128)
  · exact wpAny_pyIter_wide ha (fin "str_iterator" _ (by decide) (fun A hA => Walks.strWide hA _ x t) (fun _ _ _ _ _ st h => wpAny_pyIter_striter_wide st h) ⟨_, Heap.get?_push_size _ rfl, rfl, rfl⟩)
  · exact wpAny_pyIter_ascii ha (fin "str_ascii_iterator" _ (by decide) (fun A hA => Walks.strAscii hA _ x t) (fun _ _ _ _ _ st h => wpAny_pyIter_striter_ascii st h) ⟨_, Heap.get?_push_size _ rfl, rfl, rfl⟩)
/-- a comprehension over the signs of a text -/
theorem lc_str {x : Str} {i : Nat} {tt : TT} {te : TE} {σ : St} {H : Hp} {D : Addr} {Q : Hp → Prop} (p : Nat → Bool) (f : Nat → V) (hn : x.length ≤ sizeLine)
    (ht : ∀ c (v : Option V) (ys : List V) (R : Bool → Hp → Prop), c ∈ cpl x → (∀ H', H' = upd H D (.lst ys) → R (p c) H') → tt ((σ.set i v).set i (some (sgn c))) (upd H D (.lst ys)) R)
    (hs : ∀ c (v : Option V) (ys : List V) (R : VK), c ∈ cpl x → p c = true → (∀ H', H' = upd H D (.lst ys) → R (f c) H') → te ((σ.set i v).set i (some (sgn c))) (upd H D (.lst ys)) R)
    (hq : ∀ H', H' = upd H D (.lst (((cpl x).filter p).map f)) → Q H') :
    ∃ W : Nat → Nat → List V → St → Hp → Prop, (∃ m, W 0 m [] σ (upd H D (.lst []))) ∧ lcTurn (Its x) D (gName i) tt te Q W := by
  have hL := cpl_len x
  refine ⟨fun k m ys σ' H' => m = (cpl x).length - k ∧ k ≤ (cpl x).length ∧ ys = (((cpl x).take k).filter p).map f ∧ (σ' = σ ∨ ∃ v, σ' = σ.set i v) ∧ H' = upd H D (.lst ys), ⟨(cpl x).length, by simp⟩, ?_⟩
  rintro k m ys σ' H' ⟨rfl, hk, rfl, hσ, rfl⟩
  by_cases hlt : k < (cpl x).length
  · refine .inr ⟨by show k < x.length; omega, fun v H2 hy => ?_⟩
    obtain ⟨rfl, hy⟩ := hy
    unfold sgns at hy
    rw [List.getElem?_map] at hy
    obtain ⟨c, ec, rfl⟩ := Option.map_eq_some_iff.mp hy
    have hc := List.mem_of_getElem? ec
    show tt (σ'.set i _) _ _
    have hσ' : ∃ v, σ'.set i (some (sgn c)) = (σ.set i v).set i (some (sgn c)) := by
      rcases hσ with rfl | ⟨v, rfl⟩
      · exact ⟨none, by rw [List.set_set]⟩
      · exact ⟨v, rfl⟩
    obtain ⟨v, ev⟩ := hσ'
    have hσ2 : ∃ v', σ'.set i (some (sgn c)) = σ.set i v' := ⟨some (sgn c), by rw [ev, List.set_set]⟩
    have etake : (cpl x).take (k + 1) = (cpl x).take k ++ [c] := by rw [List.take_succ, ec]; rfl
    rw [ev]
    refine ht c v _ _ hc fun H3 e => ?_
    subst e
    cases hp : p c with
    | true =>
      rw [if_pos rfl]
      refine hs c v _ _ hc hp fun H4 e => ?_
      subst e
      refine ⟨upd_same, ?_, (cpl x).length - (k + 1), by omega, rfl, hlt, ?_, by rw [← ev]; exact .inr hσ2, upd_upd⟩
      · rw [List.length_map]
        have := List.length_filter_le p ((cpl x).take k)
        rw [List.length_take] at this
        omega
      · rw [etake, List.filter_append, List.map_append]; simp [hp]
    | false =>
      rw [if_neg Bool.false_ne_true]
      refine ⟨(cpl x).length - (k + 1), by omega, rfl, hlt, ?_, by rw [← ev]; exact .inr hσ2, rfl⟩
      rw [etake, List.filter_append]; simp [hp]
  · have e : k = (cpl x).length := by omega
    subst e
    refine .inl ⟨hL, hq _ (by rw [List.take_length])⟩
end
end L2

set_option Elab.async false
set_option linter.all false
set_option maxRecDepth 100000
set_option maxHeartbeats 4000000
/-! Behind a def's entry at least one token has been counted: str.replace with written texts. Own work. -/
namespace L2
open PySem PySem.Spec PyProof.Rows Builtin Builtin.Str
/-- an expression read where a token has been counted -/
def PET (X : Cx) (e : Expr) (t : TE) : Prop :=
  ∀ (pins : List (Addr × Obj)) (s : Shared) (σ : St) (H : Hp) (Q : VK), 1 ≤ s.toks → Inv X pins σ H s → t σ H Q → wpAny (model X.prog X.w) X.A (eval e X.env) (EP X pins σ Q) X.xe s
def PST (X : Cx) (st : Stmt) (t : TS) : Prop :=
  ∀ (pins : List (Addr × Obj)) (s : Shared) (σ : St) (H : Hp) (D : Ends), 1 ≤ s.toks → Inv X pins σ H s → t D σ H → wpAny (model X.prog X.w) X.A (exec st X.env) (SP X pins D) X.xe s
def PSsT (X : Cx) (st : List Stmt) (t : TS) : Prop :=
  ∀ (pins : List (Addr × Obj)) (s : Shared) (σ : St) (H : Hp) (D : Ends), 1 ≤ s.toks → Inv X pins σ H s → t D σ H → wpAny (model X.prog X.w) X.A (execs st X.env) (SP X pins D) X.xe s
section
variable {X : Cx}
theorem PE.t {e : Expr} {t : TE} (h : PE X e t) : PET X e t := fun pins s σ H Q _ I q => h pins s σ H Q I q
theorem PSsT.nox {st : List Stmt} {t : TS} (h : PSsT X.nox st t) : PSsT X st t := fun pins s σ H D hk I hw =>
  wpAny_mono (h pins s σ H D hk (I.wish _) hw) (fun _ _ q => q.unwish) fun _ _ z => False.elim z
/-- a first statement, and the rest where tokens don't matter -/
theorem psst_cons {st : Stmt} {rest : List Stmt} {t u : TS} (h1 : PST X st t) (h2 : PSs X rest u) : PSsT X (st :: rest) (tSeq t u) := by
  intro pins s σ H D hk I h
  refine wpAny_execs_cons (thn (h1 pins s σ H { D with nx := u D } hk I h) fun f s1 q => ?_)
  cases f with
  | next =>
    obtain ⟨σ', H', I', q⟩ := q
    exact h2 pins s1 σ' H' D I' q
  | ret v => exact q
  | brk => exact q
  | cont => exact q
theorem pst_set {i : Nat} {x : Str} {e : Expr} {te : TE} {pos pos' : Pos} (hN : X.N.Nodup) (hi : X.N[i]? = some x) (hx : Loc X.env.scope x) (he : PET X e te) (hs : swapsWith e (some (.Name x pos')) pos.line X.env = pure false := by rfl) (hf : X.fn x = true ∨ X.env.scope.names.lookup x = some .local := by first | exact .inl rfl | exact .inr rfl | assumption) :
    PST X (.Assign [.Name x pos'] e pos) (tAsg te (gName i)) := by
  intro pins s σ H D hk I h
  refine wpAny_Assign_Name (thn (he pins s σ H _ hk I h) fun v s1 ⟨y, H1, I1, r1, q1⟩ => ?_) hs
  exact store_ok I1 hN hi hx r1 (fun s2 I2 => ⟨_, H1, I2, q1⟩) hf
/-- o.replace('y', 'z') -/
def tRepl (y z : Str) (to : TE) : TE := fun σ H Q => to σ H fun v H1 => ∃ a, v = .str a ∧ a.length + (a.length + 1) * z.length ≤ 16777216 ∧ Q (.str (Txt.replace a y z)) H1
theorem pet_replace {o : Expr} {to : TE} {y z : Str} {j1 j2 : Nat} {p1 p2 apos cpos : Pos} (hyz : (y == z) = false) (ho : PET X o to)
    (hbase : attributeBase o "replace" X.env (eval o X.env) = eval o X.env := by rfl)
    (hline : (apos.endLine == cpos.line) = true := by rfl) :
    PET X (.Call (.Attribute o "replace" apos) [.Constant (.str y) j1 p1, .Constant (.str z) j2 p2] [] cpos) (tRepl y z to) := by
  intro pins s σ H Q hk I h
  refine wpAny_Call_method_late hbase (by rfl) hline rfl (thn (wpAny_mono (wpAny_toks_of hk (ho pins s σ H _ hk I h)) (fun _ _ z => z) fun _ _ z => z.2) ?_)
  rintro v s1 ⟨hk1, x, H1, I1, r1, a, e, hb, q1⟩
  subst e
  obtain ⟨t, rfl⟩ := r1
  refine ⟨"str", "str.replace", F.plainAttrs_str, F.slot_str_replace, F.type_str_replace, typeIs_str _ _ _, (fun _ e => nomatch e), ?_⟩
  refine Calls.callWith_builtin rfl (Calls.evalArgs_plain ?_)
  show wpAny _ _ (spliced [(false, eval (.Constant (.str y) j1 p1) X.env), (false, eval (.Constant (.str z) j2 p2) X.env)]) _ _ s1
  refine Calls.spliced_cons (Calls.Constant_str ?_)
  refine Calls.spliced_cons (Calls.Constant_str ?_)
  refine Calls.spliced_nil ?_
  exact SC.replace (by show s1.toks ≠ 0; omega) (by show s1.toks + 1 ≠ 0; omega) (by show s1.toks ≠ s1.toks + 1; omega) hyz hb fun t' k => ⟨.str _, H1, (I1.tok _).tok _, ⟨t', rfl⟩, q1⟩
end
/-! ### the entry -/
section
variable {M : Model} {A : Around} {E : Value → Shared → Prop} {s₀ : Shared} {env : Env}
theorem bindParamsT (f : Str × Value → PUnit → Sem (ForInStep PUnit)) (hf : ∀ n v u, f (n, v) u = (do storeName env n v; pure (.yield ⟨⟩))) (hk : env.scope.kind = .function)
    {n : Str} {v : Value} {r : List (Str × Value)} {m cm : Str → Option Value} {s : Shared} {Q : PUnit → Shared → Prop} (x : InCallC s₀ env.locals m env.cells cm s) (hl : env.kindOf n = some .local)
    (hr : ∀ x ∈ r, env.kindOf x.1 = some .local ∨ (env.kindOf x.1 = some .cell ∧ (env.cells.lookup x.1).isSome = true))
    (h : ∀ s', 1 ≤ s'.toks → InCallC s₀ env.locals (bindL env.kindOf ((n, v) :: r) m) env.cells (bindC env.kindOf ((n, v) :: r) cm) s' → Q ⟨⟩ s') : wpAny M A (forIn ((n, v) :: r) ⟨⟩ f) Q E s := by
  rw [List.forIn_cons, hf]
  refine wpAny_bind (wpAny_bind (wpAny_storeName_local hl x.toInCall.ns (fun h' hn' hs' => ?_) (by rw [hk]; rfl)))
  have x' : InCallC s₀ env.locals (fun y => if y = n then some v else m y) env.cells cm { s with heap := h', toks := s.toks + 1 } := by
    refine ⟨⟨?_, hn', fun b o e => ?_, x.toInCall.fresh⟩, fun k c hc => ?_, x.apart, x.above⟩
    · obtain ⟨h₁, tk, rfl⟩ := x.toInCall.same
      exact ⟨h', _, rfl⟩
    · exact hs'.extBut b o (Nat.ne_of_lt (Nat.lt_of_lt_of_le (Heap.lt_size e) x.toInCall.fresh)) (x.toInCall.keep b o e)
    · exact (x.cell k c hc).sameBut hs' (Nat.ne_of_gt (x.above k c (mem_of_lookup hc)))
  refine wpAny_pure ?_
  refine wpAny_with_toks (n := 1) (by show 1 ≤ s.toks + 1; omega) (wpAny_bindParams f hf hk r _ _ _ (fun a s' => 1 ≤ s'.toks → Q a s') x' hr fun s'' x'' hk'' => h s'' hk'' ?_)
  unfold bindL bindC; rw [if_pos hl, if_pos hl]; exact x''
end
theorem newEnvT {M : Model} {A : Around} {E : Value → Shared → Prop} {s : Shared} {scope : Scope} {globals : Addr} {n : Str} {v : Value} {r : List (Str × Value)} {qual : Str} {func : Option Addr} {code : Value} {builtins : Addr} {Q : Env → Shared → Prop}
    (hk : scope.kind = .function) (hl : scope.names.lookup n = some .local)
    (hkind : ∀ x ∈ r, scope.names.lookup x.1 = some .local ∨ (scope.names.lookup x.1 = some .cell ∧ ((cellsFrom (s.heap.objs.size + 1) scope.names []).lookup x.1).isSome = true))
    (hQ : ∀ env, env = newEnv scope s.heap.objs.size globals (cellsFrom (s.heap.objs.size + 1) scope.names []) qual func code none builtins →
      ∀ s', 1 ≤ s'.toks → InCallC s env.locals (bindL env.kindOf ((n, v) :: r) fun _ => none) env.cells (bindC env.kindOf ((n, v) :: r) fun _ => none) s' → Q env s') :
    wpAny M A (newFunctionEnv scope globals [] ((n, v) :: r) qual func code none builtins) Q E s := by
  simp only [newFunctionEnv, Option.isSome_none, Bool.false_eq_true, if_false]
  refine wpAny_bind (wpAny_alloc ?_)
  refine wpAny_bind (wpAny_layCells _ (fun name kind cells => by cases hkc : kind == NameKind.cell <;> simp [hkc]) _ _ _ _ ?_)
  have ok := cellsFrom_ok scope.names (s.heap.push { cls := .type "frame", data := .dict #[] }) (s.heap.objs.size + 1) [] ⟨fun _ _ hm => (nomatch hm), List.Pairwise.nil⟩ (by rw [Heap.size_push]; exact Nat.le_refl _)
  rw [Heap.size_push] at ok
  rw [show ({ s with heap := s.heap.push { cls := .type "frame", data := .dict #[] } } : Shared).heap.objs.size = s.heap.objs.size + 1 from Heap.size_push ..]
  exact wpAny_bind (bindParamsT (s₀ := s) (env := newEnv scope s.heap.objs.size globals (cellsFrom (s.heap.objs.size + 1) scope.names []) qual func code none builtins)
    _ (fun _ _ _ => rfl) hk (m := fun _ => none) (cm := fun _ => none)
    ⟨⟨⟨_, _, rfl⟩, (Heap.Ns.new s.heap (.type "frame")).keeps (pushCells_keeps _ _), fun b o e => pushCells_keeps _ _ b o (Heap.get?_push_of_some _ e), Nat.le_refl _⟩,
      fun n c hc => (ok.empty n c (mem_of_lookup hc)).1, ok.apart, fun n c hm => (ok.empty n c hm).2⟩
    hl hkind fun s' hk' x => wpAny_pure (hQ _ rfl s' hk' x))
theorem fn_ofT {CX : CXT} {P : Program} {w : World} {K : PySem.W.Frag} {mg : Str → Option Value} {base : Heap} {k : Nat} {f : Addr} {name qual : Str} {params : Arguments} {body : List Stmt} {scope : Scope} {dV kV doc pm cdv ct oc : Value} {an od : Option Addr}
    {osl : Array (Option Value)} {N ps : List Str} {p0 : Str} {sp : Sp} (lk : K.lookup f = some ⟨oc, od, .func (PySem.W.fnOf name qual params body scope dV kV doc pm an cdv ct), osl⟩) (hcd : PySem.W.codeIn K cdv qual = true) (S : FnScope N (p0 :: ps) scope)
    (hl0 : scope.names.lookup p0 = some .local)
    (len : ∀ vs H Q E, sp vs H Q E → vs.length = (p0 :: ps).length)
    (hbody : ∀ (A : Around) (outer : List Env) (s : Shared) (H : Hp) (vs : List V) (Q : VK) (E : XK), Room k (A.deeper (envOfC qual scope s.heap.objs.size f cdv)) → sp vs H Q E →
      ∃ t, PSsT (cxOf CX P w K mg base N qual scope f cdv A outer s H E) body t ∧ t { nx := fun _ H' => Q .non H', rt := Q } (start N vs) H) :
    FnOk P w K mg base CX (k + 1) f (PySem.W.fnOf name qual params body scope dV kV doc pm an cdv ct) (p0 :: ps) sp := by
  refine ⟨len, fun A outer s H args us vs Q E hr e0 hb r hsp => ?_⟩
  have hl := len _ _ _ _ hsp
  have KX : K.In s.heap := e0.mod.kin.keeps fun b o e => (e0.bs b o e).1
  have lim : s.heap.NoLimit := e0.mod.nolimit.keeps fun b o e => (e0.bs b o e).1
  have hkind : ∀ y ∈ ps.zip us.tail, scope.names.lookup y.1 = some .local ∨ (scope.names.lookup y.1 = some .cell ∧ ((cellsFrom (s.heap.objs.size + 1) scope.names []).lookup y.1).isSome = true) := fun ⟨n, v⟩ hy => by
    rcases S.par n (List.mem_cons_of_mem _ (List.of_mem_zip hy).1) with q | q
    · exact .inl q
    · exact .inr ⟨q, PySem.W.cellsFrom_some _ _ _ (.inl q)⟩
  refine codeAny_call_function hr.depth (KX _ _ lk) rfl S.co S.gen rfl (PySem.W.codeRec_of KX hcd) (hb _ _ _ _ ?_)
  have hus : ∃ u0 ur, us = u0 :: ur := by
    cases us with
    | nil => have := r.length; rw [hl] at this; simp at this
    | cons u0 ur => exact ⟨u0, ur, rfl⟩
  obtain ⟨u0, ur, rfl⟩ := hus
  refine newEnvT S.kind hl0 hkind fun env he s1 hk1 x => ?_
  subst he
  refine ⟨lim.keeps x.toInCall.keep, codeAny_func ?_⟩
  obtain ⟨t, ht, hq⟩ := hbody A outer s H vs Q E (hr.deeper _) hsp
  have I : Inv (cxOf CX P w K mg base N qual scope f cdv A outer s H E) [] (start N vs) H s1 := inv_start S hr.hd e0 hl r x
  refine wpAny_mono (ht [] s1 (start N vs) H _ hk1 I hq) (fun fl s' hs => ?_) fun e s' hs => hs
  have fin : ∀ {σ' : St} {H' : Hp} {v : V} {u : Value}, Inv (cxOf CX P w K mg base N qual scope f cdv A outer s H E) [] σ' H' s' → RelV v u → Q v H' → CE outer P w H s Q u s' :=
    fun {σ' H' v u} J rv q => ⟨v, H', J.os, J.bare, J.base, J.hok, rv, q⟩
  cases fl with
  | ret u =>
    obtain ⟨v, σ', H', J, rv, q⟩ := hs
    exact fin J rv q
  | next =>
    obtain ⟨σ', H', J, q⟩ := hs
    exact fin (v := V.non) (u := Value.none) J rfl q
  | brk =>
    obtain ⟨_, _, _, q⟩ := hs
    exact False.elim q
  | cont =>
    obtain ⟨_, _, _, q⟩ := hs
    exact False.elim q
theorem Fun.okT {P : Program} {w : World} {K : PySem.W.Frag} {mg : Str → Option Value} {base : Heap} {x qual : Str} {st : Stmt} {f : Addr} {fd : FuncData} {N ps : List Str} {p0 : Str} {k : Nat} {sp : Sp} (F : Fun K x qual st f fd) (S : FnScope N (p0 :: ps) (defScope st)) (hl0 : (defScope st).names.lookup p0 = some .local) (len : ∀ vs H Q E, sp vs H Q E → vs.length = (p0 :: ps).length)
    (hbody : ∀ (cdv : Value) (A : Around) (outer : List Env) (s : Shared) (H : Hp) (vs : List V) (Q : VK) (E : XK), Room k (A.deeper (envOfC qual (defScope st) s.heap.objs.size f cdv)) → sp vs H Q E →
      ∃ t, PSsT (cxOf CX0 P w K mg base N qual (defScope st) f cdv A outer s H E).nox (defBody st) t ∧ t { nx := fun _ H' => Q .non H', rt := Q } (start N vs) H) : FnOk P w K mg base CX0 (k + 1) f fd (p0 :: ps) sp := by
  obtain ⟨oc, od, kV, doc, pm, an, cdv, ct, osl, rfl, lk, hcd⟩ := F.ex
  refine fn_ofT lk hcd S hl0 len fun A outer s H vs Q E hr hsp => ?_
  obtain ⟨t, h, q⟩ := hbody cdv A outer s H vs Q E hr hsp
  exact ⟨t, h.nox, q⟩
end L2

set_option Elab.async false
set_option linter.all false
set_option maxRecDepth 100000
set_option maxHeartbeats 4000000
/-! Texts over the hand layer: join. Own work. -/
namespace L2
open PySem PySem.Spec PyProof.Rows Builtin Builtin.Str
theorem strs_of_vals : ∀ {xs : List Str} {its : List Value}, Vals (xs.map V.str) its → ∃ l : List (Str × Tok), its = strValues l ∧ l.map (·.1) = xs
  | [], _, .nil => ⟨[], rfl, rfl⟩
  | x :: r, _, .cons ⟨t, e⟩ rr => by
    obtain ⟨l, e1, e2⟩ := strs_of_vals rr
    exact ⟨(x, t) :: l, by rw [e, e1]; rfl, by rw [List.map_cons, e2]⟩
section
variable {X : Cx}
def rJoin (K : PySem.W.Frag) : V → List V → Hp → VK → Prop := fun x vs H Q => ∃ a D xs, x = .str a ∧ vs = [.ref D] ∧ SqL K H D (xs.map V.str) ∧ JoinOk a xs = true ∧ Q (.str (Str.join a xs)) H
theorem mt_join : MtR X "str.join" (rJoin X.K) := by
  intro pins s σ H x xs v us Q I rx rs h
  obtain ⟨a, D, ts, rfl, rfl, hq, hok, q⟩ := h
  obtain ⟨t, rfl⟩ := rx
  obtain ⟨u, rfl, ru⟩ := vals1 rs
  cases ru
  obtain ⟨its, rv, pl, hz⟩ := I.list hq
  obtain ⟨l, rfl, hl⟩ := strs_of_vals rv
  refine SC.join pl.isList hl hok fun t' k => ⟨.str _, H, I.tok _, ⟨t', rfl⟩, ?_⟩
  show Q (.str (glued a ts)) H
  rw [StrLaws.glued_eq_join]
  exact q
end
theorem joinOk_of {a : Str} {xs : List Str} {B : Nat} (hB : ∀ y ∈ xs, y.length ≤ B) (h : xs.length * B + xs.length * a.length ≤ 16777216) : JoinOk a xs = true := by
  unfold JoinOk
  rw [StrLaws.joinFits hB h]; rfl
end L2
namespace TX
theorem cutC_blank {a b : List Nat} : cutC (a ++ 32 :: b) = cutC a ++ cutC b := by
  unfold cutC
  rw [show a ++ 32 :: b = a ++ ([32] ++ b) from rfl, pad_cat, pad_cat, pad_blank]
  exact wordsC_cat
end TX
namespace L2
open PySem
theorem cut_join : ∀ (ls : List (List Nat)), (∀ l ∈ ls, TX.SignC l) → TX.cutC (cpl (Str.join " " (ls.map ofL))) = ls
  | [], _ => by
    show TX.cutC (cpl Str.empty) = []
    rfl
  | [l], h => by
    show TX.cutC (cpl (ofL l)) = [l]
    rw [cpl_ofL]; exact TX.cutC_sign (h l List.mem_cons_self)
  | l :: m :: r, h => by
    have ih := cut_join (m :: r) fun x hx => h x (List.mem_cons_of_mem _ hx)
    show TX.cutC (cpl (ofL l ++ " " ++ Str.join " " ((m :: r).map ofL))) = _
    rw [cpl_cat, cpl_cat, cpl_ofL, List.append_assoc]
    show TX.cutC (l ++ 32 :: cpl (Str.join " " ((m :: r).map ofL))) = _
    rw [TX.cutC_blank, ih, TX.cutC_sign (h l List.mem_cons_self)]
    rfl
end L2

set_option maxRecDepth 100000
set_option maxHeartbeats 4000000
namespace XC
open PySem PySem.W PySem.Calls PyProof.Rows
theorem slot_ga : Slot "ValueError" "__getattribute__" "BaseException.__getattribute__" :=
  Slot.of (owner := "BaseException") (n := "__getattribute__") (by rw [typeLookup_type, builtinLookup_eq_fast]; kernel_rfl) (by decide +kernel) (by decide +kernel) (by decide +kernel) (.inl (by decide +kernel)) (by rw [isSubtype_type]; kernel_rfl)
theorem ga_kind : builtinKind "BaseException.__getattribute__" = some .slot := by decide +kernel
theorem ga_split : splitId "BaseException.__getattribute__" = some ("BaseException", "__getattribute__") := by decide +kernel
section
variable {prog : Program} {w : World} {A : Around} {E : Value → Shared → Prop} {s : Shared} {K : Frag} {x C : Addr} {ox : Obj} {od : Option Obj} {name : Str} {expr : Bool} {Q : Value → Shared → Prop}
theorem isin_base {M : Model} {h : Heap} {B : Value} (X : K.In h) (I : InstAt h x ox C od) (hm : mroIn K C B = some true) : Looks M h (isInstance (.ref x) B) true := I.type.andThen (looks_mroIn X hm)
theorem exc_get {v : Value} (X : K.In s.heap) (I : InstAt s.heap x ox C od) (hga : findIn K (.ref C) "__getattribute__" = some (some (.builtin "BaseException.__getattribute__")))
    (hgn : findIn K (.ref C) "__getattr__" = some none) (hm : mroIn K C (.type "BaseException") = some true)
    (hf : findObj K C od name = some (.value v)) (hh : handedIn v = true) (h : Q v { s with toks := s.toks + 1 }) : wpAny (model prog w) A (getAttr (.ref x) name expr) Q E s := by
  obtain ⟨hp, g, d, t, os⟩ := s
  have L0 := I.type (M := model prog w)
  have L1 := looks_findIn (M := model prog w) X hga
  have L2 := looks_findIn (M := model prog w) X hgn
  have L3 := looks_find (M := model prog w) X I hf
  have hb := slot_ga.bind (.ref x)
  unfold getAttr getAttrBy
  refine wpAny_bind (wpAny_mkText (wpAny_holding (wpAny_bind (L0.at (wpAny_bind (L1.at ?_))))))
  have hx2 : (onTheHeap (Value.ref C) && Value.builtin "BaseException.__getattribute__" == Value.builtin "object.__getattribute__") = false := by
    rw [show (Value.builtin "BaseException.__getattribute__" == Value.builtin "object.__getattribute__") = false by decide +kernel]; rfl
  show wpAny _ _ (if (onTheHeap (Value.ref C) && Value.builtin "BaseException.__getattribute__" == Value.builtin "object.__getattribute__") = true then _ else _) _ _ _
  rw [hx2, if_neg Bool.false_ne_true]
  unfold getAttrByItsOwn
  refine wpAny_bind (L2.at ?_)
  refine wpAny_bind (wpAny_attempt ?_)
  refine wpAny_holding ?_
  unfold callGetattribute
  rw [show (expr && onTheHeap (Value.builtin "BaseException.__getattribute__")) = false by cases expr <;> rfl, if_neg Bool.false_ne_true]
  unfold boundAndCalled
  rw [hb]
  refine wpAny_bind (wpAny_pure (wpAny_call ?_))
  show codeAny _ _ (.call (.builtin "BaseException.__getattribute__") ⟨[.ref x, .str name t], []⟩) _ ⟨hp, g, d, t + 1, os⟩
  refine codeAny_call_builtin slot_ga.plain F.entry_bexc_ga (@check_slot (model prog w) _ _ ⟨hp, g, d, t + 1, os⟩ "BaseException.__getattribute__" "BaseException" "__getattribute__" (.ref x) [.str name t] [] _ ga_kind ga_split (isin_base X I hm) (F.args_bexc_ga (.ref x) (.str name t)) ?_)
  refine wpAny_bind (wpAny_pure (wpAny_bind (wpAny_pure (wpAny_bind (L0.at (wpAny_bind (L3.at ?_)))))))
  refine wpAny_pure ?_
  show wpAny _ _ (handedOut v) _ _ _
  rw [handedOut_of hh]; exact wpAny_pure h
end
end XC

set_option maxRecDepth 100000
set_option maxHeartbeats 4000000
namespace XC
open PySem PySem.W PySem.Calls PyProof.Rows
theorem vi_plain : plainId "ValueError.__init__" = true := by decide +kernel
theorem vi_kind : builtinKind "ValueError.__init__" = some .slot := by decide +kernel
theorem vi_split : splitId "ValueError.__init__" = some ("ValueError", "__init__") := by decide +kernel
theorem vi_row : Manifest.signature? "ValueError.__init__" = some ⟨.positional, "*", "ValueError", .self, [⟨"args", .varPos, false⟩]⟩ := by kernel_rfl
theorem vi_entry : entryFor table "ValueError.__init__" = some Builtin.«BaseException.__init__» :=
  entryFor_alias (id' := "BaseException.__init__") (by kernel_rfl) (by first | rfl | (unfold String.splitOn; simp +decide [String.splitOnAux])) (by decide +kernel) (by kernel_rfl)
/-- an exception object as it is made, t its arguments -/
abbrev newO (C t : Addr) (od : Option Addr) : Obj := { cls := .ref C, dict := od, data := .fields #[.ref t, .none, .none, .none, .bool false, .none] }
section
variable {prog : Program} {w : World} {A : Around} {E : Value → Shared → Prop} {s : Shared} {K : Frag} {x C t0 : Addr} {ox : Obj} {od : Option Obj} {name : Str} {expr : Bool} {Q : Value → Shared → Prop}
theorem vi_check {M : Model} {cd : ClassData} {rest : List Value} {R : Unit → Shared → Prop} (X : K.In s.heap) (I : s.heap.get? x = some ox) (hc : ox.cls = .ref C) (hm : mroIn K C (.type "ValueError") = some true) (hcd : clsIn K C = some cd)
    (h : R () s) : wpAny M A (checkBuiltinCall "ValueError.__init__" ⟨.ref x :: rest, []⟩) R E s := by
  obtain ⟨hp, g, d, t, os⟩ := s
  have L1 := looks_mroIn (M := M) X hm
  have L2 := looks_clsIn (M := M) X hcd
  have hshort : ("ValueError" == "*") = false := by decide
  simp only [checkBuiltinCall, vi_kind, vi_split, vi_row]
  repeat (first | (with_reducible refine wpAny_loadPart_at I ?_; rw [hc]) | with_reducible refine L1.at ?_ | with_reducible refine L2.at ?_ | wp_step)
  refine wpAny_onRaise ?_
  exact wpAny_of_eq (a := ()) (check_star_args _ _ _ _ _ _) h
theorem exc_init {u : Value} (X : K.In s.heap) (I : s.heap.get? x = some (newO C t0 none)) (hm : mroIn K C (.type "ValueError") = some true) {cd : ClassData} (hcd : clsIn K C = some cd)
    (h : ∀ h' t, (∀ b o, b ≠ x → s.heap.get? b = some o → h'.get? b = some o) → h'.get? x = some (newO C t none) → Q .none { s with heap := h' }) :
    wpAny (model prog w) A (call (.builtin "ValueError.__init__") [.ref x, u]) Q E s := by
  obtain ⟨hp, g, d, t, os⟩ := s
  have I' : InstAt hp x (newO C t0 none) C none := ⟨I, rfl, rfl, trivial⟩
  refine wpAny_call ?_
  refine codeAny_call_builtin vi_plain vi_entry (vi_check (s := ⟨hp, g, d, t, os⟩) X I rfl hm hcd ?_)
  have I2 : hp.get? x = some (newO C t0 none) := I
  have I3 := Heap.get?_push_of_some { cls := .type "tuple", data := .seq #[u] } I2
  unfold Builtin.«BaseException.__init__»
  wp_walk
  refine h _ hp.objs.size (fun b o nb e => ?_) ?_
  · rw [Heap.get?_update_other _ _ (Ne.symm nb)]
    exact Heap.get?_push_of_some _ e
  · rw [Heap.get?_update_self _ I3 rfl]
    rfl
end
end XC

set_option maxRecDepth 100000
set_option maxHeartbeats 4000000
namespace XC
open PySem PySem.W PySem.Calls PyProof.Rows Builtin.ObjectAttr
/-- own classes, then ValueError and what is above it -/
def excMro : List Value → Bool
  | .ref _ :: r => excMro r
  | [.type a, .type b, .type c, .type d] => a == "ValueError" && b == "Exception" && c == "BaseException" && d == "object"
  | _ => false
theorem refuse_vals (self : Value) : refuseLoop self "__setattr__" [.type "ValueError", .type "Exception", .type "BaseException", .type "object"] = pure () := by kernel_rfl
theorem refuse_exc (self : Value) : ∀ {l : List Value}, excMro l = true → refuseLoop self "__setattr__" l = pure ()
  | .ref c :: r, e => by rw [refuseLoop_ref]; exact refuse_exc self (by unfold excMro at e; exact e)
  | [.type a, .type b, .type c, .type d], e => by
    simp only [excMro, Bool.and_eq_true, beq_iff_eq] at e
    obtain ⟨⟨⟨rfl, rfl⟩, rfl⟩, rfl⟩ := e
    exact refuse_vals self
theorem exc_has : ∀ {l : List Value}, excMro l = true → l.contains (.type "object") = true ∧ l.isEmpty = false
  | .ref c :: r, e => ⟨by rw [List.contains_cons, (exc_has (l := r) (by unfold excMro at e; exact e)).1, Bool.or_true], rfl⟩
  | [.type a, .type b, .type c, .type d], e => by
    simp only [excMro, Bool.and_eq_true, beq_iff_eq] at e
    obtain ⟨⟨⟨rfl, rfl⟩, rfl⟩, rfl⟩ := e
    exact ⟨by decide, rfl⟩
section
variable {prog : Program} {w : World} {A : Around} {E : Value → Shared → Prop} {s : Shared} {K : Frag} {x C : Addr} {ox : Obj} {od : Option Obj} {name : Str} {R : Result → Shared → Prop}
theorem osa_exc {cd : ClassData} {tk : Tok} {v : Value} (X : K.In s.heap) (I : InstAt s.heap x ox C od) (hc : clsIn K C = some cd) (ho : excMro cd.mro = true) (ht : takerIn K C name = some none)
    (h : ∀ b, wpAny (model prog w) A.in1 (storeInOwnDict (.ref x) (.ref C) (.str name tk) name v b)
      (fun fin s' => match fin with | .done f => R (.ok f) s' | .again c' => c'.quiet = true ∧ codeAny (model prog w) A c' R s') (fun e s' => R (.error e) s') s) :
    codeAny (model prog w) A (.call (.builtin "object.__setattr__") ⟨[.ref x, .str name tk, v], []⟩) R s := by
  have SF := PySem.F.store_object
  obtain ⟨hb, ne⟩ := exc_has ho
  have sub : Looks (model prog w) s.heap (isInstance (.ref x) (.type "object")) true := isin_base X I (by unfold mroIn; rw [hc, Option.bind_some, if_neg (by rw [ne]; decide), hb])
  refine codeAny_call_builtin SF.slot.plain SF.entry (@check_slot (model prog w) _ _ s "object.__setattr__" "object" "__setattr__" (.ref x) [.str name tk, v] [] _ SF.kind SF.split sub (SF.args (.ref x) (.str name tk) v) ?_)
  obtain ⟨attr, ha, hr⟩ := Option.bind_eq_some_iff.mp ht
  have hm : Looks (model prog w) s.heap (mroOf (.ref C)) cd.mro := (looks_clsIn X hc).andThen .now
  have L3 : Looks (model prog w) s.heap (storeTaker? attr) none := by
    cases attr with
    | none => exact .now
    | some a =>
      obtain ⟨b, hb, hz⟩ := Option.map_eq_some_iff.mp hr
      refine (looks_takesIn X hb).andThen ?_
      cases b
      · exact .now
      · cases hz
  rw [osa_eq, refuse_eq]
  refine wpAny_bind (wpAny_bind (I.type.here (wpAny_bind (hm.here ?_))))
  rw [refuse_exc _ ho]
  refine wpAny_pure (wpAny_bind (I.type.here (wpAny_bind ((looks_findIn X ha).here (wpAny_bind (L3.here ?_))))))
  exact h _
/-- what a class of exceptions must tell -/
structure ECls (K : Frag) (C : Addr) : Prop where
  cls : ∃ cd, clsIn K C = some cd ∧ excMro cd.mro = true ∧ cd.hasDict = true
  sa : findIn K (.ref C) "__setattr__" = some (some (.builtin "object.__setattr__"))
  ga : findIn K (.ref C) "__getattribute__" = some (some (.builtin "BaseException.__getattribute__"))
  gn : findIn K (.ref C) "__getattr__" = some none
abbrev excO (C : Addr) (od : Option Addr) (vs : Array Value) : Obj := { cls := .ref C, dict := od, data := .fields vs }
theorem exc_set1 {vs : Array Value} {v : Value} {Q : Unit → Shared → Prop} (X : K.In s.heap) (c : ECls K C) (I : s.heap.get? x = some (excO C none vs)) (ht : takerIn K C name = some none)
    (h : ∀ h' dx, s.heap.objs.size = dx → (∀ b o, b ≠ x → s.heap.get? b = some o → h'.get? b = some o) → h'.get? x = some (excO C (some dx) vs) → h'.Ns1 dx (fun y => if y = name then some v else none) → Q () { s with heap := h', toks := s.toks + 2 }) :
    wpAny (model prog w) A (setAttr (.ref x) name v) Q E s := by
  obtain ⟨cd, hc, ho, hd⟩ := c.cls
  have J : InstAt s.heap x (excO C none vs) C none := ⟨I, rfl, rfl, trivial⟩
  refine set_plain X J c.sa (osa_exc (s := { s with toks := s.toks + 1 }) X J hc ho ht fun b => ?_)
  refine wpAny_bind (wpAny_pure (wpAny_bind (wpAny_bind (wpAny_loadPart I (wpAny_bind (Looks.here (s := { s with toks := s.toks + 1 }) (looks_clsIn X hc) ?_))))))
  rw [hd]
  have e1 : (s.heap.push { cls := .type "dict", data := .dict #[] }).get? s.heap.objs.size = some { cls := .type "dict", data := .dict #[] } := Heap.get?_push_size _ rfl
  have e2 := Heap.get?_push_of_some { cls := .type "dict", data := .dict #[] } I
  have hne : s.heap.objs.size ≠ x := fun z => absurd (Heap.lt_size I) (by rw [z]; exact Nat.lt_irrefl _)
  show wpAny _ _ (do let d ← alloc { cls := .type "dict", data := .dict #[] }; update x fun o => { cls := o.cls, dict := some d, data := o.data, slots := o.slots }; dictMade (.ref C) x d) _ _ _
  refine wpAny_bind (wpAny_alloc (wpAny_bind (wpAny_update e2 (wpAny_pure ?_))))
  refine wpAny_bind (wpAny_pure (wpAny_bind ?_))
  have n3 : ((s.heap.push { cls := .type "dict", data := .dict #[] }).update x fun o => { cls := o.cls, dict := some s.heap.objs.size, data := o.data, slots := o.slots }).Ns1 s.heap.objs.size (fun _ => none) := by
    refine Heap.Ns1.of_empty ⟨{ cls := .type "dict", data := .dict #[] }, #[], _, ?_, rfl, (fun e he => absurd he (by simp)), fun _ => rfl⟩
    rw [Heap.get?_update_other _ _ (Ne.symm hne)]; exact e1
  refine wpAny_nsSet1 (s := ⟨_, s.gens, s.drawn, s.toks + 1, s.os⟩) n3 fun h' hn2 hs2 => ?_
  obtain ⟨oD, esD, epD, hoD, hdD, hcD⟩ := hn2.count (PySem.Within.cons name v (ns := []) (m := fun _ => none) (fun y hy => absurd rfl hy))
  refine wpAny_bind (wpAny_lookBehind hoD (by rw [hdD]; exact pastItsLine_dict (Nat.le_trans hcD (by rw [sizeLine_eq]; show 1 ≤ _; decide))) ?_)
  refine wpAny_pure (h _ _ rfl (fun b o nb e => ?_) ?_ hn2)
  · have hb : b ≠ s.heap.objs.size := Nat.ne_of_lt (Heap.lt_size e)
    rw [hs2.2 _ hb, Heap.get?_update_other _ _ (Ne.symm nb)]
    exact Heap.get?_push_of_some _ e
  · rw [hs2.2 _ (Ne.symm hne), Heap.get?_update_self _ e2 rfl]
theorem exc_set2 {vs : Array Value} {v : Value} {dx : Addr} {mA : Str → Option Value} {ns : List Str} {Q : Unit → Shared → Prop} (X : K.In s.heap) (c : ECls K C) (I : s.heap.get? x = some (excO C (some dx) vs)) (N : s.heap.Ns1 dx mA) (hne : dx ≠ x) (ht : takerIn K C name = some none)
    (hw : PySem.Within mA ns) (hsz : ns.length ≤ sizeLine)
    (h : ∀ h', (∀ b o, b ≠ dx → s.heap.get? b = some o → h'.get? b = some o) → h'.Ns1 dx (fun y => if y = name then some v else mA y) → Q () { s with heap := h', toks := s.toks + 2 }) :
    wpAny (model prog w) A (setAttr (.ref x) name v) Q E s := by
  obtain ⟨cd, hc, ho, hd⟩ := c.cls
  obtain ⟨oD, es, ep, hoD, hr⟩ := id N
  have J : InstAt s.heap x (excO C (some dx) vs) C (some oD) := ⟨I, rfl, rfl, hoD⟩
  refine set_plain X J c.sa (osa_exc (s := { s with toks := s.toks + 1 }) X J hc ho ht fun b => ?_)
  refine wpAny_bind (wpAny_pure (wpAny_bind (wpAny_bind (wpAny_loadPart I (wpAny_bind (Looks.here (s := { s with toks := s.toks + 1 }) (looks_clsIn X hc) ?_))))))
  rw [hd]
  refine wpAny_pure (a := some dx) (wpAny_bind (wpAny_pure (wpAny_bind ?_)))
  refine wpAny_nsSet1 (s := { s with toks := s.toks + 1 }) N fun h' hn2 hs2 => ?_
  obtain ⟨oD, esD, epD, hoD, hdD, hcD⟩ := hn2.count (PySem.Within.cons name v hw)
  refine wpAny_bind (wpAny_lookBehind hoD (by rw [hdD]; exact pastItsLine_dict (Nat.le_trans hcD (by rw [List.length_cons]; omega))) ?_)
  exact wpAny_pure (h _ (fun b o nb e => (hs2.2 _ nb).trans e) hn2)
end
end XC

set_option maxRecDepth 100000
set_option maxHeartbeats 4000000
namespace XC
open PySem PySem.W PySem.Calls PyProof.Rows
theorem FV : ExcBaseFacts "ValueError" "ValueError.__new__" "ValueError.__init__" [.type "ValueError", .type "Exception", .type "BaseException", .type "object"] := PySem.F.excBase_ValueError
/-- own classes over ValueError: what is above is above -/
theorem mro_types : ∀ {l : List Value}, excMro l = true → l.contains (.type "ValueError") = true ∧ l.contains (.type "BaseException") = true ∧ l.contains (.type "AttributeError") = false ∧ l.contains (.type "NameError") = false ∧ l.contains (.type "tuple") = false
  | .ref c :: r, e => by
    obtain ⟨a1, a2, a3, a4, a5⟩ := mro_types (l := r) (by unfold excMro at e; exact e)
    refine ⟨?_, ?_, ?_, ?_, ?_⟩
    · rw [List.contains_cons, a1, Bool.or_true]
    · rw [List.contains_cons, a2, Bool.or_true]
    · rw [List.contains_cons, a3]; rfl
    · rw [List.contains_cons, a4]; rfl
    · rw [List.contains_cons, a5]; rfl
  | [.type a, .type b, .type c, .type d], e => by
    simp only [excMro, Bool.and_eq_true, beq_iff_eq] at e
    obtain ⟨⟨⟨rfl, rfl⟩, rfl⟩, rfl⟩ := e
    decide
section
variable {prog : Program} {w : World} {M : Model} {A : Around} {E : Value → Shared → Prop} {h : Heap} {g : Array GenState} {d : Drawn} {t : Nat} {os : OsState}
variable {nm q : Str} {C N : Addr} {bs bm : List Value} {hdct : Bool} {sn : List Str} {sub : List Value} {ab : Bool} {col : Option Bool} {dd : Option Addr} {k0 k1 k2 k3 k5 : Option Value}
theorem new_check {us : List Value} {Q : Unit → Shared → Prop} (hC : h.get? C = some (excClassObj nm q C N bs bm hdct sn sub ab col dd k0 k1 k2 k3 k5 "ValueError.__new__")) (hmr : excMro (.ref C :: bm) = true)
    (hq : Q () ⟨h, g, d, t, os⟩) : wpAny M A (checkBuiltinCall "ValueError.__new__" ⟨.ref C :: us, []⟩) Q E ⟨h, g, d, t, os⟩ := by
  have hv := (mro_types hmr).1
  have hstar := FV.noStar
  simp only [checkBuiltinCall, FV.newKind, FV.newSplit, FV.newRow]
  repeat (first
    | refine wpAny_loadPart_at hC ?_
    | (refine wpAny_isSubtype_exc hC ?_; rw [hv])
    | refine wpAny_staticBase_exc hC ?_
    | refine wpAny_madeBy_exc hC ?_
    | simp only [bne_self_eq_false, Bool.false_eq_true, if_false]
    | wp_step)
  exact hq
theorem new_run {us : List Value} {R : Result → Shared → Prop} (hC : h.get? C = some (excClassObj nm q C N bs bm hdct sn sub ab col dd k0 k1 k2 k3 k5 "ValueError.__new__")) (hmr : excMro (.ref C :: bm) = true) (hlen : us.length ≤ sizeLine)
    (hq : R (.ok (.ret (.ref (h.objs.size + 1)))) ⟨(h.push { cls := .type "tuple", data := .seq us.toArray }).push (newO C h.objs.size none), g, d, t, os⟩) :
    codeAny (model prog w) A (.builtin "ValueError.__new__" ⟨.ref C :: us, []⟩) R ⟨h, g, d, t, os⟩ := by
  obtain ⟨hv, _, ha, hn, _⟩ := mro_types hmr
  have hends := FV.ends
  refine codeAny_builtinAt FV.entry ?_
  unfold Builtin.«BaseException.__new__»
  refine PySem.wpAt_bind ?_
  show PySem.wpAt _ _ _ (stack >>= _) _ _ _
  refine PySem.wpAt_bind (PySem.wpAt_stack fun p below => PySem.wpAt_of_wpAny ?_)
  wp_walk
  refine PySem.wpAt_of_wpAny ?_
  rw [FV.owner]
  repeat (first
    | with_reducible refine wpAny_madeHere_exc FV.canon hC ?_
    | with_reducible refine wpAny_loadPart_at hC ?_
    | (with_reducible refine wpAny_isSubtype_exc hC ?_; first | rw [hv] | rw [ha] | rw [hn])
    | wp_step)
  show R _ _
  rw [Heap.size_push]
  exact hq
theorem type_call {K : Frag} {fI : Addr} {us : List Value} {Q : Fin → Shared → Prop} (X : K.In h) (hC : h.get? C = some (excClassObj nm q C N bs bm hdct sn sub ab col dd k0 k1 k2 k3 k5 "ValueError.__new__")) (hmr : excMro (.ref C :: bm) = true) (hlen : us.length ≤ sizeLine)
    (hi : findIn K (.ref C) "__init__" = some (some (.ref fI))) (hf : typeIn K (.ref fI) = some (.type "function"))
    (hq : wpAny (model prog w) A (call (.ref fI) (.ref (h.objs.size + 1) :: us)) (fun r s' => r = .none ∧ Q (.done (.ret (.ref (h.objs.size + 1)))) s') E
      ⟨(h.push { cls := .type "tuple", data := .seq us.toArray }).push (newO C h.objs.size none), g, d, t, os⟩) :
    wpAny (model prog w) A (Builtin.«type.__call__» ⟨.ref C :: us, []⟩) Q E ⟨h, g, d, t, os⟩ := by
  repeat (first
    | with_reducible refine wpAny_loadPart_at hC ?_
    | with_reducible refine wpAny_madeBy_exc hC ?_
    | wp_step)
  refine codeAny_call_builtin_code (Code.quiet_builtin _ FV.quiet) (new_check hC hmr ?_)
  refine new_run hC hmr hlen ?_
  show wpAny _ _ _ _ _ _
  have kp : ∀ b o, h.get? b = some o → ((h.push { cls := .type "tuple", data := .seq us.toArray }).push (newO C h.objs.size none)).get? b = some o := fun b o e => Heap.get?_push_of_some _ (Heap.get?_push_of_some _ e)
  have hC1 := kp _ _ hC
  have X1 := X.keeps kp
  have hget : ((h.push { cls := .type "tuple", data := .seq us.toArray }).push (newO C h.objs.size none)).get? (h.objs.size + 1) = some (newO C h.objs.size none) := by heap_get
  have hcC : (Value.ref C :: bm).contains (.ref C) = true := by simp
  unfold isInstance
  repeat (first
    | with_reducible refine wpAny_loadPart_at hget ?_
    | (with_reducible refine wpAny_isSubtype_exc hC1 ?_; rw [hcC])
    | wp_step)
  show wpAny _ _ (typeLookup (.ref C) _) _ _ _
  refine (looks_findIn (M := model prog w) X1 hi).at ?_
  refine wpAny_holding (wpAny_bind ((bind_fn (M := model prog w) X1 _ hf).at ?_))
  refine wpAny_bind (wpAny_mono hq (fun r s' hr => ?_) fun _ _ z => z)
  obtain ⟨rfl, hQ⟩ := hr
  wp_walk
  exact hQ
theorem exc_call {K : Frag} {fI : Addr} {us : List Value} {Q : Value → Shared → Prop} (X : K.In h) (hC : h.get? C = some (excClassObj nm q C N bs bm hdct sn sub ab col dd k0 k1 k2 k3 k5 "ValueError.__new__")) (hmr : excMro (.ref C :: bm) = true) (hlen : us.length ≤ sizeLine)
    (hi : findIn K (.ref C) "__init__" = some (some (.ref fI))) (hf : typeIn K (.ref fI) = some (.type "function"))
    (hq : wpAny (model prog w) (A.under (.builtin "type.__call__" ⟨.ref C :: us, []⟩)) (call (.ref fI) (.ref (h.objs.size + 1) :: us)) (fun r s' => r = .none ∧ Q (.ref (h.objs.size + 1)) s') E
      ⟨(h.push { cls := .type "tuple", data := .seq us.toArray }).push (newO C h.objs.size none), g, d, t, os⟩) :
    wpAny (model prog w) A (call (.ref C) us) Q E ⟨h, g, d, t, os⟩ := by
  have f1 := tc_lookup
  have f2 := tc_bind (.ref C)
  have hT : (⟨h, g, d, t, os⟩ : Shared).TypeIs (.ref C) "type" := ⟨_, hC, rfl⟩
  refine wpAny_call (codeAny_of_tree ?_)
  show wpAny _ _ (callAny (.ref C) _) _ _ _
  repeat (any_goals (first
    | assumption
    | with_reducible refine wpAny_loadPart_at hC ?_
    | wp_step))
  refine ⟨rfl, ?_⟩
  refine codeAny_call_builtin_at (Code.quiet_builtin _ (by decide +kernel)) entry_typeCall (wpAny_check_type_call_sub hC (type_call X hC hmr hlen hi hf ?_))
  exact hq
end
end XC

set_option maxRecDepth 100000
set_option maxHeartbeats 4000000
namespace XC
open PySem PySem.W PySem.Calls PyProof.Rows
section
variable {M : Model} {A : Around} {E : Value → Shared → Prop} {env : Env} {s : Shared}
/-- an own class of exceptions, as it lies -/
def ClsAt (h : Heap) (C : Addr) : Prop := ∃ nm q N bs bm hdct sn sub ab col dd k0 k1 k2 k3 k5, h.get? C = some (excClassObj nm q C N bs bm hdct sn sub ab col dd k0 k1 k2 k3 k5 "ValueError.__new__") ∧ excMro (.ref C :: bm) = true
theorem raise_stmt {x : Sem Value} {Q : Flow → Shared → Prop} (hh : A.handled = none)
    (h : wpAny M A x (fun v s₁ => ∃ e C od vs, v = .ref e ∧ ClsAt s₁.heap C ∧ s₁.heap.get? e = some (excO C od vs) ∧ vs[1]? = some .none ∧ E (.ref e) s₁) E s) : wpAny M A (raiseStmt env (some x) none) Q E s := by
  unfold raiseStmt
  refine wpAny_bind (wpAny_mono h (fun v s₁ h₁ => ?_) fun _ _ z => z)
  obtain ⟨e, C, od, vs, rfl, ⟨nm, q, N, bs, bm, hdct, sn, sub, ab, col, dd, k0, k1, k2, k3, k5, hC, hmr⟩, he, h1, hE⟩ := h₁
  obtain ⟨_, hb, _⟩ := mro_types hmr
  obtain ⟨hp, g, d, tk, os⟩ := s₁
  repeat (first
    | with_reducible refine wpAny_loadPart_at he ?_
    | with_reducible refine wpAny_loadPart_at hC ?_
    | (with_reducible refine wpAny_isSubtype_exc hC ?_; rw [hb])
    | wp_step)
  rw [h1]
  refine wpAny_pure ?_
  rw [if_neg (by decide)]
  exact wpAny_pure (wpAny_raiseNew_none hh hE)
theorem raise_exec {x : Expr} {pos : Pos} {Q : Flow → Shared → Prop} (hh : A.handled = none)
    (h : wpAny M A (eval x env) (fun v s₁ => ∃ e C od vs, v = .ref e ∧ ClsAt s₁.heap C ∧ s₁.heap.get? e = some (excO C od vs) ∧ vs[1]? = some .none ∧ E (.ref e) s₁) E s) : wpAny M A (exec (.Raise (some x) none pos) env) Q E s := by
  rw [arm_exec_Raise]
  first
    | exact wpAny_bind (wpAny_standAt (raise_stmt hh (wpAny_bind (wpAny_mono h (fun v s₁ h₁ => wpAny_bind (wpAny_standAt (wpAny_pure h₁))) fun _ _ z => z))))
    | (simp only [evalOpt, Option.map]
       exact wpAny_bind (wpAny_standAt (raise_stmt hh (wpAny_bind (wpAny_mono h (fun v s₁ h₁ => wpAny_bind (wpAny_standAt (wpAny_pure h₁))) fun _ _ z => z)))))
end
end XC

set_option maxRecDepth 100000
set_option maxHeartbeats 4000000
namespace XC
open PySem PySem.W PySem.Calls PyProof.Rows
abbrev frsE (l : List Env) : List Addr := l.filterMap (·.frame)
/-- an exception on its way: its object, its last entry -/
structure Fly (h : Heap) (x C : Addr) (od : Option Addr) (T : Addr) : Prop where
  ob : ∃ vs, h.get? x = some (excO C od vs) ∧ vs.size = 6 ∧ vs[1]? = some (.ref T)
  ne : T ≠ x
  tb : ∃ oT ts, h.get? T = some oT ∧ oT.data = .fields ts ∧ ts[3]? = some .none
section
variable {M : Model} {A : Around} {E : Value → Shared → Prop} {s : Shared}
theorem entry_ok {base : Heap} {env : Env} {outer : List Env} {L x C : Addr} {od : Option Addr} {vs : Array Value} {head : Value} {hadNext : Bool} {Q : Unit → Shared → Prop}
    (hfr : A.frames = some (env :: outer)) (hl : s.heap.FunFrames base (env :: outer)) (hf : env.frame = some L) (he : s.heap.get? x = some (excO C od vs)) (hsz : vs.size = 6)
    (h : ∀ h' T, s.heap.objs.size ≤ T → Fly h' x C od T → (∀ b o, s.heap.get? b = some o → b ≠ x → b ∉ frsE (env :: outer) → h'.get? b = some o) → (∀ b o, s.heap.get? b = some o → b ≠ x → ∃ sl, h'.get? b = some { o with slots := sl }) → Q () { s with heap := h' }) :
    wpAny M A (do let a ← frameOf env; let pl ← entryPlaceOf L hadNext; let b ← EntryCells.newEntry head a .none (rawInt L) .none pl; setField (.ref x) 1 b)
      (fun _ s' => wpAny M A (setFlight (.ref x) none) Q E s') E s := by
  have hxn : x ∉ frsE (env :: outer) := fun hm => by
    obtain ⟨_, o, ho, hnf⟩ := hl.mem hm
    rw [he] at ho
    cases ho
    exact hnf vs rfl
  refine wpAny_bind (wpAny_frameOf_fun hfr hl hf fun h1 hs1 => ?_)
  refine wpAny_bind (wpAny_entryPlaceOf fun pl hpl => ?_)
  unfold EntryCells.newEntry newFields
  refine wpAny_bind (wpAny_newObj_type ?_ (hpl.sizeOk5 _ _ _ _ _))
  have he1 : h1.get? x = some (excO C od vs) := (hs1.2.1 x hxn).trans he
  generalize hot : ({ cls := .type "traceback", dict := none, data := .fields ([head, .ref L, .none, rawInt L, .none] ++ (if pl.isEmpty then List.replicate 6 Value.none else pl)).toArray } : Obj) = ot
  have he2 : (h1.push ot).get? x = some (excO C od vs) := Heap.get?_push_of_some ot he1
  have h1sz : 1 < vs.size := by omega
  refine wpAny_setField he2 rfl h1sz ?_
  have hTx : h1.objs.size ≠ x := Nat.ne_of_gt (Heap.lt_size he1)
  have hd3 := Obj.data_mapFields (o := excO C od vs) rfl (·.setIfInBounds 1 (Value.ref h1.objs.size))
  have he3 := Heap.get?_update_self (Obj.mapFields (·.setIfInBounds 1 (Value.ref h1.objs.size))) he2 (Obj.isFreed_of_fields hd3)
  have hT3 : ((h1.push ot).update x (Obj.mapFields (·.setIfInBounds 1 (Value.ref h1.objs.size)))).get? h1.objs.size = some ot := by
    rw [Heap.get?_update_other _ _ (Ne.symm hTx)]
    exact Heap.get?_push_size h1 (by rw [← hot]; rfl)
  unfold setFlight
  refine wpAny_bind (wpAny_field he3 hd3 (x := .ref h1.objs.size) (by simp [h1sz]) ?_)
  rw [if_pos (show (Value.ref h1.objs.size != Value.none) = true from by simp)]
  have hdT : ot.data = .fields ([head, .ref L, .none, rawInt L, .none] ++ (if pl.isEmpty then List.replicate 6 Value.none else pl)).toArray := by rw [← hot]
  refine wpAny_setField hT3 hdT (by simp only [List.size_toArray, List.length_append, List.length_cons, List.length_nil] <;> omega) ?_
  have keep : ∀ b o, b ≠ x → h1.get? b = some o →
      (((h1.push ot).update x (Obj.mapFields (·.setIfInBounds 1 (Value.ref h1.objs.size)))).update h1.objs.size (Obj.mapFields (·.setIfInBounds 3 ((none : Option Addr).elim Value.none fun f => rawInt f)))).get? b = some o := fun b o nb e => by
    rw [Heap.get?_update_other _ _ (Nat.ne_of_gt (Heap.lt_size e)), Heap.get?_update_other _ _ (Ne.symm nb)]
    exact Heap.get?_push_of_some _ e
  refine h _ h1.objs.size (Nat.le_of_eq hs1.1.symm) ⟨⟨vs.setIfInBounds 1 (.ref h1.objs.size), ?_, by rw [Array.size_setIfInBounds]; exact hsz, by simp [h1sz]⟩, hTx, ⟨_, _, Heap.get?_update_self _ hT3 (Obj.isFreed_of_fields (Obj.data_mapFields hdT _)), Obj.data_mapFields hdT _, ?_⟩⟩ (fun b o e nb nf => ?_) (fun b o e nb => ?_)
  · rw [Heap.get?_update_other _ _ hTx]; exact he3
  · first | (simp; done) | (rcases hpl with rfl | ⟨_, _, _, _, _, _, _, rfl⟩ <;> simp)
  · exact keep b o nb ((hs1.2.1 b nf).trans e)
  · obtain ⟨sl, e'⟩ := hs1.2.2 b o e
    exact ⟨sl, keep b _ nb e'⟩
/-- what leaving a frame does -/
def Lft (env : Env) (outer : List Env) (x C : Addr) (od : Option Addr) (T : Addr) (h h' : Heap) : Prop :=
  h.objs.size ≤ T ∧ Fly h' x C od T ∧ (∀ b o, h.get? b = some o → b ≠ x → b ∉ frsE (env :: outer) → h'.get? b = some o) ∧ ∀ b o, h.get? b = some o → b ≠ x → ∃ sl, h'.get? b = some { o with slots := sl }
theorem note_first {base : Heap} {env : Env} {outer : List Env} {L x C : Addr} {od : Option Addr} {vs : Array Value} {Q : Unit → Shared → Prop}
    (hfr : A.frames = some (env :: outer)) (hl : s.heap.FunFrames base (env :: outer)) (hf : env.frame = some L) (he : s.heap.get? x = some (excO C od vs)) (hsz : vs.size = 6) (h1 : vs[1]? = some .none)
    (h : ∀ h' T, Lft env outer x C od T s.heap h' → Q () { s with heap := h' }) : wpAny M A (noteFrame (.ref x) env) (fun _ s' => wpAny M A (setFlight (.ref x) none) Q E s') E s := by
  unfold noteFrame
  simp only [hf]
  refine wpAny_bind (wpAny_field he rfl h1 ?_)
  rw [if_neg (by decide)]
  exact entry_ok hfr hl hf he hsz fun h' T a b c d => h h' T ⟨a, b, c, d⟩
theorem set_same {ts : Array Value} {i : Nat} {v : Value} (h : ts[i]? = some v) : ts.setIfInBounds i v = ts := by
  apply Array.ext
  · simp
  · intro j h1 h2
    rw [Array.getElem_setIfInBounds]
    split
    · rename_i e
      subst e
      rw [Array.getElem?_eq_getElem h2] at h
      exact (Option.some.inj h).symm
    · rfl
theorem map_same {o : Obj} {ts : Array Value} {i : Nat} {v : Value} (hd : o.data = .fields ts) (h : ts[i]? = some v) : Obj.mapFields (·.setIfInBounds i v) o = o := by
  obtain ⟨c, d, dt, sl⟩ := o
  cases hd
  show ({ cls := c, dict := d, data := .fields (ts.setIfInBounds i v), slots := sl } : Obj) = _
  rw [set_same h]
theorem note_next {base : Heap} {env : Env} {outer : List Env} {L x C T0 : Addr} {od : Option Addr} {Q : Unit → Shared → Prop}
    (hfr : A.frames = some (env :: outer)) (hl : s.heap.FunFrames base (env :: outer)) (hf : env.frame = some L) (hfly : Fly s.heap x C od T0)
    (h : ∀ h' T, Lft env outer x C od T s.heap h' → Q () { s with heap := h' }) : wpAny M A (noteFrame (.ref x) env) (fun _ s' => wpAny M A (setFlight (.ref x) none) Q E s') E s := by
  obtain ⟨⟨vs, he, hsz, h1⟩, hTx, oT, ts, hT, hdT, h3⟩ := hfly
  unfold noteFrame
  simp only [hf]
  refine wpAny_bind (wpAny_field he rfl h1 ?_)
  rw [if_pos (show (Value.ref T0 != Value.none) = true from by simp)]
  refine wpAny_bind (wpAny_field hT hdT h3 ?_)
  rw [if_neg (show ¬ ((Value.none == rawInt L) = true) from by simp [rawInt])]
  refine wpAny_bind (wpAny_setField hT hdT (Array.getElem?_eq_some_iff.mp h3).1 ?_)
  have same : ∀ b o, s.heap.get? b = some o → (s.heap.update T0 (Obj.mapFields (·.setIfInBounds 3 Value.none))).get? b = some o := fun b o e => by
    by_cases z : b = T0
    · subst z
      rw [hT] at e; cases e
      rw [Heap.get?_update_self _ hT (Obj.isFreed_of_fields (Obj.data_mapFields hdT _)), map_same hdT h3]
    · rw [Heap.get?_update_other _ _ (Ne.symm z)]; exact e
  refine entry_ok (s := { s with heap := s.heap.update T0 (Obj.mapFields (·.setIfInBounds 3 Value.none)) }) hfr (hl.of_keeps fun b o e nf => ⟨o, same b o e, rfl⟩) hf (same x _ he) hsz fun h' T a b c d =>
    h h' T ⟨Nat.le_trans (Nat.le_of_eq (Heap.size_after_update ..).symm) a, b, fun b o e nb n2 => c b o (same b o e) nb n2, fun b o e nb => d b o (same b o e) nb⟩
end
end XC

set_option maxRecDepth 100000
set_option maxHeartbeats 4000000
namespace XC
open PySem PySem.W PySem.Calls PyProof.Rows
abbrev E0x : Value → Shared → Prop := fun _ _ => False
section
variable {M : Model} {A : Around} {E : Value → Shared → Prop} {env : Env} {s : Shared}
theorem matches_own {x C CH : Addr} {od : Option Addr} {vs : Array Value} {Q : Bool → Shared → Prop} (hC : ClsAt s.heap C) (hH : ClsAt s.heap CH) (hx : s.heap.get? x = some (excO C od vs))
    (hs : Looks M s.heap (isSubtype (.ref C) (.ref CH)) true) (hq : Q true s) : wpAny M A (excMatches (.ref x) (.ref CH)) Q E s := by
  obtain ⟨nm, q, N, bs, bm, hdct, sn, sub, ab, col, dd, k0, k1, k2, k3, k5, hC, hmr⟩ := hC
  obtain ⟨nm', q', N', bs', bm', hdct', sn', sub', ab', col', dd', l0, l1, l2, l3, l5, hH, hmr'⟩ := hH
  obtain ⟨_, hb', _⟩ := mro_types hmr'
  obtain ⟨hp, g, d, t, os⟩ := s
  have f := tc_notTuple
  unfold excMatches
  repeat (first
    | (with_reducible refine wpAny_loadPart_at hx ?_)
    | with_reducible refine wpAny_loadPart_at hH ?_
    | (with_reducible refine wpAny_isSubtype_exc hH ?_; rw [hb'])
    | with_reducible refine hs.at ?_
    | wp_step)
  exact hq
end
section
variable {prog : Program} {w : World} {A : Around} {E : Value → Shared → Prop} {s : Shared} {env : Env}
theorem handle_as {x : Addr} {CH C : Addr} {t : Expr} {n : Str} {b0 : Stmt} {suite : List Stmt} {pos : Pos} {rest : List ExceptHandler} {Q : Flow → Shared → Prop}
    (h : wpAny (model prog w) (A.mark (some (.ref x))) (eval t env) (fun c s₁ => c = .ref CH ∧ ClsAt s₁.heap C ∧ ClsAt s₁.heap CH ∧ (∃ od vs, s₁.heap.get? x = some (excO C od vs)) ∧ Looks (model prog w) s₁.heap (isSubtype (.ref C) (.ref CH)) true ∧
      wpAny (model prog w) (A.mark (some (.ref x))) (setFlight (.ref x) none) (fun _ s₂ =>
        wpAny (model prog w) (A.mark (some (.ref x))) (storeName env n (.ref x)) (fun _ s₃ =>
          wpAny (model prog w) (A.mark (some (.ref x))) (execs (b0 :: suite) env)
            (fun f s₄ => wpAny (model prog w) A (do bindName env n .none; unbindBehindTheSuite env n pos) (fun _ s₅ => Q f s₅) E s₄) E0x s₃) E0x s₂) E0x s₁) E0x s) :
    wpAny (model prog w) A (handleBy (.ref x) env (.ExceptHandler (some t) (some n) (b0 :: suite) pos :: rest)) Q E s := by
  refine wpAny_handleBy_cons (codeAny_handlers_test (wpAny_mono h (fun c s₁ h₁ => ?_) fun _ _ z => z.elim)) (by intro z; cases z)
  obtain ⟨rfl, hC, hH, ⟨od, vs, hx⟩, hs, hk⟩ := h₁
  refine matches_own hC hH hx hs ?_
  exact codeAny_handlers_suite_as (wpAny_mono hk (fun _ s₂ h₂ => wpAny_mono h₂ (fun _ s₃ h₃ => wpAny_mono h₃ (fun f s₄ h₄ => h₄) fun _ _ z => z.elim) fun _ _ z => z.elim) fun _ _ z => z.elim)
end
end XC

set_option Elab.async false
set_option linter.all false
set_option maxRecDepth 100000
set_option maxHeartbeats 4000000
/-! Exceptions in the hand layer: their objects in the abstract heap, made, given attributes, raised, passed on, caught. Own work. -/
namespace L2
open PySem PySem.Spec PyProof.Rows XC
/-- the dict of an exception -/
def dxO (dx : Addr) (fs : List (Str × V)) : HO := .ext fun h => ∃ mA, h.Ns1 dx mA ∧ (∀ f, RelO (fs.lookup f) (mA f)) ∧ PySem.Within mA (fs.map (·.1))
/-- an exception that is made, not raised -/
def exN (x C : Addr) (od : Option Addr) : HO := .ext fun h => ∃ t, h.get? x = some (newO C t od)
/-- an exception -/
def exO (x C : Addr) (od : Option Addr) : HO := .ext fun h => ∃ vs, h.get? x = some (excO C od vs) ∧ vs.size = 6
section
variable {P : Program} {w : World} {H : Hp} {h : Heap} {x C dx : Addr} {od : Option Addr} {fs : List (Str × V)}
theorem exN_ok {t : Addr} (e : h.get? x = some (newO C t od)) : ObjOk P w H h x (exN x C od) := ⟨⟨t, e⟩, ⟨_, e⟩, fun h1 h2 ⟨t, q⟩ k => ⟨t, k _ q⟩⟩
theorem exO_ok {vs : Array Value} (e : h.get? x = some (excO C od vs)) (hs : vs.size = 6) : ObjOk P w H h x (exO x C od) := ⟨⟨vs, e, hs⟩, ⟨_, e⟩, fun h1 h2 ⟨vs, q, z⟩ k => ⟨vs, k _ q, z⟩⟩
theorem dxO_ok {mA : Str → Option Value} (n : h.Ns1 dx mA) (r : ∀ f, RelO (fs.lookup f) (mA f)) (wi : PySem.Within mA (fs.map (·.1))) : ObjOk P w H h dx (dxO dx fs) :=
  ⟨⟨mA, n, r, wi⟩, let ⟨o, _, _, e, _⟩ := n; ⟨o, e⟩, fun h1 h2 ⟨mA, q, z⟩ k => ⟨mA, q.at k, z⟩⟩
theorem exN_get (ok : HOk P w H h) (e : H x = some (exN x C od)) : ∃ t, h.get? x = some (newO C t od) := (ok _ _ e).1
theorem exO_get (ok : HOk P w H h) (e : H x = some (exO x C od)) : ∃ vs, h.get? x = some (excO C od vs) ∧ vs.size = 6 := (ok _ _ e).1
theorem dxO_get (ok : HOk P w H h) (e : H dx = some (dxO dx fs)) : ∃ mA, h.Ns1 dx mA ∧ (∀ f, RelO (fs.lookup f) (mA f)) ∧ PySem.Within mA (fs.map (·.1)) := (ok _ _ e).1
end
section
variable {X : Cx} {pins : List (Addr × Obj)} {σ : St} {H : Hp} {s : Shared} {h' : Heap}
/-- one object written, one laid -/
theorem Inv.two {x dx : Addr} {o o2 : HO} {φ : Heap → Prop} {t' : Nat} (I : Inv X pins σ H s) (mu : H x = some (.ext φ)) (hdx : s.heap.objs.size ≤ dx) (k : ∀ b u, b ≠ x → s.heap.get? b = some u → h'.get? b = some u)
    (hx : ∃ u, h'.get? x = some u) (new1 : ObjOk X.prog X.w (upd (upd H dx o2) x o) h' x o) (new2 : ObjOk X.prog X.w (upd (upd H dx o2) x o) h' dx o2) : Inv X pins σ (upd (upd H dx o2) x o) { s with heap := h', toks := t' } := by
  have hdn : H dx = none := I.hok.fresh hdx
  have hne : dx ≠ x := fun z => by rw [z, mu] at hdn; cases hdn
  have kin : ∀ b u, H b = some u → b ≠ dx := fun b u e z => by rw [z, hdn] at e; cases e
  have same : ∀ b u, b ≠ x → H b = some u → upd (upd H dx o2) x o b = some u := fun b u nb e => by rw [upd_ne nb, upd_ne (kin b u e)]; exact e
  refine I.call' (ch := []) (s' := { s with heap := h', toks := t' }) rfl ⟨fun b ob e n _ _ => k b ob (fun z => by rw [z, mu] at n; cases n) e, fun b ob e n _ _ => ⟨ob.slots, k b ob (fun z => by rw [z, mu] at n; cases n) e⟩, fun b ob e n _ => ?_, fun b ob e _ => ?_, fun b xs e => ?_, fun b ob u e => ?_, fun b ps e => ⟨#[], ?_⟩⟩ (fun b u e => ?_) I.bare (fun b z => absurd z (by simp))
  · have n1 : b ≠ x := fun z => by rw [z, mu] at n; cases n
    have n2 : b ≠ dx := fun z => absurd (Heap.lt_size e) (by rw [z]; exact Nat.not_lt.mpr hdx)
    rw [upd_ne n1, upd_ne n2]; exact n
  · by_cases z : b = x
    · rw [z]; exact hx
    · exact ⟨ob, k b ob z e⟩
  · exact same b _ (fun z => by rw [z, mu] at e; cases e) e
  · exact same b _ (fun z => by rw [z, mu] at e; cases e) e
  · rw [Array.append_empty]; exact same b _ (fun z => by rw [z, mu] at e; cases e) e
  · by_cases z : b = x
    · subst z; rw [upd_same] at e; cases e; exact new1
    · rw [upd_ne z] at e
      by_cases z2 : b = dx
      · subst z2; rw [upd_same] at e; cases e; exact new2
      · rw [upd_ne z2] at e
        refine (I.hok b u e).stay (fun c v hc q => k c v (fun y => ?_) q) (fun c q => same c _ (fun y => by rw [y, mu] at q; cases q) q) fun c xs q => same c _ (fun y => by rw [y, mu] at q; cases q) q
        rcases hc with hc | hc
        · exact z (hc.symm.trans y)
        · rw [y, mu] at hc; cases hc
end
end L2

set_option Elab.async false
set_option linter.all false
set_option maxRecDepth 100000
set_option maxHeartbeats 4000000
/-! Exceptions in the hand layer: what an own __init__ does. Own work. -/
namespace L2
open PySem PySem.Spec PyProof.Rows XC
theorem upd_eq {H : Hp} {a : Addr} {o : HO} (h : H a = some o) : upd H a o = H := by
  funext b
  by_cases e : b = a
  · rw [e, upd_same, h]
  · rw [upd_ne e]
theorem _root_.XC.ECls.mro {K : PySem.W.Frag} {C : Addr} (c : ECls K C) : PySem.W.mroIn K C (.type "ValueError") = some true ∧ PySem.W.mroIn K C (.type "BaseException") = some true := by
  obtain ⟨cd, hc, ho, _⟩ := c.cls
  obtain ⟨a, b, _⟩ := mro_types ho
  have ne := (exc_has ho).2
  unfold PySem.W.mroIn
  rw [hc, Option.bind_some, Option.bind_some, if_neg (by rw [ne]; decide), if_neg (by rw [ne]; decide), a, b]
  exact ⟨rfl, rfl⟩
def tVI (K : PySem.W.Frag) (t : TA) : TE := fun σ H Q => t σ H fun vs H1 => ∃ x C u, vs = [.ref x, u] ∧ H1 x = some (exN x C none) ∧ ECls K C ∧ Q .non H1
theorem bt_ValueError : bootBuiltins "ValueError" = some (.type "ValueError") := by decide +kernel
section
variable {X : Cx} {p pos apos pos' tpos : Pos} {e o value : Expr} {es : List Expr} {t : TA} {ta tv : TE} {f : Str}
theorem pe_vinit {pl : Sem Bool} (hg : Gl X "ValueError") (hm : X.mg "ValueError" = none) (hfc : PySem.W.findCls X.K (.type "ValueError") (.type "type") "__init__" = some (.val (.builtin "ValueError.__init__"))) (ha : PA X (e :: es) t)
    (hst : starEach (e :: es) X.env = (false, eval e X.env) :: starEach es X.env := by rfl) (hpl : (backTo pos (starEach es X.env)).any (·.1) = false := by rfl)
    (ht : eval (.Call (.Attribute (.Name "ValueError" p) "__init__" apos) (e :: es) [] pos) X.env = (do
      let ov ← eval (.Name "ValueError" p) X.env
      standAt apos.atName
      let (f, first) ← holding [ov] (getMethod ov "__init__" pl)
      callWith pos f first (backTo pos (starEach (e :: es) X.env)) (backToKw pos (keywordEach [] X.env))) := by rfl) :
    PE X (.Call (.Attribute (.Name "ValueError" p) "__init__" apos) (e :: es) [] pos) (tVI X.K t) := by
  intro pins s σ H Q I h
  refine PySem.W.methodCall_KW (pl := pl) (ld_blt I hg hm bt_ValueError ?_) ht
  obtain ⟨m, fr⟩ := I.fr
  refine PySem.W.method_type fr I.ok.mod.kin (by kernel_rfl) (by decide +kernel) hfc (by rfl) ?_
  have I2 := I.tok (s.toks + 1)
  refine PyProof.Rows.callWith_builtin1 (thn (ha pos pins _ σ H _ I2 h) fun us s2 ⟨vs, H2, I3, r, q⟩ => ?_) hst hpl
  obtain ⟨x, C, u, rfl, hx, c, q⟩ := q
  obtain ⟨v1, v2, rfl, r1, r2⟩ := vals2 r
  cases r1
  obtain ⟨t0, hx0⟩ := exN_get I3.hok hx
  obtain ⟨cd, hc, _, _⟩ := c.cls
  refine exc_init I3.kIn hx0 c.mro.1 hc fun h' t1 k e1 => ⟨.non, H2, ?_, rfl, q⟩
  have := I3.write (x := x) (e := x) (o := exN x C none) (t' := s2.toks) (by rw [hx]; exact True.intro) (.inl rfl) (fun b u nb e => k b u nb e) ⟨_, e1⟩ (exN_ok e1)
  rw [upd_eq hx] at this
  exact this
def sFldX (K : PySem.W.Frag) (ta tv : TE) (f : Str) : TS := fun D σ H => tv σ H fun y H1 => ta σ H1 fun v H2 => ∃ x C, v = .ref x ∧ ECls K C ∧ PySem.W.takerIn K C f = some none ∧
  ((H2 x = some (exN x C none) ∧ ∀ dx, H2 dx = none → dx ≠ x → D.nx σ (upd (upd H2 dx (dxO dx [(f, y)])) x (exN x C (some dx)))) ∨
   ∃ dx fs, H2 x = some (exN x C (some dx)) ∧ H2 dx = some (dxO dx fs) ∧ dx ≠ x ∧ fs.length < 1000 ∧ D.nx σ (upd H2 dx (dxO dx (putF f y fs))))
theorem ps_fldX (ha : PE X o ta) (hv : PE X value tv) (hs : swapsWith value (some (.Attribute o f pos')) pos.line X.env = pure false) : PS X (.Assign [.Attribute o f pos'] value pos) (sFldX X.K ta tv f) := by
  intro pins s σ H D I h
  refine plainObj_wpAny_Assign_Attribute (thn (hv pins s σ H _ I h) fun u s1 ⟨y, H1, I1, ry, q⟩ => thn (ha pins s1 σ H1 _ I1 q) fun ov s2 ⟨v, H2, I2, rx, x, C, ev, c, htk, q2⟩ => ?_) hs
  subst ev
  obtain rfl : ov = Value.ref x := rx
  rcases q2 with ⟨hx, q2⟩ | ⟨dx, fs, hx, hdx, hne, hl, q2⟩
  · obtain ⟨t0, hx0⟩ := exN_get I2.hok hx
    refine exc_set1 I2.kIn c hx0 htk fun h' dx hdx k e1 n1 => ⟨σ, _, I2.two (o := exN x C (some dx)) (o2 := dxO dx [(f, y)]) hx (Nat.le_of_eq hdx) (fun b u nb e => k b u nb e) ⟨_, e1⟩ (exN_ok e1) (dxO_ok n1 (fun g => ?_) (fun g hg => ?_)), q2 dx (I2.hok.fresh (Nat.le_of_eq hdx)) ?_⟩
    · show RelO (List.lookup g [(f, y)]) (if g = f then some u else none)
      by_cases e : g = f
      · subst e; simp [List.lookup]; exact ry
      · rw [if_neg e]
        have : (g == f) = false := beq_false_of_ne e
        simp [List.lookup, this, RelO]
    · by_cases e : g = f
      · rw [e]; exact List.mem_cons_self
      · exact absurd (show (if g = f then some u else none) = none from if_neg e) hg
    · intro z
      have := Heap.lt_size hx0
      rw [← z, ← hdx] at this
      exact absurd this (Nat.lt_irrefl _)
  · obtain ⟨t0, hx0⟩ := exN_get I2.hok hx
    obtain ⟨mA, n0, r0, w0⟩ := dxO_get I2.hok hdx
    refine exc_set2 I2.kIn c hx0 n0 hne htk w0 (by rw [List.length_map, sizeLine_eq]; omega) fun h' k n1 => ⟨σ, _, I2.write (x := dx) (e := dx) (o := dxO dx (putF f y fs)) (by rw [hdx]; exact True.intro) (.inl rfl) (fun b u nb e => k b u nb e) (let ⟨o, _, _, e, _⟩ := n1; ⟨o, e⟩) (dxO_ok n1 (fun g => ?_) (fun g hg => ?_)), q2⟩
    · show RelO ((putF f y fs).lookup g) (if g = f then some u else mA g)
      rw [lookup_putF]
      by_cases e : g = f
      · rw [if_pos e, if_pos e]; exact ry
      · rw [if_neg e, if_neg e]; exact r0 g
    · by_cases e : g = f
      · rw [e]; exact (keys_putF f y fs).1
      · refine (keys_putF f y fs).2 g (w0 g fun z => hg ?_)
        show (if g = f then some u else mA g) = none
        rw [if_neg e]; exact z
end
end L2

set_option Elab.async false
set_option linter.all false
set_option maxRecDepth 100000
set_option maxHeartbeats 4000000
/-! Exceptions in the hand layer: they leave a def, and pass through its callers. Own work. -/
namespace L2
open PySem PySem.Spec PyProof.Rows XC
/-- how an exception lies behind a call: its class and its object are told to the wish -/
def CXE (P : Program) (w : World) : CXT := fun outer H s E ev s' => ∃ (x C T : Addr) (od : Option Addr) (H' : Hp), ev = .ref x ∧ s'.os = s.os ∧ AllBare s'.gens ∧ Un (frs outer) [] H H' s.heap s'.heap ∧ HOk P w H' s'.heap ∧
  H' x = some (exO x C od) ∧ Fly s'.heap x C od T ∧ H' T = none ∧ s.heap.objs.size ≤ x ∧ s.heap.objs.size ≤ T ∧ E (.ref C) (some x) H'
section
variable {P : Program} {w : World} {K : PySem.W.Frag} {mg : Str → Option Value} {base : Heap} {N : List Str} {qual : Str} {scope : Scope} {f : Addr} {cd : Value} {A : Around} {outer : List Env} {s : Shared} {H : Hp} {E : XK}
theorem lft_end {pins : List (Addr × Obj)} {σ : St} {H1 : Hp} {s1 : Shared} {h' : Heap} {x C T : Addr} {od : Option Addr} {φ : Heap → Prop} (I : Inv (cxOf (CXE P w) P w K mg base N qual scope f cd A outer s H E) pins σ H1 s1)
    (hx : H1 x = some (.ext φ)) (hxs : s.heap.objs.size ≤ x) (lf : Lft (envOfC qual scope s.heap.objs.size f cd) outer x C od T s1.heap h')
    (hE : E (.ref C) (some x) (upd H1 x (exO x C od))) : CXE P w outer H s E (.ref x) { s1 with heap := h' } := by
  obtain ⟨hT, fly, kp, sl⟩ := lf
  have hsz : s.heap.objs.size ≤ s1.heap.objs.size := I.sz
  have stk : ∀ b ∈ frsE (envOfC qual scope s.heap.objs.size f cd :: outer), H1 b = none := I.stkFree
  have hTn : H1 T = none := I.hok.fresh hT
  have nx : ∀ b u, H1 b = some u → b ≠ x → upd H1 x (exO x C od) b = some u := fun b u e nb => by rw [upd_ne nb]; exact e
  have trk : ∀ c u v, H1 c = some v → s1.heap.get? c = some u → c ≠ x → h'.get? c = some u := fun c u v e q nc =>
    kp c u q nc (fun z => by rw [stk c z] at e; cases e)
  have old : ∀ b o, s.heap.get? b = some o → b ≠ x ∧ b ≠ s.heap.objs.size := fun b o e =>
    ⟨fun z => absurd (Heap.lt_size e) (by rw [z]; exact Nat.not_lt.mpr hxs), fun z => absurd (Heap.lt_size e) (by rw [z]; exact Nat.lt_irrefl _)⟩
  have fsub : ∀ b, b ∉ frs outer → b ≠ s.heap.objs.size → b ∉ frsE (envOfC qual scope s.heap.objs.size f cd :: outer) := fun b nf nl z => by
    unfold frsE at z
    rw [List.filterMap_cons] at z
    rcases List.mem_cons.mp z with z | z
    · exact nl z
    · exact nf z
  refine ⟨x, C, T, od, upd H1 x (exO x C od), rfl, I.os, I.bare, ⟨fun b o e n nf _ => ?_, fun b o e n mf _ => ?_, fun b o e n _ => ?_, fun b o e _ => ?_, fun b xs e => ?_, fun b o u e => ?_, fun b ps e => ?_⟩, fun b u e => ?_, upd_same, fly, ?_, hxs, Nat.le_trans hsz hT, hE⟩
  · obtain ⟨n1, n3⟩ := old b o e
    exact kp b o (I.base.keep b o e n nf (by simp [cxOf])) n1 (fsub b nf n3)
  · obtain ⟨n1, n3⟩ := old b o e
    obtain ⟨s2, e2⟩ := I.base.slot b o e n mf (by simp [cxOf])
    obtain ⟨s3, e3⟩ := sl b _ e2 n1
    exact ⟨s3, e3⟩
  · rw [upd_ne (old b o e).1]
    exact I.base.free b o e n (by simp [cxOf])
  · obtain ⟨n1, n3⟩ := old b o e
    obtain ⟨o2, e2⟩ := I.base.there b o e (by simp [cxOf])
    obtain ⟨s3, e3⟩ := sl b _ e2 n1
    exact ⟨_, e3⟩
  · have := I.base.tups b xs e
    exact nx b _ this (fun z => by rw [z, hx] at this; cases this)
  · have := I.base.frzs b o u e
    exact nx b _ this (fun z => by rw [z, hx] at this; cases this)
  · obtain ⟨more, this⟩ := I.base.tbls b ps e
    exact ⟨more, nx b _ this (fun z => by rw [z, hx] at this; cases this)⟩
  · by_cases z : b = x
    · subst z
      rw [upd_same] at e
      cases e
      obtain ⟨vs, e1, e2, _⟩ := fly.ob
      exact exO_ok e1 e2
    · rw [upd_ne z] at e
      refine (I.hok b u e).stay (fun c v hc q => ?_) (fun c q => nx c _ q (fun y => by rw [y, hx] at q; cases q)) fun c xs q => nx c _ q (fun y => by rw [y, hx] at q; cases q)
      rcases hc with hc | hc
      · rw [hc] at q ⊢; exact trk b v _ e q z
      · exact trk c v _ hc q (fun y => by rw [y, hx] at hc; cases hc)
  · rw [upd_ne fly.ne]; exact hTn
/-- a new exception leaves the def -/
theorem xe_new {pins : List (Addr × Obj)} {σ : St} {H1 : Hp} {s1 : Shared} {x C : Addr} {od : Option Addr} (I : Inv (cxOf (CXE P w) P w K mg base N qual scope f cd A outer s H E) pins σ H1 s1)
    (hx : H1 x = some (exN x C od)) (hxs : s.heap.objs.size ≤ x) (hE : E (.ref C) (some x) (upd H1 x (exO x C od))) : (cxOf (CXE P w) P w K mg base N qual scope f cd A outer s H E).xe (.ref x) s1 := by
  obtain ⟨t, e⟩ := exN_get I.hok hx
  exact wpAny_bind (note_first (C := C) (od := od) I.ok.frames I.stack rfl e rfl rfl fun h' T lf => lft_end I hx hxs lf hE)
/-- an exception of a callee leaves the def too -/
theorem pass_on : Passes (CXE P w) (cxOf (CXE P w) P w K mg base N qual scope f cd A outer s H E) E := by
  intro pins σ H0 s0 ev s1 I h
  obtain ⟨x, C, T, od, H', rfl, os, bare, un, hok, hx, fly, hT, z1, z2, hE⟩ := h
  have I1 : Inv (cxOf (CXE P w) P w K mg base N qual scope f cd A outer s H E) pins σ H' s1 := I.call' (ch := []) os un hok bare (fun b z => absurd z (by simp))
  refine wpAny_bind (note_next I1.ok.frames I1.stack rfl fly fun h' T' lf => ?_)
  have hs : s.heap.objs.size ≤ s0.heap.objs.size := I.sz
  refine lft_end I1 hx (Nat.le_trans hs z1) lf ?_
  rw [upd_eq hx]; exact hE
end
end L2

set_option Elab.async false
set_option linter.all false
set_option maxRecDepth 100000
set_option maxHeartbeats 4000000
/-! Exceptions in the hand layer: C(..) and raise C(..). Own work. -/
namespace L2
open PySem PySem.Spec PyProof.Rows XC
/-- what a class of exceptions must have to be made: f its __init__ -/
structure MkE (K : PySem.W.Frag) (C f : Addr) : Prop where
  c : ECls K C
  at_ : ∃ nm q N bs bm hdct sn sub ab col dd k0 k1 k2 k3 k5, K.lookup C = some (excClassObj nm q C N bs bm hdct sn sub ab col dd k0 k1 k2 k3 k5 "ValueError.__new__") ∧ excMro (.ref C :: bm) = true
  init : PySem.W.findIn K (.ref C) "__init__" = some (some (.ref f))
  fn : PySem.W.isFn K (.ref f) = true
  kp : PySem.W.keepIn K (.ref C) = true
theorem MkE.cls {K : PySem.W.Frag} {C f : Addr} {h : Heap} (m : MkE K C f) (X : K.In h) : ClsAt h C := by
  obtain ⟨nm, q, N, bs, bm, hdct, sn, sub, ab, col, dd, k0, k1, k2, k3, k5, e, e2⟩ := m.at_
  exact ⟨nm, q, N, bs, bm, hdct, sn, sub, ab, col, dd, k0, k1, k2, k3, k5, X _ _ e, e2⟩
section
variable {X : Cx} {CX : CXT} {k : Nat} {f C : Addr} {fd : FuncData} {ps : List Str} {sp : Sp} {dvs : List V} {ds : List Value} {E EE : XK} {x m : Str} {p pos cpos : Pos} {e : Expr} {es : List Expr} {t : TA}
theorem Inv.madeE {pins : List (Addr × Obj)} {σ : St} {H : Hp} {s : Shared} {us : List Value} (I : Inv X pins σ H s) :
    Inv X pins σ (upd H (s.heap.objs.size + 1) (exN (s.heap.objs.size + 1) C none)) { s with heap := (s.heap.push { cls := .type "tuple", data := .seq us.toArray }).push (newO C s.heap.objs.size none) } := by
  have e2 : ((s.heap.push { cls := .type "tuple", data := .seq us.toArray }).push (newO C s.heap.objs.size none)).get? (s.heap.objs.size + 1) = some (newO C s.heap.objs.size none) := by
    have := Heap.get?_push_size (s.heap.push { cls := .type "tuple", data := .seq us.toArray }) (o := newO C s.heap.objs.size none) rfl
    rwa [Heap.size_push] at this
  exact I.laid (a := s.heap.objs.size + 1) (o := exN (s.heap.objs.size + 1) C none) (t' := s.toks) (fun b u q => Heap.get?_push_of_some _ (Heap.get?_push_of_some _ q)) (Nat.le_succ _) (exN_ok e2)
/-- C(..) of a class of exceptions -/
theorem run_makeE {pins : List (Addr × Obj)} {σ : St} {H : Hp} {s : Shared} {Q : VK} {us : List Value} {vs : List V} (M : MkE X.K C f) (F : FnOk X.prog X.w X.K X.mg X.base CX k f fd ps sp) (hr : Room (k + 1) X.A) (hb : Binds X.K fd ps ds) (hd : Vals dvs ds) (hx : Passes CX X E)
    (hlen : us.length ≤ sizeLine) (I : Inv X pins σ H s) (r : Vals vs us)
    (h : ∀ x, H x = none → s.heap.objs.size ≤ x → sp (.ref x :: (vs ++ dvs)) (upd H x (exN x C none)) (fun v H2 => v = .non ∧ Q (.ref x) H2) E) :
    wpAny (model X.prog X.w) X.A (call (.ref C) us) (fun u s' => u = .ref (s.heap.objs.size + 1) ∧ EP X pins σ Q u s') X.xe s := by
  have hq := h (s.heap.objs.size + 1) (I.hok.fresh (Nat.le_succ _)) (Nat.le_succ _)
  have I2 := Inv.madeE (C := C) (us := us) I
  have r2 : Vals (V.ref (s.heap.objs.size + 1) :: (vs ++ dvs)) (Value.ref (s.heap.objs.size + 1) :: (us ++ ds)) := .cons rfl (r.append hd)
  have hl : (Value.ref (s.heap.objs.size + 1) :: us ++ ds).length = ps.length := by
    have e := r2.length
    rw [F.len _ _ _ _ hq] at e
    exact e.symm
  obtain ⟨nm, q, N, bs, bm, hdct, sn, sub, ab, col, dd, k0, k1, k2, k3, k5, hC, hmr⟩ := M.cls I.kIn
  have kin := I.kIn
  obtain ⟨hp, g, d, tk, os⟩ := s
  refine exc_call (fI := f) kin hC hmr hlen M.init (beq_iff_eq.mp M.fn) (wpAny_call (codeAny_mono (F.run _ X.stack _ _ ⟨Value.ref (hp.objs.size + 1) :: us, []⟩ (Value.ref (hp.objs.size + 1) :: (us ++ ds)) _ _ E (hr.make C us [])
    (I2.env0.make C us []) (hb _ (Value.ref (hp.objs.size + 1) :: us) I2.kIn hl) r2 hq) fun r s' hq' => ?_))
  cases r with
  | error e => exact hx pins σ _ _ e s' I2 hq'
  | ok fl =>
    cases fl with
    | ret u =>
      obtain ⟨v, H', I3, rv, ev, q3⟩ := I2.after hq'
      subst ev
      exact ⟨rv, rfl, ⟨V.ref (hp.objs.size + 1), H', I3, rfl, q3⟩⟩
    | next => exact False.elim hq'
    | brk => exact False.elim hq'
    | cont => exact False.elim hq'
def tMakeE (C : Addr) (sp : Sp) (dvs : List V) (E : XK) (t : TA) : TE := fun σ H Q => t σ H fun vs H1 => ∀ x, H1 x = none → sp (.ref x :: (vs ++ dvs)) (upd H1 x (exN x C none)) (fun v H2 => v = .non ∧ Q (.ref x) H2) E
theorem pe_makeE (M : MkE X.K C f) (F : FnOk X.prog X.w X.K X.mg X.base CX k f fd ps sp) (hr : Room (k + 1) X.A) (hg : Gl X x) (hm : X.mg x = some (.ref C)) (hb : Binds X.K fd ps ds) (hd : Vals dvs ds) (hx : Passes CX X E)
    (ha : PA X (e :: es) t) (hps : ps.length ≤ 1000 := by decide) (hdb : (x == ("__debug__" : Str)) = false := by decide) (he : starEach (e :: es) X.env = (false, eval e X.env) :: starEach es X.env := by rfl) (hpl : (backTo pos (starEach es X.env)).any (·.1) = false := by rfl) :
    PE X (.Call (.Name x p) (e :: es) [] pos) (tMakeE C sp dvs E t) := by
  intro pins s σ H Q I h
  refine wpAny_Call_Name_kw (ld_glob I hg hm ?_ hdb)
  refine PySem.W.callWith_K (h₀ := X.base) I.ok.mod.kin M.kp (thn (ha pos pins s σ H _ I h) fun us s1 ⟨vs, H1, I1, r, q⟩ => ⟨I1.kIn, ?_⟩) he hpl
  have hl : us.length ≤ sizeLine := by
    have h1 := F.len _ _ _ _ (q _ (I1.hok.fresh (Nat.le_refl _)))
    have h2 := r.length
    rw [List.length_cons, List.length_append] at h1
    rw [sizeLine_eq]; omega
  exact thn (run_makeE M F hr hb hd hx hl I1 r fun x a _ => q x a) fun _ _ z => z.2
/-- the wish of a body's exceptions, kept by a new one -/
def NewX (X : Cx) (C : Addr) (EE : XK) : Prop := ∀ (pins : List (Addr × Obj)) (σ : St) (H1 : Hp) (s1 : Shared) (x : Addr) (od : Option Addr), Inv X pins σ H1 s1 → H1 x = some (exN x C od) → X.s₀.heap.objs.size ≤ x → EE (.ref C) (some x) (upd H1 x (exO x C od)) → X.xe (.ref x) s1
def rsQ (C : Addr) (EE : XK) : VK := fun u H2 => ∃ y od, u = .ref y ∧ H2 y = some (exN y C od) ∧ EE (.ref C) (some y) (upd H2 y (exO y C od))
def sRaise (C : Addr) (sp : Sp) (dvs : List V) (EE : XK) (t : TA) : TS := fun _ σ H => t σ H fun vs H1 => ∀ x, H1 x = none → sp (.ref x :: (vs ++ dvs)) (upd H1 x (exN x C none)) (fun v H2 => v = .non ∧ rsQ C EE (.ref x) H2) E0
theorem ps_raise (hn : NewX X C EE) (hcm : X.calm = true) (M : MkE X.K C f) (F : FnOk X.prog X.w X.K X.mg X.base CX0 k f fd ps sp) (hr : Room (k + 1) X.A) (hg : Gl X x) (hm : X.mg x = some (.ref C)) (hb : Binds X.K fd ps ds) (hd : Vals dvs ds)
    (ha : PA X (e :: es) t) (hps : ps.length ≤ 1000 := by decide) (hdb : (x == ("__debug__" : Str)) = false := by decide) (he : starEach (e :: es) X.env = (false, eval e X.env) :: starEach es X.env := by rfl) (hpl : (backTo cpos (starEach es X.env)).any (·.1) = false := by rfl) :
    PS X (.Raise (some (.Call (.Name x p) (e :: es) [] cpos)) none pos) (sRaise C sp dvs EE t) := by
  intro pins s σ H D I h
  refine raise_exec (I.ok.hd hcm) (wpAny_Call_Name_kw (ld_glob I hg hm ?_ hdb))
  refine PySem.W.callWith_K (h₀ := X.base) I.ok.mod.kin M.kp (thn (ha cpos pins s σ H _ I h) fun us s1 ⟨vs, H1, I1, r, q⟩ => ⟨I1.kIn, ?_⟩) he hpl
  have hl : us.length ≤ sizeLine := by
    have h1 := F.len _ _ _ _ (q _ (I1.hok.fresh (Nat.le_refl _)))
    have h2 := r.length
    rw [List.length_cons, List.length_append] at h1
    rw [sizeLine_eq]; omega
  refine thn (run_makeE (Q := rsQ C EE) M F hr hb hd pass0 hl I1 r fun x a _ => q x a) ?_
  rintro u s2 ⟨hu, hq⟩
  obtain ⟨v, H2, I2, rv, x, od, rfl, hx, hE⟩ := hq
  obtain rfl : u = Value.ref x := rv
  have hz : x = s1.heap.objs.size + 1 := by cases hu; rfl
  obtain ⟨t0, e0⟩ := exN_get I2.hok hx
  exact ⟨x, C, od, _, rfl, M.cls I2.kIn, e0, rfl, hn pins σ H2 s2 x od I2 hx (by rw [hz]; exact Nat.le_trans I1.sz (Nat.le_succ _)) hE⟩
end
end L2

set_option Elab.async false
set_option linter.all false
set_option maxRecDepth 100000
set_option maxHeartbeats 4000000
/-! Exceptions in the hand layer: a call that may raise; try: f(..), except C as n. Own work. -/
namespace L2
open PySem PySem.Spec PyProof.Rows XC
/-- an exception has come: as XK wishes it -/
def XP (X : Cx) (pins : List (Addr × Obj)) (σ : St) (EE : XK) (ev : Value) (s' : Shared) : Prop := ∃ (x C T : Addr) (od : Option Addr) (H' : Hp), ev = .ref x ∧ Inv X pins σ H' s' ∧ H' x = some (exO x C od) ∧ Fly s'.heap x C od T ∧ EE (.ref C) (some x) H'
abbrev TX := St → Hp → VK → XK → Prop
/-- an expression that may raise -/
def PX (X : Cx) (e : Expr) (t : TX) : Prop := ∀ (pins : List (Addr × Obj)) (s : Shared) (σ : St) (H : Hp) (Q : VK) (EE : XK), Inv X pins σ H s → t σ H Q EE → wpAny (model X.prog X.w) X.A (eval e X.env) (EP X pins σ Q) (XP X pins σ EE) s
section
variable {X : Cx} {k : Nat} {f : Addr} {fd : FuncData} {ps : List Str} {sp : Sp} {dvs : List V} {ds : List Value} {x : Str} {p pos : Pos} {e : Expr} {es : List Expr} {t : TA}
theorem run_fnX {pins : List (Addr × Obj)} {σ : St} {H : Hp} {s : Shared} {Q : VK} {EE : XK} {us : List Value} {vs : List V} (F : FnOk X.prog X.w X.K X.mg X.base (CXE X.prog X.w) k f fd ps sp) (hr : Room k X.A) (hb : Binds X.K fd ps ds) (hd : Vals dvs ds)
    (I : Inv X pins σ H s) (r : Vals vs us) (h : sp (vs ++ dvs) H Q EE) : wpAny (model X.prog X.w) X.A (call (.ref f) us) (EP X pins σ Q) (XP X pins σ EE) s := by
  have r2 : Vals (vs ++ dvs) (us ++ ds) := r.append hd
  have hl : (us ++ ds).length = ps.length := by rw [← r2.length]; exact F.len _ _ _ _ h
  refine wpAny_call (codeAny_mono (F.run X.A X.stack s H ⟨us, []⟩ (us ++ ds) (vs ++ dvs) Q EE hr I.env0 (hb s us I.kIn hl) r2 h) fun r s' hq => ?_)
  cases r with
  | error e =>
    obtain ⟨y, C, T, od, H', rfl, os, bare, un, hok, hx, fly, hT, z1, z2, hE⟩ := hq
    exact ⟨y, C, T, od, H', rfl, I.call' (ch := []) os un hok bare (fun b z => absurd z (by simp)), hx, fly, hE⟩
  | ok fl =>
    cases fl with
    | ret u => exact I.after hq
    | next => exact False.elim hq
    | brk => exact False.elim hq
    | cont => exact False.elim hq
def tCallX (sp : Sp) (dvs : List V) (t : TA) : TX := fun σ H Q EE => t σ H fun vs H1 => sp (vs ++ dvs) H1 Q EE
end
/-! ### in the handler -/
abbrev Cx.hold (X : Cx) (x : Addr) : Cx := { X with A := X.A.mark (some (.ref x)), calm := false, xe := fun _ _ => False }
section
variable {X : Cx} {pins : List (Addr × Obj)} {σ : St} {H : Hp} {s : Shared} {x : Addr}
theorem Cx.Ok.hold (ok : X.Ok) (x : Addr) : (X.hold x).Ok :=
  ⟨ok.mod, ok.kind, ok.glob, ok.blt, ok.above, ok.inj, ok.has, ok.cab, (fun z => nomatch z), ok.frames, ok.stk, ok.exf, ok.bs, ok.bsz, ok.noex, ok.exfs, ok.funs, ok.frf⟩
theorem Inv.hold (I : Inv X pins σ H s) (x : Addr) : Inv (X.hold x) pins σ H s := ⟨I.ok.hold x, I.os, I.bare, I.base, I.loc, I.cell, I.free, I.freeC, I.pin, I.hok, I.len⟩
theorem Inv.unhold (ok : X.Ok) (I : Inv (X.hold x) pins σ H s) : Inv X pins σ H s := ⟨ok, I.os, I.bare, I.base, I.loc, I.cell, I.free, I.freeC, I.pin, I.hok, I.len⟩
/-- behind the note of a frame -/
theorem Inv.lft {h' : Heap} {C T : Addr} {od : Option Addr} {outer : List Env} (I : Inv X pins σ H s) (hst : X.stack = X.env :: outer) (hx : H x = some (exO x C od)) (lf : Lft X.env outer x C od T s.heap h') : Inv X pins σ H { s with heap := h' } := by
  obtain ⟨hT, fly, kp, sl⟩ := lf
  have stk : ∀ b ∈ frsE (X.env :: outer), H b = none := by rw [← hst]; exact I.stkFree
  have tr : ∀ c u v, H c = some v → s.heap.get? c = some u → c ≠ x → h'.get? c = some u := fun c u v e q nc => kp c u q nc (fun z => by rw [stk c z] at e; cases e)
  refine I.call' (ch := []) (s' := { s with heap := h' }) rfl ⟨fun b o e n nf _ => kp b o e (fun z => by rw [z, hx] at n; cases n) (by rw [hst] at nf; exact nf), fun b o e n _ _ => sl b o e (fun z => by rw [z, hx] at n; cases n), fun b o e n _ => n, fun b o e _ => ?_, fun b xs e => e, fun b o u e => e, fun b ps e => ⟨#[], by rw [Array.append_empty]; exact e⟩⟩ (fun b u e => ?_) I.bare (fun b z => absurd z (by simp))
  · by_cases z : b = x
    · obtain ⟨vs, e1, _⟩ := fly.ob
      rw [z]; exact ⟨_, e1⟩
    · obtain ⟨s2, e2⟩ := sl b o e z
      exact ⟨_, e2⟩
  · by_cases z : b = x
    · subst z
      rw [hx] at e
      cases e
      obtain ⟨vs, e1, e2, _⟩ := fly.ob
      exact exO_ok e1 e2
    · refine (I.hok b u e).stay (fun c v hc q => ?_) (fun c q => q) fun c xs q => q
      rcases hc with hc | hc
      · rw [hc] at q ⊢; exact tr b v _ e q z
      · exact tr c v _ hc q (fun y => by rw [y, hx] at hc; cases hc)
end
end L2

set_option Elab.async false
set_option linter.all false
set_option maxRecDepth 100000
set_option maxHeartbeats 4000000
/-! Exceptions in the hand layer: try: f(..), except C as n. Own work. -/
namespace L2
open PySem PySem.Spec PyProof.Rows XC
section
variable {X : Cx} {pins : List (Addr × Obj)} {σ : St} {H : Hp} {s : Shared}
/-- the locals are changed -/
theorem Inv.locs {σ' : St} {h' : Heap} {m' : Str → Option Value} {t' : Nat} (I : Inv X pins σ H s) (hn : h'.Ns X.env.locals m') (hs : Heap.SameBut X.env.locals s.heap h') (hl : σ'.length = σ.length)
    (lk : ∀ m, s.heap.Ns X.env.locals m → (∀ (i : Nat) (x : Str) (v : V), X.N[i]? = some x → σ[i]? = some (some v) → Vis X.env.scope x → ∃ u, RelV v u ∧ Look X.env s.heap m x u) → ∀ (i : Nat) (x : Str) (v : V), X.N[i]? = some x → σ'[i]? = some (some v) → Vis X.env.scope x → ∃ u, RelV v u ∧ Look X.env h' m' x u) :
    Inv X pins σ' H { s with heap := h', toks := t' } := by
  obtain ⟨m, hm, hlk⟩ := id I.loc
  have ab : ∀ b o, X.s₀.heap.get? b = some o → b ≠ X.env.locals := fun b o e => Nat.ne_of_lt (Nat.lt_of_lt_of_le (Heap.lt_size e) I.ok.above)
  have ne : ∀ b u, H b = some u → b ≠ X.env.locals := fun b u e z => by rw [z, I.free] at e; cases e
  refine ⟨I.ok, I.os, I.bare, ⟨fun b o e n hb hx => (hs.2 b (ab b o e)).trans (I.base.keep b o e n hb hx), fun b o e n hb hx => ?_, I.base.free, fun b o e hx => ?_, I.base.tups, I.base.frzs, I.base.tbls⟩, ⟨m', hn, lk m hm hlk⟩, fun y c e => ?_, I.free, I.freeC, fun p hp => ?_, fun b u e => ?_, hl.trans I.len⟩
  · obtain ⟨sl, e1⟩ := I.base.slot b o e n hb hx
    exact ⟨sl, (hs.2 b (ab b o e)).trans e1⟩
  · obtain ⟨o', e1⟩ := I.base.there b o e hx
    exact ⟨o', (hs.2 b (ab b o e)).trans e1⟩
  · obtain ⟨v, o, ho, hd⟩ := I.cell y c e
    exact ⟨v, o, (hs.2 c (I.cne y c e)).trans ho, hd⟩
  · obtain ⟨a1, a2, a3, a4⟩ := I.pin p hp
    exact ⟨(hs.2 p.1 a3).trans a1, a2, a3, a4⟩
  · refine (I.hok b u e).stay (fun c v hc q => (hs.2 c ?_).trans q) (fun _ q => q) fun _ _ q => q
    rcases hc with hc | hc
    · rw [hc]; exact ne b u e
    · exact ne c _ hc
/-- the name of an except clause goes -/
theorem name_goes {M : Model} {A : Around} {E : Value → Shared → Prop} {i : Nat} {n : Str} {pos : Pos} {Q : Unit → Shared → Prop} (I : Inv X pins σ H s) (hN : X.N.Nodup) (hi : X.N[i]? = some n) (hl : X.env.kindOf n = some .local)
    (h : ∀ s', Inv X pins (σ.set i none) H s' → Q () s') : wpAny M A (do bindName X.env n .none; unbindBehindTheSuite X.env n pos) Q E s := by
  obtain ⟨m, hn, _⟩ := id I.loc
  have hp : (X.env.scope.kind == .class || (X.env.scope.kind == .module && X.env.locals != X.env.globals)) = false := by rw [I.ok.kind]; rfl
  refine wpAny_bind (wpAny_bindName (wpAny_storeName_local hl hn (fun h1 hn1 hs1 => ?_) hp))
  unfold unbindBehindTheSuite
  refine wpAny_onRaise ?_
  unfold unbindName
  refine wpAny_bind (wpAny_point (wpAny_bind ?_))
  unfold deleteName
  simp only [hl, hp]
  rw [if_neg (by decide)]
  refine wpAny_bind (wpAny_nsDel_keeps hn1 fun h2 v hn2 hs2 => ?_)
  simp only [if_true, Option.isSome_some, Bool.not_true, Bool.false_eq_true, if_false]
  refine wpAny_pure (wpAny_point (h _ (I.locs hn2 (hs1.trans hs2) (by rw [List.length_set]) fun m0 hm0 lk j y w e1 e2 e3 => ?_)))
  have hj : j ≠ i := fun z => by
    rw [z] at e2
    have hi' : i < σ.length := by rw [I.len]; exact (List.getElem?_eq_some_iff.mp hi).1
    rw [List.getElem?_set_self hi'] at e2
    cases e2
  rw [List.getElem?_set_ne (Ne.symm hj)] at e2
  obtain ⟨u, r, q⟩ := lk j y w e1 e2 e3
  have hy : y ≠ n := fun z => hj ((List.getElem?_inj (by exact (List.getElem?_eq_some_iff.mp e1).1) hN).mp (by rw [e1, hi, z]))
  have em : m0 y = m y := by
    obtain ⟨o, es, ep, ho, hd, _, hf⟩ := hm0
    obtain ⟨o', es', ep', ho', hd', _, hf'⟩ := hn
    rw [ho] at ho'; cases ho'
    rw [hd] at hd'; cases hd'
    rw [← hf y, ← hf' y]
  refine ⟨u, r, ?_⟩
  rcases q with ⟨k1, k2⟩ | ⟨k1, c, k2, k3⟩
  · refine .inl ⟨k1, ?_⟩
    show (if y = n then v else (if y = n then some Value.none else m y)) = some u
    rw [if_neg hy, if_neg hy, ← em]; exact k2
  · obtain ⟨o, ho, hd⟩ := k3
    exact .inr ⟨k1, c, k2, o, ((hs1.trans hs2).2 c (I.cne y c k2)).trans ho, hd⟩
theorem flight_again {M : Model} {A : Around} {E : Value → Shared → Prop} {x C T : Addr} {od : Option Addr} {Q : Unit → Shared → Prop} (fly : Fly s.heap x C od T) (h : ∀ h', (∀ b o, s.heap.get? b = some o → h'.get? b = some o) → Q () { s with heap := h' }) :
    wpAny M A (setFlight (.ref x) none) Q E s := by
  obtain ⟨⟨vs, he, hsz, h1⟩, hTx, oT, ts, hT, hdT, h3⟩ := fly
  unfold setFlight
  refine wpAny_bind (wpAny_field he rfl h1 ?_)
  rw [if_pos (show (Value.ref T != Value.none) = true from by simp)]
  refine wpAny_setField hT hdT (Array.getElem?_eq_some_iff.mp h3).1 (h _ fun b o e => ?_)
  by_cases z : b = T
  · subst z
    rw [hT] at e; cases e
    refine (Heap.get?_update_self _ hT (Obj.isFreed_of_fields (Obj.data_mapFields hdT _))).trans ?_
    exact congrArg some (map_same hdT h3)
  · rw [Heap.get?_update_other _ _ (Ne.symm z)]; exact e
theorem Inv.keptH {h' : Heap} (I : Inv X pins σ H s) (k : ∀ b u, s.heap.get? b = some u → h'.get? b = some u) : Inv X pins σ H { s with heap := h' } :=
  I.call' (ch := []) (s' := { s with heap := h' }) rfl ⟨fun b o e _ _ _ => k b o e, fun b o e _ _ _ => ⟨o.slots, k b o e⟩, fun b o e n _ => n, fun b o e _ => ⟨o, k b o e⟩, fun b xs e => e, fun b o u e => e, fun b ps e => ⟨#[], by rw [Array.append_empty]; exact e⟩⟩ (I.hok.kept k) I.bare (fun b z => absurd z (by simp))
end
def behindAs (i : Nat) (D : Ends) : Ends := { nx := fun σ' H' => D.nx (σ'.set i none) H', rt := D.rt, bk := fun σ' H' => D.bk (σ'.set i none) H', ct := fun σ' H' => D.ct (σ'.set i none) H' }
def sTry (K : PySem.W.Frag) (CH : Addr) (i : Nat) (te : TX) (ts : TS) : TS := fun D σ H => te σ H (fun _ H1 => D.nx σ H1) (fun cv ox H1 => ∃ C x f, cv = .ref C ∧ ox = some x ∧ MkE K C f ∧ PySem.W.mroIn K C (.ref CH) = some true ∧ ts (behindAs i D) (σ.set i (some (.ref x))) H1)
section
variable {X : Cx} {outer : List Env} {L CH fH : Addr} {i : Nat} {n cn : Str} {e : Expr} {te : TX} {ts : TS} {b0 : Stmt} {suite : List Stmt} {pos epos hpos cp : Pos}
theorem ps_try (hpx : PX X e te) (hst : X.stack = X.env :: outer) (hfr : X.env.frame = some L) (hg : Gl X cn) (hm : X.mg cn = some (.ref CH)) (hM : MkE X.K CH fH) (hN : X.N.Nodup) (hi : X.N[i]? = some n) (hl : X.env.kindOf n = some .local) (hlo : Loc X.env.scope n)
    (hsu : ∀ x, PSs (X.hold x) (b0 :: suite) ts) (hfn : X.fn n = true ∨ X.env.scope.names.lookup n = some .local := by exact .inl rfl) (hdb : (cn == ("__debug__" : Str)) = false := by decide) (hs : swapsWith e none epos.line X.env = pure false := by rfl) :
    PS X (.Try [.Expr e epos] [.ExceptHandler (some (.Name cn cp)) (some n) (b0 :: suite) hpos] [] [] pos) (sTry X.K CH i te ts) := by
  intro pins s σ H D I h
  refine wpAny_Try_except (wpAny_execs_cons (wpAny_Expr_any (wpAny_mono (hpx pins s σ H _ _ I h) (fun v s1 ⟨y, H1, I1, r1, q1⟩ => ?_) fun ev s1 hx => ?_) I.quiet hs))
  · exact wpAny_execs_nil (wpAny_execs_nil ⟨σ, H1, I1, q1⟩)
  · obtain ⟨x, C, T, od, H1, rfl, I1, hx, fly, C', x', f, ec, ex, M, hmr, q⟩ := hx
    cases ec
    cases ex
    refine note_next (base := X.base) (outer := outer) (by rw [← hst]; exact I1.ok.frames) (by rw [← hst]; exact I1.stack) hfr fly fun h2 T2 lf => ?_
    have I2 := I1.lft hst hx lf
    have fly2 := lf.2.1
    refine handle_as (C := C) (CH := CH) (ld_glob (I2.hold x) hg hm ⟨rfl, M.cls I2.kIn, hM.cls I2.kIn, ?_, PySem.W.looks_mroIn I2.kIn hmr, ?_⟩ hdb)
    · obtain ⟨vs, e1, _⟩ := fly2.ob
      exact ⟨od, vs, e1⟩
    refine flight_again fly2 fun h3 k3 => ?_
    have I3 := (I2.keptH k3).hold x
    refine store_ok (X := X.hold x) (v := .ref x) I3 hN hi hlo rfl (fun s4 I4 => ?_) hfn
    refine wpAny_mono (hsu x pins s4 _ H1 _ I4 q) (fun fl s5 hq => ?_) fun _ _ z => z
    have ok := I.ok
    cases fl with
    | next => obtain ⟨σ5, H5, I5, q5⟩ := hq; exact name_goes (I5.unhold ok) hN hi hl fun s6 I6 => ⟨_, H5, I6, q5⟩
    | brk => obtain ⟨σ5, H5, I5, q5⟩ := hq; exact name_goes (I5.unhold ok) hN hi hl fun s6 I6 => ⟨_, H5, I6, q5⟩
    | cont => obtain ⟨σ5, H5, I5, q5⟩ := hq; exact name_goes (I5.unhold ok) hN hi hl fun s6 I6 => ⟨_, H5, I6, q5⟩
    | ret u => obtain ⟨v, σ5, H5, I5, r5, q5⟩ := hq; exact name_goes (I5.unhold ok) hN hi hl fun s6 I6 => ⟨v, _, H5, I6, r5, q5⟩
end
end L2

set_option Elab.async false
set_option linter.all false
set_option maxRecDepth 100000
set_option maxHeartbeats 4000000
/-! Exceptions: their class asked, their attributes read. Own work. -/
namespace XC
open PySem PySem.W PySem.Calls PyProof.Rows
section
variable {prog : Program} {w : World} {A : Around} {E : Value → Shared → Prop} {s : Shared} {K : Frag} {x C : Addr} {ox od : Obj}
theorem exc_class {Q : Option Value → Shared → Prop} (X : K.In s.heap) (I : InstAt s.heap x ox C (some od)) (c : ECls K C) (hb : mroIn K C (.type "BaseException") = some true) (hob : mroIn K C (.type "object") = some true)
    (ha : findIn K (.ref C) "__class__" = some (some (.builtin "object.__class__"))) (hn : specialIn K (.builtin "object.__class__") "__get__" = some (some (.builtin "getset_descriptor.__get__"))) (htk : takesIn K (.builtin "object.__class__") = some true)
    (h : Q (some (.ref C)) { s with toks := s.toks + 1 }) : wpAny (model prog w) A (getAttr? (.ref x) "__class__") Q E s := by
  have hf : findObj K C (some od) "__class__" = some (.bind (.builtin "getset_descriptor.__get__") (.builtin "object.__class__")) := findObj_data (by obtain ⟨cd, hc, _⟩ := c.cls; rw [hc]; rfl) ha hn htk
  obtain ⟨hp, g, d, t, os⟩ := s
  have L0 := I.type (M := model prog w)
  have L1 := looks_findIn (M := model prog w) X c.ga
  have L2 := looks_findIn (M := model prog w) X c.gn
  have L3 := looks_find (M := model prog w) X I hf
  have hbi := slot_ga.bind (.ref x)
  unfold getAttr? getAttrBy? getAttrBy
  refine wpAny_bind (wpAny_mkText (wpAny_bind (wpAny_attempt (wpAny_holding (wpAny_bind (L0.at (wpAny_bind (L1.at ?_))))))))
  have hx2 : (onTheHeap (Value.ref C) && Value.builtin "BaseException.__getattribute__" == Value.builtin "object.__getattribute__") = false := by
    rw [show (Value.builtin "BaseException.__getattribute__" == Value.builtin "object.__getattribute__") = false by decide +kernel]; rfl
  show wpAny _ _ (if (onTheHeap (Value.ref C) && Value.builtin "BaseException.__getattribute__" == Value.builtin "object.__getattribute__") = true then _ else _) _ _ _
  rw [hx2, if_neg Bool.false_ne_true]
  unfold getAttrByItsOwn
  refine wpAny_bind (L2.at ?_)
  refine wpAny_bind (wpAny_attempt ?_)
  refine wpAny_holding ?_
  unfold callGetattribute
  rw [show (false && onTheHeap (Value.builtin "BaseException.__getattribute__")) = false from rfl, if_neg Bool.false_ne_true]
  unfold boundAndCalled
  rw [hbi]
  refine wpAny_bind (wpAny_pure (wpAny_call ?_))
  show codeAny _ _ (.call (.builtin "BaseException.__getattribute__") ⟨[.ref x, .str "__class__" t], []⟩) _ ⟨hp, g, d, t + 1, os⟩
  refine codeAny_call_builtin slot_ga.plain F.entry_bexc_ga (@check_slot (model prog w) _ _ ⟨hp, g, d, t + 1, os⟩ "BaseException.__getattribute__" "BaseException" "__getattribute__" (.ref x) [.str "__class__" t] [] _ ga_kind ga_split (isin_base X I hb) (F.args_bexc_ga (.ref x) (.str "__class__" t)) ?_)
  refine wpAny_bind (wpAny_pure (wpAny_bind (wpAny_pure (wpAny_bind (L0.at (wpAny_bind (L3.at ?_)))))))
  show wpAny _ _ (holding [Value.builtin "object.__class__"] (call (.builtin "getset_descriptor.__get__") [.builtin "object.__class__", .ref x, .ref C]) >>= ret) _ _ _
  refine wpAny_bind (wpAny_holding (wpAny_call ?_))
  refine class_get (s := ⟨hp, g, d, t + 1, os⟩) (ox := ox) (od := some od) X I hob ?_
  refine wpAny_pure ?_
  show wpAny _ _ (handedOut (.ref C)) _ _ _
  exact handed_on rfl (wpAny_pure h)
/-- what is asked of a class of exceptions by isinstance -/
structure EIs (K : Frag) (C : Addr) : Prop where
  c : ECls K C
  ha : findIn K (.ref C) "__class__" = some (some (.builtin "object.__class__"))
  hn : specialIn K (.builtin "object.__class__") "__get__" = some (some (.builtin "getset_descriptor.__get__"))
  htk : takesIn K (.builtin "object.__class__") = some true
theorem ECls.obj (c : ECls K C) : mroIn K C (.type "object") = some true := by
  obtain ⟨cd, hc, ho, _⟩ := c.cls
  obtain ⟨a, ne⟩ := exc_has ho
  unfold mroIn
  rw [hc, Option.bind_some, if_neg (by rw [ne]; decide), a]
theorem kitx_exc (i : EIs K C) : KitX K (.ref x) (.ref C) (fun h => ∃ ox od, InstAt h x ox C (some od)) where
  ty := fun _ _ _ ⟨_, _, I⟩ => I.type
  it := fun _ _ X _ => by
    obtain ⟨cdD, hcD, _⟩ := i.c.cls
    unfold clsIn at hcD
    split at hcD
    · rename_i c' d' cd' sl' ho
      intro A' Q' E' s' k q
      unfold isType loadHead
      exact wpAny_bind (wpAny_loadPart (k _ _ (X _ _ ho)) (wpAny_pure q))
    · cases hcD
  ne := fun h tp dd its n sl X htp => by
    obtain ⟨cdD, hcD, _⟩ := i.c.cls
    refine Bool.eq_false_iff.mpr fun q => ?_
    obtain rfl : C = tp := Value.ref.inj (beq_iff_eq.mp q)
    unfold clsIn at hcD
    split at hcD
    · rename_i c' d' cd' sl' ho
      cases (X _ _ ho).symm.trans htp
    · cases hcD
  ca := fun X ⟨_, _, I⟩ k => exc_class X I i.c i.c.mro.2 i.c.obj i.ha i.hn i.htk k
end
end XC
namespace L2
open PySem PySem.Spec PyProof.Rows XC
/-- an exception that may be read: its dict -/
def ExAt (H : Hp) (x C : Addr) (fs : List (Str × V)) : Prop := ∃ dx, (H x = some (exO x C (some dx)) ∨ H x = some (exN x C (some dx))) ∧ H dx = some (dxO dx fs)
section
variable {X : Cx} {pins : List (Addr × Obj)} {σ : St} {H : Hp} {s : Shared} {x C : Addr} {fs : List (Str × V)}
theorem ExAt.same {H' : Hp} (e : ExAt H x C fs) (k : Same H H') : ExAt H' x C fs := by
  obtain ⟨dx, e1, e2⟩ := e
  exact ⟨dx, e1.imp (k _ _) (k _ _), k _ _ e2⟩
theorem ExAt.look (I : Inv X pins σ H s) (e : ExAt H x C fs) : ∃ (ox od : Obj) (mA : Str → Option Value), PySem.W.InstAt s.heap x ox C (some od) ∧ (∀ name, PySem.W.lookIn name od = some (mA name)) ∧ ∀ f, RelO (fs.lookup f) (mA f) := by
  obtain ⟨dx, e1, e2⟩ := e
  obtain ⟨mA, n, r, _⟩ := dxO_get I.hok e2
  obtain ⟨od, ho, hl⟩ := lookIn_ns n
  rcases e1 with e1 | e1
  · obtain ⟨vs, q, _⟩ := exO_get I.hok e1
    exact ⟨_, od, mA, ⟨q, rfl, rfl, ho⟩, hl, r⟩
  · obtain ⟨t, q⟩ := exN_get I.hok e1
    exact ⟨_, od, mA, ⟨q, rfl, rfl, ho⟩, hl, r⟩
/-- isinstance(x, c) of an exception -/
theorem call_isX : CallR X (.builtin "isinstance") (fun xs H Q => ∃ (x C : Addr) (c : V) (cv : Value) (b : Bool) (fs : List (Str × V)), xs = [.ref x, c] ∧ clsV c = some cv ∧ ExAt H x C fs ∧ EIs X.K C ∧ PySem.W.kitOne X.K (.ref C) cv = some b ∧ Q (.bl b) H) := by
  intro pins s σ H xs us Q I r h
  obtain ⟨x, C, c, cv, b, fs, rfl, hcv, ex, ei, hk, q⟩ := h
  obtain ⟨u, w', rfl, r1, r2⟩ := vals2 r
  have e := clsV_of hcv r2
  subst e
  obtain rfl : u = Value.ref x := r1
  obtain ⟨ox, od, mA, J, _⟩ := ex.look I
  exact PySem.W.kia_one (kitx_exc ei) I.kIn ⟨ox, od, J⟩ hk (fun z => nomatch z) fun tk => ⟨.bl b, H, I.tok tk, rfl, q⟩
/-- x.f of an exception -/
def tFldX (K : PySem.W.Frag) (ta : TE) (f : Str) : TE := fun σ H Q => ta σ H fun v H1 => ∃ x C fs u, v = .ref x ∧ ExAt H1 x C fs ∧ ECls K C ∧ PySem.W.findIn K (.ref C) f = some none ∧ fs.lookup f = some u ∧ Q u H1
variable {e : Expr} {f : Str} {pos : Pos} {ta : TE}
theorem handed_V {v : V} {u : Value} (r : RelV v u) : PySem.W.handedIn u = true := by
  cases v with
  | non => cases (show u = _ from r); rfl
  | bl b => cases (show u = _ from r); rfl
  | int i => obtain ⟨t, q⟩ := (show ∃ t, u = Value.int i t from r); cases q; rfl
  | str i => obtain ⟨t, q⟩ := (show ∃ t, u = Value.str i t from r); cases q; rfl
  | byt i => obtain ⟨t, q⟩ := (show ∃ t, u = Value.bytes i t from r); cases q; rfl
  | flt i => obtain ⟨t, q⟩ := (show ∃ t, u = Value.float i t from r); cases q; rfl
  | ref a => cases (show u = _ from r); rfl
  | ty n => cases (show u = _ from r); rfl
theorem pe_fldX (he : PE X e ta) (hb : attributeBase e f X.env (eval e X.env) = eval e X.env) : PE X (.Attribute e f pos) (tFldX X.K ta f) := by
  intro pins s σ H Q I h
  refine attr_of hb (thn (he pins s σ H _ I h) ?_)
  rintro u s1 ⟨v, H1, I1, rv, x, C, fs, w, ev, ex, c, hn, hl, q⟩
  subst ev
  obtain rfl : u = Value.ref x := rv
  obtain ⟨ox, od, mA, J, lk, r⟩ := ex.look I1
  have rf := r f
  rw [hl] at rf
  obtain ⟨u, hu, ru⟩ : ∃ u, mA f = some u ∧ RelV w u := by
    cases hm : mA f with
    | none => rw [hm] at rf; exact rf.elim
    | some u => rw [hm] at rf; exact ⟨u, rfl, rf⟩
  obtain ⟨cd, hc, _, hd⟩ := c.cls
  refine exc_get I1.kIn J c.ga c.gn c.mro.2 (PySem.W.findObj_own (by unfold PySem.W.hasDictIn; rw [hc]; exact hd) hn rfl (by rw [lk, hu])) (handed_V ru) ⟨w, H1, I1.tok _, ru, q⟩
end
end L2

set_option Elab.async false
set_option linter.all false
set_option maxRecDepth 100000
set_option maxHeartbeats 4000000
/-! f-strings of one text's repr; isinstance of an exception and several classes; a def held in a local that raises. Own work. -/
namespace L2
open PySem PySem.Spec PyProof.Rows XC
section
variable {X : Cx}
/-- f'words{x!r}': some text -/
def tFsR (ta : TE) : TE := fun σ H Q => ta σ H fun v H1 => ∃ x : Str, v = .str x ∧ x.length ≤ 300000 ∧ (∀ c ∈ x.cps.toList, c < 16 ^ 8) ∧ ∀ y : Str, Q (.str y) H1
theorem pe_fsR {c : Str} {e : Expr} {ta : TE} {j : Nat} {p1 p2 pos : Pos} (he : PE X e ta) (hc : c.length ≤ 1000 := by decide) : PE X (.JoinedStr [.Constant (.str c) j p1, .FormattedValue e 114 none p2] pos) (tFsR ta) := by
  intro pins s σ H Q I h
  refine wpAny_JoinedStr ?_
  show wpAny _ _ (eval (.Constant (.str c) j p1) X.env) (fun v s₁ => ∃ y t, v = .str y t ∧ (Str.empty ++ y).length ≤ sizeLine ∧ wpAny _ _ (eval (.FormattedValue e 114 none p2) X.env) (fun v s₁ => ∃ z t, v = .str z t ∧ ((Str.empty ++ y) ++ z).length ≤ sizeLine ∧ _) _ s₁) _ s
  have l0 : (Str.empty ++ c).length = c.length := by rw [strLen_append]; show 0 + _ = _; omega
  refine Calls.Constant_str ⟨c, _, rfl, by rw [l0, sizeLine_eq]; omega, ?_⟩
  refine wpAny_FormattedValue_repr (wpAny_mono (he pins _ σ H _ (I.tok _) h) (fun u s1 ⟨v, H1, I1, r, x, ev, hl, hs, q⟩ => ?_) fun _ _ z => z)
  subst ev
  obtain ⟨t, rfl⟩ := r
  have hrl := StrLaws.reprText_len x hs
  have hz : (reprText x).length ≤ sizeLine := by rw [sizeLine_eq]; omega
  have hz2 : ((Str.empty ++ c) ++ reprText x).length ≤ sizeLine := by rw [strLen_append, l0, sizeLine_eq]; omega
  refine pyReprObj_str (wpAny_formatField_str ?_ ?_ hz) hz
  · exact ⟨_, _, rfl, hz2, hz2, .str _, H1, I1.tok _, ⟨_, rfl⟩, q _⟩
  · exact ⟨_, _, rfl, hz2, hz2, .str _, H1, I1.tok _, ⟨_, rfl⟩, q _⟩
theorem vals_refs : ∀ {cs : List Addr} {its : List Value}, Vals (cs.map V.ref) its → its = cs.map Value.ref
  | [], _, .nil => rfl
  | a :: r, _, .cons q t => by rw [List.map_cons, ← vals_refs t]; congr 1
/-- isinstance(x, (c, ..)) of an exception -/
theorem call_isXT : CallR X (.builtin "isinstance") (fun xs H Q => ∃ (x C tp : Addr) (cs : List Addr) (b : Bool) (fs : List (Str × V)), xs = [.ref x, .ref tp] ∧ H tp = some (.tup (cs.map V.ref)) ∧ ExAt H x C fs ∧ EIs X.K C ∧ PySem.W.kitAny X.K (.ref C) (cs.map Value.ref) = some b ∧ Q (.bl b) H) := by
  intro pins s σ H xs us Q I r h
  obtain ⟨x, C, tp, cs, b, fs, rfl, ht, ex, ei, hk, q⟩ := h
  obtain ⟨u, w', rfl, r1, r2⟩ := vals2 r
  obtain rfl : u = Value.ref x := r1
  obtain rfl : w' = Value.ref tp := r2
  obtain ⟨ox, od, mA, J, _⟩ := ex.look I
  obtain ⟨_, its, rv, o, ho, hcl, n, hd⟩ := I.hok _ _ ht
  have e := vals_refs rv
  subst e
  obtain ⟨cl, dd, dt, sl⟩ := o
  cases hcl
  cases hd
  exact PySem.W.kia_tup (kitx_exc ei) I.kIn ⟨ox, od, J⟩ ho hk (fun z => nomatch z) fun tk => ⟨.bl b, H, I.tok tk, rfl, q⟩
/-- f(e, ..) of a def that raises and that a local holds -/
theorem px_callV {k : Nat} {f : Addr} {fd : FuncData} {ps : List Str} {sp : Sp} {ds : List Value} {dvs : List V} {x : Str} {i : Nat} {e : Expr} {es : List Expr} {t : TA} {p pos : Pos} (F : FnOk X.prog X.w X.K X.mg X.base (CXE X.prog X.w) k f fd ps sp) (hr : Room k X.A) (hN : X.N[i]? = some x) (hv : Vis X.env.scope x)
    (hk : PySem.W.keepIn X.K (.ref f) = true) (hb : Binds X.K fd ps ds) (hd : Vals dvs ds)
    (ha : PA X.nox (e :: es) t) (hdb : (x == ("__debug__" : Str)) = false := by decide) (hcd : (x == ("__classdict__" : Str)) = false := by decide) (he : starEach (e :: es) X.env = (false, eval e X.env) :: starEach es X.env := by rfl) (hpl : (backTo pos (starEach es X.env)).any (·.1) = false := by rfl) :
    PX X (.Call (.Name x p) (e :: es) [] pos) (fun σ H Q EE => σ[i]? = some (some (.ref f)) ∧ tCallX sp dvs t σ H Q EE) := by
  intro pins s σ H Q EE I h
  obtain ⟨hi, h⟩ := h
  obtain ⟨m, hn, hl⟩ := id I.loc
  obtain ⟨u, r, l⟩ := hl i x _ hN hi hv
  obtain rfl : u = Value.ref f := r
  refine wpAny_Call_Name_kw ?_
  have fin : wpAny (model X.prog X.w) X.A (callWith pos (.ref f) [] (backTo pos (starEach (e :: es) X.env)) (backToKw pos (keywordEach [] X.env))) (EP X pins σ Q) (XP X pins σ EE) s := by
    refine PySem.W.callWith_K (h₀ := X.base) I.ok.mod.kin hk (wpAny_mono (ha pos pins s σ H _ (I.wish _) h) (fun us s1 ⟨vs, H1, I1, r, q⟩ => ⟨I1.unwish.kIn, ?_⟩) fun _ _ z => z.elim) he hpl
    exact run_fnX F hr hb hd I1.unwish r q
  rcases l with ⟨hk, hm⟩ | ⟨hk, c, hc, hcell⟩
  · exact wpAny_Name (wpAny_loadName_local I.ok.kind hk hn hm fin) hdb
  · rcases hk with hk | hk
    · exact wpAny_Name (wpAny_loadName_cell I.ok.kind hk hc hcell fin) hdb
    · exact wpAny_Name (wpAny_loadName_free I.ok.kind hk hc hcell fin hcd) hdb
end
end L2

set_option Elab.async false
set_option linter.all false
set_option maxRecDepth 100000
set_option maxHeartbeats 4000000
/-! The reader of texts: cut, is_word, is_number, signs_of. Own work (made of a template for each statement that reaches the reader). -/
namespace K15
open PySem L2 Builtin.Str
/-! ### the text by places -/
def top (i : Nat) : Stmt := PySem.Challenge.pw_macrohouse_k15_no_text.main.body.getD i (.Pass ⟨0, 0, 0, 0⟩)
abbrev sSigns : Stmt := top 24
abbrev sCut : Stmt := top 25
abbrev sWord : Stmt := top 26
abbrev sNumb : Stmt := top 27
/-! ### what a sign is -/
def LET : List Nat := [97, 98, 99, 100, 101, 102, 103, 104, 105, 106, 107, 108, 109, 110, 111, 112, 113, 114, 115, 116, 117, 118, 119, 120, 121, 122]
def FIG : List Nat := [48, 49, 50, 51, 52, 53, 54, 55, 56, 57]
def isL (c : Nat) : Bool := decide (c ∈ LET)
def isF (c : Nat) : Bool := decide (c ∈ FIG)
theorem cpl_let : cpl ("abcdefghijklmnopqrstuvwxyz" : Str) = LET := by decide
theorem cpl_fig : cpl ("0123456789" : Str) = FIG := by decide
def headIs (p : Nat → Bool) : List Nat → Bool
  | [] => false
  | c :: _ => p c
def wordB (l : List Nat) : Bool := decide (l = [42] ∨ l = [61]) || (headIs isL l && l.all fun c => isL c || isF c)
def figs (l : List Nat) : List Nat := if l.head? = some 45 then l.drop 1 else l
def numB (l : List Nat) : Bool := decide (1 ≤ (figs l).length ∧ (figs l).length ≤ 60) && ((figs l).all isF && (decide ((figs l).head? ≠ some 48) || decide (l = [48])))
def goodB (l : List Nat) : Bool := decide (l = [40] ∨ l = [41]) || wordB l || numB l
def sgV (ls : List (List Nat)) : List V := ls.map fun l => .str (ofL l)
theorem str_in {x : Str} {ys : List Str} : inV (.str x) (ys.map V.str) = decide (x ∈ ys) := by
  unfold inV
  rw [List.any_map, Bool.eq_iff_iff, List.any_eq_true, decide_eq_true_eq]
  constructor
  · rintro ⟨m, hm, e⟩
    have e' : (m == x) = true := e
    rw [← eq_of_beq e']; exact hm
  · intro h
    exact ⟨x, h, by show (x == x) = true; simp⟩
theorem in_two {x : Str} {c d : Nat} {a b : Str} (ha : cpl a = [c]) (hb : cpl b = [d]) : inV (.str x) [.str a, .str b] = decide (cpl x = [c] ∨ cpl x = [d]) := by
  show inV (.str x) ([a, b].map V.str) = _
  rw [str_in, decide_eq_decide, ← ha, ← hb]
  constructor
  · intro h
    rcases List.mem_cons.mp h with e | h
    · exact .inl (by rw [e])
    · exact .inr (by rw [List.mem_singleton.mp h])
  · rintro (h | h)
    · rw [cpl_inj h]; exact List.mem_cons_self
    · rw [cpl_inj h]; exact List.mem_cons_of_mem _ List.mem_cons_self
/-! ### promises -/
def spCut : Sp := fun vs H Q _ => ∃ x : Str, vs = [.str x] ∧ x.length ≤ 30400 ∧ ∀ (H' : Hp) (D : Addr), Same H H' → H D = none → H' D = some (.lst (sgV (TX.cutC (cpl x)))) → Q (.ref D) H'
def spWord : Sp := fun vs H Q _ => ∃ x : Str, vs = [.str x] ∧ x.length ≤ 300000 ∧ cpl x ≠ [] ∧ ∀ H', Same H H' → Q (.bl (wordB (cpl x))) H'
def spNumb : Sp := fun vs H Q _ => ∃ x : Str, vs = [.str x] ∧ x.length ≤ 300000 ∧ cpl x ≠ [] ∧ ∀ H', Same H H' → Q (.bl (numB (cpl x))) H'
/-- the reader's globals -/
structure Rd (K : PySem.W.Frag) (mg : Str → Option Value) (nn br : Addr) : Prop where
  mgN : mg "NO_NAMES" = some (.ref nn)
  nnT : ∀ H, SqT K H nn [.str "*", .str "="]
  mgB : mg "BRACKETS" = some (.ref br)
  brT : ∀ H, SqT K H br [.str "(", .str ")"]
  le : ∃ t, mg "LETTERS" = some (.str "abcdefghijklmnopqrstuvwxyz" t)
  fi : ∃ t, mg "FIGURES" = some (.str "0123456789" t)
  mo : ∃ t, mg "MOST_FIGURES" = some (.int 60 t)
  len : mg "len" = none
  all : mg "all" = none
theorem op_in_one {X : Cx} : OpR X (compareOp .In) (fun x y H Q => ∃ c j, x = sgn c ∧ y = .str j ∧ Q (.bl (decide (c ∈ cpl j))) H) := by
  intro pins s σ H x y v u Q I rx ry h
  obtain ⟨c, j, rfl, rfl, q⟩ := h
  exact op_in_str pins s σ H _ _ v u Q I rx ry ⟨⟨#[c]⟩, j, rfl, rfl, by rw [in_one]; exact q⟩
section
variable {P : Program} {w : World} {K : PySem.W.Frag} {mg : Str → Option Value} {base : Heap} {nn br : Addr}
/-! ### is_word -/
theorem scWord : FnScope ["sign"] ["sign"] (defScope sWord) := ⟨rfl, rfl, rfl, by decide +kernel, rfl, by decide +kernel, by decide +kernel⟩
theorem lcWord : LcS (defScope sWord).names [(".0", .local), ("letter", .local), ("LETTERS", .globalImplicit), ("FIGURES", .globalImplicit)] ["sign"] [false] :=
  ⟨by decide +kernel, by decide +kernel, by decide +kernel, by decide +kernel, by decide +kernel, rfl⟩
theorem ok_word {f : Addr} {fd : FuncData} (F : Fun K "is_word" "is_word" sWord f fd) (R : Rd K mg nn br) : FnOk P w K mg base CX0 1 f fd ["sign"] spWord := by
  obtain ⟨tl, hle⟩ := R.le
  obtain ⟨tf, hfi⟩ := R.fi
  refine F.ok scWord (fun vs H Q E h => ?_) (fun cdv A outer s H vs Q E hr h => ?_)
  · obtain ⟨x, rfl, _⟩ := h; rfl
  · obtain ⟨x, rfl, hl, hn, q⟩ := h
    have nd := scWord.nd
    have nd2 : (["sign", "letter"] : List Str).Nodup := by decide +kernel
    refine ⟨_, pss_cons (ps_if (pt_cmpR op_in_seq (pv 0) (pe_glob (v := .ref nn) (by rfl) R.mgN rfl) rfl) (pss_one (ps_ret pe_bl)) pss_nil)
      (pss_one (ps_ret (pe_and (pe_cmpR op_in_one (pe_ix ix_str (pv 0) pe_int (fun _ _ => rfl)) (pe_glob (v := .str "abcdefghijklmnopqrstuvwxyz") (by rfl) hle ⟨_, rfl⟩) rfl)
        (pe_one (pe_callB (call_allB rfl) (by rfl) R.all bt_all (pa_cons (pe_lc (ext := ["letter"]) lcWord rfl (pi_str (pv 0))
          ⟨fun _ _ _ _ _ => pg_name (i := 1) nd2 rfl (Or.inl rfl), fun _ _ _ _ _ => pts_nil, fun _ _ _ _ _ => pe_or (pe_cmpR op_in_one (pv 1) (pe_glob (v := .str "abcdefghijklmnopqrstuvwxyz") (by rfl) hle ⟨_, rfl⟩) rfl) (pe_one (pe_cmpR op_in_one (pv 1) (pe_glob (v := .str "0123456789") (by rfl) hfi ⟨_, rfl⟩) rfl))⟩) pa_nil)))))), ?_⟩
    have hz : x.length ≤ sizeLine := by rw [sizeLine_eq]; omega
    by_cases hw : cpl x = [42] ∨ cpl x = [61]
    · have hwb : wordB (cpl x) = true := by unfold wordB; rw [decide_eq_true hw]; rfl
      rw [hwb] at q
      refine ⟨_, rfl, nn, _, rfl, .inr (R.nnT H), rfl, rfl, true, ?_, iteT ?_⟩
      · show V.bl (inV _ _) = _
        rw [in_two (c := 42) (d := 61) rfl rfl, decide_eq_true hw]
      · exact q H fun _ _ e => e
    · refine ⟨_, rfl, nn, _, rfl, .inr (R.nnT H), rfl, rfl, false, ?_, iteF ?_⟩
      · show V.bl (inV _ _) = _
        rw [in_two (c := 42) (d := 61) rfl rfl, decide_eq_false hw]
      obtain ⟨c, r, ec⟩ : ∃ c r, cpl x = c :: r := by
        cases e : cpl x with
        | nil => exact absurd e hn
        | cons c r => exact ⟨c, r, rfl⟩
      have hwb : wordB (cpl x) = (isL c && (cpl x).all fun c => isL c || isF c) := by
        unfold wordB; rw [decide_eq_false hw, Bool.false_or]; rw [ec]; rfl
      rw [hwb] at q
      refine ⟨_, rfl, x, 0, c, rfl, rfl, hz, by rw [show x.cps.toList = c :: r from ec]; simp [atI, ixN], c, _, rfl, rfl, isL c, by rw [cpl_let]; rfl, ?_⟩
      cases hL : isL c with
      | false =>
        rw [hL] at q
        exact iteF (q H fun _ _ e => e)
      | true =>
        rw [hL, Bool.true_and] at q
        refine iteT ⟨_, rfl, x, rfl, fun D hD => ?_⟩
        refine lc_str (fun _ => true) (fun c => .bl (isL c || isF c)) hz (fun c v ys R _ hR => hR _ rfl) (fun c v ys R _ _ hR => ?_) (fun H' e => ?_)
        · refine ⟨_, rfl, c, _, rfl, rfl, isL c, by rw [cpl_let]; rfl, ?_⟩
          cases hc : isL c with
          | true => rw [hc] at hR; exact iteT (hR _ rfl)
          | false =>
            rw [hc] at hR
            refine iteF ⟨_, rfl, c, _, rfl, rfl, ?_⟩
            rw [cpl_fig]
            exact hR _ rfl
        · subst e
          have em : ((cpl x).filter fun _ => true).map (fun c => V.bl (isL c || isF c)) = ((cpl x).map fun c => isL c || isF c).map V.bl := by
            rw [List.filter_eq_self.mpr (fun _ _ => rfl), List.map_map]; rfl
          rw [em]
          refine ⟨D, _, rfl, SqL.of upd_same, ?_⟩
          rw [List.all_map]
          exact q _ (same_upd hD)
/-! ### is_number -/
theorem scNumb : FnScope ["sign", "figures"] ["sign"] (defScope sNumb) := ⟨rfl, rfl, rfl, by decide +kernel, rfl, by decide +kernel, by decide +kernel⟩
theorem lcNumb : LcS (defScope sNumb).names [(".0", .local), ("figure", .local), ("FIGURES", .globalImplicit)] ["sign", "figures"] [false, false] :=
  ⟨by decide +kernel, by decide +kernel, by decide +kernel, by decide +kernel, by decide +kernel, rfl⟩
theorem str_is {x y : Str} {l : List Nat} (h : cpl y = l) : decide (V.str x = V.str y) = decide (cpl x = l) := by
  rw [decide_eq_decide]
  constructor
  · intro e; injection e with e; rw [e, h]
  · intro e; rw [cpl_inj (e.trans h.symm)]
theorem ok_numb {f : Addr} {fd : FuncData} (F : Fun K "is_number" "is_number" sNumb f fd) (R : Rd K mg nn br) : FnOk P w K mg base CX0 1 f fd ["sign"] spNumb := by
  obtain ⟨tf, hfi⟩ := R.fi
  obtain ⟨tm, hmo⟩ := R.mo
  refine F.ok scNumb (fun vs H Q E h => ?_) (fun cdv A outer s H vs Q E hr h => ?_)
  · obtain ⟨x, rfl, _⟩ := h; rfl
  · obtain ⟨x, rfl, hl, hn, q⟩ := h
    have nd := scNumb.nd
    have nd2 : (["sign", "figures", "figure"] : List Str).Nodup := by decide +kernel
    have hz : x.length ≤ sizeLine := by rw [sizeLine_eq]; omega
    have REST : ∃ t : TS, PSs (cxOf CX0 P w K mg base ["sign", "figures"] "is_number" (defScope sNumb) f cdv A outer s H E).nox ((defBody sNumb).drop 1) t ∧ ∀ z : Str, cpl z = figs (cpl x) → z.length ≤ x.length →
        t { nx := fun _ H' => Q .non H', rt := Q } [some (.str x), some (.str z)] H := by
      refine ⟨_, pss_cons (ps_if (pt_not (pt_chain op_le op_le pe_int (pe_callB call_len_str (by rfl) R.len bt_len (pa_cons (pv 1) pa_nil)) (pe_glob (v := .int 60) (by rfl) hmo ⟨_, rfl⟩))) (pss_one (ps_ret pe_bl)) pss_nil)
        (pss_cons (ps_if (pt_not (pt_val (pe_callB (call_allB rfl) (by rfl) R.all bt_all (pa_cons (pe_lc (ext := ["figure"]) lcNumb rfl (pi_str (pv 1))
            ⟨fun _ _ _ _ _ => pg_name (i := 2) nd2 rfl (Or.inl rfl), fun _ _ _ _ _ => pts_nil, fun _ _ _ _ _ => pe_cmpR op_in_one (pv 2) (pe_glob (v := .str "0123456789") (by rfl) hfi ⟨_, rfl⟩) rfl⟩) pa_nil)))) (pss_one (ps_ret pe_bl)) pss_nil)
        (pss_one (ps_ret (pe_or (pe_cmpR op_ne (pe_ix ix_str (pv 1) pe_int (fun _ _ => rfl)) pe_str (nomark _)) (pe_one (pe_cmpR op_eq (pv 0) pe_str (nomark _))))))), ?_⟩
      intro z ez hzl
      have hz' : z.length ≤ sizeLine := Nat.le_trans hzl hz
      have hlz : (figs (cpl x)).length = z.length := by rw [← ez, cpl_len]
      have no : (1 ≤ z.length ∧ z.length ≤ 60 → (figs (cpl x)).all isF = false) → Q (.bl false) H := fun h => by
        have e : numB (cpl x) = false := by
          unfold numB
          rw [hlz]
          by_cases h' : 1 ≤ z.length ∧ z.length ≤ 60
          · rw [h h', Bool.false_and, Bool.and_false]
          · rw [decide_eq_false h', Bool.false_and]
        rw [e] at q
        exact q H fun _ _ e => e
      refine ⟨_, rfl, z, rfl, hz', _, _, rfl, rfl, _, rfl, ite2 (fun h1 => ?_) (fun h1 => ?_)⟩
      case refine_2 =>
        have h1' : ¬ (1 : Int) ≤ (z.length : Int) := fun e => h1 (decide_eq_true e)
        exact ⟨_, rfl, iteT (no fun h => absurd h.1 (by omega))⟩
      have h1' : (1 : Int) ≤ (z.length : Int) := of_decide_eq_true h1
      refine ⟨_, _, rfl, rfl, _, rfl, ite2 (fun h2 => ?_) (fun h2 => ?_)⟩
      · have h2' : ¬ (z.length : Int) ≤ 60 := fun e => by rw [decide_eq_true e] at h2; exact Bool.false_ne_true h2
        exact no fun h => absurd h.2 (by omega)
      have h2' : (z.length : Int) ≤ 60 := by
        by_cases e : (z.length : Int) ≤ 60
        · exact e
        · exact absurd (by rw [decide_eq_false e]; rfl) h2
      refine ⟨_, rfl, z, rfl, fun D hD => ?_⟩
      refine lc_str (fun _ => true) (fun c => .bl (isF c)) hz' (fun c v ys R _ hR => hR _ rfl) (fun c v ys R _ _ hR => ?_) (fun H' e => ?_)
      · refine ⟨_, rfl, c, _, rfl, rfl, ?_⟩
        rw [cpl_fig]
        exact hR _ rfl
      subst e
      have em : ((cpl z).filter fun _ => true).map (fun c => V.bl (isF c)) = ((cpl z).map isF).map V.bl := by
        rw [List.filter_eq_self.mpr (fun _ _ => rfl), List.map_map]; rfl
      rw [em]
      refine ⟨D, _, rfl, SqL.of upd_same, (figs (cpl x)).all isF, by rw [List.all_map, ez]; rfl, ?_⟩
      have q' : ∀ b, numB (cpl x) = b → Q (.bl b) (upd H D (.lst (((cpl z).map isF).map V.bl))) := fun b e => by rw [← e]; exact q _ (same_upd hD)
      cases hA : (figs (cpl x)).all isF with
      | false =>
        refine iteT (q' false ?_)
        unfold numB
        rw [hA, Bool.false_and, Bool.and_false]
      | true =>
        refine iteF ?_
        obtain ⟨c, r, ec⟩ : ∃ c r, cpl z = c :: r := by
          cases e : cpl z with
          | nil => have := cpl_len z; rw [e] at this; simp at this; omega
          | cons c r => exact ⟨c, r, rfl⟩
        have hnum : numB (cpl x) = (decide (c ≠ 48) || decide (cpl x = [48])) := by
          unfold numB
          rw [hA, hlz, decide_eq_true (show 1 ≤ z.length ∧ z.length ≤ 60 by omega), ← ez, ec]
          simp
        refine ⟨_, rfl, z, 0, c, rfl, rfl, hz', by rw [show z.cps.toList = c :: r from ec]; simp [atI, ixN], rfl, decide (c ≠ 48), ?_, ?_⟩
        · rw [str_is (l := [48]) (by rfl)]
          show V.bl (!decide ([c] = [48])) = _
          by_cases h : c = 48
          · simp [h]
          · simp [h]
        · by_cases h : c = 48
          · rw [decide_eq_false (by simp [h])]
            refine iteF ⟨_, rfl, rfl, ?_⟩
            rw [str_is (l := [48]) (by rfl)]
            exact q' _ (by rw [hnum]; simp [h])
          · rw [decide_eq_true h]
            exact iteT (q' true (by rw [hnum]; simp [h]))
    obtain ⟨tR, hR, hrest⟩ := REST
    refine ⟨_, pss_cons (ps_set (i := 1) nd rfl (Or.inl rfl) (pe_ifExp (pt_val (pe_bm PySem.F.plainAttrs_str PySem.F.slot_str_startswith PySem.F.type_str_startswith mt_starts (pv 0) (pa_cons pe_str pa_nil))) (pe_slice sl_str (pv 0) (po_some pe_int) po_none) (pv 0))) hR, ?_⟩
    refine ⟨_, rfl, rfl, x, _, rfl, rfl, decide ((cpl x).head? = some 45), by rw [show (("-" : Str)) = ⟨#[45]⟩ from by rfl, starts_one], ?_⟩
    by_cases h45 : (cpl x).head? = some 45
    · rw [decide_eq_true h45]
      refine iteT ⟨_, rfl, ?_⟩
      refine ⟨_, rfl, x, rfl, hz, ?_⟩
      exact hrest (Txt.slice x (some 1) none) (by rw [slice_tail]; unfold figs; rw [if_pos h45]) (Txt.slice_le _ _ _)
    · rw [decide_eq_false h45]
      exact iteF ⟨_, rfl, hrest x (by unfold figs; rw [if_neg h45]) (Nat.le_refl _)⟩
/-! ### cut -/
theorem splitC_short {c : Nat} : ∀ {l p : List Nat}, p ∈ TX.splitC c l → p.length ≤ l.length
  | [], p, h => by
    rw [TX.splitC_nil] at h
    rw [List.mem_singleton.mp h]
    exact Nat.le_refl _
  | k :: r, p, h => by
    have ih := fun q (hq : q ∈ TX.splitC c r) => splitC_short (l := r) (p := q) hq
    unfold TX.splitC at h ih
    unfold TX.spl at h
    rw [List.length_cons]
    split at h
    · rcases List.mem_cons.mp h with e | h
      · rw [e]; exact Nat.zero_le _
      · have := ih p h; omega
    · rcases List.mem_cons.mp h with e | h
      · rw [e, List.length_cons]
        have := ih _ List.mem_cons_self
        omega
      · have := ih p (List.mem_cons_of_mem _ h); omega
theorem pad_short (l : List Nat) : (TX.pad l).length ≤ 9 * l.length := by
  unfold TX.pad
  have h1 := TX.rep_len (c := 40) (z := [32, 40, 32]) (n := 3) (by decide) (by decide) l
  have h2 := TX.rep_len (c := 41) (z := [32, 41, 32]) (n := 3) (by decide) (by decide) (TX.rep 40 [32, 40, 32] l)
  have h3 := TX.rep_len (c := 10) (z := [32]) (n := 1) (by decide) (by decide) (TX.rep 41 [32, 41, 32] (TX.rep 40 [32, 40, 32] l))
  omega
theorem cutC_short {l p : List Nat} (h : p ∈ TX.cutC l) : p.length ≤ 9 * l.length ∧ p ≠ [] := by
  unfold TX.cutC TX.wordsC at h
  obtain ⟨h1, h2⟩ := List.mem_filter.mp h
  exact ⟨Nat.le_trans (splitC_short h1) (pad_short l), of_decide_eq_true h2⟩
theorem pads (x : Str) : cpl (Txt.replace (Txt.replace (Txt.replace x "(" " ( ") ")" " ) ") "\n" " ") = TX.pad (cpl x) := by
  show cpl (Txt.replace (Txt.replace (Txt.replace x ⟨#[40]⟩ " ( ") ⟨#[41]⟩ " ) ") ⟨#[10]⟩ " ") = _
  rw [replace_cpl, replace_cpl, replace_cpl]
  rfl
def notEmpty : V → Bool
  | .str z => decide (cpl z ≠ [])
  | _ => false
theorem kept_signs : ∀ parts : List Str, ((parts.map V.str).filter notEmpty).map (fun v => v) = sgV ((parts.map cpl).filter fun p => decide (p ≠ []))
  | [] => rfl
  | p :: r => by
    have ih := kept_signs r
    unfold sgV at ih ⊢
    rw [List.map_cons, List.map_cons, List.filter_cons, List.filter_cons]
    show List.map _ (if decide (cpl p ≠ []) = true then _ else _) = _
    split
    · rw [List.map_cons, List.map_cons, ih, ofL_cpl]
    · exact ih
theorem scCut : FnScope ["text", "apart"] ["text"] (defScope sCut) := ⟨rfl, rfl, rfl, by decide +kernel, rfl, by decide +kernel, by decide +kernel⟩
theorem lcCut : LcS (defScope sCut).names [(".0", .local), ("sign", .local)] ["text", "apart"] [false, false] :=
  ⟨by decide +kernel, by decide +kernel, by decide +kernel, by decide +kernel, by decide +kernel, rfl⟩
theorem ok_cut {f : Addr} {fd : FuncData} (F : Fun K "cut" "cut" sCut f fd) : FnOk P w K mg base CX0 1 f fd ["text"] spCut := by
  refine F.okT scCut rfl (fun vs H Q E h => ?_) (fun cdv A outer s H vs Q E hr h => ?_)
  · obtain ⟨x, rfl, _⟩ := h; rfl
  · obtain ⟨x, rfl, hl, q⟩ := h
    have nd := scCut.nd
    have nd2 : (["text", "apart", "sign"] : List Str).Nodup := by decide +kernel
    refine ⟨_, psst_cons (pst_set (i := 1) nd rfl (Or.inl rfl) (pet_replace (by decide) (pet_replace (by decide) (pet_replace (by decide) (PE.t (pv 0))))))
      (pss_one (ps_ret (pe_lc (ext := ["sign"]) lcCut rfl (pi_list (pe_bm PySem.F.plainAttrs_str PySem.F.slot_str_split PySem.F.type_str_split mt_split (pv 1) (pa_cons pe_str pa_nil)))
        ⟨fun _ _ _ _ _ => pg_name (i := 2) nd2 rfl (Or.inl rfl), fun _ _ _ _ _ => pts_one (pt_cmpR op_ne (pv 2) pe_str (nomark _)), fun _ _ _ _ _ => pv 2⟩))), ?_⟩
    have e1 : (Txt.replace x "(" " ( ").length ≤ 91200 := by
      rw [← cpl_len, show cpl (Txt.replace x "(" " ( ") = TX.rep 40 (cpl " ( ") (cpl x) from replace_cpl x _ 40]
      have := TX.rep_len (c := 40) (z := cpl " ( ") (n := 3) (by decide) (by decide) (cpl x)
      rw [cpl_len x] at this
      omega
    have e2 : (Txt.replace (Txt.replace x "(" " ( ") ")" " ) ").length ≤ 273600 := by
      rw [← cpl_len, show cpl (Txt.replace (Txt.replace x "(" " ( ") ")" " ) ") = TX.rep 41 (cpl " ) ") (cpl (Txt.replace x "(" " ( ")) from replace_cpl _ _ 41]
      have := TX.rep_len (c := 41) (z := cpl " ) ") (n := 3) (by decide) (by decide) (cpl (Txt.replace x "(" " ( "))
      rw [cpl_len] at this
      omega
    have e3 : (Txt.replace (Txt.replace (Txt.replace x "(" " ( ") ")" " ) ") "\n" " ").length ≤ 273600 := by
      rw [← cpl_len, pads]
      have := pad_short (cpl x)
      rw [cpl_len] at this
      omega
    refine ⟨_, rfl, x, rfl, ?_, _, rfl, ?_, _, rfl, ?_, ?_⟩
    · show x.length + (x.length + 1) * 3 ≤ _; omega
    · show (Txt.replace x "(" " ( ").length + ((Txt.replace x "(" " ( ").length + 1) * 3 ≤ _; omega
    · show (Txt.replace (Txt.replace x "(" " ( ") ")" " ) ").length + ((Txt.replace (Txt.replace x "(" " ( ") ")" " ) ").length + 1) * 1 ≤ _; omega
    have hp := pads x
    generalize Txt.replace (Txt.replace (Txt.replace x "(" " ( ") ")" " ) ") "\n" " " = y at hp e3 ⊢
    refine ⟨_, rfl, rfl, y, _, rfl, rfl, by rfl, by rw [sizeLine_eq]; omega, fun l1 hf1 => ?_⟩
    have s1 := same_upd (o := .lst ((Txt.split y " ").map V.str)) hf1
    refine ⟨l1, rfl, ⟨_, SqL.of upd_same⟩, fun D hD => ?_⟩
    have hne : l1 ≠ D := fun e => by rw [e, upd_same] at hD; cases hD
    refine lc_list (xs := (Txt.split y " ").map V.str) notEmpty (fun v => v) (fun ys => SqL.of (by rw [upd_ne hne]; exact upd_same)) (by rw [List.length_map, sizeLine_eq]; have := split_le y " "; omega) (fun k v o ys R hk hR => ?_) (fun k v o ys R hk hp' hR => ?_) (fun H' e => ?_)
    · obtain ⟨z, hz, rfl⟩ := List.mem_map.mp (List.mem_of_getElem? hk)
      refine ⟨_, rfl, rfl, notEmpty (.str z), ?_, hR _ rfl⟩
      rw [str_is (l := []) (by rfl)]
      show V.bl (!decide (cpl z = [])) = V.bl (decide (cpl z ≠ []))
      by_cases h : cpl z = []
      · simp [h]
      · simp [h]
    · exact ⟨_, rfl, hR _ rfl⟩
    · subst e
      refine q _ D (s1.trans (same_upd hD)) (s1.free hD) ?_
      rw [upd_same, kept_signs]
      show some (HO.lst (sgV (((Txt.split y ⟨#[32]⟩).map cpl).filter fun p => decide (p ≠ [])))) = _
      rw [split_cpl, hp]
      rfl
/-! ### signs_of -/
theorem scSigns : FnScope ["text", "signs", "sign"] ["text"] (defScope sSigns) := ⟨rfl, rfl, rfl, by decide +kernel, rfl, by decide +kernel, by decide +kernel⟩
end
end K15

set_option Elab.async false
set_option linter.all false
set_option maxRecDepth 100000
set_option maxHeartbeats 4000000
set_option exponentiation.threshold 3000
/-! Signs that the reader takes: numbers as texts, words. Own work (made of a template). -/
namespace K15
open PySem L2 Builtin.Str
theorem let_plain {c : Nat} (h : isL c = true) : c ≠ 32 ∧ c ≠ 10 ∧ c ≠ 40 ∧ c ≠ 41 := by
  have h' : c ∈ LET := of_decide_eq_true h
  refine ⟨?_, ?_, ?_, ?_⟩ <;> (intro e; subst e; revert h'; decide)
theorem fig_plain {c : Nat} (h : isF c = true) : c ≠ 32 ∧ c ≠ 10 ∧ c ≠ 40 ∧ c ≠ 41 := by
  have h' : c ∈ FIG := of_decide_eq_true h
  refine ⟨?_, ?_, ?_, ?_⟩ <;> (intro e; subst e; revert h'; decide)
theorem fig_range {c : Nat} : isF c = true ↔ 48 ≤ c ∧ c ≤ 57 := by
  by_cases h : c ≤ 57
  · exact (show ∀ c : Nat, c ≤ 57 → (isF c = true ↔ 48 ≤ c ∧ c ≤ 57) by decide) c h
  · refine ⟨fun e => ?_, fun e => absurd e.2 h⟩
    unfold isF at e
    exact absurd ((show ∀ x ∈ FIG, x ≤ 57 by decide) c (of_decide_eq_true e)) h
theorem word_sign {l : List Nat} (h : wordB l = true) : TX.Plain l ∧ l ≠ [] := by
  unfold wordB at h
  rcases Bool.or_eq_true .. ▸ h with h | h
  · rcases of_decide_eq_true h with e | e <;> (subst e; exact ⟨by intro k hk; rw [List.mem_singleton.mp hk]; decide, by simp⟩)
  · obtain ⟨h1, h2⟩ := Bool.and_eq_true .. ▸ h
    refine ⟨fun k hk => ?_, fun e => by subst e; cases h1⟩
    have := List.all_eq_true.mp h2 k hk
    rcases Bool.or_eq_true .. ▸ this with g | g
    · exact let_plain g
    · exact fig_plain g
theorem num_sign {l : List Nat} (h : numB l = true) : TX.Plain l ∧ l ≠ [] := by
  unfold numB at h
  obtain ⟨h1, h2⟩ := Bool.and_eq_true .. ▸ h
  obtain ⟨h2, h3⟩ := Bool.and_eq_true .. ▸ h2
  have h1' := of_decide_eq_true h1
  have hF : ∀ k ∈ figs l, isF k = true := List.all_eq_true.mp h2
  have hne : l ≠ [] := fun e => by subst e; have := h1'.1; revert this; decide
  refine ⟨fun k hk => ?_, hne⟩
  unfold figs at hF
  by_cases h45 : l.head? = some 45
  · rw [if_pos h45] at hF
    cases l with
    | nil => exact absurd rfl hne
    | cons c r =>
      have e : c = 45 := Option.some.inj h45
      subst e
      rcases List.mem_cons.mp hk with e | hk
      · subst e; decide
      · exact fig_plain (hF k hk)
  · rw [if_neg h45] at hF
    exact fig_plain (hF k hk)
theorem good_sign {l : List Nat} (h : goodB l = true) : TX.SignC l := by
  unfold goodB at h
  rcases Bool.or_eq_true .. ▸ h with h | h
  · rcases Bool.or_eq_true .. ▸ h with h | h
    · rcases of_decide_eq_true h with e | e
      · exact .inl e
      · exact .inr (.inl e)
    · exact .inr (.inr (word_sign h))
  · exact .inr (.inr (num_sign h))
/-! ### numbers as texts -/
def digs (m : Nat) : List Nat := (Nat.toDigits 10 m).map Char.toNat
theorem cpl_num (m : Nat) : cpl (Str.ofString (toString ((m : Nat) : Int))) = digs m := PySem.W.KIN.signs_num m
theorem digs_fig {m c : Nat} (h : c ∈ digs m) : isF c = true := by
  obtain ⟨ch, hch, e⟩ := List.mem_map.mp h
  have r := Nat.isDigit_of_mem_toDigits (by decide) (by decide) hch
  rw [fig_range, ← e]
  simp [Char.isDigit] at r
  have h1 : (48 : Nat) ≤ ch.val.toNat := r.1
  have h2 : ch.val.toNat ≤ 57 := r.2
  exact ⟨h1, h2⟩
theorem digs_len {m k : Nat} (hk : 1 ≤ k) (h : m < 10 ^ k) : 1 ≤ (digs m).length ∧ (digs m).length ≤ k := by
  unfold digs
  rw [List.length_map]
  exact ⟨PyProof.Rows.tDigits_len_ge 10 m, PyProof.Rows.digits10_le hk h⟩
theorem digs_small {m : Nat} (h : m < 10) : digs m = [48 + m] := by
  unfold digs
  rw [Nat.toDigits_of_lt_base h]
  have : ∀ m < 10, [(Nat.digitChar m).toNat] = [48 + m] := by decide
  exact this m h
theorem digs_head : ∀ {m : Nat}, 0 < m → ∃ c r, digs m = c :: r ∧ c ≠ 48 := by
  intro m
  induction m using Nat.strongRecOn with
  | ind m ih =>
    intro h
    by_cases hs : m < 10
    · exact ⟨48 + m, [], digs_small hs, by omega⟩
    · obtain ⟨c, r, e, hc⟩ := ih (m / 10) (by omega) (by omega)
      have hm : m % 10 < 10 := Nat.mod_lt m (by decide)
      have t : Nat.toDigits 10 (m / 10) ++ Nat.toDigits 10 (m % 10) = Nat.toDigits 10 (10 * (m / 10) + m % 10) := Nat.toDigits_append_toDigits (by decide) (by omega) hm
      rw [Nat.div_add_mod] at t
      refine ⟨c, r ++ digs (m % 10), ?_, hc⟩
      unfold digs at e ⊢
      rw [← t, List.map_append, e]
      rfl
theorem figs_digs (m : Nat) : figs (digs m) = digs m := by
  unfold figs
  rw [if_neg]
  intro h
  have : (45 : Nat) ∈ digs m := by
    cases e : digs m with
    | nil => rw [e] at h; cases h
    | cons c r => rw [e] at h; rw [← Option.some.inj h]; exact List.mem_cons_self
  have := digs_fig this
  revert this; decide
theorem num_good {m : Nat} (h : m < 10 ^ 60) : numB (digs m) = true := by
  unfold numB
  rw [figs_digs, decide_eq_true (digs_len (by decide) h), List.all_eq_true.mpr fun c hc => digs_fig hc, Bool.true_and, Bool.true_and]
  by_cases h0 : m = 0
  · subst h0; rw [digs_small (by decide)]; decide
  · obtain ⟨c, r, e, hc⟩ := digs_head (m := m) (by omega)
    rw [e]
    simp [hc]
theorem neg_good {m : Nat} (h0 : 0 < m) (h : m < 10 ^ 60) : numB (45 :: digs m) = true := by
  have e : figs (45 :: digs m) = digs m := by unfold figs; simp
  unfold numB
  rw [e, decide_eq_true (digs_len (by decide) h), List.all_eq_true.mpr fun c hc => digs_fig hc, Bool.true_and, Bool.true_and]
  obtain ⟨c, r, e, hc⟩ := digs_head h0
  rw [e]
  simp [hc]
theorem num_is {l : List Nat} (h : numB l = true) : goodB l = true := by unfold goodB; rw [h, Bool.or_true]
theorem word_is {l : List Nat} (h : wordB l = true) : goodB l = true := by unfold goodB; rw [h, Bool.or_true, Bool.true_or]
theorem log_small {i : Int} (h0 : 0 ≤ i) (h : i < 10 ^ 100) : i.natAbs.log2 < 1920 := by
  by_cases e : i.natAbs = 0
  · rw [e]; decide
  · rw [Nat.log2_lt e]
    have h1 : (i.natAbs : Int) < ((10 ^ 100 : Nat) : Int) := by rw [Int.natAbs_of_nonneg h0]; exact_mod_cast h
    have h2 : i.natAbs < 10 ^ 100 := by exact_mod_cast h1
    exact Nat.lt_trans h2 (by decide)
theorem atI_some {α : Type} {xs : List α} {i : Int} (h0 : 0 ≤ i) (h : i < xs.length) : ∃ c, atI xs i = some c ∧ c ∈ xs := by
  have hk : i.toNat < xs.length := by omega
  refine ⟨xs[i.toNat], ?_, List.getElem_mem hk⟩
  unfold atI ixN
  rw [if_pos h0, if_pos h]
  simp [hk]
end K15

set_option Elab.async false
set_option linter.all false
set_option maxRecDepth 100000
set_option maxHeartbeats 4000000
/-! The classes of trees: how they are made, what their fields hold. Own work (made of a template for each statement that reaches them). -/
namespace K15
open PySem L2 TR
abbrev sTI : Stmt := inClass (top 14) 0
abbrev sWI : Stmt := inClass (top 15) 0
abbrev sFI : Stmt := inClass (top 16) 0
abbrev sRI : Stmt := inClass (top 17) 0
theorem maxI_deeps : ∀ (ts : List Tr), maxI (ts.map fun t => (deep t : Int)) 0 = (deeps ts : Int) := by
  have key : ∀ (ts : List Tr) (z : Nat), (ts.map fun t => (deep t : Int)).foldl (fun a b => if b > a then b else a) (z : Int) = ((max z (deeps ts) : Nat) : Int) := by
    intro ts
    induction ts with
    | nil => intro z; simp [deeps]
    | cons p r ih =>
      intro z
      simp only [List.map_cons, List.foldl_cons, deeps]
      by_cases h : (deep p : Int) > (z : Int)
      · rw [if_pos h, ih]; congr 1; omega
      · rw [if_neg h, ih]; congr 1; omega
  intro ts
  cases ts with
  | nil => rfl
  | cons p r =>
    show (r.map fun t => (deep t : Int)).foldl _ (deep p : Int) = _
    rw [key]; simp [deeps]
theorem sum_many (ts : List Tr) : (ts.map fun t => (many t : Int)).sum = (manys ts : Int) := by
  induction ts with
  | nil => rfl
  | cons p r ih => simp only [List.map_cons, List.sum_cons, manys, ih]; omega
/-! ### what is asked of the classes -/
structure TC (K : PySem.W.Frag) (C : Addr) : Prop where
  cl : Cls K C
  nA : NoAttr K C "at"
  nM : NoAttr K C "many"
  nD : NoAttr K C "deep"
  ha : PySem.W.findIn K (.ref C) "__class__" = some (some (.builtin "object.__class__"))
  hm : PySem.W.mroIn K C (.type "object") = some true
structure Tcs (K : PySem.W.Frag) (mg : Str → Option Value) (c : C4) : Prop where
  tw : TC K c.W
  tf : TC K c.F
  tr : TC K c.R
  nWn : NoAttr K c.W "name"
  nWb : NoAttr K c.W "bits"
  nFn : NoAttr K c.F "number"
  nRp : NoAttr K c.R "parts"
  mgT : mg "Tree" = some (.ref c.T)
  mgW : mg "Word" = some (.ref c.W)
  mgF : mg "Figure" = some (.ref c.F)
  mgR : mg "Row" = some (.ref c.R)
  hn : PySem.W.specialIn K (.builtin "object.__class__") "__get__" = some (some (.builtin "getset_descriptor.__get__"))
  htk : PySem.W.takesIn K (.builtin "object.__class__") = some true
  iWW : PySem.W.kitOne K (.ref c.W) (.ref c.W) = some true
  iFW : PySem.W.kitOne K (.ref c.F) (.ref c.W) = some false
  iRW : PySem.W.kitOne K (.ref c.R) (.ref c.W) = some false
  iWF : PySem.W.kitOne K (.ref c.W) (.ref c.F) = some false
  iFF : PySem.W.kitOne K (.ref c.F) (.ref c.F) = some true
  iRF : PySem.W.kitOne K (.ref c.R) (.ref c.F) = some false
  iWR : PySem.W.kitOne K (.ref c.W) (.ref c.R) = some false
  iFR : PySem.W.kitOne K (.ref c.F) (.ref c.R) = some false
  iRR : PySem.W.kitOne K (.ref c.R) (.ref c.R) = some true
  iWT : PySem.W.kitOne K (.ref c.W) (.ref c.T) = some true
  iFT : PySem.W.kitOne K (.ref c.F) (.ref c.T) = some true
  iRT : PySem.W.kitOne K (.ref c.R) (.ref c.T) = some true
  list : mg "list" = none
  max : mg "max" = none
  sum : mg "sum" = none
/-! ### fields -/
theorem fW_many {n : Str} {a : Int} {b : Nat} : (fW n a b).lookup ("many" : Str) = some (.int 1) := by rfl
theorem fW_deep {n : Str} {a : Int} {b : Nat} : (fW n a b).lookup ("deep" : Str) = some (.int 0) := by rfl
theorem fF_many {z a : Int} : (fF z a).lookup ("many" : Str) = some (.int 1) := by rfl
theorem fF_deep {z a : Int} : (fF z a).lookup ("deep" : Str) = some (.int 0) := by rfl
theorem fR_many {l : Addr} {m d : Nat} {a : Int} : (fR l m d a).lookup ("many" : Str) = some (.int m) := by rfl
theorem fR_deep {l : Addr} {m d : Nat} {a : Int} : (fR l m d a).lookup ("deep" : Str) = some (.int d) := by rfl
/-! ### promises of the program -/
def spTI (K : PySem.W.Frag) : Sp := fun vs H Q _ => ∃ (p C dx : Addr) (a m d : Int), vs = [.ref p, .int a, .int m, .int d] ∧ H p = some (.ins C dx []) ∧ TC K C ∧ Q .non (upd H p (.ins C dx (f3 a m d)))
def spWI (c : C4) : Sp := fun vs H Q _ => ∃ (p dx : Addr) (n : Str) (a : Int) (b : Nat), vs = [.ref p, .str n, .int a, .int b] ∧ H p = some (.ins c.W dx []) ∧ Q .non (upd H p (.ins c.W dx (fW n a b)))
def spFI (c : C4) : Sp := fun vs H Q _ => ∃ (p dx : Addr) (z a : Int), vs = [.ref p, .int z, .int a] ∧ H p = some (.ins c.F dx []) ∧ Q .non (upd H p (.ins c.F dx (fF z a)))
def spRI (c : C4) : Sp := fun vs H Q _ => ∃ (p dx l : Addr) (us : List V) (ts : List Tr) (a : Int), vs = [.ref p, .ref l, .int a] ∧ H p = some (.ins c.R dx []) ∧ H l = some (.lst us) ∧ TrsIn c All H ts us ∧ ts.length ≤ 1000 ∧
  ∀ (H' : Hp) (l2 : Addr), (∀ b o, b ≠ p → H b = some o → H' b = some o) → H' p = some (.ins c.R dx (fR l2 (1 + manys ts) (deeps ts + 1) a)) → H l2 = none → H' l2 = some (.lst us) → Q .non H'
/-- the free addresses -/
abbrev Free (H : Hp) : Addr → Prop := fun q => H q = none
section
variable {P : Program} {w : World} {K : PySem.W.Frag} {mg : Str → Option Value} {base : Heap} {c : C4}
theorem scTI : FnScope ["self", "at", "many", "deep"] ["self", "at", "many", "deep"] (defScope sTI) := ⟨rfl, rfl, rfl, by decide +kernel, rfl, by decide +kernel, by decide +kernel⟩
theorem ok_ti {f : Addr} {fd : FuncData} (F : Fun K "__init__" "Tree.__init__" sTI f fd) : FnOk P w K mg base CX0 1 f fd ["self", "at", "many", "deep"] (spTI K) := by
  refine F.ok scTI (fun vs H Q E h => ?_) (fun cdv A outer s H vs Q E hr h => ?_)
  · obtain ⟨p, C, dx, a, m, d, rfl, _⟩ := h; rfl
  · obtain ⟨p, C, dx, a, m, d, rfl, hp, tc, q⟩ := h
    refine ⟨_, pss_cons (ps_fld (pv 0) (pv 1) rfl) (pss_cons (ps_fld (pv 0) (pv 2) rfl) (pss_one (ps_fld (pv 0) (pv 3) rfl))), ?_⟩
    refine ⟨_, rfl, _, rfl, p, C, dx, [], rfl, hp, tc.cl, tc.nA, (by show 0 < 1000; decide), ?_⟩
    rw [putF_nil]
    refine ⟨_, rfl, _, rfl, p, C, dx, _, rfl, upd_same, tc.cl, tc.nM, (by show 1 < 1000; decide), ?_⟩
    rw [put_many, upd_upd]
    refine ⟨_, rfl, _, rfl, p, C, dx, _, rfl, upd_same, tc.cl, tc.nD, (by show 2 < 1000; decide), ?_⟩
    rw [put_deep, upd_upd]
    exact q
theorem scWI : FnScope ["self", "name", "at", "bits"] ["self", "name", "at", "bits"] (defScope sWI) := ⟨rfl, rfl, rfl, by decide +kernel, rfl, by decide +kernel, by decide +kernel⟩
theorem ok_wi {f fT T0 : Addr} {fd fdT : FuncData} (F : FunD K "__init__" "Word.__init__" sWI f fd T0) (T : Tcs K mg c) (FT : Fun K "__init__" "Tree.__init__" sTI fT fdT) (bT : Binds K fdT ["self", "at", "many", "deep"] []) (cT : ClsFn K c.T "__init__" fT) :
    FnOk P w K mg base CX0 2 f fd ["self", "name", "at", "bits"] (spWI c) := by
  have GT : FnOk P w K mg base CX0 1 fT fdT ["self", "at", "many", "deep"] (spTI K) := ok_ti FT
  refine F.ok scWI (fun vs H Q E h => ?_) (fun cdv A outer s H vs Q E hr h => ?_)
  · obtain ⟨p, dx, n, a, b, rfl, _⟩ := h; rfl
  · obtain ⟨p, dx, n, a, b, rfl, hp, q⟩ := h
    refine ⟨_, pss_cons (ps_expr (pe_clsfn (by rfl) T.mgT cT GT hr bT .nil pass0 (pa_cons (pv 0) (pa_cons (pv 2) (pa_cons pe_int (pa_cons pe_int pa_nil))))))
      (pss_cons (ps_fld (pv 0) (pv 1) rfl) (pss_one (ps_fld (pv 0) (pv 3) rfl))), ?_⟩
    refine ⟨_, rfl, _, rfl, p, c.W, dx, a, 1, 0, rfl, hp, T.tw, ?_⟩
    refine ⟨_, rfl, _, rfl, p, c.W, dx, _, rfl, upd_same, T.tw.cl, T.nWn, (by show 3 < 1000; decide), ?_⟩
    rw [put_x (by decide +kernel) (by decide +kernel) (by decide +kernel), upd_upd]
    refine ⟨_, rfl, _, rfl, p, c.W, dx, _, rfl, upd_same, T.tw.cl, T.nWb, (by show 4 < 1000; decide), ?_⟩
    rw [put_bits, upd_upd]
    exact q
theorem scFI : FnScope ["self", "number", "at"] ["self", "number", "at"] (defScope sFI) := ⟨rfl, rfl, rfl, by decide +kernel, rfl, by decide +kernel, by decide +kernel⟩
theorem ok_fi {f fT : Addr} {fd fdT : FuncData} (F : Fun K "__init__" "Figure.__init__" sFI f fd) (T : Tcs K mg c) (FT : Fun K "__init__" "Tree.__init__" sTI fT fdT) (bT : Binds K fdT ["self", "at", "many", "deep"] []) (cT : ClsFn K c.T "__init__" fT) :
    FnOk P w K mg base CX0 2 f fd ["self", "number", "at"] (spFI c) := by
  have GT : FnOk P w K mg base CX0 1 fT fdT ["self", "at", "many", "deep"] (spTI K) := ok_ti FT
  refine F.ok scFI (fun vs H Q E h => ?_) (fun cdv A outer s H vs Q E hr h => ?_)
  · obtain ⟨p, dx, z, a, rfl, _⟩ := h; rfl
  · obtain ⟨p, dx, z, a, rfl, hp, q⟩ := h
    refine ⟨_, pss_cons (ps_expr (pe_clsfn (by rfl) T.mgT cT GT hr bT .nil pass0 (pa_cons (pv 0) (pa_cons (pv 2) (pa_cons pe_int (pa_cons pe_int pa_nil))))))
      (pss_one (ps_fld (pv 0) (pv 1) rfl)), ?_⟩
    refine ⟨_, rfl, _, rfl, p, c.F, dx, a, 1, 0, rfl, hp, T.tf, ?_⟩
    refine ⟨_, rfl, _, rfl, p, c.F, dx, _, rfl, upd_same, T.tf.cl, T.nFn, (by show 3 < 1000; decide), ?_⟩
    rw [put_x (by decide +kernel) (by decide +kernel) (by decide +kernel), upd_upd]
    exact q
/-! ### what a tree's fields hold -/
theorem fld_many {t : Tr} {v : V} {H : Hp} (T : Tcs K mg c) (x : TrIn c All H t v) : ∃ p C dx fs, v = .ref p ∧ H p = some (.ins C dx fs) ∧ Cls K C ∧ NoAttr K C "many" ∧ fs.lookup ("many" : Str) = some (.int (many t)) := by
  cases t with
  | word n a b =>
    simp only [TrIn] at x
    obtain ⟨p, dx, e, _, h⟩ := x
    exact ⟨p, _, dx, _, e, h, T.tw.cl, T.tw.nM, fW_many⟩
  | fig z a =>
    simp only [TrIn] at x
    obtain ⟨p, dx, e, _, h⟩ := x
    exact ⟨p, _, dx, _, e, h, T.tf.cl, T.tf.nM, fF_many⟩
  | row ps a =>
    simp only [TrIn] at x
    obtain ⟨p, dx, l, vs, e, _, h, _⟩ := x
    exact ⟨p, _, dx, _, e, h, T.tr.cl, T.tr.nM, by rw [fR_many]; simp only [many]⟩
theorem fld_deep {t : Tr} {v : V} {H : Hp} (T : Tcs K mg c) (x : TrIn c All H t v) : ∃ p C dx fs, v = .ref p ∧ H p = some (.ins C dx fs) ∧ Cls K C ∧ NoAttr K C "deep" ∧ fs.lookup ("deep" : Str) = some (.int (deep t)) := by
  cases t with
  | word n a b =>
    simp only [TrIn] at x
    obtain ⟨p, dx, e, _, h⟩ := x
    exact ⟨p, _, dx, _, e, h, T.tw.cl, T.tw.nD, fW_deep⟩
  | fig z a =>
    simp only [TrIn] at x
    obtain ⟨p, dx, e, _, h⟩ := x
    exact ⟨p, _, dx, _, e, h, T.tf.cl, T.tf.nD, fF_deep⟩
  | row ps a =>
    simp only [TrIn] at x
    obtain ⟨p, dx, l, vs, e, _, h, _⟩ := x
    exact ⟨p, _, dx, _, e, h, T.tr.cl, T.tr.nD, by rw [fR_deep]; simp only [deep]⟩
theorem take_snoc {α : Type} {xs : List α} {k : Nat} {x : α} (h : xs[k]? = some x) : xs.take (k + 1) = xs.take k ++ [x] := by rw [List.take_succ, h]; rfl
/-! ### Row.__init__ -/
theorem scRI : FnScope ["self", "parts", "at", "many", "deep"] ["self", "parts", "at"] (defScope sRI) := ⟨rfl, rfl, rfl, by decide +kernel, rfl, by decide +kernel, by decide +kernel⟩
theorem lcRI : LcS (defScope sRI).names [(".0", .local), ("part", .local)] ["self", "parts", "at", "many", "deep"] [false, false, false, false, false] :=
  ⟨by decide +kernel, by decide +kernel, by decide +kernel, by decide +kernel, by decide +kernel, rfl⟩
theorem ndRI : (["self", "parts", "at", "many", "deep", "part"] : List Str).Nodup := by decide +kernel
theorem ok_ri {f fT : Addr} {fd fdT : FuncData} (F : Fun K "__init__" "Row.__init__" sRI f fd) (T : Tcs K mg c) (FT : Fun K "__init__" "Tree.__init__" sTI fT fdT) (bT : Binds K fdT ["self", "at", "many", "deep"] []) (cT : ClsFn K c.T "__init__" fT) :
    FnOk P w K mg base CX0 2 f fd ["self", "parts", "at"] (spRI c) := by
  have GT : FnOk P w K mg base CX0 1 fT fdT ["self", "at", "many", "deep"] (spTI K) := ok_ti FT
  refine F.ok scRI (fun vs H Q E h => ?_) (fun cdv A outer s H vs Q E hr h => ?_)
  · obtain ⟨p, dx, l, us, ts, a, rfl, _⟩ := h; rfl
  · obtain ⟨p, dx, l, us, ts, a, rfl, hp, hl, hts, hlen, q⟩ := h
    have nd := scRI.nd
    refine ⟨_, pss_cons (ps_set (i := 3) nd rfl (Or.inl rfl) (pe_op op_add pe_int (pe_callB (call_sumI rfl) (by rfl) T.sum bt_sum (pa_cons (pe_lc (ext := ["part"]) lcRI rfl (pi_list (pv 1))
          ⟨fun _ _ _ _ _ => pg_name (i := 5) ndRI rfl (Or.inl rfl), fun _ _ _ _ _ => pts_nil, fun _ _ _ _ _ => (pe_fld (pv 5) rfl : PE _ _ (tFld K (tVar 5) ("many" : Str)))⟩) pa_nil))))
      (pss_cons (ps_set (i := 4) nd rfl (Or.inl rfl) (pe_op op_add pe_int (pe_maxD rfl (by rfl) T.max (pa_cons (pe_lc (ext := ["part"]) lcRI rfl (pi_list (pv 1))
          ⟨fun _ _ _ _ _ => pg_name (i := 5) ndRI rfl (Or.inl rfl), fun _ _ _ _ _ => pts_nil, fun _ _ _ _ _ => (pe_fld (pv 5) rfl : PE _ _ (tFld K (tVar 5) ("deep" : Str)))⟩) pa_nil))))
      (pss_cons (ps_expr (pe_clsfn (by rfl) T.mgT cT GT hr bT .nil pass0 (pa_cons (pv 0) (pa_cons (pv 2) (pa_cons (pv 3) (pa_cons (pv 4) pa_nil))))))
      (pss_one (ps_fld (pv 0) (pe_callTy call_list_of (by rfl) T.list bt_list (pa_cons (pv 1) pa_nil)) rfl)))), ?_⟩
    have hul : us.length = ts.length := hts.length
    have hsz : us.length ≤ sizeLine := by rw [sizeLine_eq]; omega
    -- many
    refine ⟨_, rfl, l, rfl, ⟨_, SqL.of hl⟩, fun D hD => ?_⟩
    refine lc_grow (xs := us) (fun k ys H1 => ys = (ts.take k).map fun t => V.int (many t)) hD (SqL.of hl) hsz rfl (fun k x v ys H1 R hx hy hS hDD hP hR => ?_) (fun ys H1 hy hS hDD hP => ?_)
    · obtain ⟨t, ht, htr⟩ := hts.get hx
      obtain ⟨p', C, dx', fs, ev, hp', cl, na, hlk⟩ := fld_many T (htr.same hS)
      refine ⟨_, rfl, p', C, dx', fs, _, ev, hp', cl, na, hlk, hR _ _ (Same.refl _) ?_⟩
      rw [take_snoc ht, List.map_append, hP]; rfl
    have hys : ys = (ts.map fun t => (many t : Int)).map V.int := by
      rw [hP, hul, List.take_length, List.map_map]; rfl
    refine ⟨D, ts.map fun t => (many t : Int), rfl, SqL.of (by rw [hDD, hys]), _, _, rfl, rfl, ?_⟩
    rw [sum_many]
    have hl1 := hS _ _ hl
    have hp1 := hS _ _ hp
    -- deep
    refine ⟨_, rfl, l, rfl, ⟨_, SqL.of hl1⟩, fun D2 hD2 => ?_⟩
    refine lc_grow (xs := us) (fun k ys H2 => ys = (ts.take k).map fun t => V.int (deep t)) hD2 (SqL.of hl1) hsz rfl (fun k x v ys H2 R hx hy hS2 hDD2 hP2 hR => ?_) (fun ys2 H2 hy2 hS2 hDD2 hP2 => ?_)
    · obtain ⟨t, ht, htr⟩ := hts.get hx
      obtain ⟨p', C, dx', fs, ev, hp', cl, na, hlk⟩ := fld_deep T (htr.same (hS.trans hS2))
      refine ⟨_, rfl, p', C, dx', fs, _, ev, hp', cl, na, hlk, hR _ _ (Same.refl _) ?_⟩
      rw [take_snoc ht, List.map_append, hP2]; rfl
    have hys2 : ys2 = (ts.map fun t => (deep t : Int)).map V.int := by
      rw [hP2, hul, List.take_length, List.map_map]; rfl
    refine ⟨D2, ts.map fun t => (deep t : Int), rfl, SqL.of (by rw [hDD2, hys2]), _, _, rfl, rfl, ?_⟩
    rw [maxI_deeps]
    have hl2 := hS2 _ _ hl1
    have hp2 := hS2 _ _ hp1
    have hSS := hS.trans hS2
    -- Tree.__init__
    refine ⟨_, rfl, _, rfl, _, rfl, _, rfl, p, c.R, dx, a, _, _, rfl, hp2, T.tr, ?_⟩
    have npl : l ≠ p := ne_of hl hp (by intro z; cases z)
    -- parts
    refine ⟨_, rfl, l, us, rfl, .inl (SqL.of (by rw [upd_ne npl]; exact hl2)), fun l2 hl2n => ?_⟩
    have np2 : l2 ≠ p := fun z => by rw [z, upd_same] at hl2n; cases hl2n
    refine ⟨_, rfl, p, c.R, dx, _, rfl, (by rw [upd_ne np2.symm, upd_same]), T.tr.cl, T.nRp, (by show 3 < 1000; decide), ?_⟩
    rw [put_x (by decide +kernel) (by decide +kernel) (by decide +kernel)]
    have hl2H : H2 l2 = none := by rw [upd_ne np2] at hl2n; exact hl2n
    refine q _ l2 (fun b o hb e => ?_) ?_ (hSS.free hl2H) ?_
    · have nb : b ≠ l2 := fun z => by rw [z, hSS.free hl2H] at e; cases e
      rw [upd_ne hb, upd_ne nb, upd_ne hb]
      exact hSS _ _ e
    · rw [upd_same]
      unfold fR
      simp only [Int.natCast_add, Int.natCast_one]
      congr 4
      all_goals first | rfl | (simp only [V.int.injEq, Prod.mk.injEq, List.cons.injEq, true_and, and_true]; omega)
    · rw [upd_ne np2, upd_same]
theorem made_same {H : Hp} {x dx : Addr} {o : HO} {o' : HO} (hx : H x = none) (hd : H dx = none) : Same H (upd (upd H dx o) x o') := fun b u e => by
  rw [upd_ne (ne_of_none e hx), upd_ne (ne_of_none e hd)]; exact e
/-- the makers of the classes -/
structure Mks (K : PySem.W.Frag) (c : C4) (fW fF fR : Addr) : Prop where
  w : Mk K c.W fW
  f : Mk K c.F fF
  r : Mk K c.R fR
theorem row_made2 {N : Addr → Prop} {H : Hp} {l x dx : Addr} {us : List V} {ts : List Tr} {a : Int} {S : Hp → Prop} (hN : ∀ b, H b = none → N b) (hl : H l = some (.lst us)) (hts : TrsIn c N H ts us) (hlen : ts.length ≤ 1000)
    (nx : H x = none) (ndx : H dx = none) (q : ∀ (H' : Hp), Same H H' → TrIn c N H' (.row ts a) (.ref x) → S H') :
    spRI c (.ref x :: ([.ref l, .int a] ++ [])) (upd (upd H dx (.own x)) x (.ins c.R dx [])) (fun v H2 => v = .non ∧ S H2) E0 := by
  have hM := made_same (o := .own x) (o' := .ins c.R dx []) nx ndx
  refine ⟨x, dx, l, us, ts, a, rfl, upd_same, hM _ _ hl, hts.mono fun b o _ e => ⟨trivial, hM _ _ e⟩, hlen, fun H' l2 hk hx hl2 hl2' => ⟨rfl, ?_⟩⟩
  have hS' : Same H H' := fun b o e => hk b o (ne_of_none e nx) (hM _ _ e)
  refine q _ hS' ?_
  simp only [TrIn]
  exact ⟨x, dx, l2, us, rfl, hN _ nx, hx, hN _ (hM.free hl2), hl2', hlen, hts.mono fun b o n e => ⟨n, hS' _ _ e⟩⟩
end
end K15

set_option Elab.async false
set_option linter.all false
set_option maxRecDepth 100000
set_option maxHeartbeats 4000000
set_option exponentiation.threshold 3000
/-! The reader of trees: leaf, read. Own work (made of a template). -/
namespace K15
open PySem L2 TR
abbrev sRead : Stmt := top 28
abbrev sLeafR : Stmt := top 29
/-! ### signs and what they are read as -/
inductive Sg where
  | op | cl
  | wd (n : Str)
  | nm (z : Int)
def txt : Sg → List Nat
  | .op => [40]
  | .cl => [41]
  | .wd n => cpl n
  | .nm z => cpl (Str.ofString (toString z))
def SgOk : Sg → Prop
  | .op => True
  | .cl => True
  | .wd n => wordB (cpl n) = true
  | .nm z => -(10 ^ 60) < z ∧ z < 10 ^ 60
def leafT (i : Nat) : Sg → Tr
  | .wd n => .word n i 0
  | .nm z => .fig z i
  | _ => .row [] i
abbrev PSt := List (Int × List Tr) × List Tr
def stp (i : Nat) : Sg → PSt → Option PSt
  | .op, (st, ts) => if st.length < 60 then some ((((i : Nat) : Int), ts) :: st, []) else none
  | .cl, ((a, us) :: st, ts) => some (st, us ++ [.row ts a])
  | .cl, ([], _) => none
  | .wd n, (st, ts) => some (st, ts ++ [.word n i 0])
  | .nm z, (st, ts) => some (st, ts ++ [.fig z i])
def run : List Sg → Nat → PSt → Option PSt
  | [], _, s => some s
  | g :: r, i, s => (stp i g s).bind (run r (i + 1))
/-! ### numbers that are read -/
theorem digs_all (m : Nat) : PySem.NumText.AllDigits (digs m) := by
  intro c hc
  have := fig_range.mp (digs_fig hc)
  exact this
theorem neg_text (m : Nat) (h : 0 < m) : cpl (Str.ofString (toString (-(m : Int)))) = 45 :: digs m := by
  have e := PyProof.Rows.toString_neg (n := -(m : Int)) (by omega)
  rw [e, show (0 - -(m : Int)) = (m : Int) by omega, ← cpl_num]
  show (Str.ofString ("-" ++ toString (m : Int))).cps.toList = 45 :: (Str.ofString (toString (m : Int))).cps.toList
  rw [PyProof.Rows.signs_ofString, PyProof.Rows.signs_ofString, String.toList_append, List.map_append]
  rfl
theorem num_text {z : Int} (h : SgOk (.nm z)) : PySem.intText? (Str.ofString (toString z)) = some z ∧ (Str.ofString (toString z)).length ≤ 61 ∧ numB (txt (.nm z)) = true := by
  obtain ⟨h1, h2⟩ := h
  by_cases h0 : 0 ≤ z
  · obtain ⟨m, rfl⟩ := Int.eq_ofNat_of_zero_le h0
    have hm : m < 10 ^ 60 := by exact_mod_cast h2
    have ec := cpl_num m
    have hl := digs_len (by decide) hm
    have hlen : (Str.ofString (toString ((m : Nat) : Int))).length ≤ 60 := by rw [← cpl_len, ec]; exact hl.2
    refine ⟨?_, by show (Str.ofString (toString ((m : Nat) : Int))).length ≤ 61; omega, by show numB (cpl (Str.ofString (toString ((m : Nat) : Int)))) = true; rw [ec]; exact num_good hm⟩
    have e := PySem.intText_digits (x := Str.ofString (toString ((m : Nat) : Int))) (by show PySem.NumText.AllDigits (cpl _); rw [ec]; exact digs_all m) (by show cpl _ ≠ []; rw [ec]; intro z; rw [z] at hl; exact absurd hl.1 (by decide)) (by omega)
    have ev : PySem.NumText.digitsVal (Str.ofString (toString ((m : Nat) : Int))).cps.toList = m := by
      show PySem.NumText.digitsVal (cpl _) = m
      rw [ec]; exact PySem.W.KIN.val_back m
    rw [ev] at e
    exact e
  · obtain ⟨m, hm⟩ : ∃ m : Nat, z = -(m : Int) := ⟨(-z).toNat, by omega⟩
    subst hm
    have hm0 : 0 < m := by omega
    have hm : m < 10 ^ 60 := by
      have : (m : Int) < 10 ^ 60 := by omega
      exact_mod_cast this
    have ec := neg_text m hm0
    have hl := digs_len (by decide) hm
    have hlen : (Str.ofString (toString (-(m : Int)))).length ≤ 61 := by rw [← cpl_len, ec, List.length_cons]; omega
    refine ⟨?_, hlen, by show numB (cpl (Str.ofString (toString (-(m : Int))))) = true; rw [ec]; exact neg_good hm0 hm⟩
    have e := PySem.intText_neg (x := Str.ofString (toString (-(m : Int)))) (cs := digs m) ec (digs_all m) (by intro z; rw [z] at hl; exact absurd hl.1 (by decide)) (by omega)
    rw [show PySem.NumText.digitsVal (digs m) = m from PySem.W.KIN.val_back m] at e
    exact e
theorem call_int_str {X : Cx} : CallR X (.type "int") (fun xs H Q => ∃ x z, xs = [.str x] ∧ PySem.intText? x = some z ∧ x.length ≤ 640 ∧ Q (.int z) H) := by
  intro pins s σ H xs us Q I r h
  obtain ⟨x, z, rfl, hx, hl, q⟩ := h
  obtain ⟨u, rfl, t, rfl⟩ := vals1 r
  exact PySem.W.KIN.call_text hx hl ⟨.int z, H, I.tok _, ⟨_, rfl⟩, q⟩
theorem sg_good {g : Sg} (h : SgOk g) : goodB (txt g) = true := by
  cases g with
  | op => decide
  | cl => decide
  | wd n => exact word_is h
  | nm z => exact num_is (num_text h).2.2
theorem num_noword {l : List Nat} (h : numB l = true) : wordB l = false := by
  unfold numB at h
  obtain ⟨h1, h2⟩ := Bool.and_eq_true .. ▸ h
  obtain ⟨h2, h3⟩ := Bool.and_eq_true .. ▸ h2
  have h1' := of_decide_eq_true h1
  have hF : ∀ k ∈ figs l, isF k = true := List.all_eq_true.mp h2
  have hd : headIs isL l = false := by
    cases l with
    | nil => rfl
    | cons c r =>
      show isL c = false
      unfold figs at hF
      by_cases h45 : (c :: r).head? = some 45
      · have e : c = 45 := Option.some.inj h45
        subst e; decide
      · rw [if_neg h45] at hF
        have hc := fig_range.mp (hF c List.mem_cons_self)
        cases e : isL c with
        | false => rfl
        | true =>
          have : c ∈ LET := of_decide_eq_true e
          have hge : ∀ k ∈ LET, 97 ≤ k := by decide
          have := hge c this
          omega
  have hne : ¬ (l = [42] ∨ l = [61]) := by
    rintro (e | e)
    · subst e; revert h2; decide
    · subst e; revert h2; decide
  unfold wordB
  rw [hd, decide_eq_false hne]; rfl
section
variable {P : Program} {w : World} {K : PySem.W.Frag} {mg : Str → Option Value} {base : Heap} {c : C4} {nn br : Addr}
/-! ### leaf -/
def spLeafR (c : C4) : Sp := fun vs H Q _ => ∃ (g : Sg) (i : Nat), vs = [.str (ofL (txt g)), .int i] ∧ SgOk g ∧ (txt g).length ≤ 300000 ∧ (g ≠ .op ∧ g ≠ .cl) ∧ ∀ (H' : Hp) (x : V), Same H H' → TrIn c (Free H) H' (leafT i g) x → Q x H'
theorem scLeafR : FnScope ["sign", "at"] ["sign", "at"] (defScope sLeafR) := ⟨rfl, rfl, rfl, by decide +kernel, rfl, by decide +kernel, by decide +kernel⟩
theorem ok_leafR {f fX fW fF : Addr} {fd fdX fdW fdF : FuncData} {fr : Addr} {t0 : Tok} (F : Fun K "leaf" "leaf" sLeafR f fd) (T : Tcs K mg c) (R : Rd K mg nn br) (hint : mg "int" = none) (M : Mks K c fW fF fr)
    (GW : FnOk P w K mg base CX0 2 fW fdW ["self", "name", "at", "bits"] (spWI c)) (bW : Binds K fdW ["self", "name", "at", "bits"] [.int 0 t0])
    (GF : FnOk P w K mg base CX0 2 fF fdF ["self", "number", "at"] (spFI c)) (bF : Binds K fdF ["self", "number", "at"] [])
    (FX : Fun K "is_word" "is_word" sWord fX fdX) (bX : Binds K fdX ["sign"] []) (mX : mg "is_word" = some (.ref fX)) :
    FnOk P w K mg base CX0 4 f fd ["sign", "at"] (spLeafR c) := by
  have GX : FnOk P w K mg base CX0 1 fX fdX ["sign"] spWord := ok_word FX R
  refine F.ok scLeafR (fun vs H Q E h => ?_) (fun cdv A outer s H vs Q E hr h => ?_)
  · obtain ⟨g, i, rfl, _⟩ := h; rfl
  · obtain ⟨g, i, rfl, hg, hl, hn, q⟩ := h
    have hr1 : Room 1 _ := hr.mono (by decide)
    refine ⟨_, pss_cons (ps_if (pt_val (pe_call GX hr1 (by rfl) mX FX.kp bX .nil pass0 (pa_cons (pv 0) pa_nil))) (pss_one (ps_ret (pe_make M.w GW hr (by rfl) T.mgW bW (dvs := [.int 0]) (.cons ⟨t0, rfl⟩ .nil) pass0 (pa_cons (pv 0) (pa_cons (pv 1) pa_nil))))) pss_nil)
      (pss_one (ps_ret (pe_make M.f GF hr (by rfl) T.mgF bF .nil pass0 (pa_cons (pe_callTy call_int_str (by rfl) hint bt_int (pa_cons (pv 0) pa_nil)) (pa_cons (pv 1) pa_nil))))), ?_⟩
    have hcl := cpl_ofL (txt g)
    have hne : txt g ≠ [] := by
      have := good_sign (sg_good hg)
      rcases this with e | e | e
      · rw [e]; simp
      · rw [e]; simp
      · exact e.2
    refine ⟨_, rfl, ofL (txt g), rfl, by rw [← cpl_len, hcl]; omega, by rw [hcl]; exact hne, fun H1 s1 => ⟨_, rfl, ?_⟩⟩
    rw [hcl]
    cases g with
    | op => exact absurd rfl hn.1
    | cl => exact absurd rfl hn.2
    | wd n =>
      have hw : wordB (txt (.wd n)) = true := hg
      rw [hw]
      refine iteT ⟨_, rfl, _, rfl, ?_⟩
      intro x dx nx ndx nex
      refine ⟨x, dx, ofL (txt (.wd n)), i, 0, rfl, upd_same, rfl, ?_⟩
      rw [upd_upd]
      refine q _ _ (s1.trans (made_same nx ndx)) ?_
      simp only [TrIn, leafT]
      refine ⟨x, dx, rfl, s1.free nx, ?_⟩
      rw [upd_same]
      show some (HO.ins c.W dx (TR.fW (ofL (cpl n)) i 0)) = _
      rw [ofL_cpl]
    | nm z =>
      have ht := num_text hg
      rw [num_noword ht.2.2]
      have e : ofL (txt (.nm z)) = Str.ofString (toString z) := ofL_cpl _
      refine iteF ⟨_, rfl, ofL (txt (.nm z)), z, rfl, by rw [e]; exact ht.1, by rw [e]; omega, _, rfl, ?_⟩
      intro x dx nx ndx nex
      refine ⟨x, dx, z, i, rfl, upd_same, rfl, ?_⟩
      rw [upd_upd]
      refine q _ _ (s1.trans (made_same nx ndx)) ?_
      simp only [TrIn, leafT]
      exact ⟨x, dx, rfl, s1.free nx, upd_same⟩
end
end K15

set_option Elab.async false
set_option linter.all false
set_option maxRecDepth 100000
set_option maxHeartbeats 4000000
/-! The reader of trees: read. Own work (made of a template). -/
namespace K15
open PySem L2 TR
/-! ### the lists that are begun, in the heap: tuple, at, list, its values, its trees; the newest first -/
abbrev En := Addr × Int × Addr × List V × List Tr
def mts (R l : Addr) (st : List En) : List Addr := R :: l :: st.map (·.2.2.1)
def Nb (H0 : Hp) (M : List Addr) : Addr → Prop := fun b => H0 b = none ∧ b ∉ M
structure Bg (c : C4) (H0 H : Hp) (R l : Addr) (st : List En) (vs : List V) (ts : List Tr) (m : Nat) : Prop where
  same : Same H0 H
  new : ∀ b ∈ mts R l st, H0 b = none
  nd : (mts R l st).Nodup
  rr : H R = some (.lst (st.reverse.map fun e => V.ref e.1))
  cu : H l = some (.lst vs)
  cts : TrsIn c (Nb H0 (mts R l st)) H ts vs
  cl : ts.length ≤ m
  ent : ∀ e ∈ st, H e.1 = some (.tup [.int e.2.1, .ref e.2.2.1]) ∧ H e.2.2.1 = some (.lst e.2.2.2.1) ∧ TrsIn c (Nb H0 (mts R l st)) H e.2.2.2.2 e.2.2.2.1 ∧ e.2.2.2.2.length ≤ m
  dep : st.length ≤ 60
section
variable {c : C4} {H0 H : Hp} {R l : Addr} {st : List En} {vs : List V} {ts : List Tr} {m : Nat}
theorem Bg.lst (B : Bg c H0 H R l st vs ts m) {b : Addr} (h : b ∈ mts R l st) : ∃ xs, H b = some (.lst xs) := by
  rcases List.mem_cons.mp h with e | h
  · exact ⟨_, by rw [e]; exact B.rr⟩
  · rcases List.mem_cons.mp h with e | h
    · exact ⟨_, by rw [e]; exact B.cu⟩
    · obtain ⟨e, he, rfl⟩ := List.mem_map.mp h
      exact ⟨_, (B.ent e he).2.1⟩
theorem Bg.tup (B : Bg c H0 H R l st vs ts m) {e : En} (he : e ∈ st) : e.1 ∉ mts R l st := fun h => by
  obtain ⟨xs, hx⟩ := B.lst h
  rw [(B.ent e he).1] at hx; cases hx
/-- trees stay where they are while lists that are begun change -/
theorem keepT {M M' : List Addr} {H' : Hp} {us : List Tr} {ws : List V} (x : TrsIn c (Nb H0 M) H us ws) (hk : ∀ b o, b ∉ M → H b = some o → H' b = some o) (hM : ∀ b ∈ M', b ∈ M ∨ H b = none) : TrsIn c (Nb H0 M') H' us ws :=
  x.mono fun b o n e => ⟨⟨n.1, fun z => (hM b z).elim n.2 fun z' => by rw [z'] at e; cases e⟩, hk b o n.2 e⟩
/-- the heap has grown -/
theorem Bg.grow (B : Bg c H0 H R l st vs ts m) {H' : Hp} (s : Same H H') : Bg c H0 H' R l st vs ts m :=
  ⟨B.same.trans s, B.new, B.nd, s _ _ B.rr, s _ _ B.cu, keepT B.cts (fun b o _ e => s b o e) (fun b h => .inl h), B.cl, fun e he => by
    obtain ⟨h1, h2, h3, h4⟩ := B.ent e he
    exact ⟨s _ _ h1, s _ _ h2, keepT h3 (fun b o _ e => s b o e) (fun b h => .inl h), h4⟩, B.dep⟩
/-- one tree more -/
theorem Bg.add (B : Bg c H0 H R l st vs ts m) {t : Tr} {v : V} (hv : TrIn c (Nb H0 (mts R l st)) H t v) : Bg c H0 (upd H l (.lst (vs ++ [v]))) R l st (vs ++ [v]) (ts ++ [t]) (m + 1) := by
  have nd := B.nd
  have hRl : R ≠ l := fun e => by unfold mts at nd; rw [e] at nd; exact (List.nodup_cons.mp nd).1 List.mem_cons_self
  have hl : l ∈ mts R l st := List.mem_cons_of_mem _ List.mem_cons_self
  have hk : ∀ b o, b ∉ mts R l st → H b = some o → upd H l (.lst (vs ++ [v])) b = some o := fun b o n e => by rw [upd_ne (show b ≠ l from fun z => n (by rw [z]; exact hl))]; exact e
  refine ⟨fun b o e => ?_, B.new, B.nd, ?_, upd_same, ?_, ?_, fun e he => ?_, B.dep⟩
  · rw [upd_ne (ne_of_none e (B.new l hl))]; exact B.same b o e
  · rw [upd_ne hRl]; exact B.rr
  · refine TrsIn.snoc ?_ (keepT B.cts hk (fun b h => .inl h))
    exact hv.mono fun b o n e => ⟨n, hk b o n.2 e⟩
  · rw [List.length_append, List.length_singleton]; have := B.cl; omega
  · obtain ⟨h1, h2, h3, h4⟩ := B.ent e he
    have n1 : e.1 ≠ l := fun z => B.tup he (z ▸ hl)
    have n2 : e.2.2.1 ≠ l := fun z => by
      have : l ∈ st.map (·.2.2.1) := List.mem_map.mpr ⟨e, he, z⟩
      unfold mts at nd
      exact (List.nodup_cons.mp (List.nodup_cons.mp nd).2).1 this
    exact ⟨by rw [upd_ne n1]; exact h1, by rw [upd_ne n2]; exact h2, keepT h3 hk (fun b h => .inl h), by omega⟩
/-- a row is begun -/
theorem Bg.openR (B : Bg c H0 H R l st vs ts m) {p l' : Addr} {a : Int} (hp : H p = none) (hl' : upd (upd H p (.tup [.int a, .ref l])) R (.lst ((st.reverse.map fun e => V.ref e.1) ++ [.ref p])) l' = none) (hd : st.length < 60) :
    Bg c H0 (upd (upd (upd H p (.tup [.int a, .ref l])) R (.lst ((st.reverse.map fun e => V.ref e.1) ++ [.ref p]))) l' (.lst [])) R l' ((p, a, l, vs, ts) :: st) [] [] (m + 1) := by
  have nd := B.nd
  have hRm : R ∈ mts R l st := List.mem_cons_self
  have hlm : l ∈ mts R l st := List.mem_cons_of_mem _ List.mem_cons_self
  have npR : p ≠ R := fun z => by rw [z, B.rr] at hp; cases hp
  have nlR : l' ≠ R := fun z => by rw [z, upd_same] at hl'; cases hl'
  rw [upd_ne nlR] at hl'
  have nlp : l' ≠ p := fun z => by rw [z, upd_same] at hl'; cases hl'
  rw [upd_ne nlp] at hl'
  have hRl : R ≠ l := fun e => by unfold mts at nd; rw [e] at nd; exact (List.nodup_cons.mp nd).1 List.mem_cons_self
  have out : ∀ b o, b ≠ R → H b = some o → (upd (upd (upd H p (.tup [.int a, .ref l])) R (.lst ((st.reverse.map fun e => V.ref e.1) ++ [.ref p]))) l' (.lst [])) b = some o := fun b o n e => by
    rw [upd_ne (ne_of_none e hl'), upd_ne n, upd_ne (ne_of_none e hp)]; exact e
  have hk : ∀ b o, b ∉ mts R l st → H b = some o → (upd (upd (upd H p (.tup [.int a, .ref l])) R (.lst ((st.reverse.map fun e => V.ref e.1) ++ [.ref p]))) l' (.lst [])) b = some o := fun b o n e => out b o (fun z => n (z ▸ hRm)) e
  have hM : ∀ b ∈ mts R l' ((p, a, l, vs, ts) :: st), b ∈ mts R l st ∨ H b = none := fun b hb => by
    rcases List.mem_cons.mp hb with e | hb
    · exact .inl (e ▸ hRm)
    · rcases List.mem_cons.mp hb with e | hb
      · exact .inr (e ▸ hl')
      · exact .inl (List.mem_cons_of_mem _ hb)
  refine ⟨fun b o e => ?_, fun b hb => ?_, ?_, ?_, upd_same, ?_, Nat.zero_le _, fun e he => ?_, by rw [List.length_cons]; omega⟩
  · exact out b o (ne_of_none e (B.new R hRm)) (B.same b o e)
  · rcases hM b hb with h | h
    · exact B.new b h
    · exact B.same.free h
  · unfold mts at nd ⊢
    rw [List.map_cons]
    have h1 := List.nodup_cons.mp nd
    have h2 := List.nodup_cons.mp h1.2
    have hlst : l' ∉ l :: st.map (·.2.2.1) := fun z => by
      obtain ⟨xs, hx⟩ := B.lst (b := l') (List.mem_cons_of_mem _ z)
      rw [hl'] at hx; cases hx
    refine List.nodup_cons.mpr ⟨fun z => ?_, List.nodup_cons.mpr ⟨hlst, h1.2⟩⟩
    rcases List.mem_cons.mp z with e | z
    · exact nlR e.symm
    · exact h1.1 z
  · rw [upd_ne nlR.symm, upd_same, List.reverse_cons, List.map_append]; rfl
  · simp only [TrsIn]
  · rcases List.mem_cons.mp he with e' | he
    · subst e'
      refine ⟨?_, ?_, keepT B.cts hk hM, Nat.le_trans B.cl (by omega)⟩
      · show (upd (upd (upd H p _) R _) l' _) p = _
        rw [upd_ne nlp.symm, upd_ne npR, upd_same]
      · exact out l _ hRl.symm B.cu
    · obtain ⟨h1, h2, h3, h4⟩ := B.ent e he
      have n2 : e.2.2.1 ≠ R := fun z => by
        have : R ∈ l :: st.map (·.2.2.1) := List.mem_cons_of_mem _ (List.mem_map.mpr ⟨e, he, z⟩)
        unfold mts at nd
        exact (List.nodup_cons.mp nd).1 this
      exact ⟨out _ _ (fun z => B.tup he (z ▸ hRm)) h1, out _ _ n2 h2, keepT h3 hk hM, by omega⟩
/-- the newest row is shut: its list is let go -/
theorem Bg.shut {p l0 : Addr} {a : Int} {us : List V} {ps : List Tr} (B : Bg c H0 H R l ((p, a, l0, us, ps) :: st) vs ts m) :
    Bg c H0 (upd H R (.lst (st.reverse.map fun e => V.ref e.1))) R l0 st us ps m ∧ upd H R (.lst (st.reverse.map fun e => V.ref e.1)) l = some (.lst vs) ∧ TrsIn c (Nb H0 (mts R l0 st)) (upd H R (.lst (st.reverse.map fun e => V.ref e.1))) ts vs := by
  have nd := B.nd
  have hRm : R ∈ mts R l ((p, a, l0, us, ps) :: st) := List.mem_cons_self
  have out : ∀ b o, b ≠ R → H b = some o → upd H R (.lst (st.reverse.map fun e => V.ref e.1)) b = some o := fun b o n e => by rw [upd_ne n]; exact e
  have hk : ∀ b o, b ∉ mts R l ((p, a, l0, us, ps) :: st) → H b = some o → upd H R (.lst (st.reverse.map fun e => V.ref e.1)) b = some o := fun b o n e => out b o (fun z => n (z ▸ hRm)) e
  have hsub : ∀ b ∈ mts R l0 st, b ∈ mts R l ((p, a, l0, us, ps) :: st) := fun b hb => by
    rcases List.mem_cons.mp hb with e | hb
    · exact e ▸ hRm
    · exact List.mem_cons_of_mem _ (List.mem_cons_of_mem _ hb)
  have hnd : (mts R l0 st).Nodup := by
    unfold mts at nd ⊢
    rw [List.map_cons] at nd
    have h1 := List.nodup_cons.mp nd
    exact List.nodup_cons.mpr ⟨fun z => h1.1 (List.mem_cons_of_mem _ z), (List.nodup_cons.mp h1.2).2⟩
  obtain ⟨e1, e2, e3, e4⟩ := B.ent _ List.mem_cons_self
  have hR0 : l0 ≠ R := fun z => by unfold mts at hnd; rw [z] at hnd; exact (List.nodup_cons.mp hnd).1 List.mem_cons_self
  have hRl : l ≠ R := fun z => by unfold mts at nd; rw [z] at nd; exact (List.nodup_cons.mp nd).1 List.mem_cons_self
  refine ⟨?_, out _ _ hRl B.cu, keepT B.cts hk (fun b h => .inl (hsub b h))⟩
  refine ⟨fun b o e => out b o (ne_of_none e (B.new R hRm)) (B.same b o e), fun b hb => B.new b (hsub b hb), hnd, upd_same, out _ _ hR0 e2, keepT e3 hk (fun b h => .inl (hsub b h)), e4, fun e he => ?_, by have := B.dep; rw [List.length_cons] at this; omega⟩
  obtain ⟨h1, h2, h3, h4⟩ := B.ent e (List.mem_cons_of_mem _ he)
  have n2 : e.2.2.1 ≠ R := fun z => by
    have : R ∈ l0 :: st.map (·.2.2.1) := List.mem_cons_of_mem _ (List.mem_map.mpr ⟨e, he, z⟩)
    unfold mts at hnd
    exact (List.nodup_cons.mp hnd).1 this
  exact ⟨out _ _ (fun z => B.tup (List.mem_cons_of_mem _ he) (z ▸ hRm)) h1, out _ _ n2 h2, keepT h3 hk (fun b h => .inl (hsub b h)), h4⟩
theorem Bg.fresh (B : Bg c H0 H R l st vs ts m) {b : Addr} (h : H b = none) : Nb H0 (mts R l st) b := ⟨B.same.free h, fun z => by
  obtain ⟨xs, hx⟩ := B.lst z
  rw [h] at hx; cases hx⟩
end
/-! ### read -/
def pst (st : List En) : List (Int × List Tr) := st.map fun e => (e.2.1, e.2.2.2.2)
section
variable {P : Program} {w : World} {K : PySem.W.Frag} {mg : Str → Option Value} {base : Heap} {c : C4} {nn br : Addr}
theorem scRead : FnScope ["text", "trees", "begun", "at", "sign", "last", "row"] ["text"] (defScope sRead) := ⟨rfl, rfl, rfl, by decide +kernel, rfl, by decide +kernel, by decide +kernel⟩
theorem txt_is {g : Sg} {l : List Nat} (hg : SgOk g) (h : txt g = l) (hl : l = [40] ∨ l = [41]) : (g = .op ∧ l = [40]) ∨ (g = .cl ∧ l = [41]) := by
  cases g with
  | op => rcases hl with e | e
          · exact .inl ⟨rfl, e⟩
          · rw [e] at h; exact absurd h (by decide)
  | cl => rcases hl with e | e
          · rw [e] at h; exact absurd h (by decide)
          · exact .inr ⟨rfl, e⟩
  | wd n =>
    have hp := (word_sign (show wordB (txt (.wd n)) = true from hg)).1
    rw [h] at hp
    rcases hl with e | e <;> (rw [e] at hp; have := hp _ List.mem_cons_self; omega)
  | nm z =>
    have hp := (num_sign (num_text hg).2.2).1
    rw [h] at hp
    rcases hl with e | e <;> (rw [e] at hp; have := hp _ List.mem_cons_self; omega)
end
end K15

set_option Elab.async false
set_option linter.all false
set_option maxRecDepth 100000
set_option maxHeartbeats 4000000
/-! k15: HouseError.__init__, signs_of that refuses. Own work. -/
namespace K15
open PySem L2 TR XC
abbrev sHI : Stmt := inClass (top 2) 0
/-- what a class of refusals must tell -/
structure EC (K : PySem.W.Frag) (C : Addr) : Prop where
  c : ECls K C
  tA : PySem.W.takerIn K C "at" = some none
  tO : PySem.W.takerIn K C "other" = some none
def spHI (K : PySem.W.Frag) : Sp := fun vs H Q _ => ∃ (x C : Addr) (ws a o : V), vs = [.ref x, ws, a, o] ∧ H x = some (exN x C none) ∧ EC K C ∧
  ∀ (dx : Addr) (H' : Hp), H dx = none → dx ≠ x → (∀ b u, b ≠ x → H b = some u → H' b = some u) → H' x = some (exN x C (some dx)) → H' dx = some (dxO dx [("at", a), ("other", o)]) → Q .non H'
def spSignsX (cN : Addr) : Sp := fun vs H Q E => ∃ x : Str, vs = [.str x] ∧ x.length ≤ 30400 ∧ (∀ l ∈ TX.cutC (cpl x), ∀ k ∈ l, k < 16 ^ 8) ∧
  ((∀ l ∈ TX.cutC (cpl x), goodB l = true) → ∀ (H' : Hp) (D : Addr), Same H H' → H D = none → H' D = some (.lst (sgV (TX.cutC (cpl x)))) → Q (.ref D) H') ∧
  (∀ l ∈ TX.cutC (cpl x), goodB l = false → ∀ (x : Addr) (H' : Hp), Same H H' → H x = none → ExAt H' x cN [("at", .non), ("other", .non)] → E (.ref cN) (some x) H')
section
variable {P : Program} {w : World} {K : PySem.W.Frag} {mg : Str → Option Value} {base : Heap} {c : C4} {cN nn br : Addr}
theorem okX {x qual : Str} {st : Stmt} {f : Addr} {fd : FuncData} {N ps : List Str} {k : Nat} {sp : Sp} (F : Fun K x qual st f fd) (S : FnScope N ps (defScope st)) (len : ∀ vs H Q E, sp vs H Q E → vs.length = ps.length)
    (hbody : ∀ (cdv : Value) (A : Around) (outer : List Env) (s : Shared) (H : Hp) (vs : List V) (Q : VK) (E : XK), Room k (A.deeper (PyProof.Rows.envOfC qual (defScope st) s.heap.objs.size f cdv)) → sp vs H Q E →
      ∃ t, PSs (cxOf (CXE P w) P w K mg base N qual (defScope st) f cdv A outer s H E) (defBody st) t ∧ t { nx := fun _ H' => Q .non H', rt := Q } (start N vs) H) : FnOk P w K mg base (CXE P w) (k + 1) f fd ps sp := by
  obtain ⟨oc, od, kV, doc, pm, an, cdv, ct, osl, rfl, lk, hcd⟩ := F.ex
  exact fn_of lk hcd S len fun A outer s H vs Q E hr hsp => hbody cdv A outer s H vs Q E hr hsp
theorem scHI : FnScope ["self", "words", "at", "other"] ["self", "words", "at", "other"] (defScope sHI) := ⟨rfl, rfl, rfl, by decide +kernel, rfl, by decide +kernel, by decide +kernel⟩
theorem put_other (a o : V) : putF ("other" : Str) o [(("at" : Str), a)] = ([(("at" : Str), a), (("other" : Str), o)] : List (Str × V)) := by rfl
theorem ok_hi {f T0 : Addr} {fd : FuncData} (F : FunD K "__init__" "HouseError.__init__" sHI f fd T0) (hve : mg "ValueError" = none) (hfc : PySem.W.findCls K (.type "ValueError") (.type "type") "__init__" = some (.val (.builtin "ValueError.__init__"))) :
    FnOk P w K mg base CX0 1 f fd ["self", "words", "at", "other"] (spHI K) := by
  refine F.ok scHI (fun vs H Q E h => ?_) (fun cdv A outer s H vs Q E hr h => ?_)
  · obtain ⟨x, C, ws, a, o, rfl, _⟩ := h; rfl
  · obtain ⟨x, C, ws, a, o, rfl, hx, ec, q⟩ := h
    refine ⟨_, pss_cons (ps_expr (pe_vinit (by rfl) hve hfc (pa_cons (pv 0) (pa_cons (pv 1) pa_nil)))) (pss_cons (ps_fldX (pv 0) (pv 2) rfl) (pss_one (ps_fldX (pv 0) (pv 3) rfl))), ?_⟩
    refine ⟨_, rfl, _, rfl, x, C, _, rfl, hx, ec.c, ?_⟩
    refine ⟨_, rfl, _, rfl, x, C, rfl, ec.c, ec.tA, .inl ⟨hx, fun dx hdx hne => ?_⟩⟩
    refine ⟨_, rfl, _, rfl, x, C, rfl, ec.c, ec.tO, .inr ⟨dx, [("at", a)], upd_same, (by rw [upd_ne hne, upd_same]), hne, (by show 1 < 1000; decide), ?_⟩⟩
    rw [put_other]
    refine q dx _ hdx hne (fun b u nb e => ?_) ?_ upd_same
    · have nd : b ≠ dx := ne_of_none e hdx
      rw [upd_ne nd, upd_ne nb, upd_ne nd]; exact e
    · rw [upd_ne (Ne.symm hne), upd_same]
/-- what is asked to refuse with the class cN -/
structure Rf (P : Program) (w : World) (K : PySem.W.Frag) (mg : Str → Option Value) (base : Heap) (cN fH : Addr) (fdH : FuncData) : Prop where
  M : MkE K cN fH
  e : EC K cN
  m : mg "NoText" = some (.ref cN)
  G : FnOk P w K mg base CX0 1 fH fdH ["self", "words", "at", "other"] (spHI K)
  b : Binds K fdH ["self", "words", "at", "other"] [.none, .none]
/-- a refusal is made and leaves -/
theorem refusal {H H' : Hp} {E : XK} {ws : V} (eN : EC K cN) (sH : Same H H') (qe : ∀ (x : Addr) (H' : Hp), Same H H' → H x = none → ExAt H' x cN [("at", .non), ("other", .non)] → E (.ref cN) (some x) H') :
    ∀ x, H' x = none → spHI K (.ref x :: ([ws] ++ [.non, .non])) (upd H' x (exN x cN none)) (fun v H2 => v = .non ∧ rsQ cN E (.ref x) H2) E0 := fun x hx => by
  refine ⟨x, cN, _, _, _, rfl, upd_same, eN, fun dx2 H2 hdx hne hk h1 h2 => ⟨rfl, x, some dx2, rfl, h1, ?_⟩⟩
  refine qe x _ (fun b u e => ?_) (sH.free hx) ⟨dx2, .inl upd_same, by rw [upd_ne hne]; exact h2⟩
  have nb : b ≠ x := fun z => by rw [z, sH.free hx] at e; cases e
  rw [upd_ne nb]
  exact hk b u nb (by rw [upd_ne nb]; exact sH _ _ e)
theorem ok_signsX {f fC fW fN fH : Addr} {fd fdC fdW fdN fdH : FuncData} (F : Fun K "signs_of" "signs_of" sSigns f fd) (R : Rd K mg nn br)
    (FC : Fun K "cut" "cut" sCut fC fdC) (bC : Binds K fdC ["text"] []) (mC : mg "cut" = some (.ref fC))
    (FW : Fun K "is_word" "is_word" sWord fW fdW) (bW : Binds K fdW ["sign"] []) (mW : mg "is_word" = some (.ref fW))
    (FN : Fun K "is_number" "is_number" sNumb fN fdN) (bN : Binds K fdN ["sign"] []) (mN : mg "is_number" = some (.ref fN)) (B : Rf P w K mg base cN fH fdH) :
    FnOk P w K mg base (CXE P w) 3 f fd ["text"] (spSignsX cN) := by
  have GC : FnOk P w K mg base CX0 2 fC fdC ["text"] spCut := (ok_cut FC).mono (by decide)
  have GW : FnOk P w K mg base CX0 2 fW fdW ["sign"] spWord := (ok_word FW R).mono (by decide)
  have GN : FnOk P w K mg base CX0 2 fN fdN ["sign"] spNumb := (ok_numb FN R).mono (by decide)
  have GH := B.G
  refine okX F scSigns (fun vs H Q E h => ?_) (fun cdv A outer s H vs Q E hr h => ?_)
  · obtain ⟨x, rfl, _⟩ := h; rfl
  · obtain ⟨x, rfl, hl, hsm, q, qe⟩ := h
    have nd := scSigns.nd
    have NW : NewX (cxOf (CXE P w) P w K mg base ["text", "signs", "sign"] "signs_of" (defScope sSigns) f cdv A outer s H E) cN E := fun pins σ H1 s1 x od I hx hz hE => xe_new I hx hz hE
    refine ⟨_, pss_cons (ps_set (i := 1) nd rfl (Or.inl rfl) (pe_call GC hr (by rfl) mC FC.kp bC .nil pass0 (pa_cons (pv 0) pa_nil)))
      (pss_cons (ps_for PassesOwn.leaving rfl (pi_list (pv 1)) (pg_name (i := 2) nd rfl (Or.inl rfl))
        (pss_one (ps_if (pt_not (PW.pt (pw_or (pt_cmpR op_in_seq (pv 2) (pe_glob (v := .ref br) (by rfl) R.mgB rfl) rfl) (pw_or (pt_val (pe_call GW hr (by rfl) mW FW.kp bW .nil pass0 (pa_cons (pv 2) pa_nil))) (pw_or1 (pt_val (pe_call GN hr (by rfl) mN FN.kp bN .nil pass0 (pa_cons (pv 2) pa_nil))))))))
          (pss_one (ps_raise NW rfl B.M GH hr (by rfl) B.m B.b (dvs := [.non, .non]) (.cons rfl (.cons rfl .nil)) (pa_cons (pe_fsR (pv 2)) pa_nil))) pss_nil)))
      (pss_one (ps_ret (pv 1)))), ?_⟩
    refine ⟨_, rfl, x, rfl, hl, fun H1 D s1 hD h1 => ?_⟩
    refine ⟨_, rfl, D, rfl, ⟨_, SqL.of h1⟩, for_list (xs := sgV (TX.cutC (cpl x))) (fun i σ H' => (∃ v, σ = [some (.str x), some (.ref D), v]) ∧ Same H1 H' ∧ ∀ l ∈ (TX.cutC (cpl x)).take i, goodB l = true) ⟨⟨_, rfl⟩, Same.refl _, fun l h => by simp at h⟩ (fun i σ H' _ ⟨_, e, _⟩ => SqL.of (e _ _ h1)) ?_ ?_⟩
    · rintro i v σ H' hi ⟨⟨v', rfl⟩, s2, hgs⟩
      obtain ⟨l, hli, rfl⟩ : ∃ l, (TX.cutC (cpl x))[i]? = some l ∧ V.str (ofL l) = v := by
        unfold sgV at hi
        rw [List.getElem?_map] at hi
        exact Option.map_eq_some_iff.mp hi
      have hlm : l ∈ TX.cutC (cpl x) := List.mem_of_getElem? hli
      have more : goodB l = true → ∀ k ∈ (TX.cutC (cpl x)).take (i + 1), goodB k = true := fun hg k hk => by
        rw [List.take_add_one, hli] at hk
        rcases List.mem_append.mp hk with h | h
        · exact hgs k h
        · rw [show k = l from by simpa using h]; exact hg
      obtain ⟨hsh, hne⟩ := cutC_short hlm
      rw [cpl_len] at hsh
      have hlen : (ofL l).length ≤ 300000 := by rw [← cpl_len, cpl_ofL]; omega
      have hcl := cpl_ofL l
      refine ⟨_, rfl, br, _, rfl, .inr (R.brT _), rfl, rfl, decide (l = [40] ∨ l = [41]), ?_, ?_⟩
      · show V.bl (inV _ _) = _
        rw [in_two (c := 40) (d := 41) rfl rfl, hcl]
      by_cases hb : l = [40] ∨ l = [41]
      · rw [decide_eq_true hb]
        exact iteT (iteF ⟨⟨_, rfl⟩, s2, more (by unfold goodB; rw [decide_eq_true hb]; rfl)⟩)
      · rw [decide_eq_false hb]
        refine iteF ⟨_, rfl, ofL l, rfl, hlen, by rw [hcl]; exact hne, fun H2 s3 => ⟨_, rfl, ?_⟩⟩
        rw [hcl]
        cases hwb : wordB l with
        | true => exact iteT (iteF ⟨⟨_, rfl⟩, s2.trans s3, more (word_is hwb)⟩)
        | false =>
          refine iteF ⟨_, rfl, ofL l, rfl, hlen, by rw [hcl]; exact hne, fun H3 s4 => ⟨_, rfl, ?_⟩⟩
          rw [hcl]
          cases hnb : numB l with
          | true => exact iteF ⟨⟨_, rfl⟩, s2.trans (s3.trans s4), more (num_is hnb)⟩
          | false =>
            refine iteT ?_
            refine ⟨_, rfl, ofL l, rfl, hlen, (fun k hk => hsm l hlm k (by rw [← hcl]; exact hk)), fun y => ?_⟩
            exact refusal B.e (s1.trans (s2.trans (s3.trans s4))) (qe l hlm (by unfold goodB; rw [decide_eq_false hb, hwb, hnb]; rfl))
    · rintro σ H' ⟨⟨v', rfl⟩, s2, hgs⟩
      refine ⟨_, rfl, q (fun l hl => hgs l ?_) H' D (s1.trans s2) hD (s2 _ _ h1)⟩
      have e : (sgV (TX.cutC (cpl x))).length = (TX.cutC (cpl x)).length := by unfold sgV; rw [List.length_map]
      rw [e, List.take_length]
      exact hl
end
end K15

set_option Elab.async false
set_option linter.all false
set_option maxRecDepth 100000
set_option maxHeartbeats 4000000
/-! k15: read that refuses. Own work. -/
namespace K15
open PySem L2 TR XC
def fin : Option PSt → Option (List Tr)
  | some ([], ts) => some ts
  | _ => none
/-- what a text is read as -/
def Reads (x : Str) (o : Option (List Tr)) : Prop := ((∃ l ∈ TX.cutC (cpl x), goodB l = false) ∧ o = none) ∨ ∃ sgs : List Sg, (∀ g ∈ sgs, SgOk g) ∧ TX.cutC (cpl x) = sgs.map txt ∧ sgs.length ≤ 900 ∧ fin (run sgs 0 ([], [])) = o
def spReadX (c : C4) (cN : Addr) : Sp := fun vs H Q E => ∃ (x : Str) (o : Option (List Tr)), vs = [.str x] ∧ x.length ≤ 30400 ∧ (∀ l ∈ TX.cutC (cpl x), ∀ k ∈ l, k < 16 ^ 8) ∧ Reads x o ∧
  (∀ ts, o = some ts → ∀ (H' : Hp) (D : Addr) (us : List V), Same H H' → H D = none → H' D = some (.lst us) → TrsIn c (fun b => H b = none ∧ b ≠ D) H' ts us → Q (.ref D) H') ∧
  (o = none → ∀ (x : Addr) (H' : Hp), Same H H' → H x = none → ExAt H' x cN [("at", .non), ("other", .non)] → E (.ref cN) (some x) H')
section
variable {P : Program} {w : World} {K : PySem.W.Frag} {mg : Str → Option Value} {base : Heap} {c : C4} {cN nn br : Addr}
theorem ok_readX {f fS fL fR fH : Addr} {fd fdS fdL fdR fdH : FuncData} {fW fF : Addr} (F : Fun K "read" "read" sRead f fd) (T : Tcs K mg c) (R : Rd K mg nn br) (hen : mg "enumerate" = none) (hmd : ∃ t, mg "MOST_DEEP" = some (.int 60 t)) (M : Mks K c fW fF fR)
    (GR : FnOk P w K mg base CX0 2 fR fdR ["self", "parts", "at"] (spRI c)) (bR : Binds K fdR ["self", "parts", "at"] [])
    (kS : PySem.W.keepIn K (.ref fS) = true) (GS : FnOk P w K mg base (CXE P w) 4 fS fdS ["text"] (spSignsX cN)) (bS : Binds K fdS ["text"] []) (mS : mg "signs_of" = some (.ref fS))
    (kL : PySem.W.keepIn K (.ref fL) = true) (GL : FnOk P w K mg base CX0 4 fL fdL ["sign", "at"] (spLeafR c)) (bL : Binds K fdL ["sign", "at"] []) (mL : mg "leaf" = some (.ref fL)) (BR : Rf P w K mg base cN fH fdH) :
    FnOk P w K mg base (CXE P w) 5 f fd ["text"] (spReadX c cN) := by
  obtain ⟨tmd, hmd⟩ := hmd
  have GH := BR.G
  refine okX F scRead (fun vs H Q E h => ?_) (fun cdv A outer s H vs Q E hr h => ?_)
  · obtain ⟨x, o, rfl, _⟩ := h; rfl
  · obtain ⟨x, o, rfl, hx, hsm, hrd, q, qe⟩ := h
    have NW : NewX (cxOf (CXE P w) P w K mg base ["text", "trees", "begun", "at", "sign", "last", "row"] "read" (defScope sRead) f cdv A outer s H E) cN E := fun pins σ H1 s1 x od I hx hz hE => xe_new I hx hz hE
    have hr1 : Room 2 _ := hr.mono (by decide)
    have nd := scRead.nd
    have hr3 : Room 3 _ := hr.mono (by decide)
    refine ⟨_, pss_cons (ps_set (i := 1) nd rfl (Or.inl rfl) (pe_lst pa_nil))
      (pss_cons (ps_set (i := 2) nd rfl (Or.inl rfl) (pe_lst pa_nil))
      (pss_cons (ps_for PassesOwn.leaving rfl (pi_enum (by rfl) hen (pa_cons (pe_call GS hr (by rfl) mS kS bS .nil pass_on (pa_cons (pv 0) pa_nil)) pa_nil)) (pg_tup rfl (pgs_cons (pg_name (i := 3) nd rfl (Or.inl rfl)) (pgs_cons (pg_name (i := 4) nd rfl (Or.inl rfl)) pgs_nil)))
        (pss_one (ps_if (pt_cmpR op_eq (pv 4) pe_str (nomark _))
          (pss_cons (ps_expr (pe_bm PySem.F.plainAttrs_list PySem.F.slot_list_append PySem.F.type_list_append mt_append (pv 2) (pa_cons (pe_tup (pa_cons (pv 3) (pa_cons (pv 1) pa_nil))) pa_nil)))
            (pss_cons (ps_set (i := 1) nd rfl (Or.inl rfl) (pe_lst pa_nil))
            (pss_one (ps_if (pt_cmpR op_gt (pe_callB call_len_seq (by rfl) R.len bt_len (pa_cons (pv 2) pa_nil)) (pe_glob (v := .int 60) (by rfl) hmd ⟨_, rfl⟩) (nomark _)) (pss_one (ps_raise NW rfl BR.M GH hr1 (by rfl) BR.m BR.b (dvs := [.non, .non]) (.cons rfl (.cons rfl .nil)) (pa_cons pe_str pa_nil))) pss_nil))))
          (pss_one (ps_if (pt_cmpR op_eq (pv 4) pe_str (nomark _))
            (pss_cons (ps_if (pt_cmpR op_eq (pe_callB call_len_seq (by rfl) R.len bt_len (pa_cons (pv 2) pa_nil)) pe_int (nomark _)) (pss_one (ps_raise NW rfl BR.M GH hr1 (by rfl) BR.m BR.b (dvs := [.non, .non]) (.cons rfl (.cons rfl .nil)) (pa_cons pe_str pa_nil))) pss_nil)
            (pss_cons (ps_set (i := 5) nd rfl (Or.inl rfl) (pe_bm0 PySem.F.plainAttrs_list PySem.F.slot_list_pop PySem.F.type_list_pop mt_pop (pv 2)))
            (pss_cons (ps_set (i := 6) nd rfl (Or.inl rfl) (pe_make M.r GR hr3 (by rfl) T.mgR bR .nil pass0 (pa_cons (pv 1) (pa_cons (pe_ix ix_tup (pv 5) pe_int (fun _ _ => rfl)) pa_nil))))
            (pss_cons (ps_set (i := 1) nd rfl (Or.inl rfl) (pe_ix ix_tup (pv 5) pe_int (fun _ _ => rfl)))
            (pss_one (ps_expr (pe_bm PySem.F.plainAttrs_list PySem.F.slot_list_append PySem.F.type_list_append mt_append (pv 1) (pa_cons (pv 6) pa_nil))))))))
            (pss_one (ps_expr (pe_bm PySem.F.plainAttrs_list PySem.F.slot_list_append PySem.F.type_list_append mt_append (pv 1) (pa_cons (pe_call GL hr (by rfl) mL kL bL .nil pass0 (pa_cons (pv 4) (pa_cons (pv 3) pa_nil))) pa_nil)))))))))
      (pss_cons (ps_if (pt_cmpR op_gt (pe_callB call_len_seq (by rfl) R.len bt_len (pa_cons (pv 2) pa_nil)) pe_int (nomark _)) (pss_one (ps_raise NW rfl BR.M GH hr1 (by rfl) BR.m BR.b (dvs := [.non, .non]) (.cons rfl (.cons rfl .nil)) (pa_cons pe_str pa_nil))) pss_nil)
      (pss_one (ps_ret (pv 1)))))), ?_⟩
    refine ⟨Nat.zero_le _, fun l0 hl0 => ⟨Nat.zero_le _, fun Rb hRb => ?_⟩⟩
    have hRl : Rb ≠ l0 := fun z => by rw [z, upd_same] at hRb; cases hRb
    have s2 := (same_upd (o := .lst []) hl0).trans (same_upd (o := .lst []) hRb)
    refine ⟨_, rfl, x, rfl, hx, hsm, fun hall H3 D0 s3 hD0 h3 => ?_, fun l hl hb x' H3 s3 hx' ex => ?_⟩
    case refine_2 =>
      have eo : o = none := by
        rcases hrd with ⟨_, e⟩ | ⟨sgs, hok, hcut, _, _⟩
        · exact e
        · rw [hcut] at hl
          obtain ⟨g, hg, rfl⟩ := List.mem_map.mp hl
          rw [sg_good (hok g hg)] at hb; cases hb
      exact qe eo x' H3 (s2.trans s3) (s2.free hx') ex
    obtain ⟨sgs, hok, hcut, hlen, hrun⟩ : ∃ sgs, (∀ g ∈ sgs, SgOk g) ∧ TX.cutC (cpl x) = sgs.map txt ∧ sgs.length ≤ 900 ∧ fin (run sgs 0 ([], [])) = o := by
      rcases hrd with ⟨⟨l, hl, hb⟩, _⟩ | h
      · rw [hall l hl] at hb; cases hb
      · exact h
    rw [hcut] at h3
    have hD0R : D0 ≠ Rb := fun z => by rw [z, upd_same] at hD0; cases hD0
    have hD0l : D0 ≠ l0 := fun z => by rw [z, upd_ne hRl.symm, upd_same] at hD0; cases hD0
    have B0 : Bg c H H3 Rb l0 [] [] [] 0 := by
      refine ⟨s2.trans s3, fun b hb => ?_, ?_, s3 _ _ upd_same, s3 _ _ (by rw [upd_ne hRl.symm]; exact upd_same), by simp only [TrsIn], Nat.le_refl _, (fun e he => nomatch he), Nat.zero_le _⟩
      · rcases List.mem_cons.mp hb with e | hb
        · rw [e]; exact (same_upd hl0).free hRb
        · rw [List.mem_singleton.mp hb]; exact hl0
      · unfold mts
        simp [hRl]
    refine ⟨D0, rfl, ⟨_, SqL.of h3⟩, for_enum (xs := sgV (sgs.map txt)) (fun i σ H' => ∃ (l : Addr) (st : List En) (vs : List V) (ts : List Tr) (v3 v4 v5 v6 : Option V), σ = [some (.str x), some (.ref l), some (.ref Rb), v3, v4, v5, v6] ∧ Bg c H H' Rb l st vs ts i ∧ H' D0 = some (.lst (sgV (sgs.map txt))) ∧ D0 ∉ mts Rb l st ∧ fin (run (sgs.drop i) i (pst st, ts)) = o)
      ⟨l0, [], [], [], none, none, none, none, rfl, B0, h3, by unfold mts; simp [hD0R, hD0l], hrun⟩ (fun i σ H' _ ⟨_, _, _, _, _, _, _, _, _, _, e, _⟩ => SqL.of e) ?_ ?_⟩
    · rintro i y p σ H' hi ⟨l, st, vs, ts, v3, v4, v5, v6, rfl, B', hD', hDm, hrun'⟩ hp
      obtain ⟨g, eg, rfl⟩ : ∃ g, sgs[i]? = some g ∧ V.str (ofL (txt g)) = y := by
        unfold sgV at hi
        rw [List.map_map, List.getElem?_map] at hi
        obtain ⟨g, eg, e⟩ := Option.map_eq_some_iff.mp hi
        exact ⟨g, eg, e⟩
      have hil : i < sgs.length := (List.getElem?_eq_some_iff.mp eg).1
      have hg := hok g (List.mem_of_getElem? eg)
      have edrop : sgs.drop i = g :: sgs.drop (i + 1) := by
        rw [List.drop_eq_getElem_cons hil]
        congr 1
        exact (List.getElem?_eq_some_iff.mp eg).2
      rw [edrop] at hrun'
      have sp1 := same_upd (o := .tup [.int (i : Nat), .str (ofL (txt g))]) hp
      have B := B'.grow sp1
      have hD := sp1 _ _ hD'
      have hpp : upd H' p (.tup [.int (i : Nat), .str (ofL (txt g))]) p = some (.tup [.int (i : Nat), .str (ofL (txt g))]) := upd_same
      clear B'
      generalize upd H' p (.tup [.int (i : Nat), .str (ofL (txt g))]) = H1 at B hD hpp ⊢
      refine ⟨p, _, rfl, SqT.of hpp, rfl, _, _, rfl, _, _, rfl, rfl, ?_⟩
      have hdep : st.length ≤ 60 := B.dep
      have hcl := B.cl
      have hvl : vs.length = ts.length := B.cts.length
      have hkey : ∀ l : List Nat, l = [40] ∨ l = [41] → ∀ y : Str, cpl y = l → decide (V.str (ofL (txt g)) = V.str y) = decide (txt g = l) := fun l _ y hy => by
        rw [str_is hy, cpl_ofL]
      refine ⟨_, rfl, rfl, decide (txt g = [40]), by rw [hkey [40] (.inl rfl) "(" (by decide)], ?_⟩
      by_cases h40 : txt g = [40]
      · -- a row is begun
        have eg' : g = .op := by
          rcases txt_is hg h40 (.inl rfl) with e | e
          · exact e.1
          · exact absurd e.2 (by decide)
        subst eg'
        have hpl : (pst st).length = st.length := by unfold pst; rw [List.length_map]
        have hrun3 : fin ((if (pst st).length < 60 then some (((((i : Nat) : Int), ts) :: pst st, []) : PSt) else none).bind (run (sgs.drop (i + 1)) (i + 1))) = o := hrun'
        rw [decide_eq_true h40]
        have hlr : (st.reverse.map fun e => V.ref e.1).length = st.length := by rw [List.length_map, List.length_reverse]
        refine iteT ⟨_, rfl, .inl ⟨rfl, _, SqL.of B.rr⟩, _, rfl, _, rfl, (by show 2 ≤ sizeLine; rw [sizeLine_eq]; decide), fun p2 hp2 => ?_⟩
        have npR : Rb ≠ p2 := fun z => by rw [← z, B.rr] at hp2; cases hp2
        refine ⟨Rb, _, _, rfl, rfl, (by rw [upd_ne npR]; exact B.rr), by rw [hlr, sizeLine_eq]; omega, Nat.zero_le _, fun l2 hl2 => ?_⟩
        have hl2R : Rb ≠ l2 := fun z => by rw [← z, upd_same] at hl2; cases hl2
        by_cases hst : st.length < 60
        case neg =>
          rw [if_neg (by omega)] at hrun3
          have hrr2 : (upd (upd (upd H1 p2 (.tup [.int ((i : Nat) : Int), .ref l])) Rb (.lst ((st.reverse.map fun e => V.ref e.1) ++ [.ref p2]))) l2 (.lst [])) Rb = some (.lst ((st.reverse.map fun e => V.ref e.1) ++ [.ref p2])) := by rw [upd_ne hl2R, upd_same]
          refine ⟨_, rfl, Rb, _, rfl, .inl (SqL.of hrr2), _, _, rfl, rfl, _, rfl, ite2 (fun _ => ?_) (fun h => ?_)⟩
          · refine refusal BR.e (fun b u e => ?_) (qe hrun3.symm)
            have e1 := B.same b u e
            have nR : b ≠ Rb := ne_of_none e (B.new Rb List.mem_cons_self)
            have np : b ≠ p2 := fun z => by rw [z, hp2] at e1; cases e1
            have nl : b ≠ l2 := fun z => by
              rw [← z, upd_ne nR, upd_ne np, e1] at hl2; cases hl2
            rw [upd_ne nl, upd_ne nR, upd_ne np]; exact e1
          · refine absurd (decide_eq_true ?_) h
            rw [List.length_append, hlr, List.length_singleton]
            omega
        rw [if_pos (by omega)] at hrun3
        have hrun2 : fin (run (sgs.drop (i + 1)) (i + 1) ((((i : Nat) : Int), ts) :: pst st, [])) = o := hrun3
        have B2 := B.openR hp2 hl2 hst
        refine ⟨_, rfl, Rb, _, rfl, .inl (SqL.of B2.rr), _, _, rfl, rfl, _, rfl, ite2 (fun h => ?_) (fun _ => ?_)⟩
        · have h' := of_decide_eq_true h
          rw [List.length_map, List.length_reverse, List.length_cons] at h'
          exact absurd h' (by omega)
        · have nD2 : D0 ≠ l2 := fun z => by
            have h1 := hl2
            rw [upd_ne hl2R.symm] at h1
            by_cases h2 : l2 = p2
            · rw [h2, upd_same] at h1; cases h1
            · rw [upd_ne h2, ← z, hD] at h1; cases h1
          refine ⟨l2, _, _, _, _, _, _, _, rfl, B2, ?_, ?_, hrun2⟩
          · have hDR : D0 ≠ Rb := fun z => hDm (by rw [z]; exact List.mem_cons_self)
            have hDp : D0 ≠ p2 := fun z => by rw [← z, hD] at hp2; cases hp2
            rw [upd_ne nD2, upd_ne hDR, upd_ne hDp]; exact hD
          · intro z
            rcases List.mem_cons.mp z with e | z
            · exact hDm (by rw [e]; exact List.mem_cons_self)
            · rcases List.mem_cons.mp z with e | z
              · exact nD2 e
              · exact hDm (List.mem_cons_of_mem _ z)
      · rw [decide_eq_false h40]
        refine iteF ⟨_, rfl, rfl, decide (txt g = [41]), by rw [hkey [41] (.inr rfl) ")" (by decide)], ?_⟩
        by_cases h41 : txt g = [41]
        · have eg' : g = .cl := by
            rcases txt_is hg h41 (.inr rfl) with e | e
            · exact absurd e.2 (by decide)
            · exact e.1
          subst eg'
          rw [decide_eq_true h41]
          cases st with
          | nil =>
            have eo : none = o := hrun'
            refine iteT ⟨_, rfl, Rb, _, rfl, .inl (SqL.of B.rr), rfl, _, rfl, ite2 (fun _ => ?_) (fun h => ?_)⟩
            · exact refusal BR.e B.same (qe eo.symm)
            · exact absurd (decide_eq_true rfl) h
          | cons e0 st =>
            obtain ⟨tp, a, l0', us, ps⟩ := e0
            have hrun2 : fin (run (sgs.drop (i + 1)) (i + 1) (pst st, ps ++ [.row ts a])) = o := hrun'
            obtain ⟨e1, e2, e3, e4⟩ := B.ent _ List.mem_cons_self
            have hlr : ((((tp, a, l0', us, ps) :: st : List En).reverse.map fun e => V.ref e.1)) = (st.reverse.map fun e => V.ref e.1) ++ [.ref tp] := by rw [List.reverse_cons, List.map_append]; rfl
            have hrr := B.rr
            rw [hlr] at hrr
            have ntR : tp ≠ Rb := fun z => B.tup List.mem_cons_self (by show tp ∈ _; rw [z]; exact List.mem_cons_self)
            refine iteT ⟨_, rfl, Rb, _, rfl, .inl (SqL.of hrr), rfl, _, rfl, ite2 (fun h => ?_) (fun _ => ?_)⟩
            · have h' := of_decide_eq_true h
              injection h' with h'
              rw [List.length_append, List.length_singleton] at h'
              exact absurd h' (by omega)
            refine ⟨_, rfl, .inl ⟨rfl, _, SqL.of hrr⟩, Rb, _, .ref tp, rfl, rfl, hrr, by simp, ?_⟩
            rw [List.dropLast_concat]
            obtain ⟨B2, hl2, ht2⟩ := B.shut
            have hD2 : upd H1 Rb (.lst (st.reverse.map fun e => V.ref e.1)) D0 = some (.lst (sgV (sgs.map txt))) := by
              rw [upd_ne (fun z => hDm (by rw [z]; exact List.mem_cons_self))]; exact hD
            have htp : upd H1 Rb (.lst (st.reverse.map fun e => V.ref e.1)) tp = some (.tup [.int a, .ref l0']) := by rw [upd_ne ntR]; exact e1
            have hDm2 : D0 ∉ mts Rb l0' st := fun z => hDm (by
              rcases List.mem_cons.mp z with e | z
              · rw [e]; exact List.mem_cons_self
              · exact List.mem_cons_of_mem _ (List.mem_cons_of_mem _ z))
            generalize upd H1 Rb (.lst (st.reverse.map fun e => V.ref e.1)) = H2 at B2 hl2 ht2 hD2 htp ⊢
            refine ⟨_, rfl, _, rfl, tp, _, _, _, rfl, rfl, SqT.of htp, rfl, ?_⟩
            intro xx dx nx ndx nex
            refine row_made2 (c := c) (N := Nb H (mts Rb l0' st)) (fun b hb => B2.fresh hb) hl2 ht2 (by omega) nx ndx fun H4 s4 hv => ?_
            have B3 := B2.grow s4
            refine ⟨_, rfl, tp, _, _, _, rfl, rfl, SqT.of (s4 _ _ htp), rfl, ?_⟩
            have hul : us.length = ps.length := e3.length
            refine ⟨_, rfl, .inl ⟨rfl, _, SqL.of B3.cu⟩, _, rfl, l0', _, _, rfl, rfl, B3.cu, by rw [sizeLine_eq]; have e4' : ps.length ≤ i := e4; omega, ?_⟩
            have hlm : l0' ∈ mts Rb l0' st := List.mem_cons_of_mem _ List.mem_cons_self
            refine ⟨l0', st, _, _, _, _, _, _, rfl, B3.add hv, ?_, hDm2, hrun2⟩
            rw [upd_ne (fun z => hDm2 (by rw [z]; exact hlm))]
            exact s4 _ _ hD2
        · rw [decide_eq_false h41]
          have hnb : g ≠ .op ∧ g ≠ .cl := ⟨fun e => by subst e; exact h40 rfl, fun e => by subst e; exact h41 rfl⟩
          have htl : (txt g).length ≤ 300000 := by
            have hm : txt g ∈ TX.cutC (cpl x) := by rw [hcut]; exact List.mem_map.mpr ⟨g, List.mem_of_getElem? eg, rfl⟩
            have := (cutC_short hm).1
            rw [cpl_len] at this
            omega
          have hrun2 : fin (run (sgs.drop (i + 1)) (i + 1) (pst st, ts ++ [leafT i g])) = o := by
            cases g with
            | op => exact absurd rfl hnb.1
            | cl => exact absurd rfl hnb.2
            | wd n => exact hrun'
            | nm z => exact hrun'
          refine iteF ⟨_, rfl, .inl ⟨rfl, _, SqL.of B.cu⟩, _, rfl, _, rfl, g, i, rfl, hg, htl, hnb, fun H2 v s4 hv => ?_⟩
          have B2 := B.grow s4
          refine ⟨l, _, _, rfl, rfl, B2.cu, by rw [sizeLine_eq]; omega, ?_⟩
          have hlm : l ∈ mts Rb l st := List.mem_cons_of_mem _ List.mem_cons_self
          refine ⟨l, st, _, _, _, _, _, _, rfl, B2.add (hv.mono fun b o n e => ⟨B.fresh n, e⟩), ?_, hDm, hrun2⟩
          rw [upd_ne (fun z => hDm (by rw [z]; exact hlm))]
          exact s4 _ _ hD
    · rintro σ H' ⟨l, st, vs, ts, v3, v4, v5, v6, rfl, B, hD, hDm, hrun'⟩
      have hl' : (sgV (sgs.map txt)).length = sgs.length := by unfold sgV; rw [List.length_map, List.length_map]
      rw [hl', List.drop_length] at hrun'
      have hfin : fin (some (pst st, ts)) = o := hrun'
      refine ⟨_, rfl, Rb, _, rfl, .inl (SqL.of B.rr), _, _, rfl, rfl, _, rfl, ite2 (fun h => ?_) (fun h => ?_)⟩
      · have h' := of_decide_eq_true h
        rw [List.length_map, List.length_reverse] at h'
        cases st with
        | nil => exact absurd h' (by decide)
        | cons e0 st' => exact refusal BR.e B.same (qe hfin.symm)
      · cases st with
        | cons e0 st' =>
          refine absurd (decide_eq_true ?_) h
          rw [List.length_map, List.length_reverse, List.length_cons]
          omega
        | nil => exact ⟨_, rfl, q ts hfin.symm H' l vs B.same (B.new l (List.mem_cons_of_mem _ List.mem_cons_self)) B.cu (B.cts.mono fun b o n e => ⟨⟨n.1, fun z => n.2 (by rw [z]; exact List.mem_cons_of_mem _ List.mem_cons_self)⟩, e⟩)⟩
end
end K15

set_option Elab.async false
set_option linter.all false
set_option maxRecDepth 100000
set_option maxHeartbeats 4000000
/-! k15: _law_refused. Own work. -/
namespace K15
open PySem L2 TR XC
abbrev sRefused : Stmt := top 37
structure R9 where
  h : Addr
  bf : Addr
  br : Addr
  go : Addr
  na : Addr
  nf : Addr
  nn : Addr
  nr : Addr
  tc : Addr
  nt : Addr
/-- the classes of refusals -/
structure Rcs (K : PySem.W.Frag) (mg : Str → Option Value) (r : R9) (fH : Addr) : Prop where
  mh : mg "HouseError" = some (.ref r.h)
  mbf : mg "BadForm" = some (.ref r.bf)
  mbr : mg "BadRule" = some (.ref r.br)
  mgo : mg "GoesOn" = some (.ref r.go)
  mna : mg "NoAhead" = some (.ref r.na)
  mnf : mg "NoFill" = some (.ref r.nf)
  mnn : mg "NoName" = some (.ref r.nn)
  mnr : mg "NoRule" = some (.ref r.nr)
  mtc : mg "TwoClaims" = some (.ref r.tc)
  mnt : mg "NoText" = some (.ref r.nt)
  Mh : MkE K r.h fH
  Mb : MkE K r.nt fH
  ec : EC K r.nt
  ei : EIs K r.nt
  sub : PySem.W.mroIn K r.nt (.ref r.h) = some true
  nA : PySem.W.findIn K (.ref r.nt) "at" = some none
  nO : PySem.W.findIn K (.ref r.nt) "other" = some none
  kv : PySem.W.kitOne K (.ref r.nt) (.type "ValueError") = some true
  kn : PySem.W.kitOne K (.ref r.nt) (.ref r.nt) = some true
  kt : PySem.W.kitAny K (.ref r.nt) ([r.bf, r.br, r.go, r.na, r.nf, r.nn, r.nr, r.tc].map Value.ref) = some false
/-- fA(t) always refuses, by cN -/
def spRefused (fA cN : Addr) (spA : Sp) : Sp := fun vs H Q _ => ∃ (t : V), vs = [.ref fA, t] ∧
  (∀ E : XK, (∀ (x : Addr) (H' : Hp), Same H H' → H x = none → ExAt H' x cN [("at", .non), ("other", .non)] → E (.ref cN) (some x) H') → spA [t] H (fun _ _ => False) E) ∧ ∀ H', Same H H' → Q (.bl true) H'
section
variable {P : Program} {w : World} {K : PySem.W.Frag} {mg : Str → Option Value} {base : Heap} {c : C4} {r : R9} {fH : Addr}
abbrev NRf : List Str := ["_law_asked", "_law_text", "_law_found", "e"]
theorem scRefused : FnScope NRf ["_law_asked", "_law_text"] (defScope sRefused) := ⟨rfl, rfl, rfl, by decide +kernel, rfl, by decide +kernel, by decide +kernel⟩
theorem ok_refused {f fA : Addr} {fd fdA : FuncData} {spA : Sp} {kA : Nat} {pn : Str} (F : Fun K "_law_refused" "_law_refused" sRefused f fd) (hisi : mg "isinstance" = none) (hve : mg "ValueError" = none) (R : Rcs K mg r fH) (kfA : PySem.W.keepIn K (.ref fA) = true) (bA : Binds K fdA [pn] [])
    (mono : ∀ t H (Q : VK) E, spA [t] H (fun _ _ => False) E → spA [t] H Q E)
    (GA : FnOk P w K mg base (CXE P w) kA fA fdA [pn] spA) : FnOk P w K mg base CX0 (kA + 1) f fd ["_law_asked", "_law_text"] (spRefused fA r.nt spA) := by
  refine F.ok scRefused (fun vs H Q E h => ?_) (fun cdv A outer s H vs Q E hr h => ?_)
  · obtain ⟨t, rfl, _⟩ := h; rfl
  · obtain ⟨t, rfl, ha, q⟩ := h
    have nd := scRefused.nd
    refine ⟨_, pss_cons (ps_set (i := 2) nd rfl (Or.inl rfl) pe_non)
      (pss_cons (ps_try (i := 3) (L := s.heap.objs.size) (outer := outer) (px_callV (i := 0) GA hr rfl (Or.inl rfl) kfA bA .nil (pa_cons (pv 1) pa_nil)) rfl rfl (by rfl) R.mh R.Mh nd rfl rfl (Or.inl rfl) (fun x => pss_one (ps_set (i := 2) nd rfl (Or.inl rfl) (pv 3))))
      (pss_cons (ps_if (PW.pt (pw_or (pt_not (pt_val (pe_callB call_isX (by rfl) hisi bt_isinstance (pa_cons (pv 2) (pa_cons (pe_glob (v := .ref r.nt) (by rfl) R.mnt rfl) pa_nil))))) (pw_or1 (pt_not (pt_val (pe_callB call_isX (by rfl) hisi bt_isinstance (pa_cons (pv 2) (pa_cons (pe_bltn (v := .ty "ValueError") (by rfl) hve bt_ValueError rfl) pa_nil))))))))
      (pss_one (ps_ret pe_bl))
      pss_nil)
      (pss_cons (ps_if (pt_val (pe_callB call_isXT (by rfl) hisi bt_isinstance (pa_cons (pv 2) (pa_cons (pe_tup (pa_cons (pe_glob (v := .ref r.bf) (by rfl) R.mbf rfl) (pa_cons (pe_glob (v := .ref r.br) (by rfl) R.mbr rfl) (pa_cons (pe_glob (v := .ref r.go) (by rfl) R.mgo rfl) (pa_cons (pe_glob (v := .ref r.na) (by rfl) R.mna rfl) (pa_cons (pe_glob (v := .ref r.nf) (by rfl) R.mnf rfl) (pa_cons (pe_glob (v := .ref r.nn) (by rfl) R.mnn rfl) (pa_cons (pe_glob (v := .ref r.nr) (by rfl) R.mnr rfl) (pa_cons (pe_glob (v := .ref r.tc) (by rfl) R.mtc rfl) pa_nil))))))))) pa_nil))))
      (pss_one (ps_ret pe_bl))
      pss_nil)
      (pss_one (ps_ret (pe_and (pe_cmpR op_isN (pe_fldX (pv 2) rfl : PE _ _ (tFldX K (tVar 2) ("at" : Str))) pe_non (nomark _)) (pe_one (pe_cmpR op_isN (pe_fldX (pv 2) rfl : PE _ _ (tFldX K (tVar 2) ("other" : Str))) pe_non (nomark _))))))))), ?_⟩
    refine ⟨rfl, _, rfl, mono _ _ _ _ (ha _ ?_)⟩
    intro x H1 sH hx ex
    refine ⟨r.nt, x, fH, rfl, rfl, R.Mb, R.sub, _, rfl, ?_⟩
    refine ⟨_, rfl, x, r.nt, .ref r.nt, _, true, _, rfl, rfl, ex, R.ei, R.kn, _, rfl, iteF ?_⟩
    refine ⟨_, rfl, x, r.nt, .ty "ValueError", _, true, _, rfl, rfl, ex, R.ei, R.kv, _, rfl, iteF ?_⟩
    refine ⟨_, rfl, (by show 8 ≤ sizeLine; rw [sizeLine_eq]; decide), fun p hp => ?_⟩
    have s1 := same_upd (o := .tup ([r.bf, r.br, r.go, r.na, r.nf, r.nn, r.nr, r.tc].map V.ref)) hp
    refine ⟨x, r.nt, p, [r.bf, r.br, r.go, r.na, r.nf, r.nn, r.nr, r.tc], false, _, rfl, upd_same, ex.same s1, R.ei, R.kt, _, rfl, iteF ?_⟩
    refine ⟨_, rfl, x, r.nt, _, _, rfl, ex.same s1, R.ec.c, R.nA, rfl, rfl, _, rfl, iteT ?_⟩
    exact ⟨_, rfl, x, r.nt, _, _, rfl, ex.same s1, R.ec.c, R.nO, rfl, rfl, q _ (sH.trans s1)⟩
end
end K15

set_option Elab.async false
set_option linter.all false
set_option maxRecDepth 100000
set_option maxHeartbeats 4000000
set_option exponentiation.threshold 3000
/-! k15: the law's small defs. Own work. -/
namespace K15
open PySem L2 TR
abbrev sCell : Stmt := top 31
abbrev sLLeaf : Stmt := top 32
abbrev sLSigns : Stmt := top 33
abbrev sOdd : Stmt := top 34
abbrev sPut : Stmt := top 35
abbrev sBrackets : Stmt := top 36
abbrev sLaw : Stmt := top 38
structure Txt (mg : Str → Option Value) : Prop where
  len : mg "len" = none
  str : mg "str" = none
  list : mg "list" = none
  isi : mg "isinstance" = none
  enum : mg "enumerate" = none
  ve : mg "ValueError" = none
def WordL (l : List Nat) : Prop := (∃ c r, l = c :: r ∧ isL c = true) ∧ ∀ d ∈ l, isL d = true ∨ isF d = true
def spCell (K : PySem.W.Frag) : Sp := fun vs H Q _ => ∃ (a : Addr) (k : Int) (ns : List Int), vs = [.ref a, .int k] ∧ SqL K H a (ns.map V.int) ∧ 0 ≤ k ∧ ∀ z : Int, Q (.int z) H
def spLLeaf : Sp := fun vs H Q _ => ∃ n : Int, vs = [.int n] ∧ ∀ (g : Sg) (H' : Hp), Same H H' → SgOk g → (g ≠ .op ∧ g ≠ .cl) → (txt g).length ≤ 100 → (n % 3 ≠ 0 → WordL (txt g) ∧ (txt g).length ≤ 4) → Q (.str (ofL (txt g))) H'
section
variable {P : Program} {w : World} {K : PySem.W.Frag} {mg : Str → Option Value} {base : Heap}
theorem scCell : FnScope ["_law_script", "_law_k"] ["_law_script", "_law_k"] (defScope sCell) := ⟨rfl, rfl, rfl, by decide +kernel, rfl, by decide +kernel, by decide +kernel⟩
theorem ok_cell {f : Addr} {fd : FuncData} (F : Fun K "_law_cell" "_law_cell" sCell f fd) (T : Txt mg) : FnOk P w K mg base CX0 1 f fd ["_law_script", "_law_k"] (spCell K) := by
  refine F.ok scCell (fun vs H Q E h => ?_) (fun cdv A outer s H vs Q E hr h => ?_)
  · obtain ⟨a, k, ns, rfl, _⟩ := h; rfl
  · obtain ⟨a, k, ns, rfl, hS, k0, q⟩ := h
    refine ⟨_, pss_cons (ps_if (pt_cmpR op_lt (pv 1) (pe_callB call_len_seq (by rfl) T.len bt_len (pa_cons (pv 0) pa_nil)) (nomark _)) (pss_one (ps_ret (pe_ix ix_list (pv 0) (pv 1) (fun _ _ => rfl)))) pss_nil)
      (pss_one (ps_ret pe_int)), ?_⟩
    refine ⟨_, rfl, _, rfl, a, _, rfl, .inl hS, _, _, rfl, rfl, _, rfl, ite2 (fun hlt => ?_) (fun _ => q 0)⟩
    obtain ⟨v, ev, hv⟩ := atI_some (xs := ns.map V.int) (i := k) k0 (of_decide_eq_true hlt)
    obtain ⟨z, _, rfl⟩ := List.mem_map.mp hv
    exact ⟨_, rfl, _, rfl, a, _, _, _, rfl, rfl, hS, ev, q z⟩
/-! ### a leaf's text -/
theorem log_abs {i : Int} (h0 : -(10 ^ 60) < i) (h : i < 10 ^ 60) : i.natAbs.log2 < 1920 := by
  by_cases e : i.natAbs = 0
  · rw [e]; decide
  · rw [Nat.log2_lt e]
    have h1 : (i.natAbs : Int) < ((10 ^ 60 : Nat) : Int) := by
      have : ((10 ^ 60 : Nat) : Int) = (10 : Int) ^ 60 := by norm_cast
      rw [this]
      omega
    have h2 : i.natAbs < 10 ^ 60 := by exact_mod_cast h1
    exact Nat.lt_trans h2 (by decide)
theorem slice_sub {x : Str} {lo hi : Option Int} {c : Nat} (h : c ∈ cpl (Txt.slice x lo hi)) : c ∈ cpl x := by
  unfold Txt.slice at h
  split at h
  · exact h
  · have h' : c ∈ (Builtin.Str.strSliceIndices lo hi 1 x.length).filterMap (x.cps[·]?) := by simpa [cpl] using h
    obtain ⟨k, _, hk⟩ := List.mem_filterMap.mp h'
    exact (Array.mem_toList_iff ..).mpr (Array.mem_of_getElem? hk)
theorem wl_grow {c : Nat} {r : List Nat} (h : c ∈ LET) (hr : ∀ d ∈ r, isL d = true ∨ isF d = true) : WordL (c :: r) := by
  have hl : isL c = true := decide_eq_true h
  refine ⟨⟨c, r, rfl, hl⟩, fun d hd => ?_⟩
  rcases List.mem_cons.mp hd with e | hd
  · rw [e]; exact .inl hl
  · exact hr d hd
theorem WordL.ok {l : List Nat} (h : WordL l) : wordB l = true := by
  obtain ⟨⟨c, r, rfl, hc⟩, ha⟩ := h
  have ha' : ((c :: r).all fun c => isL c || isF c) = true := List.all_eq_true.mpr fun d hd => by
    rcases ha d hd with e | e
    · rw [e]; rfl
    · rw [e]; simp
  unfold wordB
  rw [ha']
  show (_ || (isL c && true)) = true
  rw [hc]; simp
theorem scLLeaf : FnScope ["_law_number", "_law_letters"] ["_law_number"] (defScope sLLeaf) := ⟨rfl, rfl, rfl, by decide +kernel, rfl, by decide +kernel, by decide +kernel⟩
theorem ok_lleaf {f : Addr} {fd : FuncData} (F : Fun K "_law_leaf" "_law_leaf" sLLeaf f fd) (T : Txt mg) : FnOk P w K mg base CX0 1 f fd ["_law_number"] spLLeaf := by
  refine F.ok scLLeaf (fun vs H Q E h => ?_) (fun cdv A outer s H vs Q E hr h => ?_)
  · obtain ⟨n, rfl, _⟩ := h; rfl
  · obtain ⟨n, rfl, q⟩ := h
    have nd := scLLeaf.nd
    have qw : ∀ (z : Str) (H' : Hp), Same H H' → WordL (cpl z) → z.length ≤ 4 → Q (.str z) H' := fun z H' s hz hl => by
      have e : (cpl z).length ≤ 4 := by rw [cpl_len]; exact hl
      have := q (.wd z) H' s hz.ok ⟨(fun e => nomatch e), (fun e => nomatch e)⟩ (by show (cpl z).length ≤ 100; omega) (fun _ => ⟨hz, e⟩)
      rw [show ofL (txt (.wd z)) = z from ofL_cpl z] at this
      exact this
    have letr : ∀ i : Int, ∃ c, atI (cpl ("abcdefghijklmnopqrstuvwxyz" : Str)) (i % 26) = some c ∧ c ∈ LET := fun i => by
      have g0 := Int.emod_nonneg i (show (26 : Int) ≠ 0 by decide)
      have g1 := Int.emod_lt_of_pos i (show (0 : Int) < 26 by decide)
      obtain ⟨c, ec, hc⟩ := atI_some (xs := LET) (i := i % 26) g0 g1
      exact ⟨c, by rw [cpl_let]; exact ec, hc⟩
    refine ⟨_, pss_cons (ps_set (i := 1) nd rfl (Or.inl rfl) pe_str)
      (pss_cons (ps_if (pt_cmpR op_eq (pe_op op_mod (pv 0) pe_int) pe_int (nomark _))
      (pss_one (ps_ret (pe_callTy call_str_int (by rfl) T.str bt_str (pa_cons (pe_op op_sub (pe_op op_mod (pe_op op_fdiv (pv 0) pe_int) (pe_op op_pow pe_int pe_int)) (pe_op op_pow pe_int pe_int)) pa_nil))))
      pss_nil)
      (pss_one (ps_ret (pe_op op_add_str (pe_ix ix_str (pv 1) (pe_op op_mod (pe_op op_fdiv (pv 0) pe_int) pe_int) (fun _ _ => rfl)) (pe_ix ix_list (pe_lst (pa_cons pe_str (pa_cons pe_str (pa_cons (pe_callTy call_str_int (by rfl) T.str bt_str (pa_cons (pe_op op_mod (pe_op op_fdiv (pv 0) pe_int) pe_int) pa_nil)) (pa_cons pe_str pa_nil))))) (pe_op op_mod (pe_op op_fdiv (pv 0) pe_int) pe_int) (fun _ _ => rfl)))))), ?_⟩
    refine ⟨_, rfl, _, _, rfl, rfl, (by show (0 : Int) < _; decide), rfl, _, rfl, ite2 (fun h0 => ?_) (fun _ => ?_)⟩
    · -- a number
      have hn0 : n % 3 = 0 := by
        have := of_decide_eq_true h0
        exact V.int.inj this
      have z0 := Int.emod_nonneg (n / 3) (show (10 ^ (18 : Int).toNat : Int) ≠ 0 by decide)
      have z1 := Int.emod_lt_of_pos (n / 3) (show (0 : Int) < 10 ^ (18 : Int).toNat by decide)
      obtain ⟨z, ez, hz⟩ : ∃ z : Int, n / 3 % 10 ^ (18 : Int).toNat - 10 ^ (17 : Int).toNat = z ∧ (-(10 ^ 60) < z ∧ z < 10 ^ 60) := by
        refine ⟨_, rfl, ?_⟩
        generalize n / 3 % 10 ^ (18 : Int).toNat = u at z0 z1 ⊢
        have z1' : u < 1000000000000000000 := z1
        show -(10 ^ 60) < u - 100000000000000000 ∧ u - 100000000000000000 < (10 : Int) ^ 60
        have hB : (1000000000000000000 : Int) < 10 ^ 60 := by decide
        generalize (10 : Int) ^ 60 = B at hB ⊢
        omega
      have ht := num_text (z := z) hz
      refine ⟨_, rfl, _, _, rfl, rfl, ⟨by decide, by decide⟩, _, _, rfl, rfl, ⟨by decide, by decide, by decide⟩, _, _, rfl, rfl, (by show (0 : Int) < _; decide), _, _, rfl, rfl, ⟨by decide, by decide, by decide⟩, _, _, rfl, rfl, z, ?_, log_abs hz.1 hz.2, ?_⟩
      · show [V.int (n / 3 % 10 ^ (18 : Int).toNat - 10 ^ (17 : Int).toNat)] = _
        rw [ez]
      · have := q (.nm z) H (Same.refl _) hz ⟨(fun e => nomatch e), (fun e => nomatch e)⟩ (by show (cpl _).length ≤ 100; rw [cpl_len]; omega) (fun h => absurd hn0 h)
        rw [show ofL (txt (.nm z)) = Str.ofString (toString z) from ofL_cpl _] at this
        exact this
    · -- a word
      obtain ⟨c, ec, hc⟩ := letr (n / 3)
      have u0 := Int.emod_nonneg (n / 78) (show (1000 : Int) ≠ 0 by decide)
      have u1 := Int.emod_lt_of_pos (n / 78) (show (0 : Int) < 1000 by decide)
      obtain ⟨k, ek⟩ : ∃ k : Nat, n / 78 % 1000 = (k : Int) := ⟨(n / 78 % 1000).toNat, by omega⟩
      have hk : k < 10 ^ 3 := by omega
      have hkt : cpl (Str.ofString (toString (n / 78 % 1000))) = digs k := by rw [ek]; exact cpl_num k
      have hkl := (digs_len (k := 3) (by decide) hk).2
      have hkl' : (Str.ofString (toString (n / 78 % 1000))).length ≤ 3 := by rw [← cpl_len, hkt]; exact hkl
      have i0 := Int.emod_nonneg (n / 7) (show (4 : Int) ≠ 0 by decide)
      have i1 := Int.emod_lt_of_pos (n / 7) (show (0 : Int) < 4 by decide)
      obtain ⟨v, ev, hv⟩ := atI_some (xs := [V.str "", V.str "x", V.str (Str.ofString (toString (n / 78 % 1000))), V.str "fn9"]) (i := n / 7 % 4) i0 i1
      obtain ⟨y, ey, hyl, hyc⟩ : ∃ y : Str, v = V.str y ∧ y.length ≤ 3 ∧ ∀ d ∈ cpl y, isL d = true ∨ isF d = true := by
        rcases List.mem_cons.mp hv with e | hv
        · exact ⟨_, e, by decide, by decide⟩
        rcases List.mem_cons.mp hv with e | hv
        · exact ⟨_, e, by decide, by decide⟩
        rcases List.mem_cons.mp hv with e | hv
        · exact ⟨_, e, hkl', fun d hd => .inr (by rw [hkt] at hd; exact digs_fig hd)⟩
        · exact ⟨_, List.mem_singleton.mp hv, by decide, by decide⟩
      rw [ey] at ev
      refine ⟨_, rfl, _, rfl, _, _, rfl, rfl, ⟨by decide, by decide⟩, _, _, rfl, rfl, (by show (0 : Int) < _; decide), ("abcdefghijklmnopqrstuvwxyz" : Str), _, c, rfl, rfl, by decide, ec,
        _, rfl, _, _, rfl, rfl, ⟨by decide, by decide⟩, _, _, rfl, rfl, (by show (0 : Int) < _; decide), n / 78 % 1000, rfl, log_abs (by omega) (by omega), (by show 4 ≤ sizeLine; rw [sizeLine_eq]; decide), fun p hp => ?_⟩
      have s1 := same_upd (o := .lst [V.str "", V.str "x", V.str (Str.ofString (toString (n / 78 % 1000))), V.str "fn9"]) hp
      refine ⟨_, rfl, _, _, rfl, rfl, ⟨by decide, by decide⟩, _, _, rfl, rfl, (by show (0 : Int) < _; decide), p, _, _, _, rfl, rfl, SqL.of upd_same, ev, _, _, rfl, rfl, ?_, ?_⟩
      · show 1 + y.length ≤ sizeLine
        rw [sizeLine_eq]; omega
      · refine qw _ _ s1 ?_ ?_
        · rw [cpl_cat]
          exact wl_grow (c := c) (r := cpl y) hc hyc
        · rw [← cpl_len, cpl_cat, List.length_append, cpl_len, cpl_len]
          show 1 + _ ≤ _; omega
end
end K15

set_option Elab.async false
set_option linter.all false
set_option maxRecDepth 100000
set_option maxHeartbeats 4000000
set_option exponentiation.threshold 3000
/-! k15: depths of brackets; the signs that the law makes. Own work. -/
namespace K15
open PySem L2 TR
/-! ### how deep the rows are -/
def dep : List Sg → Nat → Option Nat
  | [], d => some d
  | .op :: r, d => if d < 60 then dep r (d + 1) else none
  | .cl :: _, 0 => none
  | .cl :: r, d + 1 => dep r d
  | .wd _ :: r, d => dep r d
  | .nm _ :: r, d => dep r d
theorem run_dep : ∀ (sgs : List Sg) (i : Nat) (st : List (Int × List Tr)) (ts : List Tr), (run sgs i (st, ts)).map (fun s => s.1.length) = dep sgs st.length
  | [], i, st, ts => rfl
  | .op :: r, i, st, ts => by
    show (((if st.length < 60 then some _ else none : Option PSt)).bind (run r (i + 1))).map _ = if st.length < 60 then _ else _
    by_cases h : st.length < 60
    · rw [if_pos h, if_pos h]
      exact run_dep r (i + 1) ((((i : Nat) : Int), ts) :: st) []
    · rw [if_neg h, if_neg h]; rfl
  | .cl :: r, i, [], ts => rfl
  | .cl :: r, i, (a, us) :: st, ts => run_dep r (i + 1) st (us ++ [Tr.row ts a])
  | .wd n :: r, i, st, ts => run_dep r (i + 1) st (ts ++ [Tr.word n i 0])
  | .nm z :: r, i, st, ts => run_dep r (i + 1) st (ts ++ [Tr.fig z i])
theorem fin_bad {sgs : List Sg} (h : dep sgs 0 ≠ some 0) : fin (run sgs 0 ([], [])) = none := by
  have e : (run sgs 0 ([], [])).map (fun s => s.1.length) = dep sgs 0 := run_dep sgs 0 [] []
  cases hr : run sgs 0 ([], []) with
  | none => rfl
  | some s =>
    obtain ⟨st, ts⟩ := s
    rw [hr] at e
    cases st with
    | nil => exact absurd e.symm h
    | cons _ _ => rfl
theorem fin_good {sgs : List Sg} (h : dep sgs 0 = some 0) : ∃ ts, fin (run sgs 0 ([], [])) = some ts := by
  have e : (run sgs 0 ([], [])).map (fun s => s.1.length) = dep sgs 0 := run_dep sgs 0 [] []
  rw [h] at e
  cases hr : run sgs 0 ([], []) with
  | none => rw [hr] at e; cases e
  | some s =>
    obtain ⟨st, ts⟩ := s
    rw [hr] at e
    cases st with
    | nil => exact ⟨ts, rfl⟩
    | cons _ _ => exact absurd (Option.some.inj e) (by simp)
theorem dep_append : ∀ (a b : List Sg) (d : Nat), dep (a ++ b) d = (dep a d).bind (dep b)
  | [], b, d => rfl
  | .op :: r, b, d => by
    show (if d < 60 then dep (r ++ b) (d + 1) else none) = (if d < 60 then dep r (d + 1) else none).bind _
    by_cases h : d < 60
    · rw [if_pos h, if_pos h]; exact dep_append r b (d + 1)
    · rw [if_neg h, if_neg h]; rfl
  | .cl :: r, b, 0 => rfl
  | .cl :: r, b, d + 1 => dep_append r b d
  | .wd n :: r, b, d => dep_append r b d
  | .nm z :: r, b, d => dep_append r b d
theorem dep_ops : ∀ (k d : Nat), d + k ≤ 60 → dep (List.replicate k Sg.op) d = some (d + k)
  | 0, d, _ => rfl
  | k + 1, d, h => by
    rw [List.replicate_succ]
    show (if d < 60 then dep (List.replicate k Sg.op) (d + 1) else none) = _
    rw [if_pos (by omega), dep_ops k (d + 1) (by omega)]
    congr 1; omega
theorem dep_cls : ∀ (k d : Nat), dep (List.replicate k Sg.cl) (d + k) = some d
  | 0, d => rfl
  | k + 1, d => by
    rw [List.replicate_succ]
    exact dep_cls k d
theorem dep_leaf {g : Sg} (h : g ≠ .op ∧ g ≠ .cl) (d : Nat) : dep [g] d = some d := by
  cases g with
  | op => exact absurd rfl h.1
  | cl => exact absurd rfl h.2
  | wd n => rfl
  | nm z => rfl
def forBody : Stmt → List Stmt
  | .For _ _ b _ _ => b
  | _ => []
def ifElse : Stmt → List Stmt
  | .If _ _ b _ => b
  | _ => []
def SgsOk (sgs : List Sg) : Prop := ∀ g ∈ sgs, SgOk g ∧ (txt g).length ≤ 100
def spLSigns : Sp := fun vs H Q _ => ∃ (a : Addr) (us : List V) (d : Nat), vs = [.ref a, .int d] ∧ H a = some (.lst us) ∧ (∀ v ∈ us, ∃ z, v = V.int z) ∧ us.length ≤ 63 ∧ d ≤ 30 ∧
  ∀ (H' : Hp) (D : Addr) (sgs : List Sg), Same H H' → H D = none → H' D = some (.lst (sgV (sgs.map txt))) → SgsOk sgs → sgs.length ≤ 200 → dep sgs 0 = some 0 → Q (.ref D) H'
theorem sgV_rep (k : Nat) (g : Sg) : (List.replicate k [V.str (ofL (txt g))]).flatten = sgV ((List.replicate k g).map txt) := by
  induction k with
  | zero => rfl
  | succ k ih => rw [List.replicate_succ, List.flatten_cons, ih, List.replicate_succ]; rfl
theorem sgV_snoc (sgs : List Sg) (g : Sg) : sgV (sgs.map txt) ++ [.str (ofL (txt g))] = sgV ((sgs ++ [g]).map txt) := by
  unfold sgV
  rw [List.map_append, List.map_append]; rfl
theorem sgV_append (a b : List Sg) : sgV (a.map txt) ++ sgV (b.map txt) = sgV ((a ++ b).map txt) := by
  unfold sgV
  rw [List.map_append, List.map_append]
theorem sgV_len (a : List Sg) : (sgV (a.map txt)).length = a.length := by unfold sgV; rw [List.length_map, List.length_map]
/-- the signs so far -/
structure Mk0 (sgs : List Sg) (m i : Nat) : Prop where
  ok : SgsOk sgs
  len : sgs.length ≤ 30 + i
  run : dep sgs 0 = some m
  most : m ≤ 58
theorem Mk0.snoc {sgs : List Sg} {m i m' : Nat} {g : Sg} (h : Mk0 sgs m i) (hg : SgOk g ∧ (txt g).length ≤ 100) (hs : dep [g] m = some m') (hm : m' ≤ 58) : Mk0 (sgs ++ [g]) m' (i + 1) where
  ok := fun x hx => by
    rcases List.mem_append.mp hx with e | e
    · exact h.ok x e
    · rw [List.mem_singleton.mp e]; exact hg
  len := by rw [List.length_append, List.length_singleton]; have := h.len; omega
  run := by rw [dep_append, h.run]; exact hs
  most := hm
section
variable {P : Program} {w : World} {K : PySem.W.Frag} {mg : Str → Option Value} {base : Heap}
abbrev NLs : List Str := ["_law_cells", "_law_deep", "_law_signs_here", "_law_many", "_law_cell_here", "_law_kind"]
theorem scLSigns : FnScope NLs ["_law_cells", "_law_deep"] (defScope sLSigns) := ⟨rfl, rfl, rfl, by decide +kernel, rfl, by decide +kernel, by decide +kernel⟩
theorem ok_lsigns {f fL : Addr} {fd fdL : FuncData} (F : Fun K "_law_signs" "_law_signs" sLSigns f fd) (T : Txt mg)
    (FL : Fun K "_law_leaf" "_law_leaf" sLLeaf fL fdL) (bL : Binds K fdL ["_law_number"] []) (mL : mg "_law_leaf" = some (.ref fL)) :
    FnOk P w K mg base CX0 2 f fd ["_law_cells", "_law_deep"] spLSigns := by
  have GL : FnOk P w K mg base CX0 1 fL fdL ["_law_number"] spLLeaf := ok_lleaf FL T
  refine F.ok scLSigns (fun vs H Q E h => ?_) (fun cdv A outer s H vs Q E hr h => ?_)
  · obtain ⟨a, us, d, rfl, _⟩ := h; rfl
  · obtain ⟨a, us, d, rfl, hS, hint, hl, hd30, q⟩ := h
    have nd := scLSigns.nd
    have LEAF : ∃ t : TS, PSs (cxOf CX0 P w K mg base NLs "_law_signs" (defScope sLSigns) f cdv A outer s H E).nox (ifElse ((ifElse ((forBody ((defBody sLSigns).getD 2 (.Pass ⟨0, 0, 0, 0⟩))).getD 1 (.Pass ⟨0, 0, 0, 0⟩))).getD 0 (.Pass ⟨0, 0, 0, 0⟩))) t ∧
        ∀ (D' : Ends) (D : Addr) (m z k : Int) (sgs : List Sg) (H1 : Hp), H1 D = some (.lst (sgV (sgs.map txt))) → sgs.length ≤ 1000 →
          (∀ (g : Sg) (H2 : Hp), Same H1 H2 → SgOk g → (g ≠ .op ∧ g ≠ .cl) → (txt g).length ≤ 100 → D'.nx [some (.ref a), some (.int d), some (.ref D), some (.int m), some (.int z), some (.int k)] (upd H2 D (.lst (sgV ((sgs ++ [g]).map txt))))) →
          t D' [some (.ref a), some (.int d), some (.ref D), some (.int m), some (.int z), some (.int k)] H1 := by
      refine ⟨_, pss_one (ps_expr (pe_bm PySem.F.plainAttrs_list PySem.F.slot_list_append PySem.F.type_list_append mt_append (pv 2) (pa_cons (pe_call GL hr (by rfl) mL FL.kp bL .nil pass0 (pa_cons (pe_op op_mod (pe_op op_fdiv (pv 4) pe_int) (pe_op op_pow pe_int pe_int)) pa_nil)) pa_nil))), ?_⟩
      intro D' D m z k sgs H1 h1 hl k'
      refine ⟨_, rfl, .inl ⟨rfl, _, SqL.of h1⟩, _, rfl, _, _, rfl, rfl, ⟨by decide, by decide⟩, _, _, rfl, rfl, ⟨by decide, by decide, by decide⟩, _, _, rfl, rfl, (by show (0 : Int) < _; decide), _, rfl, fun g H2 s2 hg hn hgl _ => ?_⟩
      refine ⟨D, _, _, rfl, rfl, s2 _ _ h1, by rw [sgV_len, sizeLine_eq]; omega, ?_⟩
      rw [sgV_snoc]
      exact k' g H2 s2 hg hn hgl
    obtain ⟨tL, hL, hleaf⟩ := LEAF
    refine ⟨_, pss_cons (ps_set (i := 2) nd rfl (Or.inl rfl) (pe_op op_rep (pe_lst (pa_cons pe_str pa_nil)) (pv 1)))
      (pss_cons (ps_set (i := 3) nd rfl (Or.inl rfl) (pv 1))
      (pss_cons (ps_for PassesOwn.never rfl (pi_list (pv 0)) (pg_name (i := 4) nd rfl (Or.inl rfl))
      (pss_cons (ps_set (i := 5) nd rfl (Or.inl rfl) (pe_op op_mod (pv 4) pe_int))
        (pss_one (ps_if (PW.pt (pw_and (pt_cmpR op_lt (pv 5) pe_int (nomark _)) (pw_and1 (pt_cmpR op_lt (pv 3) pe_int (nomark _)))))
        (pss_cons (ps_expr (pe_bm PySem.F.plainAttrs_list PySem.F.slot_list_append PySem.F.type_list_append mt_append (pv 2) (pa_cons pe_str pa_nil)))
          (pss_one (ps_set (i := 3) nd rfl (Or.inl rfl) (pe_op op_add (pv 3) pe_int))))
        (pss_one (ps_if (PW.pt (pw_and (pt_cmpR op_eq (pv 5) pe_int (nomark _)) (pw_and1 (pt_cmpR op_gt (pv 3) pe_int (nomark _)))))
          (pss_cons (ps_expr (pe_bm PySem.F.plainAttrs_list PySem.F.slot_list_append PySem.F.type_list_append mt_append (pv 2) (pa_cons pe_str pa_nil)))
            (pss_one (ps_set (i := 3) nd rfl (Or.inl rfl) (pe_op op_sub (pv 3) pe_int))))
          hL))))))
      (pss_one (ps_ret (pe_op op_cat (pv 2) (pe_op op_rep (pe_lst (pa_cons pe_str pa_nil)) (pv 3))))))), ?_⟩
    have z1 : 1 ≤ sizeLine := by rw [sizeLine_eq]; decide
    refine ⟨z1, fun p2 hp2 => ⟨_, rfl, p2, _, _, rfl, rfl, upd_same, by omega, by omega, by rw [sizeLine_eq]; show 1 * _ ≤ _; omega, fun D hD => ?_⟩⟩
    have s1 := (same_upd (o := .lst [V.str "("]) hp2).trans (same_upd (o := .lst (List.replicate (d : Int).toNat [V.str "("]).flatten) hD)
    have hDH : H D = none := (same_upd (o := .lst [V.str "("]) hp2).free hD
    have e : (List.replicate (d : Int).toNat [V.str "("]).flatten = sgV ((List.replicate d Sg.op).map txt) := by
      rw [Int.toNat_natCast]
      have := sgV_rep d Sg.op
      rw [show V.str (ofL (txt .op)) = V.str "(" from by rfl] at this
      exact this
    have hM0 : Mk0 (List.replicate d Sg.op) d 0 := ⟨fun g hg => by rw [(List.mem_replicate.mp hg).2]; exact ⟨trivial, by decide⟩, by rw [List.length_replicate]; omega, by rw [dep_ops d 0 (by omega), Nat.zero_add], by omega⟩
    refine ⟨_, rfl, ?_⟩
    have h1 : upd (upd H p2 (.lst [V.str "("])) D (.lst (List.replicate (d : Int).toNat [V.str "("]).flatten) D = some (.lst (sgV ((List.replicate d Sg.op).map txt))) := by rw [upd_same, e]
    generalize upd (upd H p2 (.lst [V.str "("])) D (.lst (List.replicate (d : Int).toNat [V.str "("]).flatten) = H1 at s1 h1 ⊢
    have hDa : D ≠ a := fun z => by rw [z, hS] at hDH; cases hDH
    refine ⟨_, rfl, a, rfl, ⟨_, SqL.of (s1 _ _ hS)⟩, ?_⟩
    refine for_list (K := K) (a := a) (xs := us) (fun i σ H' => ∃ (sgs : List Sg) (m : Nat) (v3 v4 : Option V), σ = [some (.ref a), some (.int d), some (.ref D), some (.int m), v3, v4] ∧ Same H H' ∧ H' D = some (.lst (sgV (sgs.map txt))) ∧ Mk0 sgs m i)
      ⟨_, d, none, none, rfl, s1, h1, hM0⟩ (fun i σ H' _ ⟨_, _, _, _, _, e, _⟩ => SqL.of (e _ _ hS)) ?_ ?_
    · rintro i x σ H' hi ⟨sgs, m, v3, v4, rfl, s3, h3, hM⟩
      obtain ⟨z, rfl⟩ := hint x (List.mem_of_getElem? hi)
      have hil : i < 63 := by
        have := (List.getElem?_eq_some_iff.mp hi).1
        omega
      have hlen := hM.len
      have hsl := sgV_len sgs
      have fin : ∀ (g : Sg) (m' : Nat) (H2 : Hp) (v3 v4 : Option V), Same H' H2 → Mk0 (sgs ++ [g]) m' (i + 1) → ∃ (sgs' : List Sg) (m : Nat) (v3' v4' : Option V), ([some (.ref a), some (.int d), some (.ref D), some (.int m'), v3, v4] : St) = [some (.ref a), some (.int d), some (.ref D), some (.int m), v3', v4'] ∧ Same H (upd H2 D (.lst (sgV ((sgs ++ [g]).map txt)))) ∧ upd H2 D (.lst (sgV ((sgs ++ [g]).map txt))) D = some (.lst (sgV (sgs'.map txt))) ∧ Mk0 sgs' m (i + 1) := fun g m' H2 v3 v4 s4 hM' =>
        ⟨sgs ++ [g], m', v3, v4, rfl, fun b o e => by rw [upd_ne (ne_of_none e hDH)]; exact s4 _ _ (s3 b o e), upd_same, hM'⟩
      have leafy : ∀ (g : Sg), SgOk g → (g ≠ .op ∧ g ≠ .cl) → (txt g).length ≤ 100 → Mk0 (sgs ++ [g]) m (i + 1) := fun g hg hn hgl => hM.snoc ⟨hg, hgl⟩ (dep_leaf hn m) hM.most
      have hmost := hM.most
      refine ⟨_, rfl, _, _, rfl, rfl, (by show (0 : Int) < _; decide), ?_⟩
      refine ⟨_, rfl, _, _, rfl, rfl, _, rfl, ite2 (fun h1 => ⟨_, rfl, _, _, rfl, rfl, _, rfl, ite2 (fun h2 => ?_) (fun h2 => ?_)⟩) (fun h1 => iteF ?_)⟩
      · -- a row begins
        have h2' : (m : Int) < 58 := of_decide_eq_true h2
        refine ⟨_, rfl, .inl ⟨rfl, _, SqL.of h3⟩, D, _, _, rfl, rfl, h3, by rw [hsl, sizeLine_eq]; omega, ?_⟩
        refine ⟨_, rfl, _, _, rfl, rfl, ?_⟩
        have := fin .op (m + 1) H' (some (.int z)) (some (.int (z % 5))) (Same.refl _) (hM.snoc ⟨trivial, by decide⟩ (by show (if m < 60 then some (m + 1) else none) = _; rw [if_pos (by omega)]) (by omega))
        rw [← sgV_snoc] at this
        exact this
      · -- too many
        have h1' : z % 5 < 2 := of_decide_eq_true h1
        refine ⟨_, rfl, rfl, _, rfl, ite2 (fun h3' => ?_) (fun _ => iteF ?_)⟩
        · have := of_decide_eq_true h3'
          injection this with this
          have : z % 5 = 4 := this
          omega
        · exact hleaf _ D m z (z % 5) sgs H' h3 (by omega) fun g H2 s4 hg hn hgl => fin g m H2 _ _ s4 (leafy g hg hn hgl)
      · refine ⟨_, rfl, rfl, _, rfl, ite2 (fun h3' => ⟨_, rfl, _, _, rfl, rfl, _, rfl, ite2 (fun h4 => ?_) (fun _ => ?_)⟩) (fun _ => iteF ?_)⟩
        · -- a row ends
          have h4' : (0 : Int) < (m : Int) := of_decide_eq_true h4
          refine ⟨_, rfl, .inl ⟨rfl, _, SqL.of h3⟩, D, _, _, rfl, rfl, h3, by rw [hsl, sizeLine_eq]; omega, ?_⟩
          refine ⟨_, rfl, _, _, rfl, rfl, ?_⟩
          obtain ⟨m1, rfl⟩ : ∃ m1, m = m1 + 1 := ⟨m - 1, by omega⟩
          have := fin .cl m1 H' (some (.int z)) (some (.int (z % 5))) (Same.refl _) (hM.snoc ⟨trivial, by decide⟩ rfl (by omega))
          rw [← sgV_snoc, show ((m1 : Nat) : Int) = ((m1 + 1 : Nat) : Int) - 1 by omega] at this
          exact this
        · exact hleaf _ D m z (z % 5) sgs H' h3 (by omega) fun g H2 s4 hg hn hgl => fin g m H2 _ _ s4 (leafy g hg hn hgl)
        · exact hleaf _ D m z (z % 5) sgs H' h3 (by omega) fun g H2 s4 hg hn hgl => fin g m H2 _ _ s4 (leafy g hg hn hgl)
    · rintro σ H' ⟨sgs, m, v3, v4, rfl, s3, h3, hM⟩
      have hlen := hM.len
      have hmost := hM.most
      have hsl := sgV_len sgs
      refine ⟨_, rfl, z1, fun p1 hp1 => ⟨_, rfl, p1, _, _, rfl, rfl, upd_same, by omega, by omega, by rw [sizeLine_eq]; show 1 * _ ≤ _; omega, fun p2 hp2 => ?_⟩⟩
      have s4 := (same_upd (o := .lst [V.str ")"]) hp1).trans (same_upd (o := .lst (List.replicate (m : Int).toNat [V.str ")"]).flatten) hp2)
      refine ⟨D, p2, _, _, rfl, rfl, s4 _ _ h3, upd_same, ?_, fun p3 hp3' => ?_⟩
      · rw [hsl, len_rep, sizeLine_eq]
        show sgs.length + (m : Int).toNat * 1 ≤ _
        omega
      have e : sgV (sgs.map txt) ++ (List.replicate (m : Int).toNat [V.str ")"]).flatten = sgV ((sgs ++ List.replicate m Sg.cl).map txt) := by
        rw [Int.toNat_natCast]
        have := sgV_rep m Sg.cl
        rw [show V.str (ofL (txt .cl)) = V.str ")" from by rfl] at this
        rw [this, sgV_append]
      rw [e]
      refine q _ p3 (sgs ++ List.replicate m Sg.cl) (s3.trans (s4.trans (same_upd hp3'))) (s3.free (s4.free hp3')) upd_same (fun g hg => ?_) ?_ ?_
      · rcases List.mem_append.mp hg with h | h
        · exact hM.ok g h
        · rw [(List.mem_replicate.mp h).2]; exact ⟨trivial, by decide⟩
      · rw [List.length_append, List.length_replicate]
        omega
      · rw [dep_append, hM.run]
        have := dep_cls m 0
        rw [Nat.zero_add] at this
        exact this
end
end K15

set_option Elab.async false
set_option linter.all false
set_option maxRecDepth 100000
set_option maxHeartbeats 4000000
set_option exponentiation.threshold 3000
/-! k15: a sign is put in; brackets go wrong. Own work. -/
namespace K15
open PySem L2 TR
/-! ### brackets counted -/
def bal : List Sg → Int
  | [] => 0
  | .op :: r => bal r + 1
  | .cl :: r => bal r - 1
  | _ :: r => bal r
theorem bal_append : ∀ (a b : List Sg), bal (a ++ b) = bal a + bal b
  | [], b => by simp [bal]
  | .op :: r, b => by simp only [List.cons_append, bal, bal_append r b]; omega
  | .cl :: r, b => by simp only [List.cons_append, bal, bal_append r b]; omega
  | .wd n :: r, b => by simp only [List.cons_append, bal, bal_append r b]
  | .nm z :: r, b => by simp only [List.cons_append, bal, bal_append r b]
theorem dep_bal : ∀ {sgs : List Sg} {d e : Nat}, dep sgs d = some e → (e : Int) = d + bal sgs
  | [], d, e, h => by
    have : d = e := Option.some.inj h
    simp [bal, this]
  | .op :: r, d, e, h => by
    have h' : (if d < 60 then dep r (d + 1) else none) = some e := h
    by_cases hd : d < 60
    · rw [if_pos hd] at h'
      have := dep_bal h'
      simp only [bal]; omega
    · rw [if_neg hd] at h'; cases h'
  | .cl :: r, 0, e, h => by cases h
  | .cl :: r, d + 1, e, h => by
    have := dep_bal (sgs := r) (d := d) (e := e) h
    simp only [bal]; omega
  | .wd n :: r, d, e, h => by
    have := dep_bal (sgs := r) (d := d) (e := e) h
    simp only [bal]; omega
  | .nm z :: r, d, e, h => by
    have := dep_bal (sgs := r) (d := d) (e := e) h
    simp only [bal]; omega
theorem unbal {sgs : List Sg} (h : bal sgs ≠ 0) : dep sgs 0 ≠ some 0 := fun e => by
  have := dep_bal e
  simp at this
  exact h this.symm
theorem dep_many : ∀ (k d : Nat) (r : List Sg), 60 < d + k → d ≤ 60 → dep (List.replicate k Sg.op ++ r) d = none
  | 0, d, r, h, h2 => by omega
  | k + 1, d, r, h, h2 => by
    rw [List.replicate_succ]
    show (if d < 60 then dep (List.replicate k Sg.op ++ r) (d + 1) else none) = none
    by_cases hd : d < 60
    · rw [if_pos hd]; exact dep_many k (d + 1) r (by omega) (by omega)
    · rw [if_neg hd]
def isOp : Sg → Bool
  | .op => true
  | _ => false
def isClo : Sg → Bool
  | .cl => true
  | _ => false
theorem is_op {g : Sg} (h : SgOk g) : decide (V.str (ofL (txt g)) = V.str "(") = isOp g := by
  rw [str_is (l := [40]) (by decide), cpl_ofL]
  by_cases e : txt g = [40]
  · rw [decide_eq_true e]
    rcases txt_is h e (.inl rfl) with e | e
    · rw [e.1]; rfl
    · exact absurd e.2 (by decide)
  · rw [decide_eq_false e]
    cases g with
    | op => exact absurd rfl e
    | cl => rfl
    | wd n => rfl
    | nm z => rfl
theorem is_cl {g : Sg} (h : SgOk g) : decide (V.str (ofL (txt g)) = V.str ")") = isClo g := by
  rw [str_is (l := [41]) (by decide), cpl_ofL]
  by_cases e : txt g = [41]
  · rw [decide_eq_true e]
    rcases txt_is h e (.inr rfl) with e | e
    · exact absurd e.2 (by decide)
    · rw [e.1]; rfl
  · rw [decide_eq_false e]
    cases g with
    | cl => exact absurd rfl e
    | op => rfl
    | wd n => rfl
    | nm z => rfl
/-! ### promises -/
def spPut (K : PySem.W.Frag) : Sp := fun vs H Q _ => ∃ (L : Addr) (us : List V) (k : Nat) (y : V), vs = [.ref L, .int k, y] ∧ H L = some (.lst us) ∧ us.length ≤ 400 ∧ k ≤ us.length ∧
  ∀ (H' : Hp) (D : Addr), Same H H' → H D = none → H' D = some (.lst (us.take k ++ [y] ++ us.drop k)) → Q (.ref D) H'
def spBrackets : Sp := fun vs H Q _ => ∃ (L : Addr) (sgs : List Sg) (n : Int), vs = [.ref L, .int n] ∧ H L = some (.lst (sgV (sgs.map txt))) ∧ SgsOk sgs ∧ sgs.length ≤ 200 ∧ dep sgs 0 = some 0 ∧ 0 ≤ n ∧
  ∀ (H' : Hp) (D : Addr) (sg' : List Sg), Same H H' → H D = none → H' D = some (.lst (sgV (sg'.map txt))) → SgsOk sg' → sg'.length ≤ 250 → dep sg' 0 ≠ some 0 → Q (.ref D) H'
theorem sgV_take (sgs : List Sg) (k : Nat) : (sgV (sgs.map txt)).take k = sgV ((sgs.take k).map txt) := by unfold sgV; rw [List.map_take, List.map_take]
theorem sgV_drop (sgs : List Sg) (k : Nat) : (sgV (sgs.map txt)).drop k = sgV ((sgs.drop k).map txt) := by unfold sgV; rw [List.map_drop, List.map_drop]
theorem SgsOk.append {a b : List Sg} (x : SgsOk a) (y : SgsOk b) : SgsOk (a ++ b) := fun g hg => (List.mem_append.mp hg).elim (x g) (y g)
theorem SgsOk.take {a : List Sg} (x : SgsOk a) (k : Nat) : SgsOk (a.take k) := fun g hg => x g (List.mem_of_mem_take hg)
theorem SgsOk.drop {a : List Sg} (x : SgsOk a) (k : Nat) : SgsOk (a.drop k) := fun g hg => x g (List.mem_of_mem_drop hg)
theorem SgsOk.op1 : SgsOk [.op] := fun g hg => by rw [List.mem_singleton.mp hg]; exact ⟨trivial, by decide⟩
theorem SgsOk.cl1 : SgsOk [.cl] := fun g hg => by rw [List.mem_singleton.mp hg]; exact ⟨trivial, by decide⟩
theorem SgsOk.rep {g : Sg} (h : SgOk g ∧ (txt g).length ≤ 100) (k : Nat) : SgsOk (List.replicate k g) := fun x hx => by rw [(List.mem_replicate.mp hx).2]; exact h
section
variable {P : Program} {w : World} {K : PySem.W.Frag} {mg : Str → Option Value} {base : Heap}
theorem scPut : FnScope ["_law_signs_here", "_law_at", "_law_sign"] ["_law_signs_here", "_law_at", "_law_sign"] (defScope sPut) := ⟨rfl, rfl, rfl, by decide +kernel, rfl, by decide +kernel, by decide +kernel⟩
theorem ok_put {f : Addr} {fd : FuncData} (F : Fun K "_law_put" "_law_put" sPut f fd) : FnOk P w K mg base CX0 1 f fd ["_law_signs_here", "_law_at", "_law_sign"] (spPut K) := by
  refine F.ok scPut (fun vs H Q E h => ?_) (fun cdv A outer s H vs Q E hr h => ?_)
  · obtain ⟨L, us, k, y, rfl, _⟩ := h; rfl
  · obtain ⟨L, us, k, y, rfl, hL, hl, hk, q⟩ := h
    refine ⟨_, pss_one (ps_ret (pe_op op_cat (pe_op op_cat (pe_slice sl_list (pv 0) po_none (po_some (pv 1))) (pe_lst (pa_cons (pv 2) pa_nil))) (pe_slice sl_list (pv 0) (po_some (pv 1)) po_none))), ?_⟩
    refine ⟨_, rfl, _, rfl, _, rfl, L, us, rfl, SqL.of hL, fun p1 hp1 => ?_⟩
    rw [cutV_head us hk]
    have s1 := same_upd (o := .lst (us.take k)) hp1
    refine ⟨_, rfl, (by show 1 ≤ sizeLine; rw [sizeLine_eq]; decide), fun p2 hp2 => ?_⟩
    have s2 := same_upd (o := .lst [y]) hp2
    refine ⟨p1, p2, _, _, rfl, rfl, s2 _ _ upd_same, upd_same, (by rw [List.length_take, sizeLine_eq]; show min k us.length + 1 ≤ _; omega), fun p3 hp3 => ?_⟩
    have s3 := same_upd (o := .lst (us.take k ++ [y])) hp3
    refine ⟨_, rfl, _, rfl, _, rfl, L, us, rfl, SqL.of (s3 _ _ (s2 _ _ (s1 _ _ hL))), fun p4 hp4 => ?_⟩
    rw [cutV_tail us hk]
    have s4 := same_upd (o := .lst (us.drop k)) hp4
    refine ⟨p3, p4, _, _, rfl, rfl, s4 _ _ upd_same, upd_same, (by rw [List.length_append, List.length_take, List.length_drop, sizeLine_eq]; show min k us.length + 1 + _ ≤ _; omega), fun p5 hp5 => ?_⟩
    have sA := s1.trans (s2.trans (s3.trans s4))
    exact q _ p5 (sA.trans (same_upd hp5)) (sA.free hp5) upd_same
end
end K15

set_option Elab.async false
set_option linter.all false
set_option maxRecDepth 100000
set_option maxHeartbeats 4000000
set_option exponentiation.threshold 3000
/-! k15: _law_brackets. Own work. -/
namespace K15
open PySem L2 TR
theorem str_one (c : Nat) : V.str (ofL [c]) = sgn c := rfl
theorem flat_nats (l : List Nat) : (l.map fun (j : Nat) => V.int (j : Int)).all flatV = true := by
  rw [List.all_map, List.all_eq_true]; intro _ _; rfl
theorem flat_sgV (l : List (List Nat)) : (sgV l).all flatV = true := by
  unfold sgV
  rw [List.all_map, List.all_eq_true]; intro _ _; rfl
theorem eqV_str (x y : Str) : eqV (.str x) (.str y) = decide (V.str x = V.str y) := by
  show (x == y) = _
  by_cases e : x = y
  · rw [e, decide_eq_true rfl]; simp
  · rw [decide_eq_false (fun h => e (V.str.inj h))]; simpa using e
section
variable {P : Program} {w : World} {K : PySem.W.Frag} {mg : Str → Option Value} {base : Heap}
abbrev NBr : List Str := ["_law_signs_here", "_law_number", "_law_kind", "_law_rest", "_law_at", "_law_places", "_law_out", "_law_deep"]
theorem lcBrackets1 : LcS (defScope sBrackets).names [(".0", .local), ("_law_k", .local), ("_law_sign", .local)] ["_law_signs_here", "_law_number", "_law_kind", "_law_rest", "_law_at", "_law_places", "_law_out", "_law_deep"] [false, false, false, false, false, false, false, false] := ⟨by decide +kernel, by decide +kernel, by decide +kernel, by decide +kernel, by decide +kernel, rfl⟩
theorem ndBrackets1 : (["_law_signs_here", "_law_number", "_law_kind", "_law_rest", "_law_at", "_law_places", "_law_out", "_law_deep", "_law_k", "_law_sign"] : List Str).Nodup := by decide +kernel
theorem scBrackets : FnScope NBr ["_law_signs_here", "_law_number"] (defScope sBrackets) := ⟨rfl, rfl, rfl, by decide +kernel, rfl, by decide +kernel, by decide +kernel⟩
theorem ok_brackets {f fP : Addr} {fd fdP : FuncData} (F : Fun K "_law_brackets" "_law_brackets" sBrackets f fd) (X : Txt mg)
    (FP : Fun K "_law_put" "_law_put" sPut fP fdP) (bP : Binds K fdP ["_law_signs_here", "_law_at", "_law_sign"] []) (mP : mg "_law_put" = some (.ref fP)) :
    FnOk P w K mg base CX0 2 f fd ["_law_signs_here", "_law_number"] spBrackets := by
  have GP : FnOk P w K mg base CX0 1 fP fdP ["_law_signs_here", "_law_at", "_law_sign"] (spPut K) := ok_put FP
  refine F.ok scBrackets (fun vs H Q E h => ?_) (fun cdv A outer s H vs Q E hr h => ?_)
  · obtain ⟨L, sgs, n, rfl, _⟩ := h; rfl
  · obtain ⟨L, sgs, n, rfl, hL, hok, hlen, hdep, hn, q⟩ := h
    have nd := scBrackets.nd
    have hu := hu_of hr
    have hsl := sgV_len sgs
    have z1 : 1 ≤ sizeLine := by rw [sizeLine_eq]; decide
    have hb0 : bal sgs = 0 := by have := dep_bal hdep; simp at this; exact this.symm
    have REST : ∃ t : TS, PSs (cxOf CX0 P w K mg base NBr "_law_brackets" (defScope sBrackets) f cdv A outer s H E).nox ((defBody sBrackets).drop 5) t ∧
        ∀ (D : Addr) (ka : Nat) (H1 : Hp), Same H H1 → ka ≤ sgs.length → t { nx := fun _ H' => Q .non H', rt := Q } [some (.ref L), some (.int n), some (.int (n % 5)), some (.int (n / 5)), some (.int ka), some (.ref D), none, none] H1 := by
      refine ⟨_, pss_cons (ps_if (pt_cmpR op_lt (pv 2) pe_int (nomark _))
      (pss_one (ps_ret (pe_call GP hr (by rfl) mP FP.kp bP .nil pass0 (pa_cons (pv 0) (pa_cons (pv 4) (pa_cons (pe_ix ix_str pe_str (pe_op op_mod (pe_op op_fdiv (pv 3) pe_int) pe_int) (fun _ _ => rfl)) pa_nil))))))
      pss_nil)
      (pss_cons (ps_if (pt_cmpR op_eq (pv 2) pe_int (nomark _))
      (pss_one (ps_ret (pe_op op_cat (pe_op op_cat (pe_lst (pa_cons pe_str pa_nil)) (pv 0)) (pe_lst (pa_cons pe_str pa_nil)))))
      pss_nil)
      (pss_cons (ps_set (i := 7) nd rfl (Or.inl rfl) (pe_op op_add pe_int (pe_op op_mul (pe_op op_mod (pv 3) pe_int) (pe_op op_mod (pe_op op_fdiv (pv 3) pe_int) pe_int))))
      (pss_one (ps_ret (pe_op op_cat (pe_op op_cat (pe_op op_repB (pe_slice sl_list (pv 0) po_none (po_some pe_int)) (pe_cmpR (op_neL hu) (pe_slice sl_list (pv 0) po_none (po_some pe_int)) (pe_lst (pa_cons pe_str pa_nil)) (nomark _))) (pe_op op_rep (pe_lst (pa_cons pe_str pa_nil)) (pv 7))) (pe_op op_rep (pe_lst (pa_cons pe_str pa_nil)) (pv 7))))))), ?_⟩
      intro D ka H1 s1 hka
      have hL1 := s1 _ _ hL
      refine ⟨_, rfl, _, _, rfl, rfl, _, rfl, ite2 (fun _ => ?_) (fun _ => ?_)⟩
      · -- a bracket more
        have b0 := Int.emod_nonneg (n / 5 / 7) (show (2 : Int) ≠ 0 by decide)
        have b1 := Int.emod_lt_of_pos (n / 5 / 7) (show (0 : Int) < 2 by decide)
        obtain ⟨g, hg, hgb, hat⟩ : ∃ g : Sg, SgsOk [g] ∧ bal [g] ≠ 0 ∧ ∃ c, txt g = [c] ∧ atI (cpl ("()" : Str)) (n / 5 / 7 % 2) = some c := by
          have : n / 5 / 7 % 2 = 0 ∨ n / 5 / 7 % 2 = 1 := by omega
          rcases this with e | e
          · rw [e]; exact ⟨.op, SgsOk.op1, by decide, 40, rfl, by decide⟩
          · rw [e]; exact ⟨.cl, SgsOk.cl1, by decide, 41, rfl, by decide⟩
        obtain ⟨c, hc, hat⟩ := hat
        refine ⟨_, rfl, _, rfl, _, rfl, _, _, rfl, rfl, ⟨by decide, by decide⟩, _, _, rfl, rfl, (by show (0 : Int) < _; decide), ("()" : Str), _, c, rfl, rfl, by decide, hat, ?_⟩
        refine ⟨L, _, ka, sgn c, rfl, hL1, by rw [hsl]; omega, by rw [hsl]; exact hka, fun H2 D2 s2 hD2 h2 => ?_⟩
        rw [sgV_take, sgV_drop, ← str_one, ← hc, sgV_snoc, sgV_append] at h2
        refine q H2 D2 (sgs.take ka ++ [g] ++ sgs.drop ka) (s1.trans s2) (s1.free hD2) h2 ((hok.take ka).append hg |>.append (hok.drop ka)) ?_ (unbal ?_)
        · rw [List.length_append, List.length_append, List.length_take, List.length_drop, List.length_singleton]; omega
        · have e : bal (sgs.take ka) + bal (sgs.drop ka) = 0 := by rw [← bal_append, List.take_append_drop]; exact hb0
          rw [bal_append, bal_append]
          omega
      refine ⟨_, rfl, rfl, _, rfl, ite2 (fun _ => ?_) (fun _ => ?_)⟩
      · -- the wrong way round
        refine ⟨z1, fun p1 hp1 => ?_⟩
        have t1 := same_upd (o := .lst [V.str ")"]) hp1
        refine ⟨_, rfl, p1, L, _, _, rfl, rfl, upd_same, t1 _ _ hL1, (by rw [hsl, sizeLine_eq]; show 1 + _ ≤ _; omega), fun p2 hp2 => ?_⟩
        have t2 := same_upd (o := .lst ([V.str ")"] ++ sgV (sgs.map txt))) hp2
        refine ⟨z1, fun p3 hp3 => ?_⟩
        have t3 := same_upd (o := .lst [V.str "("]) hp3
        refine ⟨p2, p3, _, _, rfl, rfl, t3 _ _ upd_same, upd_same, (by rw [List.length_append, hsl, sizeLine_eq]; show 1 + _ + 1 ≤ _; omega), fun p4 hp4 => ?_⟩
        have tA := t1.trans (t2.trans t3)
        have e : [V.str ")"] ++ sgV (sgs.map txt) ++ [V.str "("] = sgV (([Sg.cl] ++ sgs ++ [Sg.op]).map txt) := by
          rw [← sgV_append, ← sgV_append]; rfl
        rw [e]
        refine q _ p4 _ (s1.trans (tA.trans (same_upd hp4))) (s1.free (tA.free hp4)) upd_same ((SgsOk.cl1.append hok).append SgsOk.op1) ?_ ?_
        · rw [List.length_append, List.length_append]; show 1 + _ + 1 ≤ _; omega
        · intro e; cases e
      · -- too deep
        have c0 := Int.emod_nonneg (n / 5) (show (30 : Int) ≠ 0 by decide)
        have c1 := Int.emod_lt_of_pos (n / 5) (show (0 : Int) < 30 by decide)
        have d0 := Int.emod_nonneg (n / 5 / 30) (show (2 : Int) ≠ 0 by decide)
        have d1 := Int.emod_lt_of_pos (n / 5 / 30) (show (0 : Int) < 2 by decide)
        obtain ⟨m, em, hm⟩ : ∃ m : Nat, 61 + n / 5 % 30 * (n / 5 / 30 % 2) = (m : Int) ∧ 61 ≤ m ∧ m ≤ 90 := by
          have hmul : 0 ≤ n / 5 % 30 * (n / 5 / 30 % 2) ∧ n / 5 % 30 * (n / 5 / 30 % 2) ≤ 29 := by
            generalize n / 5 % 30 = u at c0 c1 ⊢
            generalize n / 5 / 30 % 2 = v at d0 d1 ⊢
            have : v = 0 ∨ v = 1 := by omega
            rcases this with e | e <;> (rw [e]; omega)
          exact ⟨(61 + n / 5 % 30 * (n / 5 / 30 % 2)).toNat, by omega, by omega, by omega⟩
        refine ⟨_, rfl, _, _, rfl, rfl, (by show (0 : Int) < _; decide), _, rfl, _, _, rfl, rfl, ⟨by decide, by decide⟩, _, _, rfl, rfl, (by show (0 : Int) < _; decide), _, _, rfl, rfl, .inl ⟨by show -(2 ^ 64 : Int) < n / 5 % 30; omega, by show n / 5 % 30 < (2 ^ 64 : Int); omega⟩, _, _, rfl, rfl, ?_⟩
        dsimp only
        rw [em]
        refine ⟨_, rfl, _, rfl, L, _, rfl, SqL.of hL1, fun p1 hp1 => ?_⟩
        rw [cutV_one, sgV_take]
        have t1 := same_upd (o := .lst (sgV ((sgs.take 1).map txt))) hp1
        refine ⟨_, rfl, _, rfl, L, _, rfl, SqL.of (t1 _ _ hL1), fun p2 hp2 => ?_⟩
        rw [cutV_one, sgV_take]
        have t2 := same_upd (o := .lst (sgV ((sgs.take 1).map txt))) hp2
        refine ⟨z1, fun p3 hp3 => ?_⟩
        have t3 := same_upd (o := .lst [V.str "("]) hp3
        refine ⟨p2, p3, _, _, rfl, rfl, SqL.of (t3 _ _ upd_same), SqL.of upd_same, flat_sgV _, rfl, ?_⟩
        obtain ⟨b, eb⟩ : ∃ b : Bool, (!eqVs (sgV ((sgs.take 1).map txt)) [V.str "("]) = b := ⟨_, rfl⟩
        obtain ⟨pre, epre, hpre, hpl, hpd⟩ : ∃ pre : List Sg, (if b = true then sgV ((sgs.take 1).map txt) else []) = sgV (pre.map txt) ∧ SgsOk pre ∧ pre.length ≤ 1 ∧ dep pre 0 = some 0 := by
          cases sgs with
          | nil => exact ⟨[], by cases b <;> rfl, fun g h => (nomatch h), Nat.zero_le _, rfl⟩
          | cons g r =>
            have hgo := hok g List.mem_cons_self
            have hq : eqVs (sgV (([g]).map txt)) [V.str "("] = isOp g := by
              rw [← is_op hgo.1]
              show (eqV (.str (ofL (txt g))) (.str "(") && true) = _
              rw [Bool.and_true]
              exact eqV_str _ _
            have eb' : (!isOp g) = b := by rw [← hq]; exact eb
            cases ho : isOp g with
            | true =>
              rw [ho] at eb'
              rw [← eb']
              exact ⟨[], rfl, fun g h => (nomatch h), Nat.zero_le _, rfl⟩
            | false =>
              rw [ho] at eb'
              rw [← eb']
              refine ⟨[g], rfl, fun x hx => by rw [List.mem_singleton.mp hx]; exact hgo, Nat.le_refl _, ?_⟩
              cases g with
              | op => cases ho
              | cl => cases hdep
              | wd n => rfl
              | nm z => rfl
        show rRepB (V.ref p1) (V.bl (!eqVs (sgV ((sgs.take 1).map txt)) [V.str "("])) _ _
        rw [eb]
        refine ⟨p1, b, _, rfl, rfl, t3 _ _ (t2 _ _ upd_same), fun p4 hp4 => ?_⟩
        rw [epre]
        have t4 := same_upd (o := .lst (sgV (pre.map txt))) hp4
        have rep : ∀ (g : Sg) (y : Str), ofL (txt g) = y → (List.replicate ((m : Nat) : Int).toNat [V.str y]).flatten = sgV ((List.replicate m g).map txt) := fun g y e => by
          rw [Int.toNat_natCast, ← e]; exact sgV_rep m g
        refine ⟨z1, fun p5 hp5 => ⟨_, rfl, p5, _, _, rfl, rfl, upd_same, by omega, by omega, by rw [sizeLine_eq]; show 1 * _ ≤ _; omega, fun p6 hp6 => ?_⟩⟩
        rw [rep .op "(" rfl] at *
        have t5 := same_upd (o := .lst [V.str "("]) hp5
        have t6 := same_upd (o := .lst (sgV ((List.replicate m Sg.op).map txt))) hp6
        refine ⟨p4, p6, _, _, rfl, rfl, t6 _ _ (t5 _ _ upd_same), upd_same, by rw [sgV_len, sgV_len, List.length_replicate, sizeLine_eq]; omega, fun p7 hp7 => ?_⟩
        rw [sgV_append]
        have t7 := same_upd (o := .lst (sgV ((pre ++ List.replicate m Sg.op).map txt))) hp7
        refine ⟨z1, fun p8 hp8 => ⟨_, rfl, p8, _, _, rfl, rfl, upd_same, by omega, by omega, by rw [sizeLine_eq]; show 1 * _ ≤ _; omega, fun p9 hp9 => ?_⟩⟩
        rw [rep .cl ")" rfl]
        have t8 := same_upd (o := .lst [V.str ")"]) hp8
        have t9 := same_upd (o := .lst (sgV ((List.replicate m Sg.cl).map txt))) hp9
        refine ⟨p7, p9, _, _, rfl, rfl, t9 _ _ (t8 _ _ upd_same), upd_same, by rw [sgV_len, sgV_len, List.length_append, List.length_replicate, List.length_replicate, sizeLine_eq]; omega, fun p10 hp10 => ?_⟩
        rw [sgV_append]
        have tA := t1.trans (t2.trans (t3.trans (t4.trans (t5.trans (t6.trans (t7.trans (t8.trans t9)))))))
        have okO : SgOk .op ∧ (txt .op).length ≤ 100 := ⟨trivial, by decide⟩
        have okC : SgOk .cl ∧ (txt .cl).length ≤ 100 := ⟨trivial, by decide⟩
        refine q _ p10 _ (s1.trans (tA.trans (same_upd hp10))) (s1.free (tA.free hp10)) upd_same ((hpre.append (SgsOk.rep okO m)).append (SgsOk.rep okC m)) ?_ ?_
        · rw [List.length_append, List.length_append, List.length_replicate, List.length_replicate]; omega
        · rw [List.append_assoc, dep_append, hpd]
          show dep (List.replicate m Sg.op ++ _) 0 ≠ some 0
          rw [dep_many m 0 _ (by omega) (by omega)]
          intro e; cases e
    obtain ⟨tR, hR, hrest⟩ := REST
    refine ⟨_, pss_cons (ps_set (i := 2) nd rfl (Or.inl rfl) (pe_op op_mod (pv 1) pe_int))
      (pss_cons (ps_set (i := 3) nd rfl (Or.inl rfl) (pe_op op_fdiv (pv 1) pe_int))
      (pss_cons (ps_set (i := 4) nd rfl (Or.inl rfl) (pe_op op_mod (pv 3) (pe_op op_add (pe_callB call_len_seq (by rfl) X.len bt_len (pa_cons (pv 0) pa_nil)) pe_int)))
      (pss_cons (ps_lc (i := 5) (g := gTup K 2 (gCons (gName 8) (gCons (gName 9) gNil))) (ext := ["_law_k", "_law_sign"]) nd rfl rfl lcBrackets1 rfl (pi_enum (by rfl) X.enum (pa_cons (pv 0) pa_nil))
          ⟨fun _ _ _ _ _ => (pg_tup rfl (pgs_cons (pg_name (i := 8) ndBrackets1 rfl (Or.inl rfl) (.inr rfl)) (pgs_cons (pg_name (i := 9) ndBrackets1 rfl (Or.inl rfl) (.inr rfl)) pgs_nil))), fun _ _ _ _ _ => (pts_one (PW.pt (pw_or (pt_cmpR op_eq (pv 9) pe_str (nomark _)) (pw_or1 (pt_cmpR op_eq (pv 9) pe_str (nomark _)))))), fun _ _ _ _ _ => (pv 8)⟩)
      (pss_cons (ps_if (PW.pt (pw_and (pt_cmpR op_eq (pv 2) pe_int (nomark _)) (pw_and1 (pt_cmpR (op_neL hu) (pv 5) (pe_lst pa_nil) (nomark _)))))
      (pss_cons (ps_set (i := 6) nd rfl (Or.inl rfl) (pe_ix ix_list (pv 5) (pe_op op_mod (pv 3) (pe_callB call_len_seq (by rfl) X.len bt_len (pa_cons (pv 5) pa_nil))) (fun _ _ => rfl)))
        (pss_one (ps_ret (pe_op op_cat (pe_slice sl_list (pv 0) po_none (po_some (pv 6))) (pe_slice sl_list (pv 0) (po_some (pe_op op_add (pv 6) pe_int)) po_none)))))
      pss_nil) hR)))), ?_⟩
    refine ⟨_, rfl, _, _, rfl, rfl, (by show (0 : Int) < _; decide), ?_⟩
    refine ⟨_, rfl, _, _, rfl, rfl, ⟨by decide, by decide⟩, ?_⟩
    refine ⟨_, rfl, _, rfl, L, _, rfl, .inl (SqL.of hL), _, _, rfl, rfl, _, _, rfl, rfl, (by show (0 : Int) < _; omega), ?_⟩
    rw [hsl]
    dsimp only
    have a0 := Int.emod_nonneg (n / 5) (show ((sgs.length : Int) + 1) ≠ 0 by omega)
    have a1 := Int.emod_lt_of_pos (n / 5) (show (0 : Int) < (sgs.length : Int) + 1 by omega)
    obtain ⟨ka, eka⟩ : ∃ ka : Nat, n / 5 % ((sgs.length : Int) + 1) = (ka : Int) := ⟨(n / 5 % ((sgs.length : Int) + 1)).toNat, by omega⟩
    have hka : ka ≤ sgs.length := by omega
    rw [eka]
    refine ⟨_, rfl, L, rfl, ⟨_, SqL.of hL⟩, fun D hD => ?_⟩
    refine lc_enum (K := K) (a := L) (xs := sgV (sgs.map txt)) (fun k ys σ' H' => (∃ v8 v9, σ' = [none, none, none, none, none, none, none, none, v8, v9]) ∧ Same H H' ∧ H' D = some (.lst ys) ∧ (∃ js : List Nat, ys = (js.map fun (j : Nat) => V.int (j : Int)) ∧ (∀ j ∈ js, ∃ g, sgs[j]? = some g ∧ (g = .op ∨ g = .cl))) ∧ ys.length ≤ k)
      ⟨⟨_, _, rfl⟩, same_upd hD, upd_same, ⟨[], rfl, fun j h => nomatch h⟩, Nat.le_refl _⟩ (fun k ys σ' H' _ hP => SqL.of (hP.2.1 _ _ hL)) ?_ ?_
    · rintro k y p ys σ' H' hy ⟨⟨v8, v9, rfl⟩, sH, hDy, ⟨js, hys, hjs⟩, hyl⟩ hp
      have hk : k < (sgV (sgs.map txt)).length := (List.getElem?_eq_some_iff.mp hy).1
      obtain ⟨g, eg, rfl⟩ : ∃ g, sgs[k]? = some g ∧ V.str (ofL (txt g)) = y := by
        unfold sgV at hy
        rw [List.map_map, List.getElem?_map] at hy
        obtain ⟨g, eg, e⟩ := Option.map_eq_some_iff.mp hy
        exact ⟨g, eg, e⟩
      have hg := (hok g (List.mem_of_getElem? eg)).1
      have sp := same_upd (o := .tup [.int (k : Nat), .str (ofL (txt g))]) hp
      have k1 := sH.trans sp
      have k2 := sp _ _ hDy
      refine ⟨p, _, rfl, SqT.of upd_same, rfl, _, _, rfl, _, _, rfl, rfl, ?_⟩
      have yes : (g = .op ∨ g = .cl) → Beh (sgV (sgs.map txt)).length k (fun k ys σ' H' => (∃ v8 v9, σ' = [none, none, none, none, none, none, none, none, v8, v9]) ∧ Same H H' ∧ H' D = some (.lst ys) ∧ (∃ js : List Nat, ys = (js.map fun (j : Nat) => V.int (j : Int)) ∧ (∀ j ∈ js, ∃ g, sgs[j]? = some g ∧ (g = .op ∨ g = .cl))) ∧ ys.length ≤ k) (ys ++ [.int (k : Nat)]) [none, none, none, none, none, none, none, none, some (.int (k : Nat)), some (.str (ofL (txt g)))] (upd (upd H' p (.tup [.int (k : Nat), .str (ofL (txt g))])) D (.lst (ys ++ [.int (k : Nat)]))) := fun hbr =>
        Beh.of hk ⟨⟨_, _, rfl⟩, fun b o e => by rw [upd_ne (ne_of_none e hD)]; exact k1 _ _ e, upd_same, ⟨js ++ [k], by rw [hys, List.map_append]; rfl, fun j hj => by
          rcases List.mem_append.mp hj with h | h
          · exact hjs j h
          · rw [List.mem_singleton.mp h]; exact ⟨g, eg, hbr⟩⟩, by rw [List.length_append, List.length_singleton]; omega⟩
      refine ⟨_, rfl, rfl, isOp g, by rw [is_op hg], ?_⟩
      cases ho : isOp g with
      | true =>
        have : g = .op := by cases g <;> first | rfl | cases ho
        exact iteT (iteT ⟨_, rfl, k2, by rw [sizeLine_eq]; omega, yes (.inl this)⟩)
      | false =>
        refine iteF ⟨_, rfl, rfl, isClo g, by rw [is_cl hg], ?_⟩
        cases hc : isClo g with
        | true =>
          have : g = .cl := by cases g <;> first | rfl | cases hc
          exact iteT ⟨_, rfl, k2, by rw [sizeLine_eq]; omega, yes (.inr this)⟩
        | false => exact iteF (Beh.of hk ⟨⟨_, _, rfl⟩, k1, k2, ⟨js, hys, hjs⟩, by omega⟩)
    · rintro ys σ' H1 ⟨_, s1, hDy, ⟨js, hys, hjs⟩, hyl⟩
      have rest2 : ∀ H2, Same H H2 → tR { nx := fun _ H' => Q .non H', rt := Q } [some (.ref L), some (.int n), some (.int (n % 5)), some (.int (n / 5)), some (.int ka), some (.ref D), none, none] H2 := fun H2 s2 => hrest D ka H2 s2 hka
      refine ⟨_, rfl, rfl, _, rfl, ite2 (fun _ => ?_) (fun _ => iteF (rest2 H1 s1))⟩
      refine ⟨_, rfl, Nat.zero_le _, fun p0 hp0 => ?_⟩
      have t0 := same_upd (o := .lst []) hp0
      refine ⟨D, p0, ys, [], rfl, rfl, SqL.of (t0 _ _ hDy), SqL.of upd_same, by rw [hys]; exact flat_nats js, rfl, _, rfl, ?_⟩
      cases js with
      | nil =>
        rw [show ys = [] from hys]
        exact iteF (rest2 _ (s1.trans t0))
      | cons j js =>
        have hyne : eqVs ys [] = false := by rw [hys]; rfl
        show if (!eqVs ys []) = true then _ else _
        rw [hyne]
        refine iteT ?_
        have hylen : 0 < ys.length := by rw [hys, List.length_map, List.length_cons]; omega
        have e0 := Int.emod_nonneg (n / 5) (show (ys.length : Int) ≠ 0 by omega)
        have e1 := Int.emod_lt_of_pos (n / 5) (show (0 : Int) < (ys.length : Int) by omega)
        obtain ⟨v, ev, hv⟩ := atI_some (xs := ys) (i := n / 5 % (ys.length : Int)) e0 e1
        rw [hys] at hv
        obtain ⟨o, ho, rfl⟩ := List.mem_map.mp hv
        obtain ⟨g, eg, hbr⟩ := hjs o ho
        have hol : o < sgs.length := (List.getElem?_eq_some_iff.mp eg).1
        have hD2 := t0 _ _ hDy
        refine ⟨_, rfl, _, rfl, _, rfl, D, _, rfl, .inl (SqL.of hD2), _, _, rfl, rfl, (by show (0 : Int) < _; omega), D, _, _, _, rfl, rfl, SqL.of hD2, ev, ?_⟩
        have hL2 := t0 _ _ (s1 _ _ hL)
        refine ⟨_, rfl, _, rfl, _, rfl, L, _, rfl, SqL.of hL2, fun p1 hp1 => ?_⟩
        rw [cutV_head _ (show o ≤ (sgV (sgs.map txt)).length by rw [hsl]; omega), sgV_take]
        have t1 := same_upd (o := .lst (sgV ((sgs.take o).map txt))) hp1
        refine ⟨_, rfl, _, rfl, _, _, rfl, rfl, _, rfl, L, _, rfl, SqL.of (t1 _ _ hL2), fun p2 hp2 => ?_⟩
        rw [show ((o : Nat) : Int) + 1 = ((o + 1 : Nat) : Int) by omega, cutV_tail _ (show o + 1 ≤ (sgV (sgs.map txt)).length by rw [hsl]; omega), sgV_drop]
        have t2 := same_upd (o := .lst (sgV ((sgs.drop (o + 1)).map txt))) hp2
        refine ⟨p1, p2, _, _, rfl, rfl, t2 _ _ upd_same, upd_same, by rw [sgV_len, sgV_len, List.length_take, List.length_drop, sizeLine_eq]; omega, fun p3 hp3 => ?_⟩
        rw [sgV_append]
        have tA := s1.trans (t0.trans (t1.trans t2))
        refine q _ p3 _ (tA.trans (same_upd hp3)) (tA.free hp3) upd_same ((hok.take o).append (hok.drop (o + 1))) ?_ (unbal ?_)
        · rw [List.length_append, List.length_take, List.length_drop]; omega
        · have esp : sgs = sgs.take o ++ (g :: sgs.drop (o + 1)) := by
            have : sgs.drop o = g :: sgs.drop (o + 1) := by
              rw [List.drop_eq_getElem_cons hol]; congr 1; exact (List.getElem?_eq_some_iff.mp eg).2
            rw [← this, List.take_append_drop]
          have hbb : bal (sgs.take o) + bal (g :: sgs.drop (o + 1)) = 0 := by rw [← bal_append, ← esp]; exact hb0
          rw [bal_append]
          rcases hbr with e | e
          · subst e
            simp only [bal] at hbb
            omega
          · subst e
            simp only [bal] at hbb
            omega
end
end K15

set_option Elab.async false
set_option linter.all false
set_option maxRecDepth 100000
set_option maxHeartbeats 4000000
set_option exponentiation.threshold 3000
/-! k15: odd signs. Own work. -/
namespace K15
open PySem L2 TR
def okC (k : Nat) : Bool := decide (k < 128 ∧ k ≠ 32 ∧ k ≠ 10 ∧ k ≠ 40 ∧ k ≠ 41)
def badC (k : Nat) : Bool := !isL k && !isF k && okC k && decide (k ≠ 42 ∧ k ≠ 61 ∧ k ≠ 45)
theorem not_good {l : List Nat} (h1 : l ≠ [40]) (h2 : l ≠ [41]) (hw : wordB l = false) (hn : numB l = false) : goodB l = false := by
  unfold goodB
  rw [decide_eq_false (fun h => h.elim h1 h2), hw, hn]; rfl
theorem not_word {l : List Nat} {c : Nat} (hc : c ∈ l) (h1 : l ≠ [42]) (h2 : l ≠ [61]) (hL : isL c = false) (hF : isF c = false) : wordB l = false := by
  unfold wordB
  have : (l.all fun c => isL c || isF c) = false := by
    rw [List.all_eq_false]
    exact ⟨c, hc, by rw [hL, hF]; simp⟩
  rw [decide_eq_false (fun h => h.elim h1 h2), this, Bool.and_false]; rfl
theorem not_wordH {c : Nat} {r : List Nat} (h1 : c :: r ≠ [42]) (h2 : c :: r ≠ [61]) (hL : isL c = false) : wordB (c :: r) = false := by
  unfold wordB
  rw [decide_eq_false (fun h => h.elim h1 h2)]
  show (false || (isL c && _)) = false
  rw [hL]; rfl
theorem not_num {l : List Nat} {c : Nat} (hc : c ∈ figs l) (hF : isF c = false) : numB l = false := by
  unfold numB
  have : (figs l).all isF = false := by
    rw [List.all_eq_false]
    exact ⟨c, hc, by rw [hF]; simp⟩
  rw [this, Bool.false_and, Bool.and_false]
theorem in_figs {l : List Nat} {c : Nat} (hc : c ∈ l) (h : c ≠ 45) : c ∈ figs l := by
  unfold figs
  split
  · rename_i h45
    cases l with
    | nil => cases hc
    | cons d r =>
      have e : d = 45 := Option.some.inj h45
      rcases List.mem_cons.mp hc with e2 | h2
      · exact absurd (e2.trans e) h
      · exact h2
  · exact hc
theorem odd_char {l : List Nat} {c : Nat} (h : c ∈ l) (hb : badC c = true) : goodB l = false := by
  unfold badC at hb
  simp only [Bool.and_eq_true, Bool.not_eq_true', decide_eq_true_eq] at hb
  obtain ⟨⟨⟨hL, hF⟩, hok⟩, h42, h61, h45⟩ := hb
  unfold okC at hok
  obtain ⟨_, _, _, h40, h41⟩ := of_decide_eq_true hok
  have ne : ∀ k, c ≠ k → l ≠ [k] := fun k hk e => by rw [e] at h; exact hk (List.mem_singleton.mp h)
  exact not_good (ne _ h40) (ne _ h41) (not_word h (ne _ h42) (ne _ h61) hL hF) (not_num (in_figs h h45) hF)
theorem odd_star {l : List Nat} {c : Nat} (h : c ∈ l) (hc : c = 42 ∨ c = 61) (hl : 2 ≤ l.length) : goodB l = false := by
  have ne : ∀ k, l ≠ [k] := fun k e => by rw [e] at hl; simp at hl
  have hL : isL c = false := by rcases hc with e | e <;> (rw [e]; decide)
  have hF : isF c = false := by rcases hc with e | e <;> (rw [e]; decide)
  have h45 : c ≠ 45 := by rcases hc with e | e <;> (rw [e]; decide)
  exact not_good (ne _) (ne _) (not_word h (ne _) (ne _) hL hF) (not_num (in_figs h h45) hF)
theorem fig_noL {c : Nat} (h : isF c = true) : isL c = false := by
  have h' := fig_range.mp h
  cases e : isL c with
  | false => rfl
  | true =>
    have : c ∈ LET := of_decide_eq_true e
    have hge : ∀ k ∈ LET, 97 ≤ k := by decide
    have := hge c this
    omega
theorem let_noF {c : Nat} (h : isL c = true) : isF c = false := by
  cases e : isF c with
  | false => rfl
  | true => rw [fig_noL e] at h; cases h
theorem let_ne {c : Nat} (h : isL c = true) : c ≠ 45 ∧ c ≠ 42 ∧ c ≠ 61 ∧ c ≠ 40 ∧ c ≠ 41 := by
  have h' : c ∈ LET := of_decide_eq_true h
  refine ⟨?_, ?_, ?_, ?_, ?_⟩ <;> (intro e; subst e; revert h'; decide)
theorem fig_ne {c : Nat} (h : isF c = true) : c ≠ 45 ∧ c ≠ 42 ∧ c ≠ 61 ∧ c ≠ 40 ∧ c ≠ 41 := by
  have h' := fig_range.mp h
  omega
theorem let_ok {c : Nat} (h : isL c = true ∨ isF c = true) : okC c = true := by
  rcases h with h | h
  · have h' : c ∈ LET := of_decide_eq_true h
    have : ∀ k ∈ LET, okC k = true := by decide
    exact this c h'
  · have h' : c ∈ FIG := of_decide_eq_true h
    have : ∀ k ∈ FIG, okC k = true := by decide
    exact this c h'
/-- a figure or - ahead of a letter somewhere -/
theorem odd_mixed {c d : Nat} {r : List Nat} (hc : isF c = true ∨ c = 45) (hd : d ∈ r) (hL : isL d = true) : goodB (c :: r) = false := by
  have hcl : isL c = false := by
    rcases hc with h | h
    · exact fig_noL h
    · rw [h]; decide
  have hcn : c ≠ 42 ∧ c ≠ 61 ∧ c ≠ 40 ∧ c ≠ 41 := by
    rcases hc with h | h
    · exact (fig_ne h).2
    · omega
  have ne : ∀ k, c ≠ k → c :: r ≠ [k] := fun k hk e => hk (List.cons.inj e).1
  exact not_good (ne _ hcn.2.2.1) (ne _ hcn.2.2.2) (not_wordH (ne _ hcn.1) (ne _ hcn.2.1) hcl) (not_num (in_figs (List.mem_cons_of_mem _ hd) (let_ne hL).1) (let_noF hL))
/-- a letter, and a - behind -/
theorem odd_dash {c : Nat} {r : List Nat} (hc : isL c = true) (hd : 45 ∈ r) : goodB (c :: r) = false := by
  have ne : ∀ k, c ≠ k → c :: r ≠ [k] := fun k hk e => hk (List.cons.inj e).1
  obtain ⟨h45, h42, h61, h40, h41⟩ := let_ne hc
  have hm : (45 : Nat) ∈ c :: r := List.mem_cons_of_mem _ hd
  refine not_good (ne _ h40) (ne _ h41) (not_word hm (ne _ h42) (ne _ h61) (by decide) (by decide)) (not_num (c := 45) ?_ (by decide))
  unfold figs
  rw [if_neg]
  · exact hm
  · intro e; exact h45 (Option.some.inj e)
theorem odd_zero {c : Nat} {r : List Nat} : goodB (48 :: c :: r) = false := by
  refine not_good (by simp) (by simp) (not_wordH (by simp) (by simp) (by decide)) ?_
  unfold numB figs
  simp
theorem odd_mzero {r : List Nat} : goodB (45 :: 48 :: r) = false := by
  refine not_good (by simp) (by simp) (not_wordH (by simp) (by simp) (by decide)) ?_
  unfold numB figs
  simp
theorem odd_long {c : Nat} {r : List Nat} (hc : isL c = false) (h : 60 < (figs (c :: r)).length) : goodB (c :: r) = false := by
  have hl : 60 < (c :: r).length := by
    unfold figs at h
    split at h
    · rw [List.length_drop] at h; omega
    · exact h
  have ne : ∀ k, c :: r ≠ [k] := fun k e => by rw [e] at hl; simp at hl
  refine not_good (ne _) (ne _) (not_wordH (ne _) (ne _) hc) ?_
  unfold numB
  rw [decide_eq_false (by omega)]; rfl
theorem digs_step {m : Nat} (h : 10 ≤ m) : digs m = digs (m / 10) ++ digs (m % 10) := by
  have hm : m % 10 < 10 := Nat.mod_lt m (by decide)
  have t : Nat.toDigits 10 (m / 10) ++ Nat.toDigits 10 (m % 10) = Nat.toDigits 10 (10 * (m / 10) + m % 10) := Nat.toDigits_append_toDigits (by decide) (by omega) hm
  rw [Nat.div_add_mod] at t
  unfold digs
  rw [← t, List.map_append]
theorem digs_ge : ∀ (k : Nat) {m : Nat}, 10 ^ k ≤ m → k + 1 ≤ (digs m).length
  | 0, m, _ => by
    unfold digs
    rw [List.length_map]
    exact PyProof.Rows.tDigits_len_ge 10 m
  | k + 1, m, h => by
    have h10 : 10 * 10 ^ k ≤ m := by rw [Nat.pow_succ] at h; omega
    have hp : 1 ≤ 10 ^ k := Nat.one_le_pow _ _ (by decide)
    have := digs_ge k (m := m / 10) (by omega)
    rw [digs_step (by omega), List.length_append, digs_small (Nat.mod_lt m (by decide))]
    show k + 1 + 1 ≤ _ + 1
    omega
def OddS (y : Str) : Prop := goodB (cpl y) = false ∧ (∀ k ∈ cpl y, okC k = true) ∧ cpl y ≠ [] ∧ y.length ≤ 100
def spOdd : Sp := fun vs H Q _ => ∃ n : Int, vs = [.int n] ∧ 0 ≤ n ∧ n < 10 ^ 62 ∧ ∀ (y : Str) (H' : Hp), Same H H' → OddS y → Q (.str y) H'
end K15

set_option Elab.async false
set_option linter.all false
set_option maxRecDepth 100000
set_option maxHeartbeats 4000000
set_option exponentiation.threshold 3000
/-! k15: _law_odd. Own work. -/
namespace K15
open PySem L2 TR
abbrev someS : Str := "ABCDEFGHIJKLMNOPQRSTUVWXYZ!\"#$&'+,./:;<>?\x40[\\]^_`{|}~\t"
theorem some_bad : ∀ c ∈ cpl someS, badC c = true := by decide +kernel
theorem bad_ok {c : Nat} (h : badC c = true) : okC c = true := by
  unfold badC at h
  simp only [Bool.and_eq_true] at h
  exact h.1.2
theorem some_len : someS.length = 53 := by decide +kernel
theorem modp {a b : Int} (h : 0 < b) : 0 ≤ a % b ∧ a % b < b := ⟨Int.emod_nonneg a (by omega), Int.emod_lt_of_pos a h⟩
/-- digits of a number that is drawn -/
theorem num_str {z : Int} (h0 : 0 ≤ z) (k : Nat) (hk : 1 ≤ k) (h : z < 10 ^ k) : ∃ m : Nat, z = (m : Int) ∧ cpl (Str.ofString (toString z)) = digs m ∧ (Str.ofString (toString z)).length ≤ k := by
  obtain ⟨m, rfl⟩ := Int.eq_ofNat_of_zero_le h0
  have hm : m < 10 ^ k := by exact_mod_cast h
  have e := cpl_num m
  exact ⟨m, rfl, e, by rw [← cpl_len, e]; exact (digs_len hk hm).2⟩
theorem figs_no {c : Nat} {r : List Nat} (h : c ≠ 45) : figs (c :: r) = c :: r := by
  unfold figs
  exact if_neg (fun e => h (Option.some.inj e))
theorem figs_dash {r : List Nat} : figs (45 :: r) = r := by
  unfold figs
  exact if_pos rfl
theorem log_big {z : Int} (h0 : 0 ≤ z) (h : z < 10 ^ 100) : z.natAbs.log2 < 1920 := log_small h0 h
section
variable {P : Program} {w : World} {K : PySem.W.Frag} {mg : Str → Option Value} {base : Heap}
abbrev NOd : List Str := ["_law_number", "_law_some", "_law_kind", "_law_rest", "_law_word", "_law_at"]
theorem scOdd : FnScope NOd ["_law_number"] (defScope sOdd) := ⟨rfl, rfl, rfl, by decide +kernel, rfl, by decide +kernel, by decide +kernel⟩
theorem ok_odd {f fL : Addr} {fd fdL : FuncData} (F : Fun K "_law_odd" "_law_odd" sOdd f fd) (X : Txt mg)
    (FL : Fun K "_law_leaf" "_law_leaf" sLLeaf fL fdL) (bL : Binds K fdL ["_law_number"] []) (mL : mg "_law_leaf" = some (.ref fL)) :
    FnOk P w K mg base CX0 2 f fd ["_law_number"] spOdd := by
  have GL : FnOk P w K mg base CX0 1 fL fdL ["_law_number"] spLLeaf := ok_lleaf FL X
  refine F.ok scOdd (fun vs H Q E h => ?_) (fun cdv A outer s H vs Q E hr h => ?_)
  · obtain ⟨n, rfl, _⟩ := h; rfl
  · obtain ⟨n, rfl, hn0, hn1, q⟩ := h
    have nd := scOdd.nd
    refine ⟨_, pss_cons (ps_set (i := 1) nd rfl (Or.inl rfl) pe_str)
      (pss_cons (ps_set (i := 2) nd rfl (Or.inl rfl) (pe_op op_mod (pv 0) pe_int))
      (pss_cons (ps_set (i := 3) nd rfl (Or.inl rfl) (pe_op op_fdiv (pv 0) pe_int))
      (pss_cons (ps_set (i := 4) nd rfl (Or.inl rfl) (pe_call GL hr (by rfl) mL FL.kp bL .nil pass0 (pa_cons (pe_op op_add pe_int (pe_op op_mul pe_int (pe_op op_mod (pe_op op_fdiv (pv 3) pe_int) (pe_op op_pow pe_int pe_int)))) pa_nil)))
      (pss_cons (ps_if (pt_cmpR op_eq (pv 2) pe_int (nomark _))
      (pss_one (ps_ret (pe_op op_add_str (pe_op op_add_str (pe_ix ix_list (pe_lst (pa_cons pe_str (pa_cons pe_str pa_nil))) (pe_op op_mod (pv 3) pe_int) (fun _ _ => rfl)) pe_str) (pe_callTy call_str_int (by rfl) X.str bt_str (pa_cons (pe_op op_mod (pe_op op_fdiv (pv 3) pe_int) (pe_op op_pow pe_int pe_int)) pa_nil)))))
      pss_nil)
      (pss_cons (ps_if (pt_cmpR op_eq (pv 2) pe_int (nomark _))
      (pss_one (ps_ret (pe_op op_add_str (pe_op op_add_str (pe_ix ix_list (pe_lst (pa_cons pe_str (pa_cons pe_str pa_nil))) (pe_op op_mod (pv 3) pe_int) (fun _ _ => rfl)) (pe_callTy call_str_int (by rfl) X.str bt_str (pa_cons (pe_op op_add (pe_op op_pow pe_int pe_int) (pe_op op_mod (pe_op op_fdiv (pv 3) pe_int) (pe_op op_pow pe_int pe_int))) pa_nil))) (pe_ix ix_list (pe_lst (pa_cons pe_str (pa_cons pe_str (pa_cons pe_str pa_nil)))) (pe_op op_mod (pe_op op_fdiv (pv 3) pe_int) pe_int) (fun _ _ => rfl)))))
      pss_nil)
      (pss_cons (ps_if (pt_cmpR op_eq (pv 2) pe_int (nomark _))
      (pss_one (ps_ret (pe_op op_add_str (pe_callTy call_str_int (by rfl) X.str bt_str (pa_cons (pe_op op_mod (pv 3) (pe_op op_pow pe_int pe_int)) pa_nil)) (pv 4))))
      pss_nil)
      (pss_cons (ps_if (pt_cmpR op_eq (pv 2) pe_int (nomark _))
      (pss_one (ps_ret (pe_ix ix_str (pv 1) (pe_op op_mod (pv 3) (pe_callB call_len_str (by rfl) X.len bt_len (pa_cons (pv 1) pa_nil))) (fun _ _ => rfl))))
      pss_nil)
      (pss_cons (ps_if (pt_cmpR op_lt (pv 2) pe_int (nomark _))
      (pss_cons (ps_set (i := 5) nd rfl (Or.inl rfl) (pe_op op_mod (pe_op op_fdiv (pv 3) pe_int) (pe_op op_add (pe_callB call_len_str (by rfl) X.len bt_len (pa_cons (pv 4) pa_nil)) pe_int)))
        (pss_one (ps_ret (pe_op op_add_str (pe_op op_add_str (pe_slice sl_str (pv 4) po_none (po_some (pv 5))) (pe_ix ix_str (pv 1) (pe_op op_mod (pv 3) (pe_callB call_len_str (by rfl) X.len bt_len (pa_cons (pv 1) pa_nil))) (fun _ _ => rfl))) (pe_slice sl_str (pv 4) (po_some (pv 5)) po_none)))))
      pss_nil)
      (pss_cons (ps_if (pt_cmpR op_eq (pv 2) pe_int (nomark _))
      (pss_one (ps_ret (pe_ix ix_list (pe_lst (pa_cons pe_str (pa_cons pe_str (pa_cons pe_str (pa_cons (pe_op op_add_str pe_str (pv 4)) (pa_cons (pe_op op_add_str (pv 4) pe_str) (pa_cons (pe_op op_add_str pe_str (pv 4)) (pa_cons (pe_op op_add_str (pv 4) pe_str) (pa_cons pe_str (pa_cons pe_str pa_nil)))))))))) (pe_op op_mod (pv 3) pe_int) (fun _ _ => rfl))))
      pss_nil)
      (pss_cons (ps_if (pt_cmpR op_eq (pv 2) pe_int (nomark _))
      (pss_cons (ps_set (i := 1) nd rfl (Or.inl rfl) (pe_lst (pa_cons pe_str (pa_cons pe_str (pa_cons pe_str (pa_cons (pe_op op_add_str pe_str (pv 4)) (pa_cons (pe_op op_add_str (pv 4) pe_str) (pa_cons (pe_op op_add_str (pv 4) pe_str) (pa_cons pe_str (pa_cons pe_str (pa_cons pe_str (pa_cons pe_str (pa_cons pe_str (pa_cons pe_str (pa_cons pe_str pa_nil)))))))))))))))
        (pss_one (ps_ret (pe_ix ix_list (pe_op op_cat (pv 1) (pe_lst (pa_cons pe_str (pa_cons (pe_op op_add_str pe_str (pe_callTy call_str_int (by rfl) X.str bt_str (pa_cons (pe_op op_mod (pv 3) (pe_op op_pow pe_int pe_int)) pa_nil))) (pa_cons pe_str (pa_cons pe_str pa_nil)))))) (pe_op op_mod (pv 3) pe_int) (fun _ _ => rfl)))))
      pss_nil)
      (pss_one (ps_ret (pe_op op_add_str (pe_op op_add_str (pe_op op_add_str pe_str (pe_ix ix_list (pe_lst (pa_cons pe_str (pa_cons pe_str pa_nil))) (pe_op op_mod (pv 3) pe_int) (fun _ _ => rfl))) (pv 4)) (pe_ix ix_str (pv 1) (pe_op op_mod (pe_op op_fdiv (pv 3) pe_int) (pe_callB call_len_str (by rfl) X.len bt_len (pa_cons (pv 1) pa_nil))) (fun _ _ => rfl))))))))))))))), ?_⟩
    have zz : ∀ k : Nat, k ≤ 1000 → k ≤ sizeLine := fun k h => by rw [sizeLine_eq]; omega
    refine ⟨_, rfl, _, _, rfl, rfl, (by show (0 : Int) < _; decide), ?_⟩
    refine ⟨_, rfl, _, _, rfl, rfl, ⟨by decide, by decide⟩, ?_⟩
    have r0 : 0 ≤ n / 9 := by omega
    refine ⟨_, rfl, _, _, rfl, rfl, ⟨by decide, by decide⟩, _, _, rfl, rfl, ⟨by decide, by decide, by decide⟩, _, _, rfl, rfl, (by show (0 : Int) < _; decide), _, _, rfl, rfl, .inl ⟨by decide, by decide⟩, _, _, rfl, rfl, _, rfl, fun g H1 s1 _ _ _ hw => ?_⟩
    obtain ⟨hwl, hw4⟩ := hw (by show (1 + 3 * (n / 9 / 59 % 10 ^ (12 : Int).toNat)) % 3 ≠ 0; generalize n / 9 / 59 % 10 ^ (12 : Int).toNat = u; omega)
    obtain ⟨wS, ewS⟩ : ∃ wS : Str, ofL (txt g) = wS := ⟨_, rfl⟩
    have hcw : cpl wS = txt g := by rw [← ewS, cpl_ofL]
    rw [← hcw] at hwl hw4
    have hwlen : wS.length ≤ 4 := by rw [← cpl_len]; exact hw4
    rw [ewS]
    clear hw hcw ewS
    obtain ⟨⟨wc, wr, ewc, hwc⟩, hwa⟩ := hwl
    have hwok : ∀ k ∈ cpl wS, okC k = true := fun k hk => let_ok (hwa k hk)
    have hwm : wc ∈ cpl wS := by rw [ewc]; exact List.mem_cons_self
    have fin : ∀ (y : Str) (H' : Hp), Same H1 H' → OddS y → Q (.str y) H' := fun y H' s' h => q y H' (s1.trans s') h
    have pick2 : ∀ (a b : Str) (i : Int), 0 ≤ i → i < 2 → ∃ y, atI [V.str a, V.str b] i = some (.str y) ∧ (y = a ∨ y = b) := fun a b i h0 h1 => by
      obtain ⟨v, ev, hv⟩ := atI_some (xs := [V.str a, V.str b]) (i := i) h0 h1
      rcases List.mem_cons.mp hv with e | hv
      · exact ⟨a, by rw [ev, e], .inl rfl⟩
      · exact ⟨b, by rw [ev, List.mem_singleton.mp hv], .inr rfl⟩
    have SOME : ∀ i : Int, 0 ≤ i → i < (someS.length : Int) → ∃ c, atI (cpl someS) i = some c ∧ badC c = true := fun i h0 h1 => by
      obtain ⟨c, ec, hc⟩ := atI_some (xs := cpl someS) (i := i) h0 (by rw [cpl_len]; exact h1)
      exact ⟨c, ec, some_bad c hc⟩
    have hsz : someS.length ≤ sizeLine := zz _ (by rw [some_len]; decide)
    have hs0 : (0 : Int) < (someS.length : Int) := by rw [some_len]; decide
    have m2 := modp (a := n / 9) (b := 2) (by decide)
    refine ⟨_, rfl, rfl, _, rfl, ite2 (fun _ => ?_) (fun _ => ?_)⟩
    · -- 0: a nought ahead
      obtain ⟨y, ey, hy⟩ := pick2 "" "-" (n / 9 % 2) m2.1 m2.2
      have m40 := modp (a := n / 9 / 2) (b := 10 ^ (40 : Int).toNat) (by decide)
      obtain ⟨m, em, hmt, hml⟩ := num_str m40.1 40 (by decide) m40.2
      have hyl : y.length ≤ 1 := by rcases hy with e | e <;> (rw [e]; decide)
      refine ⟨zz 2 (by decide), fun p hp => ⟨_, rfl, _, _, rfl, rfl, (by show (0 : Int) < _; decide), p, _, _, _, rfl, rfl, SqL.of upd_same, ey, _, _, rfl, rfl, (zz _ (by show y.length + 1 ≤ 1000; omega)), ?_⟩⟩
      refine ⟨_, rfl, _, _, rfl, rfl, ⟨by decide, by decide⟩, _, _, rfl, rfl, ⟨by decide, by decide, by decide⟩, _, _, rfl, rfl, (by show (0 : Int) < _; decide), n / 9 / 2 % 10 ^ (40 : Int).toNat, rfl, log_big m40.1 (Int.lt_of_lt_of_le m40.2 (by decide)), _, _, rfl, rfl, ?_, fin _ _ (same_upd hp) ?_⟩
      · refine zz _ ?_
        rw [← cpl_len, cpl_cat, List.length_append, cpl_len, cpl_len]
        show y.length + 1 + _ ≤ 1000; omega
      · have ec : cpl (y ++ "0" ++ Str.ofString (toString (n / 9 / 2 % 10 ^ (40 : Int).toNat))) = cpl y ++ 48 :: digs m := by
          rw [cpl_cat, cpl_cat, hmt, List.append_assoc]; rfl
        have hd : ∀ k ∈ digs m, okC k = true := fun k hk => let_ok (.inr (digs_fig hk))
        obtain ⟨dc, dr, ed⟩ : ∃ dc dr, digs m = dc :: dr := by
          have : 1 ≤ (digs m).length := by have := digs_ge 0 (m := m); unfold digs; rw [List.length_map]; exact PyProof.Rows.tDigits_len_ge 10 m
          cases e : digs m with
          | nil => rw [e] at this; simp at this
          | cons a b => exact ⟨a, b, rfl⟩
        refine ⟨?_, ?_, ?_, ?_⟩
        · rw [ec, ed]
          rcases hy with e | e
          · rw [e]; exact odd_zero
          · rw [e]; exact odd_mzero
        · rw [ec]
          intro k hk
          rcases List.mem_append.mp hk with h | h
          · rcases hy with e | e
            · rw [e] at h; cases h
            · rw [e] at h; rw [List.mem_singleton.mp h]; decide
          · rcases List.mem_cons.mp h with e | h
            · rw [e]; decide
            · exact hd k h
        · rw [ec]; simp
        · rw [← cpl_len, ec, List.length_append, cpl_len, List.length_cons, ← hmt, cpl_len]; omega
    refine ⟨_, rfl, rfl, _, rfl, ite2 (fun _ => ?_) (fun _ => ?_)⟩
    · -- 1: too many figures
      obtain ⟨y, ey, hy⟩ := pick2 "" "-" (n / 9 % 2) m2.1 m2.2
      have m59 := modp (a := n / 9 / 2) (b := 10 ^ (59 : Int).toNat) (by decide)
      have b0 : 0 ≤ 10 ^ (60 : Int).toNat + n / 9 / 2 % 10 ^ (59 : Int).toNat := by
        have : (0 : Int) ≤ 10 ^ (60 : Int).toNat := by decide
        omega
      have b1 : 10 ^ (60 : Int).toNat + n / 9 / 2 % 10 ^ (59 : Int).toNat < (10 : Int) ^ 61 := by
        have h1 := m59.2
        have : (10 : Int) ^ (60 : Int).toNat + 10 ^ (59 : Int).toNat ≤ 10 ^ 61 := by decide
        omega
      have b2 : (10 : Int) ^ 60 ≤ 10 ^ (60 : Int).toNat + n / 9 / 2 % 10 ^ (59 : Int).toNat := by
        have : (10 : Int) ^ 60 = 10 ^ (60 : Int).toNat := by decide
        omega
      obtain ⟨m, em, hmt, hml⟩ := num_str b0 61 (by decide) b1
      have hm60 : 10 ^ 60 ≤ m := by
        have : (10 : Int) ^ 60 ≤ (m : Int) := by rw [← em]; exact b2
        exact_mod_cast this
      have hge := digs_ge 60 hm60
      have hyl : y.length ≤ 1 := by rcases hy with e | e <;> (rw [e]; decide)
      have m3 := modp (a := n / 9 / 2) (b := 3) (by decide)
      obtain ⟨v, ev, hv⟩ := atI_some (xs := [V.str "", V.str "", V.str "0000000"]) (i := n / 9 / 2 % 3) m3.1 m3.2
      obtain ⟨u, eu, hu1, hu2⟩ : ∃ u : Str, v = V.str u ∧ u.length ≤ 7 ∧ ∀ k ∈ cpl u, okC k = true := by
        rcases List.mem_cons.mp hv with e | hv
        · exact ⟨_, e, by decide, by decide⟩
        rcases List.mem_cons.mp hv with e | hv
        · exact ⟨_, e, by decide, by decide⟩
        · exact ⟨_, List.mem_singleton.mp hv, by decide, by decide⟩
      rw [eu] at ev
      refine ⟨zz 2 (by decide), fun p hp => ⟨_, rfl, _, _, rfl, rfl, (by show (0 : Int) < _; decide), p, _, _, _, rfl, rfl, SqL.of upd_same, ey, ?_⟩⟩
      refine ⟨_, _, rfl, rfl, ⟨by decide, by decide, by decide⟩, _, rfl, _, _, rfl, rfl, ⟨by decide, by decide⟩, _, _, rfl, rfl, ⟨by decide, by decide, by decide⟩, _, _, rfl, rfl, (by show (0 : Int) < _; decide), _, _, rfl, rfl, _, rfl, log_big b0 (Int.lt_of_lt_of_le b1 (by decide)), _, _, rfl, rfl, (zz _ (by omega)), zz 3 (by decide), fun p2 hp2 => ?_⟩
      refine ⟨_, rfl, _, _, rfl, rfl, ⟨by decide, by decide⟩, _, _, rfl, rfl, (by show (0 : Int) < _; decide), p2, _, _, _, rfl, rfl, SqL.of upd_same, ev, _, _, rfl, rfl, ?_, fin _ _ ((same_upd hp).trans (same_upd hp2)) ?_⟩
      · refine zz _ ?_
        rw [← cpl_len, cpl_cat, List.length_append, cpl_len, cpl_len]
        omega
      · have ec : cpl (y ++ Str.ofString (toString (10 ^ (60 : Int).toNat + n / 9 / 2 % 10 ^ (59 : Int).toNat)) ++ u) = cpl y ++ (digs m ++ cpl u) := by
          rw [cpl_cat, cpl_cat, hmt, List.append_assoc]
        have hd : ∀ k ∈ digs m, okC k = true := fun k hk => let_ok (.inr (digs_fig hk))
        obtain ⟨dc, dr, ed⟩ : ∃ dc dr, digs m = dc :: dr := by
          cases e : digs m with
          | nil => rw [e] at hge; simp at hge
          | cons a b => exact ⟨a, b, rfl⟩
        have hdc : isF dc = true := digs_fig (m := m) (by rw [ed]; exact List.mem_cons_self)
        refine ⟨?_, ?_, ?_, ?_⟩
        · rw [ec]
          rw [ed] at hge ⊢
          rcases hy with e | e
          · rw [e]
            show goodB (dc :: (dr ++ cpl u)) = false
            refine odd_long (fig_noL hdc) ?_
            rw [figs_no (fig_ne hdc).1, List.length_cons, List.length_append]
            rw [List.length_cons] at hge
            omega
          · rw [e]
            show goodB (45 :: (dc :: (dr ++ cpl u))) = false
            refine odd_long (by decide) ?_
            rw [figs_dash, List.length_cons, List.length_append]
            rw [List.length_cons] at hge
            omega
        · rw [ec]
          intro k hk
          rcases List.mem_append.mp hk with h | h
          · rcases hy with e | e
            · rw [e] at h; cases h
            · rw [e] at h; rw [List.mem_singleton.mp h]; decide
          · rcases List.mem_append.mp h with h | h
            · exact hd k h
            · exact hu2 k h
        · rw [ec, ed]; simp
        · rw [← cpl_len, ec, List.length_append, List.length_append, cpl_len, cpl_len, ← hmt, cpl_len]; omega
    refine ⟨_, rfl, rfl, _, rfl, ite2 (fun _ => ?_) (fun _ => ?_)⟩
    · -- 2: figures ahead of a word
      have m6 := modp (a := n / 9) (b := 10 ^ (6 : Int).toNat) (by decide)
      obtain ⟨m, em, hmt, hml⟩ := num_str m6.1 6 (by decide) m6.2
      refine ⟨_, rfl, _, _, rfl, rfl, ⟨by decide, by decide, by decide⟩, _, _, rfl, rfl, (by show (0 : Int) < _; decide), _, rfl, log_big m6.1 (Int.lt_of_lt_of_le m6.2 (by decide)), _, rfl, _, _, rfl, rfl, (zz _ (by omega)), fin _ _ (Same.refl _) ?_⟩
      have ec : cpl (Str.ofString (toString (n / 9 % 10 ^ (6 : Int).toNat)) ++ wS) = digs m ++ cpl wS := by rw [cpl_cat, hmt]
      obtain ⟨dc, dr, ed⟩ : ∃ dc dr, digs m = dc :: dr := by
        have : 1 ≤ (digs m).length := by unfold digs; rw [List.length_map]; exact PyProof.Rows.tDigits_len_ge 10 m
        cases e : digs m with
        | nil => rw [e] at this; simp at this
        | cons a b => exact ⟨a, b, rfl⟩
      refine ⟨?_, ?_, ?_, ?_⟩
      · rw [ec, ed]
        exact odd_mixed (.inl (digs_fig (m := m) (by rw [ed]; exact List.mem_cons_self))) (List.mem_append.mpr (.inr hwm)) hwc
      · rw [ec]
        intro k hk
        rcases List.mem_append.mp hk with h | h
        · exact let_ok (.inr (digs_fig h))
        · exact hwok k h
      · rw [ec, ed]; simp
      · rw [← cpl_len, ec, List.length_append, cpl_len, ← hmt, cpl_len]; omega
    have mS := modp (a := n / 9) (b := (someS.length : Int)) hs0
    obtain ⟨sc, esc, hsc⟩ := SOME _ mS.1 mS.2
    have hscm : ∀ (a b : List Nat), sc ∈ a ++ [sc] ++ b := fun a b => by simp
    refine ⟨_, rfl, rfl, _, rfl, ite2 (fun _ => ?_) (fun _ => ?_)⟩
    · -- 3: one odd sign
      refine ⟨_, rfl, _, rfl, _, rfl, someS, rfl, hsz, _, _, rfl, rfl, hs0, someS, _, sc, rfl, rfl, hsz, esc, fin ⟨#[sc]⟩ _ (Same.refl _) ?_⟩
      refine ⟨odd_char (c := sc) (by show sc ∈ [sc]; simp) hsc, fun k hk => ?_, by show [sc] ≠ []; simp, by show 1 ≤ 100; decide⟩
      rw [List.mem_singleton.mp (show k ∈ [sc] from hk)]; exact bad_ok hsc
    refine ⟨_, rfl, _, _, rfl, rfl, _, rfl, ite2 (fun _ => ?_) (fun _ => ?_)⟩
    · -- 4, 5: one amid a word
      have mw := modp (a := n / 9 / 7) (b := (wS.length : Int) + 1) (by omega)
      have hwz : wS.length ≤ sizeLine := zz _ (by omega)
      refine ⟨_, rfl, _, _, rfl, rfl, ⟨by decide, by decide⟩, _, rfl, wS, rfl, hwz, _, _, rfl, rfl, _, _, rfl, rfl, (by show (0 : Int) < _; omega), ?_⟩
      have l1 := Txt.slice_le wS none (some (n / 9 / 7 % ((wS.length : Int) + 1)))
      have l2 := Txt.slice_le wS (some (n / 9 / 7 % ((wS.length : Int) + 1))) none
      refine ⟨_, rfl, _, rfl, _, rfl, wS, rfl, hwz, _, rfl, _, rfl, _, rfl, someS, rfl, hsz, _, _, rfl, rfl, hs0, someS, _, sc, rfl, rfl, hsz, esc, _, _, rfl, rfl, (zz _ (by show _ + 1 ≤ 1000; omega)), _, rfl, _, rfl, _, rfl, wS, rfl, hwz, _, _, rfl, rfl, ?_, fin _ _ (Same.refl _) ?_⟩
      · refine zz _ ?_
        rw [← cpl_len, cpl_cat, List.length_append, cpl_len, cpl_len]
        show _ + 1 + _ ≤ 1000; omega
      · refine ⟨odd_char (c := sc) ?_ hsc, fun k hk => ?_, ?_, ?_⟩
        · rw [cpl_cat, cpl_cat]; exact hscm _ _
        · rw [cpl_cat, cpl_cat] at hk
          rcases List.mem_append.mp hk with h | h
          · rcases List.mem_append.mp h with h | h
            · exact hwok k (slice_sub h)
            · rw [List.mem_singleton.mp (show k ∈ [sc] from h)]; exact bad_ok hsc
          · exact hwok k (slice_sub h)
        · rw [cpl_cat, cpl_cat]
          intro e
          have := hscm (cpl (Txt.slice wS none (some (n / 9 / 7 % ((wS.length : Int) + 1))))) (cpl (Txt.slice wS (some (n / 9 / 7 % ((wS.length : Int) + 1))) none))
          rw [show cpl (Txt.slice wS none (some (n / 9 / 7 % ((wS.length : Int) + 1)))) ++ [sc] ++ cpl (Txt.slice wS (some (n / 9 / 7 % ((wS.length : Int) + 1))) none) = [] from e] at this
          cases this
        · rw [← cpl_len, cpl_cat, cpl_cat, List.length_append, List.length_append, cpl_len, cpl_len, cpl_len]
          show _ + 1 + _ ≤ 100; omega
    have star : ∀ (a b : List Nat) (c : Nat), (c = 42 ∨ c = 61) → okC c = true := fun a b c h => by rcases h with e | e <;> (rw [e]; decide)
    have oddCat : ∀ (x y : Str), goodB (cpl x ++ cpl y) = false → (∀ k ∈ cpl x, okC k = true) → (∀ k ∈ cpl y, okC k = true) → cpl x ++ cpl y ≠ [] → x.length + y.length ≤ 100 → OddS (x ++ y) := fun x y h1 h2 h3 h4 h5 => by
      refine ⟨by rw [cpl_cat]; exact h1, fun k hk => ?_, by rw [cpl_cat]; exact h4, by rw [← cpl_len, cpl_cat, List.length_append, cpl_len, cpl_len]; exact h5⟩
      rw [cpl_cat] at hk
      exact (List.mem_append.mp hk).elim (h2 k) (h3 k)
    have hw2 : cpl wS ≠ [] := by rw [ewc]; simp
    have hwpos : 1 ≤ (cpl wS).length := by rw [ewc, List.length_cons]; omega
    refine ⟨_, rfl, rfl, _, rfl, ite2 (fun _ => ?_) (fun _ => ?_)⟩
    · -- 6: stars and signs of likeness
      have m9 := modp (a := n / 9) (b := 9) (by decide)
      obtain ⟨v, ev, hv⟩ := atI_some (xs := [V.str "**", V.str "==", V.str "*=", V.str ("*" ++ wS), V.str (wS ++ "*"), V.str ("=" ++ wS), V.str (wS ++ "="), V.str "*1", V.str "1="]) (i := n / 9 % 9) m9.1 m9.2
      obtain ⟨y, ey, hy⟩ : ∃ y : Str, v = V.str y ∧ OddS y := by
        rcases List.mem_cons.mp hv with e | hv
        · exact ⟨_, e, by decide, by decide, by decide, by decide⟩
        rcases List.mem_cons.mp hv with e | hv
        · exact ⟨_, e, by decide, by decide, by decide, by decide⟩
        rcases List.mem_cons.mp hv with e | hv
        · exact ⟨_, e, by decide, by decide, by decide, by decide⟩
        rcases List.mem_cons.mp hv with e | hv
        · exact ⟨_, e, oddCat _ _ (odd_star (c := 42) (by show 42 ∈ 42 :: cpl wS; simp) (.inl rfl) (by show 2 ≤ (42 :: cpl wS).length; rw [List.length_cons]; omega)) (by decide) hwok (by simp [hw2]) (by show 1 + _ ≤ 100; omega)⟩
        rcases List.mem_cons.mp hv with e | hv
        · exact ⟨_, e, oddCat _ _ (odd_star (c := 42) (by show 42 ∈ cpl wS ++ [42]; simp) (.inl rfl) (by show 2 ≤ (cpl wS ++ [42]).length; rw [List.length_append]; show 2 ≤ _ + 1; omega)) hwok (by decide) (by simp [hw2]) (by show _ + 1 ≤ 100; omega)⟩
        rcases List.mem_cons.mp hv with e | hv
        · exact ⟨_, e, oddCat _ _ (odd_star (c := 61) (by show 61 ∈ 61 :: cpl wS; simp) (.inr rfl) (by show 2 ≤ (61 :: cpl wS).length; rw [List.length_cons]; omega)) (by decide) hwok (by simp [hw2]) (by show 1 + _ ≤ 100; omega)⟩
        rcases List.mem_cons.mp hv with e | hv
        · exact ⟨_, e, oddCat _ _ (odd_star (c := 61) (by show 61 ∈ cpl wS ++ [61]; simp) (.inr rfl) (by show 2 ≤ (cpl wS ++ [61]).length; rw [List.length_append]; show 2 ≤ _ + 1; omega)) hwok (by decide) (by simp [hw2]) (by show _ + 1 ≤ 100; omega)⟩
        rcases List.mem_cons.mp hv with e | hv
        · exact ⟨_, e, by decide, by decide, by decide, by decide⟩
        · exact ⟨_, List.mem_singleton.mp hv, by decide, by decide, by decide, by decide⟩
      rw [ey] at ev
      have z1w : 1 + wS.length ≤ sizeLine := zz _ (by omega)
      have zw1 : wS.length + 1 ≤ sizeLine := zz _ (by omega)
      refine ⟨_, rfl, _, _, rfl, rfl, z1w, _, rfl, _, _, rfl, rfl, zw1, _, rfl, _, _, rfl, rfl, z1w, _, rfl, _, _, rfl, rfl, zw1, zz 9 (by decide), fun p hp => ?_⟩
      exact ⟨_, rfl, _, _, rfl, rfl, (by show (0 : Int) < _; decide), p, _, _, _, rfl, rfl, SqL.of upd_same, ev, fin _ _ (same_upd hp) hy⟩
    refine ⟨_, rfl, rfl, _, rfl, ite2 (fun _ => ?_) (fun _ => ?_)⟩
    · -- 7: dashes and such
      have m9 := modp (a := n / 9) (b := 10 ^ (9 : Int).toNat) (by decide)
      obtain ⟨m, em, hmt, hml⟩ := num_str m9.1 9 (by decide) m9.2
      have m17 := modp (a := n / 9) (b := 17) (by decide)
      obtain ⟨v, ev, hv⟩ := atI_some (xs := [V.str "-", V.str "-0", V.str "--1", V.str ("-" ++ wS), V.str (wS ++ "-"), V.str (wS ++ "-1"), V.str "1-", V.str "1-1", V.str "-00", V.str "+1", V.str "1_0", V.str "+0", V.str "-1_0"] ++ [V.str "1.0", V.str ("+" ++ Str.ofString (toString (n / 9 % 10 ^ (9 : Int).toNat))), V.str "1e3", V.str "0x1"]) (i := n / 9 % 17) m17.1 m17.2
      obtain ⟨y, ey, hy⟩ : ∃ y : Str, v = V.str y ∧ OddS y := by
        simp only [List.cons_append, List.nil_append] at hv
        rcases List.mem_cons.mp hv with e | hv
        · exact ⟨_, e, by decide, by decide, by decide, by decide⟩
        rcases List.mem_cons.mp hv with e | hv
        · exact ⟨_, e, by decide, by decide, by decide, by decide⟩
        rcases List.mem_cons.mp hv with e | hv
        · exact ⟨_, e, by decide, by decide, by decide, by decide⟩
        rcases List.mem_cons.mp hv with e | hv
        · exact ⟨_, e, oddCat _ _ (odd_mixed (c := 45) (d := wc) (r := cpl wS) (.inr rfl) hwm hwc) (by decide) hwok (by simp [hw2]) (by show 1 + _ ≤ 100; omega)⟩
        rcases List.mem_cons.mp hv with e | hv
        · exact ⟨_, e, oddCat _ _ (by rw [ewc]; exact odd_dash (c := wc) (r := wr ++ [45]) hwc (by simp)) hwok (by decide) (by simp [hw2]) (by show _ + 1 ≤ 100; omega)⟩
        rcases List.mem_cons.mp hv with e | hv
        · exact ⟨_, e, oddCat _ _ (by rw [ewc]; exact odd_dash (c := wc) (r := wr ++ [45, 49]) hwc (by simp)) hwok (by decide) (by simp [hw2]) (by show _ + 2 ≤ 100; omega)⟩
        rcases List.mem_cons.mp hv with e | hv
        · exact ⟨_, e, by decide, by decide, by decide, by decide⟩
        rcases List.mem_cons.mp hv with e | hv
        · exact ⟨_, e, by decide, by decide, by decide, by decide⟩
        rcases List.mem_cons.mp hv with e | hv
        · exact ⟨_, e, by decide, by decide, by decide, by decide⟩
        rcases List.mem_cons.mp hv with e | hv
        · exact ⟨_, e, by decide, by decide, by decide, by decide⟩
        rcases List.mem_cons.mp hv with e | hv
        · exact ⟨_, e, by decide, by decide, by decide, by decide⟩
        rcases List.mem_cons.mp hv with e | hv
        · exact ⟨_, e, by decide, by decide, by decide, by decide⟩
        rcases List.mem_cons.mp hv with e | hv
        · exact ⟨_, e, by decide, by decide, by decide, by decide⟩
        rcases List.mem_cons.mp hv with e | hv
        · exact ⟨_, e, by decide, by decide, by decide, by decide⟩
        rcases List.mem_cons.mp hv with e | hv
        · refine ⟨_, e, oddCat _ _ (odd_char (c := 43) (by show 43 ∈ 43 :: cpl _; simp) (by decide)) (by decide) (fun k hk => ?_) (by show 43 :: cpl _ ≠ []; simp) (by show 1 + _ ≤ 100; omega)⟩
          rw [hmt] at hk
          exact let_ok (.inr (digs_fig hk))
        rcases List.mem_cons.mp hv with e | hv
        · exact ⟨_, e, by decide, by decide, by decide, by decide⟩
        · exact ⟨_, List.mem_singleton.mp hv, by decide, by decide, by decide, by decide⟩
      rw [ey] at ev
      have z1w : 1 + wS.length ≤ sizeLine := zz _ (by omega)
      have zw1 : wS.length + 1 ≤ sizeLine := zz _ (by omega)
      have zw2 : wS.length + 2 ≤ sizeLine := zz _ (by omega)
      refine ⟨_, rfl, _, _, rfl, rfl, z1w, _, rfl, _, _, rfl, rfl, zw1, _, rfl, _, _, rfl, rfl, zw2, zz 13 (by decide), fun p hp => ?_⟩
      have t1 := same_upd (o := .lst [V.str "-", V.str "-0", V.str "--1", V.str ("-" ++ wS), V.str (wS ++ "-"), V.str (wS ++ "-1"), V.str "1-", V.str "1-1", V.str "-00", V.str "+1", V.str "1_0", V.str "+0", V.str "-1_0"]) hp
      refine ⟨_, rfl, _, rfl, _, _, rfl, rfl, ⟨by decide, by decide, by decide⟩, _, _, rfl, rfl, (by show (0 : Int) < _; decide), _, rfl, log_big m9.1 (Int.lt_of_lt_of_le m9.2 (by decide)), _, _, rfl, rfl, (zz _ (by show 1 + _ ≤ 1000; omega)), zz 4 (by decide), fun p2 hp2 => ?_⟩
      have t2 := same_upd (o := .lst [V.str "1.0", V.str ("+" ++ Str.ofString (toString (n / 9 % 10 ^ (9 : Int).toNat))), V.str "1e3", V.str "0x1"]) hp2
      refine ⟨p, p2, _, _, rfl, rfl, t2 _ _ upd_same, upd_same, zz 17 (by decide), fun p3 hp3 => ?_⟩
      exact ⟨_, rfl, _, _, rfl, rfl, (by show (0 : Int) < _; decide), p3, _, _, _, rfl, rfl, SqL.of upd_same, ev, fin _ _ (t1.trans (t2.trans (same_upd hp3))) hy⟩
    · -- 8: a dash ahead, an odd sign behind
      obtain ⟨y, ey, hy⟩ := pick2 "" "7" (n / 9 % 2) m2.1 m2.2
      have hyl : y.length ≤ 1 := by rcases hy with e | e <;> (rw [e]; decide)
      have hyo : ∀ k ∈ cpl y, okC k = true := by rcases hy with e | e <;> (rw [e]; decide)
      have mS2 := modp (a := n / 9 / 2) (b := (someS.length : Int)) hs0
      obtain ⟨sd, esd, hsd⟩ := SOME _ mS2.1 mS2.2
      refine ⟨zz 2 (by decide), fun p hp => ⟨_, rfl, _, _, rfl, rfl, (by show (0 : Int) < _; decide), p, _, _, _, rfl, rfl, SqL.of upd_same, ey, _, _, rfl, rfl, (zz _ (by show 1 + _ ≤ 1000; omega)), _, rfl, _, _, rfl, rfl, ?_, ?_⟩⟩
      · refine zz _ ?_
        rw [← cpl_len, cpl_cat, List.length_append, cpl_len, cpl_len]
        show 1 + _ + _ ≤ 1000; omega
      refine ⟨_, rfl, _, rfl, _, _, rfl, rfl, ⟨by decide, by decide⟩, _, rfl, someS, rfl, hsz, _, _, rfl, rfl, hs0, someS, _, sd, rfl, rfl, hsz, esd, _, _, rfl, rfl, ?_, fin _ _ (same_upd hp) ?_⟩
      · refine zz _ ?_
        rw [← cpl_len, cpl_cat, cpl_cat, List.length_append, List.length_append, cpl_len, cpl_len, cpl_len]
        show 1 + _ + _ + 1 ≤ 1000; omega
      · have ec : cpl ((("-" : Str) ++ y ++ wS) ++ ⟨#[sd]⟩) = (45 :: (cpl y ++ cpl wS)) ++ [sd] := by
          rw [cpl_cat, cpl_cat, cpl_cat]; rfl
        refine ⟨?_, fun k hk => ?_, ?_, ?_⟩
        · rw [ec]; exact odd_char (c := sd) (by simp) hsd
        · rw [ec] at hk
          rcases List.mem_append.mp hk with h | h
          · rcases List.mem_cons.mp h with e | h
            · rw [e]; decide
            · exact (List.mem_append.mp h).elim (hyo k) (hwok k)
          · rw [List.mem_singleton.mp h]; exact bad_ok hsd
        · rw [ec]; simp
        · rw [← cpl_len, ec, List.length_append, List.length_cons, List.length_append, cpl_len, cpl_len]
          show _ + 1 ≤ 100; omega
end
end K15

set_option Elab.async false
set_option linter.all false
set_option maxRecDepth 100000
set_option maxHeartbeats 4000000
set_option exponentiation.threshold 3000
/-! k15: the law. Own work. -/
namespace K15
open PySem L2 TR XC
theorem good_small {l : List Nat} (h : goodB l = true) : ∀ k ∈ l, k < 128 := by
  have ok : ∀ {k : Nat}, okC k = true → k < 128 := fun {k} e => by unfold okC at e; exact (of_decide_eq_true e).1
  unfold goodB at h
  rcases Bool.or_eq_true .. ▸ h with h | h
  · rcases Bool.or_eq_true .. ▸ h with h | h
    · rcases of_decide_eq_true h with e | e <;> (intro k hk; rw [e] at hk; rw [List.mem_singleton.mp hk]; decide)
    · unfold wordB at h
      rcases Bool.or_eq_true .. ▸ h with h | h
      · rcases of_decide_eq_true h with e | e <;> (intro k hk; rw [e] at hk; rw [List.mem_singleton.mp hk]; decide)
      · obtain ⟨_, h2⟩ := Bool.and_eq_true .. ▸ h
        intro k hk
        have := List.all_eq_true.mp h2 k hk
        exact ok (let_ok (by rcases Bool.or_eq_true .. ▸ this with g | g <;> simp [g]))
  · unfold numB at h
    obtain ⟨_, h2⟩ := Bool.and_eq_true .. ▸ h
    obtain ⟨h2, _⟩ := Bool.and_eq_true .. ▸ h2
    intro k hk
    by_cases e : k = 45
    · rw [e]; decide
    · exact ok (let_ok (.inr (List.all_eq_true.mp h2 k (in_figs hk e))))
theorem sgV_strs (ls : List (List Nat)) : sgV ls = (ls.map ofL).map V.str := by unfold sgV; rw [List.map_map]; rfl
theorem joined {ls : List (List Nat)} (h : ∀ l ∈ ls, TX.SignC l ∧ l.length ≤ 100) (hl : ls.length ≤ 250) : JoinOk " " (ls.map ofL) = true ∧ (Str.join " " (ls.map ofL)).length ≤ 30400 ∧ TX.cutC (cpl (Str.join " " (ls.map ofL))) = ls := by
  have hshort : ∀ y ∈ ls.map ofL, y.length ≤ 100 := fun y hy => by
    obtain ⟨l, hl, rfl⟩ := List.mem_map.mp hy
    rw [← cpl_len, cpl_ofL]; exact (h l hl).2
  have hc : (ls.map ofL).length ≤ 250 := by rw [List.length_map]; exact hl
  refine ⟨joinOk_of hshort (by show _ * 100 + _ * 1 ≤ _; omega), ?_, cut_join ls fun l hl => (h l hl).1⟩
  have h1 := StrLaws.join_length_le " " (ls.map ofL)
  have h2 := StrLaws.sumLen_le (ls.map ofL) hshort
  have h3 : (" " : Str).length = 1 := rfl
  rw [h3] at h1
  omega
theorem SgsOk.sign {sgs : List Sg} (h : SgsOk sgs) : ∀ l ∈ sgs.map txt, TX.SignC l ∧ l.length ≤ 100 := fun l hl => by
  obtain ⟨g, hg, rfl⟩ := List.mem_map.mp hl
  exact ⟨good_sign (sg_good (h g hg).1), (h g hg).2⟩
theorem SgsOk.small {sgs : List Sg} (h : SgsOk sgs) : ∀ l ∈ sgs.map txt, ∀ k ∈ l, k < 16 ^ 8 := fun l hl k hk => by
  obtain ⟨g, hg, rfl⟩ := List.mem_map.mp hl
  exact Nat.lt_trans (good_small (sg_good (h g hg).1) k hk) (by decide)
theorem SgsOk.good {sgs : List Sg} (h : SgsOk sgs) : ∀ l ∈ sgs.map txt, goodB l = true := fun l hl => by
  obtain ⟨g, hg, rfl⟩ := List.mem_map.mp hl
  exact sg_good (h g hg).1
theorem OddS.sign {y : Str} (h : OddS y) : TX.SignC (cpl y) := .inr (.inr ⟨fun k hk => by
  have := h.2.1 k hk
  unfold okC at this
  obtain ⟨_, a, b, c, d⟩ := of_decide_eq_true this
  exact ⟨a, b, c, d⟩, h.2.2.1⟩)
theorem OddS.small {y : Str} (h : OddS y) : ∀ k ∈ cpl y, k < 16 ^ 8 := fun k hk => by
  have := h.2.1 k hk
  unfold okC at this
  exact Nat.lt_trans (of_decide_eq_true this).1 (by decide)
theorem eqVs_sg : ∀ (ls : List (List Nat)), eqVs (sgV ls) (sgV ls) = true
  | [] => rfl
  | l :: r => by
    have ih := eqVs_sg r
    unfold sgV at ih ⊢
    rw [List.map_cons]
    show (eqV (.str (ofL l)) (.str (ofL l)) && eqVs _ _) = true
    rw [ih, eqV_str]; simp
theorem FnOk.calm {P : Program} {w : World} {K : PySem.W.Frag} {mg : Str → Option Value} {base : Heap} {k : Nat} {f : Addr} {fd : FuncData} {ps : List Str} {sp : Sp} (F : FnOk P w K mg base (CXE P w) k f fd ps sp) : FnOk P w K mg base CX0 k f fd ps (fun vs H Q _ => sp vs H Q E0) :=
  ⟨fun vs H Q E h => F.len vs H Q E0 h, fun A outer s H args us vs Q E hr he hb hv hs => codeAny_mono (F.run A outer s H args us vs Q E0 hr he hb hv hs) fun r s' h => by
    cases r with
    | error e => obtain ⟨_, _, _, _, _, _, _, _, _, _, _, _, _, _, _, z⟩ := h; exact z
    | ok fl => cases fl <;> exact h⟩
/-- a text that is read -/
def GoodT (gt : Str) (sgs : List Sg) : Prop := gt.length ≤ 30400 ∧ TX.cutC (cpl gt) = sgs.map txt ∧ SgsOk sgs ∧ sgs.length ≤ 250 ∧ dep sgs 0 = some 0
/-- a text that is refused -/
def BadT (xt : Str) : Prop := xt.length ≤ 30400 ∧ (∀ l ∈ TX.cutC (cpl xt), ∀ k ∈ l, k < 16 ^ 8) ∧ Reads xt none
def spLaw (K : PySem.W.Frag) : Sp := fun vs H Q _ => ∃ (a : Addr) (ns : List Int), vs = [.ref a] ∧ SqL K H a (ns.map V.int) ∧ ns.length ≤ 63 ∧ ∀ H', Q (.bl true) H'
section
variable {P : Program} {w : World} {K : PySem.W.Frag} {mg : Str → Option Value} {base : Heap} {c : C4} {r : R9} {fH : Addr}
theorem signs_mono {cN : Addr} (t : V) (H : Hp) (Q : VK) (E : XK) (h : spSignsX cN [t] H (fun _ _ => False) E) : spSignsX cN [t] H Q E := by
  obtain ⟨x, e, hl, hs, q, qe⟩ := h
  exact ⟨x, e, hl, hs, fun hall H' D a b c => (q hall H' D a b c).elim, qe⟩
theorem read_mono {cN : Addr} (t : V) (H : Hp) (Q : VK) (E : XK) (h : spReadX c cN [t] H (fun _ _ => False) E) : spReadX c cN [t] H Q E := by
  obtain ⟨x, o, e, hl, hs, hr, q, qe⟩ := h
  exact ⟨x, o, e, hl, hs, hr, fun ts he H' D us a b c d => (q ts he H' D us a b c d).elim, qe⟩
abbrev NLw : List Str := ["_law_script", "_law_deep", "_law_signs_here", "_law_number", "_law_good", "_law_odd_here", "_law_text", "_law_fails", "_law_own"]
theorem scLaw : FnScope NLw ["_law_script"] (defScope sLaw) := ⟨rfl, rfl, rfl, by decide +kernel, rfl, by decide +kernel, by decide +kernel⟩
end
end K15

set_option Elab.async false
set_option linter.all false
set_option maxRecDepth 100000
set_option maxHeartbeats 4000000
set_option exponentiation.threshold 3000
/-! k15: the law. Own work. -/
namespace K15
open PySem L2 TR XC
theorem iteN {b : Bool} {A B : Prop} (h : b = false) (q : B) : if b = true then A else B := by rw [h]; exact iteF q
theorem ne_self (x : V) : (!decide (x = x)) = false := by simp
section
variable {P : Program} {w : World} {K : PySem.W.Frag} {mg : Str → Option Value} {base : Heap} {c : C4} {r : R9} {fH : Addr}
theorem ok_law {f fC fS fO fP fB fR fG fD : Addr} {fd fdC fdS fdO fdP fdB fdR fdG fdD fdH : FuncData} (F : Fun K "law" "law" sLaw f fd) (X : Txt mg)
    (FC : Fun K "_law_cell" "_law_cell" sCell fC fdC) (bC : Binds K fdC ["_law_script", "_law_k"] []) (mC : mg "_law_cell" = some (.ref fC))
    (kS : PySem.W.keepIn K (.ref fS) = true) (GS0 : FnOk P w K mg base CX0 2 fS fdS ["_law_cells", "_law_deep"] spLSigns) (bS : Binds K fdS ["_law_cells", "_law_deep"] []) (mS : mg "_law_signs" = some (.ref fS))
    (kO : PySem.W.keepIn K (.ref fO) = true) (GO0 : FnOk P w K mg base CX0 2 fO fdO ["_law_number"] spOdd) (bO : Binds K fdO ["_law_number"] []) (mO : mg "_law_odd" = some (.ref fO))
    (kP : PySem.W.keepIn K (.ref fP) = true) (GP0 : FnOk P w K mg base CX0 1 fP fdP ["_law_signs_here", "_law_at", "_law_sign"] (spPut K)) (bP : Binds K fdP ["_law_signs_here", "_law_at", "_law_sign"] []) (mP : mg "_law_put" = some (.ref fP))
    (kB : PySem.W.keepIn K (.ref fB) = true) (GB0 : FnOk P w K mg base CX0 2 fB fdB ["_law_signs_here", "_law_number"] spBrackets) (bB : Binds K fdB ["_law_signs_here", "_law_number"] []) (mB : mg "_law_brackets" = some (.ref fB))
    (kR : PySem.W.keepIn K (.ref fR) = true) (GRs0 : FnOk P w K mg base CX0 4 fR fdR ["_law_asked", "_law_text"] (spRefused fG r.nt (spSignsX r.nt))) (GRr0 : FnOk P w K mg base CX0 6 fR fdR ["_law_asked", "_law_text"] (spRefused fD r.nt (spReadX c r.nt))) (bR : Binds K fdR ["_law_asked", "_law_text"] []) (mR : mg "_law_refused" = some (.ref fR))
    (kG : PySem.W.keepIn K (.ref fG) = true) (GG0 : FnOk P w K mg base (CXE P w) 3 fG fdG ["text"] (spSignsX r.nt)) (bG : Binds K fdG ["text"] []) (mG : mg "signs_of" = some (.ref fG))
    (kD : PySem.W.keepIn K (.ref fD) = true) (GD0 : FnOk P w K mg base (CXE P w) 5 fD fdD ["text"] (spReadX c r.nt)) (bD : Binds K fdD ["text"] []) (mD : mg "read" = some (.ref fD))
    (R : Rcs K mg r fH) (eh : EC K r.h) (nAh : PySem.W.findIn K (.ref r.h) "at" = some none) (nOh : PySem.W.findIn K (.ref r.h) "other" = some none)
    (GH : FnOk P w K mg base CX0 1 fH fdH ["self", "words", "at", "other"] (spHI K)) (bH0 : Binds K fdH ["self", "words", "at", "other"] []) (bH2 : Binds K fdH ["self", "words", "at", "other"] [.none, .none]) :
    FnOk P w K mg base CX0 7 f fd ["_law_script"] (spLaw K) := by
  have GC : FnOk P w K mg base CX0 6 fC fdC ["_law_script", "_law_k"] (spCell K) := (ok_cell FC X).mono (by decide)
  have GS := GS0.mono (show 2 ≤ 6 by decide)
  have GO := GO0.mono (show 2 ≤ 6 by decide)
  have GP := GP0.mono (show 1 ≤ 6 by decide)
  have GB := GB0.mono (show 2 ≤ 6 by decide)
  have GRs := GRs0.mono (show 4 ≤ 6 by decide)
  have GRr := GRr0
  have GG := (FnOk.calm GG0).mono (show 3 ≤ 6 by decide)
  have GD := (FnOk.calm GD0).mono (show 5 ≤ 6 by decide)
  refine F.ok scLaw (fun vs H Q E h => ?_) (fun cdv A outer s H vs Q E hr h => ?_)
  · obtain ⟨a, ns, rfl, _⟩ := h; rfl
  · obtain ⟨a, ns, rfl, hS, hl, q⟩ := h
    have nd := scLaw.nd
    have hu := hu_of hr
    have hr2 : Room 2 _ := hr.mono (by decide)
    have REST2 : ∃ t : TS, PSs (cxOf CX0 P w K mg base NLw "law" (defScope sLaw) f cdv A outer s H E).nox ((defBody sLaw).drop 6) t ∧
        ∀ (S O : Addr) (d num : Int) (gt xt : Str) (sgs : List Sg) (H1 : Hp), H1 S = some (.lst (sgV (sgs.map txt))) → GoodT gt sgs → BadT xt →
          t { nx := fun _ H' => Q .non H', rt := Q } [some (.ref a), some (.int d), some (.ref S), some (.int num), some (.str gt), some (.ref O), some (.str xt), some (.bl true), none] H1 := by
      refine ⟨_, pss_cons (ps_if (PW.pt (pw_or (pt_not (pt_val (pv 7))) (pw_or (pt_not (pt_val (pe_call GRr hr (by rfl) mR kR bR .nil pass0 (pa_cons (pe_glob (v := .ref fD) (by rfl) mD rfl) (pa_cons (pv 6) pa_nil))))) (pw_or1 (pt_not (pt_val (pe_callB call_isI (by rfl) X.isi bt_isinstance (pa_cons (pe_call GD hr (by rfl) mD kD bD .nil pass0 (pa_cons (pv 4) pa_nil)) (pa_cons (pe_bltn (v := .ty "list") (by rfl) X.list bt_list rfl) pa_nil)))))))))
      (pss_one (ps_ret pe_bl))
      pss_nil)
      (pss_cons (ps_set (i := 8) nd rfl (Or.inl rfl) (pe_makeE R.Mh GH hr2 (by rfl) R.mh bH0 (dvs := []) .nil pass0 (pa_cons pe_str (pa_cons (pv 1) (pa_cons (pv 3) pa_nil)))))
      (pss_cons (ps_if (PW.pt (pw_or (pt_cmpR op_ne (pe_fldX (pv 8) rfl : PE _ _ (tFldX K (tVar 8) ("at" : Str))) (pv 1) (nomark _)) (pw_or (pt_cmpR op_ne (pe_fldX (pv 8) rfl : PE _ _ (tFldX K (tVar 8) ("other" : Str))) (pv 3) (nomark _)) (pw_or1 (pt_cmpR op_notN (pe_fldX (pe_makeE R.Mh GH hr2 (by rfl) R.mh bH2 (dvs := [.non, .non]) (.cons rfl (.cons rfl .nil)) pass0 (pa_cons pe_str pa_nil)) rfl) pe_non (nomark _))))))
      (pss_one (ps_ret pe_bl))
      pss_nil)
      (pss_one (ps_ret (pe_and (pe_cmpR (op_eqL hu) (pe_call GG hr (by rfl) mG kG bG .nil pass0 (pa_cons (pv 4) pa_nil)) (pv 2) (nomark _)) (pe_one (pe_call GRr hr (by rfl) mR kR bR .nil pass0 (pa_cons (pe_glob (v := .ref fD) (by rfl) mD rfl) (pa_cons (pv 6) pa_nil))))))))), ?_⟩
      intro S O d num gt xt sgs H1 hS1 hg hb
      obtain ⟨hgl, hcut, hok, hsl, hdep⟩ := hg
      obtain ⟨ts, hts⟩ := fin_good hdep
      have hok1 : ∀ g ∈ sgs, SgOk g := fun g hg => (hok g hg).1
      have hsm : ∀ l ∈ TX.cutC (cpl gt), ∀ k ∈ l, k < 16 ^ 8 := by rw [hcut]; exact hok.small
      have hgd : ∀ l ∈ TX.cutC (cpl gt), goodB l = true := by rw [hcut]; exact hok.good
      have keep : ∀ {Ha H2 : Hp} {x : Addr} {o : HO}, Ha x = none → (∀ b u, b ≠ x → upd Ha x o b = some u → H2 b = some u) → Same Ha H2 := fun {Ha H2 x o} hx hk b u e => hk b u (ne_of_none e hx) (by rw [upd_ne (ne_of_none e hx)]; exact e)
      refine ⟨_, rfl, _, rfl, iteF ?_⟩
      have hbr : ∀ (Hx : Hp) (E' : XK), (∀ (x : Addr) (H' : Hp), Same Hx H' → Hx x = none → ExAt H' x r.nt [("at", .non), ("other", .non)] → E' (.ref r.nt) (some x) H') → spReadX c r.nt [.str xt] Hx (fun _ _ => False) E' := fun Hx E' hE =>
        ⟨xt, none, rfl, hb.1, hb.2.1, hb.2.2, (fun _ e => nomatch e), fun _ => hE⟩
      refine ⟨_, rfl, .str xt, rfl, fun E' hE => hbr _ E' hE, fun H2 s2 => ⟨_, rfl, iteF ?_⟩⟩
      refine ⟨_, rfl, gt, some ts, rfl, hgl, hsm, .inr ⟨sgs, hok1, hcut, by omega, hts⟩, fun ts' e H3 D us s3 hD h3 _ => ?_, fun e => nomatch e⟩
      refine ⟨.ref D, .ty "list", _, _, true, rfl, rfl, .lst h3, rfl, _, rfl, iteF ?_⟩
      have hS3 := s3 _ _ (s2 _ _ hS1)
      refine ⟨_, rfl, _, rfl, fun x hx => ⟨x, r.h, _, _, _, rfl, upd_same, eh, fun dx H4 hdx hne hk h1 h2 => ⟨rfl, ?_⟩⟩⟩
      have s4 := keep hx hk
      have ex : ExAt H4 x r.h [("at", .int d), ("other", .int num)] := ⟨dx, .inr h1, h2⟩
      refine ⟨_, rfl, x, r.h, _, _, rfl, ex, eh.c, nAh, rfl, _, rfl, rfl, _, rfl, iteN (ne_self _) ?_⟩
      refine ⟨_, rfl, x, r.h, _, _, rfl, ex, eh.c, nOh, rfl, _, rfl, rfl, _, rfl, iteN (ne_self _) ?_⟩
      refine fun x2 hx2 => ⟨x2, r.h, _, _, _, rfl, upd_same, eh, fun dx2 H5 hdx2 hne2 hk2 h12 h22 => ⟨rfl, x2, r.h, _, _, rfl, ⟨dx2, .inr h12, h22⟩, eh.c, nAh, rfl, rfl, _, rfl, iteF ?_⟩⟩
      have s5 := keep hx2 hk2
      have hS5 := s5 _ _ (s4 _ _ hS3)
      refine ⟨_, rfl, gt, rfl, hgl, hsm, fun _ H6 D6 s6 hD6 h6 => ?_, fun l hl hbl => by rw [hgd l hl] at hbl; cases hbl⟩
      rw [hcut] at h6
      refine ⟨_, rfl, D6, S, _, _, rfl, rfl, SqL.of h6, SqL.of (s6 _ _ hS5), flat_sgV _, flat_sgV _, true, (by show V.bl (eqVs _ _) = _; rw [eqVs_sg]), iteT ?_⟩
      exact ⟨_, rfl, .str xt, rfl, fun E' hE => hbr _ E' hE, fun H7 s7 => q H7⟩
    obtain ⟨t2, hR2, hrest2⟩ := REST2
    have REST1 : ∃ t : TS, PSs (cxOf CX0 P w K mg base NLw "law" (defScope sLaw) f cdv A outer s H E).nox ((defBody sLaw).drop 2) t ∧
        ∀ d : Nat, d ≤ 30 → t { nx := fun _ H' => Q .non H', rt := Q } [some (.ref a), some (.int d), none, none, none, none, none, none, none] H := by
      refine ⟨_, pss_cons (ps_set (i := 2) nd rfl (Or.inl rfl) (pe_call GS hr (by rfl) mS kS bS .nil pass0 (pa_cons (pe_slice sl_list (pv 0) (po_some pe_int) (po_some pe_int)) (pa_cons (pv 1) pa_nil))))
      (pss_cons (ps_set (i := 3) nd rfl (Or.inl rfl) (pe_op op_mod (pe_call GC hr (by rfl) mC FC.kp bC .nil pass0 (pa_cons (pv 0) (pa_cons pe_int pa_nil))) (pe_op op_pow pe_int pe_int)))
      (pss_cons (ps_set (i := 4) nd rfl (Or.inl rfl) (pe_bm PySem.F.plainAttrs_str PySem.F.slot_str_join PySem.F.type_str_join mt_join pe_str (pa_cons (pv 2) pa_nil)))
      (pss_cons (ps_if (pt_cmpR op_eq (pe_op op_mod (pe_call GC hr (by rfl) mC FC.kp bC .nil pass0 (pa_cons (pv 0) (pa_cons pe_int pa_nil))) pe_int) pe_int (nomark _))
      (pss_cons (ps_set (i := 5) nd rfl (Or.inl rfl) (pe_call GP hr (by rfl) mP kP bP .nil pass0 (pa_cons (pv 2) (pa_cons (pe_op op_mod (pe_call GC hr (by rfl) mC FC.kp bC .nil pass0 (pa_cons (pv 0) (pa_cons pe_int pa_nil))) (pe_op op_add (pe_callB call_len_seq (by rfl) X.len bt_len (pa_cons (pv 2) pa_nil)) pe_int)) (pa_cons (pe_call GO hr (by rfl) mO kO bO .nil pass0 (pa_cons (pv 3) pa_nil)) pa_nil)))))
        (pss_cons (ps_set (i := 6) nd rfl (Or.inl rfl) (pe_bm PySem.F.plainAttrs_str PySem.F.slot_str_join PySem.F.type_str_join mt_join pe_str (pa_cons (pv 5) pa_nil)))
        (pss_one (ps_set (i := 7) nd rfl (Or.inl rfl) (pe_call GRs hr (by rfl) mR kR bR .nil pass0 (pa_cons (pe_glob (v := .ref fG) (by rfl) mG rfl) (pa_cons (pv 6) pa_nil)))))))
      (pss_cons (ps_set (i := 5) nd rfl (Or.inl rfl) (pe_call GB hr (by rfl) mB kB bB .nil pass0 (pa_cons (pv 2) (pa_cons (pv 3) pa_nil))))
        (pss_cons (ps_set (i := 6) nd rfl (Or.inl rfl) (pe_bm PySem.F.plainAttrs_str PySem.F.slot_str_join PySem.F.type_str_join mt_join pe_str (pa_cons (pv 5) pa_nil)))
        (pss_one (ps_set (i := 7) nd rfl (Or.inl rfl) (pe_cmpR (op_eqL hu) (pe_call GG hr (by rfl) mG kG bG .nil pass0 (pa_cons (pv 6) pa_nil)) (pv 5) (nomark _)))))))
      hR2))), ?_⟩
      intro d hd
      refine ⟨_, rfl, _, rfl, _, rfl, a, _, rfl, hS, fun p0 hp0 => ?_⟩
      have t0 := same_upd (o := .lst (cutV (ns.map V.int) (some 4) (some 64))) hp0
      have hcl := cutV_length (ns.map V.int) (some 4) (some 64)
      rw [List.length_map] at hcl
      refine ⟨_, rfl, p0, _, d, rfl, upd_same, (fun v hv => ?_), by omega, hd, fun H1 S sgs s1 hSf hS1 hok hsl hdep => ?_⟩
      · unfold cutV at hv
        obtain ⟨z, _, rfl⟩ := List.mem_map.mp (List.mem_of_mem_drop (List.mem_of_mem_take hv))
        exact ⟨z, rfl⟩
      have sA := t0.trans s1
      have hSA := sA.seq hS
      refine ⟨_, rfl, a, 2, ns, rfl, hSA, by decide, fun zn => ⟨_, _, rfl, rfl, ⟨by decide, by decide, by decide⟩, _, _, rfl, rfl, (by show (0 : Int) < _; decide), ?_⟩⟩
      have mn := modp (a := zn) (b := 10 ^ (62 : Int).toNat) (by decide)
      obtain ⟨num, enum⟩ : ∃ num : Int, zn % 10 ^ (62 : Int).toNat = num := ⟨_, rfl⟩
      dsimp only
      rw [enum] at mn ⊢
      obtain ⟨jg1, jg2, jg3⟩ := joined (ls := sgs.map txt) hok.sign (by rw [List.length_map]; omega)
      refine ⟨rfl, _, rfl, " ", S, (sgs.map txt).map ofL, rfl, rfl, by rw [← sgV_strs]; exact SqL.of hS1, jg1, ?_⟩
      obtain ⟨gt, egt⟩ : ∃ gt, Str.join " " ((sgs.map txt).map ofL) = gt := ⟨_, rfl⟩
      rw [egt] at jg2 jg3 ⊢
      have hgood : GoodT gt sgs := ⟨jg2, jg3, hok, by omega, hdep⟩
      refine ⟨_, rfl, a, 1, ns, rfl, hSA, by decide, fun z1 => ⟨_, _, rfl, rfl, (by show (0 : Int) < _; decide), rfl, _, rfl, ite2 (fun _ => ?_) (fun _ => ?_)⟩⟩
      · -- an odd sign
        refine ⟨_, rfl, _, rfl, a, 3, ns, rfl, hSA, by decide, fun z3 => ⟨_, rfl, S, _, rfl, .inl (SqL.of hS1), _, _, rfl, rfl, _, _, rfl, rfl, (by show (0 : Int) < _; rw [sgV_len]; omega), ?_⟩⟩
        rw [sgV_len]
        dsimp only
        have mk := modp (a := z3) (b := (sgs.length : Int) + 1) (by omega)
        obtain ⟨k, ek⟩ : ∃ k : Nat, z3 % ((sgs.length : Int) + 1) = (k : Int) := ⟨(z3 % ((sgs.length : Int) + 1)).toNat, by omega⟩
        have hk : k ≤ sgs.length := by omega
        rw [ek]
        refine ⟨_, rfl, num, rfl, mn.1, mn.2, fun y H2 s2 hy => ?_⟩
        refine ⟨S, _, k, .str y, rfl, s2 _ _ hS1, by rw [sgV_len]; omega, by rw [sgV_len]; exact hk, fun H3 O s3 hO h3 => ?_⟩
        have elist : (sgV (sgs.map txt)).take k ++ [V.str y] ++ (sgV (sgs.map txt)).drop k = sgV ((sgs.take k).map txt ++ [cpl y] ++ (sgs.drop k).map txt) := by
          rw [sgV_take, sgV_drop]
          unfold sgV
          rw [List.map_append, List.map_append]
          show _ ++ [V.str y] ++ _ = _ ++ [V.str (ofL (cpl y))] ++ _
          rw [ofL_cpl]
        rw [elist] at h3
        have hls : ∀ l ∈ (sgs.take k).map txt ++ [cpl y] ++ (sgs.drop k).map txt, (TX.SignC l ∧ l.length ≤ 100) ∧ ∀ j ∈ l, j < 16 ^ 8 := fun l hl => by
          rcases List.mem_append.mp hl with h | h
          · rcases List.mem_append.mp h with h | h
            · exact ⟨(hok.take k).sign l h, (hok.take k).small l h⟩
            · rw [List.mem_singleton.mp h]; exact ⟨⟨hy.sign, by rw [cpl_len]; exact hy.2.2.2⟩, hy.small⟩
          · exact ⟨(hok.drop k).sign l h, (hok.drop k).small l h⟩
        obtain ⟨jb1, jb2, jb3⟩ := joined (ls := (sgs.take k).map txt ++ [cpl y] ++ (sgs.drop k).map txt) (fun l hl => (hls l hl).1) (by rw [List.length_append, List.length_append, List.length_map, List.length_map, List.length_take, List.length_drop, List.length_singleton]; omega)
        refine ⟨rfl, _, rfl, " ", O, _, rfl, rfl, by rw [← sgV_strs]; exact SqL.of h3, jb1, ?_⟩
        generalize Str.join " " (((sgs.take k).map txt ++ [cpl y] ++ (sgs.drop k).map txt).map ofL) = xt at jb2 jb3 ⊢
        have hyin : cpl y ∈ TX.cutC (cpl xt) := by rw [jb3]; simp
        have hsmx : ∀ l ∈ TX.cutC (cpl xt), ∀ j ∈ l, j < 16 ^ 8 := by rw [jb3]; exact fun l hl => (hls l hl).2
        have hbad : BadT xt := ⟨jb2, hsmx, .inl ⟨⟨cpl y, hyin, hy.1⟩, rfl⟩⟩
        refine ⟨_, rfl, .str xt, rfl, fun E' hE => ⟨xt, rfl, jb2, hsmx, fun hall => ?_, fun l hl hlb => hE⟩, fun H4 s4 => ?_⟩
        · have := hall _ hyin
          rw [hy.1] at this; cases this
        · exact hrest2 S O d num gt xt sgs H4 (s4 _ _ (s3 _ _ (s2 _ _ hS1))) hgood hbad
      · -- brackets
        refine ⟨_, rfl, _, rfl, S, sgs, num, rfl, hS1, hok, hsl, hdep, mn.1, fun H2 O sg2 s2 hO h2 hok2 hsl2 hdep2 => ?_⟩
        obtain ⟨jb1, jb2, jb3⟩ := joined (ls := sg2.map txt) hok2.sign (by rw [List.length_map]; omega)
        refine ⟨rfl, _, rfl, " ", O, (sg2.map txt).map ofL, rfl, rfl, by rw [← sgV_strs]; exact SqL.of h2, jb1, ?_⟩
        generalize Str.join " " ((sg2.map txt).map ofL) = xt at jb2 jb3 ⊢
        have hsmx : ∀ l ∈ TX.cutC (cpl xt), ∀ j ∈ l, j < 16 ^ 8 := by rw [jb3]; exact hok2.small
        have hgx : ∀ l ∈ TX.cutC (cpl xt), goodB l = true := by rw [jb3]; exact hok2.good
        have hbad : BadT xt := ⟨jb2, hsmx, .inr ⟨sg2, fun g hg => (hok2 g hg).1, jb3, by omega, fin_bad hdep2⟩⟩
        refine ⟨_, rfl, xt, rfl, jb2, hsmx, fun _ H3 D3 s3 hD3 h3 => ?_, fun l hl hbl => by rw [hgx l hl] at hbl; cases hbl⟩
        rw [jb3] at h3
        refine ⟨_, rfl, D3, O, _, _, rfl, rfl, SqL.of h3, SqL.of (s3 _ _ h2), flat_sgV _, flat_sgV _, ?_⟩
        show t2 _ ([some (.ref a), some (.int d), some (.ref S), some (.int num), some (.str gt), some (.ref O), some (.str xt), some (V.bl (eqVs (sgV (sg2.map txt)) (sgV (sg2.map txt)))), none] : St) H3
        rw [eqVs_sg]
        exact hrest2 S O d num gt xt sgs H3 (s3 _ _ (s2 _ _ hS1)) hgood hbad
    obtain ⟨t1, hR1, hrest1⟩ := REST1
    refine ⟨_, pss_cons (ps_set (i := 1) nd rfl (Or.inl rfl) pe_int)
      (pss_cons (ps_if (pt_cmpR op_eq (pe_op op_mod (pe_call GC hr (by rfl) mC FC.kp bC .nil pass0 (pa_cons (pv 0) (pa_cons pe_int pa_nil))) pe_int) pe_int (nomark _))
      (pss_one (ps_set (i := 1) nd rfl (Or.inl rfl) (pe_op op_mod (pe_op op_fdiv (pe_call GC hr (by rfl) mC FC.kp bC .nil pass0 (pa_cons (pv 0) (pa_cons pe_int pa_nil))) pe_int) pe_int)))
      pss_nil)
      hR1), ?_⟩
    refine ⟨_, rfl, a, 0, ns, rfl, hS, by decide, fun z => ⟨_, _, rfl, rfl, (by show (0 : Int) < _; decide), rfl, _, rfl, ite2 (fun _ => ?_) (fun _ => hrest1 0 (by decide))⟩⟩
    refine ⟨_, rfl, a, 0, ns, rfl, hS, by decide, fun z2 => ⟨_, _, rfl, rfl, ⟨by decide, by decide⟩, _, _, rfl, rfl, (by show (0 : Int) < _; decide), ?_⟩⟩
    have m31 := modp (a := z2 / 4) (b := 31) (by decide)
    obtain ⟨d, ed⟩ : ∃ d : Nat, z2 / 4 % 31 = (d : Int) := ⟨(z2 / 4 % 31).toNat, by omega⟩
    dsimp only
    rw [ed]
    exact hrest1 d (by omega)
end
end K15

set_option Elab.async false
set_option linter.all false
set_option maxRecDepth 100000
set_option maxHeartbeats 4000000
namespace K15
open PySem L2 TR XC
/-! ### what the top has written; the law's head -/
theorem len1 {α : Type} : ∀ {us : List α}, us.length = 1 → ∃ a, us = [a]
  | [a], _ => ⟨a, rfl⟩
theorem len2 {α : Type} {us : List α} (h : us.length = 2) : ∃ a b, us = [a, b] := by
  cases us with
  | nil => cases h
  | cons a r => obtain ⟨b, rfl⟩ := len1 (us := r) (Nat.succ.inj h); exact ⟨a, b, rfl⟩
theorem len3 {α : Type} {us : List α} (h : us.length = 3) : ∃ a b c, us = [a, b, c] := by
  cases us with
  | nil => cases h
  | cons a r => obtain ⟨b, c, rfl⟩ := len2 (us := r) (Nat.succ.inj h); exact ⟨a, b, c, rfl⟩
theorem len4 {α : Type} {us : List α} (h : us.length = 4) : ∃ a b c d, us = [a, b, c, d] := by
  cases us with
  | nil => cases h
  | cons a r => obtain ⟨b, c, d, rfl⟩ := len3 (us := r) (Nat.succ.inj h); exact ⟨a, b, c, d, rfl⟩
theorem all_mk {l : PySem.W.OpenLaw} {w : World} {K : PySem.W.Frag} {h : Heap} {mg : Str → Option Value} {fa gT gW gF gR nn br T0 T1 gh gbf gbr ggo gna gnf gnn gnr gtc gnt fSG fCU fX fN fRD fL fC fY fS fO fP fB fR fZ fWI fTI fFI fRI fHI : Addr} (X : K.In h) (G : h.Ns mainGlobals mg) (hfa : mg "law" = some (.ref fa))
    {nmh qh : Str} {Nh : Addr} {bsh : List Value} {snh : List Str} {subh : List Value} {abh : Bool} {colh : Option Bool} {ddh : Option Addr} {k0h k1h k2h k3h k5h : Option Value}
    {nmnt qnt : Str} {Nnt : Addr} {bsnt : List Value} {snnt : List Str} {subnt : List Value} {abnt : Bool} {colnt : Option Bool} {ddnt : Option Addr} {k0nt k1nt k2nt k3nt k5nt : Option Value}
    {odNN odBR odT0 odT1 odSG anSG odCU anCU odX anX odN anN odRD anRD odL anL odC anC odY anY odS anS odO anO odP anP odB anB odR anR odZ anZ odWI anWI odTI anTI odFI anFI odRI anRI odHI anHI : Option Addr} {slNN slBR slT0 slT1 slSG slCU slX slN slRD slL slC slY slS slO slP slB slR slZ slWI slTI slFI slRI slHI : Array (Option Value)} {ocT0 ocT1 ocSG kVSG dcSG pmSG cdSG ctSG ocCU kVCU dcCU pmCU cdCU ctCU ocX kVX dcX pmX cdX ctX ocN kVN dcN pmN cdN ctN ocRD kVRD dcRD pmRD cdRD ctRD ocL kVL dcL pmL cdL ctL ocC kVC dcC pmC cdC ctC ocY kVY dcY pmY cdY ctY ocS kVS dcS pmS cdS ctS ocO kVO dcO pmO cdO ctO ocP kVP dcP pmP cdP ctP ocB kVB dcB pmB cdB ctB ocR kVR dcR pmR cdR ctR ocZ kVZ dcZ pmZ cdZ ctZ ocWI kVWI dcWI pmWI cdWI ctWI ocTI kVTI dcTI pmTI cdTI ctTI ocFI kVFI dcFI pmFI cdFI ctFI ocRI kVRI dcRI pmRI cdRI ctRI ocHI kVHI dcHI pmHI cdHI ctHI : Value} {tk1 tk2 tk3 tk4 tk5 tk6 tk7 tk8 t0 : Tok} {nNN nBR nT0 nT1 : Nat}
    (qT : PySem.W.nsIn K mainGlobals "Tree" = some (some (.ref gT)))
    (qW : PySem.W.nsIn K mainGlobals "Word" = some (some (.ref gW)))
    (qF : PySem.W.nsIn K mainGlobals "Figure" = some (some (.ref gF)))
    (qR : PySem.W.nsIn K mainGlobals "Row" = some (some (.ref gR)))
    (eh : PySem.W.nsIn K mainGlobals "HouseError" = some (some (.ref gh)))
    (ebf : PySem.W.nsIn K mainGlobals "BadForm" = some (some (.ref gbf)))
    (ebr : PySem.W.nsIn K mainGlobals "BadRule" = some (some (.ref gbr)))
    (ego : PySem.W.nsIn K mainGlobals "GoesOn" = some (some (.ref ggo)))
    (ena : PySem.W.nsIn K mainGlobals "NoAhead" = some (some (.ref gna)))
    (enf : PySem.W.nsIn K mainGlobals "NoFill" = some (some (.ref gnf)))
    (enn : PySem.W.nsIn K mainGlobals "NoName" = some (some (.ref gnn)))
    (enr : PySem.W.nsIn K mainGlobals "NoRule" = some (some (.ref gnr)))
    (etc : PySem.W.nsIn K mainGlobals "TwoClaims" = some (some (.ref gtc)))
    (ent : PySem.W.nsIn K mainGlobals "NoText" = some (some (.ref gnt)))
    (qNN : PySem.W.nsIn K mainGlobals "NO_NAMES" = some (some (.ref nn)))
    (lN0 : K.lookup nn = some ⟨.type "tuple", odNN, .seq #[.str "*" tk1, .str "=" tk2] nNN, slNN⟩)
    (qBR : PySem.W.nsIn K mainGlobals "BRACKETS" = some (some (.ref br)))
    (lB0 : K.lookup br = some ⟨.type "tuple", odBR, .seq #[.str "(" tk3, .str ")" tk4] nBR, slBR⟩)
    (qLE : PySem.W.nsIn K mainGlobals "LETTERS" = some (some (.str "abcdefghijklmnopqrstuvwxyz" tk5)))
    (qFI : PySem.W.nsIn K mainGlobals "FIGURES" = some (some (.str "0123456789" tk6)))
    (qMF : PySem.W.nsIn K mainGlobals "MOST_FIGURES" = some (some (.int 60 tk7)))
    (qMD : PySem.W.nsIn K mainGlobals "MOST_DEEP" = some (some (.int 60 tk8)))
    (aSG : PySem.W.nsIn K mainGlobals "signs_of" = some (some (.ref fSG)))
    (lSG : K.lookup fSG = some ⟨ocSG, odSG, .func (PySem.W.fnOf "signs_of" "signs_of" (defArgs sSigns) (defBody sSigns) (defScope sSigns) .none kVSG dcSG pmSG anSG cdSG ctSG), slSG⟩)
    (cSG : PySem.W.codeIn K cdSG "signs_of" = true)
    (kSG : PySem.W.keepIn K (.ref fSG) = true)
    (aCU : PySem.W.nsIn K mainGlobals "cut" = some (some (.ref fCU)))
    (lCU : K.lookup fCU = some ⟨ocCU, odCU, .func (PySem.W.fnOf "cut" "cut" (defArgs sCut) (defBody sCut) (defScope sCut) .none kVCU dcCU pmCU anCU cdCU ctCU), slCU⟩)
    (cCU : PySem.W.codeIn K cdCU "cut" = true)
    (kCU : PySem.W.keepIn K (.ref fCU) = true)
    (aX : PySem.W.nsIn K mainGlobals "is_word" = some (some (.ref fX)))
    (lX : K.lookup fX = some ⟨ocX, odX, .func (PySem.W.fnOf "is_word" "is_word" (defArgs sWord) (defBody sWord) (defScope sWord) .none kVX dcX pmX anX cdX ctX), slX⟩)
    (cX : PySem.W.codeIn K cdX "is_word" = true)
    (kX : PySem.W.keepIn K (.ref fX) = true)
    (aN : PySem.W.nsIn K mainGlobals "is_number" = some (some (.ref fN)))
    (lN : K.lookup fN = some ⟨ocN, odN, .func (PySem.W.fnOf "is_number" "is_number" (defArgs sNumb) (defBody sNumb) (defScope sNumb) .none kVN dcN pmN anN cdN ctN), slN⟩)
    (cN : PySem.W.codeIn K cdN "is_number" = true)
    (kN : PySem.W.keepIn K (.ref fN) = true)
    (aRD : PySem.W.nsIn K mainGlobals "read" = some (some (.ref fRD)))
    (lRD : K.lookup fRD = some ⟨ocRD, odRD, .func (PySem.W.fnOf "read" "read" (defArgs sRead) (defBody sRead) (defScope sRead) .none kVRD dcRD pmRD anRD cdRD ctRD), slRD⟩)
    (cRD : PySem.W.codeIn K cdRD "read" = true)
    (kRD : PySem.W.keepIn K (.ref fRD) = true)
    (aL : PySem.W.nsIn K mainGlobals "leaf" = some (some (.ref fL)))
    (lL : K.lookup fL = some ⟨ocL, odL, .func (PySem.W.fnOf "leaf" "leaf" (defArgs sLeafR) (defBody sLeafR) (defScope sLeafR) .none kVL dcL pmL anL cdL ctL), slL⟩)
    (cL : PySem.W.codeIn K cdL "leaf" = true)
    (kL : PySem.W.keepIn K (.ref fL) = true)
    (aC : PySem.W.nsIn K mainGlobals "_law_cell" = some (some (.ref fC)))
    (lC : K.lookup fC = some ⟨ocC, odC, .func (PySem.W.fnOf "_law_cell" "_law_cell" (defArgs sCell) (defBody sCell) (defScope sCell) .none kVC dcC pmC anC cdC ctC), slC⟩)
    (cC : PySem.W.codeIn K cdC "_law_cell" = true)
    (kC : PySem.W.keepIn K (.ref fC) = true)
    (aY : PySem.W.nsIn K mainGlobals "_law_leaf" = some (some (.ref fY)))
    (lY : K.lookup fY = some ⟨ocY, odY, .func (PySem.W.fnOf "_law_leaf" "_law_leaf" (defArgs sLLeaf) (defBody sLLeaf) (defScope sLLeaf) .none kVY dcY pmY anY cdY ctY), slY⟩)
    (cY : PySem.W.codeIn K cdY "_law_leaf" = true)
    (kY : PySem.W.keepIn K (.ref fY) = true)
    (aS : PySem.W.nsIn K mainGlobals "_law_signs" = some (some (.ref fS)))
    (lS : K.lookup fS = some ⟨ocS, odS, .func (PySem.W.fnOf "_law_signs" "_law_signs" (defArgs sLSigns) (defBody sLSigns) (defScope sLSigns) .none kVS dcS pmS anS cdS ctS), slS⟩)
    (cS : PySem.W.codeIn K cdS "_law_signs" = true)
    (kS : PySem.W.keepIn K (.ref fS) = true)
    (aO : PySem.W.nsIn K mainGlobals "_law_odd" = some (some (.ref fO)))
    (lO : K.lookup fO = some ⟨ocO, odO, .func (PySem.W.fnOf "_law_odd" "_law_odd" (defArgs sOdd) (defBody sOdd) (defScope sOdd) .none kVO dcO pmO anO cdO ctO), slO⟩)
    (cO : PySem.W.codeIn K cdO "_law_odd" = true)
    (kO : PySem.W.keepIn K (.ref fO) = true)
    (aP : PySem.W.nsIn K mainGlobals "_law_put" = some (some (.ref fP)))
    (lP : K.lookup fP = some ⟨ocP, odP, .func (PySem.W.fnOf "_law_put" "_law_put" (defArgs sPut) (defBody sPut) (defScope sPut) .none kVP dcP pmP anP cdP ctP), slP⟩)
    (cP : PySem.W.codeIn K cdP "_law_put" = true)
    (kP : PySem.W.keepIn K (.ref fP) = true)
    (aB : PySem.W.nsIn K mainGlobals "_law_brackets" = some (some (.ref fB)))
    (lB : K.lookup fB = some ⟨ocB, odB, .func (PySem.W.fnOf "_law_brackets" "_law_brackets" (defArgs sBrackets) (defBody sBrackets) (defScope sBrackets) .none kVB dcB pmB anB cdB ctB), slB⟩)
    (cB : PySem.W.codeIn K cdB "_law_brackets" = true)
    (kB : PySem.W.keepIn K (.ref fB) = true)
    (aR : PySem.W.nsIn K mainGlobals "_law_refused" = some (some (.ref fR)))
    (lR : K.lookup fR = some ⟨ocR, odR, .func (PySem.W.fnOf "_law_refused" "_law_refused" (defArgs sRefused) (defBody sRefused) (defScope sRefused) .none kVR dcR pmR anR cdR ctR), slR⟩)
    (cR : PySem.W.codeIn K cdR "_law_refused" = true)
    (kR : PySem.W.keepIn K (.ref fR) = true)
    (aZ : PySem.W.nsIn K mainGlobals "law" = some (some (.ref fZ)))
    (lZ : K.lookup fZ = some ⟨ocZ, odZ, .func (PySem.W.fnOf "law" "law" (defArgs sLaw) (defBody sLaw) (defScope sLaw) .none kVZ dcZ pmZ anZ cdZ ctZ), slZ⟩)
    (cZ : PySem.W.codeIn K cdZ "law" = true)
    (kZ : PySem.W.keepIn K (.ref fZ) = true)
    (aWI : PySem.W.findIn K (.ref gW) "__init__" = some (some (.ref fWI)))
    (lWI : K.lookup fWI = some ⟨ocWI, odWI, .func (PySem.W.fnOf "__init__" "Word.__init__" (defArgs sWI) (defBody sWI) (defScope sWI) (.ref T0) kVWI dcWI pmWI anWI cdWI ctWI), slWI⟩)
    (cWI : PySem.W.codeIn K cdWI "Word.__init__" = true)
    (kWI : PySem.W.keepIn K (.ref fWI) = true)
    (iWI : PySem.W.isFn K (.ref fWI) = true)
    (lT0 : K.lookup T0 = some ⟨ocT0, odT0, .seq #[.int 0 t0] nT0, slT0⟩)
    (aTI : PySem.W.findIn K (.ref gT) "__init__" = some (some (.ref fTI)))
    (lTI : K.lookup fTI = some ⟨ocTI, odTI, .func (PySem.W.fnOf "__init__" "Tree.__init__" (defArgs sTI) (defBody sTI) (defScope sTI) .none kVTI dcTI pmTI anTI cdTI ctTI), slTI⟩)
    (cTI : PySem.W.codeIn K cdTI "Tree.__init__" = true)
    (kTI : PySem.W.keepIn K (.ref fTI) = true)
    (iTI : PySem.W.isFn K (.ref fTI) = true)
    (aFI : PySem.W.findIn K (.ref gF) "__init__" = some (some (.ref fFI)))
    (lFI : K.lookup fFI = some ⟨ocFI, odFI, .func (PySem.W.fnOf "__init__" "Figure.__init__" (defArgs sFI) (defBody sFI) (defScope sFI) .none kVFI dcFI pmFI anFI cdFI ctFI), slFI⟩)
    (cFI : PySem.W.codeIn K cdFI "Figure.__init__" = true)
    (kFI : PySem.W.keepIn K (.ref fFI) = true)
    (iFI : PySem.W.isFn K (.ref fFI) = true)
    (aRI : PySem.W.findIn K (.ref gR) "__init__" = some (some (.ref fRI)))
    (lRI : K.lookup fRI = some ⟨ocRI, odRI, .func (PySem.W.fnOf "__init__" "Row.__init__" (defArgs sRI) (defBody sRI) (defScope sRI) .none kVRI dcRI pmRI anRI cdRI ctRI), slRI⟩)
    (cRI : PySem.W.codeIn K cdRI "Row.__init__" = true)
    (kRI : PySem.W.keepIn K (.ref fRI) = true)
    (iRI : PySem.W.isFn K (.ref fRI) = true)
    (mkW : PySem.W.makesIn K gW = true)
    (kcW : PySem.W.keepIn K (.ref gW) = true)
    (pgW : PySem.W.plainGet K gW Str.empty = true)
    (hdW : PySem.W.hasDictIn K gW = true)
    (poW : PySem.W.plainOver K gW = true)
    (saW : PySem.W.findIn K (.ref gW) "__setattr__" = some (some (.builtin "object.__setattr__")))
    (nAW : PySem.W.findIn K (.ref gW) "at" = some none)
    (nMW : PySem.W.findIn K (.ref gW) "many" = some none)
    (nDW : PySem.W.findIn K (.ref gW) "deep" = some none)
    (haW : PySem.W.findIn K (.ref gW) "__class__" = some (some (.builtin "object.__class__")))
    (hmW : PySem.W.mroIn K gW (.type "object") = some true)
    (mkF : PySem.W.makesIn K gF = true)
    (kcF : PySem.W.keepIn K (.ref gF) = true)
    (pgF : PySem.W.plainGet K gF Str.empty = true)
    (hdF : PySem.W.hasDictIn K gF = true)
    (poF : PySem.W.plainOver K gF = true)
    (saF : PySem.W.findIn K (.ref gF) "__setattr__" = some (some (.builtin "object.__setattr__")))
    (nAF : PySem.W.findIn K (.ref gF) "at" = some none)
    (nMF : PySem.W.findIn K (.ref gF) "many" = some none)
    (nDF : PySem.W.findIn K (.ref gF) "deep" = some none)
    (haF : PySem.W.findIn K (.ref gF) "__class__" = some (some (.builtin "object.__class__")))
    (hmF : PySem.W.mroIn K gF (.type "object") = some true)
    (mkR : PySem.W.makesIn K gR = true)
    (kcR : PySem.W.keepIn K (.ref gR) = true)
    (pgR : PySem.W.plainGet K gR Str.empty = true)
    (hdR : PySem.W.hasDictIn K gR = true)
    (poR : PySem.W.plainOver K gR = true)
    (saR : PySem.W.findIn K (.ref gR) "__setattr__" = some (some (.builtin "object.__setattr__")))
    (nAR : PySem.W.findIn K (.ref gR) "at" = some none)
    (nMR : PySem.W.findIn K (.ref gR) "many" = some none)
    (nDR : PySem.W.findIn K (.ref gR) "deep" = some none)
    (haR : PySem.W.findIn K (.ref gR) "__class__" = some (some (.builtin "object.__class__")))
    (hmR : PySem.W.mroIn K gR (.type "object") = some true)
    (nWn : PySem.W.findIn K (.ref gW) "name" = some none)
    (nWb : PySem.W.findIn K (.ref gW) "bits" = some none)
    (nFn : PySem.W.findIn K (.ref gF) "number" = some none)
    (nRp : PySem.W.findIn K (.ref gR) "parts" = some none)
    (gtT : PySem.W.specialIn K (.ref gT) "__getattribute__" = some (some (.builtin "type.__getattribute__")))
    (rdT : PySem.W.readsIn K gT (.type "type") = true)
    (fcT : PySem.W.findCls K (.ref gT) (.type "type") "__init__" = some (.val (.ref fTI)))
    (hn : PySem.W.specialIn K (.builtin "object.__class__") "__get__" = some (some (.builtin "getset_descriptor.__get__")))
    (htk : PySem.W.takesIn K (.builtin "object.__class__") = some true)
    (aHI : PySem.W.findIn K (.ref gh) "__init__" = some (some (.ref fHI)))
    (lHI : K.lookup fHI = some ⟨ocHI, odHI, .func (PySem.W.fnOf "__init__" "HouseError.__init__" (defArgs sHI) (defBody sHI) (defScope sHI) (.ref T1) kVHI dcHI pmHI anHI cdHI ctHI), slHI⟩)
    (cHI : PySem.W.codeIn K cdHI "HouseError.__init__" = true)
    (kHI : PySem.W.keepIn K (.ref fHI) = true)
    (iHI : PySem.W.isFn K (.ref fHI) = true)
    (lT1 : K.lookup T1 = some ⟨ocT1, odT1, .seq #[.none, .none] nT1, slT1⟩)
    (hfc : PySem.W.findCls K (.type "ValueError") (.type "type") "__init__" = some (.val (.builtin "ValueError.__init__")))
    (lh : K.lookup gh = some (excClassObj nmh qh gh Nh bsh [.type "ValueError", .type "Exception", .type "BaseException", .type "object"] true snh subh abh colh ddh k0h k1h k2h k3h k5h "ValueError.__new__"))
    (sah : PySem.W.findIn K (.ref gh) "__setattr__" = some (some (.builtin "object.__setattr__")))
    (gah : PySem.W.findIn K (.ref gh) "__getattribute__" = some (some (.builtin "BaseException.__getattribute__")))
    (gnh : PySem.W.findIn K (.ref gh) "__getattr__" = some none)
    (inh : PySem.W.findIn K (.ref gh) "__init__" = some (some (.ref fHI)))
    (kph : PySem.W.keepIn K (.ref gh) = true)
    (lnt : K.lookup gnt = some (excClassObj nmnt qnt gnt Nnt bsnt [.ref gh, .type "ValueError", .type "Exception", .type "BaseException", .type "object"] true snnt subnt abnt colnt ddnt k0nt k1nt k2nt k3nt k5nt "ValueError.__new__"))
    (sant : PySem.W.findIn K (.ref gnt) "__setattr__" = some (some (.builtin "object.__setattr__")))
    (gant : PySem.W.findIn K (.ref gnt) "__getattribute__" = some (some (.builtin "BaseException.__getattribute__")))
    (gnnt : PySem.W.findIn K (.ref gnt) "__getattr__" = some none)
    (innt : PySem.W.findIn K (.ref gnt) "__init__" = some (some (.ref fHI)))
    (kpnt : PySem.W.keepIn K (.ref gnt) = true)
    (tAh : PySem.W.takerIn K gh "at" = some none)
    (tOh : PySem.W.takerIn K gh "other" = some none)
    (nah : PySem.W.findIn K (.ref gh) "at" = some none)
    (noh : PySem.W.findIn K (.ref gh) "other" = some none)
    (tAnt : PySem.W.takerIn K gnt "at" = some none)
    (tOnt : PySem.W.takerIn K gnt "other" = some none)
    (nant : PySem.W.findIn K (.ref gnt) "at" = some none)
    (nont : PySem.W.findIn K (.ref gnt) "other" = some none)
    (hab : PySem.W.findIn K (.ref gnt) "__class__" = some (some (.builtin "object.__class__")))
    (subb : PySem.W.mroIn K gnt (.ref gh) = some true)
    (kve : PySem.W.kitOne K (.ref gnt) (.type "ValueError") = some true)
    (kebf : PySem.W.kitOne K (.ref gnt) (.ref gbf) = some false)
    (kebr : PySem.W.kitOne K (.ref gnt) (.ref gbr) = some false)
    (kego : PySem.W.kitOne K (.ref gnt) (.ref ggo) = some false)
    (kena : PySem.W.kitOne K (.ref gnt) (.ref gna) = some false)
    (kenf : PySem.W.kitOne K (.ref gnt) (.ref gnf) = some false)
    (kenn : PySem.W.kitOne K (.ref gnt) (.ref gnn) = some false)
    (kenr : PySem.W.kitOne K (.ref gnt) (.ref gnr) = some false)
    (ketc : PySem.W.kitOne K (.ref gnt) (.ref gtc) = some false)
    (kent : PySem.W.kitOne K (.ref gnt) (.ref gnt) = some true)
    (iWW : PySem.W.kitOne K (.ref gW) (.ref gW) = some true)
    (iFW : PySem.W.kitOne K (.ref gF) (.ref gW) = some false)
    (iRW : PySem.W.kitOne K (.ref gR) (.ref gW) = some false)
    (iWF : PySem.W.kitOne K (.ref gW) (.ref gF) = some false)
    (iFF : PySem.W.kitOne K (.ref gF) (.ref gF) = some true)
    (iRF : PySem.W.kitOne K (.ref gR) (.ref gF) = some false)
    (iWR : PySem.W.kitOne K (.ref gW) (.ref gR) = some false)
    (iFR : PySem.W.kitOne K (.ref gF) (.ref gR) = some false)
    (iRR : PySem.W.kitOne K (.ref gR) (.ref gR) = some true)
    (iWT : PySem.W.kitOne K (.ref gW) (.ref gT) = some true)
    (iFT : PySem.W.kitOne K (.ref gF) (.ref gT) = some true)
    (iRT : PySem.W.kitOne K (.ref gR) (.ref gT) = some true)
    (z0 : PySem.W.nsIn K mainGlobals "len" = some none)
    (z1 : PySem.W.nsIn K mainGlobals "str" = some none)
    (z2 : PySem.W.nsIn K mainGlobals "list" = some none)
    (z3 : PySem.W.nsIn K mainGlobals "isinstance" = some none)
    (z4 : PySem.W.nsIn K mainGlobals "enumerate" = some none)
    (z5 : PySem.W.nsIn K mainGlobals "ValueError" = some none)
    (z6 : PySem.W.nsIn K mainGlobals "all" = some none)
    (z7 : PySem.W.nsIn K mainGlobals "sum" = some none)
    (z8 : PySem.W.nsIn K mainGlobals "int" = some none)
    (z9 : PySem.W.nsIn K mainGlobals "max" = some none)
    : ∃ fd : FuncData, (∀ (s : Shared) (v : Value), BindsTo s fd ⟨[v], []⟩ [("_law_script", v)]) ∧ ∀ base : Heap, K.In base → base.Ns mainGlobals mg → FnOk l.prog w K mg base CX0 7 fa fd ["_law_script"] (spLaw K) := by
  have e := hfa.symm.trans (PySem.W.mg_of X G aZ)
  cases e
  have TX : Txt mg := ⟨PySem.W.mg_none_of X G z0, PySem.W.mg_none_of X G z1, PySem.W.mg_none_of X G z2, PySem.W.mg_none_of X G z3, PySem.W.mg_none_of X G z4, PySem.W.mg_none_of X G z5⟩
  have Rr : Rd K mg nn br := ⟨PySem.W.mg_of X G qNN, fun H => .inr ⟨_, _, _, lN0, rfl, rfl, (by show 2 ≤ sizeLine; rw [sizeLine_eq]; decide), .cons ⟨_, rfl⟩ (.cons ⟨_, rfl⟩ .nil)⟩, PySem.W.mg_of X G qBR, fun H => .inr ⟨_, _, _, lB0, rfl, rfl, (by show 2 ≤ sizeLine; rw [sizeLine_eq]; decide), .cons ⟨_, rfl⟩ (.cons ⟨_, rfl⟩ .nil)⟩, ⟨_, PySem.W.mg_of X G qLE⟩, ⟨_, PySem.W.mg_of X G qFI⟩, ⟨_, PySem.W.mg_of X G qMF⟩, PySem.W.mg_none_of X G z0, PySem.W.mg_none_of X G z6⟩
  have T : Tcs K mg ⟨gT, gW, gF, gR⟩ := ⟨⟨⟨pgW, hdW, poW, saW⟩, nAW, nMW, nDW, haW, hmW⟩, ⟨⟨pgF, hdF, poF, saF⟩, nAF, nMF, nDF, haF, hmF⟩, ⟨⟨pgR, hdR, poR, saR⟩, nAR, nMR, nDR, haR, hmR⟩, nWn, nWb, nFn, nRp, PySem.W.mg_of X G qT, PySem.W.mg_of X G qW, PySem.W.mg_of X G qF, PySem.W.mg_of X G qR, hn, htk, iWW, iFW, iRW, iWF, iFF, iRF, iWR, iFR, iRR, iWT, iFT, iRT, PySem.W.mg_none_of X G z2, PySem.W.mg_none_of X G z9, PySem.W.mg_none_of X G z7⟩
  have FSG := fun_mk (st := sSigns) lSG cSG kSG
  have bSG := FSG.binds (ps := ["text"]) fun _ _ _ _ _ _ us hl => by obtain ⟨a, rfl⟩ := len1 (show us.length = 1 from hl); rfl
  have mSG := PySem.W.mg_of X G aSG
  have FCU := fun_mk (st := sCut) lCU cCU kCU
  have bCU := FCU.binds (ps := ["text"]) fun _ _ _ _ _ _ us hl => by obtain ⟨a, rfl⟩ := len1 (show us.length = 1 from hl); rfl
  have mCU := PySem.W.mg_of X G aCU
  have FX := fun_mk (st := sWord) lX cX kX
  have bX := FX.binds (ps := ["sign"]) fun _ _ _ _ _ _ us hl => by obtain ⟨a, rfl⟩ := len1 (show us.length = 1 from hl); rfl
  have mX := PySem.W.mg_of X G aX
  have FN := fun_mk (st := sNumb) lN cN kN
  have bN := FN.binds (ps := ["sign"]) fun _ _ _ _ _ _ us hl => by obtain ⟨a, rfl⟩ := len1 (show us.length = 1 from hl); rfl
  have mN := PySem.W.mg_of X G aN
  have FRD := fun_mk (st := sRead) lRD cRD kRD
  have bRD := FRD.binds (ps := ["text"]) fun _ _ _ _ _ _ us hl => by obtain ⟨a, rfl⟩ := len1 (show us.length = 1 from hl); rfl
  have mRD := PySem.W.mg_of X G aRD
  have FL := fun_mk (st := sLeafR) lL cL kL
  have bL := FL.binds (ps := ["sign", "at"]) fun _ _ _ _ _ _ us hl => by obtain ⟨a, b, rfl⟩ := len2 (show us.length = 2 from hl); rfl
  have mL := PySem.W.mg_of X G aL
  have FC := fun_mk (st := sCell) lC cC kC
  have bC := FC.binds (ps := ["_law_script", "_law_k"]) fun _ _ _ _ _ _ us hl => by obtain ⟨a, b, rfl⟩ := len2 (show us.length = 2 from hl); rfl
  have mC := PySem.W.mg_of X G aC
  have FY := fun_mk (st := sLLeaf) lY cY kY
  have bY := FY.binds (ps := ["_law_number"]) fun _ _ _ _ _ _ us hl => by obtain ⟨a, rfl⟩ := len1 (show us.length = 1 from hl); rfl
  have mY := PySem.W.mg_of X G aY
  have FS := fun_mk (st := sLSigns) lS cS kS
  have bS := FS.binds (ps := ["_law_cells", "_law_deep"]) fun _ _ _ _ _ _ us hl => by obtain ⟨a, b, rfl⟩ := len2 (show us.length = 2 from hl); rfl
  have mS := PySem.W.mg_of X G aS
  have FO := fun_mk (st := sOdd) lO cO kO
  have bO := FO.binds (ps := ["_law_number"]) fun _ _ _ _ _ _ us hl => by obtain ⟨a, rfl⟩ := len1 (show us.length = 1 from hl); rfl
  have mO := PySem.W.mg_of X G aO
  have FP := fun_mk (st := sPut) lP cP kP
  have bP := FP.binds (ps := ["_law_signs_here", "_law_at", "_law_sign"]) fun _ _ _ _ _ _ us hl => by obtain ⟨a, b, c, rfl⟩ := len3 (show us.length = 3 from hl); rfl
  have mP := PySem.W.mg_of X G aP
  have FB := fun_mk (st := sBrackets) lB cB kB
  have bB := FB.binds (ps := ["_law_signs_here", "_law_number"]) fun _ _ _ _ _ _ us hl => by obtain ⟨a, b, rfl⟩ := len2 (show us.length = 2 from hl); rfl
  have mB := PySem.W.mg_of X G aB
  have FR := fun_mk (st := sRefused) lR cR kR
  have bR := FR.binds (ps := ["_law_asked", "_law_text"]) fun _ _ _ _ _ _ us hl => by obtain ⟨a, b, rfl⟩ := len2 (show us.length = 2 from hl); rfl
  have mR := PySem.W.mg_of X G aR
  have FZ := fun_mk (st := sLaw) lZ cZ kZ
  have FTI := fun_mk (st := sTI) lTI cTI kTI
  have bTI := FTI.binds (ps := ["self", "at", "many", "deep"]) fun _ _ _ _ _ _ us hl => by obtain ⟨a, b, c, d, rfl⟩ := len4 (show us.length = 4 from hl); rfl
  have FFI := fun_mk (st := sFI) lFI cFI kFI
  have bFI := FFI.binds (ps := ["self", "number", "at"]) fun _ _ _ _ _ _ us hl => by obtain ⟨a, b, c, rfl⟩ := len3 (show us.length = 3 from hl); rfl
  have FRI := fun_mk (st := sRI) lRI cRI kRI
  have bRI := FRI.binds (ps := ["self", "parts", "at"]) fun _ _ _ _ _ _ us hl => by obtain ⟨a, b, c, rfl⟩ := len3 (show us.length = 3 from hl); rfl
  have FWI := fund_mk (st := sWI) lWI cWI kWI
  have bWI0 : Binds K (PySem.W.fnOf "__init__" "Word.__init__" (defArgs sWI) (defBody sWI) (defScope sWI) (.ref T0) kVWI dcWI pmWI anWI cdWI ctWI) ["self", "name", "at", "bits"] [.int 0 t0] := fun s us hK hl => by
    have h3 : us.length = 3 := by simpa using hl
    obtain ⟨a, b, c, rfl⟩ := len3 h3
    exact PySem.W.binds_K hK rfl lT0 rfl rfl rfl
  have FHI := fund_mk (st := sHI) lHI cHI kHI
  have bHI2 : Binds K (PySem.W.fnOf "__init__" "HouseError.__init__" (defArgs sHI) (defBody sHI) (defScope sHI) (.ref T1) kVHI dcHI pmHI anHI cdHI ctHI) ["self", "words", "at", "other"] [.none, .none] := fun s us hK hl => by
    have h2 : us.length = 2 := by simpa using hl
    obtain ⟨a, b, rfl⟩ := len2 h2
    exact PySem.W.binds_K hK rfl lT1 rfl rfl rfl
  have bHI0 : Binds K (PySem.W.fnOf "__init__" "HouseError.__init__" (defArgs sHI) (defBody sHI) (defScope sHI) (.ref T1) kVHI dcHI pmHI anHI cdHI ctHI) ["self", "words", "at", "other"] [] := fun s us hK hl => by
    have h4 : us.length = 4 := by simpa using hl
    obtain ⟨a, b, c, d, rfl⟩ := len4 h4
    exact PySem.W.binds_K hK rfl lT1 rfl rfl rfl
  have ECh : ECls K gh := ⟨⟨_, (by unfold PySem.W.clsIn; rw [lh]), rfl, rfl⟩, sah, gah, gnh⟩
  have MKh : MkE K gh fHI := ⟨ECh, ⟨_, _, _, _, _, _, _, _, _, _, _, _, _, _, _, _, lh, rfl⟩, inh, iHI, kph⟩
  have ECnt : ECls K gnt := ⟨⟨_, (by unfold PySem.W.clsIn; rw [lnt]), rfl, rfl⟩, sant, gant, gnnt⟩
  have MKnt : MkE K gnt fHI := ⟨ECnt, ⟨_, _, _, _, _, _, _, _, _, _, _, _, _, _, _, _, lnt, rfl⟩, innt, iHI, kpnt⟩
  have ECN : EC K gnt := ⟨ECnt, tAnt, tOnt⟩
  have ECH : EC K gh := ⟨ECh, tAh, tOh⟩
  have kt : PySem.W.kitAny K (.ref gnt) ([gbf, gbr, ggo, gna, gnf, gnn, gnr, gtc].map Value.ref) = some false := by simp only [List.map_cons, List.map_nil, PySem.W.kitAny, kebf, kebr, kego, kena, kenf, kenn, kenr, ketc]
  have RR : Rcs K mg ⟨gh, gbf, gbr, ggo, gna, gnf, gnn, gnr, gtc, gnt⟩ fHI := ⟨PySem.W.mg_of X G eh, PySem.W.mg_of X G ebf, PySem.W.mg_of X G ebr, PySem.W.mg_of X G ego, PySem.W.mg_of X G ena, PySem.W.mg_of X G enf, PySem.W.mg_of X G enn, PySem.W.mg_of X G enr, PySem.W.mg_of X G etc, PySem.W.mg_of X G ent, MKh, MKnt, ECN, ⟨ECnt, hab, hn, htk⟩, subb, nant, nont, kve, kent, kt⟩
  have cT' : ClsFn K (C4.mk gT gW gF gR).T "__init__" fTI := ⟨gtT, rdT, fcT, kTI⟩
  refine ⟨PySem.W.fnOf "law" "law" (defArgs sLaw) (defBody sLaw) (defScope sLaw) .none kVZ dcZ pmZ anZ cdZ ctZ, fun s v => .of_eq rfl, fun base _ _ => ?_⟩
  have GWI : FnOk l.prog w K mg base CX0 2 fWI _ ["self", "name", "at", "bits"] (spWI ⟨gT, gW, gF, gR⟩) := ok_wi FWI T FTI bTI cT'
  have GFI : FnOk l.prog w K mg base CX0 2 fFI _ ["self", "number", "at"] (spFI ⟨gT, gW, gF, gR⟩) := ok_fi FFI T FTI bTI cT'
  have GRI : FnOk l.prog w K mg base CX0 2 fRI _ ["self", "parts", "at"] (spRI ⟨gT, gW, gF, gR⟩) := ok_ri FRI T FTI bTI cT'
  have MW : Mk K gW fWI := ⟨mkW, aWI, iWI, kcW⟩
  have MF : Mk K gF fFI := ⟨mkF, aFI, iFI, kcF⟩
  have MR : Mk K gR fRI := ⟨mkR, aRI, iRI, kcR⟩
  have M : Mks K ⟨gT, gW, gF, gR⟩ fWI fFI fRI := ⟨MW, MF, MR⟩
  have GHI : FnOk l.prog w K mg base CX0 1 fHI _ ["self", "words", "at", "other"] (spHI K) := ok_hi FHI (PySem.W.mg_none_of X G z5) hfc
  have BF : Rf l.prog w K mg base gnt fHI _ := ⟨MKnt, ECN, PySem.W.mg_of X G ent, GHI, bHI2⟩
  have GSg : FnOk l.prog w K mg base (CXE l.prog w) 3 fSG _ ["text"] (spSignsX gnt) := ok_signsX FSG Rr FCU bCU mCU FX bX mX FN bN mN BF
  have GLf : FnOk l.prog w K mg base CX0 4 fL _ ["sign", "at"] (spLeafR ⟨gT, gW, gF, gR⟩) := ok_leafR FL T Rr (PySem.W.mg_none_of X G z8) M GWI bWI0 GFI bFI FX bX mX
  have GRd : FnOk l.prog w K mg base (CXE l.prog w) 5 fRD _ ["text"] (spReadX ⟨gT, gW, gF, gR⟩ gnt) := ok_readX FRD T Rr (PySem.W.mg_none_of X G z4) ⟨_, PySem.W.mg_of X G qMD⟩ M GRI bRI kSG (GSg.mono (by decide)) bSG mSG kL GLf bL mL BF
  exact ok_law (c := ⟨gT, gW, gF, gR⟩) (r := ⟨gh, gbf, gbr, ggo, gna, gnf, gnn, gnr, gtc, gnt⟩) FZ TX FC bC mC kS (ok_lsigns FS TX FY bY mY) bS mS kO (ok_odd FO TX FY bY mY) bO mO kP (ok_put FP) bP mP kB (ok_brackets FB TX FP bP mP) bB mB kR (ok_refused FR (PySem.W.mg_none_of X G z3) (PySem.W.mg_none_of X G z5) RR kSG bSG signs_mono GSg) (ok_refused FR (PySem.W.mg_none_of X G z3) (PySem.W.mg_none_of X G z5) RR kRD bRD read_mono GRd) bR mR kSG GSg bSG mSG kRD GRd bRD mRD RR ECH nah noh GHI bHI0 bHI2
theorem walk {l : PySem.W.OpenLaw} {q : Program} {loose : List Str} {XP : (Str → Option Value) → Heap → Prop} {YP : World → Heap → Prop} {d : DefRec} {K : Params → PySem.W.Frag} (hn : l.most = some 63) (hdf : d.params.defaults = [])
    (hY : ∀ (w : World) (h : Heap), YP w h → (K w.params).In h)
    (F : ∀ (w : World) (mg : Str → Option Value) (fa : Addr) (h : Heap), (K w.params).In h → h.Ns mainGlobals mg → mg d.name = some (.ref fa) →
      ∃ fd : FuncData, (∀ (s : Shared) (u : Value), BindsTo s fd ⟨[u], []⟩ [("_law_script", u)]) ∧ ∀ base : Heap, (K w.params).In base → base.Ns mainGlobals mg → FnOk l.prog w (K w.params) mg base CX0 7 fa fd ["_law_script"] (spLaw (K w.params))) :
    PySem.W.WalkO q loose XP YP l.row.toRowW d [] (fun f vs => PySem.call f vs) :=
  L2.walk_of (n := 63) (k := 7) (x := "_law_script") (CX := fun _ => CX0) (sp := fun w => spLaw (K w.params)) hn (by decide) hdf ⟨rfl, by decide, by decide⟩ hY F (fun _ _ a ns hl _ hS => ⟨a, ns, rfl, hS, hl, fun _ => rfl⟩) fun _ _ _ _ _ z => z
end K15
open PySem PySem.W PyProof.Rows
theorem PySem.W.Fast.te10594143875821845744 : True := True.intro
set_option maxRecDepth 100000 in
set_option maxHeartbeats 0 in
theorem PySem.Challenge.cw_macrohouse_k15_no_text_holds : PySem.Challenge.rw_macrohouse_k15_no_text.Holds := by
  w_on; o_law; k_head; (case hw => w_witness2)
  k_fill
  refine K15.walk (l := PySem.Challenge.rw_macrohouse_k15_no_text) rfl rfl (fun w h Y => PySem.W.kIn_of Y) ?F
  case F =>
    intro w mg fa h KX G hmg
    refine' K15.all_mk KX G hmg ?qT ?qW ?qF ?qR ?eh ?ebf ?ebr ?ego ?ena ?enf ?enn ?enr ?etc ?ent ?qNN ?lN0 ?qBR ?lB0 ?qLE ?qFI ?qMF ?qMD ?aSG ?lSG ?cSG ?kSG ?aCU ?lCU ?cCU ?kCU ?aX ?lX ?cX ?kX ?aN ?lN ?cN ?kN ?aRD ?lRD ?cRD ?kRD ?aL ?lL ?cL ?kL ?aC ?lC ?cC ?kC ?aY ?lY ?cY ?kY ?aS ?lS ?cS ?kS ?aO ?lO ?cO ?kO ?aP ?lP ?cP ?kP ?aB ?lB ?cB ?kB ?aR ?lR ?cR ?kR ?aZ ?lZ ?cZ ?kZ ?aWI ?lWI ?cWI ?kWI ?iWI ?lT0 ?aTI ?lTI ?cTI ?kTI ?iTI ?aFI ?lFI ?cFI ?kFI ?iFI ?aRI ?lRI ?cRI ?kRI ?iRI ?mkW ?kcW ?pgW ?hdW ?poW ?saW ?nAW ?nMW ?nDW ?haW ?hmW ?mkF ?kcF ?pgF ?hdF ?poF ?saF ?nAF ?nMF ?nDF ?haF ?hmF ?mkR ?kcR ?pgR ?hdR ?poR ?saR ?nAR ?nMR ?nDR ?haR ?hmR ?nWn ?nWb ?nFn ?nRp ?gtT ?rdT ?fcT ?hn ?htk ?aHI ?lHI ?cHI ?kHI ?iHI ?lT1 ?hfc ?lh ?sah ?gah ?gnh ?inh ?kph ?lnt ?sant ?gant ?gnnt ?innt ?kpnt ?tAh ?tOh ?nah ?noh ?tAnt ?tOnt ?nant ?nont ?hab ?subb ?kve ?kebf ?kebr ?kego ?kena ?kenf ?kenn ?kenr ?ketc ?kent ?iWW ?iFW ?iRW ?iWF ?iFF ?iRF ?iWR ?iFR ?iRR ?iWT ?iFT ?iRT ?z0 ?z1 ?z2 ?z3 ?z4 ?z5 ?z6 ?z7 ?z8 ?z9
    (case qT => k_is); (case qW => k_is); (case qF => k_is); (case qR => k_is); (case eh => k_is); (case ebf => k_is)
    (case ebr => k_is); (case ego => k_is); (case ena => k_is); (case enf => k_is); (case enn => k_is); (case enr => k_is)
    (case etc => k_is); (case ent => k_is); (case qNN => k_is); (case lN0 => k_is); (case qBR => k_is); (case lB0 => k_is)
    (case qLE => k_is); (case qFI => k_is); (case qMF => k_is); (case qMD => k_is); (case aSG => k_is); (case lSG => k_is)
    (case cSG => k_is); (case kSG => k_is); (case aCU => k_is); (case lCU => k_is); (case cCU => k_is); (case kCU => k_is)
    (case aX => k_is); (case lX => k_is); (case cX => k_is); (case kX => k_is); (case aN => k_is); (case lN => k_is)
    (case cN => k_is); (case kN => k_is); (case aRD => k_is); (case lRD => k_is); (case cRD => k_is); (case kRD => k_is)
    (case aL => k_is); (case lL => k_is); (case cL => k_is); (case kL => k_is); (case aC => k_is); (case lC => k_is)
    (case cC => k_is); (case kC => k_is); (case aY => k_is); (case lY => k_is); (case cY => k_is); (case kY => k_is)
    (case aS => k_is); (case lS => k_is); (case cS => k_is); (case kS => k_is); (case aO => k_is); (case lO => k_is)
    (case cO => k_is); (case kO => k_is); (case aP => k_is); (case lP => k_is); (case cP => k_is); (case kP => k_is)
    (case aB => k_is); (case lB => k_is); (case cB => k_is); (case kB => k_is); (case aR => k_is); (case lR => k_is)
    (case cR => k_is); (case kR => k_is); (case aZ => k_is); (case lZ => k_is); (case cZ => k_is); (case kZ => k_is)
    (case aWI => k_is); (case lWI => k_is); (case cWI => k_is); (case kWI => k_is); (case iWI => k_is); (case lT0 => k_is)
    (case aTI => k_is); (case lTI => k_is); (case cTI => k_is); (case kTI => k_is); (case iTI => k_is); (case aFI => k_is)
    (case lFI => k_is); (case cFI => k_is); (case kFI => k_is); (case iFI => k_is); (case aRI => k_is); (case lRI => k_is)
    (case cRI => k_is); (case kRI => k_is); (case iRI => k_is); (case mkW => k_is); (case kcW => k_is); (case pgW => k_is)
    (case hdW => k_is); (case poW => k_is); (case saW => k_is); (case nAW => k_is); (case nMW => k_is); (case nDW => k_is)
    (case haW => k_is); (case hmW => k_is); (case mkF => k_is); (case kcF => k_is); (case pgF => k_is); (case hdF => k_is)
    (case poF => k_is); (case saF => k_is); (case nAF => k_is); (case nMF => k_is); (case nDF => k_is); (case haF => k_is)
    (case hmF => k_is); (case mkR => k_is); (case kcR => k_is); (case pgR => k_is); (case hdR => k_is); (case poR => k_is)
    (case saR => k_is); (case nAR => k_is); (case nMR => k_is); (case nDR => k_is); (case haR => k_is); (case hmR => k_is)
    (case nWn => k_is); (case nWb => k_is); (case nFn => k_is); (case nRp => k_is); (case gtT => k_is); (case rdT => k_is)
    (case fcT => k_is); (case hn => k_is); (case htk => k_is); (case aHI => k_is); (case lHI => k_is); (case cHI => k_is)
    (case kHI => k_is); (case iHI => k_is); (case lT1 => k_is); (case hfc => k_is); (case lh => k_is); (case sah => k_is)
    (case gah => k_is); (case gnh => k_is); (case inh => k_is); (case kph => k_is); (case lnt => k_is); (case sant => k_is)
    (case gant => k_is); (case gnnt => k_is); (case innt => k_is); (case kpnt => k_is); (case tAh => k_is); (case tOh => k_is)
    (case nah => k_is); (case noh => k_is); (case tAnt => k_is); (case tOnt => k_is); (case nant => k_is); (case nont => k_is)
    (case hab => k_is); (case subb => k_is); (case kve => kit_is); (case kebf => kit_is); (case kebr => kit_is); (case kego => kit_is)
    (case kena => kit_is); (case kenf => kit_is); (case kenn => kit_is); (case kenr => kit_is); (case ketc => kit_is); (case kent => kit_is)
    (case iWW => kit_is); (case iFW => kit_is); (case iRW => kit_is); (case iWF => kit_is); (case iFF => kit_is); (case iRF => kit_is)
    (case iWR => kit_is); (case iFR => kit_is); (case iRR => kit_is); (case iWT => kit_is); (case iFT => kit_is); (case iRT => kit_is)
    (case z0 => k_is); (case z1 => k_is); (case z2 => k_is); (case z3 => k_is); (case z4 => k_is); (case z5 => k_is)
    (case z6 => k_is); (case z7 => k_is); (case z8 => k_is); (case z9 => k_is)
#print axioms PySem.Challenge.cw_macrohouse_k15_no_text_holds
