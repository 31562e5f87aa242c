import PyProof.Rows.All
import Wide.All
import OpenK.AllK
import Wide.FinOn
import Lean
import PyProof.EqAt
import PyProof.EqKinds
import PyProof.TupleCall
import PyProof.SetScanFacts
import PyProof.SetKind
import PyProof.DictStraight
import PyProof.DictIter
import PyProof.Seq
import PyProof.CollectWalk
import PyProof.MakeMany
import PyProof.Rows.SetFrom
import PyProof.Rows.SortShell
import PyProof.ListRange
import PyProof.SetRoads
import PyProof.NeKinds
import PyProof.SumAny
import PyProof.Rows.RuleM_int
import PyProof.ZipIter
import PyProof.EnumFor
import PyProof.EnumMake
import PyProof.EnumStmt
import PyProof.MinMaxWalk
import PyProof.Rows.CallKwBuiltin
import PyProof.StrBlockH
import PyProof.StrWalks
import PyProof.StrLawsReplace
import PyProof.StrLawsTight
import PyProof.StrLawsChain
import PyProof.StrLawsIn
import PyProof.StrOps2
import PyProof.StrCalls6
import PyProof.ToksMono
import PyProof.Rows.StrNews
import PyProof.StrLawsJoin
import OpenK.KMake
import PyProof.ExcInit
import PyProof.ExcArgsOwn
import PyProof.RulesAs
import PyProof.StationsW
import PyProof.ExcBaseAll.ValueError
import PyProof.NsDelKeeps
import PySem.Challenge.RW_macrohouse_k31_pieces
set_option Elab.async false
set_option linter.all false
set_option maxRecDepth 100000
/-! THE HAND LAYER, for ints, bools, texts, own classes, LISTS and tuples (index, slices, in, append, pop ..), calls, loops. Paste it whole ahead of your own text; what your proof does not reach may be deleted. -/
namespace L2
open PySem PySem.Spec PyProof.Rows

/-- a key: an int or a str -/
abbrev Key := Sum Int Str
def keyIs : Key → Value → Bool
  | .inl k, v => Value.isInt k v
  | .inr x, v => Value.isStrOf x v
def keyH (w : World) : Key → Int
  | .inl k => hashInt k
  | .inr x => hashStr w x
theorem keyIs_shape : ∀ {k : Key} {v : Value}, keyIs k v = true → (∃ i t, k = Sum.inl i ∧ v = Value.int i t) ∨ (∃ x t, k = Sum.inr x ∧ v = Value.str x t)
  | .inl i, v, h => by
    obtain ⟨t, e⟩ := Value.isInt_shape (k := i) (v := v) h
    exact .inl ⟨i, t, rfl, e⟩
  | .inr x, v, h => by
    obtain ⟨t, e⟩ := Value.isStrOf_shape (x := x) (v := v) h
    exact .inr ⟨x, t, rfl, e⟩
theorem key_ll (a b : Int) : decide ((Sum.inl a : Key) = Sum.inl b) = (a == b) := by
  by_cases e : a = b
  · subst e; simp
  · have h : ¬ (Sum.inl a : Key) = Sum.inl b := fun q => e (Sum.inl.inj q)
    rw [decide_eq_false h]
    exact (beq_eq_false_iff_ne.mpr e).symm
theorem key_rr (a b : Str) : decide ((Sum.inr a : Key) = Sum.inr b) = decide (a = b) := by
  by_cases e : a = b
  · subst e; simp
  · have h : ¬ (Sum.inr a : Key) = Sum.inr b := fun q => e (Sum.inr.inj q)
    rw [decide_eq_false h, decide_eq_false e]
theorem key_lr (a : Int) (b : Str) : decide ((Sum.inl a : Key) = Sum.inr b) = false := decide_eq_false (fun q => nomatch q)
theorem key_rl (a : Str) (b : Int) : decide ((Sum.inr a : Key) = Sum.inl b) = false := decide_eq_false (fun q => nomatch q)

def mixKind (prog : Program) (w : World) : PySem.KeyKind prog w Key where
  is := keyIs
  hash := keyH w
  inj := fun v a b ha hb => by
    rcases keyIs_shape ha with ⟨i, t, rfl, rfl⟩ | ⟨x, t, rfl, rfl⟩
    · rcases keyIs_shape hb with ⟨j, u, rfl, e⟩ | ⟨y, u, rfl, e⟩
      · injection e with e1 _; rw [e1]
      · exact nomatch e
    · rcases keyIs_shape hb with ⟨j, u, rfl, e⟩ | ⟨y, u, rfl, e⟩
      · exact nomatch e
      · injection e with e1 _; rw [e1]
  byValue := fun k v h => by
    rcases keyIs_shape h with ⟨i, t, rfl, rfl⟩ | ⟨x, t, rfl, rfl⟩ <;> rfl
  pyHash := fun hv h => by
    rcases keyIs_shape hv with ⟨i, t, rfl, rfl⟩ | ⟨x, t, rfl, rfl⟩
    · exact wpAny_pyHash_int h
    · exact wpAny_pyHash_str h
  eqBool := fun hu hv h => by
    rcases keyIs_shape hu with ⟨i, t, rfl, rfl⟩ | ⟨x, t, rfl, rfl⟩
    · rcases keyIs_shape hv with ⟨j, u, rfl, rfl⟩ | ⟨y, u, rfl, rfl⟩
      · rw [key_ll] at h; exact wpAny_eqBool_int h
      · rw [key_lr] at h; exact SeqAt.EqAt.int_str i t y u _ _ _ _ h
    · rcases keyIs_shape hv with ⟨j, u, rfl, rfl⟩ | ⟨y, u, rfl, rfl⟩
      · rw [key_rl] at h; exact SeqAt.EqAt.str_int x t j u _ _ _ _ h
      · rw [key_rr] at h; exact wpAny_eqBool_str h
  «strs» := fun k x t v h => by
    rcases keyIs_shape h with ⟨i, u, rfl, e⟩ | ⟨y, u, rfl, e⟩
    · exact nomatch e
    · injection e with e1 _
      subst e1
      cases v <;> rfl

end L2

namespace L2
open PySem PySem.Spec PyProof.Rows

/-- a value, without the heap -/
inductive V where
  | non | bl (b : Bool) | int (i : Int) | str (x : Str) | byt (b : Array UInt8) | flt (b : UInt64) | ref (a : Addr) | ty (n : String)
  deriving DecidableEq

def RelV : V → Value → Prop
  | .non, u => u = Value.none
  | .bl b, u => u = Value.bool b
  | .int i, u => ∃ t, u = Value.int i t
  | .str x, u => ∃ t, u = Value.str x t
  | .byt b, u => ∃ t, u = Value.bytes b t
  | .flt b, u => ∃ t, u = Value.float b t
  | .ref a, u => u = Value.ref a
  | .ty n, u => u = Value.type n

abbrev Vals : List V → List Value → Prop := Paired RelV
theorem Vals.length {xs : List V} {us : List Value} (r : Vals xs us) : xs.length = us.length := Paired.length r
theorem Vals.get : ∀ {xs : List V} {us : List Value} {i : Nat} {x : V}, Vals xs us → xs[i]? = some x → ∃ u, us[i]? = some u ∧ RelV x u
  | _, _, _, _, .nil, e => by simp at e
  | _, _, 0, _, .cons r _, e => by simp at e; subst e; exact ⟨_, rfl, r⟩
  | _, _, i + 1, x, .cons _ t, e => by
    obtain ⟨u, h1, h2⟩ := Vals.get (i := i) (x := x) t (by simpa using e)
    exact ⟨u, by simpa using h1, h2⟩
theorem Vals.set {x : V} {u : Value} (r : RelV x u) : ∀ {xs : List V} {us : List Value} (i : Nat), Vals xs us → Vals (xs.set i x) (us.set i u)
  | _, _, _, .nil => .nil
  | _, _, 0, .cons _ t => .cons r t
  | _, _, i + 1, .cons q t => .cons q (Vals.set r i t)
theorem Vals.append : ∀ {xs ys : List V} {us ws : List Value}, Vals xs us → Vals ys ws → Vals (xs ++ ys) (us ++ ws)
  | _, _, _, _, .nil, s => s
  | _, _, _, _, .cons r t, s => .cons r (Vals.append t s)
theorem Vals.take : ∀ {xs : List V} {us : List Value} (n : Nat), Vals xs us → Vals (xs.take n) (us.take n)
  | _, _, 0, _ => .nil
  | _, _, _ + 1, .nil => .nil
  | _, _, n + 1, .cons r t => .cons r (Vals.take n t)
theorem Vals.drop : ∀ {xs : List V} {us : List Value} (n : Nat), Vals xs us → Vals (xs.drop n) (us.drop n)
  | _, _, 0, r => r
  | _, _, _ + 1, .nil => .nil
  | _, _, n + 1, .cons _ t => Vals.drop n t

def RelO : Option V → Option Value → Prop
  | some v, some u => RelV v u
  | none, none => True
  | _, _ => False
def KV {κ : Type} : List (κ × V) → List (κ × Value) → Prop := Paired fun (p : κ × V) (q : κ × Value) => p.1 = q.1 ∧ RelV p.2 q.2

/-- a key of a dict (00_mix): an int or a text -/
def kV : Key → V
  | .inl i => .int i
  | .inr x => .str x

/-- what stands at a tracked address -/
inductive HO where
  /-- a list -/
  | lst (xs : List V)
  /-- a tuple (never changes) -/
  | tup (xs : List V)
  /-- a dict whose keys are ints and texts; one whose keys are tuples of ints and texts (the empty one is both) -/
  | dK (kvs : List (Key × V)) | dT (kvs : List (List Key × V))
  /-- a set of ints: its members, its size -/
  | set (S : Int → Bool) (n : Nat)
  /-- an instance of the class at C, its dict at dx, its attributes -/
  | ins (C dx : Addr) (fs : List (Str × V))
  /-- the dict of the instance at x -/
  | own (x : Addr)
  /-- the dict of an exception -/
  | xd (fs : List (Str × V))
  /-- a bound method, f of x -/
  | met (f x : Addr)
  /-- a range object lo, lo + 1, .. below hi -/
  | rng (lo hi : Int)
  /-- a thing that is known to the object (the script; a dict while a loop walks it): read, never written while it is so -/
  | frz (o : Obj) (u : HO)
  /-- a code object's table -/
  | tbl (ps : Array Value)
  /-- any other thing, by what is true of its one object (a def of one's own: SetO a S n := HO.ext fun h => ..) -/
  | ext (φ : Heap → Prop)

abbrev Hp := Addr → Option HO
def upd (H : Hp) (a : Addr) (o : HO) : Hp := fun b => if b = a then some o else H b
theorem upd_same {H : Hp} {a : Addr} {o : HO} : upd H a o a = some o := by unfold upd; rw [if_pos rfl]
theorem upd_ne {H : Hp} {a b : Addr} {o : HO} (h : b ≠ a) : upd H a o b = H b := by unfold upd; rw [if_neg h]
theorem upd_upd {H : Hp} {a : Addr} {o u : HO} : upd (upd H a o) a u = upd H a u := by
  funext b; unfold upd; split <;> rfl
/-- two objects of different content stand apart -/
theorem ne_of {H : Hp} {a b : Addr} {o u : HO} (h : H a = some o) (h' : H b = some u) (d : o ≠ u) : a ≠ b := by
  intro e; subst e; rw [h] at h'; exact d (Option.some.inj h')
theorem ne_of_none {H : Hp} {a b : Addr} {o : HO} (h : H a = some o) (h' : H b = none) : a ≠ b := by
  intro e; subst e; rw [h] at h'; cases h'

section
variable (P : Program) (w : World)
def ObjOk (H : Hp) (h : Heap) (a : Addr) : HO → Prop
  | .lst xs => xs.length ≤ sizeLine ∧ ∃ (its : List Value) (n : Nat), Vals xs its ∧ h.get? a = some { cls := .type "list", data := .seq its.toArray n }
  | .tup xs => xs.length ≤ sizeLine ∧ ∃ its : List Value, Vals xs its ∧ IsTup h a its.toArray
  | .dK kvs => kvs.length ≤ sizeLine ∧ (a == sysModules) = false ∧ ∃ vs, KV kvs vs ∧ h.DictOf (mixKind P w) a vs
  | .dT kvs => kvs.length ≤ sizeLine ∧ (a == sysModules) = false ∧ ∃ xs : List (List Key × Addr × Value),
      Paired (fun (p : List Key × V) (q : List Key × Addr × Value) => p.1 = q.1 ∧ H q.2.1 = some (.tup (p.1.map kV)) ∧ RelV p.2 q.2.2) kvs xs ∧
      ∃ o es ep, h.get? a = some o ∧ o.ExactDict ∧ o.data = .dict es ep ∧ es.toList = xs.map (entryOfKey (tupleKind (mixKind P w))) ∧ (xs.map (·.1)).Nodup
  | .set S n => h.SetOf (intKind P w) a S n
  | .ins C dx fs => H dx = some (.own a) ∧ fs.length ≤ 1000 ∧ dx ≠ a ∧ h.get? a = some (PySem.W.instObj C dx) ∧
      ∃ mA, h.Ns1 dx mA ∧ (∀ f, RelO (fs.lookup f) (mA f)) ∧ PySem.Within mA (fs.map (·.1))
  | .own _ => ∃ o, h.get? a = some o
  | .xd fs => ∃ mA, h.Ns1 a mA ∧ ∀ f, RelO (fs.lookup f) (mA f)
  | .rng lo hi => ∃ t u v, h.get? a = some { cls := .type "range", data := .fields #[.int lo t, .int hi u, .int 1 v] }
  | .frz o u => h.get? a = some o ∧ ObjOk H h a u
  | .tbl ps => h.get? a = some { cls := .none, data := .fields ps }
  | .met f x => h.get? a = some (PySem.W.methodObj (.ref f) (.ref x))
  | .ext φ => φ h ∧ (∃ o, h.get? a = some o) ∧ ∀ h1 h2 : Heap, φ h1 → (∀ o, h1.get? a = some o → h2.get? a = some o) → φ h2
/-- the abstract heap is held -/
def HOk (H : Hp) (h : Heap) : Prop := ∀ a o, H a = some o → ObjOk P w H h a o
end

section
variable {P : Program} {w : World} {H H' : Hp} {h h' : Heap} {a : Addr} {o : HO}
theorem ObjOk.lt (x : ObjOk P w H h a o) : a < h.objs.size := by
  cases o with
  | lst xs => obtain ⟨_, _, _, _, e⟩ := x; exact Heap.lt_size e
  | tup xs => obtain ⟨_, _, _, p⟩ := x; exact p.lt
  | dK kvs => obtain ⟨_, _, _, _, o, _, _, e, _⟩ := x; exact Heap.lt_size e
  | dT kvs => obtain ⟨_, _, _, _, o, _, _, e, _⟩ := x; exact Heap.lt_size e
  | set S n => obtain ⟨o, _, _, _, e, _⟩ := x; exact Heap.lt_size e
  | ins C dx fs => obtain ⟨_, _, _, e, _⟩ := x; exact Heap.lt_size e
  | own y => obtain ⟨_, e⟩ := x; exact Heap.lt_size e
  | xd fs => obtain ⟨_, ⟨_, _, _, e, _⟩, _⟩ := x; exact Heap.lt_size e
  | rng lo hi => obtain ⟨_, _, _, e⟩ := x; exact Heap.lt_size e
  | frz ob u => obtain ⟨e, _⟩ := x; exact Heap.lt_size e
  | tbl ps => exact Heap.lt_size (show h.get? a = some _ from x)
  | met f y => exact Heap.lt_size (show h.get? a = some _ from x)
  | ext φ => obtain ⟨_, ⟨_, e⟩, _⟩ := x; exact Heap.lt_size e
theorem Paired.mapP {α β : Type} {F G : α → β → Prop} : ∀ {l₁ : List α} {l₂ : List β}, Paired F l₁ l₂ → (∀ a b, F a b → G a b) → Paired G l₁ l₂
  | _, _, .nil, _ => .nil
  | _, _, .cons r t, f => .cons (f _ _ r) (Paired.mapP t f)
/-- what an object's description leans on: its own object, its own dict, the tuples -/
theorem ObjOk.stay (x : ObjOk P w H h a o) (k : ∀ b u, (b = a ∨ H b = some (.own a)) → h.get? b = some u → h'.get? b = some u)
    (ho : ∀ b, H b = some (.own a) → H' b = some (.own a)) (ht : ∀ b xs, H b = some (.tup xs) → H' b = some (.tup xs)) : ObjOk P w H' h' a o := by
  induction o with
  | lst xs => obtain ⟨z, its, n, r, e⟩ := x; exact ⟨z, its, n, r, k _ _ (.inl rfl) e⟩
  | tup xs => obtain ⟨z, its, r, ob, e, c⟩ := x; exact ⟨z, its, r, ob, k _ _ (.inl rfl) e, c⟩
  | dK kvs => obtain ⟨z, y, vs, r, ob, es, ep, e, c⟩ := x; exact ⟨z, y, vs, r, ob, es, ep, k _ _ (.inl rfl) e, c⟩
  | dT kvs =>
    obtain ⟨z, y, xs, r, ob, es, ep, e, c⟩ := x
    exact ⟨z, y, xs, Paired.mapP r fun p q z => ⟨z.1, ht _ _ z.2.1, z.2.2⟩, ob, es, ep, k _ _ (.inl rfl) e, c⟩
  | set S n => obtain ⟨ob, es, ep, t, e, c⟩ := x; exact ⟨ob, es, ep, t, k _ _ (.inl rfl) e, c⟩
  | ins C dx fs =>
    obtain ⟨d, z, ne, e, mA, ⟨od, es, ep, e2, c⟩, r⟩ := x
    exact ⟨ho _ d, z, ne, k _ _ (.inl rfl) e, mA, ⟨od, es, ep, k _ _ (.inr d) e2, c⟩, r⟩
  | own y => obtain ⟨ob, e⟩ := x; exact ⟨ob, k _ _ (.inl rfl) e⟩
  | xd fs => obtain ⟨mA, ⟨od, es, ep, e, c⟩, r⟩ := x; exact ⟨mA, ⟨od, es, ep, k _ _ (.inl rfl) e, c⟩, r⟩
  | rng lo hi => obtain ⟨t, u, v, e⟩ := x; exact ⟨t, u, v, k _ _ (.inl rfl) e⟩
  | frz ob u ih => obtain ⟨e, q⟩ := x; exact ⟨k _ _ (.inl rfl) e, ih q⟩
  | tbl ps =>
    have e : h.get? a = some { cls := .none, data := .fields ps } := x
    show h'.get? a = some { cls := .none, data := .fields ps }
    exact k a _ (.inl rfl) e
  | met f y =>
    have e : h.get? a = some (PySem.W.methodObj (.ref f) (.ref y)) := x
    show h'.get? a = some (PySem.W.methodObj (.ref f) (.ref y))
    exact k a _ (.inl rfl) e
  | ext φ => obtain ⟨p, ⟨o, e⟩, st⟩ := x; exact ⟨st _ _ p fun o q => k _ _ (.inl rfl) q, ⟨o, k _ _ (.inl rfl) e⟩, st⟩
theorem HOk.lt (x : HOk P w H h) (e : H a = some o) : a < h.objs.size := (x a o e).lt
theorem HOk.fresh (x : HOk P w H h) (e : h.objs.size ≤ a) : H a = none := by
  cases q : H a with
  | none => rfl
  | some u => exact absurd (Nat.lt_of_lt_of_le (x.lt q) e) (Nat.lt_irrefl _)
/-- every object of the heap is kept -/
theorem HOk.kept (x : HOk P w H h) (k : ∀ b u, h.get? b = some u → h'.get? b = some u) : HOk P w H h' := fun a o e =>
  (x a o e).stay (fun b u _ q => k b u q) (fun _ q => q) fun _ _ q => q
/-- a new object is laid and tracked -/
theorem HOk.laid (x : HOk P w H h) (k : ∀ b u, h.get? b = some u → h'.get? b = some u) (hp : h.objs.size ≤ a) (new : ObjOk P w (upd H a o) h' a o) : HOk P w (upd H a o) h' := fun b u e => by
  have hn := x.fresh hp
  by_cases hb : b = a
  · subst hb; rw [upd_same] at e; cases e; exact new
  · rw [upd_ne hb] at e
    exact (x b u e).stay (fun c v _ q => k c v q) (fun c q => by rw [upd_ne (ne_of_none q hn)]; exact q) fun c xs q => by rw [upd_ne (ne_of_none q hn)]; exact q
end

/-- what may be read as u: it is u, or a known u -/
def Rd (H : Hp) (a : Addr) (u : HO) : Prop := H a = some u ∨ ∃ o, H a = some (.frz o u)
theorem Rd.ok {P : Program} {w : World} {H : Hp} {h : Heap} {a : Addr} {u : HO} (r : Rd H a u) (x : HOk P w H h) : ObjOk P w H h a u := by
  rcases r with r | ⟨o, r⟩
  · exact x a u r
  · obtain ⟨_, q⟩ := x a _ r
    exact q
/-- what may be written -/
def Mut : Option HO → Prop
  | some (.lst _) => True
  | some (.dK _) => True
  | some (.dT _) => True
  | some (.set _ _) => True
  | some (.ins _ _ _) => True
  | some (.ext _) => True
  | _ => False
section
variable {P : Program} {w : World} {H : Hp} {h h' : Heap} {x e : Addr} {o' : HO}
/-- the object at e is changed: x itself, or the dict of the instance x -/
theorem HOk.write (ok : HOk P w H h) (mu : Mut (H x)) (he : e = x ∨ H e = some (.own x)) (k : ∀ b u, b ≠ e → h.get? b = some u → h'.get? b = some u) (heo : ∃ u, h'.get? e = some u)
    (new : ObjOk P w (upd H x o') h' x o') : HOk P w (upd H x o') h' := fun b u q => by
  have nown : ∀ c y, H c = some (.own y) → c ≠ x := fun c y r z => by subst z; rw [r] at mu; exact mu
  have ntup : ∀ c xs, H c = some (.tup xs) → c ≠ x := fun c xs r z => by subst z; rw [r] at mu; exact mu
  by_cases hb : b = x
  · subst hb; rw [upd_same] at q; cases q; exact new
  · rw [upd_ne hb] at q
    by_cases hbe : b = e
    · have q' : H b = some (.own x) := by
        rcases he with z | z
        · exact absurd (hbe.trans z) hb
        · rw [hbe]; exact z
      rw [q] at q'; cases q'
      obtain ⟨v, hv⟩ := heo
      exact ⟨v, by rw [hbe]; exact hv⟩
    · refine (ok b u q).stay (fun c v hc r => k c v ?_ r) (fun c r => by rw [upd_ne (nown c b r)]; exact r) fun c xs r => by rw [upd_ne (ntup c xs r)]; exact r
      rcases hc with rfl | hc
      · exact hbe
      · rintro rfl
        rcases he with z | z
        · exact nown c b hc z
        · rw [hc] at z; cases z; exact hb rfl
end

/-! ### kept unless tracked; of the frames at fs (the callers') the slots may change (an exception that passes writes there); of the records at ex (iterators) nothing is said -/
structure Un (fs ex : List Addr) (H H' : Hp) (h h' : Heap) : Prop where
  keep : ∀ b o, h.get? b = some o → H b = none → b ∉ fs → b ∉ ex → h'.get? b = some o
  slot : ∀ b o, h.get? b = some o → H b = none → b ∈ fs → b ∉ ex → ∃ sl, h'.get? b = some { o with slots := sl }
  free : ∀ b o, h.get? b = some o → H b = none → b ∉ ex → H' b = none
  there : ∀ b o, h.get? b = some o → b ∉ ex → ∃ o', h'.get? b = some o'
  tups : ∀ b xs, H b = some (.tup xs) → H' b = some (.tup xs)
  frzs : ∀ b o u, H b = some (.frz o u) → H' b = some (.frz o u)
  tbls : ∀ b ps, H b = some (.tbl ps) → ∃ more, H' b = some (.tbl (ps ++ more))
section
variable {fs fs' ex ex' : List Addr} {H H1 H2 : Hp} {h h1 h2 h' : Heap} {a x e : Addr} {o : HO}
theorem Un.any (u : Un fs ex H H1 h h1) {b : Addr} {ob : Obj} (q : h.get? b = some ob) (n : H b = none) (hx : b ∉ ex) : ∃ sl, h1.get? b = some { ob with slots := sl } := by
  by_cases hb : b ∈ fs
  · exact u.slot b ob q n hb hx
  · exact ⟨ob.slots, u.keep b ob q n hb hx⟩
theorem Un.kept (k : ∀ b u, h.get? b = some u → h'.get? b = some u) : Un fs ex H H h h' :=
  ⟨fun b ob q _ _ _ => k b ob q, fun b ob q _ _ _ => ⟨ob.slots, k b ob q⟩, fun _ _ _ n _ => n, fun b ob q _ => ⟨ob, k b ob q⟩, fun _ _ q => q, fun _ _ _ q => q, fun _ ps q => ⟨#[], by rw [q]; simp⟩⟩
theorem Un.refl : Un fs ex H H h h := Un.kept fun _ _ q => q
theorem Un.laid (k : ∀ b u, h.get? b = some u → h'.get? b = some u) (hp : h.objs.size ≤ a) (hn : H a = none) : Un fs ex H (upd H a o) h h' where
  keep := fun b u q _ _ _ => k b u q
  slot := fun b u q _ _ _ => ⟨u.slots, k b u q⟩
  free := fun b u q n _ => by rw [upd_ne (Nat.ne_of_lt (Nat.lt_of_lt_of_le (Heap.lt_size q) hp))]; exact n
  there := fun b u q _ => ⟨u, k b u q⟩
  tups := fun b xs q => by rw [upd_ne (ne_of_none q hn)]; exact q
  frzs := fun b u xs q => by rw [upd_ne (ne_of_none q hn)]; exact q
  tbls := fun b ps q => ⟨#[], by rw [upd_ne (ne_of_none q hn), q]; simp⟩
theorem Un.write (mu : Mut (H x)) (he : e = x ∨ H e = some (.own x)) (k : ∀ b u, b ≠ e → h.get? b = some u → h'.get? b = some u) (heo : ∃ u, h'.get? e = some u) : Un fs ex H (upd H x o) h h' := by
  have hx : ∀ b, H b = none → b ≠ x := fun b n z => by subst z; rw [n] at mu; exact mu
  have hb : ∀ b, H b = none → b ≠ e := fun b n z => by
    subst z
    rcases he with r | r
    · exact hx b n r
    · rw [n] at r; cases r
  have hm : ∀ b u, H b = some u → ¬ Mut (some u) → b ≠ x := fun b u q nm z => by subst z; rw [q] at mu; exact nm mu
  refine ⟨fun b u q n _ _ => k b u (hb b n) q, fun b u q n _ _ => ⟨u.slots, k b u (hb b n) q⟩, fun b u q n _ => by rw [upd_ne (hx b n)]; exact n, fun b u q _ => ?_,
    fun b xs q => by rw [upd_ne (hm b _ q fun z => z)]; exact q, fun b u xs q => by rw [upd_ne (hm b _ q fun z => z)]; exact q, fun b ps q => ⟨#[], by rw [upd_ne (hm b _ q fun z => z), q]; simp⟩⟩
  by_cases hbe : b = e
  · subst hbe; exact heo
  · exact ⟨u, k b u hbe q⟩
end

/-! ### the heap without what is tracked -/
def trk (h : Heap) (H : Hp) : List Addr := (List.range h.objs.size).filter fun a => (H a).isSome
def hidT (h : Heap) (H : Hp) : Heap := PySem.W.hideAll h (trk h H)
theorem hidT_size (h : Heap) (H : Hp) : (hidT h H).objs.size = h.objs.size := PySem.W.hideAll_size _ _
theorem hidT_get {h : Heap} {H : Hp} {b : Addr} {o : Obj} (e : h.get? b = some o) (n : H b = none) : (hidT h H).get? b = some o :=
  PySem.W.hideAll_get _ e fun hm => by
    have q : (H b).isSome = true := (List.mem_filter.mp hm).2
    rw [n] at q; simp at q
theorem of_hidT {h : Heap} {H : Hp} {b : Addr} {o : Obj} (e : (hidT h H).get? b = some o) : h.get? b = some o ∧ H b = none := by
  have e' : h.get? b = some o := PySem.W.of_hideAll (trk h H) e
  refine ⟨e', ?_⟩
  cases q : H b with
  | none => rfl
  | some x =>
    have hm : b ∈ trk h H := List.mem_filter.mpr ⟨List.mem_range.mpr (Heap.lt_size e'), by simp [q]⟩
    have z : (hidT h H).get? b = none := PySem.W.hideAll_none (trk h H) hm
    rw [z] at e; cases e

/-! ### OpenK's ledger, filled with every new object but one -/
def allNews (g h : Heap) (L : Addr) : List (Addr × Obj) := (List.range h.objs.size).filterMap fun a => if a = L ∨ (g.get? a).isSome = true then none else (h.get? a).map fun o => (a, o)
def rest (g h : Heap) (L d : Addr) : List (Addr × Obj) := (allNews g h L).filter fun p => decide (p.1 ≠ d)
end L2

namespace L2
open PySem PySem.Spec PyProof.Rows

/-- the module's facts, over the base: the heap at the law's entry without what is tracked there -/
structure Mod (K : PySem.W.Frag) (mg : Str → Option Value) (base : Heap) : Prop where
  kin : K.In base
  glob : base.Ns mainGlobals mg
  blt : ∃ mb, base.Ns builtinsNs mb ∧ ∀ x : Str, x ≠ "__name__" → mb x = bootBuiltins x
  nolimit : base.NoLimit

/-- the context: a def's body (or a comprehension's block) running. base: fixed through the whole law; s₀, H₀: the entry; outer: the frames whose slots others may change (a def's callers); stack: all frames that run;
   ex: iterators that were made ahead of the entry and are walked here (a comprehension's); fn: the names whose cells were made at the entry (a def: all; a comprehension's block: its own); calm: not within an except suite; pn: pins that every state bears; xe: what is wanted of an exception that leaves the code -/
structure Cx where
  prog : Program
  w : World
  K : PySem.W.Frag
  mg : Str → Option Value
  base : Heap
  A : Around
  N : List Str
  s₀ : Shared
  H₀ : Hp
  env : Env
  outer : List Env
  stack : List Env
  ex : List Addr
  fn : Str → Bool
  calm : Bool
  pn : List (Addr × Obj)
  xe : Value → Shared → Prop
/-- the callers' frames -/
def frs (l : List Env) : List Addr := l.filterMap (·.frame)
abbrev Cx.fs (X : Cx) : List Addr := frs X.outer

def Vis (sc : Scope) (x : Str) : Prop := sc.names.lookup x = some .local ∨ sc.names.lookup x = some .cell ∨ sc.names.lookup x = some .free
def Loc (sc : Scope) (x : Str) : Prop := sc.names.lookup x = some .local ∨ sc.names.lookup x = some .cell
def Look (env : Env) (h : Heap) (m : Str → Option Value) (x : Str) (u : Value) : Prop :=
  (env.kindOf x = some .local ∧ m x = some u) ∨ ((env.kindOf x = some .cell ∨ env.kindOf x = some .free) ∧ ∃ c, env.cells.lookup x = some c ∧ h.IsCell c (some u))

structure Cx.Ok (X : Cx) : Prop where
  mod : Mod X.K X.mg X.base
  kind : X.env.scope.kind = .function
  glob : X.env.globals = mainGlobals
  blt : X.env.builtins = builtinsNs
  above : X.s₀.heap.objs.size ≤ X.env.locals
  inj : ∀ x y c, X.env.cells.lookup x = some c → X.env.cells.lookup y = some c → x = y
  has : ∀ x, (X.env.kindOf x = some .cell ∨ X.env.kindOf x = some .free) → ∃ c, X.env.cells.lookup x = some c
  cab : ∀ x c, X.fn x = true → X.env.cells.lookup x = some c → X.s₀.heap.objs.size ≤ c
  hd : X.calm = true → X.A.handled = none
  frames : X.A.frames = some X.stack
  stk : X.stack = X.outer ∨ (X.stack = X.env :: X.outer ∧ X.env.frame = some X.env.locals)
  exf : ∀ b ∈ X.ex, b ≠ X.env.locals ∧ ∀ x c, X.env.cells.lookup x = some c → c ≠ b
  bs : ∀ b o, X.base.get? b = some o → X.s₀.heap.get? b = some o ∧ X.H₀ b = none
  bsz : X.base.objs.size ≤ X.s₀.heap.objs.size
  noex : ∀ b o, X.base.get? b = some o → b ∉ X.ex
  exfs : ∀ b ∈ X.ex, b ∉ X.fs
  funs : X.s₀.heap.FunFrames X.base X.outer
  frf : ∀ b ∈ X.fs, X.H₀ b = none

structure Inv (X : Cx) (pins : List (Addr × Obj)) (σ : List (Option V)) (H : Hp) (s : Shared) : Prop where
  ok : X.Ok
  os : s.os = X.s₀.os
  bare : AllBare s.gens
  base : Un X.fs X.ex X.H₀ H X.s₀.heap s.heap
  loc : ∃ m, s.heap.Ns X.env.locals m ∧ ∀ (i : Nat) (x : Str) (v : V), X.N[i]? = some x → σ[i]? = some (some v) → Vis X.env.scope x → ∃ u, RelV v u ∧ Look X.env s.heap m x u
  cell : ∀ x c, X.env.cells.lookup x = some c → ∃ v, s.heap.IsCell c v
  free : H X.env.locals = none
  freeC : ∀ x c, X.env.cells.lookup x = some c → H c = none
  pin : ∀ p ∈ X.pn ++ pins, s.heap.get? p.1 = some p.2 ∧ H p.1 = none ∧ p.1 ≠ X.env.locals ∧ p.1 ∉ X.fs ∧ ∀ v, p.2.data ≠ .cell v
  hok : HOk X.prog X.w H s.heap
  len : σ.length = X.N.length

section
variable {X : Cx} {pins : List (Addr × Obj)} {σ : List (Option V)} {H H' : Hp} {s : Shared} {h' : Heap}

theorem Cx.Ok.nofr (ok : X.Ok) {b : Addr} {o : Obj} (e : X.base.get? b = some o) : b ∉ X.fs := fun hb => by
  have := (ok.funs.mem hb).1
  rw [e] at this; cases this
theorem Inv.bs (I : Inv X pins σ H s) : ∀ b o, X.base.get? b = some o → s.heap.get? b = some o ∧ H b = none := fun b o e =>
  ⟨I.base.keep b o (I.ok.bs b o e).1 (I.ok.bs b o e).2 (I.ok.nofr e) (I.ok.noex b o e), I.base.free b o (I.ok.bs b o e).1 (I.ok.bs b o e).2 (I.ok.noex b o e)⟩
theorem Inv.bk (I : Inv X pins σ H s) : ∀ b o, X.base.get? b = some o → s.heap.get? b = some o := fun b o e => (I.bs b o e).1
theorem Inv.mod (I : Inv X pins σ H s) : Mod X.K X.mg X.base := I.ok.mod
theorem Inv.kIn (I : Inv X pins σ H s) : X.K.In s.heap := I.ok.mod.kin.keeps I.bk
/-- the frame over the base: for OpenK's rules (K.In X.base is I.mod.kin) -/
theorem Inv.fr (I : Inv X pins σ H s) : ∃ m, Fr X.base X.env.locals s.heap m :=
  let ⟨m, hn, _⟩ := I.loc
  ⟨m, hn, I.bk, Nat.le_trans I.ok.bsz I.ok.above⟩
theorem Inv.lt (I : Inv X pins σ H s) : X.env.locals < s.heap.objs.size := let ⟨_, hn, _⟩ := I.loc; hn.lt
theorem Inv.sz (I : Inv X pins σ H s) : X.s₀.heap.objs.size ≤ s.heap.objs.size := Nat.le_trans I.ok.above (Nat.le_of_lt I.lt)
theorem Inv.nofs (I : Inv X pins σ H s) {a : Addr} (h : s.heap.objs.size ≤ a) : a ∉ X.fs := fun hb => by
  obtain ⟨_, o, ho, _⟩ := I.ok.funs.mem hb
  exact absurd (Nat.lt_of_lt_of_le (Heap.lt_size ho) (Nat.le_trans I.sz h)) (Nat.lt_irrefl _)
theorem Inv.cne (I : Inv X pins σ H s) : ∀ x c, X.env.cells.lookup x = some c → c ≠ X.env.locals := fun x c e z => by
  obtain ⟨v, o, ho, hd⟩ := I.cell x c e
  obtain ⟨m, ⟨o', es, ep, ho', hd', _⟩, _⟩ := I.loc
  rw [z, ho'] at ho; cases ho; rw [hd'] at hd; cases hd
theorem Inv.funs (I : Inv X pins σ H s) : s.heap.FunFrames X.base X.outer := by
  have all : ∀ (l : List Env), (∀ b ∈ frs l, b ∈ X.fs) → X.s₀.heap.FunFrames X.base l → s.heap.FunFrames X.base l := by
    intro l
    induction l with
    | nil => intro _ _; trivial
    | cons env r ih =>
      intro hs hl
      obtain ⟨hk, ⟨L, o, hf, hn, ho, hd⟩, hr⟩ := hl
      have hL : L ∈ X.fs := hs L (by unfold frs; rw [List.filterMap_cons, hf]; exact List.mem_cons_self)
      obtain ⟨sl, e⟩ := I.base.slot L o ho (I.ok.frf L hL) hL fun z => I.ok.exfs L z hL
      exact ⟨hk, ⟨L, _, hf, hn, e, hd⟩, ih (fun b hb => hs b (by unfold frs; rw [List.filterMap_cons, hf]; exact List.mem_cons_of_mem _ hb)) hr⟩
  exact all X.outer (fun _ hb => hb) I.ok.funs

/-- the frames that run, for a call -/
theorem Inv.stack (I : Inv X pins σ H s) : s.heap.FunFrames X.base X.stack := by
  rcases I.ok.stk with e | ⟨e, hf⟩
  · rw [e]; exact I.funs
  · rw [e]
    obtain ⟨m, hn, _⟩ := I.loc
    refine .cons (by rw [I.ok.kind]; decide) hf hn ?_ I.funs
    exact Heap.get?_none_of_le (Nat.le_trans I.ok.bsz I.ok.above)
theorem Inv.stkSub (I : Inv X pins σ H s) : ∀ b ∈ frs X.stack, b ∈ X.env.locals :: X.fs := fun b hb => by
  rcases I.ok.stk with e | ⟨e, hf⟩
  · rw [e] at hb; exact List.mem_cons_of_mem _ hb
  · rw [e] at hb
    unfold frs at hb
    rw [List.filterMap_cons, hf] at hb
    exact hb
theorem Inv.stkFree (I : Inv X pins σ H s) : ∀ b ∈ frs X.stack, H b = none := fun b hb => by
  rcases List.mem_cons.mp (I.stkSub b hb) with e | hb
  · rw [e]; exact I.free
  · obtain ⟨_, o, ho, _⟩ := I.ok.funs.mem hb
    exact I.base.free b o ho (I.ok.frf b hb) fun z => I.ok.exfs b z hb

/-- THE STEP: the untracked objects but the frame and the records at ch are kept (the callers' frames up to slots), the frame's map is kept, the new abstract heap is held -/
theorem Inv.step {g' : Array GenState} {t' : Nat} {d' : Drawn} {ch : List Addr} (I : Inv X pins σ H s)
    (hch : ∀ b ∈ ch, (b ∈ X.ex ∨ X.s₀.heap.objs.size ≤ b) ∧ b ≠ X.env.locals ∧ (∀ x c, X.env.cells.lookup x = some c → c ≠ b) ∧ ∀ p ∈ X.pn ++ pins, p.1 ≠ b)
    (keep : ∀ b o, b ≠ X.env.locals → b ∉ X.fs → b ∉ ch → s.heap.get? b = some o → H b = none → h'.get? b = some o)
    (slot : ∀ b o, b ≠ X.env.locals → b ∈ X.fs → b ∉ ch → s.heap.get? b = some o → H b = none → ∃ sl, h'.get? b = some { o with slots := sl }) (free : ∀ b o, b ∉ ch → s.heap.get? b = some o → H b = none → H' b = none)
    (there : ∀ b o, b ∉ ch → s.heap.get? b = some o → ∃ o', h'.get? b = some o')
    (tups : ∀ b xs, H b = some (.tup xs) → H' b = some (.tup xs)) (frzs : ∀ b o u, H b = some (.frz o u) → H' b = some (.frz o u)) (tbls : ∀ b ps, H b = some (.tbl ps) → ∃ more, H' b = some (.tbl (ps ++ more)))
    (ns : ∀ m, s.heap.Ns X.env.locals m → h'.Ns X.env.locals m) (hok : HOk X.prog X.w H' h') (hg : AllBare g') :
    Inv X pins σ H' { s with heap := h', gens := g', drawn := d', toks := t' } := by
  have neL : ∀ b o, X.s₀.heap.get? b = some o → b ≠ X.env.locals := fun b o e => Nat.ne_of_lt (Nat.lt_of_lt_of_le (Heap.lt_size e) I.ok.above)
  have neC : ∀ b o, X.s₀.heap.get? b = some o → b ∉ X.ex → b ∉ ch := fun b o e hx hb => by
    rcases (hch b hb).1 with z | z
    · exact hx z
    · exact absurd (Nat.lt_of_lt_of_le (Heap.lt_size e) z) (Nat.lt_irrefl _)
  have cellK : ∀ x c, X.env.cells.lookup x = some c → ∀ v, s.heap.IsCell c v → h'.IsCell c v := fun x c e v ⟨o, ho, hd⟩ => by
    have nch : c ∉ ch := fun z => (hch c z).2.2.1 x c e rfl
    by_cases hc : c ∈ X.fs
    · obtain ⟨sl, q⟩ := slot c o (I.cne x c e) hc nch ho (I.freeC x c e)
      exact ⟨_, q, hd⟩
    · exact ⟨o, keep c o (I.cne x c e) hc nch ho (I.freeC x c e), hd⟩
  refine ⟨I.ok, I.os, hg, ⟨fun b o e n hb hx => ?_, fun b o e n hb hx => ?_, fun b o e n hx => ?_, fun b o e hx => ?_, fun b xs e => tups b xs (I.base.tups b xs e), fun b o xs e => frzs b o xs (I.base.frzs b o xs e), fun b ps e => ?_⟩, ?_, fun x c e => ?_, ?_, fun x c e => ?_, fun p hp => ?_, hok, I.len⟩
  · exact keep b o (neL b o e) hb (neC b o e hx) (I.base.keep b o e n hb hx) (I.base.free b o e n hx)
  · obtain ⟨sl, e1⟩ := I.base.slot b o e n hb hx
    obtain ⟨sl', e2⟩ := slot b _ (neL b o e) hb (neC b o e hx) e1 (I.base.free b o e n hx)
    exact ⟨sl', e2⟩
  · obtain ⟨o', e1⟩ := I.base.there b o e hx
    exact free b o' (neC b o e hx) e1 (I.base.free b o e n hx)
  · obtain ⟨o', e1⟩ := I.base.there b o e hx
    exact there b o' (neC b o e hx) e1
  · obtain ⟨m1, e1⟩ := I.base.tbls b ps e
    obtain ⟨m2, e2⟩ := tbls b _ e1
    exact ⟨m1 ++ m2, by rw [e2, Array.append_assoc]⟩
  · obtain ⟨m, hn, hl⟩ := I.loc
    refine ⟨m, ns m hn, fun i x v e1 e2 e3 => ?_⟩
    obtain ⟨u, r, l⟩ := hl i x v e1 e2 e3
    refine ⟨u, r, ?_⟩
    rcases l with l | ⟨k, c, e, z⟩
    · exact .inl l
    · exact .inr ⟨k, c, e, cellK x c e _ z⟩
  · obtain ⟨v, z⟩ := I.cell x c e
    exact ⟨v, cellK x c e v z⟩
  · obtain ⟨m, ⟨o, _, _, ho, _⟩, _⟩ := I.loc
    exact free _ o (fun z => (hch _ z).2.1 rfl) ho I.free
  · obtain ⟨v, o, ho, hd⟩ := I.cell x c e
    exact free c o (fun z => (hch c z).2.2.1 x c e rfl) ho (I.freeC x c e)
  · obtain ⟨e, n, ne, nf, d⟩ := I.pin p hp
    have nch : p.1 ∉ ch := fun z => (hch p.1 z).2.2.2 p hp rfl
    exact ⟨keep p.1 p.2 ne nf nch e n, free p.1 p.2 nch e n, ne, nf, d⟩
/-- .. where the frame's own object is kept too -/
theorem Inv.un {t' : Nat} (I : Inv X pins σ H s) (u : Un X.fs [] H H' s.heap h') (hok : HOk X.prog X.w H' h') : Inv X pins σ H' { s with heap := h', toks := t' } := by
  obtain ⟨m, ⟨o, es, ep, ho, r⟩, _⟩ := id I.loc
  obtain ⟨sl, hL⟩ := u.any ho I.free (by simp)
  exact I.step (g' := s.gens) (d' := s.drawn) (ch := []) (fun _ z => nomatch z) (fun b o _ hb _ e n => u.keep b o e n hb (by simp)) (fun b o _ hb _ e n => u.slot b o e n hb (by simp)) (fun b o _ e n => u.free b o e n (by simp)) (fun b o _ e => u.there b o e (by simp)) u.tups u.frzs u.tbls (fun m' hm => by
    obtain ⟨o', es', ep', ho', r'⟩ := hm
    rw [ho] at ho'; cases ho'
    exact ⟨_, es', ep', hL, r'⟩) hok I.bare
/-- behind a call (or a comprehension's block): the slots of this frame may have changed too, the records at ch may have turned -/
theorem Inv.call {g' : Array GenState} {t' : Nat} {d' : Drawn} {ch : List Addr} (I : Inv X pins σ H s) (u : Un (frs X.stack) ch H H' s.heap h') (hok : HOk X.prog X.w H' h') (hg : AllBare g')
    (hch : ∀ b ∈ ch, (b ∈ X.ex ∨ X.s₀.heap.objs.size ≤ b) ∧ b ≠ X.env.locals ∧ (∀ x c, X.env.cells.lookup x = some c → c ≠ b) ∧ ∀ p ∈ X.pn ++ pins, p.1 ≠ b) :
    Inv X pins σ H' { s with heap := h', gens := g', drawn := d', toks := t' } := by
  obtain ⟨m, ⟨o, es, ep, ho, r⟩, _⟩ := id I.loc
  obtain ⟨sl, hL⟩ := u.any ho I.free fun z => (hch _ z).2.1 rfl
  exact I.step (ch := ch) hch (fun b o hL hb hc e n => u.keep b o e n (fun z => (List.mem_cons.mp (I.stkSub b z)).elim hL hb) hc) (fun b o _ _ hc e n => u.any e n hc) (fun b o hc e n => u.free b o e n hc) (fun b o hc e => u.there b o e hc) u.tups u.frzs u.tbls (fun m' hm => by
    obtain ⟨o', es', ep', ho', r'⟩ := hm
    rw [ho] at ho'; cases ho'
    exact ⟨_, es', ep', hL, r'⟩) hok hg
/-- an untracked record of ours (an iterator) has turned -/
theorem Inv.turned {t' : Nat} {it : Addr} (I : Inv X pins σ H s) (k : ∀ b o, b ≠ it → s.heap.get? b = some o → h'.get? b = some o) (hn : H it = none) (hL : it ≠ X.env.locals)
    (h1 : it ∈ X.ex ∨ X.s₀.heap.objs.size ≤ it) (h2 : ∀ x c, X.env.cells.lookup x = some c → c ≠ it) (h3 : ∀ p ∈ X.pn ++ pins, p.1 ≠ it) : Inv X pins σ H { s with heap := h', toks := t' } := by
  have nit : ∀ b u, H b = some u → b ≠ it := fun b u e z => by rw [z, hn] at e; cases e
  refine I.step (g' := s.gens) (d' := s.drawn) (ch := [it]) (fun b hb => ?_) (fun b o _ _ hc e _ => k b o (fun z => hc (by simp [z])) e) (fun b o _ _ hc e _ => ⟨o.slots, k b o (fun z => hc (by simp [z])) e⟩) (fun _ _ _ _ n => n)
    (fun b o hc e => ⟨o, k b o (fun z => hc (by simp [z])) e⟩) (fun _ _ e => e) (fun _ _ _ e => e) (fun b ps e => ⟨#[], by rw [e]; simp⟩) (fun m hm => ?_) (fun b u e => ?_) I.bare
  · have e : b = it := by simpa using hb
    subst e
    exact ⟨h1, hL, h2, h3⟩
  · obtain ⟨o, es, ep, ho, r⟩ := hm
    exact ⟨o, es, ep, k _ o (Ne.symm hL) ho, r⟩
  · refine (I.hok b u e).stay (fun c v hc q => k c v ?_ q) (fun _ q => q) fun _ _ q => q
    rcases hc with z | z
    · rw [z]; exact nit b u e
    · exact nit c _ z
theorem Inv.tok (I : Inv X pins σ H s) (t : Nat) : Inv X pins σ H { s with toks := t } := I.un (h' := s.heap) (t' := t) Un.refl I.hok
/-- all objects kept -/
theorem Inv.kept {t' : Nat} (I : Inv X pins σ H s) (k : ∀ b u, s.heap.get? b = some u → h'.get? b = some u) : Inv X pins σ H { s with heap := h', toks := t' } := I.un (Un.kept k) (I.hok.kept k)
/-- a new object laid and tracked -/
theorem Inv.laid {a : Addr} {o : HO} {t' : Nat} (I : Inv X pins σ H s) (k : ∀ b u, s.heap.get? b = some u → h'.get? b = some u) (hp : s.heap.objs.size ≤ a) (new : ObjOk X.prog X.w (upd H a o) h' a o) :
    Inv X pins σ (upd H a o) { s with heap := h', toks := t' } := I.un (Un.laid k hp (I.hok.fresh hp)) (I.hok.laid k hp new)
/-- an object written -/
theorem Inv.write {x e : Addr} {o : HO} {t' : Nat} (I : Inv X pins σ H s) (mu : Mut (H x)) (he : e = x ∨ H e = some (.own x)) (k : ∀ b u, b ≠ e → s.heap.get? b = some u → h'.get? b = some u) (heo : ∃ u, h'.get? e = some u)
    (new : ObjOk X.prog X.w (upd H x o) h' x o) : Inv X pins σ (upd H x o) { s with heap := h', toks := t' } := I.un (Un.write mu he k heo) (I.hok.write mu he k heo new)
theorem Inv.pins_of {pins' : List (Addr × Obj)} (I : Inv X pins σ H s) (h : ∀ p ∈ pins', s.heap.get? p.1 = some p.2 ∧ H p.1 = none ∧ p.1 ≠ X.env.locals ∧ p.1 ∉ X.fs ∧ ∀ v, p.2.data ≠ .cell v) : Inv X pins' σ H s :=
  ⟨I.ok, I.os, I.bare, I.base, I.loc, I.cell, I.free, I.freeC, fun p hp => (List.mem_append.mp hp).elim (fun z => I.pin p (List.mem_append_left _ z)) (h p), I.hok, I.len⟩

theorem nodup_ix {N : List Str} (hN : N.Nodup) {i j : Nat} {x : Str} (a : N[i]? = some x) (b : N[j]? = some x) : i = j := by
  obtain ⟨h1, e1⟩ := List.getElem?_eq_some_iff.mp a
  obtain ⟨h2, e2⟩ := List.getElem?_eq_some_iff.mp b
  exact (List.getElem_inj hN).mp (e1.trans e2.symm)

/-- a name is stored; what changed -/
theorem store_ok2 {M : Model} {A : Around} {E : Value → Shared → Prop} {i : Nat} {x : Str} {v : V} {u : Value} {Q : Unit → Shared → Prop} (I : Inv X pins σ H s) (hN : X.N.Nodup) (hi : X.N[i]? = some x) (hx : Loc X.env.scope x) (r : RelV v u)
    (h : ∀ s', Inv X pins (σ.set i (some v)) H s' → (∃ a, Heap.SameBut a s.heap s'.heap ∧ (a = X.env.locals ∨ X.env.cells.lookup x = some a)) → Q () s') (hf : X.fn x = true ∨ X.env.scope.names.lookup x = some .local := by first | exact .inl rfl | exact .inr rfl | assumption) : wpAny M A (storeName X.env x u) Q E s := by
  obtain ⟨m, hn, hl⟩ := id I.loc
  have hcls : (X.env.scope.kind == .class || (X.env.scope.kind == .module && X.env.locals != X.env.globals)) = false := by rw [I.ok.kind]; rfl
  have hiσ : i < σ.length := by rw [I.len]; exact (List.getElem?_eq_some_iff.mp hi).1
  have cne := I.cne
  have tracked : ∀ {a : Addr} {h' : Heap}, (∃ o, s.heap.get? a = some o ∧ H a = none) → Heap.SameBut a s.heap h' → HOk X.prog X.w H h' := fun {a h'} ha hs b ob e => by
    obtain ⟨_, _, hfree⟩ := ha
    refine (I.hok b ob e).stay (fun c w' hc q => (hs.2 c ?_).trans q) (fun _ q => q) fun _ _ q => q
    rintro rfl
    rcases hc with rfl | hc
    · rw [hfree] at e; cases e
    · rw [hfree] at hc; cases hc
  rcases hx with hk | hk
  · refine wpAny_storeName_local hk hn (fun h' hn' hs => ?_) hcls
    obtain ⟨oL, _, _, hoL, _⟩ := id hn
    refine h _ ⟨I.ok, I.os, I.bare, ⟨fun b o e n hb hx => ?_, fun b o e n hb hx => ?_, I.base.free, fun b o e hx => ?_, I.base.tups, I.base.frzs, I.base.tbls⟩, ⟨_, hn', fun j y v' e1 e2 e3 => ?_⟩, fun y c e => ?_, I.free, I.freeC, fun p hp => ?_, tracked ⟨oL, hoL, I.free⟩ hs, by simpa using I.len⟩ ⟨_, hs, .inl rfl⟩
    · exact (hs.2 b (Nat.ne_of_lt (Nat.lt_of_lt_of_le (Heap.lt_size e) I.ok.above))).trans (I.base.keep b o e n hb hx)
    · obtain ⟨sl, e1⟩ := I.base.slot b o e n hb hx
      exact ⟨sl, (hs.2 b (Nat.ne_of_lt (Nat.lt_of_lt_of_le (Heap.lt_size e) I.ok.above))).trans e1⟩
    · obtain ⟨o', e1⟩ := I.base.there b o e hx
      exact ⟨o', (hs.2 b (Nat.ne_of_lt (Nat.lt_of_lt_of_le (Heap.lt_size e) I.ok.above))).trans e1⟩
    · by_cases hj : j = i
      · subst hj
        rw [hi] at e1; cases e1
        rw [List.getElem?_set_self hiσ] at e2
        cases e2
        exact ⟨u, r, .inl ⟨hk, by simp⟩⟩
      · rw [List.getElem?_set_ne (Ne.symm hj)] at e2
        obtain ⟨u', r', q⟩ := hl j y v' e1 e2 e3
        refine ⟨u', r', ?_⟩
        rcases q with ⟨k, e⟩ | ⟨k, c, e, z⟩
        · refine .inl ⟨k, ?_⟩
          have : y ≠ x := fun e => hj (nodup_ix hN e1 (e ▸ hi))
          simp [this, e]
        · exact .inr ⟨k, c, e, z.sameBut hs (cne y c e)⟩
    · obtain ⟨w', z⟩ := I.cell y c e
      exact ⟨w', z.sameBut hs (cne y c e)⟩
    · obtain ⟨e, n, ne, nf, d⟩ := I.pin p hp
      exact ⟨(hs.2 p.1 ne).trans e, n, ne, nf, d⟩
  · have hfn : X.fn x = true := by
      rcases hf with z | z
      · exact z
      · rw [z] at hk; cases hk
    obtain ⟨c, hc⟩ := I.ok.has x (.inl hk)
    obtain ⟨w', z⟩ := I.cell x c hc
    refine wpAny_storeName_cell I.ok.kind hk hc z (fun h' hc' hs => ?_)
    obtain ⟨oc, hoc, hocd⟩ := id z
    refine h { s with heap := h' } ⟨I.ok, I.os, I.bare, ⟨fun b o e n hb hx => ?_, fun b o e n hb hx => ?_, I.base.free, fun b o e hx => ?_, I.base.tups, I.base.frzs, I.base.tbls⟩, ⟨m, hn.sameBut hs (Ne.symm (cne x c hc)), fun j y v' e1 e2 e3 => ?_⟩, fun y c' e => ?_, I.free, I.freeC, fun p hp => ?_, tracked ⟨oc, hoc, I.freeC x c hc⟩ hs, by simpa using I.len⟩ ⟨c, hs, .inr hc⟩
    · exact (hs.2 b (Nat.ne_of_lt (Nat.lt_of_lt_of_le (Heap.lt_size e) (I.ok.cab x c hfn hc)))).trans (I.base.keep b o e n hb hx)
    · obtain ⟨sl, e1⟩ := I.base.slot b o e n hb hx
      exact ⟨sl, (hs.2 b (Nat.ne_of_lt (Nat.lt_of_lt_of_le (Heap.lt_size e) (I.ok.cab x c hfn hc)))).trans e1⟩
    · obtain ⟨o', e1⟩ := I.base.there b o e hx
      exact ⟨o', (hs.2 b (Nat.ne_of_lt (Nat.lt_of_lt_of_le (Heap.lt_size e) (I.ok.cab x c hfn hc)))).trans e1⟩
    · by_cases hj : j = i
      · subst hj
        rw [hi] at e1; cases e1
        rw [List.getElem?_set_self hiσ] at e2
        cases e2
        exact ⟨u, r, .inr ⟨.inl hk, c, hc, hc'⟩⟩
      · rw [List.getElem?_set_ne (Ne.symm hj)] at e2
        obtain ⟨u', r', q⟩ := hl j y v' e1 e2 e3
        refine ⟨u', r', ?_⟩
        rcases q with q | ⟨k, c', e, z'⟩
        · exact .inl q
        · refine .inr ⟨k, c', e, z'.sameBut hs ?_⟩
          rintro rfl
          exact hj (nodup_ix hN e1 (I.ok.inj _ _ _ e hc ▸ hi))
    · by_cases hcc : c' = c
      · subst hcc; exact ⟨_, hc'⟩
      · obtain ⟨w2, z2⟩ := I.cell y c' e
        exact ⟨w2, z2.sameBut hs hcc⟩
    · obtain ⟨e, n, ne, nf, d⟩ := I.pin p hp
      refine ⟨(hs.2 p.1 ?_).trans e, n, ne, nf, d⟩
      intro q
      rw [q, hoc] at e
      have q' : oc = p.2 := Option.some.inj e
      exact d w' (by rw [← q']; exact hocd)
theorem store_ok {M : Model} {A : Around} {E : Value → Shared → Prop} {i : Nat} {x : Str} {v : V} {u : Value} {Q : Unit → Shared → Prop} (I : Inv X pins σ H s) (hN : X.N.Nodup) (hi : X.N[i]? = some x) (hx : Loc X.env.scope x) (r : RelV v u)
    (h : ∀ s', Inv X pins (σ.set i (some v)) H s' → Q () s') (hf : X.fn x = true ∨ X.env.scope.names.lookup x = some .local := by first | exact .inl rfl | exact .inr rfl | assumption) : wpAny M A (storeName X.env x u) Q E s :=
  store_ok2 I hN hi hx r (fun s' I' _ => h s' I') hf
/-- behind a call or a block, the state as it is -/
theorem Inv.call' {s' : Shared} {ch : List Addr} (I : Inv X pins σ H s) (ho : s'.os = s.os) (u : Un (frs X.stack) ch H H' s.heap s'.heap) (hok : HOk X.prog X.w H' s'.heap) (hg : AllBare s'.gens)
    (hch : ∀ b ∈ ch, (b ∈ X.ex ∨ X.s₀.heap.objs.size ≤ b) ∧ b ≠ X.env.locals ∧ (∀ x c, X.env.cells.lookup x = some c → c ≠ b) ∧ ∀ p ∈ X.pn ++ pins, p.1 ≠ b) : Inv X pins σ H' s' := by
  obtain ⟨h', g', d', t', o'⟩ := s'
  have e : o' = s.os := ho
  subst e
  exact I.call (g' := g') (t' := t') (d' := d') u hok hg hch
end

/-! ### the judgements -/
/-- an exception: its class, its own dict's address (where it has one), the abstract heap behind it -/
abbrev XK := Value → Option Addr → Hp → Prop
abbrev St := List (Option V)
abbrev VK := V → Hp → Prop
/-- an expression's reading; a test's; an argument list's -/
abbrev TE := St → Hp → VK → Prop
abbrev TT := St → Hp → (Bool → Hp → Prop) → Prop
abbrev TA := St → Hp → (List V → Hp → Prop) → Prop
/-- what is wanted behind a statement -/
structure Ends where
  nx : St → Hp → Prop
  rt : VK
  bk : St → Hp → Prop := fun _ _ => False
  ct : St → Hp → Prop := fun _ _ => False
abbrev TS := Ends → St → Hp → Prop

def EP (X : Cx) (pins : List (Addr × Obj)) (σ : St) (Q : VK) (u : Value) (s' : Shared) : Prop := ∃ v H', Inv X pins σ H' s' ∧ RelV v u ∧ Q v H'
def TP (X : Cx) (pins : List (Addr × Obj)) (σ : St) (Q : Bool → Hp → Prop) (b : Bool) (s' : Shared) : Prop := ∃ H', Inv X pins σ H' s' ∧ Q b H'
def AP (X : Cx) (pins : List (Addr × Obj)) (σ : St) (Q : List V → Hp → Prop) (us : List Value) (s' : Shared) : Prop := ∃ vs H', Inv X pins σ H' s' ∧ Vals vs us ∧ Q vs H'
def SP (X : Cx) (pins : List (Addr × Obj)) (D : Ends) (f : Flow) (s' : Shared) : Prop :=
  match f with
  | .next => ∃ σ' H', Inv X pins σ' H' s' ∧ D.nx σ' H'
  | .brk => ∃ σ' H', Inv X pins σ' H' s' ∧ D.bk σ' H'
  | .cont => ∃ σ' H', Inv X pins σ' H' s' ∧ D.ct σ' H'
  | .ret u => ∃ v σ' H', Inv X pins σ' H' s' ∧ RelV v u ∧ D.rt v H'

def PE (X : Cx) (e : Expr) (t : TE) : Prop :=
  ∀ (pins : List (Addr × Obj)) (s : Shared) (σ : St) (H : Hp) (Q : VK), Inv X pins σ H s → t σ H Q → wpAny (model X.prog X.w) X.A (eval e X.env) (EP X pins σ Q) X.xe s
def PT (X : Cx) (e : Expr) (t : TT) : Prop :=
  ∀ (pins : List (Addr × Obj)) (s : Shared) (σ : St) (H : Hp) (Q : Bool → Hp → Prop), Inv X pins σ H s → t σ H Q → wpAny (model X.prog X.w) X.A (isTrue e X.env (eval e X.env)) (TP X pins σ Q) X.xe s
/-- a test whatever its 'whole' is (and, or) -/
def PW (X : Cx) (e : Expr) (t : TT) : Prop :=
  ∀ (whole : Sem Value) (pins : List (Addr × Obj)) (s : Shared) (σ : St) (H : Hp) (Q : Bool → Hp → Prop), Inv X pins σ H s → t σ H Q → wpAny (model X.prog X.w) X.A (isTrue e X.env whole) (TP X pins σ Q) X.xe s
theorem PW.pt {X : Cx} {e : Expr} {t : TT} (h : PW X e t) : PT X e t := h _
/-- an argument list (no star), from the left -/
def PA (X : Cx) (es : List Expr) (t : TA) : Prop :=
  ∀ (pos : Pos) (pins : List (Addr × Obj)) (s : Shared) (σ : St) (H : Hp) (Q : List V → Hp → Prop), Inv X pins σ H s → t σ H Q → wpAny (model X.prog X.w) X.A (spliced (backTo pos (starEach es X.env))) (AP X pins σ Q) X.xe s
def PS (X : Cx) (st : Stmt) (t : TS) : Prop :=
  ∀ (pins : List (Addr × Obj)) (s : Shared) (σ : St) (H : Hp) (D : Ends), Inv X pins σ H s → t D σ H → wpAny (model X.prog X.w) X.A (exec st X.env) (SP X pins D) X.xe s
def PSs (X : Cx) (st : List Stmt) (t : TS) : Prop :=
  ∀ (pins : List (Addr × Obj)) (s : Shared) (σ : St) (H : Hp) (D : Ends), Inv X pins σ H s → t D σ H → wpAny (model X.prog X.w) X.A (execs st X.env) (SP X pins D) X.xe s
/-- weaken the end -/
theorem thn {α : Type} {t : Sem α} {Q Q' : α → Shared → Prop} {M : Model} {A : Around} {E : Value → Shared → Prop} {s : Shared} (h : wpAny M A t Q E s) (hQ : ∀ a s, Q a s → Q' a s) : wpAny M A t Q' E s := wpAny_mono h hQ fun _ _ x => x
end L2

namespace L2
open PySem PySem.Spec PyProof.Rows
section
variable {X : Cx}


/-! ### names and constants -/
def tVar (i : Nat) : TE := fun σ H Q => ∃ v, σ[i]? = some (some v) ∧ Q v H
def tC (v : V) : TE := fun _ H Q => Q v H
theorem pe_var {i : Nat} {x : Str} {pos : Pos} (hN : X.N[i]? = some x) (hv : Vis X.env.scope x) (hd : (x == ("__debug__" : Str)) = false := by decide) (hcd : (x == ("__classdict__" : Str)) = false := by decide) : PE X (.Name x pos) (tVar i) := by
  intro pins s σ H Q I h
  obtain ⟨v, e, h⟩ := h
  obtain ⟨m, hn, hl⟩ := I.loc
  obtain ⟨u, r, l⟩ := hl i x v hN e hv
  have fin : EP X pins σ Q u s := ⟨v, H, I, r, h⟩
  rcases l with ⟨hk, hm⟩ | ⟨hk, c, hc, hcell⟩
  · exact wpAny_Name (wpAny_loadName_local I.ok.kind hk hn hm fin) hd
  · rcases hk with hk | hk
    · exact wpAny_Name (wpAny_loadName_cell I.ok.kind hk hc hcell fin) hd
    · exact wpAny_Name (wpAny_loadName_free I.ok.kind hk hc hcell fin hcd) hd
theorem pe_int {i j pos} : PE X (.Constant (.int i) j pos) (tC (.int i)) := fun _ _ _ H _ I h => wpAny_Constant_int ⟨.int i, H, I.tok _, ⟨_, rfl⟩, h⟩
theorem pe_bl {b j pos} : PE X (.Constant (.bool b) j pos) (tC (.bl b)) := fun _ _ _ H _ I h => Constant_bool ⟨.bl b, H, I, rfl, h⟩
theorem pe_non {j pos} : PE X (.Constant .none j pos) (tC .non) := fun _ _ _ H _ I h => Constant_none ⟨.non, H, I, rfl, h⟩
theorem pe_str {x j pos} : PE X (.Constant (.str x) j pos) (tC (.str x)) := fun _ _ _ H _ I h => Calls.Constant_str ⟨.str x, H, I.tok _, ⟨_, rfl⟩, h⟩

/-- a global name of the def -/
def Gl (X : Cx) (x : Str) : Prop := X.env.kindOf x = some .globalImplicit
theorem ld_glob {E : Value → Shared → Prop} {pins : List (Addr × Obj)} {s : Shared} {σ : St} {H : Hp} {x : Str} {u : Value} {pos : Pos} {Q : Value → Shared → Prop} (I : Inv X pins σ H s) (hg : Gl X x) (hm : X.mg x = some u) (h : Q u s)
    (hd : (x == ("__debug__" : Str)) = false := by decide) : wpAny (model X.prog X.w) X.A (eval (.Name x pos) X.env) Q E s :=
  Calls.Name_function_global I.ok.kind hg (Calls.loadGlobal_global (by rw [I.ok.glob]; exact I.mod.glob.keeps I.bk) hm h) hd
theorem ld_blt {E : Value → Shared → Prop} {pins : List (Addr × Obj)} {s : Shared} {σ : St} {H : Hp} {x : Str} {u : Value} {pos : Pos} {Q : Value → Shared → Prop} (I : Inv X pins σ H s) (hg : Gl X x) (hm : X.mg x = none) (hv : bootBuiltins x = some u) (h : Q u s)
    (hn : x ≠ "__name__" := by decide) (hd : (x == ("__debug__" : Str)) = false := by decide) : wpAny (model X.prog X.w) X.A (eval (.Name x pos) X.env) Q E s := by
  obtain ⟨mb, h1, h2⟩ := I.mod.blt
  exact Calls.Name_function_global I.ok.kind hg (Calls.loadGlobal_builtin (by rw [I.ok.glob]; exact I.mod.glob.keeps I.bk) hm (by rw [I.ok.blt]; exact h1.keeps I.bk) ((h2 x hn).trans hv) h) hd
/-- a module's constant, a class, a function, as a value -/
theorem pe_glob {x : Str} {v : V} {u : Value} {pos : Pos} (hg : Gl X x) (hm : X.mg x = some u) (r : RelV v u) (hd : (x == ("__debug__" : Str)) = false := by decide) : PE X (.Name x pos) (tC v) :=
  fun _ _ _ H _ I h => ld_glob I hg hm ⟨v, H, I, r, h⟩ hd
theorem pe_bltn {x : Str} {v : V} {u : Value} {pos : Pos} (hg : Gl X x) (hm : X.mg x = none) (hv : bootBuiltins x = some u) (r : RelV v u) (hn : x ≠ "__name__" := by decide) (hd : (x == ("__debug__" : Str)) = false := by decide) : PE X (.Name x pos) (tC v) :=
  fun _ _ _ H _ I h => ld_blt I hg hm hv ⟨v, H, I, r, h⟩ hn hd

/-! ### arithmetic -/
/-- two ints -/
def t2I (ta tb : TE) (k : Int → Int → Hp → Prop) : St → Hp → Prop := fun σ H => ta σ H fun x H1 => tb σ H1 fun y H2 => ∃ i j, x = .int i ∧ y = .int j ∧ k i j H2
def tAdd (ta tb : TE) : TE := fun σ H Q => t2I ta tb (fun i j H2 => Q (.int (i + j)) H2) σ H
def tSub (ta tb : TE) : TE := fun σ H Q => t2I ta tb (fun i j H2 => Q (.int (i - j)) H2) σ H
/-- the left factor below 2^64 -/
def tMul (ta tb : TE) : TE := fun σ H Q => t2I ta tb (fun i j H2 => (-(2 ^ 64) < i ∧ i < 2 ^ 64) ∧ Q (.int (i * j)) H2) σ H
variable {a b : Expr} {ta tb : TE} {pos : Pos}

/-! ### comparisons -/
def PC (X : Cx) (op : CmpOp) (a b : Expr) (t : TE) : Prop :=
  ∀ (pins : List (Addr × Obj)) (s : Shared) (σ : St) (H : Hp) (Q : VK), Inv X pins σ H s → t σ H Q →
    wpAny (model X.prog X.w) X.A (eval a X.env) (fun v s₁ => wpAny (model X.prog X.w) X.A (eval b X.env) (fun u s₂ => wpAny (model X.prog X.w) X.A (compareOp op v u) (EP X pins σ Q) X.xe s₂) X.xe s₁) X.xe s
def tCmp (p : Int → Int → Bool) (ta tb : TE) : TE := fun σ H Q => t2I ta tb (fun i j H2 => Q (.bl (p i j)) H2) σ H
abbrev tLt : TE → TE → TE := tCmp fun i j => decide (i < j)
abbrev tLe : TE → TE → TE := tCmp fun i j => decide (i ≤ j)
abbrev tGt : TE → TE → TE := tCmp fun i j => decide (j < i)
abbrev tGe : TE → TE → TE := tCmp fun i j => decide (j ≤ i)
abbrev tEqI : TE → TE → TE := tCmp fun i j => decide (i = j)
abbrev tNeI : TE → TE → TE := tCmp fun i j => !decide (i = j)
/-- is None -/
def tIsN (ta : TE) : TE := fun σ H Q => ta σ H fun x H1 => Q (.bl (decide (x = .non))) H1
def tNotN (ta : TE) : TE := fun σ H Q => ta σ H fun x H1 => Q (.bl (!decide (x = .non))) H1
/-- a comparison as a value, as a test -/
def tB (t : TE) : TT := fun σ H Q => t σ H fun x H1 => ∃ c, x = .bl c ∧ Q c H1
/-- an expression whose value is a bool, as a test -/
theorem pt_val {e : Expr} {t : TE} (h : PE X e t) (he : ∀ whole, isTrue e X.env whole = (do let v ← whole; standAt e.pos; holding [v] (truthy v)) := by intro _; rfl) : PT X e (tB t) := by
  intro pins s σ H Q I hw
  refine isTrue_plain (thn (h pins s σ H _ I hw) fun v s1 ⟨x, H1, I1, r1, q1⟩ => ?_) (he _)
  obtain ⟨d, rfl, q⟩ := q1
  cases r1
  exact wpAny_truthy_bool ⟨H1, I1, q⟩

/-! ### and, or, not -/
variable {tA tB' : TT} {rest : List Expr}
def tAnd (t u : TT) : TT := fun σ H Q => t σ H fun c H1 => if c = true then u σ H1 Q else Q false H1
def tOr (t u : TT) : TT := fun σ H Q => t σ H fun c H1 => if c = true then Q true H1 else u σ H1 Q
def tNot (t : TT) : TT := fun σ H Q => t σ H fun c H1 => Q (!c) H1
theorem pw_and1 (ha : PT X a tA) : PW X (.BoolOp .And [a] pos) tA := by
  intro wh pins s σ H Q I h
  refine isTrue_and (thn (ha pins s σ H Q I h) fun c s1 e => ?_)
  cases c with
  | true => exact isTrue_and_nil e
  | false => exact e
theorem pw_or1 (ha : PT X a tA) : PW X (.BoolOp .Or [a] pos) tA := by
  intro wh pins s σ H Q I h
  refine isTrue_or (thn (ha pins s σ H Q I h) fun c s1 e => ?_)
  cases c with
  | false => exact isTrue_or_nil e
  | true => exact e
theorem pw_and (ha : PT X a tA) (hb : PW X (.BoolOp .And (b :: rest) pos) tB') : PW X (.BoolOp .And (a :: b :: rest) pos) (tAnd tA tB') := by
  intro wh pins s σ H Q I h
  refine isTrue_and (thn (ha pins s σ H _ I h) fun c s1 ⟨H1, I1, q1⟩ => ?_)
  cases c with
  | true => exact hb wh pins s1 σ H1 Q I1 q1
  | false => exact ⟨H1, I1, q1⟩
theorem pw_or (ha : PT X a tA) (hb : PW X (.BoolOp .Or (b :: rest) pos) tB') : PW X (.BoolOp .Or (a :: b :: rest) pos) (tOr tA tB') := by
  intro wh pins s σ H Q I h
  refine isTrue_or (thn (ha pins s σ H _ I h) fun c s1 ⟨H1, I1, q1⟩ => ?_)
  cases c with
  | true => exact ⟨H1, I1, q1⟩
  | false => exact hb wh pins s1 σ H1 Q I1 q1
theorem pt_not (ha : PT X a tA) : PT X (.UnaryOp .Not a pos) (tNot tA) := by
  intro pins s σ H Q I h
  exact isTrue_not (ha pins s σ H (fun c H1 => Q (!c) H1) I h)
/-- .. as values (bools) -/
def tAndV (ta tb : TE) : TE := fun σ H Q => ta σ H fun x H1 => ∃ c, x = .bl c ∧ if c = true then tb σ H1 Q else Q (.bl false) H1
def tOrV (ta tb : TE) : TE := fun σ H Q => ta σ H fun x H1 => ∃ c, x = .bl c ∧ if c = true then Q (.bl true) H1 else tb σ H1 Q
def tNotV (ta : TE) : TE := fun σ H Q => ta σ H fun x H1 => ∃ c, x = .bl c ∧ Q (.bl (!c)) H1
theorem pe_one {op} {t : TE} (h : PE X a t) : PE X (.BoolOp op [a] pos) t := fun pins s σ H Q I hw => BoolOp_one (h pins s σ H Q I hw)
theorem pe_and (ha : PE X a ta) (hb : PE X (.BoolOp .And (b :: rest) pos) tb) : PE X (.BoolOp .And (a :: b :: rest) pos) (tAndV ta tb) := by
  intro pins s σ H Q I h
  refine BoolOp_and (thn (ha pins s σ H _ I h) fun v s1 ⟨x, H1, I1, r1, q1⟩ => ?_)
  obtain ⟨c, rfl, q1⟩ := q1
  cases r1
  refine wpAny_truthy_bool ?_
  cases c with
  | true => exact hb pins s1 σ H1 Q I1 q1
  | false => exact ⟨.bl false, H1, I1, rfl, q1⟩
/-- a if t else b -/
def tIf (t : TT) (ta tb : TE) : TE := fun σ H Q => t σ H fun c H1 => if c = true then ta σ H1 Q else tb σ H1 Q
end
end L2

namespace L2
open PySem PySem.Spec PyProof.Rows

/-! ### a list, a tuple that is read: tracked, frozen, or an object of the module -/
def SqL (K : PySem.W.Frag) (H : Hp) (a : Addr) (xs : List V) : Prop :=
  Rd H a (.lst xs) ∨
    ∃ (o : Obj) (its : Array Value) (n : Nat), K.lookup a = some o ∧ o.cls = .type "list" ∧ o.dict = none ∧ o.data = .seq its n ∧ its.size ≤ sizeLine ∧ Vals xs its.toList
def SqT (K : PySem.W.Frag) (H : Hp) (a : Addr) (xs : List V) : Prop :=
  Rd H a (.tup xs) ∨
    ∃ (o : Obj) (its : Array Value) (n : Nat), K.lookup a = some o ∧ o.cls = .type "tuple" ∧ o.data = .seq its n ∧ its.size ≤ sizeLine ∧ Vals xs its.toList
def absV : Value → Option V
  | .none => some .non
  | .bool b => some (.bl b)
  | .int i _ => some (.int i)
  | .str x _ => some (.str x)
  | .bytes b _ => some (.byt b)
  | .float b _ => some (.flt b)
  | .ref a => some (.ref a)
  | .type n => some (.ty n)
  | _ => none
theorem RelV.abs {x : V} {u : Value} (r : RelV x u) : absV u = some x := by
  cases x with
  | non => cases r; rfl
  | bl _ => cases r; rfl
  | int _ => obtain ⟨t, rfl⟩ := r; rfl
  | str _ => obtain ⟨t, rfl⟩ := r; rfl
  | byt _ => obtain ⟨t, rfl⟩ := r; rfl
  | flt _ => obtain ⟨t, rfl⟩ := r; rfl
  | ref _ => cases r; rfl
  | ty _ => cases r; rfl
theorem RelV.inj {x y : V} {u : Value} (r : RelV x u) (q : RelV y u) : x = y := Option.some.inj (r.abs.symm.trans q.abs)
theorem Vals.inj : ∀ {xs ys : List V} {us : List Value}, Vals xs us → Vals ys us → xs = ys
  | _, _, _, .nil, .nil => rfl
  | _, _, _, .cons r t, .cons r' t' => by rw [r.inj r', Vals.inj t t']
section
variable {X : Cx} {pins : List (Addr × Obj)} {σ : St} {H : Hp} {s : Shared} {a : Addr} {xs ys : List V}
theorem SqL.of {K : PySem.W.Frag} (h : H a = some (.lst xs)) : SqL K H a xs := .inl (.inl h)
theorem SqT.of {K : PySem.W.Frag} (h : H a = some (.tup xs)) : SqT K H a xs := .inl (.inl h)
theorem Inv.list (I : Inv X pins σ H s) (h : SqL X.K H a xs) : ∃ its : List Value, Vals xs its ∧ PlainL s.heap a its.toArray ∧ xs.length ≤ sizeLine := by
  rcases h with h | ⟨o, its, n, hk, hc, hd, hs, hz, r⟩
  · obtain ⟨z, its, n, r, e⟩ := h.ok I.hok
    exact ⟨its, r, ⟨_, n, e, rfl, rfl, rfl⟩, z⟩
  · refine ⟨its.toList, r, ⟨o, n, I.kIn a o hk, hc, hd, by simpa using hs⟩, ?_⟩
    have e := r.length
    simp only [Array.length_toList] at e
    omega
theorem Inv.tuple (I : Inv X pins σ H s) (h : SqT X.K H a xs) : ∃ its : List Value, Vals xs its ∧ IsTup s.heap a its.toArray ∧ xs.length ≤ sizeLine := by
  rcases h with h | ⟨o, its, n, hk, hc, hs, hz, r⟩
  · obtain ⟨z, its, r, p⟩ := h.ok I.hok
    exact ⟨its, r, p, z⟩
  · refine ⟨its.toList, r, ⟨o, I.kIn a o hk, hc, n, by simpa using hs⟩, ?_⟩
    have e := r.length
    simp only [Array.length_toList] at e
    omega
theorem Inv.list_inj (I : Inv X pins σ H s) (h : SqL X.K H a xs) (h' : SqL X.K H a ys) : xs = ys := by
  obtain ⟨its, r, ⟨o, n, e, _, _, d⟩, _⟩ := I.list h
  obtain ⟨its', r', ⟨o', n', e', _, _, d'⟩, _⟩ := I.list h'
  rw [e] at e'; cases e'
  rw [d] at d'
  injection d' with d1 _
  have : its = its' := by simpa using congrArg Array.toList d1
  subst this
  exact r.inj r'
end

/-! ### another wish about exceptions -/
abbrev Cx.wish (X : Cx) (E : Value → Shared → Prop) : Cx := { X with xe := E }
/-- no exception leaves -/
abbrev Cx.nox (X : Cx) : Cx := X.wish fun _ _ => False
theorem Cx.Ok.wish {X : Cx} (ok : X.Ok) (E : Value → Shared → Prop) : (X.wish E).Ok :=
  ⟨ok.mod, ok.kind, ok.glob, ok.blt, ok.above, ok.inj, ok.has, ok.cab, ok.hd, ok.frames, ok.stk, ok.exf, ok.bs, ok.bsz, ok.noex, ok.exfs, ok.funs, ok.frf⟩
theorem Cx.Ok.unwish {X : Cx} {E : Value → Shared → Prop} (ok : (X.wish E).Ok) : X.Ok :=
  ⟨ok.mod, ok.kind, ok.glob, ok.blt, ok.above, ok.inj, ok.has, ok.cab, ok.hd, ok.frames, ok.stk, ok.exf, ok.bs, ok.bsz, ok.noex, ok.exfs, ok.funs, ok.frf⟩
section
variable {X : Cx} {pins : List (Addr × Obj)} {σ : St} {H : Hp} {s : Shared} {E : Value → Shared → Prop}
theorem Inv.wish (I : Inv X pins σ H s) (E : Value → Shared → Prop) : Inv (X.wish E) pins σ H s := ⟨I.ok.wish E, I.os, I.bare, I.base, I.loc, I.cell, I.free, I.freeC, I.pin, I.hok, I.len⟩
theorem Inv.unwish (I : Inv (X.wish E) pins σ H s) : Inv X pins σ H s := ⟨I.ok.unwish, I.os, I.bare, I.base, I.loc, I.cell, I.free, I.freeC, I.pin, I.hok, I.len⟩
theorem SP.unwish {D : Ends} {f : Flow} {s' : Shared} (h : SP (X.wish E) pins D f s') : SP X pins D f s' := by
  cases f with
  | next => obtain ⟨σ', H', I, q⟩ := h; exact ⟨σ', H', I.unwish, q⟩
  | brk => obtain ⟨σ', H', I, q⟩ := h; exact ⟨σ', H', I.unwish, q⟩
  | cont => obtain ⟨σ', H', I, q⟩ := h; exact ⟨σ', H', I.unwish, q⟩
  | ret u => obtain ⟨v, σ', H', I, r, q⟩ := h; exact ⟨v, σ', H', I.unwish, r, q⟩
theorem PSs.nox {st : List Stmt} {t : TS} (h : PSs X.nox st t) : PSs X st t := fun pins s σ H D I hw =>
  wpAny_mono (h pins s σ H D (I.wish _) hw) (fun _ _ q => q.unwish) fun _ _ z => False.elim z
end

/-! ### blocks and small statements -/
section
variable {X : Cx} {st : Stmt} {rest : List Stmt} {t u : TS} {e : Expr} {te : TE} {pos : Pos}
def tNext : TS := fun D σ H => D.nx σ H
def tSeq (t u : TS) : TS := fun D σ H => t { D with nx := u D } σ H
theorem pss_nil : PSs X [] tNext := fun _ _ σ H _ I h => wpAny_execs_nil ⟨σ, H, I, h⟩
theorem pss_cons (h1 : PS X st t) (h2 : PSs X rest u) : PSs X (st :: rest) (tSeq t u) := by
  intro pins s σ H D I h
  refine wpAny_execs_cons (thn (h1 pins s σ H { D with nx := u D } I h) fun f s1 q => ?_)
  cases f with
  | next =>
    obtain ⟨σ', H', I', q⟩ := q
    exact h2 pins s1 σ' H' D I' q
  | ret v => exact q
  | brk => exact q
  | cont => exact q
theorem pss_one (h1 : PS X st t) : PSs X [st] t := by
  intro pins s σ H D I h
  refine wpAny_execs_cons (thn (h1 pins s σ H D I h) fun f s1 q => ?_)
  cases f with
  | next => exact wpAny_execs_nil q
  | ret v => exact q
  | brk => exact q
  | cont => exact q
def tBreak : TS := fun D σ H => D.bk σ H
def tCont : TS := fun D σ H => D.ct σ H
/-- in a def's body nothing is shown -/
theorem Inv.quiet {pins : List (Addr × Obj)} {σ : St} {H : Hp} {s : Shared} (I : Inv X pins σ H s) : interactive X.env = false := by simp [interactive, I.ok.kind]
/-- an expression whose value is dropped -/
def tDrop (te : TE) : TS := fun D σ H => te σ H fun _ H1 => D.nx σ H1
theorem ps_expr (he : PE X e te) (hs : swapsWith e none pos.line X.env = pure false := by rfl) : PS X (.Expr e pos) (tDrop te) := by
  intro pins s σ H D I h
  exact wpAny_Expr_any (thn (he pins s σ H _ I h) fun v s1 ⟨x, H1, I1, r1, q1⟩ => ⟨σ, H1, I1, q1⟩) I.quiet hs
def tRet (te : TE) : TS := fun D σ H => te σ H D.rt
theorem ps_ret (he : PE X e te) : PS X (.Return (some e) pos) (tRet te) := by
  intro pins s σ H D I h
  exact wpAny_Return_some (thn (he pins s σ H _ I h) fun v s1 ⟨x, H1, I1, r1, q1⟩ => ⟨x, σ, H1, I1, r1, q1⟩)
def tRetN : TS := fun D _ H => D.rt .non H
def tIfS (c : TT) (t u : TS) : TS := fun D σ H => c σ H fun b H1 => if b = true then t D σ H1 else u D σ H1
theorem ps_if {c : Expr} {a b : List Stmt} {tc : TT} (hc : PT X c tc) (ha : PSs X a t) (hb : PSs X b u) : PS X (.If c a b pos) (tIfS tc t u) := by
  intro pins s σ H D I h
  refine wpAny_If (thn (hc pins s σ H _ I h) fun d s1 ⟨H1, I1, q1⟩ => ?_)
  cases d with
  | true => exact ha pins s1 σ H1 D I1 q1
  | false => exact hb pins s1 σ H1 D I1 q1
/-- code that the proof never comes to -/
def tNever : TS := fun _ _ _ => False
end

/-! ### targets -/
abbrev TG := V → St → Hp → (St → Hp → Prop) → Prop
abbrev TGs := List V → St → Hp → (St → Hp → Prop) → Prop
def PG (X : Cx) (target : Expr) (t : TG) : Prop :=
  ∀ (pins : List (Addr × Obj)) (s : Shared) (σ : St) (H : Hp) (v : V) (u : Value) (Q : St → Hp → Prop), Inv X pins σ H s → RelV v u → t v σ H Q →
    wpAny (model X.prog X.w) X.A (assign target X.env u) (fun _ s' => ∃ σ' H', Inv X pins σ' H' s' ∧ Q σ' H') X.xe s
/-- several targets, one after another -/
def PGs (X : Cx) (ts : List Expr) (t : TGs) : Prop :=
  ∀ (pins : List (Addr × Obj)) (s : Shared) (σ : St) (H : Hp) (vs : List V) (us : List Value) (Q : St → Hp → Prop), Inv X pins σ H s → Vals vs us → t vs σ H Q →
    wpAny (model X.prog X.w) X.A (assignInOrder ((assignEach ts X.env).map (·.2)) us) (fun _ s' => ∃ σ' H', Inv X pins σ' H' s' ∧ Q σ' H') X.xe s
/-- o[i] = v, by values -/
abbrev TSet := V → V → V → Hp → (Hp → Prop) → Prop
def PSet (X : Cx) (t : TSet) : Prop :=
  ∀ (pins : List (Addr × Obj)) (s : Shared) (σ : St) (H : Hp) (o i v : V) (ov iv u : Value) (Q : Hp → Prop), Inv X pins σ H s → RelV o ov → RelV i iv → RelV v u → t o i v H Q →
    wpAny (model X.prog X.w) X.A (setItem ov iv u) (fun _ s' => ∃ H', Inv X pins σ H' s' ∧ Q H') X.xe s
/-- a op= b, by values -/
abbrev TIp := V → V → Hp → VK → Prop
def PIp (X : Cx) (op : Operator) (t : TIp) : Prop :=
  ∀ (pins : List (Addr × Obj)) (s : Shared) (σ : St) (H : Hp) (x y : V) (v u : Value) (Q : VK), Inv X pins σ H s → RelV x v → RelV y u → t x y H Q →
    wpAny (model X.prog X.w) X.A (inplaceOp op v u) (EP X pins σ Q) X.xe s
section
variable {X : Cx} {pos : Pos}
def gName (i : Nat) : TG := fun v σ H Q => Q (σ.set i (some v)) H
theorem pg_name {i : Nat} {x : Str} (hN : X.N.Nodup) (hi : X.N[i]? = some x) (hx : Loc X.env.scope x) (hf : X.fn x = true ∨ X.env.scope.names.lookup x = some .local := by first | exact .inl rfl | exact .inr rfl | assumption) : PG X (.Name x pos) (gName i) := by
  intro pins s σ H v u Q I r h
  exact wpAny_assign_Name (store_ok I hN hi hx r (fun s' I' => ⟨_, H, I', h⟩) hf)
def gNil : TGs := fun vs σ H Q => vs = [] ∧ Q σ H
def gCons (t : TG) (u : TGs) : TGs := fun vs σ H Q => ∃ v r, vs = v :: r ∧ t v σ H fun σ' H' => u r σ' H' Q
theorem pgs_nil : PGs X [] gNil := by
  intro pins s σ H vs us Q I r h
  obtain ⟨e, h⟩ := h
  subst e
  cases r
  exact assignInOrder_nil ⟨σ, H, I, h⟩
theorem pgs_cons {e : Expr} {es : List Expr} {t : TG} {u : TGs} (h1 : PG X e t) (h2 : PGs X es u)
    (hs : (assignEach (e :: es) X.env).map (·.2) = assign e X.env :: (assignEach es X.env).map (·.2) := by rfl) : PGs X (e :: es) (gCons t u) := by
  intro pins s σ H vs us Q I r h
  obtain ⟨v, vr, e1, h⟩ := h
  subst e1
  cases r with
  | cons r rr =>
    rw [hs]
    refine assignInOrder_cons (thn (h1 pins s σ H _ _ _ I r h) fun _ s1 ⟨σ1, H1, I1, q1⟩ => ?_)
    exact h2 pins s1 σ1 H1 _ _ Q I1 rr q1
/-- (a, b, ..) = a tuple of that length -/
def gTup (K : PySem.W.Frag) (n : Nat) (t : TGs) : TG := fun v σ H Q => ∃ a xs, v = .ref a ∧ SqT K H a xs ∧ xs.length = n ∧ t xs σ H Q
theorem pg_tup {es : List Expr} {k : Nat} {t : TGs} {n : Nat} (hc : X.calm = true) (h : PGs X es t)
    (hn : (assignEach es X.env).length = n := by rfl) (hst : (assignEach es X.env).findIdx? (·.1) = none := by rfl) : PG X (.Tuple es k pos) (gTup X.K n t) := by
  intro pins s σ H v u Q I r hw
  obtain ⟨a, xs, e1, hq, hl, hw⟩ := hw
  subst e1
  cases r
  obtain ⟨its, rv, ht, hz⟩ := I.tuple hq
  refine assign_Tuple_tuple (I.ok.hd hc) ht (by simp [hn, ← hl, rv.length]) hst fun h' hx => ?_
  have I1 : Inv X pins σ H { s with heap := h' } := I.kept (t' := s.toks) fun b o e => hx b o (Nat.ne_of_lt (Heap.lt_size e)) e
  exact h pins _ σ H xs _ Q I1 (by simpa using rv) hw
/-- o[i] = .. -/
def gSub (to ti : TE) (t : TSet) : TG := fun v σ H Q => to σ H fun o H1 => ti σ H1 fun i H2 => t o i v H2 fun H3 => Q σ H3
theorem pg_sub {o i : Expr} {to ti : TE} {t : TSet} (ho : PE X o to) (hi : PE X i ti) (hs : PSet X t)
    (ha : ∀ v, assign (.Subscript o i pos) X.env v = (do
      let ov ← holding [v] (eval o X.env)
      let iv ← holding [v, ov] (eval i X.env)
      standAt pos
      holding [v, ov, iv] (setItem ov iv v)
      release [v, ov, iv] []) := by intro _; rfl) : PG X (.Subscript o i pos) (gSub to ti t) := by
  intro pins s σ H v u Q I r h
  rw [ha]
  refine wpAny_bind (wpAny_holding (thn (ho pins s σ H _ I h) fun ov s1 ⟨x, H1, I1, r1, q1⟩ => ?_))
  refine wpAny_bind (wpAny_holding (thn (hi pins s1 σ H1 _ I1 q1) fun iv s2 ⟨y, H2, I2, r2, q2⟩ => ?_))
  refine wpAny_bind (wpAny_standAt (wpAny_bind (wpAny_holding (thn (hs pins s2 σ H2 x y v ov iv u _ I2 r1 r2 r q2) fun _ s3 ⟨H3, I3, q3⟩ => ?_))))
  exact wpAny_release ⟨σ, H3, I3, q3⟩
/-- target = value -/
def tAsg (te : TE) (g : TG) : TS := fun D σ H => te σ H fun x H1 => g x σ H1 D.nx
theorem ps_asg {tg e : Expr} {te : TE} {g : TG} (he : PE X e te) (hg : PG X tg g) (hs : swapsWithSole [tg] e pos.line X.env = pure false := by rfl) (hw : swappedStores [tg] e X.env = pure none := by rfl)
    (h1 : (assignEach [tg] X.env).map (·.2) = [assign tg X.env] := by rfl) : PS X (.Assign [tg] e pos) (tAsg te g) := by
  intro pins s σ H D I h
  refine wpAny_Assign_stores (thn (he pins s σ H _ I h) fun v s1 ⟨x, H1, I1, r1, q1⟩ => ?_) hs hw
  rw [h1]
  exact thn (hg pins s1 σ H1 x v _ I1 r1 q1) fun _ s2 q => q
/-- name = value -/
theorem ps_set {i : Nat} {x : Str} {e : Expr} {te : TE} {pos' : Pos} (hN : X.N.Nodup) (hi : X.N[i]? = some x) (hx : Loc X.env.scope x) (he : PE X e te) (hs : swapsWith e (some (.Name x pos')) pos.line X.env = pure false := by rfl) (hf : X.fn x = true ∨ X.env.scope.names.lookup x = some .local := by first | exact .inl rfl | exact .inr rfl | assumption) :
    PS X (.Assign [.Name x pos'] e pos) (tAsg te (gName i)) := by
  intro pins s σ H D I h
  refine wpAny_Assign_Name (thn (he pins s σ H _ I h) fun v s1 ⟨y, H1, I1, r1, q1⟩ => ?_) hs
  exact store_ok I1 hN hi hx r1 (fun s2 I2 => ⟨_, H1, I2, q1⟩) hf
/-- a, b = x, y with plain local names: stored from the right; the pair itself is not tracked (the opening rows as in PyProof/Rows/TupAssign.lean:23) -/
def tPar (i j : Nat) (ta : TA) : TS := fun D σ H => ta σ H fun vs H1 => ∃ v w, vs = [v, w] ∧ D.nx ((σ.set i (some v)).set j (some w)) H1
/-- name op= e -/
def tAug (i : Nat) (te : TE) (ti : TIp) : TS := fun D σ H => ∃ x, σ[i]? = some (some x) ∧ te σ H fun y H1 => ti x y H1 fun z H2 => D.nx (σ.set i (some z)) H2
/-- o[i] op= e -/
def tAugS (to ti te : TE) (tget : V → V → Hp → VK → Prop) (tip : TIp) (tset : TSet) : TS := fun D σ H => to σ H fun o H1 => ti σ H1 fun i H2 => tget o i H2 fun x H3 => te σ H3 fun y H4 => tip x y H4 fun z H5 => tset o i z H5 fun H6 => D.nx σ H6
/-- o[i], by values -/
def PGet (X : Cx) (t : V → V → Hp → VK → Prop) : Prop :=
  ∀ (pins : List (Addr × Obj)) (s : Shared) (σ : St) (H : Hp) (o i : V) (ov iv : Value) (Q : VK), Inv X pins σ H s → RelV o ov → RelV i iv → t o i H Q →
    wpAny (model X.prog X.w) X.A (getItem ov iv) (EP X pins σ Q) X.xe s
/-- ints -/
def ipI (f : Int → Int → Int) : TIp := fun x y H Q => ∃ i j, x = .int i ∧ y = .int j ∧ Q (.int (f i j)) H
end

/-! ### while -/
section
variable {X : Cx} {pos : Pos}
/-- the invariant W with its measure -/
def tWhile (c : TT) (tb : TS) : TS := fun D σ H => ∃ W : Nat → St → Hp → Prop, (∃ m, W m σ H) ∧ ∀ m σ H, W m σ H →
  c σ H fun b H1 => if b = true then ∃ N : St → Hp → Prop, (∀ σ' H', N σ' H' → ∃ m', m' < m ∧ W m' σ' H') ∧ tb { D with nx := N, ct := N, bk := D.nx } σ H1 else D.nx σ H1
theorem ps_while {c : Expr} {body : List Stmt} {tc : TT} {tb : TS} (hp : PassesOwn (model X.prog X.w) X.A X.env X.xe) (hc : PT X c tc) (hb : PSs X body tb) : PS X (.While c body [] pos) (tWhile tc tb) := by
  intro pins s σ H D I h
  obtain ⟨W, ⟨m0, w0⟩, turn⟩ := h
  refine wpAny_While (codeAny_whileLoop (fun n s' => ∃ σ' H', Inv X pins σ' H' s' ∧ W n σ' H') ?_ m0 ⟨σ, H, I, w0⟩)
  rintro n s1 ⟨σ1, H1, I1, w1⟩
  refine wpAny_passesOwn hp (thn (hc pins s1 σ1 H1 _ I1 (turn n σ1 H1 w1)) fun b s2 ⟨H2, I2, q2⟩ => ?_)
  cases b with
  | true =>
    obtain ⟨N, hN, q2⟩ := q2
    rw [if_pos rfl]
    refine wpAny_passesOwn hp (thn (hb pins s2 σ1 H2 _ I2 q2) fun f s3 q3 => ?_)
    cases f with
    | next =>
      obtain ⟨σ3, H3, I3, n3⟩ := q3
      obtain ⟨m', hm, w3⟩ := hN σ3 H3 n3
      exact ⟨m', hm, σ3, H3, I3, w3⟩
    | cont =>
      obtain ⟨σ3, H3, I3, n3⟩ := q3
      obtain ⟨m', hm, w3⟩ := hN σ3 H3 n3
      exact ⟨m', hm, σ3, H3, I3, w3⟩
    | brk => exact q3
    | ret v => exact q3
  | false =>
    rw [if_neg Bool.false_ne_true]
    exact wpAny_execs_nil ⟨σ1, H2, I2, q2⟩
end

/-! ### what a loop or a comprehension walks -/
/-- at turn i: it yields x (the heap may grow), or it stops -/
structure It where
  go : Nat → Hp → Prop
  yld : Nat → Hp → V → Hp → Prop
  stop : Nat → Hp → Prop
/-- the iterator's own objects may turn: they are not the frame's, not pinned, younger than the entry (or a comprehension's own) -/
def FpOk (X : Cx) (pins : List (Addr × Obj)) (H : Hp) (b : Addr) : Prop :=
  H b = none ∧ b ≠ X.env.locals ∧ b ∉ X.fs ∧ (b ∈ X.ex ∨ X.s₀.heap.objs.size ≤ b) ∧ (∀ x c, X.env.cells.lookup x = some c → c ≠ b) ∧ ∀ p ∈ X.pn ++ pins, p.1 ≠ b
theorem Inv.fpOk {X : Cx} {pins : List (Addr × Obj)} {σ : St} {H H' : Hp} {s : Shared} {b : Addr} (I : Inv X pins σ H s) (hb : s.heap.objs.size ≤ b) (hn : H' b = none) : FpOk X pins H' b := by
  refine ⟨hn, Nat.ne_of_gt (Nat.lt_of_lt_of_le I.lt hb), I.nofs hb, .inr (Nat.le_trans I.sz hb), fun x c e z => ?_, fun p hp z => ?_⟩
  · obtain ⟨v, q⟩ := I.cell x c e
    exact absurd (Nat.lt_of_lt_of_le q.lt (by rw [z]; exact hb)) (Nat.lt_irrefl _)
  · exact absurd (Nat.lt_of_lt_of_le (Heap.lt_size (I.pin p hp).1) (by rw [z]; exact hb)) (Nat.lt_irrefl _)
structure Turn (P : Program) (w : World) (K : PySem.W.Frag) (tg : Expr) (J : It) (fp : List Addr) (it : Addr) (tn : Nat → Heap → Prop) : Prop where
  mem : it ∈ fp
  obj : ∀ i h, tn i h → ∀ b ∈ fp, ∃ o, h.get? b = some o ∧ ∀ v, o.data ≠ .cell v
  keep : ∀ i h h', tn i h → (∀ b ∈ fp, ∀ o, h.get? b = some o → h'.get? b = some o) → tn i h'
  item : ∀ (X : Cx), X.prog = P → X.w = w → X.K = K → X.calm = true → ∀ (i : Nat) (pins : List (Addr × Obj)) (s : Shared) (σ : St) (H : Hp) (E : Value → Shared → Prop), Inv X pins σ H s → (∀ b ∈ fp, FpOk X pins H b) → tn i s.heap → J.go i H →
    wpAny (model P w) X.A (pyNext (.ref it)) (fun r s1 => ∃ u, r = some u ∧
      wpAny (model P w) X.A (letOwnedTupleGo tg (.ref it) u) (fun _ s2 => ∃ x H', Inv X pins σ H' s2 ∧ RelV x u ∧ J.yld i H x H' ∧ tn (i + 1) s2.heap ∧ ∀ b ∈ fp, H' b = none) E s1) E s
  done : ∀ (X : Cx), X.prog = P → X.w = w → X.K = K → X.calm = true → ∀ (i : Nat) (pins : List (Addr × Obj)) (s : Shared) (σ : St) (H : Hp) (E : Value → Shared → Prop), Inv X pins σ H s → (∀ b ∈ fp, FpOk X pins H b) → tn i s.heap → J.stop i H →
    wpAny (model P w) X.A (pyNext (.ref it)) (fun r s1 => r = none ∧ Inv X pins σ H s1) E s
  self : ∀ (A : Around) (i : Nat) (s : Shared) (Q : Value → Shared → Prop) (E : Value → Shared → Prop), tn i s.heap → Q (.ref it) s → wpAny (model P w) A (pyIter (.ref it)) Q E s
abbrev TI := St → Hp → (It → Hp → Prop) → Prop
/-- an iterator has come -/
def PIE (X : Cx) (pins : List (Addr × Obj)) (σ : St) (tg : Expr) (R : It → Hp → Prop) (itv : Value) (s2 : Shared) : Prop :=
  ∃ (it : Addr) (fp : List Addr) (tn : Nat → Heap → Prop) (J : It) (H' : Hp), itv = .ref it ∧ Inv X pins σ H' s2 ∧ Turn X.prog X.w X.K tg J fp it tn ∧ tn 0 s2.heap ∧ (∀ b ∈ fp, FpOk X pins H' b) ∧ R J H'
def PI (X : Cx) (tg iter : Expr) (wi : TI) : Prop :=
  ∀ (pins : List (Addr × Obj)) (s : Shared) (σ : St) (H : Hp) (R : It → Hp → Prop), Inv X pins σ H s → wi σ H R →
    wpAny (model X.prog X.w) X.A (eval iter X.env) (fun v s1 => wpAny (model X.prog X.w) X.A (pyIter v) (PIE X pins σ tg R) X.xe s1) X.xe s

/-- the step ahead of the store is nothing for an iterator that keeps no tuple -/
theorem go_of {M : Model} {A : Around} {E : Value → Shared → Prop} {s : Shared} {tg : Expr} {it : Addr} {u : Value} {o : Obj} {n : String} {vs : Array Value} {Q : Unit → Shared → Prop} (ho : s.heap.get? it = some o) (hc : o.cls = .type n) (hd : o.data = .fields vs)
    (hn : ["enumerate", "zip", "dict_itemiterator", "dict_reverseitemiterator", "odict_iterator", "itertools.zip_longest", "itertools.pairwise"].contains n = false) (hQ : Q () s) : wpAny M A (letOwnedTupleGo tg (.ref it) u) Q E s := by
  unfold letOwnedTupleGo
  cases tg <;> first
    | exact wpAny_pure hQ
    | (cases u <;> first
        | exact wpAny_pure hQ
        | (refine wpAny_bind (wpAny_load ho ?_)
           rw [hc, hd]
           show wpAny M A (if (["enumerate", "zip", "dict_itemiterator", "dict_reverseitemiterator", "odict_iterator", "itertools.zip_longest", "itertools.pairwise"].contains n && vs[0]? == some (rawInt _)) = true then _ else _) Q E s
           rw [if_neg (by intro h; rw [hn, Bool.false_and] at h; cases h)]
           exact wpAny_pure hQ))

/-- the list at a, as it stands at each turn (a loop may append to it) -/
def Itl (K : PySem.W.Frag) (a : Addr) : It :=
  ⟨fun i H => ∃ xs x, SqL K H a xs ∧ xs[i]? = some x, fun i H x H' => H' = H ∧ ∀ xs, SqL K H a xs → xs[i]? = some x, fun i H => ∃ xs, SqL K H a xs ∧ xs.length ≤ i⟩
def Itt (K : PySem.W.Frag) (a : Addr) : It :=
  ⟨fun i H => ∃ xs x, SqT K H a xs ∧ xs[i]? = some x, fun i H x H' => H' = H ∧ ∀ xs, SqT K H a xs → xs[i]? = some x, fun i H => ∃ xs, SqT K H a xs ∧ xs.length ≤ i⟩
/-- lo, lo + 1, .. (n of them) -/
def Itr (lo : Int) (n : Nat) : It := ⟨fun i _ => i < n, fun i H x H' => H' = H ∧ x = .int (lo + i), fun i _ => n ≤ i⟩
theorem turn_list {P : Program} {w : World} {K : PySem.W.Frag} {tg : Expr} (a it : Addr) : Turn P w K tg (Itl K a) [it] it (fun i h => h.IsListIter it a i) where
  mem := by simp
  obj := fun i h st b hb => by
    have e : b = it := by simpa using hb
    subst e
    obtain ⟨o, e, c, d⟩ := st
    exact ⟨o, e, fun v z => by rw [d] at z; cases z⟩
  keep := fun i h h' st k => st.at fun o e => k it (by simp) o e
  item := by
    intro X hP hw hK hc i pins s σ H E I hf st hg
    subst hP hw hK
    obtain ⟨xs, x, hq, hx⟩ := hg
    obtain ⟨its, rv, p, hz⟩ := I.list hq
    obtain ⟨u, hu, ru⟩ := rv.get hx
    obtain ⟨f0, f1, f2, f3, f4, f5⟩ := hf it (by simp)
    refine wpAny_pyNext_list_item st p.isList (x := u) (by simpa using hu) fun h' st' sb => ?_
    have I1 : Inv X pins σ H { s with heap := h' } := I.turned (t' := s.toks) (fun b o hb e => (sb.2 b hb).trans e) f0 f1 f3 f4 f5
    obtain ⟨o, e, c, d⟩ := id st'
    exact ⟨u, rfl, go_of (s := { s with heap := h' }) e c d (by decide) ⟨x, H, I1, ru, ⟨rfl, fun ys hy => by rw [I.list_inj hy hq]; exact hx⟩, st', fun b hb => (hf b hb).1⟩⟩
  done := by
    intro X hP hw hK hc i pins s σ H E I hf st hg
    subst hP hw hK
    obtain ⟨xs, hq, hx⟩ := hg
    obtain ⟨its, rv, p, hz⟩ := I.list hq
    obtain ⟨f0, f1, f2, f3, f4, f5⟩ := hf it (by simp)
    have hl := rv.length
    exact wpAny_pyNext_list_end (I.ok.hd hc) st p.isList (by simp; omega) fun h' eb => ⟨rfl, I.turned (t' := s.toks) (fun b o hb e => eb b o hb e) f0 f1 f3 f4 f5⟩
  self := fun _ _ _ _ _ st h => wpAny_pyIter_listiter st h
theorem turn_range {P : Program} {w : World} {K : PySem.W.Frag} {tg : Expr} (it : Addr) (lo : Int) (n : Nat) : Turn P w K tg (Itr lo n) [it] it (fun i h => IsRangeIter h it (lo + (i : Nat) * 1) ((n : Int) - (i : Nat)) 1) where
  mem := by simp
  obj := fun i h st b hb => by
    have e : b = it := by simpa using hb
    subst e
    exact ⟨_, st, fun v z => by
      have z' : Data.fields _ = Data.cell v := z
      cases z'⟩
  keep := fun i h h' st k => k it (by simp) _ st
  item := by
    intro X hP hw hK hc i pins s σ H E I hf st hg
    subst hP hw hK
    obtain ⟨f0, f1, f2, f3, f4, f5⟩ := hf it (by simp)
    have W := Walks.range (prog := X.prog) (w := X.w) (I.ok.hd hc) it lo 1 n
    refine W.item i s _ _ hg st fun v h' tk hv st' kk => ?_
    obtain ⟨t, rfl⟩ := hv
    have I1 : Inv X pins σ H { s with heap := h', toks := tk } := I.turned (fun b o hb e => kk b o (by simpa using hb) e) f0 f1 f3 f4 f5
    refine ⟨_, rfl, go_of (s := { s with heap := h', toks := tk }) (n := "range_iterator") st' rfl rfl (by decide) ⟨.int (lo + i), H, I1, ⟨t, ?_⟩, ⟨rfl, rfl⟩, st', fun b hb => (hf b hb).1⟩⟩
    rw [Int.mul_one]
  done := by
    intro X hP hw hK hc i pins s σ H E I hf st hg
    subst hP hw hK
    obtain ⟨f0, f1, f2, f3, f4, f5⟩ := hf it (by simp)
    exact wpAny_pyNext_range_end (I.ok.hd hc) st (by have : n ≤ i := hg; omega) fun h' eb => ⟨rfl, I.turned (t' := s.toks) (fun b o hb e => eb b o hb e) f0 f1 f3 f4 f5⟩
  self := fun _ _ _ _ _ st h => wpAny_pyIter_rangeiter st h
end L2

namespace L2
open PySem PySem.Spec PyProof.Rows
section
variable {X : Cx} {tg : Expr}
def iList (K : PySem.W.Frag) (tl : TE) : TI := fun σ H R => tl σ H fun x H1 => ∃ a, x = .ref a ∧ (∃ xs, SqL K H1 a xs) ∧ R (Itl K a) H1
def iTup (K : PySem.W.Frag) (tl : TE) : TI := fun σ H R => tl σ H fun x H1 => ∃ a, x = .ref a ∧ (∃ xs, SqT K H1 a xs) ∧ R (Itt K a) H1
theorem pi_list {l : Expr} {tl : TE} (hl : PE X l tl) : PI X tg l (iList X.K tl) := by
  intro pins s σ H R I h
  refine thn (hl pins s σ H _ I h) fun v s1 ⟨x, H1, I1, r1, q1⟩ => ?_
  obtain ⟨a, e, ⟨xs, hq⟩, q⟩ := q1
  subst e
  cases r1
  obtain ⟨its, rv, p, hz⟩ := I1.list hq
  refine wpAny_pyIter_list p.isList ?_
  refine ⟨s1.heap.objs.size, [s1.heap.objs.size], _, _, H1, rfl, I1.kept (t' := s1.toks) fun b o e => Heap.get?_push_of_some _ e, turn_list a _, ⟨_, Heap.get?_push_size _ rfl, rfl, rfl⟩, fun b hb => ?_, q⟩
  have e : b = s1.heap.objs.size := by simpa using hb
  subst e
  exact I1.fpOk (Nat.le_refl _) (I1.hok.fresh (Nat.le_refl _))
/-- a range object just made, walked -/
theorem range_it {pins : List (Addr × Obj)} {σ : St} {H : Hp} {s : Shared} {R : It → Hp → Prop} {E : Value → Shared → Prop} {lo hi : Int} {t u v : Tok} {tk : Nat} (I : Inv X pins σ H s) (h1 : -(2 ^ 62) ≤ lo) (h2 : lo < 2 ^ 62) (h3 : -(2 ^ 62) ≤ hi) (h4 : hi < 2 ^ 62)
    (q : R (Itr lo (hi - lo).toNat) H) : wpAny (model X.prog X.w) X.A (pyIter (.ref s.heap.objs.size)) (PIE X pins σ tg R) E { s with heap := s.heap.push { cls := .type "range", data := .fields #[.int lo t, .int hi u, .int 1 v] }, toks := tk } := by
  refine wpAny_pyIter_range (IsRange.new ..) (small_one h1 h2 h3 h4) ?_
  have I1 : Inv X pins σ H { s with heap := s.heap.push { cls := .type "range", data := .fields #[.int lo t, .int hi u, .int 1 v] }, toks := tk } := I.kept fun b o e => Heap.get?_push_of_some _ e
  refine ⟨(s.heap.push { cls := .type "range", data := .fields #[.int lo t, .int hi u, .int 1 v] }).objs.size, [(s.heap.push { cls := .type "range", data := .fields #[.int lo t, .int hi u, .int 1 v] }).objs.size], _, _, H, rfl,
    I1.kept (t' := tk) fun b o e => Heap.get?_push_of_some _ e, turn_range _ lo (hi - lo).toNat, ?_, fun b hb => ?_, q⟩
  · have e1 : lo + ((0 : Nat) : Int) * 1 = lo := by simp
    have e2 : (((hi - lo).toNat : Nat) : Int) - ((0 : Nat) : Int) = Builtin.Range.rangeSize lo hi 1 := by rw [rangeSize_one]; split <;> omega
    show IsRangeIter _ _ (lo + ((0 : Nat) : Int) * 1) ((((hi - lo).toNat : Nat) : Int) - ((0 : Nat) : Int)) 1
    rw [e1, e2]
    exact Heap.get?_push_size _ rfl
  · have e : b = (s.heap.push { cls := .type "range", data := .fields #[.int lo t, .int hi u, .int 1 v] }).objs.size := by simpa using hb
    subst e
    exact I1.fpOk (Nat.le_refl _) (I1.hok.fresh (Nat.le_refl _))
def iRng1 (ta : TA) : TI := fun σ H R => ta σ H fun vs H1 => ∃ j : Int, vs = [.int j] ∧ -(2 ^ 62) ≤ j ∧ j < 2 ^ 62 ∧ R (Itr 0 j.toNat) H1
def iRng2 (ta : TA) : TI := fun σ H R => ta σ H fun vs H1 => ∃ i j : Int, vs = [.int i, .int j] ∧ (-(2 ^ 62) ≤ i ∧ i < 2 ^ 62 ∧ -(2 ^ 62) ≤ j ∧ j < 2 ^ 62) ∧ R (Itr i (j - i).toNat) H1
theorem pi_range1 {a : Expr} {ta : TA} {p pos : Pos} (hg : Gl X "range") (hm : X.mg "range" = none) (ha : PA X [a] ta) (hs : starEach [a] X.env = [(false, eval a X.env)] := by rfl) : PI X tg (.Call (.Name "range" p) [a] [] pos) (iRng1 ta) := by
  intro pins s σ H R I h
  refine Call_ (ld_blt I hg hm boot_range (PyProof.Rows.callWith_type1 (thn (ha pos pins s σ H _ I h) fun us s1 ⟨vs, H1, I1, r1, q1⟩ => ?_) hs rfl))
  obtain ⟨j, e, q1, q2, q⟩ := q1
  subst e
  cases r1 with
  | cons r rr =>
    cases rr
    obtain ⟨t, rfl⟩ := r
    exact call_range_1 (range_it I1 (by omega) (by omega) q1 q2 (by simpa using q))

/-! ### for -/
/-- W: the invariant by the turn and a measure; N: what the body is to reach -/
def tFor (wi : TI) (g : TG) (tb : TS) : TS := fun D σ H => wi σ H fun J H1 => ∃ W : Nat → Nat → St → Hp → Prop, (∃ m, W 0 m σ H1) ∧ ∀ i m σ H, W i m σ H →
  (J.stop i H ∧ D.nx σ H) ∨ (J.go i H ∧ ∃ N : St → Hp → Prop, (∀ σ' H', N σ' H' → ∃ m', m' < m ∧ W (i + 1) m' σ' H') ∧ ∀ x H', J.yld i H x H' → g x σ H' fun σ2 H2 => tb { D with nx := N, ct := N, bk := D.nx } σ2 H2)
/-- the records at fp as they stand -/
def pinsAt (fp : List Addr) (h : Heap) : List (Addr × Obj) := fp.filterMap fun b => (h.get? b).map fun o => (b, o)
theorem mem_pinsAt {fp : List Addr} {h : Heap} {b : Addr} {o : Obj} (hb : b ∈ fp) (e : h.get? b = some o) : (b, o) ∈ pinsAt fp h := List.mem_filterMap.mpr ⟨b, hb, by rw [e]; rfl⟩
theorem of_pinsAt {fp : List Addr} {h : Heap} {p : Addr × Obj} (hp : p ∈ pinsAt fp h) : p.1 ∈ fp ∧ h.get? p.1 = some p.2 := by
  obtain ⟨b, hb, e⟩ := List.mem_filterMap.mp hp
  cases q : h.get? b with
  | none => rw [q] at e; cases e
  | some o =>
    rw [q] at e
    have e' : (b, o) = p := Option.some.inj e
    subst e'
    exact ⟨hb, q⟩
theorem Inv.pinned {pins : List (Addr × Obj)} {σ : St} {H : Hp} {s : Shared} {fp : List Addr} (I : Inv X pins σ H s) (hf : ∀ b ∈ fp, FpOk X pins H b) (ho : ∀ b ∈ fp, ∃ o, s.heap.get? b = some o ∧ ∀ v, o.data ≠ .cell v) : Inv X (pins ++ pinsAt fp s.heap) σ H s :=
  I.pins_of fun p hp => (List.mem_append.mp hp).elim (fun z => I.pin p (List.mem_append_right _ z)) fun z => by
    obtain ⟨hb, e⟩ := of_pinsAt z
    obtain ⟨f0, f1, f2, _⟩ := hf p.1 hb
    obtain ⟨o, e', d⟩ := ho p.1 hb
    rw [e] at e'; cases e'
    exact ⟨e, f0, f1, f2, d⟩
theorem Inv.unpinned {pins pl : List (Addr × Obj)} {σ : St} {H : Hp} {s : Shared} (I : Inv X (pins ++ pl) σ H s) : Inv X pins σ H s := I.pins_of fun p hp => I.pin p (List.mem_append_right _ (List.mem_append_left _ hp))
theorem ps_for {iter : Expr} {body : List Stmt} {wi : TI} {g : TG} {tb : TS} {pos : Pos} (hp : PassesOwn (model X.prog X.w) X.A X.env X.xe) (hc : X.calm = true) (hi : PI X tg iter wi) (hg : PG X tg g) (hb : PSs X body tb)
    (hs : ∀ x, foldedSetIterable iter X.env x = pure x := by intro _; rfl) : PS X (.For tg iter body [] pos) (tFor wi g tb) := by
  intro pins s σ H D I h
  refine wpAny_For (thn (hi pins s σ H _ I h) fun v s1 h1 => thn h1 fun itv s2 h2 => ?_) hs
  obtain ⟨it, fp, tn, J, H2, e, I2, T, st2, f2, W, ⟨m0, w0⟩, turn⟩ := h2
  subst e
  -- what stays true of the iterator's objects through the loop
  have stat : ∀ {H' : Hp}, (∀ b ∈ fp, H' b = none) → ∀ b ∈ fp, FpOk X pins H' b := fun hn b hb => ⟨hn b hb, (f2 b hb).2⟩
  refine codeAny_forLoop_any (fun n s' => ∃ i σ' H', Inv X pins σ' H' s' ∧ tn i s'.heap ∧ (∀ b ∈ fp, H' b = none) ∧ W i n σ' H') ?_ m0 ⟨0, σ, H2, I2, st2, fun b hb => (f2 b hb).1, w0⟩
  rintro n s3 ⟨i, σ3, H3, I3, st3, fr3, w3⟩
  rcases turn i n σ3 H3 w3 with ⟨stop, qn⟩ | ⟨go, N, hN, step⟩
  · refine wpAny_passesOwn hp (thn (T.done X rfl rfl rfl hc i pins s3 σ3 H3 X.xe I3 (stat fr3) st3 stop) fun r s4 ⟨hr, I4⟩ => ?_)
    subst hr
    exact wpAny_execs_nil ⟨σ3, H3, I4, qn⟩
  · refine wpAny_passesOwn hp (thn (T.item X rfl rfl rfl hc i pins s3 σ3 H3 X.xe I3 (stat fr3) st3 go) fun r s4 ⟨u, hr, h4⟩ => ?_)
    subst hr
    refine wpAny_passesOwn hp (thn h4 fun _ s5 ⟨x, H5, I5, r5, y5, st5, fr5⟩ => ?_)
    have I5' := I5.pinned (stat fr5) (T.obj _ _ st5)
    refine wpAny_passesOwn hp (thn (hg _ s5 σ3 H5 x u _ I5' r5 (step x H5 y5)) fun _ s6 ⟨σ6, H6, I6, q6⟩ => ?_)
    refine wpAny_passesOwn hp (thn (hb _ s6 σ6 H6 _ I6 q6) fun f s7 q7 => ?_)
    have again : ∀ {σ7 : St} {H7 : Hp}, Inv X (pins ++ pinsAt fp s5.heap) σ7 H7 s7 → N σ7 H7 → ∃ m, m < n ∧ ∃ i σ' H', Inv X pins σ' H' s7 ∧ tn i s7.heap ∧ (∀ b ∈ fp, H' b = none) ∧ W i m σ' H' := fun {σ7 H7} I7 n7 => by
      obtain ⟨m', hm, w7⟩ := hN σ7 H7 n7
      refine ⟨m', hm, i + 1, σ7, H7, I7.unpinned, T.keep _ _ _ st5 fun b hb o e => (I7.pin (b, o) (List.mem_append_right _ (List.mem_append_right _ (mem_pinsAt hb e)))).1, fun b hb => ?_, w7⟩
      obtain ⟨o, e, d⟩ := T.obj _ _ st5 b hb
      exact (I7.pin (b, o) (List.mem_append_right _ (List.mem_append_right _ (mem_pinsAt hb e)))).2.1
    cases f with
    | next => obtain ⟨σ7, H7, I7, n7⟩ := q7; exact again I7 n7
    | cont => obtain ⟨σ7, H7, I7, n7⟩ := q7; exact again I7 n7
    | brk => obtain ⟨σ7, H7, I7, q7⟩ := q7; exact ⟨σ7, H7, I7.unpinned, q7⟩
    | ret v => obtain ⟨x7, σ7, H7, I7, r7, q7⟩ := q7; exact ⟨x7, σ7, H7, I7.unpinned, r7, q7⟩
end

/-! ### the forms one uses -/
/-- over a list that the body leaves as it is -/
theorem for_list {K : PySem.W.Frag} {a : Addr} {xs : List V} {g : TG} {tb : TS} {D : Ends} {σ : St} {H : Hp} (Pv : Nat → St → Hp → Prop) (h0 : Pv 0 σ H) (hl : ∀ i σ H, i ≤ xs.length → Pv i σ H → SqL K H a xs)
    (hs : ∀ i x σ H, xs[i]? = some x → Pv i σ H → g x σ H fun σ2 H2 => tb { D with nx := Pv (i + 1), ct := Pv (i + 1), bk := D.nx } σ2 H2) (hd : ∀ σ H, Pv xs.length σ H → D.nx σ H) :
    ∃ W : Nat → Nat → St → Hp → Prop, (∃ m, W 0 m σ H) ∧ ∀ i m σ H, W i m σ H →
      ((Itl K a).stop i H ∧ D.nx σ H) ∨ ((Itl K a).go i H ∧ ∃ N : St → Hp → Prop, (∀ σ' H', N σ' H' → ∃ m', m' < m ∧ W (i + 1) m' σ' H') ∧ ∀ x H', (Itl K a).yld i H x H' → g x σ H' fun σ2 H2 => tb { D with nx := N, ct := N, bk := D.nx } σ2 H2) := by
  refine ⟨fun i m σ H => m = xs.length - i ∧ i ≤ xs.length ∧ Pv i σ H, ⟨xs.length, by simp, Nat.zero_le _, h0⟩, ?_⟩
  rintro i m σ H ⟨rfl, hi, p⟩
  have q := hl i σ H hi p
  by_cases hlt : i < xs.length
  · refine .inr ⟨⟨xs, xs[i], q, by simp [hlt]⟩, Pv (i + 1), fun σ' H' p' => ⟨xs.length - (i + 1), by omega, rfl, hlt, p'⟩, fun x H' y => ?_⟩
    obtain ⟨e, y⟩ := y
    subst e
    exact hs i x σ _ (y xs q) p
  · have e : i = xs.length := by omega
    subst e
    exact .inl ⟨⟨xs, q, Nat.le_refl _⟩, hd σ H p⟩
/-- while, by a word and a measure of the state -/
theorem while_by {c : TT} {tb : TS} {D : Ends} {σ : St} {H : Hp} (Pv : St → Hp → Prop) (μ : St → Hp → Nat) (h0 : Pv σ H)
    (hs : ∀ σ H, Pv σ H → c σ H fun b H1 => if b = true then tb { D with nx := fun σ' H' => Pv σ' H' ∧ μ σ' H' < μ σ H, ct := fun σ' H' => Pv σ' H' ∧ μ σ' H' < μ σ H, bk := D.nx } σ H1 else D.nx σ H1)
    (mono : ∀ σ H Q Q', (∀ b H1, Q b H1 → Q' b H1) → c σ H Q → c σ H Q') : tWhile c tb D σ H := by
  refine ⟨fun m σ H => m = μ σ H ∧ Pv σ H, ⟨_, rfl, h0⟩, ?_⟩
  rintro m σ H ⟨rfl, p⟩
  refine mono σ H _ _ (fun b H1 q => ?_) (hs σ H p)
  cases b with
  | true => exact ⟨_, fun σ' H' ⟨p', l⟩ => ⟨_, l, rfl, p'⟩, q⟩
  | false => exact q
end L2

namespace L2
open PySem PySem.Spec PyProof.Rows

abbrev R2 := V → V → Hp → VK → Prop
/-- a two-place operation on values: f is binaryOp op, inplaceOp op or compareOp op -/
def OpR (X : Cx) (f : Value → Value → Sem Value) (r : R2) : Prop :=
  ∀ (pins : List (Addr × Obj)) (s : Shared) (σ : St) (H : Hp) (x y : V) (v u : Value) (Q : VK), Inv X pins σ H s → RelV x v → RelV y u → r x y H Q →
    wpAny (model X.prog X.w) X.A (f v u) (EP X pins σ Q) X.xe s
/-- a one-place operation -/
def UnR (X : Cx) (f : Value → Sem Value) (r : V → Hp → VK → Prop) : Prop :=
  ∀ (pins : List (Addr × Obj)) (s : Shared) (σ : St) (H : Hp) (x : V) (v : Value) (Q : VK), Inv X pins σ H s → RelV x v → r x H Q →
    wpAny (model X.prog X.w) X.A (f v) (EP X pins σ Q) X.xe s
/-- a call of a value that is known (a builtin, a type) with values -/
def CallR (X : Cx) (f : Value) (r : List V → Hp → VK → Prop) : Prop :=
  ∀ (pins : List (Addr × Obj)) (s : Shared) (σ : St) (H : Hp) (xs : List V) (us : List Value) (Q : VK), Inv X pins σ H s → Vals xs us → r xs H Q →
    wpAny (model X.prog X.w) X.A (call f us) (EP X pins σ Q) X.xe s
/-- a value's truth -/
def TruR (X : Cx) (r : V → Hp → (Bool → Hp → Prop) → Prop) : Prop :=
  ∀ (pins : List (Addr × Obj)) (s : Shared) (σ : St) (H : Hp) (x : V) (v : Value) (Q : Bool → Hp → Prop), Inv X pins σ H s → RelV x v → r x H Q →
    wpAny (model X.prog X.w) X.A (truthy v) (TP X pins σ Q) X.xe s

def tOp (r : R2) (ta tb : TE) : TE := fun σ H Q => ta σ H fun x H1 => tb σ H1 fun y H2 => r x y H2 Q
def tUn (r : V → Hp → VK → Prop) (ta : TE) : TE := fun σ H Q => ta σ H fun x H1 => r x H1 Q
/-- ints in, under C, and a value out -/
def rI (C : Int → Int → Prop) (g : Int → Int → V) : R2 := fun x y H Q => ∃ i j, x = .int i ∧ y = .int j ∧ C i j ∧ Q (g i j) H
def rI0 (g : Int → Int → V) : R2 := fun x y H Q => ∃ i j, x = .int i ∧ y = .int j ∧ Q (g i j) H
def rU (g : Int → V) : V → Hp → VK → Prop := fun x H Q => ∃ i, x = .int i ∧ Q (g i) H

section
variable {X : Cx} {a b c : Expr} {ta tb tc : TE} {pos : Pos}

theorem binT (ha : PE X a ta) (hb : PE X b tb) {pins : List (Addr × Obj)} {s : Shared} {σ : St} {H : Hp} {R : V → V → Hp → Prop} (I : Inv X pins σ H s)
    (h : ta σ H fun x H1 => tb σ H1 fun y H2 => R x y H2) {Q : Value → Shared → Prop} {f : Value → Value → Sem Value}
    (hf : ∀ v u s2 x y H2, Inv X pins σ H2 s2 → RelV x v → RelV y u → R x y H2 → wpAny (model X.prog X.w) X.A (f v u) Q X.xe s2) :
    wpAny (model X.prog X.w) X.A (eval a X.env) (fun v s₁ => wpAny (model X.prog X.w) X.A (eval b X.env) (fun u s₂ => wpAny (model X.prog X.w) X.A (f v u) Q X.xe s₂) X.xe s₁) X.xe s := by
  refine thn (ha pins s σ H _ I h) fun v s1 ⟨x, H1, I1, r1, q1⟩ => ?_
  refine thn (hb pins s1 σ H1 _ I1 q1) fun u s2 ⟨y, H2, I2, r2, q2⟩ => ?_
  exact hf v u s2 x y H2 I2 r1 r2 q2

theorem pe_op {op : Operator} {r : R2} (ho : OpR X (binaryOp op) r) (ha : PE X a ta) (hb : PE X b tb) : PE X (.BinOp a op b pos) (tOp r ta tb) := by
  intro pins s σ H Q I h
  exact wpAny_BinOp (binT ha hb I h fun v u s2 x y H2 I2 rx ry q => ho pins s2 σ H2 x y v u Q I2 rx ry q)
theorem pe_un {op : UnaryOp} {r : V → Hp → VK → Prop} (ho : UnR X (unaryOp op) r) (ha : PE X a ta) : PE X (.UnaryOp op a pos) (tUn r ta) := by
  intro pins s σ H Q I h
  exact UnaryOp_ (thn (ha pins s σ H _ I h) fun v s1 ⟨x, H1, I1, r1, q1⟩ => ho pins s1 σ H1 x v Q I1 r1 q1)

/-! ### ints -/
theorem opI {f : Value → Value → Sem Value} {C : Int → Int → Prop} {g : Int → Int → Int}
    (rule : ∀ (i j : Int) (t u : Tok) (s : Shared) (Q : Value → Shared → Prop) (E : Value → Shared → Prop), C i j → Q (.int (g i j) s.toks) { s with toks := s.toks + 1 } → wpAny (model X.prog X.w) X.A (f (.int i t) (.int j u)) Q E s) :
    OpR X f (rI C fun i j => .int (g i j)) := by
  intro pins s σ H x y v u Q I rx ry h
  obtain ⟨i, j, rfl, rfl, hc, q⟩ := h
  obtain ⟨t, rfl⟩ := rx
  obtain ⟨t', rfl⟩ := ry
  exact rule i j t t' s _ _ hc ⟨.int (g i j), H, I.tok _, ⟨_, rfl⟩, q⟩
theorem opI0 {f : Value → Value → Sem Value} {g : Int → Int → Int}
    (rule : ∀ (i j : Int) (t u : Tok) (s : Shared) (Q : Value → Shared → Prop) (E : Value → Shared → Prop), Q (.int (g i j) s.toks) { s with toks := s.toks + 1 } → wpAny (model X.prog X.w) X.A (f (.int i t) (.int j u)) Q E s) :
    OpR X f (rI0 fun i j => .int (g i j)) := by
  intro pins s σ H x y v u Q I rx ry h
  obtain ⟨i, j, rfl, rfl, q⟩ := h
  obtain ⟨t, rfl⟩ := rx
  obtain ⟨t', rfl⟩ := ry
  exact rule i j t t' s _ _ ⟨.int (g i j), H, I.tok _, ⟨_, rfl⟩, q⟩
theorem opB0 {f : Value → Value → Sem Value} {g : Int → Int → Bool}
    (rule : ∀ (i j : Int) (t u : Tok) (s : Shared) (Q : Value → Shared → Prop) (E : Value → Shared → Prop), Q (.bool (g i j)) s → wpAny (model X.prog X.w) X.A (f (.int i t) (.int j u)) Q E s) :
    OpR X f (rI0 fun i j => .bl (g i j)) := by
  intro pins s σ H x y v u Q I rx ry h
  obtain ⟨i, j, rfl, rfl, q⟩ := h
  obtain ⟨t, rfl⟩ := rx
  obtain ⟨t', rfl⟩ := ry
  exact rule i j t t' s _ _ ⟨.bl (g i j), H, I, rfl, q⟩

def CDiv (i j : Int) : Prop := 0 < j ∧ j < 1073741824
def CDivN (i j : Int) : Prop := j ≠ 0 ∧ j.natAbs < 1073741824
def CPow (i j : Int) : Prop := 0 ≤ j ∧ j ≤ 1000000 ∧ i.natAbs < 2 ^ 64
def CMul (i j : Int) : Prop := (-(2 ^ 64) < i ∧ i < 2 ^ 64) ∨ (-(2 ^ 64) < j ∧ j < 2 ^ 64)
theorem CMul.ok {i j : Int} (h : CMul i j) : IntMulOk i j := by
  rcases h with ⟨h1, h2⟩ | ⟨h1, h2⟩
  · exact .of_left (intBits_le_64 h1 h2)
  · exact .of_right (intBits_le_64 h1 h2)

theorem op_add : OpR X (binaryOp .Add) (rI0 fun i j => .int (i + j)) := opI0 fun _ _ _ _ _ _ _ q => add_int q
theorem op_sub : OpR X (binaryOp .Sub) (rI0 fun i j => .int (i - j)) := opI0 fun _ _ _ _ _ _ _ q => sub_int q
theorem op_mul : OpR X (binaryOp .Mult) (rI CMul fun i j => .int (i * j)) := opI fun _ _ _ _ _ _ _ hc q => mul_int q hc.ok
/-- // by a positive divisor -/
theorem op_fdiv : OpR X (binaryOp .FloorDiv) (rI CDiv fun i j => .int (i / j)) := opI fun i j _ _ _ _ _ hc q => by
  have h1 : (0 : Int) < j := hc.1
  have h2 : j < 1073741824 := hc.2
  exact floordiv_int (by omega) (by rw [Int.fdiv_eq_ediv_of_nonneg i (by omega)]; exact q) (.inl (PyProof.noPylong_small (by omega)))
/-- % by a positive divisor of any size -/
theorem op_mod : OpR X (binaryOp .Mod) (rI (fun _ j => 0 < j) fun i j => .int (i % j)) := opI fun i j _ _ _ _ _ hc q => by
  have h1 : (0 : Int) < j := hc
  exact mod_int' (by omega) (by rw [Int.fmod_eq_emod_of_nonneg i (by omega)]; exact q)
theorem op_pow : OpR X (binaryOp .Pow) (rI CPow fun i j => .int (i ^ j.toNat)) := opI fun _ _ _ _ _ _ _ hc q => pow_int_small hc.1 hc.2.1 hc.2.2 q


theorem unI {f : Value → Sem Value} {g : Int → Int}
    (rule : ∀ (i : Int) (t : Tok) (s : Shared) (Q : Value → Shared → Prop) (E : Value → Shared → Prop), Q (.int (g i) s.toks) { s with toks := s.toks + 1 } → wpAny (model X.prog X.w) X.A (f (.int i t)) Q E s) :
    UnR X f (rU fun i => .int (g i)) := by
  intro pins s σ H x v Q I rx h
  obtain ⟨i, rfl, q⟩ := h
  obtain ⟨t, rfl⟩ := rx
  exact rule i t s _ _ ⟨.int (g i), H, I.tok _, ⟨_, rfl⟩, q⟩
theorem un_neg : UnR X (unaryOp .USub) (rU fun i => .int (-i)) := unI fun _ _ _ _ _ q => neg_int q

/-! ### bools among ints: n += (a < b) -/
end

/-! ### comparisons -/
/-- the scalars that == tells apart as data does -/
def scal : V → V → Bool
  | .non, .non => true | .non, .int _ => true | .int _, .non => true | .non, .bl _ => true | .bl _, .non => true | .non, .str _ => true | .str _, .non => true
  | .int _, .int _ => true | .bl _, .bl _ => true | .str _, .str _ => true | .byt _, .byt _ => true
  | .int _, .str _ => true | .str _, .int _ => true | .bl _, .str _ => true | .str _, .bl _ => true
  | _, _ => false
def rEq : R2 := fun x y H Q => scal x y = true ∧ Q (.bl (decide (x = y))) H
def rNe : R2 := fun x y H Q => scal x y = true ∧ Q (.bl (!decide (x = y))) H

theorem dec_int {i j : Int} : decide (V.int i = V.int j) = (i == j) := by
  rw [Bool.eq_iff_iff]
  simp
theorem dec_bl {i j : Bool} : decide (V.bl i = V.bl j) = (i == j) := by
  rw [Bool.eq_iff_iff]
  simp
theorem dec_str {i j : Str} : decide (V.str i = V.str j) = (i == j) := by
  rw [Bool.eq_iff_iff]
  simp
theorem dec_byt {i j : Array UInt8} : decide (V.byt i = V.byt j) = (i.toList == j.toList) := by
  rw [Bool.eq_iff_iff]
  cases i
  cases j
  simp

section
variable {X : Cx} {a b c : Expr} {ta tb tc : TE} {pos : Pos}
theorem fin_bl {pins : List (Addr × Obj)} {σ : St} {H : Hp} {s : Shared} {Q : VK} {k k' : Bool} (I : Inv X pins σ H s) (q : Q (.bl k) H) (e : k = k') : EP X pins σ Q (.bool k') s := by
  subst e
  exact ⟨.bl k, H, I, rfl, q⟩
theorem op_eq : OpR X (compareOp .Eq) rEq := by
  intro pins s σ H x y v u Q I rx ry h
  obtain ⟨hs, q⟩ := h
  cases x with
  | non =>
    cases rx
    cases y with
    | non => cases ry; exact PySem.EqNone.eq_none_none (fin_bl I q (by simp))
    | bl j => cases ry; exact PySem.EqNone.eq_none_bool (fin_bl I q (by simp))
    | int j => obtain ⟨t', rfl⟩ := ry; exact PySem.EqNone.eq_none_int (fin_bl I q (by simp))
    | str j => obtain ⟨t', rfl⟩ := ry; exact PySem.EqNone.eq_none_str (fin_bl I q (by simp))
    | _ => exact absurd (show false = true from hs) Bool.false_ne_true
  | bl i =>
    cases rx
    cases y with
    | non => cases ry; exact PySem.EqNone.eq_bool_none (fin_bl I q (by simp))
    | bl j => cases ry; exact eq_bool (fin_bl I q dec_bl)
    | str j => obtain ⟨t', rfl⟩ := ry; exact PySem.EqMixed.eq_bool_str (fin_bl I q (by simp))
    | _ => exact absurd (show false = true from hs) Bool.false_ne_true
  | int i =>
    obtain ⟨t, rfl⟩ := rx
    cases y with
    | non => cases ry; exact PySem.EqNone.eq_int_none (fin_bl I q (by simp))
    | int j => obtain ⟨t', rfl⟩ := ry; exact eq_int (fin_bl I q dec_int)
    | str j => obtain ⟨t', rfl⟩ := ry; exact PySem.EqMixed.eq_int_str (fin_bl I q (by simp))
    | _ => exact absurd (show false = true from hs) Bool.false_ne_true
  | str i =>
    obtain ⟨t, rfl⟩ := rx
    cases y with
    | non => cases ry; exact PySem.EqNone.eq_str_none (fin_bl I q (by simp))
    | bl j => cases ry; exact PySem.EqMixed.eq_str_bool (fin_bl I q (by simp))
    | int j => obtain ⟨t', rfl⟩ := ry; exact PySem.EqMixed.eq_str_int (fin_bl I q (by simp))
    | str j => obtain ⟨t', rfl⟩ := ry; exact eq_str (fin_bl I q dec_str)
    | _ => exact absurd (show false = true from hs) Bool.false_ne_true
  | byt i =>
    obtain ⟨t, rfl⟩ := rx
    cases y with
    | byt j => obtain ⟨t', rfl⟩ := ry; exact PySem.W.eq_bytes (fin_bl I q dec_byt)
    | _ => exact absurd (show false = true from hs) Bool.false_ne_true
  | _ => cases y <;> exact absurd (show false = true from hs) Bool.false_ne_true
theorem op_ne : OpR X (compareOp .NotEq) rNe := by
  intro pins s σ H x y v u Q I rx ry h
  obtain ⟨hs, q⟩ := h
  cases x with
  | non =>
    cases rx
    cases y with
    | non => cases ry; exact PySem.EqNone.ne_none_none (fin_bl I q (by simp))
    | bl j => cases ry; exact PySem.EqNone.ne_none_bool (fin_bl I q (by simp))
    | int j => obtain ⟨t', rfl⟩ := ry; exact PySem.EqNone.ne_none_int (fin_bl I q (by simp))
    | str j => obtain ⟨t', rfl⟩ := ry; exact PySem.EqNone.ne_none_str (fin_bl I q (by simp))
    | _ => exact absurd (show false = true from hs) Bool.false_ne_true
  | bl i =>
    cases rx
    cases y with
    | non => cases ry; exact PySem.EqNone.ne_bool_none (fin_bl I q (by simp))
    | bl j => cases ry; exact ne_bool (fin_bl I q (congrArg not dec_bl))
    | str j => obtain ⟨t', rfl⟩ := ry; exact PySem.EqMixed.ne_bool_str (fin_bl I q (by simp))
    | _ => exact absurd (show false = true from hs) Bool.false_ne_true
  | int i =>
    obtain ⟨t, rfl⟩ := rx
    cases y with
    | non => cases ry; exact PySem.EqNone.ne_int_none (fin_bl I q (by simp))
    | int j => obtain ⟨t', rfl⟩ := ry; exact ne_int (fin_bl I q (congrArg not dec_int))
    | str j => obtain ⟨t', rfl⟩ := ry; exact PySem.EqMixed.ne_int_str (fin_bl I q (by simp))
    | _ => exact absurd (show false = true from hs) Bool.false_ne_true
  | str i =>
    obtain ⟨t, rfl⟩ := rx
    cases y with
    | non => cases ry; exact PySem.EqNone.ne_str_none (fin_bl I q (by simp))
    | bl j => cases ry; exact PySem.EqMixed.ne_str_bool (fin_bl I q (by simp))
    | int j => obtain ⟨t', rfl⟩ := ry; exact PySem.EqMixed.ne_str_int (fin_bl I q (by simp))
    | str j => obtain ⟨t', rfl⟩ := ry; exact ne_str (fin_bl I q (congrArg not dec_str))
    | _ => exact absurd (show false = true from hs) Bool.false_ne_true
  | byt i =>
    obtain ⟨t, rfl⟩ := rx
    cases y with
    | byt j => obtain ⟨t', rfl⟩ := ry; exact PySem.W.ne_bytes (fin_bl I q (congrArg not dec_byt))
    | _ => exact absurd (show false = true from hs) Bool.false_ne_true
  | _ => cases y <;> exact absurd (show false = true from hs) Bool.false_ne_true

theorem op_lt : OpR X (compareOp .Lt) (rI0 fun i j => .bl (decide (i < j))) := opB0 fun _ _ _ _ _ _ _ q => lt_int q
theorem op_gt : OpR X (compareOp .Gt) (rI0 fun i j => .bl (decide (j < i))) := opB0 fun _ _ _ _ _ _ _ q => gt_int q


/-- is, is not of two objects that are tracked lists or instances -/
def isObj : HO → Bool
  | .lst _ => true
  | .ins _ _ _ => true
  | _ => false


theorem nomark (b : Expr) {op : CmpOp} (h : op ≠ .In := by decide) (h2 : op ≠ .NotIn := by decide) : behindInMarks op b = false := by
  have e1 : (op == CmpOp.In) = false := by cases op <;> first | rfl | exact absurd rfl h
  have e2 : (op == CmpOp.NotIn) = false := by cases op <;> first | rfl | exact absurd rfl h2
  cases b <;> simp [behindInMarks, e1, e2]
/-- a comparison as a value; hm: nomark b, or (for in, not in) by with_unfolding_all rfl -/
theorem pe_cmpR {op : CmpOp} {r : R2} (ho : OpR X (compareOp op) r) (ha : PE X a ta) (hb : PE X b tb) (hm : behindInMarks op b = false) : PE X (.Compare a [op] [b] pos) (tOp r ta tb) := by
  intro pins s σ H Q I h
  exact wpAny_Compare1 (binT ha hb I h fun v u s2 x y H2 I2 rx ry q => ho pins s2 σ H2 x y v u Q I2 rx ry q) hm
/-- a reading of a value as a test -/
def tTest (t : TE) : TT := fun σ H Q => t σ H fun x H' => ∃ k, x = .bl k ∧ Q k H'
theorem pt_cmpR {op : CmpOp} {r : R2} (ho : OpR X (compareOp op) r) (ha : PE X a ta) (hb : PE X b tb) (hm : behindInMarks op b = false) : PT X (.Compare a [op] [b] pos) (tTest (tOp r ta tb)) := by
  intro pins s σ H Q I h
  refine wpAny_isTrue_Compare1 (thn (ha pins s σ H _ I h) fun v s1 ⟨x, H1, I1, r1, q1⟩ => thn (hb pins s1 σ H1 _ I1 q1) fun u s2 ⟨y, H2, I2, r2, q2⟩ =>
    thn (ho pins s2 σ H2 x y v u _ I2 r1 r2 q2) fun c s3 ⟨z, H3, I3, r3, k, e, q3⟩ => ?_) hm
  subst e
  cases r3
  exact wpAny_truthy_bool ⟨H3, I3, q3⟩
/-- a op1 b op2 c -/
def tChain (r r' : R2) (ta tb tc : TE) : TE := fun σ H Q => ta σ H fun x H1 => tb σ H1 fun y H2 => r x y H2 fun z H3 => ∃ k, z = .bl k ∧
  (if k = true then tc σ H3 fun w' H4 => r' y w' H4 Q else Q (.bl false) H3)

/-! ### truth -/
/-- a value's truth by the abstract heap -/
def TruV (K : PySem.W.Frag) (x : V) (H : Hp) (k : Bool) : Prop :=
  match x with
  | .non => k = false
  | .bl b => k = b
  | .int i => k = (i != 0)
  | .str y => y.length ≤ sizeLine ∧ k = ((y.length : Int) != 0)
  | .byt y => y.size ≤ sizeLine ∧ k = ((y.size : Int) != 0)
  | .ref p => (∃ xs, SqL K H p xs ∧ k = !xs.isEmpty) ∨ (∃ xs, SqT K H p xs ∧ k = !xs.isEmpty) ∨ ∃ kvs, H p = some (.dK kvs) ∧ k = !kvs.isEmpty
  | _ => False
theorem line63 : (sizeLine : Nat) < 2 ^ 63 := by rw [sizeLine_eq]; decide

/-! ### strs and bytes -/
theorem op_add_str : OpR X (binaryOp .Add) (fun x y H Q => ∃ i j, x = .str i ∧ y = .str j ∧ i.length + j.length ≤ sizeLine ∧ Q (.str (i ++ j)) H) := by
  intro pins s σ H x y v u Q I rx ry h
  obtain ⟨i, j, rfl, rfl, hz, q⟩ := h
  obtain ⟨t, rfl⟩ := rx
  obtain ⟨t', rfl⟩ := ry
  exact add_str (fun t' tk => ⟨.str (i ++ j), H, I.tok _, ⟨_, rfl⟩, q⟩) hz

def PlainIxT (b : Expr) : Prop := ∀ o i, subscripted b false o i = operate [o, i] (getItem o i)

/-! ### scalar builtins, by CallR -/
theorem vals1 {x : V} {us : List Value} (r : Vals [x] us) : ∃ u, us = [u] ∧ RelV x u := by
  cases r with
  | cons r1 r2 => cases r2; exact ⟨_, rfl, r1⟩
theorem vals2 {x y : V} {us : List Value} (r : Vals [x, y] us) : ∃ u w', us = [u, w'] ∧ RelV x u ∧ RelV y w' := by
  cases r with
  | cons r1 r2 =>
    cases r2 with
    | cons r3 r4 => cases r4; exact ⟨_, _, rfl, r1, r3⟩
/-- len of a str, a bytes, a list, a tuple -/
def LenV (K : PySem.W.Frag) (x : V) (H : Hp) (n : Nat) : Prop :=
  match x with
  | .str y => y.length ≤ sizeLine ∧ n = y.length
  | .byt y => y.size ≤ sizeLine ∧ n = y.size
  | .ref p => (∃ xs, SqL K H p xs ∧ n = xs.length) ∨ ∃ xs, SqT K H p xs ∧ n = xs.length
  | _ => False
end
end L2

namespace L2
open PySem PySem.Spec PyProof.Rows

/-! ### an instance, its attributes a map -/
structure ObjM (h : Heap) (x dx C : Addr) (mA : Str → Option Value) : Prop where
  obj : h.get? x = some (PySem.W.instObj C dx)
  ns : h.Ns1 dx mA
  ne : dx ≠ x

theorem lookIn_ns {h : Heap} {dx : Addr} {mA : Str → Option Value} (n : h.Ns1 dx mA) : ∃ od, h.get? dx = some od ∧ ∀ name, PySem.W.lookIn name od = some (mA name) := by
  obtain ⟨o, es, ep, ho, hd, hk, _, hm⟩ := n
  refine ⟨o, ho, fun name => ?_⟩
  have e := hm name
  unfold nsFind findBy at e
  rw [← Array.find?_toList] at e
  unfold PySem.W.lookIn
  rw [hd]
  dsimp only
  split
  · rename_i y q
    rw [q] at e
    exact congrArg some e
  · rename_i q
    rw [q] at e
    have a : es.toList.any (·.refKey) = false := by
      rw [List.any_eq_false]
      intro y hy
      obtain ⟨z, t, hkey⟩ := hk y (Array.mem_toList_iff.mp hy)
      simp [DictEntry.refKey, hkey]
    have a' : ¬ es.toList.any (·.refKey) = true := by rw [a]; exact Bool.false_ne_true
    rw [if_neg a']
    exact congrArg some e

theorem ObjM.look {h : Heap} {x dx C : Addr} {mA : Str → Option Value} (I : ObjM h x dx C mA) : ∃ od, PySem.W.InstAt h x (PySem.W.instObj C dx) C (some od) ∧ ∀ name, PySem.W.lookIn name od = some (mA name) :=
  let ⟨od, ho, hl⟩ := lookIn_ns I.ns
  ⟨od, ⟨I.obj, rfl, rfl, ho⟩, hl⟩

section
variable {prog : Program} {w : World} {A : Around} {E : Value → Shared → Prop} {s : Shared} {K : PySem.W.Frag} {x dx C f : Addr} {mA : Str → Option Value} {name : Str} {v : Value}

theorem get_map {expr : Bool} {Q : Value → Shared → Prop} (X : K.In s.heap) (I : ObjM s.heap x dx C mA) (hg : PySem.W.plainGet K C name = true) (hh : PySem.W.hasDictIn K C = true)
    (ha : PySem.W.findIn K (.ref C) name = some none) (hv : mA name = some v) (hv' : PySem.W.handedIn v = true) (h : Q v { s with toks := s.toks + 1 }) :
    wpAny (model prog w) A (getAttr (.ref x) name expr) Q E s := by
  obtain ⟨od, J, hl⟩ := I.look
  exact PySem.W.get_value X J (PySem.W.plainGet_of hg).1 (PySem.W.findObj_own hh ha rfl (by rw [hl, hv])) hv' h



theorem set_map {ns : List Str} {Q : Unit → Shared → Prop} (X : K.In s.heap) (I : ObjM s.heap x dx C mA)
    (hs : PySem.W.findIn K (.ref C) "__setattr__" = some (some (.builtin "object.__setattr__"))) (hp : PySem.W.plainOver K C = true) (ht : PySem.W.takerIn K C name = some none) (hh : PySem.W.hasDictIn K C = true)
    (hw : PySem.Within mA ns) (hsz : ns.length ≤ sizeLine)
    (h : ∀ h', ObjM h' x dx C (fun y => if y = name then some v else mA y) → Heap.SameBut dx s.heap h' → Q () { s with heap := h', toks := s.toks + 2 }) :
    wpAny (model prog w) A (setAttr (.ref x) name v) Q E s := by
  obtain ⟨od, J, hl⟩ := I.look
  refine PySem.W.set_plain X J hs (PySem.W.osa_open (s := { s with toks := s.toks + 1 }) (r := none) X J hp ht fun b => ?_)
  obtain ⟨cd, hc, hd'⟩ := PySem.W.any_some hh
  have hx : s.heap.get? x = some ⟨.ref C, some dx, .plain, #[]⟩ := I.obj
  refine wpAny_bind (wpAny_pure (wpAny_bind (wpAny_bind (wpAny_loadPart hx (wpAny_bind (PySem.W.Looks.here (s := { s with toks := s.toks + 1 }) (PySem.W.looks_clsIn X hc) ?_))))))
  rw [hd']
  refine wpAny_pure (a := some dx) (wpAny_bind (wpAny_pure (wpAny_bind ?_)))
  refine wpAny_nsSet1 (s := { s with toks := s.toks + 1 }) I.ns fun h' hn2 hs2 => ?_
  obtain ⟨oD, esD, epD, hoD, hdD, hcD⟩ := hn2.count (PySem.Within.cons name v hw)
  refine wpAny_bind (wpAny_lookBehind hoD (by rw [hdD]; exact pastItsLine_dict (Nat.le_trans hcD (by rw [List.length_cons]; omega))) ?_)
  exact wpAny_pure (h _ ⟨(hs2.2 _ (Ne.symm I.ne)).trans I.obj, hn2, I.ne⟩ hs2)

/-- C(..): the dict at the heap's end, the instance behind it; then its __init__ -/
theorem make_map {R : Result → Shared → Prop} {vs : List Value} {kw : List (Str × Value)} (X : K.In s.heap) (hm : PySem.W.makesIn K C = true)
    (hi : PySem.W.findIn K (.ref C) "__init__" = some (some (.ref f))) (hf : PySem.W.typeIn K (.ref f) = some (.type "function"))
    (h : codeAny (model prog w) (A.under (.builtin "type.__call__" ⟨.ref C :: vs, kw⟩)) (.call (.ref f) ⟨.ref (s.heap.objs.size + 1) :: vs, kw⟩) (PySem.W.InitBack (s.heap.objs.size + 1) R)
      { s with heap := (s.heap.push PySem.W.emptyDict).push (PySem.W.instObj C s.heap.objs.size) }) :
    codeAny (model prog w) A (.call (.ref C) ⟨vs, kw⟩) R s := by
  obtain ⟨hh, g, d, t, os⟩ := s
  exact PySem.W.make_core (PySem.W.makes_of X hm) (PySem.W.looks_findIn X hi) (fun self => PySem.W.bind_fn X self hf) (.inl rfl) h
end

/-! ### the attributes as a list of pairs -/
def putF (f : Str) (v : V) : List (Str × V) → List (Str × V)
  | [] => [(f, v)]
  | (g, x) :: r => if g = f then (g, v) :: r else (g, x) :: putF f v r
theorem lookup_putF (f g : Str) (v : V) : ∀ fs : List (Str × V), (putF f v fs).lookup g = if g = f then some v else fs.lookup g
  | [] => by
    show List.lookup g [(f, v)] = _
    by_cases h : g = f
    · have hb : (g == f) = true := beq_iff_eq.mpr h
      simp only [List.lookup, hb, if_pos h]
    · have hb : (g == f) = false := beq_eq_false_iff_ne.mpr h
      simp only [List.lookup, hb, if_neg h]
  | (k, x) :: r => by
    have ih := lookup_putF f g v r
    rw [show putF f v ((k, x) :: r) = (if k = f then (k, v) :: r else (k, x) :: putF f v r) from rfl]
    by_cases hk : k = f
    · rw [if_pos hk]
      by_cases h : g = k
      · have hb : (g == k) = true := beq_iff_eq.mpr h
        simp only [List.lookup, hb, if_pos (h.trans hk)]
      · have hb : (g == k) = false := beq_eq_false_iff_ne.mpr h
        simp only [List.lookup, hb, if_neg (fun e : g = f => h (e.trans hk.symm))]
    · rw [if_neg hk]
      by_cases h : g = k
      · have hb : (g == k) = true := beq_iff_eq.mpr h
        simp only [List.lookup, hb, if_neg (fun e : g = f => hk (h.symm.trans e))]
      · have hb : (g == k) = false := beq_eq_false_iff_ne.mpr h
        simp only [List.lookup, hb]
        exact ih
theorem keys_putF (f : Str) (v : V) : ∀ fs : List (Str × V), f ∈ (putF f v fs).map (·.1) ∧ ∀ g, g ∈ fs.map (·.1) → g ∈ (putF f v fs).map (·.1)
  | [] => ⟨by simp [putF], fun g h => by simp at h⟩
  | (k, x) :: r => by
    obtain ⟨i1, i2⟩ := keys_putF f v r
    rw [show putF f v ((k, x) :: r) = (if k = f then (k, v) :: r else (k, x) :: putF f v r) from rfl]
    by_cases hk : k = f
    · rw [if_pos hk]
      subst hk
      exact ⟨by simp, fun g h => by simpa using h⟩
    · rw [if_neg hk]
      refine ⟨?_, fun g h => ?_⟩
      · rw [List.map_cons]
        exact List.mem_cons_of_mem _ i1
      · rw [List.map_cons] at h ⊢
        rcases List.mem_cons.mp h with e | e
        · exact List.mem_cons.mpr (.inl e)
        · exact List.mem_cons_of_mem _ (i2 g e)
theorem length_putF (f : Str) (v : V) : ∀ fs : List (Str × V), (putF f v fs).length ≤ fs.length + 1
  | [] => by simp [putF]
  | (k, x) :: r => by
    have ih := length_putF f v r
    rw [show putF f v ((k, x) :: r) = (if k = f then (k, v) :: r else (k, x) :: putF f v r) from rfl]
    by_cases hk : k = f
    · rw [if_pos hk, List.length_cons, List.length_cons]; omega
    · rw [if_neg hk, List.length_cons, List.length_cons]; omega

theorem RelO.some_of {v : V} {o : Option Value} (r : RelO (some v) o) : ∃ u, o = some u ∧ RelV v u := by
  cases o with
  | none => exact (show False from r).elim
  | some u => exact ⟨u, rfl, r⟩
theorem handed_of {v : V} {u : Value} (r : RelV v u) : PySem.W.handedIn u = true := by
  cases v with
  | non => cases (show u = Value.none from r); rfl
  | bl b => cases (show u = Value.bool b from r); rfl
  | int i => obtain ⟨t, e⟩ := (show ∃ t, u = Value.int i t from r); cases e; rfl
  | str x => obtain ⟨t, e⟩ := (show ∃ t, u = Value.str x t from r); cases e; rfl
  | byt b => obtain ⟨t, e⟩ := (show ∃ t, u = Value.bytes b t from r); cases e; rfl
  | flt b => obtain ⟨t, e⟩ := (show ∃ t, u = Value.float b t from r); cases e; rfl
  | ref a => cases (show u = Value.ref a from r); rfl
  | ty n => cases (show u = Value.type n from r); rfl

section
variable {P : Program} {w : World} {H H' : Hp} {h h' : Heap} {a C dx : Addr} {fs fs' : List (Str × V)}
theorem ins_get (hok : HOk P w H h) (e : H a = some (.ins C dx fs)) : ∃ mA, ObjM h a dx C mA ∧ (∀ f, RelO (fs.lookup f) (mA f)) ∧ PySem.Within mA (fs.map (·.1)) ∧ fs.length ≤ 1000 ∧ H dx = some (.own a) := by
  obtain ⟨d, z, ne, ob, mA, n, r, q⟩ := (show ObjOk P w H h a (.ins C dx fs) from hok a _ e)
  exact ⟨mA, ⟨ob, n, ne⟩, r, q, z, d⟩
end

/-! ### what of the text a class must have -/
structure Cls (K : PySem.W.Frag) (C : Addr) : Prop where
  pg : PySem.W.plainGet K C Str.empty = true
  hd : PySem.W.hasDictIn K C = true
  po : PySem.W.plainOver K C = true
  sa : PySem.W.findIn K (.ref C) "__setattr__" = some (some (.builtin "object.__setattr__"))
theorem Cls.get {K : PySem.W.Frag} {C : Addr} (c : Cls K C) (f : Str) : PySem.W.plainGet K C f = true := c.pg
/-- no class of it has the name -/
def NoAttr (K : PySem.W.Frag) (C : Addr) (f : Str) : Prop := PySem.W.findIn K (.ref C) f = some none
theorem NoAttr.taker {K : PySem.W.Frag} {C : Addr} {f : Str} (n : NoAttr K C f) : PySem.W.takerIn K C f = some none := by
  unfold PySem.W.takerIn
  rw [show PySem.W.findIn K (.ref C) f = some none from n]
  rfl
/-- a constant of the class -/
structure Con (K : PySem.W.Frag) (C : Addr) (f : Str) (v : V) (u : Value) : Prop where
  at_ : PySem.W.findIn K (.ref C) f = some (some u)
  rel : RelV v u
  get : PySem.W.specialIn K u "__get__" = some none
  cp : PySem.W.copiedNames.contains f = false
/-- a method: a plain def of the class or of one above it -/
structure Meth (K : PySem.W.Frag) (C : Addr) (m : Str) (f : Addr) : Prop where
  at_ : PySem.W.findIn K (.ref C) m = some (some (.ref f))
  fn : PySem.W.isFn K (.ref f) = true
  kp : PySem.W.keepIn K (.ref f) = true

section
variable {X : Cx} {pins : List (Addr × Obj)} {σ : St} {H : Hp} {s : Shared} {a C dx : Addr} {fs : List (Str × V)} {f : Str} {v : V} {A : Around} {E : Value → Shared → Prop}

theorem getattr_ok {b : Bool} {Q : Value → Shared → Prop} (I : Inv X pins σ H s) (e : H a = some (.ins C dx fs)) (c : Cls X.K C) (n : NoAttr X.K C f) (l : fs.lookup f = some v)
    (h : ∀ u s', Inv X pins σ H s' → RelV v u → Q u s') : wpAny (model X.prog X.w) A (getAttr (.ref a) f b) Q E s := by
  obtain ⟨mA, O, r, _, _, _⟩ := ins_get I.hok e
  obtain ⟨u, hu, ru⟩ := RelO.some_of (v := v) (o := mA f) (by rw [← l]; exact r f)
  exact get_map I.kIn O (c.get f) c.hd n hu (handed_of ru) (h u _ (I.tok _) ru)



theorem setattr_ok {y : V} {u : Value} {Q : Unit → Shared → Prop} (I : Inv X pins σ H s) (e : H a = some (.ins C dx fs)) (c : Cls X.K C) (n : NoAttr X.K C f) (hl : fs.length < 1000) (ry : RelV y u)
    (h : ∀ s', Inv X pins σ (upd H a (.ins C dx (putF f y fs))) s' → Q () s') : wpAny (model X.prog X.w) A (setAttr (.ref a) f u) Q E s := by
  obtain ⟨mA, O, r, wi, _, ho⟩ := ins_get I.hok e
  have hz : (fs.map (·.1)).length ≤ sizeLine := by rw [List.length_map, sizeLine_eq]; omega
  refine set_map I.kIn O c.sa c.po n.taker c.hd wi hz fun h' O' sb => h _ ?_
  have hd : ∃ o, h'.get? dx = some o := let ⟨o, _, _, e', _⟩ := O'.ns; ⟨o, e'⟩
  refine I.write (x := a) (e := dx) (by rw [e]; exact True.intro) (.inr ho) (fun b q hb z => (sb.2 b hb).trans z) hd ?_
  refine ⟨by rw [upd_ne O.ne]; exact ho, ?_, O.ne, O'.obj, _, O'.ns, fun g => ?_, fun g hg => ?_⟩
  · have := length_putF f y fs; omega
  · show RelO ((putF f y fs).lookup g) (if g = f then some u else mA g)
    rw [lookup_putF]
    by_cases q : g = f
    · rw [if_pos q, if_pos q]; exact ry
    · rw [if_neg q, if_neg q]; exact r g
  · by_cases q : g = f
    · rw [q]; exact (keys_putF f y fs).1
    · refine (keys_putF f y fs).2 g (wi g fun z => hg ?_)
      show (if g = f then some u else mA g) = none
      rw [if_neg q]; exact z

/-- a new instance, tracked, without attributes -/
theorem Inv.made (I : Inv X pins σ H s) : Inv X pins σ (upd (upd H s.heap.objs.size (.own (s.heap.objs.size + 1))) (s.heap.objs.size + 1) (.ins C s.heap.objs.size []))
    { s with heap := (s.heap.push PySem.W.emptyDict).push (PySem.W.instObj C s.heap.objs.size) } := by
  have e1 : (s.heap.push PySem.W.emptyDict).get? s.heap.objs.size = some PySem.W.emptyDict := Heap.get?_push_size s.heap rfl
  have e2 : ((s.heap.push PySem.W.emptyDict).push (PySem.W.instObj C s.heap.objs.size)).get? (s.heap.objs.size + 1) = some (PySem.W.instObj C s.heap.objs.size) := by
    have := Heap.get?_push_size (s.heap.push PySem.W.emptyDict) (o := PySem.W.instObj C s.heap.objs.size) rfl
    rwa [Heap.size_push] at this
  have e3 : (s.heap.push PySem.W.emptyDict).Ns s.heap.objs.size (fun _ => none) := ⟨PySem.W.emptyDict, #[], _, e1, rfl, (fun e he => absurd he (by simp)), fun _ => rfl⟩
  have I1 := I.laid (a := s.heap.objs.size) (o := .own (s.heap.objs.size + 1)) (h' := s.heap.push PySem.W.emptyDict) (t' := s.toks) (fun b u q => Heap.get?_push_of_some _ q) (Nat.le_refl _) ⟨_, e1⟩
  refine I1.laid (a := s.heap.objs.size + 1) (o := .ins C s.heap.objs.size []) (t' := s.toks) (fun b u q => Heap.get?_push_of_some _ q) (Nat.le_of_eq (Heap.size_push _ _)) ?_
  have ne : s.heap.objs.size ≠ s.heap.objs.size + 1 := Nat.ne_of_lt (Nat.lt_succ_self _)
  refine ⟨by rw [upd_ne ne, upd_same], Nat.zero_le _, ne, e2, fun _ => none, (Heap.Ns1.of_empty e3).at fun o q => Heap.get?_push_of_some _ q, fun _ => True.intro, fun y hy => absurd rfl hy⟩

/-- e.f where nothing but the object is asked: through attributeBase (super) and the last hold -/
theorem attr_of {prog : Program} {w : World} {env : Env} {e : Expr} {f : Str} {pos : Pos} {s : Shared} {Q : Value → Shared → Prop} (hb : attributeBase e f env (eval e env) = eval e env)
    (h : wpAny (model prog w) A (eval e env) (fun o s₁ => wpAny (model prog w) A (getAttr o f true) Q E s₁) E s) : wpAny (model prog w) A (eval (.Attribute e f pos) env) Q E s :=
  Attribute_any_ h (by rw [arm_eval_Attribute, hb])
end

/-! ### readings and rules -/
/-- e.f, an attribute of the instance -/
def tFld (K : PySem.W.Frag) (ta : TE) (f : Str) : TE := fun σ H Q => ta σ H fun x H1 => ∃ a C dx fs v, x = .ref a ∧ H1 a = some (.ins C dx fs) ∧ Cls K C ∧ NoAttr K C f ∧ fs.lookup f = some v ∧ Q v H1
/-- e.f, a constant of the class -/
def tCon (K : PySem.W.Frag) (ta : TE) (f : Str) : TE := fun σ H Q => ta σ H fun x H1 => ∃ a C dx fs v u, x = .ref a ∧ H1 a = some (.ins C dx fs) ∧ Cls K C ∧ Con K C f v u ∧ fs.lookup f = none ∧ Q v H1
/-- e.f = value -/
def sFld (K : PySem.W.Frag) (ta tv : TE) (f : Str) : TS := fun D σ H => tv σ H fun y H1 => ta σ H1 fun x H2 => ∃ a C dx fs, x = .ref a ∧ H2 a = some (.ins C dx fs) ∧ Cls K C ∧ NoAttr K C f ∧ fs.length < 1000 ∧
  D.nx σ (upd H2 a (.ins C dx (putF f y fs)))
/-- an augmented operator on two values -/
def InOp (X : Cx) (op : Operator) (rd : V → V → Hp → VK → Prop) : Prop :=
  ∀ (pins : List (Addr × Obj)) (s : Shared) (σ : St) (H : Hp) (x y : V) (u v : Value) (Q : VK), Inv X pins σ H s → RelV x u → RelV y v → rd x y H Q → wpAny (model X.prog X.w) X.A (inplaceOp op u v) (EP X pins σ Q) X.xe s
/-- e.f op= value -/
def sFldAug (K : PySem.W.Frag) (ta tv : TE) (rd : V → V → Hp → VK → Prop) (f : Str) : TS := fun D σ H => ta σ H fun x H1 => ∃ a C dx fs v, x = .ref a ∧ H1 a = some (.ins C dx fs) ∧ Cls K C ∧ NoAttr K C f ∧ fs.lookup f = some v ∧
  tv σ H1 fun y H2 => rd v y H2 fun z H3 => ∃ dx' fs', H3 a = some (.ins C dx' fs') ∧ fs'.length < 1000 ∧ D.nx σ (upd H3 a (.ins C dx' (putF f z fs')))

section
variable {X : Cx} {o e value : Expr} {f : Str} {pos pos' tpos : Pos} {ta tv : TE}
theorem pe_fld (he : PE X e ta) (hb : attributeBase e f X.env (eval e X.env) = eval e X.env) : PE X (.Attribute e f pos) (tFld X.K ta f) := by
  intro pins s σ H Q I h
  refine attr_of hb (thn (he pins s σ H _ I h) fun u s1 ⟨x, H1, I1, rx, a, C, dx, fs, v, ex, ea, c, n, l, q⟩ => ?_)
  subst ex
  obtain rfl : u = Value.ref a := rx
  exact getattr_ok I1 ea c n l fun u' s2 I2 ru => ⟨v, H1, I2, ru, q⟩
theorem ps_fld (ha : PE X o ta) (hv : PE X value tv) (hs : swapsWith value (some (.Attribute o f pos')) pos.line X.env = pure false) : PS X (.Assign [.Attribute o f pos'] value pos) (sFld X.K ta tv f) := by
  intro pins s σ H D I h
  refine plainObj_wpAny_Assign_Attribute (thn (hv pins s σ H _ I h) fun u s1 ⟨y, H1, I1, ry, q⟩ => thn (ha pins s1 σ H1 _ I1 q) fun ov s2 ⟨x, H2, I2, rx, a, C, dx, fs, ex, ea, c, n, l, q2⟩ => ?_) hs
  subst ex
  obtain rfl : ov = Value.ref a := rx
  exact setattr_ok I2 ea c n l ry fun s3 I3 => ⟨σ, _, I3, q2⟩
def rAdd : V → V → Hp → VK → Prop := fun x y H Q => ∃ i j, x = .int i ∧ y = .int j ∧ Q (.int (i + j)) H
def rSub : V → V → Hp → VK → Prop := fun x y H Q => ∃ i j, x = .int i ∧ y = .int j ∧ Q (.int (i - j)) H

end

/-! ### isinstance -/
section
variable {X : Cx} {pins : List (Addr × Obj)} {σ : St} {H : Hp} {s : Shared} {A : Around} {E : Value → Shared → Prop} {Q : Value → Shared → Prop} {c : Value} {b : Bool}
/-- the type of a value, as the fragment's deciders take it; for an instance its class -/
inductive TyOf (K : PySem.W.Frag) (H : Hp) : V → Value → Prop where
  | non : TyOf K H .non (.type "NoneType")
  | bl (x : Bool) : TyOf K H (.bl x) (.type "bool")
  | int (i : Int) : TyOf K H (.int i) (.type "int")
  | str (x : Str) : TyOf K H (.str x) (.type "str")
  | flt (x : UInt64) : TyOf K H (.flt x) (.type "float")
  | lst {a : Addr} {xs : List V} (e : H a = some (.lst xs)) : TyOf K H (.ref a) (.type "list")
  | frz {a : Addr} {o : Obj} {xs : List V} (e : H a = some (.frz o (.lst xs))) : TyOf K H (.ref a) (.type "list")
  | tup {a : Addr} {xs : List V} (e : H a = some (.tup xs)) : TyOf K H (.ref a) (.type "tuple")
  | dK {a : Addr} {kvs : List (Key × V)} (e : H a = some (.dK kvs)) : TyOf K H (.ref a) (.type "dict")
  | dT {a : Addr} {kvs : List (List Key × V)} (e : H a = some (.dT kvs)) : TyOf K H (.ref a) (.type "dict")
  | ins {a C dx : Addr} {fs : List (Str × V)} (e : H a = some (.ins C dx fs)) (cl : Cls K C) (ha : PySem.W.findIn K (.ref C) "__class__" = some (some (.builtin "object.__class__")))
      (hn : PySem.W.specialIn K (.builtin "object.__class__") "__get__" = some (some (.builtin "getset_descriptor.__get__"))) (htk : PySem.W.takesIn K (.builtin "object.__class__") = some true)
      (hm : PySem.W.mroIn K C (.type "object") = some true) : TyOf K H (.ref a) (.ref C)
/-- isinstance(x, c) for one class c, a built-in or an own one: kitOne's answer -/
theorem isinst_ok {x : V} {u t : Value} (I : Inv X pins σ H s) (rx : RelV x u) (ty : TyOf X.K H x t) (e : PySem.W.kitOne X.K t c = some b) (h : ∀ tk, Q (.bool b) { s with toks := tk }) :
    wpAny (model X.prog X.w) A (call (.builtin "isinstance") [u, c]) Q E s := by
  cases ty with
  | non => cases (show u = Value.none from rx); exact PySem.W.kia_one PySem.W.kitx_none I.kIn True.intro e (fun z => nomatch z) h
  | bl y => cases (show u = Value.bool y from rx); exact PySem.W.kia_one PySem.W.kitx_bool I.kIn True.intro e (fun z => nomatch z) h
  | int i => obtain ⟨t, q⟩ := (show ∃ t, u = Value.int i t from rx); cases q; exact PySem.W.kia_one PySem.W.kitx_int I.kIn True.intro e (fun z => nomatch z) h
  | str y => obtain ⟨t, q⟩ := (show ∃ t, u = Value.str y t from rx); cases q; exact PySem.W.kia_one PySem.W.kitx_str I.kIn True.intro e (fun z => nomatch z) h
  | flt y => obtain ⟨t, q⟩ := (show ∃ t, u = Value.float y t from rx); cases q; exact PySem.W.kia_one PySem.W.kitx_float I.kIn True.intro e (fun z => nomatch z) h
  | @lst a xs ea =>
    cases (show u = Value.ref a from rx)
    obtain ⟨_, _, n, _, h1⟩ := (show ObjOk X.prog X.w H s.heap a (.lst xs) from I.hok a _ ea)
    exact PySem.W.kia_one PySem.W.kitx_list I.kIn ⟨_, h1, rfl⟩ e (fun z => nomatch z) h
  | @frz a ob xs ea =>
    cases (show u = Value.ref a from rx)
    obtain ⟨_, _, _, n, _, h1⟩ := (show ObjOk X.prog X.w H s.heap a (.frz ob (.lst xs)) from I.hok a _ ea)
    exact PySem.W.kia_one PySem.W.kitx_list I.kIn ⟨_, h1, rfl⟩ e (fun z => nomatch z) h
  | @tup a xs ea =>
    cases (show u = Value.ref a from rx)
    obtain ⟨_, _, _, p⟩ := (show ObjOk X.prog X.w H s.heap a (.tup xs) from I.hok a _ ea)
    obtain ⟨o, h1, h2, _⟩ := p
    exact PySem.W.kia_one PySem.W.kitx_tuple I.kIn ⟨o, h1, h2⟩ e (fun z => nomatch z) h
  | @dK a kvs ea =>
    cases (show u = Value.ref a from rx)
    obtain ⟨_, _, vs, _, p⟩ := (show ObjOk X.prog X.w H s.heap a (.dK kvs) from I.hok a _ ea)
    obtain ⟨o, es, ep, h1, h2, _⟩ := p
    exact PySem.W.kia_one PySem.W.kitx_dict I.kIn ⟨o, h1, h2.1⟩ e (fun z => nomatch z) h
  | @dT a kvs ea =>
    cases (show u = Value.ref a from rx)
    obtain ⟨_, _, xs, _, o, es, ep, h1, h2, _⟩ := (show ObjOk X.prog X.w H s.heap a (.dT kvs) from I.hok a _ ea)
    exact PySem.W.kia_one PySem.W.kitx_dict I.kIn ⟨o, h1, h2.1⟩ e (fun z => nomatch z) h
  | @ins a C dx fs ea cl ha hn htk hm =>
    cases (show u = Value.ref a from rx)
    obtain ⟨mA, O, _⟩ := ins_get I.hok ea
    obtain ⟨od, J, _⟩ := O.look
    exact PySem.W.kia_one (PySem.W.kitx_own (cl.get _) cl.hd ha hn htk hm) I.kIn J e (fun z => nomatch z) h
end
end L2

namespace L2
open PySem PySem.Spec PyProof.Rows

/-! ### room -/
structure Room (k : Nat) (A : Around) : Prop where
  hd : A.handled = none
  dp : A.depth + 3 * k + 5 < recursionLimit
  un : A.units + 16 * k + 200 < cLine
theorem Room.mono {j k : Nat} {A : Around} (r : Room k A) (h : j ≤ k) : Room j A := ⟨r.hd, by have := r.dp; omega, by have := r.un; omega⟩
theorem Room.deeper {k : Nat} {A : Around} (r : Room (k + 1) A) (env : Env) : Room k (A.deeper env) :=
  ⟨r.hd, by have := r.dp; show A.depth + 1 + 3 * k + 5 < _; omega, by have := r.un; show A.units + 3 + 16 * k + 200 < _; omega⟩
theorem make_depth {A : Around} {C : Addr} {us : List Value} {kw : List (Str × Value)} : (A.under (.builtin "type.__call__" ⟨.ref C :: us, kw⟩)).depth = A.depth + 1 := by
  first | rfl | simp [Around.under, Code.weight, Code.isCreation, Code.isGuard, Code.isCaller, Code.frames, Code.isFrame, guardIds]
theorem make_units {A : Around} {C : Addr} {us : List Value} {kw : List (Str × Value)} : (A.under (.builtin "type.__call__" ⟨.ref C :: us, kw⟩)).units = A.units + 1 := by
  first | rfl | simp [Around.under, Code.cUnits, Code.frames, Code.isFrame]
theorem Room.make {k : Nat} {A : Around} (r : Room (k + 1) A) (C : Addr) (us : List Value) (kw : List (Str × Value)) : Room k (A.under (.builtin "type.__call__" ⟨.ref C :: us, kw⟩)) :=
  ⟨r.hd, by have := r.dp; rw [make_depth]; omega, by have := r.un; rw [make_units]; omega⟩
theorem Room.depth {k : Nat} {A : Around} (r : Room k A) : A.depth < recursionLimit := by have := r.dp; omega
theorem Room.units {k : Nat} {A : Around} (r : Room k A) : A.units + 64 < cLine := by have := r.un; omega

/-! ### argument lists and displays -/
def tNil : TA := fun _ H Q => Q [] H
def tCons (ta : TE) (tr : TA) : TA := fun σ H Q => ta σ H fun x H1 => tr σ H1 fun xs H2 => Q (x :: xs) H2
section
variable {X : Cx} {e : Expr} {es : List Expr} {te : TE} {t : TA} {pos : Pos}
theorem pa_nil : PA X [] tNil := fun _ _ _ _ H Q I h => Calls.spliced_nil ⟨[], H, I, .nil, h⟩
theorem pa_cons (ha : PE X e te) (hr : PA X es t) (hs : starEach (e :: es) X.env = (false, eval e X.env) :: starEach es X.env := by rfl) : PA X (e :: es) (tCons te t) := by
  intro pos pins s σ H Q I h
  rw [hs]
  show wpAny _ _ (spliced ((false, eval e X.env) :: backTo pos (starEach es X.env))) _ _ s
  refine Calls.spliced_cons (thn (ha pins s σ H _ I h) fun u s1 ⟨x, H1, I1, r1, q1⟩ => ?_)
  exact thn (hr pos pins s1 σ H1 _ I1 q1) fun us s2 ⟨xs, H2, I2, r2, q2⟩ => ⟨x :: xs, H2, I2, .cons r1 r2, q2⟩

/-- a tuple, a list of written items -/
def tTup (t : TA) : TE := fun σ H Q => t σ H fun xs H1 => xs.length ≤ sizeLine ∧ ∀ p, H1 p = none → Q (.ref p) (upd H1 p (.tup xs))
def tLst (t : TA) : TE := fun σ H Q => t σ H fun xs H1 => xs.length ≤ sizeLine ∧ ∀ p, H1 p = none → Q (.ref p) (upd H1 p (.lst xs))
theorem pe_tup {x1} (h : PA X es t) : PE X (.Tuple es x1 pos) (tTup t) := by
  intro pins s σ H Q I hq
  refine wpAny_Tuple_spliced (thn (h pos pins s σ H _ I hq) fun us s1 ⟨xs, H1, I1, r, z, q⟩ => ⟨by rw [← r.length]; exact z, ?_⟩)
  have hf : H1 s1.heap.objs.size = none := I1.hok.fresh (Nat.le_refl _)
  refine ⟨.ref s1.heap.objs.size, upd H1 s1.heap.objs.size (.tup xs), I1.laid (t' := s1.toks) (fun b u e => Heap.get?_push_of_some _ e) (Nat.le_refl _) ?_, rfl, q _ hf⟩
  exact ⟨z, us, r, ⟨_, Heap.get?_push_size _ rfl, rfl, _, rfl⟩⟩
theorem pe_lst (h : PA X es t) : PE X (.List es pos) (tLst t) := by
  intro pins s σ H Q I hq
  refine wpAny_List_spliced (thn (h pos pins s σ H _ I hq) fun us s1 ⟨xs, H1, I1, r, z, q⟩ => ⟨by rw [← r.length]; exact z, ?_⟩)
  have hf : H1 s1.heap.objs.size = none := I1.hok.fresh (Nat.le_refl _)
  refine ⟨.ref s1.heap.objs.size, upd H1 s1.heap.objs.size (.lst xs), I1.laid (t' := s1.toks) (fun b u e => Heap.get?_push_of_some _ e) (Nat.le_refl _) ?_, rfl, q _ hf⟩
  exact ⟨z, us, 0, r, Heap.get?_push_size _ rfl⟩
end

/-! ### what a def promises -/
/-- a def's promise: the bound arguments in the parameters' order, the heap, the wanted end, the wanted exception -/
abbrev Sp := List V → Hp → VK → XK → Prop
/-- how an exception lies behind a call (file 08 gives it): the callers' frames, abstract heap and state ahead of the call, the wish, the exception, the state -/
abbrev CXT := List Env → Hp → Shared → XK → Value → Shared → Prop

/-- the state at a call -/
structure Env0 (P : Program) (w : World) (K : PySem.W.Frag) (mg : Str → Option Value) (base : Heap) (A : Around) (outer : List Env) (s : Shared) (H : Hp) : Prop where
  frames : A.frames = some outer
  mod : Mod K mg base
  bs : ∀ b o, base.get? b = some o → s.heap.get? b = some o ∧ H b = none
  bsz : base.objs.size ≤ s.heap.objs.size
  funs : s.heap.FunFrames base outer
  frf : ∀ b ∈ frs outer, H b = none
  hok : HOk P w H s.heap
  bare : AllBare s.gens
/-- a call's end -/
def CE (outer : List Env) (P : Program) (w : World) (H : Hp) (s : Shared) (Q : VK) (u : Value) (s' : Shared) : Prop :=
  ∃ v H', s'.os = s.os ∧ AllBare s'.gens ∧ Un (frs outer) [] H H' s.heap s'.heap ∧ HOk P w H' s'.heap ∧ RelV v u ∧ Q v H'
def CR (CX : CXT) (outer : List Env) (P : Program) (w : World) (H : Hp) (s : Shared) (Q : VK) (E : XK) (r : Result) (s' : Shared) : Prop :=
  match r with
  | .ok (.ret u) => CE outer P w H s Q u s'
  | .ok _ => False
  | .error e => CX outer H s E e s'
structure FnOk (P : Program) (w : World) (K : PySem.W.Frag) (mg : Str → Option Value) (base : Heap) (CX : CXT) (k : Nat) (f : Addr) (fd : FuncData) (ps : List Str) (sp : Sp) : Prop where
  len : ∀ vs H Q E, sp vs H Q E → vs.length = ps.length
  run : ∀ (A : Around) (outer : List Env) (s : Shared) (H : Hp) (args : Args) (us : List Value) (vs : List V) (Q : VK) (E : XK), Room k A → Env0 P w K mg base A outer s H → BindsTo s fd args (ps.zip us) → Vals vs us → sp vs H Q E →
    codeAny (model P w) A (.call (.ref f) args) (CR CX outer P w H s Q E) s
theorem FnOk.mono {P : Program} {w : World} {K : PySem.W.Frag} {mg : Str → Option Value} {base : Heap} {CX : CXT} {j k : Nat} {f : Addr} {fd : FuncData} {ps : List Str} {sp : Sp} (F : FnOk P w K mg base CX j f fd ps sp) (h : j ≤ k) :
    FnOk P w K mg base CX k f fd ps sp := ⟨F.len, fun A outer s H args us vs Q E hr => F.run A outer s H args us vs Q E (hr.mono h)⟩

theorem Env0.make {P : Program} {w : World} {K : PySem.W.Frag} {mg : Str → Option Value} {base : Heap} {A : Around} {outer : List Env} {s : Shared} {H : Hp} (e : Env0 P w K mg base A outer s H) (C : Addr) (us : List Value) (kw : List (Str × Value)) :
    Env0 P w K mg base (A.under (.builtin "type.__call__" ⟨.ref C :: us, kw⟩)) outer s H := ⟨by first | exact e.frames | (simpa [Around.under, Code.envs, Code.isFrame, pushEnvs] using e.frames), e.mod, e.bs, e.bsz, e.funs, e.frf, e.hok, e.bare⟩

section
variable {X : Cx} {pins : List (Addr × Obj)} {σ : St} {H : Hp} {s s' : Shared}
/-- from a body: what a callee wants -/
theorem Inv.env0 (I : Inv X pins σ H s) : Env0 X.prog X.w X.K X.mg X.base X.A X.stack s H :=
  ⟨I.ok.frames, I.ok.mod, I.bs, Nat.le_trans I.ok.bsz I.sz, I.stack, I.stkFree, I.hok, I.bare⟩
/-- behind a call -/
theorem Inv.after {Q : VK} {u : Value} (I : Inv X pins σ H s) (h : CE X.stack X.prog X.w H s Q u s') : EP X pins σ Q u s' := by
  obtain ⟨v, H', os, bare, un, hok, r, q⟩ := h
  obtain ⟨hh, g, d, t, os'⟩ := s'
  obtain rfl : os' = s.os := os
  exact ⟨v, H', I.call (h' := hh) (g' := g) (d' := d) (t' := t) (ch := []) un hok bare (fun b z => absurd z (by simp)), r, q⟩
end

/-! ### calls -/
/-- f(..): the written arguments, then the defaults dvs; E: what is wanted of an exception -/
def tCall (sp : Sp) (dvs : List V) (E : XK) (t : TA) : TE := fun σ H Q => t σ H fun vs H1 => sp (vs ++ dvs) H1 Q E
/-- o.m(..) of an instance of the class at C -/
def tMeth (C : Addr) (m : Str) (sp : Sp) (dvs : List V) (E : XK) (ta : TE) (t : TA) : TE := fun σ H Q => ta σ H fun x H1 => ∃ a dx fs, x = .ref a ∧ H1 a = some (.ins C dx fs) ∧ fs.lookup m = none ∧
  t σ H1 fun vs H2 => sp (x :: (vs ++ dvs)) H2 Q E
/-- C(..): a new instance and its dict, then __init__ -/
def tMake (C : Addr) (sp : Sp) (dvs : List V) (E : XK) (t : TA) : TE := fun σ H Q => t σ H fun vs H1 => ∀ x dx, H1 x = none → H1 dx = none → dx ≠ x →
  sp (.ref x :: (vs ++ dvs)) (upd (upd H1 dx (.own x)) x (.ins C dx [])) (fun v H2 => v = .non ∧ Q (.ref x) H2) E

/-- how the parameters are bound: us the positional arguments, kw the keywords' values by name, ds the defaults that fill up -/
def Binds (K : PySem.W.Frag) (fd : FuncData) (ps : List Str) (ds : List Value) : Prop :=
  ∀ (s : Shared) (us : List Value), K.In s.heap → (us ++ ds).length = ps.length → BindsTo s fd ⟨us, []⟩ (ps.zip (us ++ ds))
/-- every parameter is given -/
theorem Binds.all {K : PySem.W.Frag} {fd : FuncData} {ps : List Str} (h : ∀ us : List Value, us.length = ps.length → bindArgs fd ⟨us, []⟩ = pure (ps.zip us)) : Binds K fd ps [] := fun s us _ hl => by
  rw [List.append_nil] at hl ⊢
  exact .of_eq (h us hl)

/-- an exception of a callee reaches what this body wants of exceptions -/
def Passes (CX : CXT) (X : Cx) (E : XK) : Prop := ∀ (pins : List (Addr × Obj)) (σ : St) (H : Hp) (s : Shared) (e : Value) (s' : Shared), Inv X pins σ H s → CX X.stack H s E e s' → X.xe e s'

section
variable {X : Cx} {CX : CXT} {k : Nat} {f C : Addr} {fd : FuncData} {ps : List Str} {sp : Sp} {dvs : List V} {ds : List Value} {E : XK} {x m : Str} {p pos apos : Pos} {e o : Expr} {es : List Expr} {ta : TE} {t : TA}

/-- the callee runs -/
theorem run_fn {pins : List (Addr × Obj)} {σ : St} {H : Hp} {s : Shared} {Q : VK} {us : List Value} {vs : List V} (F : FnOk X.prog X.w X.K X.mg X.base CX k f fd ps sp) (hr : Room k X.A) (hb : Binds X.K fd ps ds) (hd : Vals dvs ds) (hx : Passes CX X E)
    (I : Inv X pins σ H s) (r : Vals vs us) (h : sp (vs ++ dvs) H Q E) : wpAny (model X.prog X.w) X.A (call (.ref f) us) (EP X pins σ Q) X.xe s := by
  have r2 : Vals (vs ++ dvs) (us ++ ds) := r.append hd
  have hl : (us ++ ds).length = ps.length := by rw [← r2.length]; exact F.len _ _ _ _ h
  refine wpAny_call (codeAny_mono (F.run X.A X.stack s H ⟨us, []⟩ (us ++ ds) (vs ++ dvs) Q E hr I.env0 (hb s us I.kIn hl) r2 h) fun r s' hq => ?_)
  cases r with
  | error e => exact hx pins σ H s e s' I hq
  | ok fl =>
    cases fl with
    | ret u => exact I.after hq
    | next => exact False.elim hq
    | brk => exact False.elim hq
    | cont => exact False.elim hq

theorem pe_call (F : FnOk X.prog X.w X.K X.mg X.base CX k f fd ps sp) (hr : Room k X.A) (hg : Gl X x) (hm : X.mg x = some (.ref f)) (hk : PySem.W.keepIn X.K (.ref f) = true) (hb : Binds X.K fd ps ds) (hd : Vals dvs ds) (hx : Passes CX X E)
    (ha : PA X (e :: es) t) (hdb : (x == ("__debug__" : Str)) = false := by decide) (he : starEach (e :: es) X.env = (false, eval e X.env) :: starEach es X.env := by rfl) (hpl : (backTo pos (starEach es X.env)).any (·.1) = false := by rfl) :
    PE X (.Call (.Name x p) (e :: es) [] pos) (tCall sp dvs E t) := by
  intro pins s σ H Q I h
  refine wpAny_Call_Name_kw (ld_glob I hg hm ?_ hdb)
  refine PySem.W.callWith_K (h₀ := X.base) I.ok.mod.kin hk (thn (ha pos pins s σ H _ I h) fun us s1 ⟨vs, H1, I1, r, q⟩ => ⟨I1.kIn, ?_⟩) he hpl
  exact run_fn F hr hb hd hx I1 r q


/-- what a class must have to be made -/
structure Mk (K : PySem.W.Frag) (C f : Addr) : Prop where
  makes : PySem.W.makesIn K C = true
  init : PySem.W.findIn K (.ref C) "__init__" = some (some (.ref f))
  fn : PySem.W.isFn K (.ref f) = true
  kp : PySem.W.keepIn K (.ref C) = true

theorem run_make {pins : List (Addr × Obj)} {σ : St} {H : Hp} {s : Shared} {Q : VK} {us : List Value} {vs : List V} (M : Mk X.K C f) (F : FnOk X.prog X.w X.K X.mg X.base CX k f fd ps sp) (hr : Room (k + 1) X.A) (hb : Binds X.K fd ps ds) (hd : Vals dvs ds)
    (hx : Passes CX X E) (I : Inv X pins σ H s) (r : Vals vs us)
    (h : ∀ x dx, H x = none → H dx = none → dx ≠ x → sp (.ref x :: (vs ++ dvs)) (upd (upd H dx (.own x)) x (.ins C dx [])) (fun v H2 => v = .non ∧ Q (.ref x) H2) E) :
    wpAny (model X.prog X.w) X.A (call (.ref C) us) (EP X pins σ Q) X.xe s := by
  have hq := h (s.heap.objs.size + 1) s.heap.objs.size (I.hok.fresh (Nat.le_succ _)) (I.hok.fresh (Nat.le_refl _)) (Nat.ne_of_lt (Nat.lt_succ_self _))
  have I2 := Inv.made (C := C) I
  have r2 : Vals (V.ref (s.heap.objs.size + 1) :: (vs ++ dvs)) (Value.ref (s.heap.objs.size + 1) :: (us ++ ds)) := .cons rfl (r.append hd)
  have hl : (Value.ref (s.heap.objs.size + 1) :: us ++ ds).length = ps.length := by
    have e := r2.length
    rw [F.len _ _ _ _ hq] at e
    exact e.symm
  refine wpAny_call (make_map (f := f) I.kIn M.makes M.init (beq_iff_eq.mp M.fn) (codeAny_mono (F.run _ X.stack _ _ ⟨Value.ref (s.heap.objs.size + 1) :: us, []⟩ (Value.ref (s.heap.objs.size + 1) :: (us ++ ds)) _ _ E (hr.make C us [])
    (I2.env0.make C us []) (hb _ (Value.ref (s.heap.objs.size + 1) :: us) I2.kIn hl) r2 hq) fun r s' hq' => ?_))
  cases r with
  | error e => exact hx pins σ _ _ e s' I2 hq'
  | ok fl =>
    cases fl with
    | ret u =>
      obtain ⟨v, H', I3, rv, ev, q3⟩ := I2.after hq'
      subst ev
      exact ⟨rv, ⟨V.ref (s.heap.objs.size + 1), H', I3, rfl, q3⟩⟩
    | next => exact False.elim hq'
    | brk => exact False.elim hq'
    | cont => exact False.elim hq'
theorem pe_make (M : Mk X.K C f) (F : FnOk X.prog X.w X.K X.mg X.base CX k f fd ps sp) (hr : Room (k + 1) X.A) (hg : Gl X x) (hm : X.mg x = some (.ref C)) (hb : Binds X.K fd ps ds) (hd : Vals dvs ds) (hx : Passes CX X E)
    (ha : PA X (e :: es) t) (hdb : (x == ("__debug__" : Str)) = false := by decide) (he : starEach (e :: es) X.env = (false, eval e X.env) :: starEach es X.env := by rfl) (hpl : (backTo pos (starEach es X.env)).any (·.1) = false := by rfl) :
    PE X (.Call (.Name x p) (e :: es) [] pos) (tMake C sp dvs E t) := by
  intro pins s σ H Q I h
  refine wpAny_Call_Name_kw (ld_glob I hg hm ?_ hdb)
  refine PySem.W.callWith_K (h₀ := X.base) I.ok.mod.kin M.kp (thn (ha pos pins s σ H _ I h) fun us s1 ⟨vs, H1, I1, r, q⟩ => ⟨I1.kIn, ?_⟩) he hpl
  exact run_make M F hr hb hd hx I1 r q
end

/-! ### keywords -/
/-- the values of the keywords, from the left -/
def PK (X : Cx) (kws : List Keyword) (t : TA) : Prop :=
  ∀ (pos : Pos) (pins : List (Addr × Obj)) (s : Shared) (σ : St) (H : Hp) (Q : List V → Hp → Prop), Inv X pins σ H s → t σ H Q → wpAny (model X.prog X.w) X.A (evalAll ((backToKw pos (keywordEach kws X.env)).map (·.2))) (AP X pins σ Q) X.xe s
section
variable {X : Cx} {CX : CXT} {k : Nat} {f C : Addr} {fd : FuncData} {ps ks : List Str} {sp : Sp} {E : XK} {x m : Str} {p pos apos kpos : Pos} {e o : Expr} {es : List Expr} {kws : List Keyword} {te ta : TE} {t tk : TA} {nm : Option Str}
theorem pk_nil : PK X [] tNil := fun _ _ _ _ H Q I h => wpAny_evalAll_nil ⟨[], H, I, .nil, h⟩
theorem pk_cons (ha : PE X e te) (hr : PK X kws t) : PK X (⟨nm, e, kpos⟩ :: kws) (tCons te t) := by
  intro pos pins s σ H Q I h
  show wpAny _ _ (evalAll ((do let v ← eval e X.env; standAt pos; pure v) :: (backToKw pos (keywordEach kws X.env)).map (·.2))) _ _ s
  refine wpAny_evalAll_cons (wpAny_bind (thn (ha pins s σ H _ I h) fun u s1 ⟨x, H1, I1, r1, q1⟩ => wpAny_bind (wpAny_standAt (wpAny_pure ?_))))
  exact thn (hr pos pins s1 σ H1 _ I1 q1) fun us s2 ⟨xs, H2, I2, r2, q2⟩ => ⟨x :: xs, H2, I2, .cons r1 r2, q2⟩

/-- how a call with keywords binds: g puts the positional values us and the keywords' values ws (names ks) in the parameters' order, defaults among them -/
structure KBinds (K : PySem.W.Frag) (fd : FuncData) (ps ks : List Str) (g : List Value → List Value → List Value) (gV : List V → List V → List V) : Prop where
  to : ∀ (s : Shared) (us ws : List Value), K.In s.heap → (g us ws).length = ps.length → BindsTo s fd ⟨us, ks.zip ws⟩ (ps.zip (g us ws))
  rel : ∀ {vs : List V} {us : List Value} {zs : List V} {ws : List Value}, Vals vs us → Vals zs ws → Vals (gV vs zs) (g us ws)
def tCallK (sp : Sp) (gV : List V → List V → List V) (E : XK) (t tk : TA) : TE := fun σ H Q => t σ H fun vs H1 => tk σ H1 fun zs H2 => sp (gV vs zs) H2 Q E
variable {g : List Value → List Value → List Value} {gV : List V → List V → List V}
end

/-! ### a def's body keeps its promise -/
/-- names: the parameters first -/
structure FnScope (N P : List Str) (sc : Scope) : Prop where
  kind : sc.kind = .function
  co : sc.isCoroutine = false
  gen : sc.isGenerator = false
  nd : N.Nodup
  pre : N.take P.length = P
  par : ∀ x ∈ P, sc.names.lookup x = some .local ∨ sc.names.lookup x = some .cell
  nofree : ∀ y ∈ sc.names, y.2 ≠ .free

theorem bindL_out {kindOf : Str → Option NameKind} {x : Str} : ∀ {binds : List (Str × Value)} {m : Str → Option Value}, (∀ v, (x, v) ∉ binds) → bindL kindOf binds m x = m x
  | [], _, _ => rfl
  | (n, v) :: r, m, h => by
    unfold bindL
    rw [bindL_out fun w hw => h w (List.mem_cons_of_mem _ hw)]
    split
    · have : x ≠ n := by rintro rfl; exact h v List.mem_cons_self
      simp [this]
    · rfl
theorem bindC_out {kindOf : Str → Option NameKind} {x : Str} : ∀ {binds : List (Str × Value)} {m : Str → Option Value}, (∀ v, (x, v) ∉ binds) → bindC kindOf binds m x = m x
  | [], _, _ => rfl
  | (n, v) :: r, m, h => by
    unfold bindC
    rw [bindC_out fun w hw => h w (List.mem_cons_of_mem _ hw)]
    split
    · rfl
    · have : x ≠ n := by rintro rfl; exact h v List.mem_cons_self
      simp [this]
theorem bindL_get {kindOf : Str → Option NameKind} {x : Str} {v : Value} : ∀ {P : List Str} {vs : List Value} {i : Nat} {m : Str → Option Value}, P.Nodup → P[i]? = some x → vs[i]? = some v → kindOf x = some .local →
    bindL kindOf (P.zip vs) m x = some v
  | [], _, _, _, _, h, _, _ => by simp at h
  | _ :: _, [], _, _, _, _, h, _ => by simp at h
  | p :: P, w :: vs, 0, m, nd, h1, h2, hk => by
    simp at h1 h2; subst h1; subst h2
    show bindL kindOf ((p, w) :: P.zip vs) m p = _
    unfold bindL
    rw [bindL_out fun v hv => (List.nodup_cons.mp nd).1 (List.of_mem_zip hv).1, if_pos hk]
    simp
  | p :: P, w :: vs, i + 1, m, nd, h1, h2, hk => by
    show bindL kindOf ((p, w) :: P.zip vs) m x = _
    unfold bindL
    exact bindL_get (i := i) (List.nodup_cons.mp nd).2 (by simpa using h1) (by simpa using h2) hk
theorem bindC_get {kindOf : Str → Option NameKind} {x : Str} {v : Value} : ∀ {P : List Str} {vs : List Value} {i : Nat} {m : Str → Option Value}, P.Nodup → P[i]? = some x → vs[i]? = some v → kindOf x ≠ some .local →
    bindC kindOf (P.zip vs) m x = some v
  | [], _, _, _, _, h, _, _ => by simp at h
  | _ :: _, [], _, _, _, _, h, _ => by simp at h
  | p :: P, w :: vs, 0, m, nd, h1, h2, hk => by
    simp at h1 h2; subst h1; subst h2
    show bindC kindOf ((p, w) :: P.zip vs) m p = _
    unfold bindC
    rw [bindC_out fun v hv => (List.nodup_cons.mp nd).1 (List.of_mem_zip hv).1, if_neg hk]
    simp
  | p :: P, w :: vs, i + 1, m, nd, h1, h2, hk => by
    show bindC kindOf ((p, w) :: P.zip vs) m x = _
    unfold bindC
    exact bindC_get (i := i) (List.nodup_cons.mp nd).2 (by simpa using h1) (by simpa using h2) hk

/-- the names' values at the entry -/
def start (N : List Str) (vs : List V) : St := vs.map some ++ List.replicate (N.length - vs.length) none

/-- the context of a def's body, at its entry; an exception leaves the frame, then lies as CX says -/
def cxOf (CX : CXT) (P : Program) (w : World) (K : PySem.W.Frag) (mg : Str → Option Value) (base : Heap) (N : List Str) (qual : Str) (scope : Scope) (f : Addr) (cd : Value) (A : Around) (outer : List Env) (s : Shared) (H : Hp) (E : XK) : Cx where
  prog := P
  w := w
  K := K
  mg := mg
  base := base
  A := A.deeper (envOfC qual scope s.heap.objs.size f cd)
  N := N
  s₀ := s
  H₀ := H
  env := envOfC qual scope s.heap.objs.size f cd
  outer := outer
  stack := envOfC qual scope s.heap.objs.size f cd :: outer
  ex := []
  calm := true
  fn := fun _ => true
  pn := []
  xe := fun e s' => wpAny (model P w) (A.deeper (envOfC qual scope s.heap.objs.size f cd)) (leaving (envOfC qual scope s.heap.objs.size f cd) e) (fun _ s'' => CX outer H s E e s'') (fun e' s'' => CX outer H s E e' s'') s'

theorem cell_has {sc : Scope} {n : Nat} {x : Str} (h : sc.names.lookup x = some .cell) : ∃ c, (cellsFrom n sc.names []).lookup x = some c := by
  have q := PySem.W.cellsFrom_some sc.names n [] (.inl h)
  exact Option.isSome_iff_exists.mp q

theorem inv_start {CX : CXT} {P : Program} {w : World} {K : PySem.W.Frag} {mg : Str → Option Value} {base : Heap} {N ps : List Str} {qual : Str} {scope : Scope} {f : Addr} {cd : Value} {A : Around} {outer : List Env} {s s1 : Shared} {H : Hp} {E : XK} {us : List Value} {vs : List V}
    (S : FnScope N ps scope) (hd : A.handled = none) (e0 : Env0 P w K mg base A outer s H) (hl : vs.length = ps.length) (r : Vals vs us)
    (x : InCallC s s.heap.objs.size (bindL (envOfC qual scope s.heap.objs.size f cd).kindOf (ps.zip us) fun _ => none) (cellsFrom (s.heap.objs.size + 1) scope.names []) (bindC (envOfC qual scope s.heap.objs.size f cd).kindOf (ps.zip us) fun _ => none) s1) :
    Inv (cxOf CX P w K mg base N qual scope f cd A outer s H E) [] (start N vs) H s1 := by
  have hpl : ps.length ≤ N.length := by have := congrArg List.length S.pre; rw [List.length_take] at this; omega
  obtain ⟨h1, tk, rfl, hk⟩ := x.done
  have noA : ∀ b : Addr, b ∉ (cxOf CX P w K mg base N qual scope f cd A outer s H E).ex := fun b z => absurd (show b ∈ ([] : List Addr) from z) (by simp)
  refine ⟨⟨e0.mod, S.kind, rfl, rfl, Nat.le_refl _, fun y z c h1 h2 => ?_, fun y hy => ?_, fun y c _ h => ?_, fun _ => hd, Around.frames_deeper e0.frames, .inr ⟨rfl, rfl⟩, fun b z => absurd z (noA b), e0.bs, e0.bsz, fun b _ _ => noA b, fun b z => absurd z (noA b), e0.funs, e0.frf⟩,
    rfl, e0.bare, Un.kept hk, ⟨_, x.toInCall.ns, fun i y v h1 h2 h3 => ?_⟩, fun y c h => ⟨_, x.cell y c h⟩, e0.hok.fresh (Nat.le_refl _), fun y c h => ?_, fun p hp => absurd (show p ∈ ([] : List (Addr × Obj)) from hp) (by simp), e0.hok.kept hk, ?_⟩
  · exact name_of_addr x.apart (PySem.mem_of_lookup h1) (PySem.mem_of_lookup h2)
  · have hy : scope.names.lookup y = some .cell ∨ scope.names.lookup y = some .free := hy
    rcases hy with hy | hy
    · exact cell_has hy
    · exact absurd rfl (S.nofree _ (PySem.mem_of_lookup hy))
  · exact Nat.le_of_lt (x.above y c (PySem.mem_of_lookup h))
  · have hi : i < vs.length := by
      unfold start at h2
      by_cases hi : i < vs.length
      · exact hi
      · rw [List.getElem?_append_right (by simpa using hi)] at h2
        rw [List.getElem?_replicate] at h2
        split at h2 <;> cases h2
    have ha : vs[i]? = some v := by
      unfold start at h2
      rw [List.getElem?_append_left (by simpa using hi), List.getElem?_map] at h2
      cases e : vs[i]? with
      | none => rw [e] at h2; cases h2
      | some a => rw [e] at h2; cases h2; rfl
    obtain ⟨u, hu, rv⟩ := r.get ha
    have hp : ps[i]? = some y := by
      rw [← S.pre, List.getElem?_take_of_lt (by omega)]; exact h1
    have ndP : ps.Nodup := by rw [← S.pre]; exact S.nd.sublist (List.take_sublist _ _)
    refine ⟨u, rv, ?_⟩
    rcases S.par y (List.mem_of_getElem? hp) with k | k
    · exact .inl ⟨k, bindL_get ndP hp hu k⟩
    · obtain ⟨c, e⟩ := cell_has (n := s.heap.objs.size + 1) k
      refine .inr ⟨.inl k, c, e, ?_⟩
      have q := x.cell y c e
      rw [bindC_get ndP hp hu (by show scope.names.lookup y ≠ _; rw [k]; decide)] at q
      exact q
  · exact e0.hok.fresh (Nat.le_of_lt (x.above y c (PySem.mem_of_lookup h)))
  · unfold start
    show _ = N.length
    rw [List.length_append, List.length_map, List.length_replicate]
    omega

/-- THE RULE: a def (or a method) of the text, by its body. The body's reading t is chosen for each entry; it is run at the parameters' values -/
theorem fn_of {CX : CXT} {P : Program} {w : World} {K : PySem.W.Frag} {mg : Str → Option Value} {base : Heap} {k : Nat} {f : Addr} {name qual : Str} {params : Arguments} {body : List Stmt} {scope : Scope} {dV kV doc pm cdv ct oc : Value} {an od : Option Addr}
    {osl : Array (Option Value)} {N ps : List Str} {sp : Sp} (lk : K.lookup f = some ⟨oc, od, .func (PySem.W.fnOf name qual params body scope dV kV doc pm an cdv ct), osl⟩) (hcd : PySem.W.codeIn K cdv qual = true) (S : FnScope N ps scope)
    (len : ∀ vs H Q E, sp vs H Q E → vs.length = ps.length)
    (hbody : ∀ (A : Around) (outer : List Env) (s : Shared) (H : Hp) (vs : List V) (Q : VK) (E : XK), Room k (A.deeper (envOfC qual scope s.heap.objs.size f cdv)) → sp vs H Q E →
      ∃ t, PSs (cxOf CX P w K mg base N qual scope f cdv A outer s H E) body t ∧ t { nx := fun _ H' => Q .non H', rt := Q } (start N vs) H) :
    FnOk P w K mg base CX (k + 1) f (PySem.W.fnOf name qual params body scope dV kV doc pm an cdv ct) ps sp := by
  refine ⟨len, fun A outer s H args us vs Q E hr e0 hb r hsp => ?_⟩
  have hl := len _ _ _ _ hsp
  have KX : K.In s.heap := e0.mod.kin.keeps fun b o e => (e0.bs b o e).1
  have lim : s.heap.NoLimit := e0.mod.nolimit.keeps fun b o e => (e0.bs b o e).1
  have hkind : ∀ y ∈ ps.zip us, scope.names.lookup y.1 = some .local ∨ (scope.names.lookup y.1 = some .cell ∧ ((cellsFrom (s.heap.objs.size + 1) scope.names []).lookup y.1).isSome = true) := fun ⟨n, v⟩ hy => by
    rcases S.par n (List.of_mem_zip hy).1 with q | q
    · exact .inl q
    · exact .inr ⟨q, PySem.W.cellsFrom_some _ _ _ (.inl q)⟩
  refine codeAny_call_function hr.depth (KX _ _ lk) rfl S.co S.gen rfl (PySem.W.codeRec_of KX hcd) (hb _ _ _ _ ?_)
  refine wpAny_newFunctionEnv_cells S.kind hkind fun env he s1 x => ?_
  subst he
  refine ⟨lim.keeps x.toInCall.keep, codeAny_func ?_⟩
  obtain ⟨t, ht, hq⟩ := hbody A outer s H vs Q E (hr.deeper _) hsp
  have I : Inv (cxOf CX P w K mg base N qual scope f cdv A outer s H E) [] (start N vs) H s1 := inv_start S hr.hd e0 hl r x
  refine wpAny_mono (ht [] s1 (start N vs) H _ I hq) (fun fl s' hs => ?_) fun e s' hs => hs
  have fin : ∀ {σ' : St} {H' : Hp} {v : V} {u : Value}, Inv (cxOf CX P w K mg base N qual scope f cdv A outer s H E) [] σ' H' s' → RelV v u → Q v H' → CE outer P w H s Q u s' :=
    fun {σ' H' v u} J rv q => ⟨v, H', J.os, J.bare, J.base, J.hok, rv, q⟩
  cases fl with
  | ret u =>
    obtain ⟨v, σ', H', J, rv, q⟩ := hs
    exact fin J rv q
  | next =>
    obtain ⟨σ', H', J, q⟩ := hs
    exact fin (v := V.non) (u := Value.none) J rfl q
  | brk =>
    obtain ⟨_, _, _, q⟩ := hs
    exact False.elim q
  | cont =>
    obtain ⟨_, _, _, q⟩ := hs
    exact False.elim q
end L2

namespace L2
open PySem PySem.Spec PyProof.Rows
section
variable {X : Cx} {x : Str} {p pos : Pos} {e : Expr} {es : List Expr} {t : TA} {id T : String} {r : List V → Hp → VK → Prop}

def tCB (r : List V → Hp → VK → Prop) (t : TA) : TE := fun σ H Q => t σ H fun vs H1 => r vs H1 Q
/-- f(e, ..), f a built-in function -/
theorem pe_callB (hc : CallR X (.builtin id) r) (hg : Gl X x) (hm : X.mg x = none) (hv : bootBuiltins x = some (.builtin id)) (ha : PA X (e :: es) t) (hn : x ≠ "__name__" := by decide) (hdb : (x == ("__debug__" : Str)) = false := by decide)
    (he : starEach (e :: es) X.env = (false, eval e X.env) :: starEach es X.env := by rfl) (hpl : (backTo pos (starEach es X.env)).any (·.1) = false := by rfl) : PE X (.Call (.Name x p) (e :: es) [] pos) (tCB r t) := by
  intro pins s σ H Q I h
  refine wpAny_Call_Name_kw (ld_blt I hg hm hv ?_ hn hdb)
  exact PyProof.Rows.callWith_builtin1 (thn (ha pos pins s σ H _ I h) fun us s1 ⟨vs, H1, I1, r1, q1⟩ => hc pins s1 σ H1 vs us Q I1 r1 q1) he hpl
/-- T(e, ..), T a built-in type -/
theorem pe_callTy (hc : CallR X (.type T) r) (hg : Gl X x) (hm : X.mg x = none) (hv : bootBuiltins x = some (.type T)) (ha : PA X (e :: es) t) (hn : x ≠ "__name__" := by decide) (hdb : (x == ("__debug__" : Str)) = false := by decide)
    (he : starEach (e :: es) X.env = (false, eval e X.env) :: starEach es X.env := by rfl) (hpl : (backTo pos (starEach es X.env)).any (·.1) = false := by rfl) : PE X (.Call (.Name x p) (e :: es) [] pos) (tCB r t) := by
  intro pins s σ H Q I h
  refine wpAny_Call_Name_kw (ld_blt I hg hm hv ?_ hn hdb)
  exact PyProof.Rows.callWith_type1 (thn (ha pos pins s σ H _ I h) fun us s1 ⟨vs, H1, I1, r1, q1⟩ => hc pins s1 σ H1 vs us Q I1 r1 q1) he hpl
end
end L2

namespace HT
open PySem PyProof.Rows

/-- t < u of tuples of ints -/
def lexLt : List Int → List Int → Bool
  | [], [] => false
  | [], _ :: _ => true
  | _ :: _, [] => false
  | x :: xs, y :: ys => if x = y then lexLt xs ys else decide (x < y)


section
open PySem.SeqAt
open PySem.AutoSeq1 (wpAny_loadPart')
open PySem.MeetsSeq PySem.MeetsSeq2 PySem.MeetsSeq3

end

section
variable {prog : Program} {w : World} {A : Around} {E : Value → Shared → Prop} {s : Shared}



/-! ### t[a:b], not the whole -/
/-- a slice's bound as a place among n (d where it is left out) -/
def sIx (n d : Nat) : Option Int → Nat
  | none => d
  | some v => if v < 0 then (v + (n : Int)).toNat else min v.toNat n
theorem sIx_le (n d : Nat) (hd : d ≤ n) (o : Option Int) : sIx n d o ≤ n := by
  cases o with
  | none => exact hd
  | some v =>
    show (if v < 0 then (v + (n : Int)).toNat else min v.toNat n) ≤ n
    by_cases hv : v < 0
    · rw [if_pos hv]; omega
    · rw [if_neg hv]; exact Nat.min_le_right _ _
theorem clip_eq (v : Int) (n d : Nat) : (if v < 0 then max (v + (n : Int)) 0 else min v (n : Int)) = ((sIx n d (some v) : Nat) : Int) := by
  show (if v < 0 then max (v + (n : Int)) 0 else min v (n : Int)) = (((if v < 0 then (v + (n : Int)).toNat else min v.toNat n) : Nat) : Int)
  by_cases hv : v < 0
  · simp only [if_pos hv]; omega
  · simp only [if_neg hv]; omega
theorem adjust_gen (lo hi : Option Int) (n : Nat) : Builtin.Slice.sliceAdjust lo hi 1 (n : Int) = (((sIx n 0 lo : Nat) : Int), ((sIx n n hi : Nat) : Int)) := by
  have h1 : ¬ ((1 : Int) < 0) := by omega
  unfold Builtin.Slice.sliceAdjust
  simp only [h1, if_false]
  refine Prod.ext ?_ ?_
  · cases lo with
    | none => rfl
    | some v => exact clip_eq v n 0
  · cases hi with
    | none => rfl
    | some v => exact clip_eq v n n
theorem places_gen (i j : Nat) : Builtin.Slice.slicePlaces (i : Int) (j : Int) 1 = j - i := by
  unfold Builtin.Slice.slicePlaces
  have h1 : (1 : Int) > 0 := by omega
  simp only [h1, if_true, Int.ediv_one]
  split <;> omega
theorem slicePart_ {v : Value} {o : Option Int} {Q : Option Int → Shared → Prop} (p : IsPart v o) (h : Q o s) : wpAny (model prog w) A (Builtin.Slice.slicePartIndex v) Q E s := by
  cases p with
  | none => exact slicePart_none h
  | int i t => exact slicePart_int h
theorem sliceApplied_gen {sl : Addr} {vl vu : Value} {lo hi : Option Int} {n : Nat} {Q : Int × Int × Nat → Shared → Prop} (hs : s.heap.IsSliceOf sl vl vu .none) (pl : IsPart vl lo) (pu : IsPart vu hi)
    (h : Q (((sIx n 0 lo : Nat) : Int), 1, sIx n n hi - sIx n 0 lo) s) : wpAny (model prog w) A (Builtin.Slice.sliceApplied (.ref sl) (pure (n : Int))) Q E s := by
  obtain ⟨os, hos, hcs, hds⟩ := id hs
  unfold Builtin.Slice.sliceApplied Builtin.Slice.sliceFields
  refine wpAny_bind (wpAny_bind (wpAny_field hos hds (x := vl) rfl (wpAny_bind (wpAny_field hos hds (x := vu) rfl (wpAny_bind (wpAny_field hos hds (x := .none) rfl (wpAny_pure ?_)))))))
  refine wpAny_bind (slicePart_none ?_)
  show wpAny _ _ (if ((1 : Int) == 0) = true then _ else _) _ _ s
  rw [if_neg (by decide)]
  refine wpAny_bind (slicePart_ pl (wpAny_bind (slicePart_ pu (wpAny_bind (wpAny_pure ?_)))))
  show wpAny _ _ (match Builtin.Slice.sliceAdjust lo hi 1 (n : Int) with | (lo, hi) => pure (lo, (1 : Int), Builtin.Slice.slicePlaces lo hi 1)) _ _ s
  rw [adjust_gen lo hi n]
  show wpAny _ _ (pure (((sIx n 0 lo : Nat) : Int), (1 : Int), Builtin.Slice.slicePlaces ((sIx n 0 lo : Nat) : Int) ((sIx n n hi : Nat) : Int) 1)) _ _ s
  rw [places_gen]
  exact wpAny_pure h
theorem pick_gen (xs : Array Value) (i k : Nat) : ((List.range k).filterMap fun (m : Nat) => xs[((i : Int) + (m : Int) * 1).toNat]?).toArray = ((xs.toList.drop i).take k).toArray := by
  have e : (fun (m : Nat) => xs[((i : Int) + (m : Int) * 1).toNat]?) = fun m => xs[i + m]? := by
    funext m
    have : ((i : Int) + (m : Int) * 1).toNat = i + m := by omega
    rw [this]
  rw [e]
  have := pick_run xs i k
  rw [List.filterMap_map] at this
  have e2 : ((fun x => xs[x]?) ∘ fun x => i + x) = fun m => xs[i + m]? := rfl
  rw [e2] at this
  rw [this]

theorem getItem_tuple_cut {t sl : Addr} {items : Array Value} {vl vu : Value} {lo hi : Option Int} {Q : Value → Shared → Prop} (ht : IsTup s.heap t items) (hs : s.heap.IsSliceOf sl vl vu .none) (pl : IsPart vl lo) (pu : IsPart vu hi)
    (hw : ¬ (sIx items.size 0 lo = 0 ∧ sIx items.size items.size hi = items.size))
    (h : Q (.ref s.heap.objs.size) { s with heap := s.heap.push { cls := .type "tuple", data := .seq ((items.toList.drop (sIx items.size 0 lo)).take (sIx items.size items.size hi - sIx items.size 0 lo)).toArray } })
    (hsz : items.size ≤ sizeLine) : wpAny (model prog w) A (getItem (.ref t) (.ref sl)) Q E s := by
  have htake : sizeOk (.seq ((items.toList.drop (sIx items.size 0 lo)).take (sIx items.size items.size hi - sIx items.size 0 lo)).toArray) := by
    show ((items.toList.drop (sIx items.size 0 lo)).take (sIx items.size items.size hi - sIx items.size 0 lo)).toArray.size ≤ sizeLine
    rw [List.size_toArray, List.length_take, List.length_drop, Array.length_toList]
    omega
  have hj : sIx items.size items.size hi ≤ items.size := sIx_le _ _ (Nat.le_refl _) hi
  obtain ⟨os, hos, hcs, hds⟩ := id hs
  have hTs : s.TypeIs (.ref sl) "slice" := ⟨os, hos, hcs⟩
  unfold getItem
  try with_reducible refine wpAny_holding ?_
  first | refine wpAny_bind (wpAny_pure ?_) | skip
  refine wpAny_bind (wpAny_sequenceKey ht.typeIs (by decide) ?_)
  refine wpAny_bind (wpAny_callSpecial?_slot (name := Str.ofString "__getitem__") ht.typeIs PyProof.Rows.slot_tuple_getitem
    (wpAny_call_entry PyProof.Rows.slot_tuple_getitem ht.typeIs entry_tuple_getitem ?_ (args_tuple_getitem _ _)))
  show wpAny _ _ (Builtin.Tuple.tupleItemsOf (.ref t) >>= _) _ _ s
  refine wpAny_bind (tupleItemsOf_ ht ?_)
  refine wpAny_bind (wpAny_typeOf hTs ?_)
  rw [if_pos (by decide)]
  refine wpAny_bind (sliceApplied_gen hs pl pu ?_)
  have hno : ¬ ((((sIx items.size 0 lo : Nat) : Int) == 0 && (1 : Int) == 1 && (sIx items.size items.size hi - sIx items.size 0 lo) == items.size) = true) := by
    intro q
    rw [Bool.and_eq_true, Bool.and_eq_true] at q
    have q1 : ((sIx items.size 0 lo : Nat) : Int) = 0 := eq_of_beq q.1.1
    have q2 : sIx items.size items.size hi - sIx items.size 0 lo = items.size := eq_of_beq q.2
    exact hw ⟨by omega, by omega⟩
  show wpAny _ _ (if (((sIx items.size 0 lo : Nat) : Int) == 0 && (1 : Int) == 1 && (sIx items.size items.size hi - sIx items.size 0 lo) == items.size) = true then _ else _) _ _ s
  rw [if_neg hno, pick_gen]
  first
    | exact wpAny_bind (m := Builtin.Tuple.tupleExact _) (wpAny_newObj_type (wpAny_pure ⟨_, rfl, wpAny_pure h⟩) htake)
    | exact wpAny_bind (m := Builtin.Tuple.tupleExact _) (wpAny_newObj_type (wpAny_bind (wpAny_pure (wpAny_pure ⟨_, rfl, wpAny_pure h⟩))) htake)
    | exact wpAny_bind (wpAny_bind (m := Builtin.Tuple.tupleExact _) (wpAny_newObj_type (wpAny_pure (wpAny_pure ⟨_, rfl, wpAny_pure h⟩)) htake))
    | exact wpAny_bind (wpAny_bind (m := Builtin.Tuple.tupleExact _) (wpAny_newObj_type (wpAny_pure ⟨_, rfl, wpAny_pure h⟩) htake))
end
end HT

namespace L2
open PySem PySem.Spec PyProof.Rows

/-! ### the parts of a slice -/
abbrev TO := St → Hp → (Option Int → Hp → Prop) → Prop
/-- a slice's part (left out, or an int) -/
def PO (X : Cx) (e : Option Expr) (t : TO) : Prop :=
  ∀ (pins : List (Addr × Obj)) (s : Shared) (σ : St) (H : Hp) (Q : Option Int → Hp → Prop), Inv X pins σ H s → t σ H Q →
    wpAny (model X.prog X.w) X.A (evalPart e X.env) (fun u s' => ∃ o H', Inv X pins σ H' s' ∧ IsPart u o ∧ Q o H') X.xe s
def tNoPart : TO := fun _ H Q => Q none H
def tPart (t : TE) : TO := fun σ H Q => t σ H fun x H1 => ∃ i, x = .int i ∧ Q (some i) H1

theorem intsAre_of {ns : List Int} : ∀ {us : List Value}, Vals (ns.map V.int) us → IntsAre us ns := by
  induction ns with
  | nil => intro us r; rw [List.map_nil] at r; cases r; exact .nil
  | cons n ns ih =>
    intro us r
    rw [List.map_cons] at r
    cases r with
    | cons r1 r2 =>
      obtain ⟨t, e⟩ := r1
      subst e
      exact .cons n t (ih r2)

section
variable {X : Cx} {e : Expr} {te : TE} {lo hi : Option Expr} {tl th : TO} {pos p2 : Pos}

theorem po_none : PO X none tNoPart := by
  intro pins s σ H Q I h
  rw [evalPart_none]
  exact wpAny_pure ⟨none, H, I, .none, h⟩
theorem po_some (h : PE X e te) : PO X (some e) (tPart te) := by
  intro pins s σ H Q I hw
  rw [evalPart_some]
  refine thn (h pins s σ H _ I hw) fun u s1 ⟨x, H1, I1, r1, q1⟩ => ?_
  obtain ⟨i, rfl, q⟩ := q1
  obtain ⟨t, rfl⟩ := r1
  exact ⟨some i, H1, I1, .int i t, q⟩

/-- what a slice of a value is, by values: the slice object stands at sl -/
def SlR (X : Cx) (r : V → Option Int → Option Int → Hp → VK → Prop) : Prop :=
  ∀ (pins : List (Addr × Obj)) (s : Shared) (σ : St) (H : Hp) (x : V) (v vl vu : Value) (lo hi : Option Int) (sl : Addr) (Q : VK), Inv X pins σ H s → RelV x v → s.heap.IsSliceOf sl vl vu .none → IsPart vl lo → IsPart vu hi → r x lo hi H Q →
    ∃ T id, typeLookup (.type T) "__getitem__" = pure (some (.builtin id)) ∧ s.TypeIs v T ∧ wpAny (model X.prog X.w) X.A (getItem v (.ref sl)) (EP X pins σ Q) X.xe s
def tSl (r : V → Option Int → Option Int → Hp → VK → Prop) (te : TE) (tl th : TO) : TE := fun σ H Q => te σ H fun x H1 => tl σ H1 fun l H2 => th σ H2 fun u H3 => r x l u H3 Q
/-- a[lo:hi], any a -/
theorem pe_slice {r : V → Option Int → Option Int → Hp → VK → Prop} (hr : SlR X r) (he : PE X e te) (hl : PO X lo tl) (hu : PO X hi th) : PE X (.Subscript e (.Slice lo hi none p2) pos) (tSl r te tl th) := by
  intro pins s σ H Q I h
  refine Subscript_ (thn (he pins s σ H _ I h) fun v s1 ⟨x, H1, I1, r1, q1⟩ => ?_)
  refine wpAny_Slice (thn (hl pins s1 σ H1 _ I1 q1) fun vl s2 ⟨l, H2, I2, pl, q2⟩ => thn (hu pins s2 σ H2 _ I2 q2) fun vu s3 ⟨u, H3, I3, pu, q3⟩ => ?_)
  rw [evalPart_none]
  refine wpAny_pure ?_
  have I4 : Inv X pins σ H3 { s3 with heap := s3.heap.push { cls := .type "slice", data := .fields #[vl, vu, .none] } } := I3.kept (t' := s3.toks) fun b ob q => Heap.get?_push_of_some _ q
  obtain ⟨T, id, hT, ht, hg⟩ := hr pins { s3 with heap := s3.heap.push { cls := .type "slice", data := .fields #[vl, vu, .none] } } σ H3 x v vl vu l u s3.heap.objs.size Q I4 r1 (Heap.IsSliceOf.new ..) pl pu q3
  show wpAny (model X.prog X.w) X.A (subscriptTail e (.Slice lo hi none p2) v (.ref s3.heap.objs.size)) (EP X pins σ Q) X.xe { s3 with heap := s3.heap.push { cls := .type "slice", data := .fields #[vl, vu, .none] } }
  exact tail_any (ops := [.ref s3.heap.objs.size, v]) ht hT hg (by with_unfolding_all rfl)

/-- the items of xs[lo:hi] -/
def cutV (xs : List V) (lo hi : Option Int) : List V := (xs.drop (HT.sIx xs.length 0 lo)).take (HT.sIx xs.length xs.length hi - HT.sIx xs.length 0 lo)
theorem cutV_length (xs : List V) (lo hi : Option Int) : (cutV xs lo hi).length ≤ xs.length := by
  unfold cutV
  rw [List.length_take, List.length_drop]
  omega
/-- t[lo:hi], not the whole of it (the whole would be t itself) -/
def rSlT (K : PySem.W.Frag) : V → Option Int → Option Int → Hp → VK → Prop := fun x lo hi H Q => ∃ a xs, x = .ref a ∧ SqT K H a xs ∧
  ¬ (HT.sIx xs.length 0 lo = 0 ∧ HT.sIx xs.length xs.length hi = xs.length) ∧ ∀ p, H p = none → Q (.ref p) (upd H p (.tup (cutV xs lo hi)))
theorem sl_tup : SlR X (rSlT X.K) := by
  intro pins s σ H x v vl vu lo hi sl Q I rx hs pl pu h
  obtain ⟨a, xs, rfl, hx, hw, q⟩ := h
  cases rx
  obtain ⟨its, r, ht, hz⟩ := I.tuple hx
  have hlen : its.toArray.size = xs.length := by rw [List.size_toArray]; exact r.length.symm
  refine ⟨"tuple", _, PyProof.Rows.slot_tuple_getitem.lookup, ht.typeIs, ?_⟩
  refine HT.getItem_tuple_cut ht hs pl pu (by rw [hlen]; exact hw) ?_ (by rw [hlen]; exact hz)
  rw [hlen]
  refine ⟨.ref s.heap.objs.size, _, I.laid (t' := s.toks) (o := .tup (cutV xs lo hi)) (fun b ob q => Heap.get?_push_of_some _ q) (Nat.le_refl _) ?_, rfl, q _ (I.hok.fresh (Nat.le_refl _))⟩
  exact ⟨Nat.le_trans (cutV_length xs lo hi) hz, _, (r.drop (HT.sIx xs.length 0 lo)).take (HT.sIx xs.length xs.length hi - HT.sIx xs.length 0 lo), IsTup.new _ _⟩

/-! ### t < u, t + u -/
def rLtT (K : PySem.W.Frag) : R2 := fun x y H Q => ∃ a b ns ms, x = .ref a ∧ y = .ref b ∧ SqT K H a (ns.map V.int) ∧ SqT K H b (ms.map V.int) ∧ Q (.bl (HT.lexLt ns ms)) H
/-- t + u, t not empty: u empty gives t itself -/
def rCatT (K : PySem.W.Frag) : R2 := fun x y H Q => ∃ a b xs ys, x = .ref a ∧ y = .ref b ∧ SqT K H a xs ∧ SqT K H b ys ∧ xs ≠ [] ∧ xs.length + ys.length ≤ sizeLine ∧
  (ys = [] → Q (.ref a) H) ∧ (ys ≠ [] → ∀ p, H p = none → Q (.ref p) (upd H p (.tup (xs ++ ys))))
end
end L2

namespace L2
open PySem PySem.Spec PyProof.Rows

/-! ### places -/
/-- the place that an index of any sign means -/
def ixN (n : Nat) (i : Int) : Option Nat := if 0 ≤ i then (if i < n then some i.toNat else none) else if -(n : Int) ≤ i then some (i + n).toNat else none
def atI {α : Type} (xs : List α) (i : Int) : Option α := (ixN xs.length i).bind fun j => xs[j]?
theorem ixN_seq {n : Nat} {i : Int} {j : Nat} (h : ixN n i = some j) : seqIndex? i n = some j ∧ j < n ∧ -(n : Int) ≤ i ∧ i < n := by
  unfold ixN at h
  by_cases h0 : 0 ≤ i
  · rw [if_pos h0] at h
    by_cases h1 : i < n
    · rw [if_pos h1] at h
      have e : i.toNat = j := Option.some.inj h
      exact ⟨by rw [seqIndex_of h0 h1, e], by omega, by omega, h1⟩
    · rw [if_neg h1] at h; cases h
  · rw [if_neg h0] at h
    by_cases h1 : -(n : Int) ≤ i
    · rw [if_pos h1] at h
      have e : (i + n).toNat = j := Option.some.inj h
      exact ⟨by rw [seqIndex_neg (by omega) h1, e], by omega, h1, by omega⟩
    · rw [if_neg h1] at h; cases h
theorem atI_get {α : Type} {xs : List α} {i : Int} {v : α} (h : atI xs i = some v) : ∃ j, seqIndex? i xs.length = some j ∧ xs[j]? = some v ∧ j < xs.length ∧ -(xs.length : Int) ≤ i ∧ i < xs.length := by
  unfold atI at h
  cases e : ixN xs.length i with
  | none => rw [e] at h; cases h
  | some j =>
    rw [e] at h
    obtain ⟨h1, h2, h3, h4⟩ := ixN_seq e
    exact ⟨j, h1, h, h2, h3, h4⟩

/-! ### what may be subscripted -/
/-- what stands as an index of a plain subscript -/
def PlainIx (b : Expr) : Prop := ∀ o i, subscripted b false o i = operate [o, i] (getItem o i)
/-- a subscript by values -/
def IxR (X : Cx) (r : R2) : Prop :=
  ∀ (value slice : Expr) (pins : List (Addr × Obj)) (s : Shared) (σ : St) (H : Hp) (x y : V) (v u : Value) (Q : VK), Inv X pins σ H s → RelV x v → RelV y u → r x y H Q →
    subscripted slice false v u = operate [v, u] (getItem v u) → wpAny (model X.prog X.w) X.A (subscriptTail value slice v u) (EP X pins σ Q) X.xe s
/-- a call of a builtin's method by values: the receiver, the arguments -/
def MtR (X : Cx) (id : String) (r : V → List V → Hp → VK → Prop) : Prop :=
  ∀ (pins : List (Addr × Obj)) (s : Shared) (σ : St) (H : Hp) (x : V) (xs : List V) (v : Value) (us : List Value) (Q : VK), Inv X pins σ H s → RelV x v → Vals xs us → r x xs H Q →
    wpAny (model X.prog X.w) X.A (call (.builtin id) (v :: us)) (EP X pins σ Q) X.xe s
section
variable {X : Cx} {a b : Expr} {ta tb : TE} {pos : Pos}
/-- a[b] -/
theorem pe_ix {r : R2} (hr : IxR X r) (ha : PE X a ta) (hb : PE X b tb) (hs : PlainIx b) : PE X (.Subscript a b pos) (tOp r ta tb) := by
  intro pins s σ H Q I h
  exact Subscript_ (binT ha hb I h fun v u s2 x y H2 I2 rx ry q => hr a b pins s2 σ H2 x y v u Q I2 rx ry q (hs _ _))

def rIxL (K : PySem.W.Frag) : R2 := fun x y H Q => ∃ p xs i v, x = .ref p ∧ y = .int i ∧ SqL K H p xs ∧ atI xs i = some v ∧ Q v H
def rIxT (K : PySem.W.Frag) : R2 := fun x y H Q => ∃ p xs i v, x = .ref p ∧ y = .int i ∧ SqT K H p xs ∧ atI xs i = some v ∧ Q v H
def rIxS : R2 := fun x y H Q => ∃ z i c, x = .str z ∧ y = .int i ∧ z.length ≤ sizeLine ∧ atI z.cps.toList i = some c ∧ Q (.str ⟨#[c]⟩) H
theorem ix_list : IxR X (rIxL X.K) := by
  intro value slice pins s σ H x y v u Q I rx ry h hs
  obtain ⟨p, xs, i, z, rfl, rfl, hq, he, q⟩ := h
  cases rx
  obtain ⟨t, rfl⟩ := ry
  obtain ⟨its, r, pl, hz⟩ := I.list hq
  obtain ⟨j, h1, h2, h3, h4, h5⟩ := atI_get he
  obtain ⟨w, ew, rw'⟩ := r.get h2
  have hl := r.length
  have hn := line63
  have fin : EP X pins σ Q w s := ⟨z, H, I, rw', q⟩
  by_cases h0 : 0 ≤ i
  · have hj : i.toNat = j := by
      rw [seqIndex_of h0 h5] at h1
      exact Option.some.inj h1
    exact item_listR pl.isList h0 (by omega) (by rw [hj]; simpa using ew) fin hs
  · have hj : (i + (its.toArray.size : Int)).toNat = j := by
      rw [seqIndex_neg (by omega) h4] at h1
      rw [List.size_toArray, ← hl]
      exact Option.some.inj h1
    exact subscriptTail_builtinR (x := w) pl.isList.typeIs slot_list_getitem.lookup
      (wpAny_getItem_list_neg (Q := fun r s' => r = w ∧ EP X pins σ Q r s') pl.isList (by omega) (by rw [List.size_toArray] <;> omega) (by omega) (by rw [hj]; simpa using ew) ⟨rfl, fin⟩) hs
theorem ix_tup : IxR X (rIxT X.K) := by
  intro value slice pins s σ H x y v u Q I rx ry h hs
  obtain ⟨p, xs, i, z, rfl, rfl, hq, he, q⟩ := h
  cases rx
  obtain ⟨t, rfl⟩ := ry
  obtain ⟨its, r, pl, hz⟩ := I.tuple hq
  obtain ⟨j, h1, h2, h3, h4, h5⟩ := atI_get he
  obtain ⟨w, ew, rw'⟩ := r.get h2
  have hl := r.length
  have hn := line63
  have fin : EP X pins σ Q w s := ⟨z, H, I, rw', q⟩
  exact subscriptTail_builtinR (x := w) pl.typeIs slot_tuple_getitem.lookup
    (getItem_tuple (j := j) (Q := fun r s' => r = w ∧ EP X pins σ Q r s') pl (by omega) (by omega) (by rw [List.size_toArray, ← hl]; exact h1) (by simpa using ew) ⟨rfl, fin⟩) hs
theorem ix_str : IxR X rIxS := by
  intro value slice pins s σ H x y v u Q I rx ry h hs
  obtain ⟨z, i, c, rfl, rfl, hz, he, q⟩ := h
  obtain ⟨t, rfl⟩ := rx
  obtain ⟨t', rfl⟩ := ry
  obtain ⟨j, h1, h2, h3, h4, h5⟩ := atI_get he
  have hl : z.cps.toList.length = z.length := by simp [Str.length]
  rw [hl] at h1 h4 h5
  have hn := line63
  exact tail_any (typeIs_str s z t) slot_str_getitem.lookup (getItem_str (c := c) (by
    have e1 : decide (i < -(2 ^ 63 : Int)) = false := decide_eq_false (by omega)
    have e2 : decide (i ≥ 2 ^ 63) = false := decide_eq_false (by omega)
    rw [e1, e2, Bool.or_false]) (by rw [h1]; simpa using h2) ⟨.str ⟨#[c]⟩, H, I.tok _, ⟨_, rfl⟩, q⟩) hs
/-- list, tuple or str -/
def rIx (K : PySem.W.Frag) : R2 := fun x y H Q => rIxL K x y H Q ∨ rIxT K x y H Q ∨ rIxS x y H Q

/-! ### xs[i] = v, any sign -/
/-- the list's object behind a store -/
theorem mapSeq_set (its : List Value) (n j : Nat) (u : Value) : Obj.mapSeq (·.setIfInBounds j u) { cls := .type "list", data := .seq its.toArray n } = { cls := .type "list", data := .seq (its.set j u).toArray n } := by
  simp [Obj.mapSeq]
theorem Inv.lst {pins : List (Addr × Obj)} {σ : St} {H : Hp} {s : Shared} {p : Addr} {xs : List V} (I : Inv X pins σ H s) (h : H p = some (.lst xs)) :
    ∃ (its : List Value) (n : Nat), Vals xs its ∧ s.heap.get? p = some { cls := .type "list", data := .seq its.toArray n } ∧ xs.length ≤ sizeLine := by
  obtain ⟨z, its, n, r, e⟩ := I.hok p _ h
  exact ⟨its, n, r, e, z⟩
/-- the list at p is written by an update of its object -/
theorem Inv.lstUpd {pins : List (Addr × Obj)} {σ : St} {H : Hp} {s : Shared} {p : Addr} {xs ys : List V} {its its' : List Value} {n n' : Nat} {f : Obj → Obj} (I : Inv X pins σ H s) (h : H p = some (.lst xs))
    (ho : s.heap.get? p = some { cls := .type "list", data := .seq its.toArray n }) (hf : f { cls := .type "list", data := .seq its.toArray n } = { cls := .type "list", data := .seq its'.toArray n' }) (r : Vals ys its') (hz : ys.length ≤ sizeLine) (t : Nat) :
    Inv X pins σ (upd H p (.lst ys)) { s with heap := s.heap.update p f, toks := t } := by
  have e : (s.heap.update p f).get? p = some { cls := .type "list", data := .seq its'.toArray n' } := by
    rw [Heap.get?_update_self f ho (by rw [hf] <;> rfl), hf]
  refine I.write (x := p) (e := p) (by rw [h]; trivial) (.inl rfl) (fun b u hb q => (Heap.get?_update_other _ _ (Ne.symm hb)).trans q) ⟨_, e⟩ ?_
  exact ⟨hz, its', n', r, e⟩
def rSetL : V → V → V → Hp → (Hp → Prop) → Prop := fun o i v H Q => ∃ p xs k j, o = .ref p ∧ i = .int k ∧ H p = some (.lst xs) ∧ ixN xs.length k = some j ∧ Q (upd H p (.lst (xs.set j v)))
theorem set_list : PSet X rSetL := by
  intro pins s σ H o i v ov iv u Q I ro ri rv h
  obtain ⟨p, xs, k, j, rfl, rfl, hp, hj, q⟩ := h
  cases ro
  obtain ⟨t, rfl⟩ := ri
  obtain ⟨its, n, r, ho, hz⟩ := I.lst hp
  obtain ⟨h1, h2, h3, h4⟩ := ixN_seq hj
  have hl := r.length
  have hn := line63
  have I' : Inv X pins σ (upd H p (.lst (xs.set j v))) { s with heap := s.heap.update p (Obj.mapSeq (·.setIfInBounds j u)) } :=
    I.lstUpd hp ho (mapSeq_set its n j u) (r.set rv j) (by rw [List.length_set]; exact hz) s.toks
  by_cases h0 : 0 ≤ k
  · have hk : k.toNat = j := by
      rw [seqIndex_of h0 h4] at h1
      exact Option.some.inj h1
    exact PySem.W.ki_setAt ho h0 (by omega) (by rw [List.size_toArray, ← hl]; exact h4) (by rw [hk]; exact ⟨_, I', q⟩)
  · have hk : (k + (its.toArray.size : Int)).toNat = j := by
      rw [seqIndex_neg (by omega) h3] at h1
      rw [List.size_toArray, ← hl]
      exact Option.some.inj h1
    exact PySem.W.ki_setBack ho (by omega) (by rw [List.size_toArray, ← hl]; exact h3) (by omega) (by rw [hk]; exact ⟨_, I', q⟩)

/-! ### slices -/
theorem slice_bounds (lo hi : Option Int) (n : Nat) : (sliceBounds lo hi none n).1 = ((HT.sIx n 0 lo : Nat) : Int) ∧ (sliceBounds lo hi none n).2.1 = ((HT.sIx n n hi : Nat) : Int) ∧ (sliceBounds lo hi none n).2.2 = 1 := by
  refine ⟨?_, ?_, rfl⟩
  · cases lo with
    | none => simp [sliceBounds, HT.sIx]
    | some i =>
      simp only [sliceBounds, HT.sIx, Option.getD_none, show (1 : Int) > 0 by decide, if_true]
      by_cases h : i < 0
      · simp only [h, if_true] <;> omega
      · simp only [h, if_false] <;> omega
  · cases hi with
    | none => simp [sliceBounds, HT.sIx]
    | some i =>
      simp only [sliceBounds, HT.sIx, Option.getD_none, show (1 : Int) > 0 by decide, if_true]
      by_cases h : i < 0
      · simp only [h, if_true] <;> omega
      · simp only [h, if_false] <;> omega
theorem slicePick_cut (its : List Value) (lo hi : Option Int) : slicePick its.toArray lo hi none = ((its.drop (HT.sIx its.length 0 lo)).take (HT.sIx its.length its.length hi - HT.sIx its.length 0 lo)).toArray := by
  obtain ⟨h1, h2, h3⟩ := slice_bounds lo hi its.toArray.size
  unfold slicePick
  rw [h1, h2, h3]
  simp only [sliceRange_one, pick_run, List.size_toArray] <;> rfl
/-- xs[lo:hi] of a list: a new list -/
def rSlL (K : PySem.W.Frag) : V → Option Int → Option Int → Hp → VK → Prop := fun x lo hi H Q => ∃ a xs, x = .ref a ∧ SqL K H a xs ∧ ∀ p, H p = none → Q (.ref p) (upd H p (.lst (cutV xs lo hi)))
theorem sl_list : SlR X (rSlL X.K) := by
  intro pins s σ H x v vl vu lo hi sl Q I rx hs pl pu h
  obtain ⟨a, xs, rfl, hx, q⟩ := h
  cases rx
  obtain ⟨its, r, ht, hz⟩ := I.list hx
  have hlen := r.length
  refine ⟨"list", _, slot_list_getitem.lookup, ht.isList.typeIs, ?_⟩
  refine wpAny_getItem_list_slice ht.isList hs pl pu .none (by simp) ?_ (by rw [List.size_toArray] <;> omega)
  rw [slicePick_cut, ← hlen]
  refine ⟨.ref s.heap.objs.size, _, I.laid (t' := s.toks) (o := .lst (cutV xs lo hi)) (fun b ob q => Heap.get?_push_of_some _ q) (Nat.le_refl _) ?_, rfl, q _ (I.hok.fresh (Nat.le_refl _))⟩
  exact ⟨Nat.le_trans (cutV_length xs lo hi) hz, _, 0, (r.drop (HT.sIx xs.length 0 lo)).take (HT.sIx xs.length xs.length hi - HT.sIx xs.length 0 lo), Heap.get?_push_size _ rfl⟩

/-! ### in, not in: flat items -/
def flatV : V → Bool
  | .non => true
  | .bl _ => true
  | .int _ => true
  | .str _ => true
  | _ => false
/-- == of flat values -/
def eqV : V → V → Bool
  | .non, .non => true
  | .bl a, .bl b => a == b
  | .bl a, .int b => (if a then 1 else 0) == b
  | .int a, .bl b => a == (if b then 1 else 0)
  | .int a, .int b => a == b
  | .str a, .str b => a == b
  | _, _ => false
theorem eqAt_V {A : Around} {s : Shared} {y x : V} {u v : Value} (ry : RelV y u) (rx : RelV x v) (fy : flatV y = true) (fx : flatV x = true) : SeqAt.EqAt A s u v (eqV y x) := by
  cases y with
  | non =>
    cases ry
    cases x with
    | non => cases rx; exact SeqAt.EqAt.same _
    | bl b => cases rx; exact SeqAt.EqAt.none_bool b
    | int b => obtain ⟨t, rfl⟩ := rx; exact SeqAt.EqAt.none_int b t
    | str b => obtain ⟨t, rfl⟩ := rx; exact SeqAt.EqAt.none_str b t
    | _ => exact absurd (show false = true from fx) Bool.false_ne_true
  | bl a =>
    cases ry
    cases x with
    | non => cases rx; exact SeqAt.EqAt.bool_none a
    | bl b => cases rx; exact SeqAt.EqAt.bool_bool a b
    | int b => obtain ⟨t, rfl⟩ := rx; exact SeqAt.EqAt.bool_int a b t
    | str b => obtain ⟨t, rfl⟩ := rx; exact SeqAt.EqAt.bool_str a b t
    | _ => exact absurd (show false = true from fx) Bool.false_ne_true
  | int a =>
    obtain ⟨t', rfl⟩ := ry
    cases x with
    | non => cases rx; exact SeqAt.EqAt.int_none a t'
    | bl b => cases rx; exact SeqAt.EqAt.int_bool a t' b
    | int b => obtain ⟨t, rfl⟩ := rx; exact SeqAt.EqAt.int_int a t' b t
    | str b => obtain ⟨t, rfl⟩ := rx; exact SeqAt.EqAt.int_str a t' b t
    | _ => exact absurd (show false = true from fx) Bool.false_ne_true
  | str a =>
    obtain ⟨t', rfl⟩ := ry
    cases x with
    | non => cases rx; exact SeqAt.EqAt.str_none a t'
    | bl b => cases rx; exact SeqAt.EqAt.str_bool a t' b
    | int b => obtain ⟨t, rfl⟩ := rx; exact SeqAt.EqAt.str_int a t' b t
    | str b => obtain ⟨t, rfl⟩ := rx; exact SeqAt.EqAt.str_str a t' b t
    | _ => exact absurd (show false = true from fx) Bool.false_ne_true
  | _ => exact absurd (show false = true from fy) Bool.false_ne_true
/-- the items' answers, read off the values (a value's own answer does not lean on its token) -/
def eqU (x : V) (u : Value) : Bool := match u with
  | .none => eqV .non x
  | .bool b => eqV (.bl b) x
  | .int i _ => eqV (.int i) x
  | .str z _ => eqV (.str z) x
  | _ => false
theorem eqU_of {x y : V} {u : Value} (r : RelV y u) (f : flatV y = true) : eqU x u = eqV y x := by
  cases y with
  | non => cases r; rfl
  | bl b => cases r; rfl
  | int i => obtain ⟨t, rfl⟩ := r; rfl
  | str z => obtain ⟨t, rfl⟩ := r; rfl
  | _ => exact absurd (show false = true from f) Bool.false_ne_true
theorem any_eqU {x : V} : ∀ {xs : List V} {us : List Value}, Vals xs us → xs.all flatV = true → us.any (eqU x) = xs.any fun y => eqV y x
  | _, _, .nil, _ => rfl
  | y :: xs, u :: us, .cons r t, f => by
    rw [List.all_cons, Bool.and_eq_true] at f
    rw [List.any_cons, List.any_cons, eqU_of r f.1, any_eqU t f.2]
theorem mem_eqAt {A : Around} {s : Shared} {x : V} {v : Value} (rx : RelV x v) (fx : flatV x = true) : ∀ {xs : List V} {us : List Value}, Vals xs us → xs.all flatV = true → ∀ u ∈ us, SeqAt.EqAt A s u v (eqU x u)
  | _, _, .nil, _ => fun u hu => by cases hu
  | y :: xs, u :: us, .cons r t, f => fun u' hu => by
    rw [List.all_cons, Bool.and_eq_true] at f
    rcases List.mem_cons.mp hu with rfl | hu
    · rw [eqU_of r f.1]; exact eqAt_V r rx f.1 fx
    · exact mem_eqAt rx fx t f.2 u' hu
def inV (x : V) (xs : List V) : Bool := xs.any fun y => eqV y x
/-- x in a list or tuple of flat items -/
def rIn (K : PySem.W.Frag) (neg : Bool) : R2 := fun x y H Q => ∃ p xs, y = .ref p ∧ (SqL K H p xs ∨ SqT K H p xs) ∧ flatV x = true ∧ xs.all flatV = true ∧ Q (.bl (if neg then !inV x xs else inV x xs)) H
theorem op_in_seq : OpR X (compareOp .In) (rIn X.K false) := by
  intro pins s σ H x y v u Q I rx ry h
  obtain ⟨p, xs, rfl, hq, fx, fs, q⟩ := h
  cases ry
  rcases hq with hq | hq
  · obtain ⟨its, r, pl, hz⟩ := I.list hq
    refine SeqAt.in_listAt (eqU x) pl.isList (fun w hw => mem_eqAt rx fx r fs w (by simpa using hw)) ⟨.bl _, H, I, rfl, ?_⟩
    rw [show its.toArray.any (eqU x) = its.any (eqU x) by simp, any_eqU r fs]
    exact q
  · obtain ⟨its, r, pl, hz⟩ := I.tuple hq
    refine SeqAt.in_tupleAt (eqU x) pl (fun w hw => mem_eqAt rx fx r fs w (by simpa using hw)) ⟨.bl _, H, I, rfl, ?_⟩
    rw [show its.toArray.any (eqU x) = its.any (eqU x) by simp, any_eqU r fs]
    exact q

/-! ### len, list(x), tuple(x) of any list or tuple that is read -/
theorem call_len_seq : CallR X (.builtin "len") (fun xs H Q => ∃ p ys, xs = [.ref p] ∧ (SqL X.K H p ys ∨ SqT X.K H p ys) ∧ Q (.int ys.length) H) := by
  intro pins s σ H xs us Q I r h
  obtain ⟨p, ys, rfl, hq, q⟩ := h
  obtain ⟨u, rfl, rx⟩ := vals1 r
  cases rx
  have hn := line63
  rcases hq with hq | hq
  · obtain ⟨its, r', pl, hz⟩ := I.list hq
    have hlen := r'.length
    exact Calls.call_len_list pl.isList (by simp only [List.size_toArray] <;> omega) ⟨.int ys.length, H, I.tok _, ⟨s.toks + 1, by rw [List.size_toArray, hlen]⟩, q⟩
  · obtain ⟨its, r', pl, hz⟩ := I.tuple hq
    have hlen := r'.length
    exact len_tuple pl (by simp only [List.size_toArray] <;> omega) ⟨.int ys.length, H, I.tok _, ⟨s.toks + 1, by rw [List.size_toArray, hlen]⟩, q⟩
theorem call_list_of : CallR X (.type "list") (fun xs H Q => ∃ p ys, xs = [.ref p] ∧ (SqL X.K H p ys ∨ SqT X.K H p ys) ∧ ∀ l, H l = none → Q (.ref l) (upd H l (.lst ys))) := by
  intro pins s σ H xs us Q I r h
  obtain ⟨p, ys, rfl, hq, q⟩ := h
  obtain ⟨u, rfl, rx⟩ := vals1 r
  cases rx
  have fin : ∀ (its : List Value), Vals ys its → ys.length ≤ sizeLine → ∀ (h' : Heap) (c' : Nat), (∀ b o', s.heap.get? b = some o' → h'.get? b = some o') →
      h'.get? s.heap.objs.size = some { cls := .type "list", dict := none, data := .seq its.toArray c', slots := #[] } → EP X pins σ Q (.ref s.heap.objs.size) { s with heap := h' } := fun its r' hz h' c' kp e =>
    ⟨.ref s.heap.objs.size, _, I.laid (t' := s.toks) kp (Nat.le_refl _) (show ObjOk X.prog X.w _ h' _ (.lst ys) from ⟨hz, its, c', r', e⟩), rfl, q _ (I.hok.fresh (Nat.le_refl _))⟩
  rcases hq with hq | hq
  · obtain ⟨its, r', pl, hz⟩ := I.list hq
    have hlen := r'.length
    obtain ⟨o, ho, hc, n, hd⟩ := pl.isList
    exact call_list_seq p (.inl rfl) ho hc hd (fun h' c' kp e => fin its r' hz h' c' kp e) (by simp only [List.size_toArray] <;> omega)
  · obtain ⟨its, r', pl, hz⟩ := I.tuple hq
    have hlen := r'.length
    obtain ⟨o, ho, hc, n, hd⟩ := pl
    exact call_list_seq p (.inr rfl) ho hc hd (fun h' c' kp e => fin its r' hz h' c' kp e) (by simp only [List.size_toArray] <;> omega)

/-! ### the call of a builtin's method: o.m(..) -/
/-- the value is of that builtin type -/
def tyV (K : PySem.W.Frag) (T : String) (x : V) (H : Hp) : Prop := match x with
  | .str _ => T = "str"
  | .int _ => T = "int"
  | .ref p => (T = "list" ∧ ∃ xs, SqL K H p xs) ∨ (T = "tuple" ∧ ∃ o, K.lookup p = some o ∧ o.cls = .type "tuple" ∧ o.dict = none) ∨
      (T = "dict" ∧ ((∃ kvs, H p = some (.dK kvs)) ∨ ∃ kvs, H p = some (.dT kvs))) ∨ (T = "set" ∧ ∃ S n, H p = some (.set S n))
  | _ => False
theorem tyV_is {pins : List (Addr × Obj)} {σ : St} {H : Hp} {s : Shared} {T : String} {x : V} {v : Value} (I : Inv X pins σ H s) (r : RelV x v) (ty : tyV X.K T x H) :
    s.TypeIs v T ∧ ∀ a, v = .ref a → ∃ ob, s.heap.get? a = some ob ∧ ob.dict = none := by
  cases x with
  | str z =>
    obtain ⟨t, rfl⟩ := r
    cases (show T = "str" from ty)
    exact ⟨typeIs_str s z t, fun _ e => nomatch e⟩
  | int i =>
    obtain ⟨t, rfl⟩ := r
    cases (show T = "int" from ty)
    exact ⟨typeIs_int s i t, fun _ e => nomatch e⟩
  | ref p =>
    cases r
    rcases ty with ⟨rfl, xs, hq⟩ | ⟨rfl, o, hk, hc, hd⟩ | ⟨rfl, hk⟩ | ⟨rfl, S, n, hk⟩
    · obtain ⟨its, _, pl, _⟩ := I.list hq
      refine ⟨pl.isList.typeIs, fun a e => ?_⟩
      cases e
      obtain ⟨o, n, e, c, hd, _⟩ := pl
      exact ⟨o, e, hd⟩
    · refine ⟨⟨o, I.kIn p o hk, hc⟩, fun a e => ?_⟩
      cases e
      exact ⟨o, I.kIn _ o hk, hd⟩
    · have z : ∃ o, s.heap.get? p = some o ∧ o.ExactDict := by
        rcases hk with ⟨kvs, hk⟩ | ⟨kvs, hk⟩
        · obtain ⟨_, _, _, _, o, _, _, e, ex, _⟩ := I.hok p _ hk
          exact ⟨o, e, ex⟩
        · obtain ⟨_, _, _, _, o, _, _, e, ex, _⟩ := I.hok p _ hk
          exact ⟨o, e, ex⟩
      obtain ⟨o, e, ex⟩ := z
      refine ⟨⟨o, e, ex.1⟩, fun a e2 => ?_⟩
      cases e2
      exact ⟨o, e, ex.2.1⟩
    · obtain ⟨o, _, _, _, e, ex, _⟩ := I.hok p _ hk
      refine ⟨⟨o, e, ex.1⟩, fun a e2 => ?_⟩
      cases e2
      exact ⟨o, e, ex.2.1⟩
  | _ => exact False.elim ty
def tBM0 (K : PySem.W.Frag) (T : String) (r : V → List V → Hp → VK → Prop) (to : TE) : TE := fun σ H Q => to σ H fun x H1 => tyV K T x H1 ∧ r x [] H1 Q
def tBM (K : PySem.W.Frag) (T : String) (r : V → List V → Hp → VK → Prop) (to : TE) (t : TA) : TE := fun σ H Q => to σ H fun x H1 => tyV K T x H1 ∧ t σ H1 fun xs H2 => r x xs H2 Q
variable {o e : Expr} {es : List Expr} {to : TE} {t : TA} {name : Str} {apos cpos : Pos} {T id : String} {r : V → List V → Hp → VK → Prop}
theorem pe_bm0 (pa : PlainAttrs T) (slot : Slot T name id) (hty : typeOf (.builtin id) = pure (.type "method_descriptor")) (hm : MtR X id r) (ho : PE X o to)
    (hbase : attributeBase o name X.env (eval o X.env) = eval o X.env := by rfl) (hline : (apos.endLine == cpos.line) = true := by rfl) : PE X (.Call (.Attribute o name apos) [] [] cpos) (tBM0 X.K T r to) := by
  intro pins s σ H Q I h
  refine wpAny_Call_method0_late hbase hline (thn (ho pins s σ H _ I h) fun v s1 ⟨x, H1, I1, r1, ty, q1⟩ => ?_)
  obtain ⟨h1, h2⟩ := tyV_is I1 r1 ty
  exact ⟨T, id, pa, slot, hty, h1, h2, Calls.callWith_builtin rfl (PySem.evalArgs_none (hm pins s1 σ H1 x [] v [] Q I1 r1 .nil q1))⟩
theorem pe_bm (pa : PlainAttrs T) (slot : Slot T name id) (hty : typeOf (.builtin id) = pure (.type "method_descriptor")) (hm : MtR X id r) (ho : PE X o to) (ha : PA X (e :: es) t)
    (hbase : attributeBase o name X.env (eval o X.env) = eval o X.env := by rfl)
    (hfew : ((backTo cpos (starEach (e :: es) X.env)).all (fun x => !x.1) && (backToKw cpos (keywordEach [] X.env)).all (fun x => x.1.isSome)
      && decide ((e :: es).length + ([] : List Keyword).length + (if ([] : List Keyword).isEmpty then 0 else 1) < 30)) = true := by rfl)
    (hline : (apos.endLine == cpos.line) = true := by rfl) (hs : starEach (e :: es) X.env = (false, eval e X.env) :: starEach es X.env := by rfl) (hplain : (backTo cpos (starEach es X.env)).any (·.1) = false := by rfl) :
    PE X (.Call (.Attribute o name apos) (e :: es) [] cpos) (tBM X.K T r to t) := by
  intro pins s σ H Q I h
  refine wpAny_Call_method_late hbase hfew hline rfl (thn (ho pins s σ H _ I h) fun v s1 ⟨x, H1, I1, r1, ty, q1⟩ => ?_)
  obtain ⟨h1, h2⟩ := tyV_is I1 r1 ty
  refine ⟨T, id, pa, slot, hty, h1, h2, ?_⟩
  have hA := ha cpos pins s1 σ H1 _ I1 q1
  rw [hs] at hA ⊢
  refine Calls.callWith_builtin (by show (false || (backTo cpos (starEach es X.env)).any (·.1)) = false; rw [hplain] <;> rfl) (Calls.evalArgs_plain ?_)
  exact thn hA fun us s2 ⟨vs, H2, I2, r2, q2⟩ => hm pins s2 σ H2 x vs v us Q I2 r1 r2 q2
/- xs.append(e), list.index on a module's tuple .. are MtR facts of 06m -/
end
end L2

namespace L2
open PySem PySem.Spec PyProof.Rows

def MtM (X : Cx) (id : String) (r : V → List V → Hp → VK → Prop) : Prop :=
  ∀ (pins : List (Addr × Obj)) (s : Shared) (σ : St) (H : Hp) (x : V) (xs : List V) (v : Value) (us : List Value) (Q : VK), Inv X pins σ H s → RelV x v → Vals xs us → r x xs H Q →
    wpAny (model X.prog X.w) X.A (call (.builtin id) (v :: us)) (EP X pins σ Q) X.xe s

/-! ### lists of values -/
theorem Vals.one : ∀ {x : V} {us : List Value}, Vals [x] us → ∃ u, us = [u] ∧ RelV x u
  | _, _, .cons r .nil => ⟨_, rfl, r⟩
theorem Vals.zero : ∀ {us : List Value}, Vals [] us → us = []
  | _, .nil => rfl

section
variable {X : Cx} {pins : List (Addr × Obj)} {σ : St} {H : Hp} {s : Shared} {l b : Addr} {xs ys zs : List V}

/-! ### the two steps: a tracked list is rewritten, a new list is laid -/
theorem Inv.lset {its its' : List Value} {n : Nat} {f : Array Value → Array Value} {t' : Nat} (I : Inv X pins σ H s) (hH : H l = some (.lst xs))
    (e : s.heap.get? l = some { cls := .type "list", data := .seq its.toArray n }) (hf : f its.toArray = its'.toArray) (hv : Vals ys its') (hz : ys.length ≤ sizeLine) :
    Inv X pins σ (upd H l (.lst ys)) { s with heap := s.heap.update l (Obj.mapSeq f), toks := t' } := by
  have q := PySem.IsL.update e f
  rw [hf] at q
  refine I.write (x := l) (e := l) (by rw [hH]; exact trivial) (.inl rfl) (fun b' u hb hu => (Heap.get?_update_other s.heap (Obj.mapSeq f) (Ne.symm hb)).trans hu) ⟨_, q⟩ ?_
  exact ⟨hz, its', _, hv, q⟩
theorem Inv.lnew {its : List Value} {t' : Nat} (I : Inv X pins σ H s) (hv : Vals ys its) (hz : ys.length ≤ sizeLine) :
    Inv X pins σ (upd H s.heap.objs.size (.lst ys)) { s with heap := s.heap.push { cls := .type "list", data := .seq its.toArray }, toks := t' } :=
  I.laid (fun _ _ q => Heap.get?_push_of_some _ q) (Nat.le_refl _) ⟨hz, its, 0, hv, Heap.get?_push_size _ rfl⟩
theorem Inv.fresh (I : Inv X pins σ H s) : H s.heap.objs.size = none := I.hok.fresh (Nat.le_refl _)
theorem Inv.lstM (I : Inv X pins σ H s) (hH : H l = some (.lst xs)) : xs.length ≤ sizeLine ∧ ∃ (its : List Value) (n : Nat), Vals xs its ∧ xs.length = its.length ∧ s.heap.get? l = some { cls := .type "list", data := .seq its.toArray n } := by
  obtain ⟨z, its, n, r, e⟩ := I.hok l _ hH
  exact ⟨z, its, n, r, r.length, e⟩

end

section
variable {X : Cx}

/-! ### methods -/
def rAppend : V → List V → Hp → VK → Prop := fun x vs H Q => ∃ l xs y, x = .ref l ∧ vs = [y] ∧ H l = some (.lst xs) ∧ xs.length < sizeLine ∧ Q .non (upd H l (.lst (xs ++ [y])))
theorem mt_append : MtM X "list.append" rAppend := by
  intro pins s σ H x vs v us Q I rx rv h
  obtain ⟨l, xs, y, rfl, rfl, hH, hz, q⟩ := h
  cases rx
  obtain ⟨u, rfl, ru⟩ := rv.one
  obtain ⟨z, its, n, r, hl, e⟩ := I.lstM hH
  refine call_meets F.slot_list_append ⟨_, e, rfl⟩ F.entry_list_append (F.args_list_append_2 _ _) (PySem.list_append l its.toArray n u (by rw [List.size_toArray]; omega)) ⟨e, ?_⟩
  refine ⟨.non, _, I.lset (its' := its ++ [u]) hH e (by simp) (r.append (.cons ru .nil)) ?_, rfl, q⟩
  rw [List.length_append, List.length_singleton]
  omega

def rExtend : V → List V → Hp → VK → Prop := fun x vs H Q => ∃ l b xs zs, x = .ref l ∧ vs = [.ref b] ∧ H l = some (.lst xs) ∧ H b = some (.lst zs) ∧ xs.length + zs.length ≤ sizeLine ∧ Q .non (upd H l (.lst (xs ++ zs)))

def rPop : V → List V → Hp → VK → Prop := fun x vs H Q => ∃ l xs y, x = .ref l ∧ vs = [] ∧ H l = some (.lst xs) ∧ xs[xs.length - 1]? = some y ∧ Q y (upd H l (.lst xs.dropLast))

def rPopAt : V → List V → Hp → VK → Prop := fun x vs H Q => ∃ l xs i k y, x = .ref l ∧ vs = [.int i] ∧ H l = some (.lst xs) ∧ -(2 ^ 63) ≤ i ∧ i < 2 ^ 63 ∧ seqIndex? i xs.length = some k ∧ xs[k]? = some y ∧ Q y (upd H l (.lst (xs.eraseIdx k)))

def rReverse : V → List V → Hp → VK → Prop := fun x vs H Q => ∃ l xs, x = .ref l ∧ vs = [] ∧ H l = some (.lst xs) ∧ Q .non (upd H l (.lst xs.reverse))

def rClear : V → List V → Hp → VK → Prop := fun x vs H Q => ∃ l xs, x = .ref l ∧ vs = [] ∧ H l = some (.lst xs) ∧ Q .non (upd H l (.lst []))
theorem mt_clear : MtM X "list.clear" rClear := by
  intro pins s σ H x vs v us Q I rx rv h
  obtain ⟨l, xs, rfl, rfl, hH, q⟩ := h
  cases rx
  have hus := rv.zero
  subst hus
  obtain ⟨z, its, n, r, hl, e⟩ := I.lstM hH
  refine call_meets F.slot_list_clear ⟨_, e, rfl⟩ F.entry_list_clear (F.args_list_clear_1 _) (AutoSeq1.list_clear_list_0 l its.toArray n (by rw [List.size_toArray]; omega)) ⟨e, ?_⟩
  exact ⟨.non, _, I.lset (its' := []) (ys := []) hH e rfl .nil (Nat.zero_le _), rfl, q⟩

/-! ### list + list, list += list, list * int -/
def rCat : R2 := fun x y H Q => ∃ l b xs zs, x = .ref l ∧ y = .ref b ∧ H l = some (.lst xs) ∧ H b = some (.lst zs) ∧ xs.length + zs.length ≤ sizeLine ∧ ∀ p, H p = none → Q (.ref p) (upd H p (.lst (xs ++ zs)))
theorem op_cat : OpR X (binaryOp .Add) rCat := by
  intro pins s σ H x y v u Q I rx ry h
  obtain ⟨l, b, xs, zs, rfl, rfl, hH, hB, hz, q⟩ := h
  cases rx
  cases ry
  obtain ⟨z, its, n, r, hl, e⟩ := I.lstM hH
  obtain ⟨z2, its2, n2, r2, hl2, e2⟩ := I.lstM hB
  refine PySem.P.add_list e e2 ?_ (by rw [List.size_toArray, List.size_toArray]; omega)
  have ea : its.toArray ++ its2.toArray = (its ++ its2).toArray := by simp
  rw [ea]
  exact ⟨.ref _, _, I.lnew (t' := s.toks) (r.append r2) (by rw [List.length_append]; omega), rfl, q _ I.fresh⟩
/-- a list times an int (a negative one is nothing) -/
def rRep : R2 := fun x y H Q => ∃ l k xs, x = .ref l ∧ y = .int k ∧ H l = some (.lst xs) ∧ -(2 ^ 63) ≤ k ∧ k < 2 ^ 63 ∧ xs.length * k.toNat ≤ sizeLine ∧
  ∀ p, H p = none → Q (.ref p) (upd H p (.lst (List.replicate k.toNat xs).flatten))

/-! ### del xs[i] -/
end

/-! ### xs[a:b] = ys -/
section
variable {prog : Program} {w : World} {A : Around} {E : Value → Shared → Prop} {s : Shared}
end

section
variable {X : Cx}
end
end L2

namespace Att
open PySem PySem.W PySem.Calls PyProof.Rows

/-! ### the script -/
theorem ints_of_wellAll {P : Params} {h : Heap} : ∀ (ns : List Int) (vs : List Value), WellAll P h vs (ns.map WData.int) → IntsAre vs ns := by
  intro ns
  induction ns with
  | nil =>
    intro vs w
    rw [List.map_nil] at w
    cases w
    exact .nil
  | cons n ns ih =>
    intro vs w
    rw [List.map_cons] at w
    cases w with
    | cons a b =>
      cases a
      exact .cons _ _ (ih _ b)

theorem script_of {l : OpenLaw} {n : Nat} (hn : l.most = some n) {P : Params} {h : Heap} {args : List WData} {vals : List Value}
    (hpre : l.row.toRowW.claim.pre args = true) (hwl : WellAll P h vals args) :
    ∃ a vs ns, vals = [Value.ref a] ∧ args = [WData.list (ns.map WData.int)] ∧ h.get? a = some { cls := .type "list", data := .seq vs.toArray } ∧ IntsAre vs ns ∧ ns.length ≤ n := by
  have hsh : WShape.hasAll [] args [.list .int] = true := (pre_splitW hpre).1
  have hc : l.pre.holds [] { args := args } = true := (pre_splitW hpre).2
  obtain ⟨d, r, rfl, h1, h2⟩ := hasAllW_cons hsh
  obtain rfl := hasAllW_nil h2
  obtain ⟨xs, rfl, h3⟩ := hasW_list h1
  obtain ⟨ns, rfl⟩ := items_int h3
  have hlen : ns.length ≤ n := by
    unfold OpenLaw.pre at hc
    have h4 : (WTm.not (.lt (.lit (.int (n : Int))) (.len (.arg 0)))).holds [] { args := [.list (ns.map .int)] } = true := by
      have h4 := (holds_andW hc).1
      rw [hn] at h4
      exact h4
    have h5 := condW_of h4 (w_not (w_lt w_lit (w_len_list (w_arg rfl))))
    rw [List.length_map] at h5
    refine Nat.le_of_not_lt fun q => ?_
    have q' : (n : Int) < ((ns.length : Nat) : Int) := by omega
    first
      | (rw [decide_eq_true q'] at h5; exact absurd h5 (by decide))
      | (simp at h5; omega)
  cases hwl with
  | cons w1 w2 =>
    cases w2
    cases w1 with
    | list ho hall => exact ⟨_, _, ns, rfl, rfl, ho, ints_of_wellAll ns _ hall, hlen⟩

theorem post_true (l : OpenLaw) (args : List WData) : l.row.toRowW.claim.post args (.bool true) args = true :=
  postW_of (r := l.row.toRowW) (X := (true == true))
    (show WShape.has [] (.bool true) .bool = true by first | rfl | decide | simp [WShape.has, WShape.arms, WShape.armsAll])
    (show (WTm.eq .res (.lit (.bool true))).value [] { args := args, res := some (.bool true), after := args } = some (.bool (true == true)) from w_eq_bool (w_res rfl) w_lit) rfl

/-! ### the attachment: holds_open's last premise (the goal 'hc' behind k_head) from a wpAny of the law's body -/

/-- the same from a codeAny of the CALL (for a layer whose function contracts speak of calls) -/
theorem attach_call {l : OpenLaw} {n : Nat} {q : Program} {loose : List Str} {XP : (Str → Option Value) → Heap → Prop} {YP : World → Heap → Prop} {d : DefRec}
    (hn : l.most = some n) (hdf : d.params.defaults = [])
    (call : ∀ (w : World) (s₀ s₁ : Shared) (mg mb : Str → Option Value) (fa : Addr) (o : Obj) (pm cd doc : Value) (a : Addr) (vs : List Value) (ns : List Int),
      Ground q loose [] XP w s₀ mg mb s₁.heap → YP w s₁.heap →
      s₁.heap.get? fa = some o → o.data = .func (docDef d.name d.params d.body d.scope pm cd doc) → s₁.heap.CodeRec cd d.name → mg d.name = some (.ref fa) →
      s₁.heap.get? a = some { cls := .type "list", data := .seq vs.toArray } → IntsAre vs ns → ns.length ≤ n → s₁.gens = #[] →
      codeAny (model l.prog w) callerA (.call (.ref fa) ⟨[.ref a], []⟩) (fun r s' => r = .ok (.ret (.bool true)) ∧ OldK s₁.heap s'.heap ∧ s'.os = s₁.os ∧ AllBare s'.gens) s₁) :
    WalkO q loose XP YP l.row.toRowW d [] (fun f vs => PySem.call f vs) := by
  intro w s₀ s₁ mg mb G Y fa o pm cd doc dV kV ho hd hcd hD hmg hg args vals as hpre hlay hrd hwl hlo
  obtain rfl : dV = .none := Dflts.none hD hdf
  obtain rfl : kV = .none := Dflts.noKw hD
  obtain ⟨a, vs, ns, rfl, rfl, hobj, hints, hlen⟩ := script_of hn hpre hwl
  refine enter_call (codeAny_mono (call w s₀ s₁ mg mb fa o pm cd doc a vs ns G Y ho (fd_plain hd) hcd hmg hobj hints hlen hg) fun r s' hq => ?_)
  obtain ⟨rfl, h2, h3, h4⟩ := hq
  exact ⟨.inl ⟨.bool true, .bool true, [], rfl, fun _ => rfl, .bool true, post_true l _, fun _ => ⟨List.Pairwise.nil, fun _ hm => (nomatch hm)⟩⟩, h2, h3, h4⟩


/-! ### rules over ANY heap (no ledger) from facts about the written part K: the library's own take a ledger (News) for what they write -/
section
variable {prog : Program} {w : World} {A : Around} {E : Value → Shared → Prop} {s : Shared} {K : Frag}





/-! the whole heap as the ledger: makes every rule that writes through a ledger a rule over any heap -/
def noObjs (h : Heap) : Heap := { h with objs := #[] }
def ledger (h : Heap) (L d : Addr) : List (Addr × Obj) := (List.range h.objs.size).filterMap fun a => if a = L ∨ a = d then none else (h.get? a).map fun o => (a, o)

end
end Att

namespace L2
open PySem PySem.Spec PyProof.Rows

theorem vals_ints : ∀ {vs : List Value} {ns : List Int}, IntsAre vs ns → Vals (ns.map V.int) vs
  | _, _, .nil => .nil
  | _, _, .cons n t h => .cons ⟨t, rfl⟩ (vals_ints h)

/-- nothing is tracked but the script, known to the object (or it is an object of the module) -/
def Only (H : Hp) : Prop := ∀ b, H b = none ∨ ∃ o xs, H b = some (.frz o (.lst xs))

/-- THE HEAD: the law's promise, at the heap behind the top. F, the promise of the law's def, may use that base is part of the heap (so K.In base, base.Ns mainGlobals mg stand in Mod) -/
theorem law_call {P : Program} {w : World} {K : PySem.W.Frag} {mg mb : Str → Option Value} {CX : CXT} {k : Nat} {fa a : Addr} {fd : FuncData} {x : Str} {sp : Sp} {s₁ : Shared} {vs : List Value} {ns : List Int}
    (KX : K.In s₁.heap) (hns : s₁.heap.Ns mainGlobals mg) (hb : s₁.heap.Ns builtinsNs mb) (hbb : ∀ x : Str, x ≠ "__name__" → mb x = bootBuiltins x) (hlim : s₁.heap.NoLimit) (hg : s₁.gens = #[])
    (ha : s₁.heap.get? a = some { cls := .type "list", data := .seq vs.toArray }) (hi : IntsAre vs ns) (hl : ns.length ≤ sizeLine) (hr : Room k callerA)
    (F : ∀ base : Heap, K.In base → base.Ns mainGlobals mg → FnOk P w K mg base CX k fa fd [x] sp) (hbind : ∀ (s : Shared) (u : Value), BindsTo s fd ⟨[u], []⟩ [(x, u)])
    (hsp : ∀ H : Hp, Only H → SqL K H a (ns.map V.int) → sp [.ref a] H (fun v _ => v = .bl true) fun _ _ _ => False)
    (hCX : ∀ H e s', CX [] H s₁ (fun _ _ _ => False) e s' → False) :
    codeAny (model P w) callerA (.call (.ref fa) ⟨[.ref a], []⟩) (fun r s' => r = .ok (.ret (.bool true)) ∧ OldK s₁.heap s'.heap ∧ s'.os = s₁.os ∧ AllBare s'.gens) s₁ := by
  have rv := vals_ints hi
  have lenV := hi.length
  -- from an abstract heap in which nothing but the script may be tracked
  have core : ∀ H : Hp, Only H → SqL K H a (ns.map V.int) → HOk P w H s₁.heap → (∀ b, H b ≠ none → b = a) → (H a ≠ none → K.lookup a = none) →
      codeAny (model P w) callerA (.call (.ref fa) ⟨[.ref a], []⟩) (fun r s' => r = .ok (.ret (.bool true)) ∧ OldK s₁.heap s'.heap ∧ s'.os = s₁.os ∧ AllBare s'.gens) s₁ := by
    intro H hO hS hok hA hK
    have base_of : ∀ {b : Addr} {o : Obj}, s₁.heap.get? b = some o → H b = none → (hidT s₁.heap H).get? b = some o := fun e n => hidT_get e n
    have noA : ∀ {b : Addr} {o : Obj} {es : Array DictEntry} {ep : Nat}, s₁.heap.get? b = some o → o.data = .dict es ep → H b = none := fun {b o es ep} e d => by
      cases q : H b with
      | none => rfl
      | some u =>
        have e' : b = a := hA b (by rw [q]; simp)
        subst e'
        rw [ha] at e; cases e
        have d' : Data.seq vs.toArray _ = Data.dict es ep := d
        cases d'
    have nsK : ∀ {b : Addr} {m : Str → Option Value}, s₁.heap.Ns b m → (hidT s₁.heap H).Ns b m := fun {b m} ⟨o, es, ep, e, d, r⟩ => ⟨o, es, ep, base_of e (noA e d), d, r⟩
    have hKb : K.In (hidT s₁.heap H) := fun b o e => base_of (KX b o e) (by
      cases q : H b with
      | none => rfl
      | some u =>
        have e' : b = a := hA b (by rw [q]; simp)
        subst e'
        rw [hK (by rw [q]; simp)] at e; cases e)
    have hM : Mod K mg (hidT s₁.heap H) := ⟨hKb, nsK hns, ⟨mb, nsK hb, hbb⟩, let ⟨mc, h1, h2⟩ := hlim; ⟨mc, nsK h1, h2⟩⟩
    have e0 : Env0 P w K mg (hidT s₁.heap H) callerA [] s₁ H := ⟨rfl, hM, fun b o e => of_hidT e, Nat.le_of_eq (hidT_size _ _), trivial, fun b hb => absurd (show b ∈ ([] : List Addr) from hb) (by simp), hok, .of_eq hg⟩
    refine codeAny_mono ((F _ hKb (nsK hns)).run callerA [] s₁ H ⟨[.ref a], []⟩ [.ref a] [.ref a] _ _ hr e0 (hbind s₁ (.ref a)) (.cons rfl .nil) (hsp H hO hS)) fun r s' h => ?_
    cases r with
    | error e => exact (hCX H e s' h).elim
    | ok fl =>
      cases fl with
      | next => exact False.elim h
      | brk => exact False.elim h
      | cont => exact False.elim h
      | ret u =>
        obtain ⟨v, H', os, bare, un, hok', r', q⟩ := h
        have q' : v = .bl true := q
        subst q'
        obtain rfl : u = Value.bool true := r'
        refine ⟨rfl, OldK.of_keep fun b o e => ?_, os, bare⟩
        cases q : H b with
        | none => exact un.keep b o e q (by intro z; exact absurd (show b ∈ ([] : List Addr) from z) (by simp)) (by simp)
        | some u =>
          rcases hO b with z | ⟨ob, xs, z⟩
          · rw [q] at z; cases z
          · have z2 := un.frzs b ob _ z
            obtain ⟨e1, _⟩ := hok b _ z
            obtain ⟨e2, _⟩ := hok' b _ z2
            rw [e] at e1; cases e1
            exact e2
  cases hk : K.lookup a with
  | some o =>
    -- the script is one of the module's own objects
    have e := KX a o hk
    rw [ha] at e
    cases e
    refine core (fun _ => none) (fun _ => .inl rfl) (.inr ⟨_, vs.toArray, _, hk, rfl, rfl, rfl, by rw [List.size_toArray, lenV]; exact hl, by simpa using rv⟩) (fun b u z => by have z' : (none : Option HO) = some u := z; cases z') (fun b z => absurd rfl z) fun z => absurd rfl z
  | none =>
    refine core (fun b => if b = a then some (.frz { cls := .type "list", data := .seq vs.toArray } (.lst (ns.map V.int))) else none) (fun b => ?_) (.inl (.inr ⟨{ cls := .type "list", data := .seq vs.toArray }, if_pos rfl⟩)) (fun b u z => ?_) (fun b z => ?_) fun _ => hk
    · by_cases hb : b = a
      · exact .inr ⟨_, _, if_pos hb⟩
      · exact .inl (if_neg hb)
    · by_cases hb : b = a
      · have z' := (if_pos hb).symm.trans z
        cases z'
        subst hb
        exact ⟨ha, by rw [List.length_map]; exact hl, vs, _, rv, ha⟩
      · have z' := (if_neg hb).symm.trans z
        cases z'
    · by_cases hb : b = a
      · exact hb
      · exact absurd (if_neg hb) z
end L2

namespace L2
open PySem PySem.Spec PyProof.Rows

abbrev KOf {K : PySem.W.Frag} {h : Heap} (_ : K.In h) : PySem.W.Frag := K

/-- the goal that k_head leaves (case hc), from the law's promise. F gives the function object fd (K's own) once, then the promise over every base -/
theorem walk_of {l : PySem.W.OpenLaw} {n k : Nat} {q : Program} {loose : List Str} {XP : (Str → Option Value) → Heap → Prop} {YP : World → Heap → Prop} {d : DefRec} {K : Params → PySem.W.Frag} {CX : World → CXT} {sp : World → Sp} {x : Str}
    (hn : l.most = some n) (hn2 : n ≤ sizeLine) (hdf : d.params.defaults = []) (hr : Room k callerA)
    (hY : ∀ (w : World) (h : Heap), YP w h → (K w.params).In h)
    (F : ∀ (w : World) (mg : Str → Option Value) (fa : Addr) (h : Heap), (K w.params).In h → h.Ns mainGlobals mg → mg d.name = some (.ref fa) →
      ∃ fd : FuncData, (∀ (s : Shared) (u : Value), BindsTo s fd ⟨[u], []⟩ [(x, u)]) ∧
        ∀ base : Heap, (K w.params).In base → base.Ns mainGlobals mg → FnOk l.prog w (K w.params) mg base (CX w) k fa fd [x] (sp w))
    (hsp : ∀ (w : World) (H : Hp) (a : Addr) (ns : List Int), ns.length ≤ n → Only H → SqL (K w.params) H a (ns.map V.int) → sp w [.ref a] H (fun v _ => v = .bl true) fun _ _ _ => False)
    (hCX : ∀ (w : World) (H : Hp) (s : Shared) (e : Value) (s' : Shared), CX w [] H s (fun _ _ _ => False) e s' → False) :
    PySem.W.WalkO q loose XP YP l.row.toRowW d [] (fun f vs => PySem.call f vs) := by
  refine Att.attach_call hn hdf fun w s₀ s₁ mg mb fa o pm cd doc a vs ns G Y ho hd hcd hmg hobj hints hlen hg => ?_
  have KX := hY w _ Y
  obtain ⟨fd, hb, hF⟩ := F w mg fa _ KX G.T.g hmg
  exact law_call KX G.T.g G.T.b G.T.builtins G.T.nolimit hg hobj hints (Nat.le_trans hlen hn2) hr hF hb (fun H hO hS => hsp w H a ns hlen hO hS) fun H e s' => hCX w H s₁ e s'
end L2



/-! SHORT WORDS over the layer: a def of the text, its body, what a loop and a test want. -/
namespace L2
open PySem PySem.Spec PyProof.Rows

/-! ### the text by places -/
/-- the j-th statement of a class's body -/
def inClass (s : Stmt) (j : Nat) : Stmt := match s with
  | .ClassDef _ _ _ body _ _ _ _ _ _ _ => body.getD j (.Pass ⟨0, 0, 0, 0⟩)
  | _ => .Pass ⟨0, 0, 0, 0⟩
def defArgs (s : Stmt) : Arguments := match s with
  | .FunctionDef _ a _ _ _ _ _ _ _ _ => a
  | _ => { posonlyargs := [], args := [], vararg := none, kwonlyargs := [], kw_defaults := [], kwarg := none, defaults := [] }
def defBody (s : Stmt) : List Stmt := match s with
  | .FunctionDef _ _ b _ _ _ _ _ _ _ => b
  | _ => []
def defScope (s : Stmt) : Scope := match s with
  | .FunctionDef _ _ _ _ _ _ sc _ _ _ => sc
  | _ => { kind := .function, names := [], isGenerator := false, isCoroutine := false }

/-! ### no exception leaves a def -/
abbrev CX0 : CXT := fun _ _ _ _ _ _ => False
abbrev E0 : XK := fun _ _ _ => False
theorem pass0 {X : Cx} : Passes CX0 X E0 := fun _ _ _ _ _ _ _ h => h.elim

/-! ### a def (or method) of the text as it stands behind the top -/
structure Fun (K : PySem.W.Frag) (x qual : Str) (st : Stmt) (f : Addr) (fd : FuncData) : Prop where
  ex : ∃ (oc : Value) (od : Option Addr) (kV doc pm : Value) (an : Option Addr) (cdv ct : Value) (osl : Array (Option Value)),
    fd = PySem.W.fnOf x qual (defArgs st) (defBody st) (defScope st) .none kV doc pm an cdv ct ∧ K.lookup f = some ⟨oc, od, .func fd, osl⟩ ∧ PySem.W.codeIn K cdv qual = true
  kp : PySem.W.keepIn K (.ref f) = true
section
variable {P : Program} {w : World} {K : PySem.W.Frag} {mg : Str → Option Value} {base : Heap}
/-- THE RULE for a def: its body as a term of rules, and the reading of that term -/
theorem Fun.ok {x qual : Str} {st : Stmt} {f : Addr} {fd : FuncData} {N ps : List Str} {k : Nat} {sp : Sp} (F : Fun K x qual st f fd) (S : FnScope N ps (defScope st)) (len : ∀ vs H Q E, sp vs H Q E → vs.length = ps.length)
    (hbody : ∀ (cdv : Value) (A : Around) (outer : List Env) (s : Shared) (H : Hp) (vs : List V) (Q : VK) (E : XK), Room k (A.deeper (envOfC qual (defScope st) s.heap.objs.size f cdv)) → sp vs H Q E →
      ∃ t, PSs (cxOf CX0 P w K mg base N qual (defScope st) f cdv A outer s H E).nox (defBody st) t ∧ t { nx := fun _ H' => Q .non H', rt := Q } (start N vs) H) : FnOk P w K mg base CX0 (k + 1) f fd ps sp := by
  obtain ⟨oc, od, kV, doc, pm, an, cdv, ct, osl, rfl, lk, hcd⟩ := F.ex
  refine fn_of lk hcd S len fun A outer s H vs Q E hr hsp => ?_
  obtain ⟨t, h, q⟩ := hbody cdv A outer s H vs Q E hr hsp
  exact ⟨t, h.nox, q⟩
/-- how its arguments bind (no defaults): h is «fun _ _ _ _ _ _ us hl => match us, hl with | [_, _], _ => rfl», one _ a parameter -/
theorem Fun.binds {x qual : Str} {st : Stmt} {f : Addr} {fd : FuncData} {ps : List Str} (F : Fun K x qual st f fd)
    (h : ∀ (kV doc pm : Value) (an : Option Addr) (cdv ct : Value) (us : List Value), us.length = ps.length → bindArgs (PySem.W.fnOf x qual (defArgs st) (defBody st) (defScope st) .none kV doc pm an cdv ct) ⟨us, []⟩ = pure (ps.zip us)) : Binds K fd ps [] := by
  obtain ⟨oc, od, kV, doc, pm, an, cdv, ct, osl, rfl, lk, hcd⟩ := F.ex
  exact .all (h kV doc pm an cdv ct)
theorem fun_mk {x qual : Str} {st : Stmt} {f : Addr} {oc : Value} {od an : Option Addr} {osl : Array (Option Value)} {kV doc pm cdv ct : Value} (l : K.lookup f = some ⟨oc, od, .func (PySem.W.fnOf x qual (defArgs st) (defBody st) (defScope st) .none kV doc pm an cdv ct), osl⟩)
    (c : PySem.W.codeIn K cdv qual = true) (k : PySem.W.keepIn K (.ref f) = true) : Fun K x qual st f (PySem.W.fnOf x qual (defArgs st) (defBody st) (defScope st) .none kV doc pm an cdv ct) := ⟨⟨oc, od, kV, doc, pm, an, cdv, ct, osl, rfl, l, c⟩, k⟩
end
theorem hu_of {A : Around} {k : Nat} (hr : Room k A) : A.units + 1 < cLine := Nat.lt_of_le_of_lt (Nat.add_le_add_left (by decide : 1 ≤ 64) _) hr.units

/-! ### expressions in short: the name that stands in the i-th slot -/
section
variable {X : Cx}
theorem pv (i : Nat) {x : Str} {pos : Pos} (hN : X.N[i]? = some x := by rfl) (hv : Vis X.env.scope x := by first | exact Or.inl rfl | exact Or.inr (Or.inl rfl) | exact Or.inr (Or.inr rfl)) (hd : (x == ("__debug__" : Str)) = false := by decide)
    (hcd : (x == ("__classdict__" : Str)) = false := by decide) : PE X (.Name x pos) (tVar i) := pe_var hN hv hd hcd
end

/-! ### tests -/
theorem iteF {A B : Prop} (h : B) : if false = true then A else B := by
  rw [if_neg Bool.false_ne_true]
  exact h
theorem iteT {A B : Prop} (h : A) : if true = true then A else B := by
  rw [if_pos rfl]
  exact h
theorem ite2 {c A B : Prop} [Decidable c] (h1 : c → A) (h2 : ¬ c → B) : if c then A else B := by
  by_cases h : c
  · rw [if_pos h]
    exact h1 h
  · rw [if_neg h]
    exact h2 h

/-! ### heaps -/
/-- all that was tracked is as it was -/
def Same (H H' : Hp) : Prop := ∀ b o, H b = some o → H' b = some o
theorem Same.refl (H : Hp) : Same H H := fun _ _ h => h
theorem Same.trans {H H1 H2 : Hp} (a : Same H H1) (b : Same H1 H2) : Same H H2 := fun c o h => b c o (a c o h)
theorem Same.free {H H' : Hp} (e : Same H H') {l : Addr} (h : H' l = Option.none) : H l = Option.none := by
  cases q : H l with
  | none => rfl
  | some o =>
    rw [e l o q] at h
    cases h
theorem Same.seq {K : PySem.W.Frag} {H H' : Hp} {a : Addr} {xs : List V} (e : Same H H') (h : SqL K H a xs) : SqL K H' a xs := by
  rcases h with (h | ⟨o, h⟩) | h
  · exact .inl (.inl (e _ _ h))
  · exact .inl (.inr ⟨o, e _ _ h⟩)
  · exact .inr h

end L2

set_option linter.all false
/-! The table of a set of ints: its places rise, so a walk meets each member once. Own work. -/
namespace SetPure
open PySem







/-- a table whose places rise and that has no dummies -/
def Good (t : SetTable) : Prop := t.place.toList.Pairwise (· < ·) ∧ t.dummies = #[]




end SetPure

set_option linter.all false
set_option maxRecDepth 100000
set_option maxHeartbeats 4000000
/-! A set of ints that is filled: which members, and that its table is good. Own work. -/
namespace SI
open PySem SetPure


def IsE (e : Int × Value) : Prop := ∃ k t, e = (hashInt k, Value.int k t)
def keyOf (e : Int × Value) : Int := match e.2 with
  | .int k _ => k
  | _ => 0
def SetW (h : Heap) (a : Addr) (led : Bool) (ks : List Int) : Prop :=
  ∃ o es ep t, h.get? a = some o ∧ o.ExactSet ∧ o.data = .set es ep t ∧ (∀ e ∈ es.toList, IsE e) ∧ (es.toList.map keyOf).Perm ks ∧ ks.Nodup ∧ es.size < scanBound ∧ t.fits es.size = true ∧ Good t ∧ t.led = led


section
variable {prog : Program} {w : World} {A : Around} {E : Value → Shared → Prop} {s : Shared}



end
end SI

set_option linter.all false
set_option maxRecDepth 100000
set_option maxHeartbeats 4000000
namespace SI
open PySem SetPure
section
variable {prog : Program} {w : World} {A : Around} {E : Value → Shared → Prop} {s : Shared}

end
end SI

set_option linter.all false
set_option maxRecDepth 100000
set_option maxHeartbeats 4000000
namespace SI
open PySem SetPure
section
variable {prog : Program} {w : World} {A : Around} {E : Value → Shared → Prop} {s : Shared}

/-- an iterator of the set at a: its first field, its turn -/
def ItAt (h : Heap) (it a : Addr) (first : Value) (i n ep : Nat) : Prop :=
  ∃ oi, h.get? it = some oi ∧ oi.cls = .type "set_iterator" ∧ oi.data = .fields #[first, .int i 0, .ref a, .int n 0, .int ep 0]







end
end SI

set_option linter.all false
set_option maxRecDepth 100000
set_option maxHeartbeats 4000000
namespace SI
open PySem SetPure
section
variable {prog : Program} {w : World} {A : Around} {E : Value → Shared → Prop} {s : Shared}


/-- ints in a list of values, in the order of ks -/
def IntVals (vs : List Value) (ks : List Int) : Prop := vs.length = ks.length ∧ ∀ (i : Nat) v k, vs[i]? = some v → ks[i]? = some k → ∃ t, v = .int k t

end
end SI

set_option linter.all false
set_option maxRecDepth 100000
set_option maxHeartbeats 4000000
namespace SI
open PySem SetPure PyProof.Rows
section
variable {prog : Program} {w : World} {A : Around} {R : Result → Shared → Prop} {I : Addr} {fp wr : List Addr} {G : Array GenState → Array GenState → Prop} {n : Nat} {P : Nat → Value → Prop} {St : Nat → Shared → Prop}
end
section
variable {prog : Program} {w : World} {A : Around} {E : Value → Shared → Prop} {s : Shared}
end
end SI

set_option linter.all false
set_option maxRecDepth 100000
set_option maxHeartbeats 4000000
namespace SI
open PySem SetPure PyProof.Rows
section
variable {prog : Program} {w : World} {A : Around} {E : Value → Shared → Prop} {s : Shared}
end
end SI

set_option Elab.async false
set_option linter.all false
set_option maxRecDepth 100000
set_option maxHeartbeats 4000000
/-! A list comprehension of one clause over the hand layer: own work. -/
namespace L2
open PySem PySem.Spec PyProof.Rows

section
variable {prog : Program} {w : World} {A : Around} {R : Result → Shared → Prop} {s : Shared}
/-- the loop of a comprehension, its owned tuple let go, no exception within -/
theorem compLoop_own {elt target iter : Expr} {ifs : List Expr} {scope : Scope} {pos : Pos} {it acc : Value} {env : Env} (I : Nat → Shared → Prop)
    (turn : ∀ n s, I n s → wpAny (model prog w) A (pyNext it) (fun r s₁ => match r with
      | none => R (.ok .next) s₁
      | some v => wpAny (model prog w) A (letOwnedTupleGo target it v) (fun _ s₁' => wpAny (model prog w) A (assign target env v) (fun _ s₂ =>
          wpAny (model prog w) A (forIn ifs true fun c r => if r = true then do let ok ← isTrue c env (eval c env); pure (ForInStep.yield ok) else pure (ForInStep.yield r)) (fun ok s₃ =>
            if ok = true then wpAny (model prog w) A (eval elt env) (fun x s₄ =>
              wpAny (model prog w) A (call (.builtin "list.append") [acc, x]) (fun _ s₅ => ∃ m, m < n ∧ I m s₅) (fun _ _ => False) s₄) (fun _ _ => False) s₃
            else ∃ m, m < n ∧ I m s₃) (fun _ _ => False) s₂) (fun _ _ => False) s₁') (fun _ _ => False) s₁) (fun _ _ => False) s)
    (n : Nat) (h : I n s) : codeAny (model prog w) A (.compLoop (.ListComp elt [⟨target, iter, ifs, 0⟩] scope pos) 0 it acc env) R s := by
  refine codeAny_loop rfl I (fun n s hI => ?_) n h
  show wpAny _ A ((compTurn (.ListComp elt [⟨target, iter, ifs, 0⟩] scope pos) 0 it acc env).onRaise (fun x => do noteFrame x env; theTreesLotGoes x)) _ _ s
  refine wpAny_noted ?_
  rw [compTurn_list]
  refine wpAny_bind (wpAny_standAt (wpAny_bind (wpAny_mono (turn n s hI) (fun r s₁ h₁ => ?_) fun _ _ h' => h'.elim)))
  cases r with
  | none => exact wpAny_pure h₁
  | some v =>
    refine wpAny_bind (wpAny_mono h₁ (fun _ s₁' h₁' => wpAny_bind (wpAny_mono h₁' (fun _ s₂ h₂ => wpAny_bind (wpAny_mono h₂ (fun ok s₃ h₃ => ?_) fun _ _ h' => h'.elim)) fun _ _ h' => h'.elim)) fun _ _ h' => h'.elim)
    cases ok with
    | false => exact wpAny_pure ⟨rfl, h₃⟩
    | true =>
      exact wpAny_bind (wpAny_bind (wpAny_mono h₃ (fun x s₄ h₄ => wpAny_bind (wpAny_mono h₄ (fun _ s₅ h₅ => wpAny_pure (wpAny_pure ⟨rfl, h₅⟩)) fun _ _ h' => h'.elim)) fun _ _ h' => h'.elim))
end

/-- the cells that a comprehension's block takes from around it -/
theorem closure_of {scope : Scope} {env : Env} (h : ∀ y ∈ scope.names, y.2 = .free → ∃ c, env.cells.lookup y.1 = some c) :
    ∃ cl, closureFor scope env = pure cl ∧ (∀ x c, cl.lookup x = some c → env.cells.lookup x = some c) ∧ (∀ x, (x, NameKind.free) ∈ scope.names → ∃ c, cl.lookup x = some c) := by
  have key : ∀ (l : List (Str × NameKind)) (cs : List (Str × Addr)), (∀ y ∈ l, y.2 = .free → ∃ c, env.cells.lookup y.1 = some c) → (∀ x c, cs.lookup x = some c → env.cells.lookup x = some c) →
      ∃ cl, (forIn l cs (fun (p : Str × NameKind) (r : List (Str × Addr)) => (do
          if p.2 == NameKind.free then do
            let a ← cellOf env p.1
            pure (ForInStep.yield ((p.1, a) :: r))
          else pure (ForInStep.yield r) : Sem (ForInStep (List (Str × Addr)))))) = pure cl ∧ (∀ x c, cl.lookup x = some c → env.cells.lookup x = some c) ∧ (∀ x, ((x, NameKind.free) ∈ l ∨ ∃ c, cs.lookup x = some c) → ∃ c, cl.lookup x = some c) := by
    intro l
    induction l with
    | nil => intro cs _ hc; exact ⟨cs, rfl, hc, fun x hx => hx.elim (fun z => by cases z) id⟩
    | cons p r ih =>
      intro cs hl hc
      obtain ⟨n, k⟩ := p
      by_cases hk : k = .free
      · subst hk
        obtain ⟨c, e⟩ := hl (n, .free) List.mem_cons_self rfl
        obtain ⟨cl, e1, e2, e3⟩ := ih ((n, c) :: cs) (fun y hy => hl y (List.mem_cons_of_mem _ hy)) (fun x c' q => by
          rw [List.lookup_cons] at q
          by_cases hx : x == n
          · rw [hx] at q; cases q; rw [eq_of_beq hx]; exact e
          · have hx' : (x == n) = false := by simpa using hx
            rw [hx'] at q; exact hc x c' q)
        refine ⟨cl, ?_, e2, fun x hx => e3 x ?_⟩
        · rw [List.forIn_cons]
          have : (cellOf env n) = pure c := by unfold cellOf; rw [e]
          simp only [beq_self_eq_true, if_true, this, pure_bind]
          exact e1
        · rcases hx with hx | ⟨c', hx⟩
          · rcases List.mem_cons.mp hx with z | z
            · cases z; exact .inr ⟨c, by simp⟩
            · exact .inl z
          · by_cases q : x == n
            · exact .inr ⟨c, by rw [List.lookup_cons, q]⟩
            · have q' : (x == n) = false := by simpa using q
              exact .inr ⟨c', by rw [List.lookup_cons, q']; exact hx⟩
      · obtain ⟨cl, e1, e2, e3⟩ := ih cs (fun y hy => hl y (List.mem_cons_of_mem _ hy)) hc
        refine ⟨cl, ?_, e2, fun x hx => e3 x ?_⟩
        · rw [List.forIn_cons]
          have hb : (k == NameKind.free) = false := by simpa using hk
          simp only [hb, Bool.false_eq_true, if_false, pure_bind]
          exact e1
        · rcases hx with hx | hx
          · rcases List.mem_cons.mp hx with z | z
            · cases z; exact absurd rfl hk
            · exact .inl z
          · exact .inr hx
  obtain ⟨cl, e1, e2, e3⟩ := key scope.names [] h (fun x c q => by cases q)
  refine ⟨cl, ?_, e2, fun x hx => e3 x (.inl hx)⟩
  unfold closureFor
  have e1' := e1
  simp only [bind_pure] at e1' ⊢
  first
    | exact e1'
    | (rw [← e1']; rfl)
    | (show (forIn scope.names [] _ >>= fun r => pure r) = _; rw [bind_pure]; exact e1')
end L2

namespace L2
open PySem PySem.Spec PyProof.Rows

/-- what a comprehension's scope must be, over the def's own scope (outer), the def's names N; ks: which of N the block sees -/
structure LcS (outer names : List (Str × NameKind)) (N : List Str) (ks : List Bool) : Prop where
  fv : ∀ y ∈ names, y.2 = .free → outer.lookup y.1 = some .cell ∨ outer.lookup y.1 = some .free
  nocell : ∀ y ∈ names, y.2 ≠ .cell
  loc : ∀ y ∈ names, y.2 = .local → names.lookup y.1 = some .local
  free : ∀ y ∈ names, y.2 = .free → names.lookup y.1 = some .free
  vis : ∀ p ∈ N.zip ks, p.2 = true → names.lookup p.1 = some .free
  len : ks.length = N.length

/-- the values that the block sees -/
def mask (ks : List Bool) (σ : St) : St := List.zipWith (fun k v => if k then v else none) ks σ
theorem mask_get {ks : List Bool} {σ : St} {i : Nat} {v : V} (h : (mask ks σ)[i]? = some (some v)) : ks[i]? = some true ∧ σ[i]? = some (some v) := by
  unfold mask at h
  rw [List.getElem?_zipWith] at h
  cases e1 : ks[i]? with
  | none => rw [e1] at h; cases h
  | some k =>
    cases e2 : σ[i]? with
    | none => rw [e1, e2] at h; cases h
    | some u =>
      rw [e1, e2] at h
      cases k with
      | true => simp at h; subst h; exact ⟨rfl, rfl⟩
      | false => simp at h
theorem mask_len {ks : List Bool} {σ : St} (h : ks.length = σ.length) : (mask ks σ).length = σ.length := by
  unfold mask; rw [List.length_zipWith, h, Nat.min_self]

/-- the block's context -/
def cxLC (X : Cx) (scope : Scope) (cl : List (Str × Addr)) (ext : List Str) (C : Addr) (fp : List Addr) (s₀ : Shared) (H₀ : Hp) : Cx :=
  { X with N := X.N ++ ext, env := compEnvC scope cl C X.env, s₀ := s₀, H₀ := H₀, outer := X.stack, ex := fp, fn := fun _ => false, pn := [], xe := fun _ _ => False }

theorem relabel_kind {env : Env} : ∀ {names : List (Str × NameKind)} {x : Str} {k' : NameKind},
    (names.map fun (n, k) => if (k == NameKind.free && env.scope.kind == .function && env.kindOf n == some .cell) then (n, NameKind.cell) else (n, k)).lookup x = some k' →
    names.lookup x = some k' ∨ (k' = .cell ∧ names.lookup x = some .free)
  | [], _, _, h => by simp at h
  | (n, k) :: r, x, k', h => by
    have h : List.lookup x ((if (k == NameKind.free && env.scope.kind == .function && env.kindOf n == some .cell) = true then (n, NameKind.cell) else (n, k)) :: (r.map fun (n, k) => if (k == NameKind.free && env.scope.kind == .function && env.kindOf n == some .cell) then (n, NameKind.cell) else (n, k))) = some k' := h
    cases hx : x == n with
    | true =>
      by_cases hc : (k == NameKind.free && env.scope.kind == .function && env.kindOf n == some .cell) = true
      · rw [if_pos hc] at h
        simp only [List.lookup_cons, hx] at h
        cases h
        simp only [Bool.and_eq_true, beq_iff_eq] at hc
        exact .inr ⟨rfl, by simp only [List.lookup_cons, hx]; rw [hc.1.1]⟩
      · rw [if_neg hc] at h
        simp only [List.lookup_cons, hx] at h
        cases h
        exact .inl (by simp only [List.lookup_cons, hx])
    | false =>
      have h' : (r.map fun (n, k) => if (k == NameKind.free && env.scope.kind == .function && env.kindOf n == some .cell) then (n, NameKind.cell) else (n, k)).lookup x = some k' := by
        split at h <;> simpa only [List.lookup_cons, hx] using h
      simp only [List.lookup_cons, hx]
      exact relabel_kind h'
theorem relabel_free {env : Env} : ∀ {names : List (Str × NameKind)} {x : Str}, names.lookup x = some .free →
    (names.map fun (n, k) => if (k == NameKind.free && env.scope.kind == .function && env.kindOf n == some .cell) then (n, NameKind.cell) else (n, k)).lookup x = some .cell ∨
    (names.map fun (n, k) => if (k == NameKind.free && env.scope.kind == .function && env.kindOf n == some .cell) then (n, NameKind.cell) else (n, k)).lookup x = some .free
  | [], _, h => by simp at h
  | (n, k) :: r, x, h => by
    show List.lookup x ((if (k == NameKind.free && env.scope.kind == .function && env.kindOf n == some .cell) = true then (n, NameKind.cell) else (n, k)) :: _) = _ ∨ List.lookup x ((if (k == NameKind.free && env.scope.kind == .function && env.kindOf n == some .cell) = true then (n, NameKind.cell) else (n, k)) :: _) = _
    cases hx : x == n with
    | true =>
      simp only [List.lookup_cons, hx] at h
      cases h
      split
      · exact .inl (by simp only [List.lookup_cons, hx])
      · exact .inr (by simp only [List.lookup_cons, hx])
    | false =>
      simp only [List.lookup_cons, hx] at h
      have ih := @relabel_free env r x h
      split <;> simp only [List.lookup_cons, hx] <;> exact ih

/-- the block's entry -/
theorem inv_lc {X : Cx} {pins : List (Addr × Obj)} {σ : St} {H : Hp} {s : Shared} {scope : Scope} {cl : List (Str × Addr)} {ks : List Bool} {ext : List Str} {fp : List Addr} {C : Addr} {h1 : Heap} {tk : Nat}
    (I : Inv X pins σ H s) (S : LcS X.env.scope.names scope.names X.N ks) (hkind : scope.kind = .function) (c1 : ∀ x c, cl.lookup x = some c → X.env.cells.lookup x = some c) (c2 : ∀ x, (x, NameKind.free) ∈ scope.names → ∃ c, cl.lookup x = some c)
    (hfp : ∀ b ∈ fp, FpOk X pins H b) (hlt : ∀ b ∈ fp, b < s.heap.objs.size) (hC : C = s.heap.objs.size) (hn : h1.Ns C (fun _ => none)) (hk : ∀ b o, s.heap.get? b = some o → h1.get? b = some o) :
    Inv (cxLC X scope cl ext C fp s H) [] (mask ks σ ++ List.replicate ext.length none) H { s with heap := h1, toks := tk } := by
  have hlen : ks.length = σ.length := by rw [S.len, I.len]
  refine ⟨⟨I.ok.mod, hkind, I.ok.glob, I.ok.blt, Nat.le_of_eq hC.symm, fun x y c e1 e2 => I.ok.inj x y c (c1 x c e1) (c1 y c e2), fun x hx => ?_, (fun x c hf => by cases hf), I.ok.hd, I.ok.frames, .inl rfl, fun b hb => ⟨?_, fun x c e => (hfp b hb).2.2.2.2.1 x c (c1 x c e)⟩, I.bs, Nat.le_trans I.ok.bsz I.sz, fun b o e hb => ?_, fun b hb hz => ?_, I.stack, I.stkFree⟩,
    rfl, I.bare, Un.kept hk, ⟨_, hn, fun i x v e1 e2 e3 => ?_⟩, fun x c e => ?_, ?_, fun x c e => I.freeC x c (c1 x c e), fun p hp => absurd (show p ∈ ([] : List (Addr × Obj)) from hp) (by simp), I.hok.kept hk, ?_⟩
  · -- a cell for each cell or free name
    have hx' : (relabel scope X.env).names.lookup x = some .cell ∨ (relabel scope X.env).names.lookup x = some .free := hx
    have hfree : scope.names.lookup x = some .free := by
      rcases hx' with q | q
      · rcases relabel_kind q with z | ⟨_, z⟩
        · exact absurd rfl (S.nocell _ (PySem.mem_of_lookup z))
        · exact z
      · rcases relabel_kind q with z | ⟨z, _⟩
        · exact z
        · cases z
    exact c2 x (PySem.mem_of_lookup hfree)
  · intro z
    have h0 := hlt b hb
    have z' : b = C := z
    rw [z', hC] at h0
    exact Nat.lt_irrefl _ h0
  · obtain ⟨_, _, _, h4, _, _⟩ := hfp b hb
    rcases h4 with z | z
    · exact I.ok.noex b o e z
    · exact absurd (Heap.lt_size (I.ok.bs b o e).1) (Nat.not_lt.mpr z)
  · have hz' : b ∈ frs X.stack := hz
    rcases List.mem_cons.mp (I.stkSub b hz') with q | q
    · exact (hfp b hb).2.1 q
    · exact (hfp b hb).2.2.1 q
  · have hi : i < (mask ks σ).length := by
      by_cases hi : i < (mask ks σ).length
      · exact hi
      · rw [List.getElem?_append_right (by omega), List.getElem?_replicate] at e2
        split at e2 <;> cases e2
    rw [List.getElem?_append_left hi] at e2
    obtain ⟨k1, k2⟩ := mask_get e2
    have hiN : i < X.N.length := by rw [← I.len]; rw [mask_len hlen] at hi; exact hi
    have e1' : X.N[i]? = some x := by
      have : (X.N ++ ext)[i]? = some x := e1
      rwa [List.getElem?_append_left hiN] at this
    have hz : (x, true) ∈ X.N.zip ks := by
      rw [List.mem_iff_getElem?]
      exact ⟨i, by rw [List.getElem?_zip_eq_some]; exact ⟨e1', k1⟩⟩
    have hfree := S.vis (x, true) hz rfl
    have hvis : X.env.kindOf x = some .cell ∨ X.env.kindOf x = some .free := S.fv (x, .free) (PySem.mem_of_lookup hfree) rfl
    obtain ⟨m, hm, hl⟩ := I.loc
    obtain ⟨u, r, l⟩ := hl i x v e1' k2 (hvis.elim (fun z => .inr (.inl z)) fun z => .inr (.inr z))
    refine ⟨u, r, .inr ⟨relabel_free hfree, ?_⟩⟩
    rcases l with ⟨z, _⟩ | ⟨_, c, ec, hc⟩
    · rcases hvis with q | q <;> · rw [q] at z; cases z
    · obtain ⟨c', ec'⟩ := c2 x (PySem.mem_of_lookup hfree)
      have := c1 x c' ec'
      rw [ec] at this; cases this
      obtain ⟨o, ho, hd⟩ := hc
      exact ⟨c, ec', o, hk c o ho, hd⟩
  · obtain ⟨v, o, ho, hd⟩ := I.cell x c (c1 x c e)
    exact ⟨v, o, hk c o ho, hd⟩
  · show H C = none
    rw [hC]; exact I.hok.fresh (Nat.le_refl _)
  · rw [List.length_append, List.length_replicate, mask_len hlen, I.len]
    show _ = (X.N ++ ext).length
    rw [List.length_append]
end L2

namespace L2
open PySem PySem.Spec PyProof.Rows

/-- the tests of a clause -/
def PTs (X : Cx) (ifs : List Expr) (t : TT) : Prop :=
  ∀ (pins : List (Addr × Obj)) (s : Shared) (σ : St) (H : Hp) (Q : Bool → Hp → Prop), Inv X pins σ H s → t σ H Q →
    wpAny (model X.prog X.w) X.A (forIn ifs true fun c r => if r = true then do let ok ← isTrue c X.env (eval c X.env); pure (ForInStep.yield ok) else pure (ForInStep.yield r)) (TP X pins σ Q) X.xe s
def tYes : TT := fun _ H Q => Q true H
theorem pts_nil {X : Cx} : PTs X [] tYes := fun _ _ σ H Q I h => wpAny_tests_nil ⟨H, I, h⟩
theorem pts_one {X : Cx} {c : Expr} {t : TT} (h : PT X c t) : PTs X [c] t := fun pins s σ H Q I q => wpAny_tests_one (h pins s σ H Q I q)

/-- the turns, by a word W of turn, measure, what was gathered, values, heap -/
def lcTurn (J : It) (D : Addr) (g : TG) (tt : TT) (te : TE) (Q : Hp → Prop) (W : Nat → Nat → List V → St → Hp → Prop) : Prop :=
  ∀ i m ys σ H, W i m ys σ H → (J.stop i H ∧ Q H) ∨ (J.go i H ∧ ∀ x H', J.yld i H x H' → g x σ H' fun σ2 H2 => tt σ2 H2 fun b H3 =>
    if b = true then te σ2 H3 fun y H4 => H4 D = some (.lst ys) ∧ ys.length < sizeLine ∧ ∃ m', m' < m ∧ W (i + 1) m' (ys ++ [y]) σ2 (upd H4 D (.lst (ys ++ [y])))
    else ∃ m', m' < m ∧ W (i + 1) m' ys σ2 H3)
def tLC (ks : List Bool) (e : Nat) (wi : TI) (g : TG) (tt : TT) (te : TE) : TE := fun σ H Q => wi σ H fun J H1 => ∀ D, H1 D = none →
  ∃ W : Nat → Nat → List V → St → Hp → Prop, (∃ m, W 0 m [] (mask ks σ ++ List.replicate e none) (upd H1 D (.lst []))) ∧ lcTurn J D g tt te (fun H2 => Q (.ref D) H2) W

structure Blk (X : Cx) (scope : Scope) (ext : List Str) (tg : Expr) (ifs : List Expr) (elt : Expr) (g : TG) (tt : TT) (te : TE) : Prop where
  pg : ∀ cl C fp s₀ H₀, PG (cxLC X scope cl ext C fp s₀ H₀) tg g
  pt : ∀ cl C fp s₀ H₀, PTs (cxLC X scope cl ext C fp s₀ H₀) ifs tt
  pe : ∀ cl C fp s₀ H₀, PE (cxLC X scope cl ext C fp s₀ H₀) elt te

theorem lc_core {X : Cx} {elt tg iter : Expr} {ifs : List Expr} {scope : Scope} {pos : Pos} {ks : List Bool} {ext : List Str} {g : TG} {tt : TT} {te : TE} {pins : List (Addr × Obj)} {σ : St} {H2 : Hp} {s2 : Shared} {cl : List (Str × Addr)}
    {it : Addr} {fp : List Addr} {tn : Nat → Heap → Prop} {J : It} {RR : Value → Addr → Result → Shared → Prop} {QD : Addr → Hp → Prop} {E : Value → Shared → Prop}
    (S : LcS X.env.scope.names scope.names X.N ks) (hkind : scope.kind = .function) (hc : X.calm = true) (B : Blk X scope ext tg ifs elt g tt te)
    (c1 : ∀ x c, cl.lookup x = some c → X.env.cells.lookup x = some c) (c2 : ∀ x, (x, NameKind.free) ∈ scope.names → ∃ c, cl.lookup x = some c)
    (I2 : Inv X pins σ H2 s2) (T : Turn X.prog X.w X.K tg J fp it tn) (st2 : tn 0 s2.heap) (f2 : ∀ b ∈ fp, FpOk X pins H2 b)
    (hW : ∀ D, H2 D = none → ∃ W : Nat → Nat → List V → St → Hp → Prop, (∃ m, W 0 m [] (mask ks σ ++ List.replicate ext.length none) (upd H2 D (.lst []))) ∧ lcTurn J D g tt te (QD D) W)
    (hRR : ∀ D C s4 H' m, Inv X pins σ H' s4 → FpOk X pins H' C → s4.heap.Ns C m → QD D H' → RR (.ref D) C (.ok .next) s4) :
    wpAny (model X.prog X.w) X.A (newList []) (fun acc s₃ => wpAny (model X.prog X.w) X.A (newFunctionEnv scope X.env.globals cl [] X.env.qual none .none (some X.env)) (fun cenv s₄ =>
      codeAny (model X.prog X.w) X.A (.compStart (.ListComp elt [⟨tg, iter, ifs, 0⟩] scope pos) 0 (.ref it) acc { cenv with scope := relabel scope X.env }) (RR acc cenv.locals) s₄) E s₃) E s2 := by
  have hcell : ∀ y ∈ scope.names, y.2 ≠ .cell := S.nocell
  refine wpAny_newObj_type (wpAny_newFunctionEnv hcell (by intro y hy; simp at hy) (fun h₁ hns₁ hsb₁ => ?_) hkind)
  dsimp only at hns₁ hsb₁ ⊢
  have fD : H2 s2.heap.objs.size = none := I2.hok.fresh (Nat.le_refl _)
  have I3 : Inv X pins σ (upd H2 s2.heap.objs.size (.lst [])) { s2 with heap := s2.heap.push { cls := .type "list", dict := none, data := .seq ([] : List Value).toArray } } :=
    I2.laid (t' := s2.toks) (fun b u e => Heap.get?_push_of_some _ e) (Nat.le_refl _) ⟨Nat.zero_le _, [], 0, .nil, Heap.get?_push_size _ rfl⟩
  obtain ⟨W, ⟨m0, w0⟩, turn⟩ := hW s2.heap.objs.size fD
  generalize hH3 : s2.heap.push { cls := .type "list", dict := none, data := .seq ([] : List Value).toArray } = h3 at hns₁ hsb₁ I3 ⊢
  have hsz : h3.objs.size = s2.heap.objs.size + 1 := by rw [← hH3, Heap.size_push]
  have hlt2 : ∀ b ∈ fp, b < s2.heap.objs.size := fun b hb => let ⟨o, e, _⟩ := T.obj 0 _ st2 b hb; Heap.lt_size e
  have hlt : ∀ b ∈ fp, b < h3.objs.size := fun b hb => Nat.lt_of_lt_of_eq (Nat.lt_succ_of_lt (hlt2 b hb)) hsz.symm
  have f3 : ∀ b ∈ fp, FpOk X pins (upd H2 s2.heap.objs.size (.lst [])) b := fun b hb => ⟨by rw [upd_ne (Nat.ne_of_lt (hlt2 b hb))]; exact (f2 b hb).1, (f2 b hb).2⟩
  have hk : ∀ b o, h3.get? b = some o → h₁.get? b = some o := fun b o e => hsb₁.extBut b o (Nat.ne_of_lt (Heap.lt_size e)) (Heap.get?_push_of_some _ e)
  have I4 : Inv (cxLC X scope cl ext h3.objs.size fp { s2 with heap := h3 } (upd H2 s2.heap.objs.size (.lst []))) [] (mask ks σ ++ List.replicate ext.length none) (upd H2 s2.heap.objs.size (.lst [])) { s2 with heap := h₁, toks := s2.toks + ([] : List (Str × Value)).length } :=
    inv_lc (C := h3.objs.size) I3 S hkind c1 c2 f3 hlt rfl (by simpa using hns₁) hk
  have st4 : tn 0 h₁ := T.keep _ _ _ st2 fun b hb o e => hk b o (by rw [← hH3]; exact Heap.get?_push_of_some _ e)
  have stat : ∀ {H' : Hp} {p' : List (Addr × Obj)}, p' = [] → (∀ b ∈ fp, H' b = none) → ∀ b ∈ fp, FpOk (cxLC X scope cl ext h3.objs.size fp { s2 with heap := h3 } (upd H2 s2.heap.objs.size (.lst []))) p' H' b := fun {H' p'} hp hn b hb => by
    subst hp
    exact ⟨hn b hb, (I4.ok.exf b hb).1, I4.ok.exfs b hb, .inl hb, fun x c e => (I4.ok.exf b hb).2 x c e, fun p hp => absurd (show p ∈ ([] : List (Addr × Obj)) from hp) (by simp)⟩
  have loop : ∀ s₃ : Shared, s₃ = { s2 with heap := h₁, toks := s2.toks + ([] : List (Str × Value)).length } →
      codeAny (model X.prog X.w) X.A (.compLoop (.ListComp elt [⟨tg, iter, ifs, 0⟩] scope pos) 0 (.ref it) (.ref s2.heap.objs.size) (compEnvC scope cl h3.objs.size X.env)) (RR (.ref s2.heap.objs.size) h3.objs.size) s₃ := by
    rintro s₃ rfl
    refine compLoop_own (fun n s' => ∃ i ys σ' H', Inv (cxLC X scope cl ext h3.objs.size fp { s2 with heap := h3 } (upd H2 s2.heap.objs.size (.lst []))) [] σ' H' s' ∧ tn i s'.heap ∧ (∀ b ∈ fp, H' b = none) ∧ W i n ys σ' H') ?_ m0
      ⟨0, [], _, _, I4, st4, fun b hb => (f3 b hb).1, w0⟩
    rintro n s' ⟨i, ys, σ', H', I', st', fr', w'⟩
    rcases turn i n ys σ' H' w' with ⟨stop, q⟩ | ⟨go, step⟩
    · refine thn (T.done (cxLC X scope cl ext h3.objs.size fp { s2 with heap := h3 } (upd H2 s2.heap.objs.size (.lst []))) rfl rfl rfl hc i [] s' σ' H' _ I' (stat rfl fr') st' stop) fun r s4 ⟨hr, J4⟩ => ?_
      subst hr
      show RR (.ref s2.heap.objs.size) h3.objs.size (.ok .next) s4
      obtain ⟨m, hn, _⟩ := J4.loc
      have fC : H' h3.objs.size = none := J4.free
      have IX : Inv X pins σ H' s4 := I3.call' (ch := fp) J4.os J4.base J4.hok J4.bare fun b hb => ⟨(f3 b hb).2.2.2.1, (f3 b hb).2.1, (f3 b hb).2.2.2.2.1, (f3 b hb).2.2.2.2.2⟩
      exact hRR _ _ s4 H' m IX (I3.fpOk (Nat.le_refl _) fC) hn q
    · refine thn (T.item (cxLC X scope cl ext h3.objs.size fp { s2 with heap := h3 } (upd H2 s2.heap.objs.size (.lst []))) rfl rfl rfl hc i [] s' σ' H' _ I' (stat rfl fr') st' go) fun r s4 ⟨u, hr, h4⟩ => ?_
      subst hr
      refine thn h4 fun _ s5 ⟨x, H5, I5, r5, y5, st5, fr5⟩ => ?_
      have I5' := I5.pinned (stat rfl fr5) (T.obj _ _ st5)
      refine thn (B.pg _ _ _ _ _ _ s5 σ' H5 x u _ I5' r5 (step x H5 y5)) fun _ s6 ⟨σ6, H6, I6, q6⟩ => ?_
      refine thn (B.pt _ _ _ _ _ _ s6 σ6 H6 _ I6 q6) fun ok s7 ⟨H7, I7, q7⟩ => ?_
      have again : ∀ {σ7 : St} {H8 : Hp} {s8 : Shared} {ys' : List V} {m' : Nat}, Inv (cxLC X scope cl ext h3.objs.size fp { s2 with heap := h3 } (upd H2 s2.heap.objs.size (.lst []))) ([] ++ pinsAt fp s5.heap) σ7 H8 s8 → m' < n → W (i + 1) m' ys' σ7 H8 →
          ∃ m, m < n ∧ ∃ i ys σ' H', Inv (cxLC X scope cl ext h3.objs.size fp { s2 with heap := h3 } (upd H2 s2.heap.objs.size (.lst []))) [] σ' H' s8 ∧ tn i s8.heap ∧ (∀ b ∈ fp, H' b = none) ∧ W i m ys σ' H' := fun {σ7 H8 s8 ys' m'} I8 hm w8 => by
        refine ⟨m', hm, i + 1, ys', σ7, H8, I8.unpinned, T.keep _ _ _ st5 fun b hb o e => (I8.pin (b, o) (List.mem_append_right _ (List.mem_append_right _ (mem_pinsAt hb e)))).1, fun b hb => ?_, w8⟩
        obtain ⟨o, e, d⟩ := T.obj _ _ st5 b hb
        exact (I8.pin (b, o) (List.mem_append_right _ (List.mem_append_right _ (mem_pinsAt hb e)))).2.1
      cases ok with
      | false =>
        obtain ⟨m', hm, w7⟩ := (show ∃ m', m' < n ∧ W (i + 1) m' ys σ6 H7 from q7)
        exact again I7 hm w7
      | true =>
        rw [if_pos rfl] at q7 ⊢
        refine thn (B.pe _ _ _ _ _ _ s7 σ6 H7 _ I7 q7) fun yv s8 ⟨y, H8, I8, r8, e8, z8, m', hm, w8⟩ => ?_
        refine thn (mt_append _ s8 σ6 H8 (.ref s2.heap.objs.size) [y] (.ref s2.heap.objs.size) [yv] (fun _ H9 => H9 = upd H8 s2.heap.objs.size (.lst (ys ++ [y]))) I8 rfl (.cons r8 .nil) ⟨_, ys, y, rfl, rfl, e8, z8, rfl⟩) fun _ s9 ⟨_, H9, I9, _, e9⟩ => ?_
        subst e9
        exact again I9 hm w8
  exact codeAny_compStart_list (loop _ rfl) (T.self _ 0 _ _ _ st4 (loop _ rfl))

section
variable {X : Cx} {elt tg iter : Expr} {ifs : List Expr} {scope : Scope} {pos : Pos} {ks : List Bool} {ext : List Str} {wi : TI} {g : TG} {tt : TT} {te : TE}

theorem lc_clos {pins : List (Addr × Obj)} {σ : St} {H : Hp} {s : Shared} (I : Inv X pins σ H s) (S : LcS X.env.scope.names scope.names X.N ks) :
    ∃ cl, closureFor scope X.env = pure cl ∧ (∀ x c, cl.lookup x = some c → X.env.cells.lookup x = some c) ∧ (∀ x, (x, NameKind.free) ∈ scope.names → ∃ c, cl.lookup x = some c) :=
  closure_of fun y hy hf => I.ok.has y.1 (S.fv y hy hf)

/-- [e for x in iter if ..] -/
theorem pe_lc (S : LcS X.env.scope.names scope.names X.N ks) (hc : X.calm = true) (hi : PI X tg iter wi) (B : Blk X scope ext tg ifs elt g tt te) (hkind : scope.kind = .function := by rfl)
    (hs : ∀ x, foldedSetIterable iter X.env x = pure x := by intro _; rfl) : PE X (.ListComp elt [⟨tg, iter, ifs, 0⟩] scope pos) (tLC ks ext.length wi g tt te) := by
  intro pins s σ H Q I h
  obtain ⟨cl, hcl, c1, c2⟩ := lc_clos I S
  rw [eval_ListComp]
  refine wpAny_comprehension_free (use := none) rfl hs hcl hkind S.loc (thn (hi pins s σ H _ I h) fun v s1 h1 => thn h1 fun itv s2 h2 => ?_)
  obtain ⟨it, fp, tn, J, H2, e, I2, T, st2, f2, hW⟩ := h2
  subst e
  refine lc_core (RR := fun acc C => compPost (model X.prog X.w) X.A X.xe none (EP X pins σ Q) acc C) (QD := fun D H' => Q (.ref D) H') S hkind hc B c1 c2 I2 T st2 f2 hW fun D C s4 H' m I4 fC hn q => ?_
  refine ⟨m, hn, fun h' sb => ⟨.ref D, H', ?_, rfl, q⟩⟩
  exact I4.turned (t' := s4.toks) (fun b o hb e => (sb.2 b hb).trans e) fC.1 fC.2.1 fC.2.2.2.1 fC.2.2.2.2.1 fC.2.2.2.2.2

/-- y = [e for x in iter if ..], y a plain local -/
theorem ps_lc {i : Nat} {y : Str} {py spos : Pos} (hN : X.N.Nodup) (hiN : X.N[i]? = some y) (hy : X.env.scope.names.lookup y = some .local) (S : LcS X.env.scope.names scope.names X.N ks) (hc : X.calm = true) (hi : PI X tg iter wi) (B : Blk X scope ext tg ifs elt g tt te) (hkind : scope.kind = .function := by rfl)
    (hsw : swapsWith (.ListComp elt [⟨tg, iter, ifs, 0⟩] scope pos) (some (.Name y py)) spos.line X.env = pure true := by rfl)
    (hs : ∀ x, foldedSetIterable iter X.env x = pure x := by intro _; rfl) : PS X (.Assign [.Name y py] (.ListComp elt [⟨tg, iter, ifs, 0⟩] scope pos) spos) (tAsg (tLC ks ext.length wi g tt te) (gName i)) := by
  intro pins s σ H D I h
  obtain ⟨cl, hcl, c1, c2⟩ := lc_clos I S
  rw [exec_Assign_Name_used _ _ _ _ hsw]
  refine wpAny_bind (wpAny_standAt (wpAny_bind ?_))
  show wpAny _ X.A (do let _ ← comprehension (.ListComp elt [⟨tg, iter, ifs, 0⟩] scope pos) scope X.env _ (newList []) false (eval iter X.env) (some (assign (.Name y py) X.env))) _ _ s
  refine wpAny_bind (wpAny_mono (wpAny_comprehension_free (use := some (assign (.Name y py) X.env)) (Q := fun _ s' => SP X pins D .next s') rfl hs hcl hkind S.loc
    (thn (hi pins s σ H _ I h) fun v s1 h1 => thn h1 fun itv s2 h2 => ?_)) (fun _ s' hq => wpAny_pure (wpAny_pure hq)) fun _ _ e => e)
  obtain ⟨it, fp, tn, J, H2, e, I2, T, st2, f2, hW⟩ := h2
  subst e
  refine lc_core (RR := fun acc C => compPost (model X.prog X.w) X.A X.xe (some (assign (.Name y py) X.env)) (fun _ s' => SP X pins D .next s') acc C) (QD := fun Dl H' => D.nx (σ.set i (some (.ref Dl))) H') S hkind hc B c1 c2 I2 T st2 f2 hW fun Dl C s4 H' m I4 fC hn q => ?_
  show wpAny _ X.A (assign (.Name y py) X.env (.ref Dl)) _ _ _
  refine wpAny_assign_Name (store_ok2 I4 hN hiN (.inl hy) (v := .ref Dl) rfl (fun s5 I5 ⟨a, sb, ha⟩ => ?_) (.inr hy))
  have hCa : C ≠ a := by
    rcases ha with rfl | ha
    · exact fC.2.1
    · exact fun z => fC.2.2.2.2.1 y a ha z.symm
  refine ⟨m, hn.sameBut sb hCa, fun h' sb' => ⟨_, H', ?_, q⟩⟩
  exact I5.turned (t' := s5.toks) (fun b o hb e => (sb'.2 b hb).trans e) fC.1 fC.2.1 fC.2.2.2.1 fC.2.2.2.2.1 fC.2.2.2.2.2
end

/-! ### forms -/
end L2

namespace L2
open PySem PySem.Spec PyProof.Rows
end L2

set_option Elab.async false
set_option linter.all false
set_option maxRecDepth 100000
set_option maxHeartbeats 4000000
/-! Rules over the hand layer: sets of ints, all, isinstance, == of lists. Own work. -/
namespace L2
open PySem PySem.Spec PyProof.Rows SI

section
variable {X : Cx}

/-- a set of ints at a -/
def setO (a : Addr) (led : Bool) (ks : List Int) : HO := .ext fun h => SetW h a led ks
abbrev Cx.led (X : Cx) : Bool := !X.w.params.followText "set-order"



/-- all(a list of bools) -/
theorem call_allB (hc : X.calm = true) : CallR X (.builtin "all") (fun xs H Q => ∃ (p : Addr) (bs : List Bool), xs = [.ref p] ∧ SqL X.K H p (bs.map V.bl) ∧ Q (.bl (bs.all id)) H) := by
  intro pins s σ H xs us Q I r h
  obtain ⟨p, bs, rfl, hq, q⟩ := h
  obtain ⟨u, rfl, rx⟩ := vals1 r
  cases rx
  obtain ⟨its, rv, pl, hz⟩ := I.list hq
  have hlen : bs.length = its.length := by have := rv.length; rw [List.length_map] at this; exact this
  have hp : p < s.heap.objs.size := by obtain ⟨o, ho, _⟩ := pl.isList; exact Heap.lt_size ho
  refine call_all_walk (wpAny_pyIter_list pl.isList ?_)
  refine ⟨s.heap.objs.size, _, _, _, _, _, fun i => bs.getD i true, rfl, Walks.list (by simpa using I.ok.hd hc) s.heap.objs.size p (Nat.ne_of_lt hp) its.toArray, ⟨⟨_, Heap.get?_push_size _ rfl, rfl, rfl⟩, pl.isList.push _⟩, ?_, fun h' tk hk => ?_⟩
  · intro i v s' Q' E' hv hq'
    have hv' : its[i]? = some v := by simpa using hv
    have hb : bs[i]? = some (bs.getD i true) := by
      have hi : i < its.length := (List.getElem?_eq_some_iff.mp hv').1
      have hi' : i < bs.length := by omega
      simp [List.getD, hi']
    obtain ⟨u, hu, ru⟩ := rv.get (i := i) (x := .bl (bs.getD i true)) (by rw [List.getElem?_map, hb]; rfl)
    rw [hv'] at hu
    cases hu
    cases (show v = Value.bool (bs.getD i true) from ru)
    exact wpAny_truthy_bool hq'
  · have hf := I.fpOk (H' := H) (Nat.le_refl s.heap.objs.size) (I.hok.fresh (Nat.le_refl _))
    have I1 : Inv X pins σ H { s with heap := h', toks := tk } := I.turned (it := s.heap.objs.size) (fun b o hb e => hk b o (by simpa using hb) (Heap.get?_push_of_some _ e)) hf.1 hf.2.1 (.inr I.sz) hf.2.2.2.2.1 hf.2.2.2.2.2
    refine ⟨.bl (bs.all id), H, I1, ?_, q⟩
    show Value.bool _ = Value.bool _
    congr 1
    have e : (List.range its.toArray.size).map (fun i => bs.getD i true) = bs := by
      apply List.ext_getElem?
      intro i
      rw [List.getElem?_map, List.size_toArray]
      by_cases hi : i < bs.length
      · have hi2 : i < its.length := by omega
        simp [hi, hi2]
      · have hi2 : ¬ i < its.length := by omega
        simp [hi, hi2]
    conv => rhs; rw [← e]
    rw [List.all_map]
    rfl

/-- a class, as a value -/
def clsV : V → Option Value
  | .ty n => some (.type n)
  | .ref C => some (.ref C)
  | _ => none
theorem clsV_of {c : V} {cv u : Value} (h : clsV c = some cv) (r : RelV c u) : u = cv := by
  cases c with
  | ty n => cases h; exact r
  | ref C => cases h; exact r
  | _ => cases h
/-- isinstance(x, c) -/
theorem call_isI : CallR X (.builtin "isinstance") (fun xs H Q => ∃ (x c : V) (cv t : Value) (b : Bool), xs = [x, c] ∧ clsV c = some cv ∧ TyOf X.K H x t ∧ PySem.W.kitOne X.K t cv = some b ∧ Q (.bl b) H) := by
  intro pins s σ H xs us Q I r h
  obtain ⟨x, c, cv, t, b, rfl, hcv, ty, hk, q⟩ := h
  obtain ⟨u, w', rfl, r1, r2⟩ := vals2 r
  have e := clsV_of hcv r2
  subst e
  exact isinst_ok I r1 ty hk fun tk => ⟨.bl b, H, I.tok tk, rfl, q⟩

/-- == of two lists of flat things -/
def eqVs : List V → List V → Bool
  | [], [] => true
  | x :: xs, y :: ys => eqV x y && eqVs xs ys
  | _, _ => false
theorem eqVs_len : ∀ {xs ys : List V}, eqVs xs ys = true → xs.length = ys.length
  | [], [], _ => rfl
  | [], _ :: _, h => by cases h
  | _ :: _, [], h => by cases h
  | x :: xs, y :: ys, h => by
    unfold eqVs at h
    rw [Bool.and_eq_true] at h
    simp [eqVs_len h.2]
theorem eqVs_all : ∀ {xs ys : List V}, xs.length = ys.length → eqVs xs ys = (List.range xs.length).all fun i => eqV (xs.getD i .non) (ys.getD i .non)
  | [], [], _ => rfl
  | [], _ :: _, h => by cases h
  | _ :: _, [], h => by cases h
  | x :: xs, y :: ys, h => by
    have ih := eqVs_all (xs := xs) (ys := ys) (by simpa using h)
    unfold eqVs
    rw [ih, List.length_cons, List.range_succ_eq_map, List.all_cons, List.all_map]
    rfl
theorem eqVs_ne {xs ys : List V} (h : xs.length ≠ ys.length) : eqVs xs ys = false := by
  cases e : eqVs xs ys with
  | false => rfl
  | true => exact absurd (eqVs_len e) h
def rEqL (K : PySem.W.Frag) (neg : Bool) : R2 := fun x y H Q => ∃ a b xs ys, x = .ref a ∧ y = .ref b ∧ SqL K H a xs ∧ SqL K H b ys ∧ xs.all flatV = true ∧ ys.all flatV = true ∧ Q (.bl (if neg then !eqVs xs ys else eqVs xs ys)) H
theorem op_eqL (hu : X.A.units + 1 < cLine) : OpR X (compareOp .Eq) (rEqL X.K false) := by
  intro pins s σ H x y v u Q I rx ry h
  obtain ⟨a, b, xs, ys, rfl, rfl, ha, hb, fx, fy, q⟩ := h
  cases rx
  cases ry
  obtain ⟨i1, r1, p1, z1⟩ := I.list ha
  obtain ⟨i2, r2, p2, z2⟩ := I.list hb
  have l1 := r1.length
  have l2 := r2.length
  by_cases hl : xs.length = ys.length
  · refine SeqAt.eq_listAt (e := fun i => eqV (xs.getD i .non) (ys.getD i .non)) p1.isList p2.isList (by simp; omega) (by omega) (fun j h1 h2 => ?_) ⟨.bl (eqVs xs ys), H, I, ?_, q⟩
    · simp only [List.size_toArray] at h1 h2
      have j1 : j < xs.length := by omega
      have j2 : j < ys.length := by omega
      obtain ⟨u1, e1, s1⟩ := r1.get (List.getElem?_eq_getElem j1)
      obtain ⟨u2, e2, s2⟩ := r2.get (List.getElem?_eq_getElem j2)
      rw [List.getElem?_eq_getElem h1] at e1
      rw [List.getElem?_eq_getElem h2] at e2
      cases e1
      cases e2
      have := eqAt_V (A := X.A.in1) (s := s) s1 s2 (List.all_eq_true.mp fx _ (List.getElem_mem j1)) (List.all_eq_true.mp fy _ (List.getElem_mem j2))
      simpa [List.getD, j1, j2] using this
    · show Value.bool _ = Value.bool _
      rw [eqVs_all hl, List.size_toArray, ← l1]
  · refine SeqAt.eq_list_lengthsAt p1.isList p2.isList (by simp; omega) (by omega) ⟨.bl (eqVs xs ys), H, I, ?_, q⟩
    rw [eqVs_ne hl]; rfl
/-- list + list, whatever is read -/
theorem int_in {n : Int} {ns : List Int} : inV (.int n) (ns.map V.int) = decide (n ∈ ns) := by
  unfold inV
  rw [List.any_map, Bool.eq_iff_iff, List.any_eq_true, decide_eq_true_eq]
  constructor
  · rintro ⟨m, hm, e⟩
    have e' : (m == n) = true := e
    rw [← eq_of_beq e']; exact hm
  · intro h
    exact ⟨n, h, by show (n == n) = true; simp⟩
theorem eqVs_ints : ∀ {ns ms : List Int}, eqVs (ns.map V.int) (ms.map V.int) = decide (ns = ms)
  | [], [] => rfl
  | [], _ :: _ => rfl
  | _ :: _, [] => rfl
  | n :: ns, m :: ms => by
    have ih := eqVs_ints (ns := ns) (ms := ms)
    show (eqV (.int n) (.int m) && eqVs (ns.map V.int) (ms.map V.int)) = _
    rw [ih]
    show ((n == m) && decide (ns = ms)) = _
    rw [Bool.eq_iff_iff]
    simp
end

theorem bt_len : bootBuiltins "len" = some (.builtin "len") := by decide +kernel
theorem bt_list : bootBuiltins "list" = some (.type "list") := by decide +kernel
theorem bt_all : bootBuiltins "all" = some (.builtin "all") := by decide +kernel
theorem bt_isinstance : bootBuiltins "isinstance" = some (.builtin "isinstance") := by decide +kernel
theorem bt_bool : bootBuiltins "bool" = some (.type "bool") := by decide +kernel
theorem bt_sum : bootBuiltins "sum" = some (.builtin "sum") := by decide +kernel
theorem same_upd {H : Hp} {l : Addr} {o : HO} (h : H l = none) : Same H (upd H l o) := fun b u e => by
  rw [upd_ne (ne_of_none e h)]; exact e
end L2

set_option Elab.async false
set_option linter.all false
set_option maxRecDepth 100000
set_option maxHeartbeats 4000000
/-! Rules over the hand layer: != of lists, sum, list(range(..)), bit_length. Own work. -/
namespace L2
open PySem PySem.Spec PyProof.Rows SI
section
variable {X : Cx}
theorem preSum_list : ∀ (ns : List Int) (n : Nat), n ≤ ns.length → preSum (fun i => ns.getD i 0) n = (ns.take n).sum
  | ns, 0, _ => by simp [preSum]
  | ns, n + 1, h => by
    have hn : n < ns.length := by omega
    have e : ns.take (n + 1) = ns.take n ++ [ns[n]] := by rw [List.take_succ, List.getElem?_eq_getElem hn]; rfl
    rw [preSum, preSum_list ns n (by omega), e, List.sum_append]
    simp [List.getD, List.getElem?_eq_getElem hn]
/-- sum(a list of ints) -/
theorem call_sumI (hc : X.calm = true) : CallR X (.builtin "sum") (fun xs H Q => ∃ (p : Addr) (ns : List Int), xs = [.ref p] ∧ SqL X.K H p (ns.map V.int) ∧ Q (.int ns.sum) H) := by
  intro pins s σ H xs us Q I r h
  obtain ⟨p, ns, rfl, hq, q⟩ := h
  obtain ⟨u, rfl, rx⟩ := vals1 r
  cases rx
  obtain ⟨its, rv, pl, hz⟩ := I.list hq
  have hI := intsAre_of rv
  have hlen : ns.length = its.length := by have := rv.length; rw [List.length_map] at this; exact this
  have hp : p < s.heap.objs.size := by obtain ⟨o, ho, _⟩ := pl.isList; exact Heap.lt_size ho
  refine call_sum_walkAnyS (wpAny_pyIter_list pl.isList ?_)
  refine ⟨s.heap.objs.size, _, _, _, _, _, _, fun i => ns.getD i 0, rfl, (Walks.list (by simpa using I.ok.hd hc) s.heap.objs.size p (Nat.ne_of_lt hp) its.toArray).toS, ⟨⟨_, Heap.get?_push_size _ rfl, rfl, rfl⟩, pl.isList.push _⟩, fun b hb => ?_, fun i v hv => ?_, fun s' t' hm => ?_⟩
  · simp only [List.mem_cons, List.not_mem_nil, or_false] at hb
    show b < (s.heap.push _).objs.size
    rw [Heap.size_push]
    rcases hb with rfl | rfl
    · exact Nat.lt_succ_self _
    · exact Nat.lt_succ_of_lt hp
  · exact IntsAre.int_at hI i v (by simpa using hv)
  · have hf := I.fpOk (H' := H) (Nat.le_refl s.heap.objs.size) (I.hok.fresh (Nat.le_refl _))
    have I1 : Inv X pins σ H { s with heap := s'.heap, toks := s'.toks } := I.turned (t' := s'.toks) (it := s.heap.objs.size) (fun b o hb e => hm.heap b o (by simpa using hb) (Heap.get?_push_of_some _ e)) hf.1 hf.2.1 (.inr I.sz) hf.2.2.2.2.1 hf.2.2.2.2.2
    have es0 := Moved.eq_with hm
    have es : s' = { s with heap := s'.heap, toks := s'.toks } := es0
    rw [es]
    refine ⟨.int ns.sum, H, I1, ⟨t', ?_⟩, q⟩
    rw [List.size_toArray, ← hlen, preSum_list ns ns.length (Nat.le_refl _), List.take_length]
/-- n.bit_length() -/
def rBitLen : V → List V → Hp → VK → Prop := fun x vs H Q => ∃ i, x = .int i ∧ vs = [] ∧ Q (.int (Builtin.Int.intBits i : Nat)) H
end
end L2

set_option Elab.async false
set_option linter.all false
set_option maxRecDepth 100000
set_option maxHeartbeats 4000000
/-! Rules over the hand layer: classes' functions, methods by class, pairs walked (enumerate, zip), tuples compared, is. Own work. -/
namespace L2
open PySem PySem.Spec PyProof.Rows SI
/-! ### records of an iterator that is more than one object -/
section
variable {X : Cx} {pins : List (Addr × Obj)} {σ : St} {H : Hp} {s : Shared} {h' : Heap}
theorem Inv.turnedL {ch : List Addr} {t' : Nat} (I : Inv X pins σ H s) (hch : ∀ b ∈ ch, FpOk X pins H b) (k : ∀ b u, b ∉ ch → s.heap.get? b = some u → h'.get? b = some u) : Inv X pins σ H { s with heap := h', toks := t' } := by
  have nit : ∀ b u, H b = some u → b ∉ ch := fun b u e z => by rw [(hch b z).1] at e; cases e
  refine I.step (g' := s.gens) (d' := s.drawn) (ch := ch) (fun b hb => ?_) (fun b o _ _ hc e _ => k b o hc e) (fun b o _ _ hc e _ => ⟨o.slots, k b o hc e⟩) (fun _ _ _ _ n => n)
    (fun b o hc e => ⟨o, k b o hc e⟩) (fun _ _ e => e) (fun _ _ _ e => e) (fun b ps e => ⟨#[], by rw [e]; simp⟩) (fun m hm => ?_) (fun b u e => ?_) I.bare
  · obtain ⟨f0, f1, f2, f3, f4, f5⟩ := hch b hb
    exact ⟨f3, f1, f4, f5⟩
  · obtain ⟨o, es, ep, ho, r⟩ := hm
    exact ⟨o, es, ep, k _ o (fun z => (hch _ z).2.1 rfl) ho, r⟩
  · refine (I.hok b u e).stay (fun c v hc q => k c v ?_ q) (fun _ q => q) fun _ _ q => q
    rcases hc with z | z
    · rw [z]; exact nit b u e
    · exact nit c _ z
theorem Inv.turnedLaid {ch : List Addr} {t' : Nat} {n : Addr} {ob : HO} (I : Inv X pins σ H s) (hch : ∀ b ∈ ch, FpOk X pins H b) (k : ∀ b u, b ∉ ch → s.heap.get? b = some u → h'.get? b = some u)
    (hn : s.heap.objs.size ≤ n) (new : ObjOk X.prog X.w (upd H n ob) h' n ob) : Inv X pins σ (upd H n ob) { s with heap := h', toks := t' } := by
  have hno := I.hok.fresh hn
  have nit : ∀ b u, H b = some u → b ∉ ch := fun b u e z => by rw [(hch b z).1] at e; cases e
  refine I.step (g' := s.gens) (d' := s.drawn) (ch := ch) (fun b hb => ?_) (fun b o _ _ hc e _ => k b o hc e) (fun b o _ _ hc e _ => ⟨o.slots, k b o hc e⟩)
    (fun b o _ e q => by rw [upd_ne (Nat.ne_of_lt (Nat.lt_of_lt_of_le (Heap.lt_size e) hn))]; exact q)
    (fun b o hc e => ⟨o, k b o hc e⟩) (fun b xs e => by rw [upd_ne (ne_of_none e hno)]; exact e) (fun b o u e => by rw [upd_ne (ne_of_none e hno)]; exact e)
    (fun b ps e => ⟨#[], by rw [upd_ne (ne_of_none e hno), e]; simp⟩) (fun m hm => ?_) (fun b u e => ?_) I.bare
  · obtain ⟨f0, f1, f2, f3, f4, f5⟩ := hch b hb
    exact ⟨f3, f1, f4, f5⟩
  · obtain ⟨o, es, ep, ho, r⟩ := hm
    exact ⟨o, es, ep, k _ o (fun z => (hch _ z).2.1 rfl) ho, r⟩
  · by_cases hb : b = n
    · subst hb; rw [upd_same] at e; cases e; exact new
    · rw [upd_ne hb] at e
      refine (I.hok b u e).stay (fun c v hc q => k c v ?_ q) (fun c q => by rw [upd_ne (ne_of_none q hno)]; exact q) fun c xs q => by rw [upd_ne (ne_of_none q hno)]; exact q
      rcases hc with z | z
      · rw [z]; exact nit b u e
      · exact nit c _ z
end

/-! ### enumerate(a list), walked by a target of two -/
def Ite (K : PySem.W.Frag) (a : Addr) : It :=
  ⟨fun i H => ∃ xs x, SqL K H a xs ∧ xs[i]? = some x, fun i H x H' => ∃ p y, x = .ref p ∧ H p = none ∧ H' = upd H p (.tup [.int (i : Nat), y]) ∧ ∀ xs, SqL K H a xs → xs[i]? = some y, fun i H => ∃ xs, SqL K H a xs ∧ xs.length ≤ i⟩
theorem turn_enum {P : Program} {w : World} {K : PySem.W.Frag} {elts : List Expr} {x1 : Nat} {pos : Pos} (a e it : Addr) (hne : e ≠ it) :
    Turn P w K (.Tuple elts x1 pos) (Ite K a) [e, it] e (fun i h => (∃ old, IsEnum h e it ((i : Nat) : Int) old) ∧ h.IsListIter it a i) where
  mem := by simp
  obj := fun i h st b hb => by
    obtain ⟨⟨old, he⟩, o, ho, c, d⟩ := st
    rcases List.mem_cons.mp hb with rfl | hb
    · exact ⟨_, he, fun v z => by cases z⟩
    · rw [List.mem_singleton.mp hb]
      exact ⟨o, ho, fun v z => by rw [d] at z; cases z⟩
  keep := fun i h h' st k => ⟨let ⟨old, he⟩ := st.1; ⟨old, k e (by simp) _ he⟩, st.2.at fun o ho => k it (by simp) o ho⟩
  item := by
    intro X hP hw hK hc i pins s σ H E I hf st hg
    subst hP hw hK
    obtain ⟨xs, x, hq, hx⟩ := hg
    obtain ⟨its, rv, p, hz⟩ := I.list hq
    obtain ⟨u, hu, ru⟩ := rv.get hx
    obtain ⟨⟨old, he⟩, hit⟩ := st
    refine wpAny_pyNext_enum_item he hit p.isList (x := u) (by simpa using hu) hne fun h1 heo hit1 ht1 hz1 hk1 => ?_
    refine ⟨_, rfl, wpAny_letOwnedTupleGo_enum heo fun h2 he2 hs2 => ?_⟩
    have hs2' : Heap.SameBut e h1 h2 := hs2
    have hE : e < s.heap.objs.size := Heap.lt_size he
    have ht2 : h2.get? s.heap.objs.size = some { cls := .type "tuple", data := .seq #[.int i s.toks, u] } := (hs2'.2 _ (Nat.ne_of_gt hE)).trans ht1
    refine ⟨.ref s.heap.objs.size, upd H s.heap.objs.size (.tup [.int (i : Nat), x]), ?_, rfl, ⟨_, x, rfl, I.hok.fresh (Nat.le_refl _), rfl, fun ys hy => by rw [I.list_inj hy hq]; exact hx⟩, ⟨⟨u, ?_⟩, ?_⟩, fun b hb => ?_⟩
    · refine I.turnedLaid (ch := [e, it]) (t' := s.toks + 1) hf (fun b o hb q => ?_) (Nat.le_refl _) ⟨by show 2 ≤ sizeLine; rw [sizeLine_eq]; decide, [.int (i : Nat) s.toks, u], .cons ⟨_, rfl⟩ (.cons ru .nil), ⟨_, ht2, rfl, _, rfl⟩⟩
      have n1 : b ≠ e := fun z => hb (by simp [z])
      have n2 : b ≠ it := fun z => hb (by simp [z])
      exact (hs2'.2 b n1).trans (hk1 b o n1 n2 q)
    · have ee : (((i + 1 : Nat)) : Int) = (i : Int) + 1 := by omega
      rw [ee]; exact he2
    · obtain ⟨oi, hoi, ri⟩ := hit1
      exact ⟨oi, (hs2'.2 it (Ne.symm hne)).trans hoi, ri⟩
    · have hlt : b < s.heap.objs.size := by
        rcases List.mem_cons.mp hb with rfl | hb
        · exact hE
        · rw [List.mem_singleton.mp hb]; obtain ⟨oi, hoi, _⟩ := hit; exact Heap.lt_size hoi
      rw [upd_ne (Nat.ne_of_lt hlt)]
      exact (hf b hb).1
  done := by
    intro X hP hw hK hc i pins s σ H E I hf st hg
    subst hP hw hK
    obtain ⟨xs, hq, hx⟩ := hg
    obtain ⟨its, rv, p, hz⟩ := I.list hq
    obtain ⟨⟨old, he⟩, hit⟩ := st
    have hl := rv.length
    exact wpAny_pyNext_enum_end (I.ok.hd hc) he hit p.isList (by simp; omega) fun h' eb => ⟨rfl, I.turnedL (ch := [e, it]) (t' := s.toks) hf fun b o hb q => eb b o (fun z => hb (by simp [z])) q⟩
  self := fun _ _ _ _ _ st h => let ⟨_, he⟩ := st.1; wpAny_pyIter_enum he h
def iEnum (K : PySem.W.Frag) (ta : TA) : TI := fun σ H R => ta σ H fun vs H1 => ∃ a, vs = [.ref a] ∧ (∃ xs, SqL K H1 a xs) ∧ R (Ite K a) H1
theorem bt_enumerate : bootBuiltins "enumerate" = some (.type "enumerate") := by decide +kernel
theorem bt_zip : bootBuiltins "zip" = some (.type "zip") := by decide +kernel
theorem bt_max : bootBuiltins "max" = some (.builtin "max") := by decide +kernel
theorem bt_tuple : bootBuiltins "tuple" = some (.type "tuple") := by decide +kernel
section
variable {X : Cx}
theorem pi_enum {a : Expr} {ta : TA} {p pos pt : Pos} {elts : List Expr} {x1 : Nat} (hg : Gl X "enumerate") (hm : X.mg "enumerate" = none) (ha : PA X [a] ta) (hs : starEach [a] X.env = [(false, eval a X.env)] := by rfl) :
    PI X (.Tuple elts x1 pt) (.Call (.Name "enumerate" p) [a] [] pos) (iEnum X.K ta) := by
  intro pins s σ H R I h
  refine Call_ (ld_blt I hg hm bt_enumerate (PyProof.Rows.callWith_type1 (thn (ha pos pins s σ H _ I h) fun us s1 ⟨vs, H1, I1, r1, q1⟩ => ?_) hs rfl))
  obtain ⟨a, e, ⟨xs, hq⟩, q⟩ := q1
  subst e
  obtain ⟨u, rfl, rx⟩ := vals1 r1
  cases rx
  obtain ⟨its, rv, pl, hz⟩ := I1.list hq
  refine call_enumerate_list pl.isList fun h' hE hI hsz hk => ?_
  refine wpAny_pyIter_enum hE ?_
  have I2 : Inv X pins σ H1 { s1 with heap := h' } := I1.kept (t' := s1.toks) hk
  refine ⟨s1.heap.objs.size + 1, [s1.heap.objs.size + 1, s1.heap.objs.size], _, _, H1, rfl, I2, turn_enum a _ _ (Nat.succ_ne_self _), ⟨⟨_, hE⟩, hI⟩, fun b hb => ?_, q⟩
  have hb' : s1.heap.objs.size ≤ b := by
    rcases List.mem_cons.mp hb with rfl | hb
    · exact Nat.le_succ _
    · rw [List.mem_singleton.mp hb]; exact Nat.le_refl _
  exact I1.fpOk hb' (I1.hok.fresh hb')
end
theorem for_enum {K : PySem.W.Frag} {a : Addr} {xs : List V} {g : TG} {tb : TS} {D : Ends} {σ : St} {H : Hp} (Pv : Nat → St → Hp → Prop) (h0 : Pv 0 σ H) (hl : ∀ i σ H, i ≤ xs.length → Pv i σ H → SqL K H a xs)
    (hs : ∀ i x p σ H, xs[i]? = some x → Pv i σ H → H p = none → g (.ref p) σ (upd H p (.tup [.int (i : Nat), x])) fun σ2 H2 => tb { D with nx := Pv (i + 1), ct := Pv (i + 1), bk := D.nx } σ2 H2) (hd : ∀ σ H, Pv xs.length σ H → D.nx σ H) :
    ∃ W : Nat → Nat → St → Hp → Prop, (∃ m, W 0 m σ H) ∧ ∀ i m σ H, W i m σ H →
      ((Ite K a).stop i H ∧ D.nx σ H) ∨ ((Ite K a).go i H ∧ ∃ N : St → Hp → Prop, (∀ σ' H', N σ' H' → ∃ m', m' < m ∧ W (i + 1) m' σ' H') ∧ ∀ x H', (Ite K a).yld i H x H' → g x σ H' fun σ2 H2 => tb { D with nx := N, ct := N, bk := D.nx } σ2 H2) := by
  refine ⟨fun i m σ H => m = xs.length - i ∧ i ≤ xs.length ∧ Pv i σ H, ⟨xs.length, by simp, Nat.zero_le _, h0⟩, ?_⟩
  rintro i m σ H ⟨rfl, hi, p⟩
  have q := hl i σ H hi p
  by_cases hlt : i < xs.length
  · refine .inr ⟨⟨xs, xs[i], q, by simp [hlt]⟩, Pv (i + 1), fun σ' H' p' => ⟨xs.length - (i + 1), by omega, rfl, hlt, p'⟩, fun x H' y => ?_⟩
    obtain ⟨pp, z, rfl, hn, rfl, y⟩ := y
    exact hs i z pp σ _ (y xs q) p hn
  · have e : i = xs.length := by omega
    subst e
    exact .inl ⟨⟨xs, q, Nat.le_refl _⟩, hd σ H p⟩

/-! ### zip(a list, a list), walked by a target of two -/
def Itz (K : PySem.W.Frag) (a b : Addr) : It :=
  ⟨fun i H => ∃ xs ys x y, SqL K H a xs ∧ SqL K H b ys ∧ xs[i]? = some x ∧ ys[i]? = some y,
   fun i H x H' => ∃ p y z, x = .ref p ∧ H p = none ∧ H' = upd H p (.tup [y, z]) ∧ (∀ xs, SqL K H a xs → xs[i]? = some y) ∧ ∀ ys, SqL K H b ys → ys[i]? = some z,
   fun i H => ∃ xs ys, SqL K H a xs ∧ SqL K H b ys ∧ (xs.length ≤ i ∨ ys.length ≤ i)⟩
structure ZipA (z TI TO i1 i2 : Addr) : Prop where
  TIz : TI ≠ z
  TOz : TO ≠ z
  i1z : i1 ≠ z
  i2z : i2 ≠ z
  TITO : TI ≠ TO
  TIi1 : TI ≠ i1
  TIi2 : TI ≠ i2
  TOi1 : TO ≠ i1
  TOi2 : TO ≠ i2
  i12 : i1 ≠ i2
theorem zip_apart {h : Heap} {z TI TO i1 i2 l1 l2 : Addr} {f0 a b : Value} {k1 k2 : Nat} {m1 m2 : Addr} {xs ys : Array Value} (Z : ZipA z TI TO i1 i2) (hz : IsZip h z TI TO f0) (hTO : IsPair h TO a b) (h1 : h.IsListIter i1 m1 k1) (h2 : h.IsListIter i2 m2 k2)
    (hl1 : h.IsList l1 xs) (hl2 : h.IsList l2 ys) : ZipApart z TI TO i1 i2 l1 l2 := by
  obtain ⟨o1, e1, c1, _⟩ := h1
  obtain ⟨o2, e2, c2, _⟩ := h2
  obtain ⟨p1, f1, d1, _⟩ := hl1
  obtain ⟨p2, f2, d2, _⟩ := hl2
  have key : ∀ {l q : Addr} {o o' : Obj}, h.get? l = some o → o.cls = .type "list" → h.get? q = some o' → o'.cls ≠ .type "list" → l ≠ q := fun {l q o o'} e c e' c' z => by
    subst z; rw [e] at e'; cases e'; exact c' c
  refine ⟨Z.TIz, Z.TOz, Z.i1z, Z.i2z, Z.TITO, Z.TIi1, Z.TIi2, Z.TOi1, Z.TOi2, Z.i12, ?_, ?_, ?_, ?_, ?_, ?_, ?_, ?_⟩
  · exact key f1 d1 hz (by simp)
  · exact key f1 d1 hTO (by simp)
  · exact key f1 d1 e1 (by rw [c1]; simp)
  · exact key f1 d1 e2 (by rw [c2]; simp)
  · exact key f2 d2 hz (by simp)
  · exact key f2 d2 hTO (by simp)
  · exact key f2 d2 e1 (by rw [c1]; simp)
  · exact key f2 d2 e2 (by rw [c2]; simp)
theorem turn_zip {P : Program} {w : World} {K : PySem.W.Frag} {elts : List Expr} {x1 : Nat} {pos : Pos} (a b z TI TO i1 i2 : Addr) (Z : ZipA z TI TO i1 i2) :
    Turn P w K (.Tuple elts x1 pos) (Itz K a b) [z, TI, TO, i1, i2] z (fun i h => IsZip h z TI TO .none ∧ IsPair h TI (.ref i1) (.ref i2) ∧ (∃ u v, IsPair h TO u v) ∧ h.IsListIter i1 a i ∧ h.IsListIter i2 b i) where
  mem := by simp
  obj := fun i h st c hc => by
    obtain ⟨hz, hTI, ⟨u, v, hTO⟩, ⟨o1, e1, _, d1⟩, o2, e2, _, d2⟩ := st
    simp only [List.mem_cons, List.not_mem_nil, or_false] at hc
    rcases hc with rfl | rfl | rfl | rfl | rfl
    · exact ⟨_, hz, fun v z => by cases z⟩
    · exact ⟨_, hTI, fun v z => by cases z⟩
    · exact ⟨_, hTO, fun v z => by cases z⟩
    · exact ⟨o1, e1, fun v z => by rw [d1] at z; cases z⟩
    · exact ⟨o2, e2, fun v z => by rw [d2] at z; cases z⟩
  keep := fun i h h' st k => ⟨k z (by simp) _ st.1, k TI (by simp) _ st.2.1, let ⟨u, v, e⟩ := st.2.2.1; ⟨u, v, k TO (by simp) _ e⟩, st.2.2.2.1.at fun o e => k i1 (by simp) o e, st.2.2.2.2.at fun o e => k i2 (by simp) o e⟩
  item := by
    intro X hP hw hK hc i pins s σ H E I hf st hg
    subst hP hw hK
    obtain ⟨xs, ys, x, y, hq1, hq2, hx, hy⟩ := hg
    obtain ⟨its1, rv1, p1, hz1⟩ := I.list hq1
    obtain ⟨its2, rv2, p2, hz2⟩ := I.list hq2
    obtain ⟨u1, hu1, ru1⟩ := rv1.get hx
    obtain ⟨u2, hu2, ru2⟩ := rv2.get hy
    obtain ⟨hz, hTI, ⟨a', b', hTO⟩, hi1, hi2⟩ := st
    refine wpAny_pyNext_zip_item (zip_apart Z hz hTO hi1 hi2 p1.isList p2.isList) hz hTI hTO hi1 hi2 p1.isList p2.isList (x := u1) (y := u2) (by simpa using hu1) (by simpa using hu2) fun h1 az aTO ai1 ai2 aT asz ak => ?_
    refine ⟨_, rfl, wpAny_letOwnedTupleGo_zip az fun h2 bz bs => ?_⟩
    have bs' : Heap.SameBut z h1 h2 := bs
    have hE : z < s.heap.objs.size := Heap.lt_size hz
    have up : ∀ c o, c ≠ z → h1.get? c = some o → h2.get? c = some o := fun c o hc e => (bs'.2 c hc).trans e
    have hT2 : h2.get? s.heap.objs.size = some { cls := .type "tuple", data := .seq #[u1, u2] } := up _ _ (Nat.ne_of_gt hE) aT
    refine ⟨.ref s.heap.objs.size, upd H s.heap.objs.size (.tup [x, y]), ?_, rfl, ⟨_, x, y, rfl, I.hok.fresh (Nat.le_refl _), rfl, fun zs hs => by rw [I.list_inj hs hq1]; exact hx, fun zs hs => by rw [I.list_inj hs hq2]; exact hy⟩, ⟨bz, ?_, ⟨u1, u2, up _ _ Z.TOz aTO⟩, ?_, ?_⟩, fun c hc => ?_⟩
    · refine I.turnedLaid (ch := [z, TI, TO, i1, i2]) (t' := s.toks) hf (fun c o hb q => ?_) (Nat.le_refl _) ⟨by show 2 ≤ sizeLine; rw [sizeLine_eq]; decide, [u1, u2], .cons ru1 (.cons ru2 .nil), ⟨_, hT2, rfl, _, rfl⟩⟩
      have n1 : c ≠ z := fun z => hb (by simp [z])
      have n2 : c ≠ TO := fun z => hb (by simp [z])
      have n3 : c ≠ i1 := fun z => hb (by simp [z])
      have n4 : c ≠ i2 := fun z => hb (by simp [z])
      exact up c o n1 (ak c o n1 n2 n3 n4 q)
    · exact up _ _ Z.TIz (ak TI _ Z.TIz Z.TITO Z.TIi1 Z.TIi2 hTI)
    · obtain ⟨o, e, r⟩ := ai1
      exact ⟨o, up _ _ Z.i1z e, r⟩
    · obtain ⟨o, e, r⟩ := ai2
      exact ⟨o, up _ _ Z.i2z e, r⟩
    · obtain ⟨oc, ec, _⟩ : ∃ o, s.heap.get? c = some o ∧ ∀ v, o.data ≠ .cell v := by
        obtain ⟨o1, e1, _, d1⟩ := hi1
        obtain ⟨o2, e2, _, d2⟩ := hi2
        have hc' := hc
        simp only [List.mem_cons, List.not_mem_nil, or_false] at hc'
        rcases hc' with rfl | rfl | rfl | rfl | rfl
        · exact ⟨_, hz, fun v z => by cases z⟩
        · exact ⟨_, hTI, fun v z => by cases z⟩
        · exact ⟨_, hTO, fun v z => by cases z⟩
        · exact ⟨o1, e1, fun v z => by rw [d1] at z; cases z⟩
        · exact ⟨o2, e2, fun v z => by rw [d2] at z; cases z⟩
      rw [upd_ne (Nat.ne_of_lt (Heap.lt_size ec))]
      exact (hf c hc).1
  done := by
    intro X hP hw hK hc i pins s σ H E I hf st hg
    subst hP hw hK
    obtain ⟨xs, ys, hq1, hq2, hx⟩ := hg
    obtain ⟨its1, rv1, p1, hz1⟩ := I.list hq1
    obtain ⟨its2, rv2, p2, hz2⟩ := I.list hq2
    have l1 := rv1.length
    have l2 := rv2.length
    obtain ⟨hz, hTI, ⟨a', b', hTO⟩, hi1, hi2⟩ := st
    refine wpAny_pyNext_zip_end (I.ok.hd hc) (zip_apart Z hz hTO hi1 hi2 p1.isList p2.isList) hz hTI hTO hi1 hi2 p1.isList p2.isList (hx.imp (fun q => by simp; omega) fun q => by simp; omega) fun h' eb => ⟨rfl, I.turnedL (ch := [z, TI, TO, i1, i2]) (t' := s.toks) hf fun c o hb q => ?_⟩
    exact eb c o (fun z => hb (by simp [z])) (fun z => hb (by simp [z])) (fun z => hb (by simp [z])) (fun z => hb (by simp [z])) q
  self := fun _ _ _ _ _ st h => wpAny_pyIter_zip st.1 h
def iZip (K : PySem.W.Frag) (ta : TA) : TI := fun σ H R => ta σ H fun vs H1 => ∃ a b, vs = [.ref a, .ref b] ∧ (∃ xs, SqL K H1 a xs) ∧ (∃ ys, SqL K H1 b ys) ∧ R (Itz K a b) H1
section
variable {X : Cx}
theorem pi_zip {a b : Expr} {ta : TA} {p pos pt : Pos} {elts : List Expr} {x1 : Nat} (hg : Gl X "zip") (hm : X.mg "zip" = none) (ha : PA X [a, b] ta) (hs : starEach [a, b] X.env = [(false, eval a X.env), (false, eval b X.env)] := by rfl) (hs2 : starEach [b] X.env = [(false, eval b X.env)] := by rfl) :
    PI X (.Tuple elts x1 pt) (.Call (.Name "zip" p) [a, b] [] pos) (iZip X.K ta) := by
  intro pins s σ H R I h
  refine Call_ (ld_blt I hg hm bt_zip (PyProof.Rows.callWith_type1 (thn (ha pos pins s σ H _ I h) fun us s1 ⟨vs, H1, I1, r1, q1⟩ => ?_) (by rw [hs, hs2]) (by rw [hs2]; rfl)))
  obtain ⟨a, b, e, ⟨xs, hq1⟩, ⟨ys, hq2⟩, q⟩ := q1
  subst e
  obtain ⟨u, w', rfl, rx, ry⟩ := vals2 r1
  cases rx
  cases ry
  obtain ⟨its1, rv1, p1, hz1⟩ := I1.list hq1
  obtain ⟨its2, rv2, p2, hz2⟩ := I1.list hq2
  refine call_zip_2 p1.isList p2.isList fun h' hZ hTI hTO hi1 hi2 hsz hk => ?_
  refine wpAny_pyIter_zip hZ ?_
  have I2 : Inv X pins σ H1 { s1 with heap := h' } := I1.kept (t' := s1.toks) hk
  refine ⟨s1.heap.objs.size + 4, [s1.heap.objs.size + 4, s1.heap.objs.size + 2, s1.heap.objs.size + 3, s1.heap.objs.size, s1.heap.objs.size + 1], _, _, H1, rfl, I2,
    turn_zip a b _ _ _ _ _ ⟨?_, ?_, ?_, ?_, ?_, ?_, ?_, ?_, ?_, ?_⟩, ⟨hZ, hTI, ⟨_, _, hTO⟩, hi1, hi2⟩, fun c hc => ?_, q⟩
  all_goals first
    | (show (_ : Nat) ≠ _; omega)
    | skip
  have hb' : s1.heap.objs.size ≤ c := by
    simp only [List.mem_cons, List.not_mem_nil, or_false] at hc
    rcases hc with rfl | rfl | rfl | rfl | rfl
    all_goals (show (_ : Nat) ≤ _; omega)
  exact I1.fpOk hb' (I1.hok.fresh hb')
end
theorem for_zip {K : PySem.W.Frag} {a b : Addr} {xs ys : List V} {g : TG} {tb : TS} {D : Ends} {σ : St} {H : Hp} (hlen : xs.length = ys.length) (Pv : Nat → St → Hp → Prop) (h0 : Pv 0 σ H) (hl : ∀ i σ H, i ≤ xs.length → Pv i σ H → SqL K H a xs ∧ SqL K H b ys)
    (hs : ∀ i x y p σ H, xs[i]? = some x → ys[i]? = some y → Pv i σ H → H p = none → g (.ref p) σ (upd H p (.tup [x, y])) fun σ2 H2 => tb { D with nx := Pv (i + 1), ct := Pv (i + 1), bk := D.nx } σ2 H2) (hd : ∀ σ H, Pv xs.length σ H → D.nx σ H) :
    ∃ W : Nat → Nat → St → Hp → Prop, (∃ m, W 0 m σ H) ∧ ∀ i m σ H, W i m σ H →
      ((Itz K a b).stop i H ∧ D.nx σ H) ∨ ((Itz K a b).go i H ∧ ∃ N : St → Hp → Prop, (∀ σ' H', N σ' H' → ∃ m', m' < m ∧ W (i + 1) m' σ' H') ∧ ∀ x H', (Itz K a b).yld i H x H' → g x σ H' fun σ2 H2 => tb { D with nx := N, ct := N, bk := D.nx } σ2 H2) := by
  refine ⟨fun i m σ H => m = xs.length - i ∧ i ≤ xs.length ∧ Pv i σ H, ⟨xs.length, by simp, Nat.zero_le _, h0⟩, ?_⟩
  rintro i m σ H ⟨rfl, hi, p⟩
  obtain ⟨q1, q2⟩ := hl i σ H hi p
  by_cases hlt : i < xs.length
  · have hlt2 : i < ys.length := by omega
    refine .inr ⟨⟨xs, ys, xs[i], ys[i], q1, q2, by simp [hlt], by simp [hlt2]⟩, Pv (i + 1), fun σ' H' p' => ⟨xs.length - (i + 1), by omega, rfl, hlt, p'⟩, fun x H' y => ?_⟩
    obtain ⟨pp, u, v, rfl, hn, rfl, y1, y2⟩ := y
    exact hs i u v pp σ _ (y1 xs q1) (y2 ys q2) p hn
  · have e : i = xs.length := by omega
    subst e
    exact .inl ⟨⟨xs, ys, q1, q2, .inl (Nat.le_refl _)⟩, hd σ H p⟩
end L2

set_option Elab.async false
set_option linter.all false
set_option maxRecDepth 100000
set_option maxHeartbeats 4000000
/-! Rules over the hand layer: a class's function by the class, a method by the instance's class, max with a default, tuples compared, is, defs with defaults, comprehensions that make things. Own work. -/
namespace L2
open PySem PySem.Spec PyProof.Rows SI
/-! ### C.m(..) -/
structure ClsFn (K : PySem.W.Frag) (C : Addr) (m : Str) (f : Addr) : Prop where
  gt : PySem.W.specialIn K (.ref C) "__getattribute__" = some (some (.builtin "type.__getattribute__"))
  rd : PySem.W.readsIn K C (.type "type") = true
  fc : PySem.W.findCls K (.ref C) (.type "type") m = some (.val (.ref f))
  kp : PySem.W.keepIn K (.ref f) = true
section
variable {X : Cx} {CX : CXT} {k : Nat} {f C : Addr} {fd : FuncData} {ps : List Str} {sp : Sp} {dvs : List V} {ds : List Value} {E : XK} {x m : Str} {p pos apos : Pos} {e o : Expr} {es : List Expr} {ta : TE} {t : TA}
theorem pe_clsfn {pl : Sem Bool} (hg : Gl X x) (hm : X.mg x = some (.ref C)) (cf : ClsFn X.K C m f) (F : FnOk X.prog X.w X.K X.mg X.base CX k f fd ps sp) (hr : Room k X.A) (hb : Binds X.K fd ps ds) (hd : Vals dvs ds) (hx : Passes CX X E) (ha : PA X (e :: es) t)
    (hdb : (x == ("__debug__" : Str)) = false := by decide) (hst : starEach (e :: es) X.env = (false, eval e X.env) :: starEach es X.env := by rfl) (hpl : (backTo pos (starEach es X.env)).any (·.1) = false := by rfl)
    (ht : eval (.Call (.Attribute (.Name x p) m apos) (e :: es) [] pos) X.env = (do
      let ov ← eval (.Name x p) X.env
      standAt apos.atName
      let (f, first) ← holding [ov] (getMethod ov m pl)
      callWith pos f first (backTo pos (starEach (e :: es) X.env)) (backToKw pos (keywordEach [] X.env))) := by rfl) :
    PE X (.Call (.Attribute (.Name x p) m apos) (e :: es) [] pos) (tCall sp dvs E t) := by
  intro pins s σ H Q I h
  refine PySem.W.methodCall_KW (pl := pl) (ld_glob I hg hm ?_ hdb) ht
  refine PySem.W.method_cls I.kIn cf.gt (PySem.W.cls_value I.kIn cf.rd cf.fc rfl ?_)
  have I2 := I.tok (s.toks + 1)
  refine PySem.W.callWith_K (first := []) (h₀ := X.base) I.ok.mod.kin cf.kp (thn (ha pos pins _ σ H _ I2 h) fun us s2 ⟨vs, H2, I3, r, q⟩ => ⟨I3.kIn, ?_⟩) hst hpl
  exact run_fn F hr hb hd hx I3 r q

/-! ### o.m(..), by the class of o -/
structure Disp (P : Program) (w : World) (K : PySem.W.Frag) (mg : Str → Option Value) (base : Heap) (k : Nat) (m : Str) (C : Addr) (sp : Sp) : Prop where
  cl : Cls K C
  ok : ∃ f fd ps, Meth K C m f ∧ FnOk P w K mg base CX0 k f fd ps sp ∧ Binds K fd ps []
def tMethP (D : Addr → Sp → Prop) (m : Str) (ta : TE) (t : TA) : TE := fun σ H Q => ta σ H fun x H1 => ∃ a C dx fs sp, x = .ref a ∧ H1 a = some (.ins C dx fs) ∧ fs.lookup m = none ∧ D C sp ∧ t σ H1 fun vs H2 => sp (x :: vs) H2 Q E0
end

/-! ### a def with defaults -/
structure FunD (K : PySem.W.Frag) (x qual : Str) (st : Stmt) (f : Addr) (fd : FuncData) (T : Addr) : Prop where
  ex : ∃ (oc : Value) (od : Option Addr) (kV doc pm : Value) (an : Option Addr) (cdv ct : Value) (osl : Array (Option Value)),
    fd = PySem.W.fnOf x qual (defArgs st) (defBody st) (defScope st) (.ref T) kV doc pm an cdv ct ∧ K.lookup f = some ⟨oc, od, .func fd, osl⟩ ∧ PySem.W.codeIn K cdv qual = true
  kp : PySem.W.keepIn K (.ref f) = true
section
variable {P : Program} {w : World} {K : PySem.W.Frag} {mg : Str → Option Value} {base : Heap}
theorem FunD.ok {x qual : Str} {st : Stmt} {f T : Addr} {fd : FuncData} {N ps : List Str} {k : Nat} {sp : Sp} (F : FunD K x qual st f fd T) (S : FnScope N ps (defScope st)) (len : ∀ vs H Q E, sp vs H Q E → vs.length = ps.length)
    (hbody : ∀ (cdv : Value) (A : Around) (outer : List Env) (s : Shared) (H : Hp) (vs : List V) (Q : VK) (E : XK), Room k (A.deeper (envOfC qual (defScope st) s.heap.objs.size f cdv)) → sp vs H Q E →
      ∃ t, PSs (cxOf CX0 P w K mg base N qual (defScope st) f cdv A outer s H E).nox (defBody st) t ∧ t { nx := fun _ H' => Q .non H', rt := Q } (start N vs) H) : FnOk P w K mg base CX0 (k + 1) f fd ps sp := by
  obtain ⟨oc, od, kV, doc, pm, an, cdv, ct, osl, rfl, lk, hcd⟩ := F.ex
  refine fn_of lk hcd S len fun A outer s H vs Q E hr hsp => ?_
  obtain ⟨t, h, q⟩ := hbody cdv A outer s H vs Q E hr hsp
  exact ⟨t, h.nox, q⟩
theorem fund_mk {x qual : Str} {st : Stmt} {f T : Addr} {oc : Value} {od an : Option Addr} {osl : Array (Option Value)} {kV doc pm cdv ct : Value} (l : K.lookup f = some ⟨oc, od, .func (PySem.W.fnOf x qual (defArgs st) (defBody st) (defScope st) (.ref T) kV doc pm an cdv ct), osl⟩)
    (c : PySem.W.codeIn K cdv qual = true) (k : PySem.W.keepIn K (.ref f) = true) : FunD K x qual st f (PySem.W.fnOf x qual (defArgs st) (defBody st) (defScope st) (.ref T) kV doc pm an cdv ct) T := ⟨⟨oc, od, kV, doc, pm, an, cdv, ct, osl, rfl, l, c⟩, k⟩
end

/-! ### max(a list of ints, default = d) -/
def maxI : List Int → Int → Int
  | [], d => d
  | z :: r, _ => r.foldl (fun a b => if b > a then b else a) z
theorem ints_cons {vs : List Value} {n : Int} {ns : List Int} (h : IntsAre vs (n :: ns)) : ∃ t vs', vs = .int n t :: vs' ∧ IntsAre vs' ns := by
  cases h with
  | cons _ t q => exact ⟨t, _, rfl, q⟩
section
variable {prog : Program} {w : World} {A : Around} {R : Result → Shared → Prop}
theorem maxD_loop {I l : Addr} {d : Value} {its : List Value} (hh : A.handled = none) (hIl : I ≠ l) (S : Addr) (hSI : S ≠ I) (hSl : S ≠ l) :
    ∀ (ns : List Int) (j : Nat) (s : Shared) (best : Int) (tb : Tok) (c : Nat), IntsAre (its.drop (j + 1)) ns → j + 1 + ns.length = its.length →
    s.heap.IsListIter I l (j + 1) → s.heap.IsList l its.toArray → s.heap.get? S = some { cls := .type "list", dict := none, data := .seq #[.int best tb, .int best tb] c, slots := #[] } →
    (∀ t h' tk, (∀ b o, b ≠ I → b ≠ S → s.heap.get? b = some o → h'.get? b = some o) → R (.ok (.ret (.int (ns.foldl (fun a b => if b > a then b else a) best) t))) { s with heap := h', toks := tk }) →
    codeAny (model prog w) A (.builtin "max.loop" ⟨[.ref I, .none, .ref S], [("default", d)]⟩) R s := by
  have hname : (toString "max" ++ toString ".loop" : String) = "max.loop" := by decide
  intro ns
  induction ns with
  | nil =>
    intro j s best tb c hI hlen hit hl hS hR
    refine codeAny_builtin F.entry_max_loop ?_
    rw [Around.under_plainId F.plain_max_loop _]
    show wpAny _ A.in1 (seqItems? (.ref S) >>= _) _ _ s
    refine wpAny_bind (wpAny_seqItems hS rfl ?_)
    show wpAny _ A.in1 (tryCatch (pyNext (.ref I)) _ >>= _) _ _ s
    refine wpAny_bind (wpAny_tryCatch (wpAny_pyNext_list_end hh hit hl (by simp at hlen ⊢; omega) fun h' he => ?_))
    have hS' := he S _ hSI hS
    show wpAny _ A.in1 (updateSeq S (fun _ => #[]) >>= _) _ _ _
    refine wpAny_bind (wpAny_updateSeq hS' rfl (wpAny_bind (wpAny_letGo (wpAny_pure ?_))))
    exact hR tb _ s.toks fun b o n1 n2 e => (Heap.get?_update_other _ _ (Ne.symm n2)).trans (he b o n1 e)
  | cons z r ih =>
    intro j s best tb c hI hlen hit hl hS hR
    have hlt : j + 1 < its.length := by simp at hlen; omega
    obtain ⟨t, hz, hI'⟩ : ∃ t, its[j + 1]? = some (.int z t) ∧ IntsAre (its.drop (j + 2)) r := by
      obtain ⟨t, vs', e, q⟩ := ints_cons hI
      refine ⟨t, ?_, ?_⟩
      · have e0 : its[j + 1]? = (its.drop (j + 1))[0]? := by rw [List.getElem?_drop]
        rw [e0, e]; rfl
      · have e1 : its.drop (j + 2) = (its.drop (j + 1)).drop 1 := by rw [List.drop_drop]
        rw [e1, e]; exact q
    refine codeAny_builtin F.entry_max_loop ?_
    rw [Around.under_plainId F.plain_max_loop _]
    show wpAny _ A.in1 (seqItems? (.ref S) >>= _) _ _ s
    refine wpAny_bind (wpAny_seqItems hS rfl ?_)
    show wpAny _ A.in1 (tryCatch (pyNext (.ref I)) _ >>= _) _ _ s
    refine wpAny_bind (wpAny_tryCatch (wpAny_pyNext_list_item hit hl (x := .int z t) (by simpa using hz) fun h' hit' hs' => ?_))
    have hS' := hs'.extBut S _ hSI hS
    show wpAny _ A.in1 (tryCatch (holding [.int z t, .int z t] (richCompare .Gt (.int z t) (.int best tb) >>= _)) _ >>= _) _ _ _
    refine wpAny_bind (wpAny_tryCatch (wpAny_holding (wpAny_bind ?_)))
    refine (PyProof.Rows.gt_int ?_ : wpAny (model prog w) _ (compareOp .Gt (.int z t) (.int best tb)) _ _ _)
    refine wpAny_bind (wpAny_holding (wpAny_truthy_bool ?_))
    refine wpAny_bind (wpAny_letGo (wpAny_pure ?_))
    by_cases hb : best < z
    · rw [decide_eq_true hb]
      simp only [if_true]
      refine wpAny_bind (wpAny_updateSeq hS' rfl (wpAny_bind (wpAny_letGo ?_)))
      rw [hname]
      have e1 : List.foldl (fun a b : Int => if b > a then b else a) best (z :: r) = List.foldl (fun a b => if b > a then b else a) z r := by
        rw [List.foldl_cons, if_pos hb]
      rw [e1] at hR
      refine wpAny_pure ⟨plainId_quiet F.plain_max_loop _, ih (j + 1) _ z t _ hI' (by simp at hlen; omega) ?_ ?_ (Heap.get?_update_self _ hS' rfl) fun t' h2 tk hk => ?_⟩
      · obtain ⟨o, ho, q⟩ := hit'
        exact ⟨o, (Heap.get?_update_other _ _ hSI).trans ho, q⟩
      · obtain ⟨o, ho, q⟩ := hl
        exact ⟨o, (Heap.get?_update_other _ _ hSl).trans (hs'.extBut l o (Ne.symm hIl) ho), q⟩
      · exact hR t' h2 tk fun b o n1 n2 e => hk b o n1 n2 ((Heap.get?_update_other _ _ (Ne.symm n2)).trans (hs'.extBut b o n1 e))
    · rw [decide_eq_false hb]
      simp only [Bool.false_eq_true, if_false]
      refine wpAny_bind (wpAny_letGo ?_)
      rw [hname]
      have e1 : List.foldl (fun a b : Int => if b > a then b else a) best (z :: r) = List.foldl (fun a b => if b > a then b else a) best r := by
        rw [List.foldl_cons, if_neg hb]
      rw [e1] at hR
      refine wpAny_pure ⟨plainId_quiet F.plain_max_loop _, ih (j + 1) _ best tb c hI' (by simp at hlen; omega) hit' ?_ hS' fun t' h2 tk hk => ?_⟩
      · obtain ⟨o, ho, q⟩ := hl
        exact ⟨o, hs'.extBut l o (Ne.symm hIl) ho, q⟩
      · exact hR t' h2 tk fun b o n1 n2 e => hk b o n1 n2 (hs'.extBut b o n1 e)
theorem maxD_first {I l : Addr} {d : Value} {its : List Value} (hh : A.handled = none) (hIl : I ≠ l) (S : Addr) (hSI : S ≠ I) (hSl : S ≠ l) {ns : List Int} {s : Shared} {c : Nat} {di : Int} {dt : Tok} (hd : d = .int di dt) (hI : IntsAre its ns)
    (hit : s.heap.IsListIter I l 0) (hl : s.heap.IsList l its.toArray) (hS : s.heap.get? S = some { cls := .type "list", dict := none, data := .seq #[] c, slots := #[] })
    (hR : ∀ t h' tk, (∀ b o, b ≠ I → b ≠ S → s.heap.get? b = some o → h'.get? b = some o) → R (.ok (.ret (.int (maxI ns di) t))) { s with heap := h', toks := tk }) :
    codeAny (model prog w) A (.builtin "max.loop" ⟨[.ref I, .none, .ref S], [("default", d)]⟩) R s := by
  have hname : (toString "max" ++ toString ".loop" : String) = "max.loop" := by decide
  refine codeAny_builtin F.entry_max_loop ?_
  rw [Around.under_plainId F.plain_max_loop _]
  show wpAny _ A.in1 (seqItems? (.ref S) >>= _) _ _ s
  refine wpAny_bind (wpAny_seqItems hS rfl ?_)
  show wpAny _ A.in1 (tryCatch (pyNext (.ref I)) _ >>= _) _ _ s
  cases hI with
  | nil =>
    refine wpAny_bind (wpAny_tryCatch (wpAny_pyNext_list_end hh hit hl (by simp) fun h' he => ?_))
    refine wpAny_bind (wpAny_rule (wpAny_pure ?_))
    subst hd
    exact hR dt _ s.toks fun b o n1 n2 e => he b o n1 e
  | @cons z t vs r hI =>
    refine wpAny_bind (wpAny_tryCatch (wpAny_pyNext_list_item hit hl (x := .int z t) (by simp) fun h' hit' hs' => ?_))
    have hS' := hs'.extBut S _ hSI hS
    show wpAny _ A.in1 (updateSeq S (fun _ => #[.int z t, .int z t]) >>= _) _ _ _
    refine wpAny_bind (wpAny_updateSeq hS' rfl ?_)
    rw [hname]
    refine wpAny_pure ⟨plainId_quiet F.plain_max_loop _, maxD_loop (its := .int z t :: vs) hh hIl S hSI hSl r 0 _ z t _ (by simpa using hI) (by simp [hI.length]; omega) ?_ ?_ (Heap.get?_update_self _ hS' rfl) fun t' h2 tk hk => ?_⟩
    · obtain ⟨o, ho, q⟩ := hit'
      exact ⟨o, (Heap.get?_update_other _ _ hSI).trans ho, q⟩
    · obtain ⟨o, ho, q⟩ := hl
      exact ⟨o, (Heap.get?_update_other _ _ hSl).trans (hs'.extBut l o (Ne.symm hIl) ho), q⟩
    · exact hR t' h2 tk fun b o n1 n2 e => hk b o n1 n2 ((Heap.get?_update_other _ _ (Ne.symm n2)).trans (hs'.extBut b o n1 e))
end
end L2

set_option Elab.async false
set_option linter.all false
set_option maxRecDepth 100000
set_option maxHeartbeats 4000000
/-! Rules over the hand layer: max with a default, tuples compared, is, comprehensions that make things. Own work. -/
namespace L2
open PySem PySem.Spec PyProof.Rows SI
theorem args_maxD (a d : Value) : argsOk "max" ⟨[a], [("default", d)]⟩ := by unfold argsOk; kernel_rfl
section
variable {X : Cx}
theorem call_maxD (hc : X.calm = true) {pins : List (Addr × Obj)} {s : Shared} {σ : St} {H : Hp} {p : Addr} {ns : List Int} {d : Int} {td : Tok} {Q : VK} (I : Inv X pins σ H s) (hq : SqL X.K H p (ns.map V.int)) (q : Q (.int (maxI ns d)) H) :
    wpAny (model X.prog X.w) X.A (call (.builtin "max") [.ref p] [("default", .int d td)]) (EP X pins σ Q) X.xe s := by
  have hname : (toString "max" ++ toString ".loop" : String) = "max.loop" := by decide
  obtain ⟨its, rv, pl, hz⟩ := I.list hq
  have hI := intsAre_of rv
  have hp : p < s.heap.objs.size := by obtain ⟨o, ho, _⟩ := pl.isList; exact Heap.lt_size ho
  refine wpAny_call (codeAny_call_builtin F.plain_max F.entry_max ?_)
  simp only [checkBuiltinCall, F.kind_max]
  have hargs := args_maxD (.ref p) (.int d td)
  have body : wpAny (model X.prog X.w) X.A.in1 (Builtin.«max» ⟨[.ref p], [("default", .int d td)]⟩) (fun fin s' => match fin with
      | .done f => (match (Except.ok f : Result) with | .ok (.ret v) => EP X pins σ Q v s' | .ok _ => False | .error e => X.xe e s')
      | .again c' => c'.quiet = true ∧ codeAny (model X.prog X.w) X.A c' (fun r s' => match r with | .ok (.ret v) => EP X pins σ Q v s' | .ok _ => False | .error e => X.xe e s') s') X.xe s := by
    show wpAny _ X.A.in1 (Builtin.Builtins.bindParams "max" ["key", "default"] 0 ⟨[], [("default", .int d td)]⟩ >>= _) _ _ s
    refine wpAny_bind (wpAny_of_eq (show Builtin.Builtins.bindParams "max" ["key", "default"] 0 ⟨[], [("default", .int d td)]⟩ = pure [none, some (.int d td)] from rfl) ?_)
    refine wpAny_bind (wpAny_pure ?_)
    refine wpAny_bind (wpAny_pyIter_list pl.isList ?_)
    refine wpAny_bind (wpAny_newObj_type ?_)
    rw [hname]
    have hsz : (s.heap.push { cls := .type "list_iterator", data := .fields #[.ref p, .int 0 0] }).objs.size = s.heap.objs.size + 1 := Heap.size_push ..
    refine wpAny_pure ⟨plainId_quiet F.plain_max_loop _, maxD_first (its := its) (ns := ns) (I.ok.hd hc) (Nat.ne_of_gt hp) _ (by rw [hsz]; exact Nat.succ_ne_self _) (by rw [hsz]; exact Nat.ne_of_gt (Nat.lt_succ_of_lt hp)) rfl hI ⟨_, Heap.get?_push_of_some _ (Heap.get?_push_size _ rfl), rfl, rfl⟩
      ((pl.isList.push _).push _) (Heap.get?_push_size _ rfl) fun t h' tk hk => ⟨.int (maxI ns d), H, ?_, ⟨t, rfl⟩, q⟩⟩
    exact I.kept (t' := tk) fun b o e => hk b o (Nat.ne_of_lt (Heap.lt_size e)) (by rw [hsz]; exact Nat.ne_of_lt (Nat.lt_succ_of_lt (Heap.lt_size e))) (Heap.get?_push_of_some _ (Heap.get?_push_of_some _ e))
  cases hsig : Manifest.signature? "max" with
  | none => exact wpAny_pure body
  | some sig =>
    simp only [argsOk, hsig] at hargs
    have h2 : Bind.checkArgs "max" sig ⟨[.ref p], [("default", .int d td)]⟩ = pure () := hargs
    show wpAny _ X.A.in1 (Bind.checkArgs "max" sig ⟨[.ref p], [("default", .int d td)]⟩) _ _ s
    rw [h2]; exact wpAny_pure body
def tMaxD (K : PySem.W.Frag) (d : Int) (t : TA) : TE := fun σ H Q => t σ H fun vs H1 => ∃ p ns, vs = [.ref p] ∧ SqL K H1 p (ns.map V.int) ∧ Q (.int (maxI ns d)) H1
theorem pe_maxD {e : Expr} {t : TA} {p pos kp kpos : Pos} {d : Int} {j : Nat} (hc : X.calm = true) (hg : Gl X "max") (hm : X.mg "max" = none) (ha : PA X [e] t)
    (he : backTo pos (starEach [e] X.env) = [(false, eval e X.env)] := by rfl) :
    PE X (.Call (.Name "max" p) [e] [⟨some "default", .Constant (.int d) j kp, kpos⟩] pos) (tMaxD X.K d t) := by
  intro pins s σ H Q I h
  refine wpAny_Call_Name_kw (ld_blt I hg hm bt_max ?_)
  refine callWith_kw (thn (ha pos pins s σ H _ I h) fun us s1 ⟨vs, H1, I1, r1, q1⟩ => ?_) he (by rw [he]; rfl)
  refine thn (pk_cons (nm := some "default") (kpos := kpos) (pe_int (i := d) (j := j) (pos := kp)) pk_nil pos pins s1 σ H1 (fun zs H2 => zs = [.int d] ∧ H2 = H1) I1 ⟨rfl, rfl⟩) fun ws s2 ⟨zs, H2, I2, rz, ez, eH⟩ => ?_
  subst ez eH
  obtain ⟨u, rfl, t', rfl⟩ := vals1 rz
  obtain ⟨a, ns, rfl, hq, q⟩ := q1
  obtain ⟨u, rfl, rx⟩ := vals1 r1
  cases rx
  exact call_maxD hc I2 hq q
/-! ### tuples compared -/
def rEqT (K : PySem.W.Frag) (neg : Bool) : R2 := fun x y H Q => ∃ a b xs ys, x = .ref a ∧ y = .ref b ∧ SqT K H a xs ∧ SqT K H b ys ∧ xs.all flatV = true ∧ ys.all flatV = true ∧ Q (.bl (if neg then !eqVs xs ys else eqVs xs ys)) H
theorem eqVs_min {xs ys : List V} : eqVs xs ys = ((List.range (min xs.length ys.length)).all (fun i => eqV (xs.getD i .non) (ys.getD i .non)) && xs.length == ys.length) := by
  by_cases hl : xs.length = ys.length
  · rw [eqVs_all hl, hl]; simp
  · rw [eqVs_ne hl]; simp [hl]
theorem op_eqT (hu : X.A.units + 1 < cLine) : OpR X (compareOp .Eq) (rEqT X.K false) := by
  intro pins s σ H x y v u Q I rx ry h
  obtain ⟨a, b, xs, ys, rfl, rfl, ha, hb, fx, fy, q⟩ := h
  cases rx
  cases ry
  obtain ⟨i1, r1, p1, z1⟩ := I.tuple ha
  obtain ⟨i2, r2, p2, z2⟩ := I.tuple hb
  have l1 := r1.length
  have l2 := r2.length
  refine SeqAt.eq_tupleAt (e := fun i => eqV (xs.getD i .non) (ys.getD i .non)) (show s.heap.IsTuple a i1.toArray from p1) (show s.heap.IsTuple b i2.toArray from p2) (by omega) (fun j h1 h2 => ?_) ⟨.bl (eqVs xs ys), H, I, ?_, q⟩
  · simp only [List.size_toArray] at h1 h2
    have j1 : j < xs.length := by omega
    have j2 : j < ys.length := by omega
    obtain ⟨u1, e1, s1⟩ := r1.get (List.getElem?_eq_getElem j1)
    obtain ⟨u2, e2, s2⟩ := r2.get (List.getElem?_eq_getElem j2)
    rw [List.getElem?_eq_getElem h1] at e1
    rw [List.getElem?_eq_getElem h2] at e2
    cases e1
    cases e2
    have := eqAt_V (A := X.A.in1) (s := s) s1 s2 (List.all_eq_true.mp fx _ (List.getElem_mem j1)) (List.all_eq_true.mp fy _ (List.getElem_mem j2))
    simpa [List.getD, j1, j2] using this
  · show Value.bool _ = Value.bool _
    rw [eqVs_min, List.size_toArray, List.size_toArray, ← l1, ← l2]
/-! ### is, of bools -/
end
/-! ### comprehensions over a list, of which each element may make things -/
theorem lc_grow {K : PySem.W.Frag} {a : Addr} {xs : List V} {i : Nat} {te : TE} {σ : St} {H : Hp} {D : Addr} {Q : Hp → Prop} (P : Nat → List V → Hp → Prop) (hD : H D = none) (hl : SqL K H a xs) (hn : xs.length ≤ sizeLine)
    (h0 : P 0 [] (upd H D (.lst [])))
    (he : ∀ (k : Nat) x (v : Option V) (ys : List V) (H1 : Hp) (R : VK), xs[k]? = some x → ys.length = k → Same H H1 → H1 D = some (.lst ys) → P k ys H1 → (∀ y H2, Same H1 H2 → P (k + 1) (ys ++ [y]) (upd H2 D (.lst (ys ++ [y]))) → R y H2) → te ((σ.set i v).set i (some x)) H1 R)
    (hq : ∀ ys H1, ys.length = xs.length → Same H H1 → H1 D = some (.lst ys) → P xs.length ys H1 → Q H1) :
    ∃ W : Nat → Nat → List V → St → Hp → Prop, (∃ m, W 0 m [] σ (upd H D (.lst []))) ∧ lcTurn (Itl K a) D (gName i) tYes te Q W := by
  refine ⟨fun k m ys σ' H' => m = xs.length - k ∧ k ≤ xs.length ∧ ys.length = k ∧ (σ' = σ ∨ ∃ v, σ' = σ.set i v) ∧ Same H H' ∧ H' D = some (.lst ys) ∧ P k ys H', ⟨xs.length, by simp, Nat.zero_le _, rfl, .inl rfl, same_upd hD, upd_same, h0⟩, ?_⟩
  rintro k m ys σ' H' ⟨rfl, hk, hlen, hσ, hS, hDD, hP⟩
  have hl' := hS.seq hl
  by_cases hlt : k < xs.length
  · refine .inr ⟨⟨xs, xs[k], hl', by simp [hlt]⟩, fun x H2 hy => ?_⟩
    obtain ⟨rfl, hy⟩ := hy
    have hx := hy xs hl'
    show te (σ'.set i _) _ _
    have hσ' : ∃ v, σ'.set i (some x) = (σ.set i v).set i (some x) := by
      rcases hσ with rfl | ⟨v, rfl⟩
      · exact ⟨none, by rw [List.set_set]⟩
      · exact ⟨v, rfl⟩
    obtain ⟨v, ev⟩ := hσ'
    have hσ2 : ∃ v', σ'.set i (some x) = σ.set i v' := ⟨some x, by rw [ev, List.set_set]⟩
    rw [ev]
    refine he k x v ys _ _ hx hlen hS hDD hP fun y H3 hS3 hP3 => ?_
    have hD3 := hS3 _ _ hDD
    refine ⟨hD3, by omega, xs.length - (k + 1), by omega, rfl, hlt, by simp [hlen], by rw [← ev]; exact .inr hσ2, fun b o e => ?_, upd_same, hP3⟩
    have hne : b ≠ D := fun z => by rw [z, hD] at e; cases e
    rw [upd_ne hne]
    exact hS3 _ _ (hS _ _ e)
  · have e : k = xs.length := by omega
    subst e
    exact .inl ⟨⟨xs, hl', Nat.le_refl _⟩, hq ys _ hlen hS hDD hP⟩
end L2

set_option Elab.async false
set_option linter.all false
set_option maxRecDepth 100000
set_option maxHeartbeats 4000000
/-! Rules over the hand layer: lists of different length compared, whatever they hold. Own work. -/
namespace L2
open PySem PySem.Spec PyProof.Rows SI
section
variable {X : Cx}
/-- xs == ys, xs != ys: of different length, or both empty -/
def rLen (K : PySem.W.Frag) (neg : Bool) : R2 := fun x y H Q => ∃ a b xs ys, x = .ref a ∧ y = .ref b ∧ SqL K H a xs ∧ SqL K H b ys ∧ xs.length ≠ ys.length ∧ Q (.bl neg) H
end
end L2

set_option Elab.async false
set_option linter.all false
set_option maxRecDepth 100000
set_option maxHeartbeats 4000000
/-! Comprehensions over enumerate, zip, range, whatever their elements do. Own work. -/
namespace L2
open PySem PySem.Spec PyProof.Rows
/-- a turn of a comprehension: P is kept -/
abbrev lcStep (D : Addr) (tt : TT) (te : TE) (P : Nat → List V → St → Hp → Prop) (k : Nat) (ys : List V) : St → Hp → Prop := fun σ2 H2 => tt σ2 H2 fun b H3 =>
  if b = true then te σ2 H3 fun y H4 => H4 D = some (.lst ys) ∧ ys.length < sizeLine ∧ P (k + 1) (ys ++ [y]) σ2 (upd H4 D (.lst (ys ++ [y]))) else P (k + 1) ys σ2 H3
theorem lc_gen {J : It} {n : Nat} {g : TG} {tt : TT} {te : TE} {σ : St} {H : Hp} {D : Addr} {Q : Hp → Prop} (P : Nat → List V → St → Hp → Prop) (h0 : P 0 [] σ (upd H D (.lst [])))
    (hs : ∀ k ys σ' H', k < n → P k ys σ' H' → J.go k H' ∧ ∀ x H1, J.yld k H' x H1 → g x σ' H1 (fun σ2 H2 => tt σ2 H2 fun b H3 =>
      if b = true then te σ2 H3 fun y H4 => H4 D = some (.lst ys) ∧ ys.length < sizeLine ∧ ∃ m', m' < n - k ∧ m' = n - (k + 1) ∧ k + 1 ≤ n ∧ P (k + 1) (ys ++ [y]) σ2 (upd H4 D (.lst (ys ++ [y]))) else ∃ m', m' < n - k ∧ m' = n - (k + 1) ∧ k + 1 ≤ n ∧ P (k + 1) ys σ2 H3))
    (hd : ∀ ys σ' H', P n ys σ' H' → J.stop n H' ∧ Q H') :
    ∃ W : Nat → Nat → List V → St → Hp → Prop, (∃ m, W 0 m [] σ (upd H D (.lst []))) ∧ lcTurn J D g tt te Q W := by
  refine ⟨fun k m ys σ' H' => m = n - k ∧ k ≤ n ∧ P k ys σ' H', ⟨n, by simp, Nat.zero_le _, h0⟩, ?_⟩
  rintro k m ys σ' H' ⟨rfl, hk, hP⟩
  by_cases hlt : k < n
  · exact .inr (hs k ys σ' H' hlt hP)
  · have e : k = n := by omega
    subst e
    exact .inl (hd ys σ' H' hP)
/-- what stands behind a turn -/
def Beh (n k : Nat) (P : Nat → List V → St → Hp → Prop) (ys : List V) (σ : St) (H : Hp) : Prop := ∃ m', m' < n - k ∧ m' = n - (k + 1) ∧ k + 1 ≤ n ∧ P (k + 1) ys σ H
theorem Beh.of {n k : Nat} {P : Nat → List V → St → Hp → Prop} {ys : List V} {σ : St} {H : Hp} (hk : k < n) (h : P (k + 1) ys σ H) : Beh n k P ys σ H := ⟨n - (k + 1), by omega, rfl, hk, h⟩
theorem lc_enum {K : PySem.W.Frag} {a : Addr} {xs : List V} {g : TG} {tt : TT} {te : TE} {σ : St} {H : Hp} {D : Addr} {Q : Hp → Prop} (P : Nat → List V → St → Hp → Prop) (h0 : P 0 [] σ (upd H D (.lst []))) (hl : ∀ k ys σ' H', k ≤ xs.length → P k ys σ' H' → SqL K H' a xs)
    (hs : ∀ k x p ys σ' H', xs[k]? = some x → P k ys σ' H' → H' p = none → g (.ref p) σ' (upd H' p (.tup [.int (k : Nat), x])) (fun σ2 H2 => tt σ2 H2 fun b H3 =>
      if b = true then te σ2 H3 fun y H4 => H4 D = some (.lst ys) ∧ ys.length < sizeLine ∧ Beh xs.length k P (ys ++ [y]) σ2 (upd H4 D (.lst (ys ++ [y]))) else Beh xs.length k P ys σ2 H3))
    (hd : ∀ ys σ' H', P xs.length ys σ' H' → Q H') :
    ∃ W : Nat → Nat → List V → St → Hp → Prop, (∃ m, W 0 m [] σ (upd H D (.lst []))) ∧ lcTurn (Ite K a) D g tt te Q W := by
  refine lc_gen (n := xs.length) P h0 (fun k ys σ' H' hk hP => ?_) (fun ys σ' H' hP => ⟨⟨xs, hl _ _ _ _ (Nat.le_refl _) hP, Nat.le_refl _⟩, hd ys σ' H' hP⟩)
  have q := hl k ys σ' H' (Nat.le_of_lt hk) hP
  refine ⟨⟨xs, xs[k], q, by simp [hk]⟩, fun x H1 y => ?_⟩
  obtain ⟨pp, z, rfl, hn, rfl, y⟩ := y
  exact hs k z pp ys σ' H' (y xs q) hP hn
theorem lc_zip {K : PySem.W.Frag} {a b : Addr} {xs zs : List V} {g : TG} {tt : TT} {te : TE} {σ : St} {H : Hp} {D : Addr} {Q : Hp → Prop} (hlen : xs.length = zs.length) (P : Nat → List V → St → Hp → Prop) (h0 : P 0 [] σ (upd H D (.lst []))) (hl : ∀ k ys σ' H', k ≤ xs.length → P k ys σ' H' → SqL K H' a xs ∧ SqL K H' b zs)
    (hs : ∀ k x z p ys σ' H', xs[k]? = some x → zs[k]? = some z → P k ys σ' H' → H' p = none → g (.ref p) σ' (upd H' p (.tup [x, z])) (fun σ2 H2 => tt σ2 H2 fun b H3 =>
      if b = true then te σ2 H3 fun y H4 => H4 D = some (.lst ys) ∧ ys.length < sizeLine ∧ Beh xs.length k P (ys ++ [y]) σ2 (upd H4 D (.lst (ys ++ [y]))) else Beh xs.length k P ys σ2 H3))
    (hd : ∀ ys σ' H', P xs.length ys σ' H' → Q H') :
    ∃ W : Nat → Nat → List V → St → Hp → Prop, (∃ m, W 0 m [] σ (upd H D (.lst []))) ∧ lcTurn (Itz K a b) D g tt te Q W := by
  refine lc_gen (n := xs.length) P h0 (fun k ys σ' H' hk hP => ?_) (fun ys σ' H' hP => ?_)
  · obtain ⟨q1, q2⟩ := hl k ys σ' H' (Nat.le_of_lt hk) hP
    have hk2 : k < zs.length := by omega
    refine ⟨⟨xs, zs, xs[k], zs[k], q1, q2, by simp [hk], by simp [hk2]⟩, fun x H1 y => ?_⟩
    obtain ⟨pp, u, v, rfl, hn, rfl, y1, y2⟩ := y
    exact hs k u v pp ys σ' H' (y1 xs q1) (y2 zs q2) hP hn
  · obtain ⟨q1, q2⟩ := hl _ ys σ' H' (Nat.le_refl _) hP
    exact ⟨⟨xs, zs, q1, q2, .inl (Nat.le_refl _)⟩, hd ys σ' H' hP⟩
theorem lc_rng {lo : Int} {n : Nat} {g : TG} {tt : TT} {te : TE} {σ : St} {H : Hp} {D : Addr} {Q : Hp → Prop} (P : Nat → List V → St → Hp → Prop) (h0 : P 0 [] σ (upd H D (.lst [])))
    (hs : ∀ k ys σ' H', k < n → P k ys σ' H' → g (.int (lo + k)) σ' H' (fun σ2 H2 => tt σ2 H2 fun b H3 =>
      if b = true then te σ2 H3 fun y H4 => H4 D = some (.lst ys) ∧ ys.length < sizeLine ∧ Beh n k P (ys ++ [y]) σ2 (upd H4 D (.lst (ys ++ [y]))) else Beh n k P ys σ2 H3))
    (hd : ∀ ys σ' H', P n ys σ' H' → Q H') :
    ∃ W : Nat → Nat → List V → St → Hp → Prop, (∃ m, W 0 m [] σ (upd H D (.lst []))) ∧ lcTurn (Itr lo n) D g tt te Q W := by
  refine lc_gen (n := n) P h0 (fun k ys σ' H' hk hP => ⟨hk, fun x H1 y => ?_⟩) (fun ys σ' H' hP => ⟨Nat.le_refl _, hd ys σ' H' hP⟩)
  obtain ⟨rfl, rfl⟩ := y
  exact hs k ys σ' _ hk hP
end L2

set_option Elab.async false
set_option linter.all false
set_option maxRecDepth 100000
set_option maxHeartbeats 4000000
/-! Trees, as the program keeps them, and as plain data. Own work. -/
namespace TR
open PySem L2
inductive Tr where
  | word (n : Str) (at' : Int) (b : Nat)
  | fig (z at' : Int)
  | row (ps : List Tr) (at' : Int)
mutual
def many : Tr → Nat
  | .word _ _ _ => 1
  | .fig _ _ => 1
  | .row ps _ => 1 + manys ps
def manys : List Tr → Nat
  | [] => 0
  | p :: r => many p + manys r
end
mutual
def deep : Tr → Nat
  | .word _ _ _ => 0
  | .fig _ _ => 0
  | .row ps _ => deeps ps + 1
def deeps : List Tr → Nat
  | [] => 0
  | p :: r => max (deep p) (deeps r)
end
mutual
def addb (m : Nat) : Tr → Tr
  | .word n a b => .word n a (b ||| m)
  | .fig z a => .fig z a
  | .row ps a => .row (addbs m ps) a
def addbs (m : Nat) : List Tr → List Tr
  | [] => []
  | p :: r => addb m p :: addbs m r
end
mutual
theorem many_addb (m : Nat) : ∀ t : Tr, many (addb m t) = many t
  | .word _ _ _ => rfl
  | .fig _ _ => rfl
  | .row ps _ => by simp only [addb, many, manys_addbs m ps]
theorem manys_addbs (m : Nat) : ∀ ts : List Tr, manys (addbs m ts) = manys ts
  | [] => rfl
  | p :: r => by simp only [addbs, manys, many_addb m p, manys_addbs m r]
end
mutual
theorem deep_addb (m : Nat) : ∀ t : Tr, deep (addb m t) = deep t
  | .word _ _ _ => rfl
  | .fig _ _ => rfl
  | .row ps _ => by simp only [addb, deep, deeps_addbs m ps]
theorem deeps_addbs (m : Nat) : ∀ ts : List Tr, deeps (addbs m ts) = deeps ts
  | [] => rfl
  | p :: r => by simp only [addbs, deeps, deep_addb m p, deeps_addbs m r]
end
mutual
theorem addb_addb (m k : Nat) : ∀ t : Tr, addb m (addb k t) = addb (k ||| m) t
  | .word _ _ _ => by simp only [addb, Nat.or_assoc]
  | .fig _ _ => rfl
  | .row ps _ => by simp only [addb, addbs_addbs m k ps]
theorem addbs_addbs (m k : Nat) : ∀ ts : List Tr, addbs m (addbs k ts) = addbs (k ||| m) ts
  | [] => rfl
  | p :: r => by simp only [addbs, addb_addb m k p, addbs_addbs m k r]
end
mutual
theorem addb_zero : ∀ t : Tr, addb 0 t = t
  | .word _ _ _ => by simp only [addb, Nat.or_zero]
  | .fig _ _ => rfl
  | .row ps _ => by simp only [addb, addbs_zero ps]
theorem addbs_zero : ∀ ts : List Tr, addbs 0 ts = ts
  | [] => rfl
  | p :: r => by simp only [addbs, addb_zero p, addbs_zero r]
end
theorem deep_le_of_mem {t : Tr} : ∀ {ts : List Tr}, t ∈ ts → deep t ≤ deeps ts
  | p :: r, h => by
    rcases List.mem_cons.mp h with rfl | h
    · simp only [deeps]; omega
    · have := deep_le_of_mem h; simp only [deeps]; omega

/-- the classes -/
structure C4 where
  T : Addr
  W : Addr
  F : Addr
  R : Addr
def f3 (a m d : Int) : List (Str × V) := [("at", .int a), ("many", .int m), ("deep", .int d)]
def fW (n : Str) (a : Int) (b : Nat) : List (Str × V) := [("at", .int a), ("many", .int 1), ("deep", .int 0), ("name", .str n), ("bits", .int b)]
def fF (z a : Int) : List (Str × V) := [("at", .int a), ("many", .int 1), ("deep", .int 0), ("number", .int z)]
def fR (l : Addr) (m d : Nat) (a : Int) : List (Str × V) := [("at", .int a), ("many", .int m), ("deep", .int d), ("parts", .ref l)]
theorem putF_ne {f g : Str} {v w : V} {r : List (Str × V)} (h : g ≠ f) : putF f v ((g, w) :: r) = (g, w) :: putF f v r := by
  show (if g = f then _ else _) = _
  rw [if_neg h]
theorem putF_nil {f : Str} {v : V} : putF f v [] = [(f, v)] := rfl
theorem put_many {a m : Int} : putF "many" (.int m) ([("at", .int a)] : List (Str × V)) = ([("at", .int a), ("many", .int m)] : List (Str × V)) := by
  rw [putF_ne (by decide +kernel), putF_nil]
theorem put_deep {a m d : Int} : putF "deep" (.int d) ([("at", .int a), ("many", .int m)] : List (Str × V)) = f3 a m d := by
  rw [putF_ne (by decide +kernel), putF_ne (by decide +kernel), putF_nil]; rfl
theorem put_x {a m d : Int} {f : Str} {v : V} (h1 : ("at" : Str) ≠ f) (h2 : ("many" : Str) ≠ f) (h3 : ("deep" : Str) ≠ f) : putF f v (f3 a m d) = ([("at", .int a), ("many", .int m), ("deep", .int d), (f, v)] : List (Str × V)) := by
  unfold f3
  rw [putF_ne h1, putF_ne h2, putF_ne h3, putF_nil]
theorem put_bits {n : Str} {a : Int} {b : Nat} : putF "bits" (.int b) ([("at", .int a), ("many", .int 1), ("deep", .int 0), ("name", .str n)] : List (Str × V)) = fW n a b := by
  rw [putF_ne (by decide +kernel), putF_ne (by decide +kernel), putF_ne (by decide +kernel), putF_ne (by decide +kernel), putF_nil]; rfl

mutual
/-- the tree stands at v, all its objects at addresses that are N -/
def TrIn (c : C4) (N : Addr → Prop) (H : Hp) : Tr → V → Prop
  | .word n a b, v => ∃ p dx, v = .ref p ∧ N p ∧ H p = some (.ins c.W dx (fW n a b))
  | .fig z a, v => ∃ p dx, v = .ref p ∧ N p ∧ H p = some (.ins c.F dx (fF z a))
  | .row ps a, v => ∃ p dx l vs, v = .ref p ∧ N p ∧ H p = some (.ins c.R dx (fR l (1 + manys ps) (deeps ps + 1) a)) ∧ N l ∧ H l = some (.lst vs) ∧ ps.length ≤ 1000 ∧ TrsIn c N H ps vs
def TrsIn (c : C4) (N : Addr → Prop) (H : Hp) : List Tr → List V → Prop
  | [], vs => vs = []
  | p :: r, vs => ∃ v ws, vs = v :: ws ∧ TrIn c N H p v ∧ TrsIn c N H r ws
end
mutual
theorem TrIn.mono {c : C4} {N N' : Addr → Prop} {H H' : Hp} (h : ∀ b o, N b → H b = some o → N' b ∧ H' b = some o) : ∀ {t : Tr} {v : V}, TrIn c N H t v → TrIn c N' H' t v
  | .word n a b, v, x => by
    simp only [TrIn] at x ⊢
    obtain ⟨p, dx, e, np, hp⟩ := x
    exact ⟨p, dx, e, (h p _ np hp).1, (h p _ np hp).2⟩
  | .fig z a, v, x => by
    simp only [TrIn] at x ⊢
    obtain ⟨p, dx, e, np, hp⟩ := x
    exact ⟨p, dx, e, (h p _ np hp).1, (h p _ np hp).2⟩
  | .row ps a, v, x => by
    simp only [TrIn] at x ⊢
    obtain ⟨p, dx, l, vs, e, np, hp, nl, hl, le, r⟩ := x
    exact ⟨p, dx, l, vs, e, (h p _ np hp).1, (h p _ np hp).2, (h l _ nl hl).1, (h l _ nl hl).2, le, TrsIn.mono h r⟩
theorem TrsIn.mono {c : C4} {N N' : Addr → Prop} {H H' : Hp} (h : ∀ b o, N b → H b = some o → N' b ∧ H' b = some o) : ∀ {ts : List Tr} {vs : List V}, TrsIn c N H ts vs → TrsIn c N' H' ts vs
  | [], vs, x => by simp only [TrsIn] at x ⊢; exact x
  | p :: r, vs, x => by
    simp only [TrsIn] at x ⊢
    obtain ⟨v, ws, e, y, z⟩ := x
    exact ⟨v, ws, e, TrIn.mono h y, TrsIn.mono h z⟩
end
theorem TrsIn.length {c : C4} {N : Addr → Prop} {H : Hp} : ∀ {ts : List Tr} {vs : List V}, TrsIn c N H ts vs → vs.length = ts.length
  | [], vs, x => by simp only [TrsIn] at x; rw [x]; rfl
  | p :: r, vs, x => by
    simp only [TrsIn] at x
    obtain ⟨v, ws, e, y, z⟩ := x
    rw [e, List.length_cons, List.length_cons, TrsIn.length z]
theorem TrsIn.get {c : C4} {N : Addr → Prop} {H : Hp} : ∀ {ts : List Tr} {vs : List V} {i : Nat} {v : V}, TrsIn c N H ts vs → vs[i]? = some v → ∃ t, ts[i]? = some t ∧ TrIn c N H t v
  | [], vs, i, v, x, e => by simp only [TrsIn] at x; rw [x] at e; simp at e
  | p :: r, vs, i, v, x, e => by
    simp only [TrsIn] at x
    obtain ⟨u, ws, ev, y, z⟩ := x
    subst ev
    cases i with
    | zero => simp at e; subst e; exact ⟨p, rfl, y⟩
    | succ i =>
      obtain ⟨t, et, q⟩ := TrsIn.get z (i := i) (v := v) (by simpa using e)
      exact ⟨t, by simpa using et, q⟩
theorem TrsIn.snoc {c : C4} {N : Addr → Prop} {H : Hp} {t : Tr} {v : V} (y : TrIn c N H t v) : ∀ {ts : List Tr} {vs : List V}, TrsIn c N H ts vs → TrsIn c N H (ts ++ [t]) (vs ++ [v])
  | [], vs, x => by simp only [TrsIn] at x; subst x; simp only [List.nil_append, TrsIn]; exact ⟨v, [], rfl, y, rfl⟩
  | p :: r, vs, x => by
    simp only [TrsIn] at x
    obtain ⟨u, ws, ev, y', z⟩ := x
    subst ev
    simp only [List.cons_append, TrsIn]
    exact ⟨u, ws ++ [v], rfl, y', TrsIn.snoc y z⟩
mutual
/-- the plan of a tree (tuples and lists), as the laws keep one -/
def PlIn (N : Addr → Prop) (H : Hp) : Tr → V → Prop
  | .word n a b, v => ∃ p, v = .ref p ∧ N p ∧ H p = some (.tup [.str "word", .str n, .int a, .int b])
  | .fig z a, v => ∃ p, v = .ref p ∧ N p ∧ H p = some (.tup [.str "figure", .int z, .int a])
  | .row ps a, v => ∃ p l vs, v = .ref p ∧ N p ∧ H p = some (.tup [.str "row", .ref l, .int a]) ∧ N l ∧ H l = some (.lst vs) ∧ ps.length ≤ 1000 ∧ PlsIn N H ps vs
def PlsIn (N : Addr → Prop) (H : Hp) : List Tr → List V → Prop
  | [], vs => vs = []
  | p :: r, vs => ∃ v ws, vs = v :: ws ∧ PlIn N H p v ∧ PlsIn N H r ws
end
mutual
theorem PlIn.mono {N N' : Addr → Prop} {H H' : Hp} (h : ∀ b o, N b → H b = some o → N' b ∧ H' b = some o) : ∀ {t : Tr} {v : V}, PlIn N H t v → PlIn N' H' t v
  | .word n a b, v, x => by
    simp only [PlIn] at x ⊢
    obtain ⟨p, e, np, hp⟩ := x
    exact ⟨p, e, (h p _ np hp).1, (h p _ np hp).2⟩
  | .fig z a, v, x => by
    simp only [PlIn] at x ⊢
    obtain ⟨p, e, np, hp⟩ := x
    exact ⟨p, e, (h p _ np hp).1, (h p _ np hp).2⟩
  | .row ps a, v, x => by
    simp only [PlIn] at x ⊢
    obtain ⟨p, l, vs, e, np, hp, nl, hl, le, r⟩ := x
    exact ⟨p, l, vs, e, (h p _ np hp).1, (h p _ np hp).2, (h l _ nl hl).1, (h l _ nl hl).2, le, PlsIn.mono h r⟩
theorem PlsIn.mono {N N' : Addr → Prop} {H H' : Hp} (h : ∀ b o, N b → H b = some o → N' b ∧ H' b = some o) : ∀ {ts : List Tr} {vs : List V}, PlsIn N H ts vs → PlsIn N' H' ts vs
  | [], vs, x => by simp only [PlsIn] at x ⊢; exact x
  | p :: r, vs, x => by
    simp only [PlsIn] at x ⊢
    obtain ⟨v, ws, e, y, z⟩ := x
    exact ⟨v, ws, e, PlIn.mono h y, PlsIn.mono h z⟩
end
def All : Addr → Prop := fun _ => True
theorem TrIn.same {c : C4} {N : Addr → Prop} {H H' : Hp} {t : Tr} {v : V} (x : TrIn c N H t v) (s : Same H H') : TrIn c N H' t v := x.mono fun b o n e => ⟨n, s b o e⟩
theorem TrIn.all {c : C4} {N : Addr → Prop} {H : Hp} {t : Tr} {v : V} (x : TrIn c N H t v) : TrIn c All H t v := x.mono fun b o _ e => ⟨trivial, e⟩
end TR

set_option Elab.async false
set_option linter.all false
set_option maxRecDepth 100000
set_option maxHeartbeats 4000000
/-! Models of trees in the heap. Own work. -/
namespace TR
open PySem L2
mutual
/-- the model of a tree (tuples and lists), by short tags -/
def MdIn (N : Addr → Prop) (H : Hp) : Tr → V → Prop
  | .word n a b, v => ∃ p, v = .ref p ∧ N p ∧ H p = some (.tup [.str "w", .str n, .int a, .int b])
  | .fig z a, v => ∃ p, v = .ref p ∧ N p ∧ H p = some (.tup [.str "n", .int z, .int a])
  | .row ps a, v => ∃ p l vs, v = .ref p ∧ N p ∧ H p = some (.tup [.str "r", .ref l, .int a]) ∧ N l ∧ H l = some (.lst vs) ∧ ps.length ≤ 1000 ∧ MdsIn N H ps vs
def MdsIn (N : Addr → Prop) (H : Hp) : List Tr → List V → Prop
  | [], vs => vs = []
  | p :: r, vs => ∃ v ws, vs = v :: ws ∧ MdIn N H p v ∧ MdsIn N H r ws
end
mutual
theorem MdIn.mono {N N' : Addr → Prop} {H H' : Hp} (h : ∀ b o, N b → H b = some o → N' b ∧ H' b = some o) : ∀ {t : Tr} {v : V}, MdIn N H t v → MdIn N' H' t v
  | .word n a b, v, x => by
    simp only [MdIn] at x ⊢
    obtain ⟨p, e, np, hp⟩ := x
    exact ⟨p, e, (h p _ np hp).1, (h p _ np hp).2⟩
  | .fig z a, v, x => by
    simp only [MdIn] at x ⊢
    obtain ⟨p, e, np, hp⟩ := x
    exact ⟨p, e, (h p _ np hp).1, (h p _ np hp).2⟩
  | .row ps a, v, x => by
    simp only [MdIn] at x ⊢
    obtain ⟨p, l, vs, e, np, hp, nl, hl, le, r⟩ := x
    exact ⟨p, l, vs, e, (h p _ np hp).1, (h p _ np hp).2, (h l _ nl hl).1, (h l _ nl hl).2, le, MdsIn.mono h r⟩
theorem MdsIn.mono {N N' : Addr → Prop} {H H' : Hp} (h : ∀ b o, N b → H b = some o → N' b ∧ H' b = some o) : ∀ {ts : List Tr} {vs : List V}, MdsIn N H ts vs → MdsIn N' H' ts vs
  | [], vs, x => by simp only [MdsIn] at x ⊢; exact x
  | p :: r, vs, x => by
    simp only [MdsIn] at x ⊢
    obtain ⟨v, ws, e, y, z⟩ := x
    exact ⟨v, ws, e, MdIn.mono h y, MdsIn.mono h z⟩
end
theorem MdsIn.length {N : Addr → Prop} {H : Hp} : ∀ {ts : List Tr} {vs : List V}, MdsIn N H ts vs → vs.length = ts.length
  | [], vs, x => by simp only [MdsIn] at x; rw [x]; rfl
  | p :: r, vs, x => by
    simp only [MdsIn] at x
    obtain ⟨v, ws, e, y, z⟩ := x
    rw [e, List.length_cons, List.length_cons, MdsIn.length z]
theorem MdsIn.get {N : Addr → Prop} {H : Hp} : ∀ {ts : List Tr} {vs : List V} {i : Nat} {v : V}, MdsIn N H ts vs → vs[i]? = some v → ∃ t, ts[i]? = some t ∧ MdIn N H t v
  | [], vs, i, v, x, e => by simp only [MdsIn] at x; rw [x] at e; simp at e
  | p :: r, vs, i, v, x, e => by
    simp only [MdsIn] at x
    obtain ⟨u, ws, ev, y, z⟩ := x
    subst ev
    cases i with
    | zero => simp at e; subst e; exact ⟨p, rfl, y⟩
    | succ i =>
      obtain ⟨t, et, q⟩ := MdsIn.get z (i := i) (v := v) (by simpa using e)
      exact ⟨t, by simpa using et, q⟩
theorem MdsIn.snoc {N : Addr → Prop} {H : Hp} {t : Tr} {v : V} (y : MdIn N H t v) : ∀ {ts : List Tr} {vs : List V}, MdsIn N H ts vs → MdsIn N H (ts ++ [t]) (vs ++ [v])
  | [], vs, x => by simp only [MdsIn] at x; subst x; simp only [List.nil_append, MdsIn]; exact ⟨v, [], rfl, y, rfl⟩
  | p :: r, vs, x => by
    simp only [MdsIn] at x
    obtain ⟨u, ws, ev, y', z⟩ := x
    subst ev
    simp only [List.cons_append, MdsIn]
    exact ⟨u, ws ++ [v], rfl, y', MdsIn.snoc y z⟩
theorem MdIn.same {N : Addr → Prop} {H H' : Hp} {t : Tr} {v : V} (x : MdIn N H t v) (s : Same H H') : MdIn N H' t v := x.mono fun b o n e => ⟨n, s b o e⟩
theorem MdsIn.same {N : Addr → Prop} {H H' : Hp} {t : List Tr} {v : List V} (x : MdsIn N H t v) (s : Same H H') : MdsIn N H' t v := x.mono fun b o n e => ⟨n, s b o e⟩
theorem MdsIn.all {N : Addr → Prop} {H : Hp} {t : List Tr} {v : List V} (x : MdsIn N H t v) : MdsIn All H t v := x.mono fun b o _ e => ⟨trivial, e⟩
theorem MdsIn.append {N : Addr → Prop} {H : Hp} : ∀ {ts us : List Tr} {vs ws : List V}, MdsIn N H ts vs → MdsIn N H us ws → MdsIn N H (ts ++ us) (vs ++ ws)
  | [], us, vs, ws, x, y => by simp only [MdsIn] at x; rw [x]; exact y
  | t :: r, us, vs, ws, x, y => by
    simp only [MdsIn] at x
    obtain ⟨v, zs, e, a, b⟩ := x
    simp only [List.cons_append, MdsIn]
    exact ⟨v, zs ++ ws, by rw [e]; rfl, a, MdsIn.append b y⟩
theorem MdsIn.take {N : Addr → Prop} {H : Hp} : ∀ {ts : List Tr} {vs : List V} (k : Nat), MdsIn N H ts vs → MdsIn N H (ts.take k) (vs.take k)
  | [], vs, k, x => by simp only [MdsIn] at x; rw [x]; simp only [List.take_nil, MdsIn]
  | t :: r, vs, 0, x => by simp only [List.take_zero, MdsIn]
  | t :: r, vs, k + 1, x => by
    simp only [MdsIn] at x
    obtain ⟨v, zs, e, a, b⟩ := x
    rw [e]
    simp only [List.take_succ_cons, MdsIn]
    exact ⟨v, _, rfl, a, MdsIn.take k b⟩
theorem MdsIn.drop {N : Addr → Prop} {H : Hp} : ∀ {ts : List Tr} {vs : List V} (k : Nat), MdsIn N H ts vs → MdsIn N H (ts.drop k) (vs.drop k)
  | [], vs, k, x => by simp only [MdsIn] at x; rw [x]; simp only [List.drop_nil, MdsIn]
  | t :: r, vs, 0, x => by rw [List.drop_zero, List.drop_zero]; exact x
  | t :: r, vs, k + 1, x => by
    simp only [MdsIn] at x
    obtain ⟨v, zs, e, a, b⟩ := x
    rw [e, List.drop_succ_cons, List.drop_succ_cons]
    exact MdsIn.drop k b
theorem MdsIn.one {N : Addr → Prop} {H : Hp} {t : Tr} {v : V} (x : MdIn N H t v) : MdsIn N H [t] [v] := by simp only [MdsIn]; exact ⟨v, [], rfl, x, rfl⟩
end TR

set_option linter.all false
/-! Signs of texts as lists of numbers: parts at one sign, words between blanks, padding. Own work. -/
namespace TX
/-- parts at the sign c: the first one, and the rest -/
def spl (c : Nat) : List Nat → List Nat × List (List Nat)
  | [] => ([], [])
  | k :: r => if k = c then ([], (spl c r).1 :: (spl c r).2) else (k :: (spl c r).1, (spl c r).2)
def splitC (c : Nat) (l : List Nat) : List (List Nat) := (spl c l).1 :: (spl c l).2
/-- what lies between blanks -/
def wordsC (l : List Nat) : List (List Nat) := (splitC 32 l).filter fun p => decide (p ≠ [])
/-- two texts of which the words stay apart when they are put together -/
def Apart (a b : List Nat) : Prop := a = [] ∨ b = [] ∨ (∃ a', a = a' ++ [32]) ∨ ∃ b', b = 32 :: b'
/-- each sign c exchanged for z -/
def rep (c : Nat) (z : List Nat) (l : List Nat) : List Nat := l.flatMap fun k => if k = c then z else [k]
/-- the text as the reader pads it -/
def pad (l : List Nat) : List Nat := rep 10 [32] (rep 41 [32, 41, 32] (rep 40 [32, 40, 32] l))
def Plain (l : List Nat) : Prop := ∀ k ∈ l, k ≠ 32 ∧ k ≠ 10 ∧ k ≠ 40 ∧ k ≠ 41
def Gap (l : List Nat) : Prop := ∀ k ∈ l, k = 32 ∨ k = 10
/-- the signs of a text -/
def cutC (l : List Nat) : List (List Nat) := wordsC (pad l)
/-- a sign as the reader takes one: a bracket, or plain -/
def SignC (l : List Nat) : Prop := l = [40] ∨ l = [41] ∨ (Plain l ∧ l ≠ [])
/-- it ends with a blank (padded), or it is empty -/
def Shut (a : List Nat) : Prop := pad a = [] ∨ ∃ a', pad a = a' ++ [32]
end TX

set_option Elab.async false
set_option linter.all false
set_option maxRecDepth 100000
set_option maxHeartbeats 4000000
/-! Texts over the hand layer: their mathematics as lists of numbers; split, replace, startswith, walks over the signs, cuts, repeats. Own work. -/
namespace L2
open PySem PySem.Spec PyProof.Rows Builtin Builtin.Str
/-! ### texts as lists of numbers -/
def cpl (x : Str) : List Nat := x.cps.toList
def ofL (l : List Nat) : Str := ⟨l.toArray⟩
theorem cpl_len (x : Str) : (cpl x).length = x.length := by simp [cpl, Str.length]
theorem cpl_cat (x y : Str) : cpl (x ++ y) = cpl x ++ cpl y := by
  show (x ++ y).cps.toList = _
  rw [Str.cps_append, Array.toList_append]; rfl
/-! ### rules -/
section
variable {X : Cx}
def rStarts : V → List V → Hp → VK → Prop := fun x vs H Q => ∃ a b, x = .str a ∧ vs = [.str b] ∧ Q (.bl (Txt.startswith a b)) H
def rSplit : V → List V → Hp → VK → Prop := fun x vs H Q => ∃ a b, x = .str a ∧ vs = [.str b] ∧ (b.length == 0) = false ∧ a.length + 2 ≤ sizeLine ∧ ∀ D, H D = none → Q (.ref D) (upd H D (.lst ((Txt.split a b).map V.str)))
/-- x[lo:hi] of a text -/
def rSlS : V → Option Int → Option Int → Hp → VK → Prop := fun x lo hi H Q => ∃ z, x = .str z ∧ z.length ≤ sizeLine ∧ Q (.str (Txt.slice z lo hi)) H
end
end L2

set_option Elab.async false
set_option linter.all false
set_option maxRecDepth 100000
set_option maxHeartbeats 4000000
/-! Texts over the hand layer: walks over the signs, repeats, replace behind a def's entry. Own work. -/
namespace L2
open PySem PySem.Spec PyProof.Rows Builtin Builtin.Str
/-- a text's signs, as values -/
def sgn (c : Nat) : V := .str ⟨#[c]⟩
def sgns (x : Str) : List V := (cpl x).map sgn
/-- the signs of x, one after another -/
def Its (x : Str) : It := ⟨fun i _ => i < x.length, fun i H v H' => H' = H ∧ (sgns x)[i]? = some v, fun i _ => i = x.length⟩
section
variable {X : Cx} {tg : Expr}
def iStr (tl : TE) : TI := fun σ H R => tl σ H fun v H1 => ∃ x, v = .str x ∧ R (Its x) H1
/-- a text repeated -/
def rRepS : R2 := fun x y H Q => ∃ a k, x = .str a ∧ y = .int k ∧ 0 ≤ k ∧ k ≤ 1000000 ∧ a.length * k.toNat ≤ sizeLine ∧ a.length ≤ 1000000 ∧ Q (.str (ofL (List.replicate k.toNat (cpl a)).flatten)) H
end
end L2

set_option Elab.async false
set_option linter.all false
set_option maxRecDepth 100000
set_option maxHeartbeats 4000000
/-! Behind a def's entry at least one token has been counted: str.replace with written texts. Own work. -/
namespace L2
open PySem PySem.Spec PyProof.Rows Builtin Builtin.Str
/-- an expression read where a token has been counted -/
def PET (X : Cx) (e : Expr) (t : TE) : Prop :=
  ∀ (pins : List (Addr × Obj)) (s : Shared) (σ : St) (H : Hp) (Q : VK), 1 ≤ s.toks → Inv X pins σ H s → t σ H Q → wpAny (model X.prog X.w) X.A (eval e X.env) (EP X pins σ Q) X.xe s
def PST (X : Cx) (st : Stmt) (t : TS) : Prop :=
  ∀ (pins : List (Addr × Obj)) (s : Shared) (σ : St) (H : Hp) (D : Ends), 1 ≤ s.toks → Inv X pins σ H s → t D σ H → wpAny (model X.prog X.w) X.A (exec st X.env) (SP X pins D) X.xe s
def PSsT (X : Cx) (st : List Stmt) (t : TS) : Prop :=
  ∀ (pins : List (Addr × Obj)) (s : Shared) (σ : St) (H : Hp) (D : Ends), 1 ≤ s.toks → Inv X pins σ H s → t D σ H → wpAny (model X.prog X.w) X.A (execs st X.env) (SP X pins D) X.xe s
section
variable {X : Cx}
/-- o.replace('y', 'z') -/
def tRepl (y z : Str) (to : TE) : TE := fun σ H Q => to σ H fun v H1 => ∃ a, v = .str a ∧ a.length + (a.length + 1) * z.length ≤ 16777216 ∧ Q (.str (Txt.replace a y z)) H1
end
/-! ### the entry -/
section
variable {M : Model} {A : Around} {E : Value → Shared → Prop} {s₀ : Shared} {env : Env}
end
end L2

set_option Elab.async false
set_option linter.all false
set_option maxRecDepth 100000
set_option maxHeartbeats 4000000
/-! Texts over the hand layer: join. Own work. -/
namespace L2
open PySem PySem.Spec PyProof.Rows Builtin Builtin.Str
section
variable {X : Cx}
def rJoin (K : PySem.W.Frag) : V → List V → Hp → VK → Prop := fun x vs H Q => ∃ a D xs, x = .str a ∧ vs = [.ref D] ∧ SqL K H D (xs.map V.str) ∧ JoinOk a xs = true ∧ Q (.str (Str.join a xs)) H
end
end L2
namespace TX
end TX
namespace L2
open PySem
end L2

set_option maxRecDepth 100000
set_option maxHeartbeats 4000000
namespace XC
open PySem PySem.W PySem.Calls PyProof.Rows
theorem slot_ga : Slot "ValueError" "__getattribute__" "BaseException.__getattribute__" :=
  Slot.of (owner := "BaseException") (n := "__getattribute__") (by rw [typeLookup_type, builtinLookup_eq_fast]; kernel_rfl) (by decide +kernel) (by decide +kernel) (by decide +kernel) (.inl (by decide +kernel)) (by rw [isSubtype_type]; kernel_rfl)
theorem ga_kind : builtinKind "BaseException.__getattribute__" = some .slot := by decide +kernel
theorem ga_split : splitId "BaseException.__getattribute__" = some ("BaseException", "__getattribute__") := by decide +kernel
section
variable {prog : Program} {w : World} {A : Around} {E : Value → Shared → Prop} {s : Shared} {K : Frag} {x C : Addr} {ox : Obj} {od : Option Obj} {name : Str} {expr : Bool} {Q : Value → Shared → Prop}
theorem isin_base {M : Model} {h : Heap} {B : Value} (X : K.In h) (I : InstAt h x ox C od) (hm : mroIn K C B = some true) : Looks M h (isInstance (.ref x) B) true := I.type.andThen (looks_mroIn X hm)
theorem exc_get {v : Value} (X : K.In s.heap) (I : InstAt s.heap x ox C od) (hga : findIn K (.ref C) "__getattribute__" = some (some (.builtin "BaseException.__getattribute__")))
    (hgn : findIn K (.ref C) "__getattr__" = some none) (hm : mroIn K C (.type "BaseException") = some true)
    (hf : findObj K C od name = some (.value v)) (hh : handedIn v = true) (h : Q v { s with toks := s.toks + 1 }) : wpAny (model prog w) A (getAttr (.ref x) name expr) Q E s := by
  obtain ⟨hp, g, d, t, os⟩ := s
  have L0 := I.type (M := model prog w)
  have L1 := looks_findIn (M := model prog w) X hga
  have L2 := looks_findIn (M := model prog w) X hgn
  have L3 := looks_find (M := model prog w) X I hf
  have hb := slot_ga.bind (.ref x)
  unfold getAttr getAttrBy
  refine wpAny_bind (wpAny_mkText (wpAny_holding (wpAny_bind (L0.at (wpAny_bind (L1.at ?_))))))
  have hx2 : (onTheHeap (Value.ref C) && Value.builtin "BaseException.__getattribute__" == Value.builtin "object.__getattribute__") = false := by
    rw [show (Value.builtin "BaseException.__getattribute__" == Value.builtin "object.__getattribute__") = false by decide +kernel]; rfl
  show wpAny _ _ (if (onTheHeap (Value.ref C) && Value.builtin "BaseException.__getattribute__" == Value.builtin "object.__getattribute__") = true then _ else _) _ _ _
  rw [hx2, if_neg Bool.false_ne_true]
  unfold getAttrByItsOwn
  refine wpAny_bind (L2.at ?_)
  refine wpAny_bind (wpAny_attempt ?_)
  refine wpAny_holding ?_
  unfold callGetattribute
  rw [show (expr && onTheHeap (Value.builtin "BaseException.__getattribute__")) = false by cases expr <;> rfl, if_neg Bool.false_ne_true]
  unfold boundAndCalled
  rw [hb]
  refine wpAny_bind (wpAny_pure (wpAny_call ?_))
  show codeAny _ _ (.call (.builtin "BaseException.__getattribute__") ⟨[.ref x, .str name t], []⟩) _ ⟨hp, g, d, t + 1, os⟩
  refine codeAny_call_builtin slot_ga.plain F.entry_bexc_ga (@check_slot (model prog w) _ _ ⟨hp, g, d, t + 1, os⟩ "BaseException.__getattribute__" "BaseException" "__getattribute__" (.ref x) [.str name t] [] _ ga_kind ga_split (isin_base X I hm) (F.args_bexc_ga (.ref x) (.str name t)) ?_)
  refine wpAny_bind (wpAny_pure (wpAny_bind (wpAny_pure (wpAny_bind (L0.at (wpAny_bind (L3.at ?_)))))))
  refine wpAny_pure ?_
  show wpAny _ _ (handedOut v) _ _ _
  rw [handedOut_of hh]; exact wpAny_pure h
end
end XC

set_option maxRecDepth 100000
set_option maxHeartbeats 4000000
namespace XC
open PySem PySem.W PySem.Calls PyProof.Rows
theorem vi_plain : plainId "ValueError.__init__" = true := by decide +kernel
theorem vi_kind : builtinKind "ValueError.__init__" = some .slot := by decide +kernel
theorem vi_split : splitId "ValueError.__init__" = some ("ValueError", "__init__") := by decide +kernel
theorem vi_row : Manifest.signature? "ValueError.__init__" = some ⟨.positional, "*", "ValueError", .self, [⟨"args", .varPos, false⟩]⟩ := by kernel_rfl
theorem vi_entry : entryFor table "ValueError.__init__" = some Builtin.«BaseException.__init__» :=
  entryFor_alias (id' := "BaseException.__init__") (by kernel_rfl) (by first | rfl | (unfold String.splitOn; simp +decide [String.splitOnAux])) (by decide +kernel) (by kernel_rfl)
/-- an exception object as it is made, t its arguments -/
abbrev newO (C t : Addr) (od : Option Addr) : Obj := { cls := .ref C, dict := od, data := .fields #[.ref t, .none, .none, .none, .bool false, .none] }
section
variable {prog : Program} {w : World} {A : Around} {E : Value → Shared → Prop} {s : Shared} {K : Frag} {x C t0 : Addr} {ox : Obj} {od : Option Obj} {name : Str} {expr : Bool} {Q : Value → Shared → Prop}
theorem vi_check {M : Model} {cd : ClassData} {rest : List Value} {R : Unit → Shared → Prop} (X : K.In s.heap) (I : s.heap.get? x = some ox) (hc : ox.cls = .ref C) (hm : mroIn K C (.type "ValueError") = some true) (hcd : clsIn K C = some cd)
    (h : R () s) : wpAny M A (checkBuiltinCall "ValueError.__init__" ⟨.ref x :: rest, []⟩) R E s := by
  obtain ⟨hp, g, d, t, os⟩ := s
  have L1 := looks_mroIn (M := M) X hm
  have L2 := looks_clsIn (M := M) X hcd
  have hshort : ("ValueError" == "*") = false := by decide
  simp only [checkBuiltinCall, vi_kind, vi_split, vi_row]
  repeat (first | (with_reducible refine wpAny_loadPart_at I ?_; rw [hc]) | with_reducible refine L1.at ?_ | with_reducible refine L2.at ?_ | wp_step)
  refine wpAny_onRaise ?_
  exact wpAny_of_eq (a := ()) (check_star_args _ _ _ _ _ _) h
theorem exc_init {u : Value} (X : K.In s.heap) (I : s.heap.get? x = some (newO C t0 none)) (hm : mroIn K C (.type "ValueError") = some true) {cd : ClassData} (hcd : clsIn K C = some cd)
    (h : ∀ h' t, (∀ b o, b ≠ x → s.heap.get? b = some o → h'.get? b = some o) → h'.get? x = some (newO C t none) → Q .none { s with heap := h' }) :
    wpAny (model prog w) A (call (.builtin "ValueError.__init__") [.ref x, u]) Q E s := by
  obtain ⟨hp, g, d, t, os⟩ := s
  have I' : InstAt hp x (newO C t0 none) C none := ⟨I, rfl, rfl, trivial⟩
  refine wpAny_call ?_
  refine codeAny_call_builtin vi_plain vi_entry (vi_check (s := ⟨hp, g, d, t, os⟩) X I rfl hm hcd ?_)
  have I2 : hp.get? x = some (newO C t0 none) := I
  have I3 := Heap.get?_push_of_some { cls := .type "tuple", data := .seq #[u] } I2
  unfold Builtin.«BaseException.__init__»
  wp_walk
  refine h _ hp.objs.size (fun b o nb e => ?_) ?_
  · rw [Heap.get?_update_other _ _ (Ne.symm nb)]
    exact Heap.get?_push_of_some _ e
  · rw [Heap.get?_update_self _ I3 rfl]
    rfl
end
end XC

set_option maxRecDepth 100000
set_option maxHeartbeats 4000000
namespace XC
open PySem PySem.W PySem.Calls PyProof.Rows Builtin.ObjectAttr
/-- own classes, then ValueError and what is above it -/
def excMro : List Value → Bool
  | .ref _ :: r => excMro r
  | [.type a, .type b, .type c, .type d] => a == "ValueError" && b == "Exception" && c == "BaseException" && d == "object"
  | _ => false
theorem refuse_vals (self : Value) : refuseLoop self "__setattr__" [.type "ValueError", .type "Exception", .type "BaseException", .type "object"] = pure () := by kernel_rfl
theorem refuse_exc (self : Value) : ∀ {l : List Value}, excMro l = true → refuseLoop self "__setattr__" l = pure ()
  | .ref c :: r, e => by rw [refuseLoop_ref]; exact refuse_exc self (by unfold excMro at e; exact e)
  | [.type a, .type b, .type c, .type d], e => by
    simp only [excMro, Bool.and_eq_true, beq_iff_eq] at e
    obtain ⟨⟨⟨rfl, rfl⟩, rfl⟩, rfl⟩ := e
    exact refuse_vals self
theorem exc_has : ∀ {l : List Value}, excMro l = true → l.contains (.type "object") = true ∧ l.isEmpty = false
  | .ref c :: r, e => ⟨by rw [List.contains_cons, (exc_has (l := r) (by unfold excMro at e; exact e)).1, Bool.or_true], rfl⟩
  | [.type a, .type b, .type c, .type d], e => by
    simp only [excMro, Bool.and_eq_true, beq_iff_eq] at e
    obtain ⟨⟨⟨rfl, rfl⟩, rfl⟩, rfl⟩ := e
    exact ⟨by decide, rfl⟩
section
variable {prog : Program} {w : World} {A : Around} {E : Value → Shared → Prop} {s : Shared} {K : Frag} {x C : Addr} {ox : Obj} {od : Option Obj} {name : Str} {R : Result → Shared → Prop}
theorem osa_exc {cd : ClassData} {tk : Tok} {v : Value} (X : K.In s.heap) (I : InstAt s.heap x ox C od) (hc : clsIn K C = some cd) (ho : excMro cd.mro = true) (ht : takerIn K C name = some none)
    (h : ∀ b, wpAny (model prog w) A.in1 (storeInOwnDict (.ref x) (.ref C) (.str name tk) name v b)
      (fun fin s' => match fin with | .done f => R (.ok f) s' | .again c' => c'.quiet = true ∧ codeAny (model prog w) A c' R s') (fun e s' => R (.error e) s') s) :
    codeAny (model prog w) A (.call (.builtin "object.__setattr__") ⟨[.ref x, .str name tk, v], []⟩) R s := by
  have SF := PySem.F.store_object
  obtain ⟨hb, ne⟩ := exc_has ho
  have sub : Looks (model prog w) s.heap (isInstance (.ref x) (.type "object")) true := isin_base X I (by unfold mroIn; rw [hc, Option.bind_some, if_neg (by rw [ne]; decide), hb])
  refine codeAny_call_builtin SF.slot.plain SF.entry (@check_slot (model prog w) _ _ s "object.__setattr__" "object" "__setattr__" (.ref x) [.str name tk, v] [] _ SF.kind SF.split sub (SF.args (.ref x) (.str name tk) v) ?_)
  obtain ⟨attr, ha, hr⟩ := Option.bind_eq_some_iff.mp ht
  have hm : Looks (model prog w) s.heap (mroOf (.ref C)) cd.mro := (looks_clsIn X hc).andThen .now
  have L3 : Looks (model prog w) s.heap (storeTaker? attr) none := by
    cases attr with
    | none => exact .now
    | some a =>
      obtain ⟨b, hb, hz⟩ := Option.map_eq_some_iff.mp hr
      refine (looks_takesIn X hb).andThen ?_
      cases b
      · exact .now
      · cases hz
  rw [osa_eq, refuse_eq]
  refine wpAny_bind (wpAny_bind (I.type.here (wpAny_bind (hm.here ?_))))
  rw [refuse_exc _ ho]
  refine wpAny_pure (wpAny_bind (I.type.here (wpAny_bind ((looks_findIn X ha).here (wpAny_bind (L3.here ?_))))))
  exact h _
/-- what a class of exceptions must tell -/
structure ECls (K : Frag) (C : Addr) : Prop where
  cls : ∃ cd, clsIn K C = some cd ∧ excMro cd.mro = true ∧ cd.hasDict = true
  sa : findIn K (.ref C) "__setattr__" = some (some (.builtin "object.__setattr__"))
  ga : findIn K (.ref C) "__getattribute__" = some (some (.builtin "BaseException.__getattribute__"))
  gn : findIn K (.ref C) "__getattr__" = some none
abbrev excO (C : Addr) (od : Option Addr) (vs : Array Value) : Obj := { cls := .ref C, dict := od, data := .fields vs }
theorem exc_set1 {vs : Array Value} {v : Value} {Q : Unit → Shared → Prop} (X : K.In s.heap) (c : ECls K C) (I : s.heap.get? x = some (excO C none vs)) (ht : takerIn K C name = some none)
    (h : ∀ h' dx, s.heap.objs.size = dx → (∀ b o, b ≠ x → s.heap.get? b = some o → h'.get? b = some o) → h'.get? x = some (excO C (some dx) vs) → h'.Ns1 dx (fun y => if y = name then some v else none) → Q () { s with heap := h', toks := s.toks + 2 }) :
    wpAny (model prog w) A (setAttr (.ref x) name v) Q E s := by
  obtain ⟨cd, hc, ho, hd⟩ := c.cls
  have J : InstAt s.heap x (excO C none vs) C none := ⟨I, rfl, rfl, trivial⟩
  refine set_plain X J c.sa (osa_exc (s := { s with toks := s.toks + 1 }) X J hc ho ht fun b => ?_)
  refine wpAny_bind (wpAny_pure (wpAny_bind (wpAny_bind (wpAny_loadPart I (wpAny_bind (Looks.here (s := { s with toks := s.toks + 1 }) (looks_clsIn X hc) ?_))))))
  rw [hd]
  have e1 : (s.heap.push { cls := .type "dict", data := .dict #[] }).get? s.heap.objs.size = some { cls := .type "dict", data := .dict #[] } := Heap.get?_push_size _ rfl
  have e2 := Heap.get?_push_of_some { cls := .type "dict", data := .dict #[] } I
  have hne : s.heap.objs.size ≠ x := fun z => absurd (Heap.lt_size I) (by rw [z]; exact Nat.lt_irrefl _)
  show wpAny _ _ (do let d ← alloc { cls := .type "dict", data := .dict #[] }; update x fun o => { cls := o.cls, dict := some d, data := o.data, slots := o.slots }; dictMade (.ref C) x d) _ _ _
  refine wpAny_bind (wpAny_alloc (wpAny_bind (wpAny_update e2 (wpAny_pure ?_))))
  refine wpAny_bind (wpAny_pure (wpAny_bind ?_))
  have n3 : ((s.heap.push { cls := .type "dict", data := .dict #[] }).update x fun o => { cls := o.cls, dict := some s.heap.objs.size, data := o.data, slots := o.slots }).Ns1 s.heap.objs.size (fun _ => none) := by
    refine Heap.Ns1.of_empty ⟨{ cls := .type "dict", data := .dict #[] }, #[], _, ?_, rfl, (fun e he => absurd he (by simp)), fun _ => rfl⟩
    rw [Heap.get?_update_other _ _ (Ne.symm hne)]; exact e1
  refine wpAny_nsSet1 (s := ⟨_, s.gens, s.drawn, s.toks + 1, s.os⟩) n3 fun h' hn2 hs2 => ?_
  obtain ⟨oD, esD, epD, hoD, hdD, hcD⟩ := hn2.count (PySem.Within.cons name v (ns := []) (m := fun _ => none) (fun y hy => absurd rfl hy))
  refine wpAny_bind (wpAny_lookBehind hoD (by rw [hdD]; exact pastItsLine_dict (Nat.le_trans hcD (by rw [sizeLine_eq]; show 1 ≤ _; decide))) ?_)
  refine wpAny_pure (h _ _ rfl (fun b o nb e => ?_) ?_ hn2)
  · have hb : b ≠ s.heap.objs.size := Nat.ne_of_lt (Heap.lt_size e)
    rw [hs2.2 _ hb, Heap.get?_update_other _ _ (Ne.symm nb)]
    exact Heap.get?_push_of_some _ e
  · rw [hs2.2 _ (Ne.symm hne), Heap.get?_update_self _ e2 rfl]
theorem exc_set2 {vs : Array Value} {v : Value} {dx : Addr} {mA : Str → Option Value} {ns : List Str} {Q : Unit → Shared → Prop} (X : K.In s.heap) (c : ECls K C) (I : s.heap.get? x = some (excO C (some dx) vs)) (N : s.heap.Ns1 dx mA) (hne : dx ≠ x) (ht : takerIn K C name = some none)
    (hw : PySem.Within mA ns) (hsz : ns.length ≤ sizeLine)
    (h : ∀ h', (∀ b o, b ≠ dx → s.heap.get? b = some o → h'.get? b = some o) → h'.Ns1 dx (fun y => if y = name then some v else mA y) → Q () { s with heap := h', toks := s.toks + 2 }) :
    wpAny (model prog w) A (setAttr (.ref x) name v) Q E s := by
  obtain ⟨cd, hc, ho, hd⟩ := c.cls
  obtain ⟨oD, es, ep, hoD, hr⟩ := id N
  have J : InstAt s.heap x (excO C (some dx) vs) C (some oD) := ⟨I, rfl, rfl, hoD⟩
  refine set_plain X J c.sa (osa_exc (s := { s with toks := s.toks + 1 }) X J hc ho ht fun b => ?_)
  refine wpAny_bind (wpAny_pure (wpAny_bind (wpAny_bind (wpAny_loadPart I (wpAny_bind (Looks.here (s := { s with toks := s.toks + 1 }) (looks_clsIn X hc) ?_))))))
  rw [hd]
  refine wpAny_pure (a := some dx) (wpAny_bind (wpAny_pure (wpAny_bind ?_)))
  refine wpAny_nsSet1 (s := { s with toks := s.toks + 1 }) N fun h' hn2 hs2 => ?_
  obtain ⟨oD, esD, epD, hoD, hdD, hcD⟩ := hn2.count (PySem.Within.cons name v hw)
  refine wpAny_bind (wpAny_lookBehind hoD (by rw [hdD]; exact pastItsLine_dict (Nat.le_trans hcD (by rw [List.length_cons]; omega))) ?_)
  exact wpAny_pure (h _ (fun b o nb e => (hs2.2 _ nb).trans e) hn2)
end
end XC

set_option maxRecDepth 100000
set_option maxHeartbeats 4000000
namespace XC
open PySem PySem.W PySem.Calls PyProof.Rows
theorem FV : ExcBaseFacts "ValueError" "ValueError.__new__" "ValueError.__init__" [.type "ValueError", .type "Exception", .type "BaseException", .type "object"] := PySem.F.excBase_ValueError
/-- own classes over ValueError: what is above is above -/
theorem mro_types : ∀ {l : List Value}, excMro l = true → l.contains (.type "ValueError") = true ∧ l.contains (.type "BaseException") = true ∧ l.contains (.type "AttributeError") = false ∧ l.contains (.type "NameError") = false ∧ l.contains (.type "tuple") = false
  | .ref c :: r, e => by
    obtain ⟨a1, a2, a3, a4, a5⟩ := mro_types (l := r) (by unfold excMro at e; exact e)
    refine ⟨?_, ?_, ?_, ?_, ?_⟩
    · rw [List.contains_cons, a1, Bool.or_true]
    · rw [List.contains_cons, a2, Bool.or_true]
    · rw [List.contains_cons, a3]; rfl
    · rw [List.contains_cons, a4]; rfl
    · rw [List.contains_cons, a5]; rfl
  | [.type a, .type b, .type c, .type d], e => by
    simp only [excMro, Bool.and_eq_true, beq_iff_eq] at e
    obtain ⟨⟨⟨rfl, rfl⟩, rfl⟩, rfl⟩ := e
    decide
section
variable {prog : Program} {w : World} {M : Model} {A : Around} {E : Value → Shared → Prop} {h : Heap} {g : Array GenState} {d : Drawn} {t : Nat} {os : OsState}
variable {nm q : Str} {C N : Addr} {bs bm : List Value} {hdct : Bool} {sn : List Str} {sub : List Value} {ab : Bool} {col : Option Bool} {dd : Option Addr} {k0 k1 k2 k3 k5 : Option Value}
theorem new_check {us : List Value} {Q : Unit → Shared → Prop} (hC : h.get? C = some (excClassObj nm q C N bs bm hdct sn sub ab col dd k0 k1 k2 k3 k5 "ValueError.__new__")) (hmr : excMro (.ref C :: bm) = true)
    (hq : Q () ⟨h, g, d, t, os⟩) : wpAny M A (checkBuiltinCall "ValueError.__new__" ⟨.ref C :: us, []⟩) Q E ⟨h, g, d, t, os⟩ := by
  have hv := (mro_types hmr).1
  have hstar := FV.noStar
  simp only [checkBuiltinCall, FV.newKind, FV.newSplit, FV.newRow]
  repeat (first
    | refine wpAny_loadPart_at hC ?_
    | (refine wpAny_isSubtype_exc hC ?_; rw [hv])
    | refine wpAny_staticBase_exc hC ?_
    | refine wpAny_madeBy_exc hC ?_
    | simp only [bne_self_eq_false, Bool.false_eq_true, if_false]
    | wp_step)
  exact hq
theorem new_run {us : List Value} {R : Result → Shared → Prop} (hC : h.get? C = some (excClassObj nm q C N bs bm hdct sn sub ab col dd k0 k1 k2 k3 k5 "ValueError.__new__")) (hmr : excMro (.ref C :: bm) = true) (hlen : us.length ≤ sizeLine)
    (hq : R (.ok (.ret (.ref (h.objs.size + 1)))) ⟨(h.push { cls := .type "tuple", data := .seq us.toArray }).push (newO C h.objs.size none), g, d, t, os⟩) :
    codeAny (model prog w) A (.builtin "ValueError.__new__" ⟨.ref C :: us, []⟩) R ⟨h, g, d, t, os⟩ := by
  obtain ⟨hv, _, ha, hn, _⟩ := mro_types hmr
  have hends := FV.ends
  refine codeAny_builtinAt FV.entry ?_
  unfold Builtin.«BaseException.__new__»
  refine PySem.wpAt_bind ?_
  show PySem.wpAt _ _ _ (stack >>= _) _ _ _
  refine PySem.wpAt_bind (PySem.wpAt_stack fun p below => PySem.wpAt_of_wpAny ?_)
  wp_walk
  refine PySem.wpAt_of_wpAny ?_
  rw [FV.owner]
  repeat (first
    | with_reducible refine wpAny_madeHere_exc FV.canon hC ?_
    | with_reducible refine wpAny_loadPart_at hC ?_
    | (with_reducible refine wpAny_isSubtype_exc hC ?_; first | rw [hv] | rw [ha] | rw [hn])
    | wp_step)
  show R _ _
  rw [Heap.size_push]
  exact hq
theorem type_call {K : Frag} {fI : Addr} {us : List Value} {Q : Fin → Shared → Prop} (X : K.In h) (hC : h.get? C = some (excClassObj nm q C N bs bm hdct sn sub ab col dd k0 k1 k2 k3 k5 "ValueError.__new__")) (hmr : excMro (.ref C :: bm) = true) (hlen : us.length ≤ sizeLine)
    (hi : findIn K (.ref C) "__init__" = some (some (.ref fI))) (hf : typeIn K (.ref fI) = some (.type "function"))
    (hq : wpAny (model prog w) A (call (.ref fI) (.ref (h.objs.size + 1) :: us)) (fun r s' => r = .none ∧ Q (.done (.ret (.ref (h.objs.size + 1)))) s') E
      ⟨(h.push { cls := .type "tuple", data := .seq us.toArray }).push (newO C h.objs.size none), g, d, t, os⟩) :
    wpAny (model prog w) A (Builtin.«type.__call__» ⟨.ref C :: us, []⟩) Q E ⟨h, g, d, t, os⟩ := by
  repeat (first
    | with_reducible refine wpAny_loadPart_at hC ?_
    | with_reducible refine wpAny_madeBy_exc hC ?_
    | wp_step)
  refine codeAny_call_builtin_code (Code.quiet_builtin _ FV.quiet) (new_check hC hmr ?_)
  refine new_run hC hmr hlen ?_
  show wpAny _ _ _ _ _ _
  have kp : ∀ b o, h.get? b = some o → ((h.push { cls := .type "tuple", data := .seq us.toArray }).push (newO C h.objs.size none)).get? b = some o := fun b o e => Heap.get?_push_of_some _ (Heap.get?_push_of_some _ e)
  have hC1 := kp _ _ hC
  have X1 := X.keeps kp
  have hget : ((h.push { cls := .type "tuple", data := .seq us.toArray }).push (newO C h.objs.size none)).get? (h.objs.size + 1) = some (newO C h.objs.size none) := by heap_get
  have hcC : (Value.ref C :: bm).contains (.ref C) = true := by simp
  unfold isInstance
  repeat (first
    | with_reducible refine wpAny_loadPart_at hget ?_
    | (with_reducible refine wpAny_isSubtype_exc hC1 ?_; rw [hcC])
    | wp_step)
  show wpAny _ _ (typeLookup (.ref C) _) _ _ _
  refine (looks_findIn (M := model prog w) X1 hi).at ?_
  refine wpAny_holding (wpAny_bind ((bind_fn (M := model prog w) X1 _ hf).at ?_))
  refine wpAny_bind (wpAny_mono hq (fun r s' hr => ?_) fun _ _ z => z)
  obtain ⟨rfl, hQ⟩ := hr
  wp_walk
  exact hQ
theorem exc_call {K : Frag} {fI : Addr} {us : List Value} {Q : Value → Shared → Prop} (X : K.In h) (hC : h.get? C = some (excClassObj nm q C N bs bm hdct sn sub ab col dd k0 k1 k2 k3 k5 "ValueError.__new__")) (hmr : excMro (.ref C :: bm) = true) (hlen : us.length ≤ sizeLine)
    (hi : findIn K (.ref C) "__init__" = some (some (.ref fI))) (hf : typeIn K (.ref fI) = some (.type "function"))
    (hq : wpAny (model prog w) (A.under (.builtin "type.__call__" ⟨.ref C :: us, []⟩)) (call (.ref fI) (.ref (h.objs.size + 1) :: us)) (fun r s' => r = .none ∧ Q (.ref (h.objs.size + 1)) s') E
      ⟨(h.push { cls := .type "tuple", data := .seq us.toArray }).push (newO C h.objs.size none), g, d, t, os⟩) :
    wpAny (model prog w) A (call (.ref C) us) Q E ⟨h, g, d, t, os⟩ := by
  have f1 := tc_lookup
  have f2 := tc_bind (.ref C)
  have hT : (⟨h, g, d, t, os⟩ : Shared).TypeIs (.ref C) "type" := ⟨_, hC, rfl⟩
  refine wpAny_call (codeAny_of_tree ?_)
  show wpAny _ _ (callAny (.ref C) _) _ _ _
  repeat (any_goals (first
    | assumption
    | with_reducible refine wpAny_loadPart_at hC ?_
    | wp_step))
  refine ⟨rfl, ?_⟩
  refine codeAny_call_builtin_at (Code.quiet_builtin _ (by decide +kernel)) entry_typeCall (wpAny_check_type_call_sub hC (type_call X hC hmr hlen hi hf ?_))
  exact hq
end
end XC

set_option maxRecDepth 100000
set_option maxHeartbeats 4000000
namespace XC
open PySem PySem.W PySem.Calls PyProof.Rows
section
variable {M : Model} {A : Around} {E : Value → Shared → Prop} {env : Env} {s : Shared}
/-- an own class of exceptions, as it lies -/
def ClsAt (h : Heap) (C : Addr) : Prop := ∃ nm q N bs bm hdct sn sub ab col dd k0 k1 k2 k3 k5, h.get? C = some (excClassObj nm q C N bs bm hdct sn sub ab col dd k0 k1 k2 k3 k5 "ValueError.__new__") ∧ excMro (.ref C :: bm) = true
theorem raise_stmt {x : Sem Value} {Q : Flow → Shared → Prop} (hh : A.handled = none)
    (h : wpAny M A x (fun v s₁ => ∃ e C od vs, v = .ref e ∧ ClsAt s₁.heap C ∧ s₁.heap.get? e = some (excO C od vs) ∧ vs[1]? = some .none ∧ E (.ref e) s₁) E s) : wpAny M A (raiseStmt env (some x) none) Q E s := by
  unfold raiseStmt
  refine wpAny_bind (wpAny_mono h (fun v s₁ h₁ => ?_) fun _ _ z => z)
  obtain ⟨e, C, od, vs, rfl, ⟨nm, q, N, bs, bm, hdct, sn, sub, ab, col, dd, k0, k1, k2, k3, k5, hC, hmr⟩, he, h1, hE⟩ := h₁
  obtain ⟨_, hb, _⟩ := mro_types hmr
  obtain ⟨hp, g, d, tk, os⟩ := s₁
  repeat (first
    | with_reducible refine wpAny_loadPart_at he ?_
    | with_reducible refine wpAny_loadPart_at hC ?_
    | (with_reducible refine wpAny_isSubtype_exc hC ?_; rw [hb])
    | wp_step)
  rw [h1]
  refine wpAny_pure ?_
  rw [if_neg (by decide)]
  exact wpAny_pure (wpAny_raiseNew_none hh hE)
theorem raise_exec {x : Expr} {pos : Pos} {Q : Flow → Shared → Prop} (hh : A.handled = none)
    (h : wpAny M A (eval x env) (fun v s₁ => ∃ e C od vs, v = .ref e ∧ ClsAt s₁.heap C ∧ s₁.heap.get? e = some (excO C od vs) ∧ vs[1]? = some .none ∧ E (.ref e) s₁) E s) : wpAny M A (exec (.Raise (some x) none pos) env) Q E s := by
  rw [arm_exec_Raise]
  first
    | exact wpAny_bind (wpAny_standAt (raise_stmt hh (wpAny_bind (wpAny_mono h (fun v s₁ h₁ => wpAny_bind (wpAny_standAt (wpAny_pure h₁))) fun _ _ z => z))))
    | (simp only [evalOpt, Option.map]
       exact wpAny_bind (wpAny_standAt (raise_stmt hh (wpAny_bind (wpAny_mono h (fun v s₁ h₁ => wpAny_bind (wpAny_standAt (wpAny_pure h₁))) fun _ _ z => z)))))
end
end XC

set_option maxRecDepth 100000
set_option maxHeartbeats 4000000
namespace XC
open PySem PySem.W PySem.Calls PyProof.Rows
abbrev frsE (l : List Env) : List Addr := l.filterMap (·.frame)
/-- an exception on its way: its object, its last entry -/
structure Fly (h : Heap) (x C : Addr) (od : Option Addr) (T : Addr) : Prop where
  ob : ∃ vs, h.get? x = some (excO C od vs) ∧ vs.size = 6 ∧ vs[1]? = some (.ref T)
  ne : T ≠ x
  tb : ∃ oT ts, h.get? T = some oT ∧ oT.data = .fields ts ∧ ts[3]? = some .none
section
variable {M : Model} {A : Around} {E : Value → Shared → Prop} {s : Shared}
theorem entry_ok {base : Heap} {env : Env} {outer : List Env} {L x C : Addr} {od : Option Addr} {vs : Array Value} {head : Value} {hadNext : Bool} {Q : Unit → Shared → Prop}
    (hfr : A.frames = some (env :: outer)) (hl : s.heap.FunFrames base (env :: outer)) (hf : env.frame = some L) (he : s.heap.get? x = some (excO C od vs)) (hsz : vs.size = 6)
    (h : ∀ h' T, s.heap.objs.size ≤ T → Fly h' x C od T → (∀ b o, s.heap.get? b = some o → b ≠ x → b ∉ frsE (env :: outer) → h'.get? b = some o) → (∀ b o, s.heap.get? b = some o → b ≠ x → ∃ sl, h'.get? b = some { o with slots := sl }) → Q () { s with heap := h' }) :
    wpAny M A (do let a ← frameOf env; let pl ← entryPlaceOf L hadNext; let b ← EntryCells.newEntry head a .none (rawInt L) .none pl; setField (.ref x) 1 b)
      (fun _ s' => wpAny M A (setFlight (.ref x) none) Q E s') E s := by
  have hxn : x ∉ frsE (env :: outer) := fun hm => by
    obtain ⟨_, o, ho, hnf⟩ := hl.mem hm
    rw [he] at ho
    cases ho
    exact hnf vs rfl
  refine wpAny_bind (wpAny_frameOf_fun hfr hl hf fun h1 hs1 => ?_)
  refine wpAny_bind (wpAny_entryPlaceOf fun pl hpl => ?_)
  unfold EntryCells.newEntry newFields
  refine wpAny_bind (wpAny_newObj_type ?_ (hpl.sizeOk5 _ _ _ _ _))
  have he1 : h1.get? x = some (excO C od vs) := (hs1.2.1 x hxn).trans he
  generalize hot : ({ cls := .type "traceback", dict := none, data := .fields ([head, .ref L, .none, rawInt L, .none] ++ (if pl.isEmpty then List.replicate 6 Value.none else pl)).toArray } : Obj) = ot
  have he2 : (h1.push ot).get? x = some (excO C od vs) := Heap.get?_push_of_some ot he1
  have h1sz : 1 < vs.size := by omega
  refine wpAny_setField he2 rfl h1sz ?_
  have hTx : h1.objs.size ≠ x := Nat.ne_of_gt (Heap.lt_size he1)
  have hd3 := Obj.data_mapFields (o := excO C od vs) rfl (·.setIfInBounds 1 (Value.ref h1.objs.size))
  have he3 := Heap.get?_update_self (Obj.mapFields (·.setIfInBounds 1 (Value.ref h1.objs.size))) he2 (Obj.isFreed_of_fields hd3)
  have hT3 : ((h1.push ot).update x (Obj.mapFields (·.setIfInBounds 1 (Value.ref h1.objs.size)))).get? h1.objs.size = some ot := by
    rw [Heap.get?_update_other _ _ (Ne.symm hTx)]
    exact Heap.get?_push_size h1 (by rw [← hot]; rfl)
  unfold setFlight
  refine wpAny_bind (wpAny_field he3 hd3 (x := .ref h1.objs.size) (by simp [h1sz]) ?_)
  rw [if_pos (show (Value.ref h1.objs.size != Value.none) = true from by simp)]
  have hdT : ot.data = .fields ([head, .ref L, .none, rawInt L, .none] ++ (if pl.isEmpty then List.replicate 6 Value.none else pl)).toArray := by rw [← hot]
  refine wpAny_setField hT3 hdT (by simp only [List.size_toArray, List.length_append, List.length_cons, List.length_nil] <;> omega) ?_
  have keep : ∀ b o, b ≠ x → h1.get? b = some o →
      (((h1.push ot).update x (Obj.mapFields (·.setIfInBounds 1 (Value.ref h1.objs.size)))).update h1.objs.size (Obj.mapFields (·.setIfInBounds 3 ((none : Option Addr).elim Value.none fun f => rawInt f)))).get? b = some o := fun b o nb e => by
    rw [Heap.get?_update_other _ _ (Nat.ne_of_gt (Heap.lt_size e)), Heap.get?_update_other _ _ (Ne.symm nb)]
    exact Heap.get?_push_of_some _ e
  refine h _ h1.objs.size (Nat.le_of_eq hs1.1.symm) ⟨⟨vs.setIfInBounds 1 (.ref h1.objs.size), ?_, by rw [Array.size_setIfInBounds]; exact hsz, by simp [h1sz]⟩, hTx, ⟨_, _, Heap.get?_update_self _ hT3 (Obj.isFreed_of_fields (Obj.data_mapFields hdT _)), Obj.data_mapFields hdT _, ?_⟩⟩ (fun b o e nb nf => ?_) (fun b o e nb => ?_)
  · rw [Heap.get?_update_other _ _ hTx]; exact he3
  · first | (simp; done) | (rcases hpl with rfl | ⟨_, _, _, _, _, _, _, rfl⟩ <;> simp)
  · exact keep b o nb ((hs1.2.1 b nf).trans e)
  · obtain ⟨sl, e'⟩ := hs1.2.2 b o e
    exact ⟨sl, keep b _ nb e'⟩
/-- what leaving a frame does -/
def Lft (env : Env) (outer : List Env) (x C : Addr) (od : Option Addr) (T : Addr) (h h' : Heap) : Prop :=
  h.objs.size ≤ T ∧ Fly h' x C od T ∧ (∀ b o, h.get? b = some o → b ≠ x → b ∉ frsE (env :: outer) → h'.get? b = some o) ∧ ∀ b o, h.get? b = some o → b ≠ x → ∃ sl, h'.get? b = some { o with slots := sl }
theorem note_first {base : Heap} {env : Env} {outer : List Env} {L x C : Addr} {od : Option Addr} {vs : Array Value} {Q : Unit → Shared → Prop}
    (hfr : A.frames = some (env :: outer)) (hl : s.heap.FunFrames base (env :: outer)) (hf : env.frame = some L) (he : s.heap.get? x = some (excO C od vs)) (hsz : vs.size = 6) (h1 : vs[1]? = some .none)
    (h : ∀ h' T, Lft env outer x C od T s.heap h' → Q () { s with heap := h' }) : wpAny M A (noteFrame (.ref x) env) (fun _ s' => wpAny M A (setFlight (.ref x) none) Q E s') E s := by
  unfold noteFrame
  simp only [hf]
  refine wpAny_bind (wpAny_field he rfl h1 ?_)
  rw [if_neg (by decide)]
  exact entry_ok hfr hl hf he hsz fun h' T a b c d => h h' T ⟨a, b, c, d⟩
theorem set_same {ts : Array Value} {i : Nat} {v : Value} (h : ts[i]? = some v) : ts.setIfInBounds i v = ts := by
  apply Array.ext
  · simp
  · intro j h1 h2
    rw [Array.getElem_setIfInBounds]
    split
    · rename_i e
      subst e
      rw [Array.getElem?_eq_getElem h2] at h
      exact (Option.some.inj h).symm
    · rfl
theorem map_same {o : Obj} {ts : Array Value} {i : Nat} {v : Value} (hd : o.data = .fields ts) (h : ts[i]? = some v) : Obj.mapFields (·.setIfInBounds i v) o = o := by
  obtain ⟨c, d, dt, sl⟩ := o
  cases hd
  show ({ cls := c, dict := d, data := .fields (ts.setIfInBounds i v), slots := sl } : Obj) = _
  rw [set_same h]
theorem note_next {base : Heap} {env : Env} {outer : List Env} {L x C T0 : Addr} {od : Option Addr} {Q : Unit → Shared → Prop}
    (hfr : A.frames = some (env :: outer)) (hl : s.heap.FunFrames base (env :: outer)) (hf : env.frame = some L) (hfly : Fly s.heap x C od T0)
    (h : ∀ h' T, Lft env outer x C od T s.heap h' → Q () { s with heap := h' }) : wpAny M A (noteFrame (.ref x) env) (fun _ s' => wpAny M A (setFlight (.ref x) none) Q E s') E s := by
  obtain ⟨⟨vs, he, hsz, h1⟩, hTx, oT, ts, hT, hdT, h3⟩ := hfly
  unfold noteFrame
  simp only [hf]
  refine wpAny_bind (wpAny_field he rfl h1 ?_)
  rw [if_pos (show (Value.ref T0 != Value.none) = true from by simp)]
  refine wpAny_bind (wpAny_field hT hdT h3 ?_)
  rw [if_neg (show ¬ ((Value.none == rawInt L) = true) from by simp [rawInt])]
  refine wpAny_bind (wpAny_setField hT hdT (Array.getElem?_eq_some_iff.mp h3).1 ?_)
  have same : ∀ b o, s.heap.get? b = some o → (s.heap.update T0 (Obj.mapFields (·.setIfInBounds 3 Value.none))).get? b = some o := fun b o e => by
    by_cases z : b = T0
    · subst z
      rw [hT] at e; cases e
      rw [Heap.get?_update_self _ hT (Obj.isFreed_of_fields (Obj.data_mapFields hdT _)), map_same hdT h3]
    · rw [Heap.get?_update_other _ _ (Ne.symm z)]; exact e
  refine entry_ok (s := { s with heap := s.heap.update T0 (Obj.mapFields (·.setIfInBounds 3 Value.none)) }) hfr (hl.of_keeps fun b o e nf => ⟨o, same b o e, rfl⟩) hf (same x _ he) hsz fun h' T a b c d =>
    h h' T ⟨Nat.le_trans (Nat.le_of_eq (Heap.size_after_update ..).symm) a, b, fun b o e nb n2 => c b o (same b o e) nb n2, fun b o e nb => d b o (same b o e) nb⟩
end
end XC

set_option maxRecDepth 100000
set_option maxHeartbeats 4000000
namespace XC
open PySem PySem.W PySem.Calls PyProof.Rows
abbrev E0x : Value → Shared → Prop := fun _ _ => False
section
variable {M : Model} {A : Around} {E : Value → Shared → Prop} {env : Env} {s : Shared}
theorem matches_own {x C CH : Addr} {od : Option Addr} {vs : Array Value} {Q : Bool → Shared → Prop} (hC : ClsAt s.heap C) (hH : ClsAt s.heap CH) (hx : s.heap.get? x = some (excO C od vs))
    (hs : Looks M s.heap (isSubtype (.ref C) (.ref CH)) true) (hq : Q true s) : wpAny M A (excMatches (.ref x) (.ref CH)) Q E s := by
  obtain ⟨nm, q, N, bs, bm, hdct, sn, sub, ab, col, dd, k0, k1, k2, k3, k5, hC, hmr⟩ := hC
  obtain ⟨nm', q', N', bs', bm', hdct', sn', sub', ab', col', dd', l0, l1, l2, l3, l5, hH, hmr'⟩ := hH
  obtain ⟨_, hb', _⟩ := mro_types hmr'
  obtain ⟨hp, g, d, t, os⟩ := s
  have f := tc_notTuple
  unfold excMatches
  repeat (first
    | (with_reducible refine wpAny_loadPart_at hx ?_)
    | with_reducible refine wpAny_loadPart_at hH ?_
    | (with_reducible refine wpAny_isSubtype_exc hH ?_; rw [hb'])
    | with_reducible refine hs.at ?_
    | wp_step)
  exact hq
end
section
variable {prog : Program} {w : World} {A : Around} {E : Value → Shared → Prop} {s : Shared} {env : Env}
theorem handle_as {x : Addr} {CH C : Addr} {t : Expr} {n : Str} {b0 : Stmt} {suite : List Stmt} {pos : Pos} {rest : List ExceptHandler} {Q : Flow → Shared → Prop}
    (h : wpAny (model prog w) (A.mark (some (.ref x))) (eval t env) (fun c s₁ => c = .ref CH ∧ ClsAt s₁.heap C ∧ ClsAt s₁.heap CH ∧ (∃ od vs, s₁.heap.get? x = some (excO C od vs)) ∧ Looks (model prog w) s₁.heap (isSubtype (.ref C) (.ref CH)) true ∧
      wpAny (model prog w) (A.mark (some (.ref x))) (setFlight (.ref x) none) (fun _ s₂ =>
        wpAny (model prog w) (A.mark (some (.ref x))) (storeName env n (.ref x)) (fun _ s₃ =>
          wpAny (model prog w) (A.mark (some (.ref x))) (execs (b0 :: suite) env)
            (fun f s₄ => wpAny (model prog w) A (do bindName env n .none; unbindBehindTheSuite env n pos) (fun _ s₅ => Q f s₅) E s₄) E0x s₃) E0x s₂) E0x s₁) E0x s) :
    wpAny (model prog w) A (handleBy (.ref x) env (.ExceptHandler (some t) (some n) (b0 :: suite) pos :: rest)) Q E s := by
  refine wpAny_handleBy_cons (codeAny_handlers_test (wpAny_mono h (fun c s₁ h₁ => ?_) fun _ _ z => z.elim)) (by intro z; cases z)
  obtain ⟨rfl, hC, hH, ⟨od, vs, hx⟩, hs, hk⟩ := h₁
  refine matches_own hC hH hx hs ?_
  exact codeAny_handlers_suite_as (wpAny_mono hk (fun _ s₂ h₂ => wpAny_mono h₂ (fun _ s₃ h₃ => wpAny_mono h₃ (fun f s₄ h₄ => h₄) fun _ _ z => z.elim) fun _ _ z => z.elim) fun _ _ z => z.elim)
end
end XC

set_option Elab.async false
set_option linter.all false
set_option maxRecDepth 100000
set_option maxHeartbeats 4000000
/-! Exceptions in the hand layer: their objects in the abstract heap, made, given attributes, raised, passed on, caught. Own work. -/
namespace L2
open PySem PySem.Spec PyProof.Rows XC
/-- the dict of an exception -/
def dxO (dx : Addr) (fs : List (Str × V)) : HO := .ext fun h => ∃ mA, h.Ns1 dx mA ∧ (∀ f, RelO (fs.lookup f) (mA f)) ∧ PySem.Within mA (fs.map (·.1))
/-- an exception that is made, not raised -/
def exN (x C : Addr) (od : Option Addr) : HO := .ext fun h => ∃ t, h.get? x = some (newO C t od)
/-- an exception -/
def exO (x C : Addr) (od : Option Addr) : HO := .ext fun h => ∃ vs, h.get? x = some (excO C od vs) ∧ vs.size = 6
section
variable {P : Program} {w : World} {H : Hp} {h : Heap} {x C dx : Addr} {od : Option Addr} {fs : List (Str × V)}
theorem exN_ok {t : Addr} (e : h.get? x = some (newO C t od)) : ObjOk P w H h x (exN x C od) := ⟨⟨t, e⟩, ⟨_, e⟩, fun h1 h2 ⟨t, q⟩ k => ⟨t, k _ q⟩⟩
theorem exO_ok {vs : Array Value} (e : h.get? x = some (excO C od vs)) (hs : vs.size = 6) : ObjOk P w H h x (exO x C od) := ⟨⟨vs, e, hs⟩, ⟨_, e⟩, fun h1 h2 ⟨vs, q, z⟩ k => ⟨vs, k _ q, z⟩⟩
theorem dxO_ok {mA : Str → Option Value} (n : h.Ns1 dx mA) (r : ∀ f, RelO (fs.lookup f) (mA f)) (wi : PySem.Within mA (fs.map (·.1))) : ObjOk P w H h dx (dxO dx fs) :=
  ⟨⟨mA, n, r, wi⟩, let ⟨o, _, _, e, _⟩ := n; ⟨o, e⟩, fun h1 h2 ⟨mA, q, z⟩ k => ⟨mA, q.at k, z⟩⟩
theorem exN_get (ok : HOk P w H h) (e : H x = some (exN x C od)) : ∃ t, h.get? x = some (newO C t od) := (ok _ _ e).1
theorem exO_get (ok : HOk P w H h) (e : H x = some (exO x C od)) : ∃ vs, h.get? x = some (excO C od vs) ∧ vs.size = 6 := (ok _ _ e).1
theorem dxO_get (ok : HOk P w H h) (e : H dx = some (dxO dx fs)) : ∃ mA, h.Ns1 dx mA ∧ (∀ f, RelO (fs.lookup f) (mA f)) ∧ PySem.Within mA (fs.map (·.1)) := (ok _ _ e).1
end
section
variable {X : Cx} {pins : List (Addr × Obj)} {σ : St} {H : Hp} {s : Shared} {h' : Heap}
/-- one object written, one laid -/
theorem Inv.two {x dx : Addr} {o o2 : HO} {φ : Heap → Prop} {t' : Nat} (I : Inv X pins σ H s) (mu : H x = some (.ext φ)) (hdx : s.heap.objs.size ≤ dx) (k : ∀ b u, b ≠ x → s.heap.get? b = some u → h'.get? b = some u)
    (hx : ∃ u, h'.get? x = some u) (new1 : ObjOk X.prog X.w (upd (upd H dx o2) x o) h' x o) (new2 : ObjOk X.prog X.w (upd (upd H dx o2) x o) h' dx o2) : Inv X pins σ (upd (upd H dx o2) x o) { s with heap := h', toks := t' } := by
  have hdn : H dx = none := I.hok.fresh hdx
  have hne : dx ≠ x := fun z => by rw [z, mu] at hdn; cases hdn
  have kin : ∀ b u, H b = some u → b ≠ dx := fun b u e z => by rw [z, hdn] at e; cases e
  have same : ∀ b u, b ≠ x → H b = some u → upd (upd H dx o2) x o b = some u := fun b u nb e => by rw [upd_ne nb, upd_ne (kin b u e)]; exact e
  refine I.call' (ch := []) (s' := { s with heap := h', toks := t' }) rfl ⟨fun b ob e n _ _ => k b ob (fun z => by rw [z, mu] at n; cases n) e, fun b ob e n _ _ => ⟨ob.slots, k b ob (fun z => by rw [z, mu] at n; cases n) e⟩, fun b ob e n _ => ?_, fun b ob e _ => ?_, fun b xs e => ?_, fun b ob u e => ?_, fun b ps e => ⟨#[], ?_⟩⟩ (fun b u e => ?_) I.bare (fun b z => absurd z (by simp))
  · have n1 : b ≠ x := fun z => by rw [z, mu] at n; cases n
    have n2 : b ≠ dx := fun z => absurd (Heap.lt_size e) (by rw [z]; exact Nat.not_lt.mpr hdx)
    rw [upd_ne n1, upd_ne n2]; exact n
  · by_cases z : b = x
    · rw [z]; exact hx
    · exact ⟨ob, k b ob z e⟩
  · exact same b _ (fun z => by rw [z, mu] at e; cases e) e
  · exact same b _ (fun z => by rw [z, mu] at e; cases e) e
  · rw [Array.append_empty]; exact same b _ (fun z => by rw [z, mu] at e; cases e) e
  · by_cases z : b = x
    · subst z; rw [upd_same] at e; cases e; exact new1
    · rw [upd_ne z] at e
      by_cases z2 : b = dx
      · subst z2; rw [upd_same] at e; cases e; exact new2
      · rw [upd_ne z2] at e
        refine (I.hok b u e).stay (fun c v hc q => k c v (fun y => ?_) q) (fun c q => same c _ (fun y => by rw [y, mu] at q; cases q) q) fun c xs q => same c _ (fun y => by rw [y, mu] at q; cases q) q
        rcases hc with hc | hc
        · exact z (hc.symm.trans y)
        · rw [y, mu] at hc; cases hc
end
end L2

set_option Elab.async false
set_option linter.all false
set_option maxRecDepth 100000
set_option maxHeartbeats 4000000
/-! Exceptions in the hand layer: what an own __init__ does. Own work. -/
namespace L2
open PySem PySem.Spec PyProof.Rows XC
theorem upd_eq {H : Hp} {a : Addr} {o : HO} (h : H a = some o) : upd H a o = H := by
  funext b
  by_cases e : b = a
  · rw [e, upd_same, h]
  · rw [upd_ne e]
theorem _root_.XC.ECls.mro {K : PySem.W.Frag} {C : Addr} (c : ECls K C) : PySem.W.mroIn K C (.type "ValueError") = some true ∧ PySem.W.mroIn K C (.type "BaseException") = some true := by
  obtain ⟨cd, hc, ho, _⟩ := c.cls
  obtain ⟨a, b, _⟩ := mro_types ho
  have ne := (exc_has ho).2
  unfold PySem.W.mroIn
  rw [hc, Option.bind_some, Option.bind_some, if_neg (by rw [ne]; decide), if_neg (by rw [ne]; decide), a, b]
  exact ⟨rfl, rfl⟩
def tVI (K : PySem.W.Frag) (t : TA) : TE := fun σ H Q => t σ H fun vs H1 => ∃ x C u, vs = [.ref x, u] ∧ H1 x = some (exN x C none) ∧ ECls K C ∧ Q .non H1
theorem bt_ValueError : bootBuiltins "ValueError" = some (.type "ValueError") := by decide +kernel
section
variable {X : Cx} {p pos apos pos' tpos : Pos} {e o value : Expr} {es : List Expr} {t : TA} {ta tv : TE} {f : Str}
theorem pe_vinit {pl : Sem Bool} (hg : Gl X "ValueError") (hm : X.mg "ValueError" = none) (hfc : PySem.W.findCls X.K (.type "ValueError") (.type "type") "__init__" = some (.val (.builtin "ValueError.__init__"))) (ha : PA X (e :: es) t)
    (hst : starEach (e :: es) X.env = (false, eval e X.env) :: starEach es X.env := by rfl) (hpl : (backTo pos (starEach es X.env)).any (·.1) = false := by rfl)
    (ht : eval (.Call (.Attribute (.Name "ValueError" p) "__init__" apos) (e :: es) [] pos) X.env = (do
      let ov ← eval (.Name "ValueError" p) X.env
      standAt apos.atName
      let (f, first) ← holding [ov] (getMethod ov "__init__" pl)
      callWith pos f first (backTo pos (starEach (e :: es) X.env)) (backToKw pos (keywordEach [] X.env))) := by rfl) :
    PE X (.Call (.Attribute (.Name "ValueError" p) "__init__" apos) (e :: es) [] pos) (tVI X.K t) := by
  intro pins s σ H Q I h
  refine PySem.W.methodCall_KW (pl := pl) (ld_blt I hg hm bt_ValueError ?_) ht
  obtain ⟨m, fr⟩ := I.fr
  refine PySem.W.method_type fr I.ok.mod.kin (by kernel_rfl) (by decide +kernel) hfc (by rfl) ?_
  have I2 := I.tok (s.toks + 1)
  refine PyProof.Rows.callWith_builtin1 (thn (ha pos pins _ σ H _ I2 h) fun us s2 ⟨vs, H2, I3, r, q⟩ => ?_) hst hpl
  obtain ⟨x, C, u, rfl, hx, c, q⟩ := q
  obtain ⟨v1, v2, rfl, r1, r2⟩ := vals2 r
  cases r1
  obtain ⟨t0, hx0⟩ := exN_get I3.hok hx
  obtain ⟨cd, hc, _, _⟩ := c.cls
  refine exc_init I3.kIn hx0 c.mro.1 hc fun h' t1 k e1 => ⟨.non, H2, ?_, rfl, q⟩
  have := I3.write (x := x) (e := x) (o := exN x C none) (t' := s2.toks) (by rw [hx]; exact True.intro) (.inl rfl) (fun b u nb e => k b u nb e) ⟨_, e1⟩ (exN_ok e1)
  rw [upd_eq hx] at this
  exact this
def sFldX (K : PySem.W.Frag) (ta tv : TE) (f : Str) : TS := fun D σ H => tv σ H fun y H1 => ta σ H1 fun v H2 => ∃ x C, v = .ref x ∧ ECls K C ∧ PySem.W.takerIn K C f = some none ∧
  ((H2 x = some (exN x C none) ∧ ∀ dx, H2 dx = none → dx ≠ x → D.nx σ (upd (upd H2 dx (dxO dx [(f, y)])) x (exN x C (some dx)))) ∨
   ∃ dx fs, H2 x = some (exN x C (some dx)) ∧ H2 dx = some (dxO dx fs) ∧ dx ≠ x ∧ fs.length < 1000 ∧ D.nx σ (upd H2 dx (dxO dx (putF f y fs))))
theorem ps_fldX (ha : PE X o ta) (hv : PE X value tv) (hs : swapsWith value (some (.Attribute o f pos')) pos.line X.env = pure false) : PS X (.Assign [.Attribute o f pos'] value pos) (sFldX X.K ta tv f) := by
  intro pins s σ H D I h
  refine plainObj_wpAny_Assign_Attribute (thn (hv pins s σ H _ I h) fun u s1 ⟨y, H1, I1, ry, q⟩ => thn (ha pins s1 σ H1 _ I1 q) fun ov s2 ⟨v, H2, I2, rx, x, C, ev, c, htk, q2⟩ => ?_) hs
  subst ev
  obtain rfl : ov = Value.ref x := rx
  rcases q2 with ⟨hx, q2⟩ | ⟨dx, fs, hx, hdx, hne, hl, q2⟩
  · obtain ⟨t0, hx0⟩ := exN_get I2.hok hx
    refine exc_set1 I2.kIn c hx0 htk fun h' dx hdx k e1 n1 => ⟨σ, _, I2.two (o := exN x C (some dx)) (o2 := dxO dx [(f, y)]) hx (Nat.le_of_eq hdx) (fun b u nb e => k b u nb e) ⟨_, e1⟩ (exN_ok e1) (dxO_ok n1 (fun g => ?_) (fun g hg => ?_)), q2 dx (I2.hok.fresh (Nat.le_of_eq hdx)) ?_⟩
    · show RelO (List.lookup g [(f, y)]) (if g = f then some u else none)
      by_cases e : g = f
      · subst e; simp [List.lookup]; exact ry
      · rw [if_neg e]
        have : (g == f) = false := beq_false_of_ne e
        simp [List.lookup, this, RelO]
    · by_cases e : g = f
      · rw [e]; exact List.mem_cons_self
      · exact absurd (show (if g = f then some u else none) = none from if_neg e) hg
    · intro z
      have := Heap.lt_size hx0
      rw [← z, ← hdx] at this
      exact absurd this (Nat.lt_irrefl _)
  · obtain ⟨t0, hx0⟩ := exN_get I2.hok hx
    obtain ⟨mA, n0, r0, w0⟩ := dxO_get I2.hok hdx
    refine exc_set2 I2.kIn c hx0 n0 hne htk w0 (by rw [List.length_map, sizeLine_eq]; omega) fun h' k n1 => ⟨σ, _, I2.write (x := dx) (e := dx) (o := dxO dx (putF f y fs)) (by rw [hdx]; exact True.intro) (.inl rfl) (fun b u nb e => k b u nb e) (let ⟨o, _, _, e, _⟩ := n1; ⟨o, e⟩) (dxO_ok n1 (fun g => ?_) (fun g hg => ?_)), q2⟩
    · show RelO ((putF f y fs).lookup g) (if g = f then some u else mA g)
      rw [lookup_putF]
      by_cases e : g = f
      · rw [if_pos e, if_pos e]; exact ry
      · rw [if_neg e, if_neg e]; exact r0 g
    · by_cases e : g = f
      · rw [e]; exact (keys_putF f y fs).1
      · refine (keys_putF f y fs).2 g (w0 g fun z => hg ?_)
        show (if g = f then some u else mA g) = none
        rw [if_neg e]; exact z
end
end L2

set_option Elab.async false
set_option linter.all false
set_option maxRecDepth 100000
set_option maxHeartbeats 4000000
/-! Exceptions in the hand layer: they leave a def, and pass through its callers. Own work. -/
namespace L2
open PySem PySem.Spec PyProof.Rows XC
/-- how an exception lies behind a call: its class and its object are told to the wish -/
def CXE (P : Program) (w : World) : CXT := fun outer H s E ev s' => ∃ (x C T : Addr) (od : Option Addr) (H' : Hp), ev = .ref x ∧ s'.os = s.os ∧ AllBare s'.gens ∧ Un (frs outer) [] H H' s.heap s'.heap ∧ HOk P w H' s'.heap ∧
  H' x = some (exO x C od) ∧ Fly s'.heap x C od T ∧ H' T = none ∧ s.heap.objs.size ≤ x ∧ s.heap.objs.size ≤ T ∧ E (.ref C) (some x) H'
section
variable {P : Program} {w : World} {K : PySem.W.Frag} {mg : Str → Option Value} {base : Heap} {N : List Str} {qual : Str} {scope : Scope} {f : Addr} {cd : Value} {A : Around} {outer : List Env} {s : Shared} {H : Hp} {E : XK}
theorem lft_end {pins : List (Addr × Obj)} {σ : St} {H1 : Hp} {s1 : Shared} {h' : Heap} {x C T : Addr} {od : Option Addr} {φ : Heap → Prop} (I : Inv (cxOf (CXE P w) P w K mg base N qual scope f cd A outer s H E) pins σ H1 s1)
    (hx : H1 x = some (.ext φ)) (hxs : s.heap.objs.size ≤ x) (lf : Lft (envOfC qual scope s.heap.objs.size f cd) outer x C od T s1.heap h')
    (hE : E (.ref C) (some x) (upd H1 x (exO x C od))) : CXE P w outer H s E (.ref x) { s1 with heap := h' } := by
  obtain ⟨hT, fly, kp, sl⟩ := lf
  have hsz : s.heap.objs.size ≤ s1.heap.objs.size := I.sz
  have stk : ∀ b ∈ frsE (envOfC qual scope s.heap.objs.size f cd :: outer), H1 b = none := I.stkFree
  have hTn : H1 T = none := I.hok.fresh hT
  have nx : ∀ b u, H1 b = some u → b ≠ x → upd H1 x (exO x C od) b = some u := fun b u e nb => by rw [upd_ne nb]; exact e
  have trk : ∀ c u v, H1 c = some v → s1.heap.get? c = some u → c ≠ x → h'.get? c = some u := fun c u v e q nc =>
    kp c u q nc (fun z => by rw [stk c z] at e; cases e)
  have old : ∀ b o, s.heap.get? b = some o → b ≠ x ∧ b ≠ s.heap.objs.size := fun b o e =>
    ⟨fun z => absurd (Heap.lt_size e) (by rw [z]; exact Nat.not_lt.mpr hxs), fun z => absurd (Heap.lt_size e) (by rw [z]; exact Nat.lt_irrefl _)⟩
  have fsub : ∀ b, b ∉ frs outer → b ≠ s.heap.objs.size → b ∉ frsE (envOfC qual scope s.heap.objs.size f cd :: outer) := fun b nf nl z => by
    unfold frsE at z
    rw [List.filterMap_cons] at z
    rcases List.mem_cons.mp z with z | z
    · exact nl z
    · exact nf z
  refine ⟨x, C, T, od, upd H1 x (exO x C od), rfl, I.os, I.bare, ⟨fun b o e n nf _ => ?_, fun b o e n mf _ => ?_, fun b o e n _ => ?_, fun b o e _ => ?_, fun b xs e => ?_, fun b o u e => ?_, fun b ps e => ?_⟩, fun b u e => ?_, upd_same, fly, ?_, hxs, Nat.le_trans hsz hT, hE⟩
  · obtain ⟨n1, n3⟩ := old b o e
    exact kp b o (I.base.keep b o e n nf (by simp [cxOf])) n1 (fsub b nf n3)
  · obtain ⟨n1, n3⟩ := old b o e
    obtain ⟨s2, e2⟩ := I.base.slot b o e n mf (by simp [cxOf])
    obtain ⟨s3, e3⟩ := sl b _ e2 n1
    exact ⟨s3, e3⟩
  · rw [upd_ne (old b o e).1]
    exact I.base.free b o e n (by simp [cxOf])
  · obtain ⟨n1, n3⟩ := old b o e
    obtain ⟨o2, e2⟩ := I.base.there b o e (by simp [cxOf])
    obtain ⟨s3, e3⟩ := sl b _ e2 n1
    exact ⟨_, e3⟩
  · have := I.base.tups b xs e
    exact nx b _ this (fun z => by rw [z, hx] at this; cases this)
  · have := I.base.frzs b o u e
    exact nx b _ this (fun z => by rw [z, hx] at this; cases this)
  · obtain ⟨more, this⟩ := I.base.tbls b ps e
    exact ⟨more, nx b _ this (fun z => by rw [z, hx] at this; cases this)⟩
  · by_cases z : b = x
    · subst z
      rw [upd_same] at e
      cases e
      obtain ⟨vs, e1, e2, _⟩ := fly.ob
      exact exO_ok e1 e2
    · rw [upd_ne z] at e
      refine (I.hok b u e).stay (fun c v hc q => ?_) (fun c q => nx c _ q (fun y => by rw [y, hx] at q; cases q)) fun c xs q => nx c _ q (fun y => by rw [y, hx] at q; cases q)
      rcases hc with hc | hc
      · rw [hc] at q ⊢; exact trk b v _ e q z
      · exact trk c v _ hc q (fun y => by rw [y, hx] at hc; cases hc)
  · rw [upd_ne fly.ne]; exact hTn
/-- a new exception leaves the def -/
theorem xe_new {pins : List (Addr × Obj)} {σ : St} {H1 : Hp} {s1 : Shared} {x C : Addr} {od : Option Addr} (I : Inv (cxOf (CXE P w) P w K mg base N qual scope f cd A outer s H E) pins σ H1 s1)
    (hx : H1 x = some (exN x C od)) (hxs : s.heap.objs.size ≤ x) (hE : E (.ref C) (some x) (upd H1 x (exO x C od))) : (cxOf (CXE P w) P w K mg base N qual scope f cd A outer s H E).xe (.ref x) s1 := by
  obtain ⟨t, e⟩ := exN_get I.hok hx
  exact wpAny_bind (note_first (C := C) (od := od) I.ok.frames I.stack rfl e rfl rfl fun h' T lf => lft_end I hx hxs lf hE)
end
end L2

set_option Elab.async false
set_option linter.all false
set_option maxRecDepth 100000
set_option maxHeartbeats 4000000
/-! Exceptions in the hand layer: C(..) and raise C(..). Own work. -/
namespace L2
open PySem PySem.Spec PyProof.Rows XC
/-- what a class of exceptions must have to be made: f its __init__ -/
structure MkE (K : PySem.W.Frag) (C f : Addr) : Prop where
  c : ECls K C
  at_ : ∃ nm q N bs bm hdct sn sub ab col dd k0 k1 k2 k3 k5, K.lookup C = some (excClassObj nm q C N bs bm hdct sn sub ab col dd k0 k1 k2 k3 k5 "ValueError.__new__") ∧ excMro (.ref C :: bm) = true
  init : PySem.W.findIn K (.ref C) "__init__" = some (some (.ref f))
  fn : PySem.W.isFn K (.ref f) = true
  kp : PySem.W.keepIn K (.ref C) = true
theorem MkE.cls {K : PySem.W.Frag} {C f : Addr} {h : Heap} (m : MkE K C f) (X : K.In h) : ClsAt h C := by
  obtain ⟨nm, q, N, bs, bm, hdct, sn, sub, ab, col, dd, k0, k1, k2, k3, k5, e, e2⟩ := m.at_
  exact ⟨nm, q, N, bs, bm, hdct, sn, sub, ab, col, dd, k0, k1, k2, k3, k5, X _ _ e, e2⟩
section
variable {X : Cx} {CX : CXT} {k : Nat} {f C : Addr} {fd : FuncData} {ps : List Str} {sp : Sp} {dvs : List V} {ds : List Value} {E EE : XK} {x m : Str} {p pos cpos : Pos} {e : Expr} {es : List Expr} {t : TA}
theorem Inv.madeE {pins : List (Addr × Obj)} {σ : St} {H : Hp} {s : Shared} {us : List Value} (I : Inv X pins σ H s) :
    Inv X pins σ (upd H (s.heap.objs.size + 1) (exN (s.heap.objs.size + 1) C none)) { s with heap := (s.heap.push { cls := .type "tuple", data := .seq us.toArray }).push (newO C s.heap.objs.size none) } := by
  have e2 : ((s.heap.push { cls := .type "tuple", data := .seq us.toArray }).push (newO C s.heap.objs.size none)).get? (s.heap.objs.size + 1) = some (newO C s.heap.objs.size none) := by
    have := Heap.get?_push_size (s.heap.push { cls := .type "tuple", data := .seq us.toArray }) (o := newO C s.heap.objs.size none) rfl
    rwa [Heap.size_push] at this
  exact I.laid (a := s.heap.objs.size + 1) (o := exN (s.heap.objs.size + 1) C none) (t' := s.toks) (fun b u q => Heap.get?_push_of_some _ (Heap.get?_push_of_some _ q)) (Nat.le_succ _) (exN_ok e2)
/-- C(..) of a class of exceptions -/
theorem run_makeE {pins : List (Addr × Obj)} {σ : St} {H : Hp} {s : Shared} {Q : VK} {us : List Value} {vs : List V} (M : MkE X.K C f) (F : FnOk X.prog X.w X.K X.mg X.base CX k f fd ps sp) (hr : Room (k + 1) X.A) (hb : Binds X.K fd ps ds) (hd : Vals dvs ds) (hx : Passes CX X E)
    (hlen : us.length ≤ sizeLine) (I : Inv X pins σ H s) (r : Vals vs us)
    (h : ∀ x, H x = none → s.heap.objs.size ≤ x → sp (.ref x :: (vs ++ dvs)) (upd H x (exN x C none)) (fun v H2 => v = .non ∧ Q (.ref x) H2) E) :
    wpAny (model X.prog X.w) X.A (call (.ref C) us) (fun u s' => u = .ref (s.heap.objs.size + 1) ∧ EP X pins σ Q u s') X.xe s := by
  have hq := h (s.heap.objs.size + 1) (I.hok.fresh (Nat.le_succ _)) (Nat.le_succ _)
  have I2 := Inv.madeE (C := C) (us := us) I
  have r2 : Vals (V.ref (s.heap.objs.size + 1) :: (vs ++ dvs)) (Value.ref (s.heap.objs.size + 1) :: (us ++ ds)) := .cons rfl (r.append hd)
  have hl : (Value.ref (s.heap.objs.size + 1) :: us ++ ds).length = ps.length := by
    have e := r2.length
    rw [F.len _ _ _ _ hq] at e
    exact e.symm
  obtain ⟨nm, q, N, bs, bm, hdct, sn, sub, ab, col, dd, k0, k1, k2, k3, k5, hC, hmr⟩ := M.cls I.kIn
  have kin := I.kIn
  obtain ⟨hp, g, d, tk, os⟩ := s
  refine exc_call (fI := f) kin hC hmr hlen M.init (beq_iff_eq.mp M.fn) (wpAny_call (codeAny_mono (F.run _ X.stack _ _ ⟨Value.ref (hp.objs.size + 1) :: us, []⟩ (Value.ref (hp.objs.size + 1) :: (us ++ ds)) _ _ E (hr.make C us [])
    (I2.env0.make C us []) (hb _ (Value.ref (hp.objs.size + 1) :: us) I2.kIn hl) r2 hq) fun r s' hq' => ?_))
  cases r with
  | error e => exact hx pins σ _ _ e s' I2 hq'
  | ok fl =>
    cases fl with
    | ret u =>
      obtain ⟨v, H', I3, rv, ev, q3⟩ := I2.after hq'
      subst ev
      exact ⟨rv, rfl, ⟨V.ref (hp.objs.size + 1), H', I3, rfl, q3⟩⟩
    | next => exact False.elim hq'
    | brk => exact False.elim hq'
    | cont => exact False.elim hq'
def tMakeE (C : Addr) (sp : Sp) (dvs : List V) (E : XK) (t : TA) : TE := fun σ H Q => t σ H fun vs H1 => ∀ x, H1 x = none → sp (.ref x :: (vs ++ dvs)) (upd H1 x (exN x C none)) (fun v H2 => v = .non ∧ Q (.ref x) H2) E
/-- the wish of a body's exceptions, kept by a new one -/
def NewX (X : Cx) (C : Addr) (EE : XK) : Prop := ∀ (pins : List (Addr × Obj)) (σ : St) (H1 : Hp) (s1 : Shared) (x : Addr) (od : Option Addr), Inv X pins σ H1 s1 → H1 x = some (exN x C od) → X.s₀.heap.objs.size ≤ x → EE (.ref C) (some x) (upd H1 x (exO x C od)) → X.xe (.ref x) s1
def rsQ (C : Addr) (EE : XK) : VK := fun u H2 => ∃ y od, u = .ref y ∧ H2 y = some (exN y C od) ∧ EE (.ref C) (some y) (upd H2 y (exO y C od))
def sRaise (C : Addr) (sp : Sp) (dvs : List V) (EE : XK) (t : TA) : TS := fun _ σ H => t σ H fun vs H1 => ∀ x, H1 x = none → sp (.ref x :: (vs ++ dvs)) (upd H1 x (exN x C none)) (fun v H2 => v = .non ∧ rsQ C EE (.ref x) H2) E0
theorem ps_raise (hn : NewX X C EE) (hcm : X.calm = true) (M : MkE X.K C f) (F : FnOk X.prog X.w X.K X.mg X.base CX0 k f fd ps sp) (hr : Room (k + 1) X.A) (hg : Gl X x) (hm : X.mg x = some (.ref C)) (hb : Binds X.K fd ps ds) (hd : Vals dvs ds)
    (ha : PA X (e :: es) t) (hps : ps.length ≤ 1000 := by decide) (hdb : (x == ("__debug__" : Str)) = false := by decide) (he : starEach (e :: es) X.env = (false, eval e X.env) :: starEach es X.env := by rfl) (hpl : (backTo cpos (starEach es X.env)).any (·.1) = false := by rfl) :
    PS X (.Raise (some (.Call (.Name x p) (e :: es) [] cpos)) none pos) (sRaise C sp dvs EE t) := by
  intro pins s σ H D I h
  refine raise_exec (I.ok.hd hcm) (wpAny_Call_Name_kw (ld_glob I hg hm ?_ hdb))
  refine PySem.W.callWith_K (h₀ := X.base) I.ok.mod.kin M.kp (thn (ha cpos pins s σ H _ I h) fun us s1 ⟨vs, H1, I1, r, q⟩ => ⟨I1.kIn, ?_⟩) he hpl
  have hl : us.length ≤ sizeLine := by
    have h1 := F.len _ _ _ _ (q _ (I1.hok.fresh (Nat.le_refl _)))
    have h2 := r.length
    rw [List.length_cons, List.length_append] at h1
    rw [sizeLine_eq]; omega
  refine thn (run_makeE (Q := rsQ C EE) M F hr hb hd pass0 hl I1 r fun x a _ => q x a) fun u s2 ⟨hu, hq⟩ => ?_
  obtain ⟨v, H2, I2, rv, x, od, rfl, hx, hE⟩ := hq
  obtain rfl : u = Value.ref x := rv
  have hz : x = s1.heap.objs.size + 1 := by cases hu; rfl
  obtain ⟨t0, e0⟩ := exN_get I2.hok hx
  exact ⟨x, C, od, _, rfl, M.cls I2.kIn, e0, rfl, hn pins σ H2 s2 x od I2 hx (by rw [hz]; exact Nat.le_trans I1.sz (Nat.le_succ _)) hE⟩
end
end L2

set_option Elab.async false
set_option linter.all false
set_option maxRecDepth 100000
set_option maxHeartbeats 4000000
/-! Exceptions in the hand layer: a call that may raise; try: f(..), except C as n. Own work. -/
namespace L2
open PySem PySem.Spec PyProof.Rows XC
/-- an exception has come: as XK wishes it -/
def XP (X : Cx) (pins : List (Addr × Obj)) (σ : St) (EE : XK) (ev : Value) (s' : Shared) : Prop := ∃ (x C T : Addr) (od : Option Addr) (H' : Hp), ev = .ref x ∧ Inv X pins σ H' s' ∧ H' x = some (exO x C od) ∧ Fly s'.heap x C od T ∧ EE (.ref C) (some x) H'
abbrev TX := St → Hp → VK → XK → Prop
/-- an expression that may raise -/
def PX (X : Cx) (e : Expr) (t : TX) : Prop := ∀ (pins : List (Addr × Obj)) (s : Shared) (σ : St) (H : Hp) (Q : VK) (EE : XK), Inv X pins σ H s → t σ H Q EE → wpAny (model X.prog X.w) X.A (eval e X.env) (EP X pins σ Q) (XP X pins σ EE) s
section
variable {X : Cx} {k : Nat} {f : Addr} {fd : FuncData} {ps : List Str} {sp : Sp} {dvs : List V} {ds : List Value} {x : Str} {p pos : Pos} {e : Expr} {es : List Expr} {t : TA}
theorem run_fnX {pins : List (Addr × Obj)} {σ : St} {H : Hp} {s : Shared} {Q : VK} {EE : XK} {us : List Value} {vs : List V} (F : FnOk X.prog X.w X.K X.mg X.base (CXE X.prog X.w) k f fd ps sp) (hr : Room k X.A) (hb : Binds X.K fd ps ds) (hd : Vals dvs ds)
    (I : Inv X pins σ H s) (r : Vals vs us) (h : sp (vs ++ dvs) H Q EE) : wpAny (model X.prog X.w) X.A (call (.ref f) us) (EP X pins σ Q) (XP X pins σ EE) s := by
  have r2 : Vals (vs ++ dvs) (us ++ ds) := r.append hd
  have hl : (us ++ ds).length = ps.length := by rw [← r2.length]; exact F.len _ _ _ _ h
  refine wpAny_call (codeAny_mono (F.run X.A X.stack s H ⟨us, []⟩ (us ++ ds) (vs ++ dvs) Q EE hr I.env0 (hb s us I.kIn hl) r2 h) fun r s' hq => ?_)
  cases r with
  | error e =>
    obtain ⟨y, C, T, od, H', rfl, os, bare, un, hok, hx, fly, hT, z1, z2, hE⟩ := hq
    exact ⟨y, C, T, od, H', rfl, I.call' (ch := []) os un hok bare (fun b z => absurd z (by simp)), hx, fly, hE⟩
  | ok fl =>
    cases fl with
    | ret u => exact I.after hq
    | next => exact False.elim hq
    | brk => exact False.elim hq
    | cont => exact False.elim hq
def tCallX (sp : Sp) (dvs : List V) (t : TA) : TX := fun σ H Q EE => t σ H fun vs H1 => sp (vs ++ dvs) H1 Q EE
theorem px_call (F : FnOk X.prog X.w X.K X.mg X.base (CXE X.prog X.w) k f fd ps sp) (hr : Room k X.A) (hg : Gl X x) (hm : X.mg x = some (.ref f)) (hk : PySem.W.keepIn X.K (.ref f) = true) (hb : Binds X.K fd ps ds) (hd : Vals dvs ds)
    (ha : PA X.nox (e :: es) t) (hdb : (x == ("__debug__" : Str)) = false := by decide) (he : starEach (e :: es) X.env = (false, eval e X.env) :: starEach es X.env := by rfl) (hpl : (backTo pos (starEach es X.env)).any (·.1) = false := by rfl) :
    PX X (.Call (.Name x p) (e :: es) [] pos) (tCallX sp dvs t) := by
  intro pins s σ H Q EE I h
  refine wpAny_Call_Name_kw (ld_glob I hg hm ?_ hdb)
  refine PySem.W.callWith_K (h₀ := X.base) I.ok.mod.kin hk (wpAny_mono (ha pos pins s σ H _ (I.wish _) h) (fun us s1 ⟨vs, H1, I1, r, q⟩ => ⟨I1.unwish.kIn, ?_⟩) fun _ _ z => z.elim) he hpl
  exact run_fnX F hr hb hd I1.unwish r q
end
/-! ### in the handler -/
abbrev Cx.hold (X : Cx) (x : Addr) : Cx := { X with A := X.A.mark (some (.ref x)), calm := false, xe := fun _ _ => False }
section
variable {X : Cx} {pins : List (Addr × Obj)} {σ : St} {H : Hp} {s : Shared} {x : Addr}
theorem Cx.Ok.hold (ok : X.Ok) (x : Addr) : (X.hold x).Ok :=
  ⟨ok.mod, ok.kind, ok.glob, ok.blt, ok.above, ok.inj, ok.has, ok.cab, (fun z => nomatch z), ok.frames, ok.stk, ok.exf, ok.bs, ok.bsz, ok.noex, ok.exfs, ok.funs, ok.frf⟩
theorem Inv.hold (I : Inv X pins σ H s) (x : Addr) : Inv (X.hold x) pins σ H s := ⟨I.ok.hold x, I.os, I.bare, I.base, I.loc, I.cell, I.free, I.freeC, I.pin, I.hok, I.len⟩
theorem Inv.unhold (ok : X.Ok) (I : Inv (X.hold x) pins σ H s) : Inv X pins σ H s := ⟨ok, I.os, I.bare, I.base, I.loc, I.cell, I.free, I.freeC, I.pin, I.hok, I.len⟩
/-- behind the note of a frame -/
theorem Inv.lft {h' : Heap} {C T : Addr} {od : Option Addr} {outer : List Env} (I : Inv X pins σ H s) (hst : X.stack = X.env :: outer) (hx : H x = some (exO x C od)) (lf : Lft X.env outer x C od T s.heap h') : Inv X pins σ H { s with heap := h' } := by
  obtain ⟨hT, fly, kp, sl⟩ := lf
  have stk : ∀ b ∈ frsE (X.env :: outer), H b = none := by rw [← hst]; exact I.stkFree
  have tr : ∀ c u v, H c = some v → s.heap.get? c = some u → c ≠ x → h'.get? c = some u := fun c u v e q nc => kp c u q nc (fun z => by rw [stk c z] at e; cases e)
  refine I.call' (ch := []) (s' := { s with heap := h' }) rfl ⟨fun b o e n nf _ => kp b o e (fun z => by rw [z, hx] at n; cases n) (by rw [hst] at nf; exact nf), fun b o e n _ _ => sl b o e (fun z => by rw [z, hx] at n; cases n), fun b o e n _ => n, fun b o e _ => ?_, fun b xs e => e, fun b o u e => e, fun b ps e => ⟨#[], by rw [Array.append_empty]; exact e⟩⟩ (fun b u e => ?_) I.bare (fun b z => absurd z (by simp))
  · by_cases z : b = x
    · obtain ⟨vs, e1, _⟩ := fly.ob
      rw [z]; exact ⟨_, e1⟩
    · obtain ⟨s2, e2⟩ := sl b o e z
      exact ⟨_, e2⟩
  · by_cases z : b = x
    · subst z
      rw [hx] at e
      cases e
      obtain ⟨vs, e1, e2, _⟩ := fly.ob
      exact exO_ok e1 e2
    · refine (I.hok b u e).stay (fun c v hc q => ?_) (fun c q => q) fun c xs q => q
      rcases hc with hc | hc
      · rw [hc] at q ⊢; exact tr b v _ e q z
      · exact tr c v _ hc q (fun y => by rw [y, hx] at hc; cases hc)
end
end L2

set_option Elab.async false
set_option linter.all false
set_option maxRecDepth 100000
set_option maxHeartbeats 4000000
/-! Exceptions in the hand layer: try: f(..), except C as n. Own work. -/
namespace L2
open PySem PySem.Spec PyProof.Rows XC
section
variable {X : Cx} {pins : List (Addr × Obj)} {σ : St} {H : Hp} {s : Shared}
/-- the locals are changed -/
theorem Inv.locs {σ' : St} {h' : Heap} {m' : Str → Option Value} {t' : Nat} (I : Inv X pins σ H s) (hn : h'.Ns X.env.locals m') (hs : Heap.SameBut X.env.locals s.heap h') (hl : σ'.length = σ.length)
    (lk : ∀ m, s.heap.Ns X.env.locals m → (∀ (i : Nat) (x : Str) (v : V), X.N[i]? = some x → σ[i]? = some (some v) → Vis X.env.scope x → ∃ u, RelV v u ∧ Look X.env s.heap m x u) → ∀ (i : Nat) (x : Str) (v : V), X.N[i]? = some x → σ'[i]? = some (some v) → Vis X.env.scope x → ∃ u, RelV v u ∧ Look X.env h' m' x u) :
    Inv X pins σ' H { s with heap := h', toks := t' } := by
  obtain ⟨m, hm, hlk⟩ := id I.loc
  have ab : ∀ b o, X.s₀.heap.get? b = some o → b ≠ X.env.locals := fun b o e => Nat.ne_of_lt (Nat.lt_of_lt_of_le (Heap.lt_size e) I.ok.above)
  have ne : ∀ b u, H b = some u → b ≠ X.env.locals := fun b u e z => by rw [z, I.free] at e; cases e
  refine ⟨I.ok, I.os, I.bare, ⟨fun b o e n hb hx => (hs.2 b (ab b o e)).trans (I.base.keep b o e n hb hx), fun b o e n hb hx => ?_, I.base.free, fun b o e hx => ?_, I.base.tups, I.base.frzs, I.base.tbls⟩, ⟨m', hn, lk m hm hlk⟩, fun y c e => ?_, I.free, I.freeC, fun p hp => ?_, fun b u e => ?_, hl.trans I.len⟩
  · obtain ⟨sl, e1⟩ := I.base.slot b o e n hb hx
    exact ⟨sl, (hs.2 b (ab b o e)).trans e1⟩
  · obtain ⟨o', e1⟩ := I.base.there b o e hx
    exact ⟨o', (hs.2 b (ab b o e)).trans e1⟩
  · obtain ⟨v, o, ho, hd⟩ := I.cell y c e
    exact ⟨v, o, (hs.2 c (I.cne y c e)).trans ho, hd⟩
  · obtain ⟨a1, a2, a3, a4⟩ := I.pin p hp
    exact ⟨(hs.2 p.1 a3).trans a1, a2, a3, a4⟩
  · refine (I.hok b u e).stay (fun c v hc q => (hs.2 c ?_).trans q) (fun _ q => q) fun _ _ q => q
    rcases hc with hc | hc
    · rw [hc]; exact ne b u e
    · exact ne c _ hc
/-- the name of an except clause goes -/
theorem name_goes {M : Model} {A : Around} {E : Value → Shared → Prop} {i : Nat} {n : Str} {pos : Pos} {Q : Unit → Shared → Prop} (I : Inv X pins σ H s) (hN : X.N.Nodup) (hi : X.N[i]? = some n) (hl : X.env.kindOf n = some .local)
    (h : ∀ s', Inv X pins (σ.set i none) H s' → Q () s') : wpAny M A (do bindName X.env n .none; unbindBehindTheSuite X.env n pos) Q E s := by
  obtain ⟨m, hn, _⟩ := id I.loc
  have hp : (X.env.scope.kind == .class || (X.env.scope.kind == .module && X.env.locals != X.env.globals)) = false := by rw [I.ok.kind]; rfl
  refine wpAny_bind (wpAny_bindName (wpAny_storeName_local hl hn (fun h1 hn1 hs1 => ?_) hp))
  unfold unbindBehindTheSuite
  refine wpAny_onRaise ?_
  unfold unbindName
  refine wpAny_bind (wpAny_point (wpAny_bind ?_))
  unfold deleteName
  simp only [hl, hp]
  rw [if_neg (by decide)]
  refine wpAny_bind (wpAny_nsDel_keeps hn1 fun h2 v hn2 hs2 => ?_)
  simp only [if_true, Option.isSome_some, Bool.not_true, Bool.false_eq_true, if_false]
  refine wpAny_pure (wpAny_point (h _ (I.locs hn2 (hs1.trans hs2) (by rw [List.length_set]) fun m0 hm0 lk j y w e1 e2 e3 => ?_)))
  have hj : j ≠ i := fun z => by
    rw [z] at e2
    have hi' : i < σ.length := by rw [I.len]; exact (List.getElem?_eq_some_iff.mp hi).1
    rw [List.getElem?_set_self hi'] at e2
    cases e2
  rw [List.getElem?_set_ne (Ne.symm hj)] at e2
  obtain ⟨u, r, q⟩ := lk j y w e1 e2 e3
  have hy : y ≠ n := fun z => hj ((List.getElem?_inj (by exact (List.getElem?_eq_some_iff.mp e1).1) hN).mp (by rw [e1, hi, z]))
  have em : m0 y = m y := by
    obtain ⟨o, es, ep, ho, hd, _, hf⟩ := hm0
    obtain ⟨o', es', ep', ho', hd', _, hf'⟩ := hn
    rw [ho] at ho'; cases ho'
    rw [hd] at hd'; cases hd'
    rw [← hf y, ← hf' y]
  refine ⟨u, r, ?_⟩
  rcases q with ⟨k1, k2⟩ | ⟨k1, c, k2, k3⟩
  · refine .inl ⟨k1, ?_⟩
    show (if y = n then v else (if y = n then some Value.none else m y)) = some u
    rw [if_neg hy, if_neg hy, ← em]; exact k2
  · obtain ⟨o, ho, hd⟩ := k3
    exact .inr ⟨k1, c, k2, o, ((hs1.trans hs2).2 c (I.cne y c k2)).trans ho, hd⟩
theorem flight_again {M : Model} {A : Around} {E : Value → Shared → Prop} {x C T : Addr} {od : Option Addr} {Q : Unit → Shared → Prop} (fly : Fly s.heap x C od T) (h : ∀ h', (∀ b o, s.heap.get? b = some o → h'.get? b = some o) → Q () { s with heap := h' }) :
    wpAny M A (setFlight (.ref x) none) Q E s := by
  obtain ⟨⟨vs, he, hsz, h1⟩, hTx, oT, ts, hT, hdT, h3⟩ := fly
  unfold setFlight
  refine wpAny_bind (wpAny_field he rfl h1 ?_)
  rw [if_pos (show (Value.ref T != Value.none) = true from by simp)]
  refine wpAny_setField hT hdT (Array.getElem?_eq_some_iff.mp h3).1 (h _ fun b o e => ?_)
  by_cases z : b = T
  · subst z
    rw [hT] at e; cases e
    refine (Heap.get?_update_self _ hT (Obj.isFreed_of_fields (Obj.data_mapFields hdT _))).trans ?_
    exact congrArg some (map_same hdT h3)
  · rw [Heap.get?_update_other _ _ (Ne.symm z)]; exact e
theorem Inv.keptH {h' : Heap} (I : Inv X pins σ H s) (k : ∀ b u, s.heap.get? b = some u → h'.get? b = some u) : Inv X pins σ H { s with heap := h' } :=
  I.call' (ch := []) (s' := { s with heap := h' }) rfl ⟨fun b o e _ _ _ => k b o e, fun b o e _ _ _ => ⟨o.slots, k b o e⟩, fun b o e n _ => n, fun b o e _ => ⟨o, k b o e⟩, fun b xs e => e, fun b o u e => e, fun b ps e => ⟨#[], by rw [Array.append_empty]; exact e⟩⟩ (I.hok.kept k) I.bare (fun b z => absurd z (by simp))
end
def behindAs (i : Nat) (D : Ends) : Ends := { nx := fun σ' H' => D.nx (σ'.set i none) H', rt := D.rt, bk := fun σ' H' => D.bk (σ'.set i none) H', ct := fun σ' H' => D.ct (σ'.set i none) H' }
def sTry (K : PySem.W.Frag) (CH : Addr) (i : Nat) (te : TX) (ts : TS) : TS := fun D σ H => te σ H (fun _ H1 => D.nx σ H1) (fun cv ox H1 => ∃ C x f, cv = .ref C ∧ ox = some x ∧ MkE K C f ∧ PySem.W.mroIn K C (.ref CH) = some true ∧ ts (behindAs i D) (σ.set i (some (.ref x))) H1)
section
variable {X : Cx} {outer : List Env} {L CH fH : Addr} {i : Nat} {n cn : Str} {e : Expr} {te : TX} {ts : TS} {b0 : Stmt} {suite : List Stmt} {pos epos hpos cp : Pos}
theorem ps_try (hpx : PX X e te) (hst : X.stack = X.env :: outer) (hfr : X.env.frame = some L) (hg : Gl X cn) (hm : X.mg cn = some (.ref CH)) (hM : MkE X.K CH fH) (hN : X.N.Nodup) (hi : X.N[i]? = some n) (hl : X.env.kindOf n = some .local) (hlo : Loc X.env.scope n)
    (hsu : ∀ x, PSs (X.hold x) (b0 :: suite) ts) (hfn : X.fn n = true ∨ X.env.scope.names.lookup n = some .local := by exact .inl rfl) (hdb : (cn == ("__debug__" : Str)) = false := by decide) (hs : swapsWith e none epos.line X.env = pure false := by rfl) :
    PS X (.Try [.Expr e epos] [.ExceptHandler (some (.Name cn cp)) (some n) (b0 :: suite) hpos] [] [] pos) (sTry X.K CH i te ts) := by
  intro pins s σ H D I h
  refine wpAny_Try_except (wpAny_execs_cons (wpAny_Expr_any (wpAny_mono (hpx pins s σ H _ _ I h) (fun v s1 ⟨y, H1, I1, r1, q1⟩ => ?_) fun ev s1 hx => ?_) I.quiet hs))
  · exact wpAny_execs_nil (wpAny_execs_nil ⟨σ, H1, I1, q1⟩)
  · obtain ⟨x, C, T, od, H1, rfl, I1, hx, fly, C', x', f, ec, ex, M, hmr, q⟩ := hx
    cases ec
    cases ex
    refine note_next (base := X.base) (outer := outer) (by rw [← hst]; exact I1.ok.frames) (by rw [← hst]; exact I1.stack) hfr fly fun h2 T2 lf => ?_
    have I2 := I1.lft hst hx lf
    have fly2 := lf.2.1
    refine handle_as (C := C) (CH := CH) (ld_glob (I2.hold x) hg hm ⟨rfl, M.cls I2.kIn, hM.cls I2.kIn, ?_, PySem.W.looks_mroIn I2.kIn hmr, ?_⟩ hdb)
    · obtain ⟨vs, e1, _⟩ := fly2.ob
      exact ⟨od, vs, e1⟩
    refine flight_again fly2 fun h3 k3 => ?_
    have I3 := (I2.keptH k3).hold x
    refine store_ok (X := X.hold x) (v := .ref x) I3 hN hi hlo rfl (fun s4 I4 => ?_) hfn
    refine wpAny_mono (hsu x pins s4 _ H1 _ I4 q) (fun fl s5 hq => ?_) fun _ _ z => z
    have ok := I.ok
    cases fl with
    | next => obtain ⟨σ5, H5, I5, q5⟩ := hq; exact name_goes (I5.unhold ok) hN hi hl fun s6 I6 => ⟨_, H5, I6, q5⟩
    | brk => obtain ⟨σ5, H5, I5, q5⟩ := hq; exact name_goes (I5.unhold ok) hN hi hl fun s6 I6 => ⟨_, H5, I6, q5⟩
    | cont => obtain ⟨σ5, H5, I5, q5⟩ := hq; exact name_goes (I5.unhold ok) hN hi hl fun s6 I6 => ⟨_, H5, I6, q5⟩
    | ret u => obtain ⟨v, σ5, H5, I5, r5, q5⟩ := hq; exact name_goes (I5.unhold ok) hN hi hl fun s6 I6 => ⟨v, _, H5, I6, r5, q5⟩
end
end L2

set_option Elab.async false
set_option linter.all false
set_option maxRecDepth 100000
set_option maxHeartbeats 4000000
/-! Exceptions: their class asked, their attributes read. Own work. -/
namespace XC
open PySem PySem.W PySem.Calls PyProof.Rows
section
variable {prog : Program} {w : World} {A : Around} {E : Value → Shared → Prop} {s : Shared} {K : Frag} {x C : Addr} {ox od : Obj}
theorem exc_class {Q : Option Value → Shared → Prop} (X : K.In s.heap) (I : InstAt s.heap x ox C (some od)) (c : ECls K C) (hb : mroIn K C (.type "BaseException") = some true) (hob : mroIn K C (.type "object") = some true)
    (ha : findIn K (.ref C) "__class__" = some (some (.builtin "object.__class__"))) (hn : specialIn K (.builtin "object.__class__") "__get__" = some (some (.builtin "getset_descriptor.__get__"))) (htk : takesIn K (.builtin "object.__class__") = some true)
    (h : Q (some (.ref C)) { s with toks := s.toks + 1 }) : wpAny (model prog w) A (getAttr? (.ref x) "__class__") Q E s := by
  have hf : findObj K C (some od) "__class__" = some (.bind (.builtin "getset_descriptor.__get__") (.builtin "object.__class__")) := findObj_data (by obtain ⟨cd, hc, _⟩ := c.cls; rw [hc]; rfl) ha hn htk
  obtain ⟨hp, g, d, t, os⟩ := s
  have L0 := I.type (M := model prog w)
  have L1 := looks_findIn (M := model prog w) X c.ga
  have L2 := looks_findIn (M := model prog w) X c.gn
  have L3 := looks_find (M := model prog w) X I hf
  have hbi := slot_ga.bind (.ref x)
  unfold getAttr? getAttrBy? getAttrBy
  refine wpAny_bind (wpAny_mkText (wpAny_bind (wpAny_attempt (wpAny_holding (wpAny_bind (L0.at (wpAny_bind (L1.at ?_))))))))
  have hx2 : (onTheHeap (Value.ref C) && Value.builtin "BaseException.__getattribute__" == Value.builtin "object.__getattribute__") = false := by
    rw [show (Value.builtin "BaseException.__getattribute__" == Value.builtin "object.__getattribute__") = false by decide +kernel]; rfl
  show wpAny _ _ (if (onTheHeap (Value.ref C) && Value.builtin "BaseException.__getattribute__" == Value.builtin "object.__getattribute__") = true then _ else _) _ _ _
  rw [hx2, if_neg Bool.false_ne_true]
  unfold getAttrByItsOwn
  refine wpAny_bind (L2.at ?_)
  refine wpAny_bind (wpAny_attempt ?_)
  refine wpAny_holding ?_
  unfold callGetattribute
  rw [show (false && onTheHeap (Value.builtin "BaseException.__getattribute__")) = false from rfl, if_neg Bool.false_ne_true]
  unfold boundAndCalled
  rw [hbi]
  refine wpAny_bind (wpAny_pure (wpAny_call ?_))
  show codeAny _ _ (.call (.builtin "BaseException.__getattribute__") ⟨[.ref x, .str "__class__" t], []⟩) _ ⟨hp, g, d, t + 1, os⟩
  refine codeAny_call_builtin slot_ga.plain F.entry_bexc_ga (@check_slot (model prog w) _ _ ⟨hp, g, d, t + 1, os⟩ "BaseException.__getattribute__" "BaseException" "__getattribute__" (.ref x) [.str "__class__" t] [] _ ga_kind ga_split (isin_base X I hb) (F.args_bexc_ga (.ref x) (.str "__class__" t)) ?_)
  refine wpAny_bind (wpAny_pure (wpAny_bind (wpAny_pure (wpAny_bind (L0.at (wpAny_bind (L3.at ?_)))))))
  show wpAny _ _ (holding [Value.builtin "object.__class__"] (call (.builtin "getset_descriptor.__get__") [.builtin "object.__class__", .ref x, .ref C]) >>= ret) _ _ _
  refine wpAny_bind (wpAny_holding (wpAny_call ?_))
  refine class_get (s := ⟨hp, g, d, t + 1, os⟩) (ox := ox) (od := some od) X I hob ?_
  refine wpAny_pure ?_
  show wpAny _ _ (handedOut (.ref C)) _ _ _
  exact handed_on rfl (wpAny_pure h)
/-- what is asked of a class of exceptions by isinstance -/
structure EIs (K : Frag) (C : Addr) : Prop where
  c : ECls K C
  ha : findIn K (.ref C) "__class__" = some (some (.builtin "object.__class__"))
  hn : specialIn K (.builtin "object.__class__") "__get__" = some (some (.builtin "getset_descriptor.__get__"))
  htk : takesIn K (.builtin "object.__class__") = some true
theorem ECls.obj (c : ECls K C) : mroIn K C (.type "object") = some true := by
  obtain ⟨cd, hc, ho, _⟩ := c.cls
  obtain ⟨a, ne⟩ := exc_has ho
  unfold mroIn
  rw [hc, Option.bind_some, if_neg (by rw [ne]; decide), a]
theorem kitx_exc (i : EIs K C) : KitX K (.ref x) (.ref C) (fun h => ∃ ox od, InstAt h x ox C (some od)) where
  ty := fun _ _ _ ⟨_, _, I⟩ => I.type
  it := fun _ _ X _ => by
    obtain ⟨cdD, hcD, _⟩ := i.c.cls
    unfold clsIn at hcD
    split at hcD
    · rename_i c' d' cd' sl' ho
      intro A' Q' E' s' k q
      unfold isType loadHead
      exact wpAny_bind (wpAny_loadPart (k _ _ (X _ _ ho)) (wpAny_pure q))
    · cases hcD
  ne := fun h tp dd its n sl X htp => by
    obtain ⟨cdD, hcD, _⟩ := i.c.cls
    refine Bool.eq_false_iff.mpr fun q => ?_
    obtain rfl : C = tp := Value.ref.inj (beq_iff_eq.mp q)
    unfold clsIn at hcD
    split at hcD
    · rename_i c' d' cd' sl' ho
      cases (X _ _ ho).symm.trans htp
    · cases hcD
  ca := fun X ⟨_, _, I⟩ k => exc_class X I i.c i.c.mro.2 i.c.obj i.ha i.hn i.htk k
end
end XC
namespace L2
open PySem PySem.Spec PyProof.Rows XC
/-- an exception that may be read: its dict -/
def ExAt (H : Hp) (x C : Addr) (fs : List (Str × V)) : Prop := ∃ dx, (H x = some (exO x C (some dx)) ∨ H x = some (exN x C (some dx))) ∧ H dx = some (dxO dx fs)
section
variable {X : Cx} {pins : List (Addr × Obj)} {σ : St} {H : Hp} {s : Shared} {x C : Addr} {fs : List (Str × V)}
theorem ExAt.look (I : Inv X pins σ H s) (e : ExAt H x C fs) : ∃ (ox od : Obj) (mA : Str → Option Value), PySem.W.InstAt s.heap x ox C (some od) ∧ (∀ name, PySem.W.lookIn name od = some (mA name)) ∧ ∀ f, RelO (fs.lookup f) (mA f) := by
  obtain ⟨dx, e1, e2⟩ := e
  obtain ⟨mA, n, r, _⟩ := dxO_get I.hok e2
  obtain ⟨od, ho, hl⟩ := lookIn_ns n
  rcases e1 with e1 | e1
  · obtain ⟨vs, q, _⟩ := exO_get I.hok e1
    exact ⟨_, od, mA, ⟨q, rfl, rfl, ho⟩, hl, r⟩
  · obtain ⟨t, q⟩ := exN_get I.hok e1
    exact ⟨_, od, mA, ⟨q, rfl, rfl, ho⟩, hl, r⟩
/-- isinstance(x, c) of an exception -/
theorem call_isX : CallR X (.builtin "isinstance") (fun xs H Q => ∃ (x C : Addr) (c : V) (cv : Value) (b : Bool) (fs : List (Str × V)), xs = [.ref x, c] ∧ clsV c = some cv ∧ ExAt H x C fs ∧ EIs X.K C ∧ PySem.W.kitOne X.K (.ref C) cv = some b ∧ Q (.bl b) H) := by
  intro pins s σ H xs us Q I r h
  obtain ⟨x, C, c, cv, b, fs, rfl, hcv, ex, ei, hk, q⟩ := h
  obtain ⟨u, w', rfl, r1, r2⟩ := vals2 r
  have e := clsV_of hcv r2
  subst e
  obtain rfl : u = Value.ref x := r1
  obtain ⟨ox, od, mA, J, _⟩ := ex.look I
  exact PySem.W.kia_one (kitx_exc ei) I.kIn ⟨ox, od, J⟩ hk (fun z => nomatch z) fun tk => ⟨.bl b, H, I.tok tk, rfl, q⟩
/-- x.f of an exception -/
def tFldX (K : PySem.W.Frag) (ta : TE) (f : Str) : TE := fun σ H Q => ta σ H fun v H1 => ∃ x C fs u, v = .ref x ∧ ExAt H1 x C fs ∧ ECls K C ∧ PySem.W.findIn K (.ref C) f = some none ∧ fs.lookup f = some u ∧ Q u H1
variable {e : Expr} {f : Str} {pos : Pos} {ta : TE}
theorem handed_V {v : V} {u : Value} (r : RelV v u) : PySem.W.handedIn u = true := by
  cases v with
  | non => cases (show u = _ from r); rfl
  | bl b => cases (show u = _ from r); rfl
  | int i => obtain ⟨t, q⟩ := (show ∃ t, u = Value.int i t from r); cases q; rfl
  | str i => obtain ⟨t, q⟩ := (show ∃ t, u = Value.str i t from r); cases q; rfl
  | byt i => obtain ⟨t, q⟩ := (show ∃ t, u = Value.bytes i t from r); cases q; rfl
  | flt i => obtain ⟨t, q⟩ := (show ∃ t, u = Value.float i t from r); cases q; rfl
  | ref a => cases (show u = _ from r); rfl
  | ty n => cases (show u = _ from r); rfl
theorem pe_fldX (he : PE X e ta) (hb : attributeBase e f X.env (eval e X.env) = eval e X.env) : PE X (.Attribute e f pos) (tFldX X.K ta f) := by
  intro pins s σ H Q I h
  refine attr_of hb (thn (he pins s σ H _ I h) fun u s1 ⟨v, H1, I1, rv, x, C, fs, w, ev, ex, c, hn, hl, q⟩ => ?_)
  subst ev
  obtain rfl : u = Value.ref x := rv
  obtain ⟨ox, od, mA, J, lk, r⟩ := ex.look I1
  have rf := r f
  rw [hl] at rf
  obtain ⟨u, hu, ru⟩ : ∃ u, mA f = some u ∧ RelV w u := by
    cases hm : mA f with
    | none => rw [hm] at rf; exact rf.elim
    | some u => rw [hm] at rf; exact ⟨u, rfl, rf⟩
  obtain ⟨cd, hc, _, hd⟩ := c.cls
  refine exc_get I1.kIn J c.ga c.gn c.mro.2 (PySem.W.findObj_own (by unfold PySem.W.hasDictIn; rw [hc]; exact hd) hn rfl (by rw [lk, hu])) (handed_V ru) ⟨w, H1, I1.tok _, ru, q⟩
end
end L2

set_option Elab.async false
set_option linter.all false
set_option maxRecDepth 100000
set_option maxHeartbeats 4000000
namespace K31
open PySem L2
def top (i : Nat) : Stmt := PySem.Challenge.pw_macrohouse_k31_pieces.main.body.getD i (.Pass ⟨0, 0, 0, 0⟩)
abbrev sHI : Stmt := inClass (top 2) 0
abbrev sSign : Stmt := top 18
abbrev sPieces : Stmt := top 19
abbrev sCell : Stmt := top 21
abbrev sName : Stmt := top 22
abbrev sPart : Stmt := top 23
abbrev sParts : Stmt := top 24
abbrev sTree : Stmt := top 25
abbrev sAlike : Stmt := top 26
abbrev sStar : Stmt := top 27
abbrev sRefused : Stmt := top 28
abbrev sTold : Stmt := top 29
abbrev sLaw : Stmt := top 30
structure Txt (mg : Str → Option Value) : Prop where
  len : mg "len" = none
  isi : mg "isinstance" = none
  enum : mg "enumerate" = none
  range : mg "range" = none
  all : mg "all" = none
  zip : mg "zip" = none
  list : mg "list" = none
  tuple : mg "tuple" = none
  bool : mg "bool" = none
  ve : mg "ValueError" = none
end K31

set_option Elab.async false
set_option linter.all false
set_option maxRecDepth 100000
set_option maxHeartbeats 4000000
/-! The classes of trees: how they are made, what their fields hold. Own work (made of a template for each statement that reaches them). -/
namespace K31
open PySem L2 TR
abbrev sTI : Stmt := inClass (top 13) 0
abbrev sWI : Stmt := inClass (top 14) 0
abbrev sFI : Stmt := inClass (top 15) 0
abbrev sRI : Stmt := inClass (top 16) 0
theorem maxI_deeps : ∀ (ts : List Tr), maxI (ts.map fun t => (deep t : Int)) 0 = (deeps ts : Int) := by
  have key : ∀ (ts : List Tr) (z : Nat), (ts.map fun t => (deep t : Int)).foldl (fun a b => if b > a then b else a) (z : Int) = ((max z (deeps ts) : Nat) : Int) := by
    intro ts
    induction ts with
    | nil => intro z; simp [deeps]
    | cons p r ih =>
      intro z
      simp only [List.map_cons, List.foldl_cons, deeps]
      by_cases h : (deep p : Int) > (z : Int)
      · rw [if_pos h, ih]; congr 1; omega
      · rw [if_neg h, ih]; congr 1; omega
  intro ts
  cases ts with
  | nil => rfl
  | cons p r =>
    show (r.map fun t => (deep t : Int)).foldl _ (deep p : Int) = _
    rw [key]; simp [deeps]
theorem sum_many (ts : List Tr) : (ts.map fun t => (many t : Int)).sum = (manys ts : Int) := by
  induction ts with
  | nil => rfl
  | cons p r ih => simp only [List.map_cons, List.sum_cons, manys, ih]; omega
/-! ### what is asked of the classes -/
structure TC (K : PySem.W.Frag) (C : Addr) : Prop where
  cl : Cls K C
  nA : NoAttr K C "at"
  nM : NoAttr K C "many"
  nD : NoAttr K C "deep"
  ha : PySem.W.findIn K (.ref C) "__class__" = some (some (.builtin "object.__class__"))
  hm : PySem.W.mroIn K C (.type "object") = some true
structure Tcs (K : PySem.W.Frag) (mg : Str → Option Value) (c : C4) : Prop where
  tw : TC K c.W
  tf : TC K c.F
  tr : TC K c.R
  nWn : NoAttr K c.W "name"
  nWb : NoAttr K c.W "bits"
  nFn : NoAttr K c.F "number"
  nRp : NoAttr K c.R "parts"
  mgT : mg "Tree" = some (.ref c.T)
  mgW : mg "Word" = some (.ref c.W)
  mgF : mg "Figure" = some (.ref c.F)
  mgR : mg "Row" = some (.ref c.R)
  hn : PySem.W.specialIn K (.builtin "object.__class__") "__get__" = some (some (.builtin "getset_descriptor.__get__"))
  htk : PySem.W.takesIn K (.builtin "object.__class__") = some true
  iWW : PySem.W.kitOne K (.ref c.W) (.ref c.W) = some true
  iFW : PySem.W.kitOne K (.ref c.F) (.ref c.W) = some false
  iRW : PySem.W.kitOne K (.ref c.R) (.ref c.W) = some false
  iWF : PySem.W.kitOne K (.ref c.W) (.ref c.F) = some false
  iFF : PySem.W.kitOne K (.ref c.F) (.ref c.F) = some true
  iRF : PySem.W.kitOne K (.ref c.R) (.ref c.F) = some false
  iWR : PySem.W.kitOne K (.ref c.W) (.ref c.R) = some false
  iFR : PySem.W.kitOne K (.ref c.F) (.ref c.R) = some false
  iRR : PySem.W.kitOne K (.ref c.R) (.ref c.R) = some true
  iWT : PySem.W.kitOne K (.ref c.W) (.ref c.T) = some true
  iFT : PySem.W.kitOne K (.ref c.F) (.ref c.T) = some true
  iRT : PySem.W.kitOne K (.ref c.R) (.ref c.T) = some true
  list : mg "list" = none
  max : mg "max" = none
  sum : mg "sum" = none
/-! ### fields -/
theorem fW_at {n : Str} {a : Int} {b : Nat} : (fW n a b).lookup ("at" : Str) = some (.int a) := by rfl
theorem fW_many {n : Str} {a : Int} {b : Nat} : (fW n a b).lookup ("many" : Str) = some (.int 1) := by rfl
theorem fW_deep {n : Str} {a : Int} {b : Nat} : (fW n a b).lookup ("deep" : Str) = some (.int 0) := by rfl
theorem fW_name {n : Str} {a : Int} {b : Nat} : (fW n a b).lookup ("name" : Str) = some (.str n) := by rfl
theorem fW_bits {n : Str} {a : Int} {b : Nat} : (fW n a b).lookup ("bits" : Str) = some (.int b) := by rfl
theorem fF_at {z a : Int} : (fF z a).lookup ("at" : Str) = some (.int a) := by rfl
theorem fF_many {z a : Int} : (fF z a).lookup ("many" : Str) = some (.int 1) := by rfl
theorem fF_deep {z a : Int} : (fF z a).lookup ("deep" : Str) = some (.int 0) := by rfl
theorem fF_num {z a : Int} : (fF z a).lookup ("number" : Str) = some (.int z) := by rfl
theorem fR_at {l : Addr} {m d : Nat} {a : Int} : (fR l m d a).lookup ("at" : Str) = some (.int a) := by rfl
theorem fR_many {l : Addr} {m d : Nat} {a : Int} : (fR l m d a).lookup ("many" : Str) = some (.int m) := by rfl
theorem fR_deep {l : Addr} {m d : Nat} {a : Int} : (fR l m d a).lookup ("deep" : Str) = some (.int d) := by rfl
theorem fR_parts {l : Addr} {m d : Nat} {a : Int} : (fR l m d a).lookup ("parts" : Str) = some (.ref l) := by rfl
/-! ### promises of the program -/
def spTI (K : PySem.W.Frag) : Sp := fun vs H Q _ => ∃ (p C dx : Addr) (a m d : Int), vs = [.ref p, .int a, .int m, .int d] ∧ H p = some (.ins C dx []) ∧ TC K C ∧ Q .non (upd H p (.ins C dx (f3 a m d)))
def spWI (c : C4) : Sp := fun vs H Q _ => ∃ (p dx : Addr) (n : Str) (a : Int) (b : Nat), vs = [.ref p, .str n, .int a, .int b] ∧ H p = some (.ins c.W dx []) ∧ Q .non (upd H p (.ins c.W dx (fW n a b)))
def spFI (c : C4) : Sp := fun vs H Q _ => ∃ (p dx : Addr) (z a : Int), vs = [.ref p, .int z, .int a] ∧ H p = some (.ins c.F dx []) ∧ Q .non (upd H p (.ins c.F dx (fF z a)))
def spRI (c : C4) : Sp := fun vs H Q _ => ∃ (p dx l : Addr) (us : List V) (ts : List Tr) (a : Int), vs = [.ref p, .ref l, .int a] ∧ H p = some (.ins c.R dx []) ∧ H l = some (.lst us) ∧ TrsIn c All H ts us ∧ ts.length ≤ 1000 ∧
  ∀ (H' : Hp) (l2 : Addr), (∀ b o, b ≠ p → H b = some o → H' b = some o) → H' p = some (.ins c.R dx (fR l2 (1 + manys ts) (deeps ts + 1) a)) → H l2 = none → H' l2 = some (.lst us) → Q .non H'
/-- the free addresses -/
abbrev Free (H : Hp) : Addr → Prop := fun q => H q = none
section
variable {P : Program} {w : World} {K : PySem.W.Frag} {mg : Str → Option Value} {base : Heap} {c : C4}
theorem scTI : FnScope ["self", "at", "many", "deep"] ["self", "at", "many", "deep"] (defScope sTI) := ⟨rfl, rfl, rfl, by decide +kernel, rfl, by decide +kernel, by decide +kernel⟩
theorem ok_ti {f : Addr} {fd : FuncData} (F : Fun K "__init__" "Tree.__init__" sTI f fd) : FnOk P w K mg base CX0 1 f fd ["self", "at", "many", "deep"] (spTI K) := by
  refine F.ok scTI (fun vs H Q E h => ?_) (fun cdv A outer s H vs Q E hr h => ?_)
  · obtain ⟨p, C, dx, a, m, d, rfl, _⟩ := h; rfl
  · obtain ⟨p, C, dx, a, m, d, rfl, hp, tc, q⟩ := h
    refine ⟨_, pss_cons (ps_fld (pv 0) (pv 1) rfl) (pss_cons (ps_fld (pv 0) (pv 2) rfl) (pss_one (ps_fld (pv 0) (pv 3) rfl))), ?_⟩
    refine ⟨_, rfl, _, rfl, p, C, dx, [], rfl, hp, tc.cl, tc.nA, (by show 0 < 1000; decide), ?_⟩
    rw [putF_nil]
    refine ⟨_, rfl, _, rfl, p, C, dx, _, rfl, upd_same, tc.cl, tc.nM, (by show 1 < 1000; decide), ?_⟩
    rw [put_many, upd_upd]
    refine ⟨_, rfl, _, rfl, p, C, dx, _, rfl, upd_same, tc.cl, tc.nD, (by show 2 < 1000; decide), ?_⟩
    rw [put_deep, upd_upd]
    exact q
theorem scWI : FnScope ["self", "name", "at", "bits"] ["self", "name", "at", "bits"] (defScope sWI) := ⟨rfl, rfl, rfl, by decide +kernel, rfl, by decide +kernel, by decide +kernel⟩
theorem ok_wi {f fT T0 : Addr} {fd fdT : FuncData} (F : FunD K "__init__" "Word.__init__" sWI f fd T0) (T : Tcs K mg c) (FT : Fun K "__init__" "Tree.__init__" sTI fT fdT) (bT : Binds K fdT ["self", "at", "many", "deep"] []) (cT : ClsFn K c.T "__init__" fT) :
    FnOk P w K mg base CX0 2 f fd ["self", "name", "at", "bits"] (spWI c) := by
  have GT : FnOk P w K mg base CX0 1 fT fdT ["self", "at", "many", "deep"] (spTI K) := ok_ti FT
  refine F.ok scWI (fun vs H Q E h => ?_) (fun cdv A outer s H vs Q E hr h => ?_)
  · obtain ⟨p, dx, n, a, b, rfl, _⟩ := h; rfl
  · obtain ⟨p, dx, n, a, b, rfl, hp, q⟩ := h
    refine ⟨_, pss_cons (ps_expr (pe_clsfn (by rfl) T.mgT cT GT hr bT .nil pass0 (pa_cons (pv 0) (pa_cons (pv 2) (pa_cons pe_int (pa_cons pe_int pa_nil))))))
      (pss_cons (ps_fld (pv 0) (pv 1) rfl) (pss_one (ps_fld (pv 0) (pv 3) rfl))), ?_⟩
    refine ⟨_, rfl, _, rfl, p, c.W, dx, a, 1, 0, rfl, hp, T.tw, ?_⟩
    refine ⟨_, rfl, _, rfl, p, c.W, dx, _, rfl, upd_same, T.tw.cl, T.nWn, (by show 3 < 1000; decide), ?_⟩
    rw [put_x (by decide +kernel) (by decide +kernel) (by decide +kernel), upd_upd]
    refine ⟨_, rfl, _, rfl, p, c.W, dx, _, rfl, upd_same, T.tw.cl, T.nWb, (by show 4 < 1000; decide), ?_⟩
    rw [put_bits, upd_upd]
    exact q
theorem scFI : FnScope ["self", "number", "at"] ["self", "number", "at"] (defScope sFI) := ⟨rfl, rfl, rfl, by decide +kernel, rfl, by decide +kernel, by decide +kernel⟩
theorem ok_fi {f fT : Addr} {fd fdT : FuncData} (F : Fun K "__init__" "Figure.__init__" sFI f fd) (T : Tcs K mg c) (FT : Fun K "__init__" "Tree.__init__" sTI fT fdT) (bT : Binds K fdT ["self", "at", "many", "deep"] []) (cT : ClsFn K c.T "__init__" fT) :
    FnOk P w K mg base CX0 2 f fd ["self", "number", "at"] (spFI c) := by
  have GT : FnOk P w K mg base CX0 1 fT fdT ["self", "at", "many", "deep"] (spTI K) := ok_ti FT
  refine F.ok scFI (fun vs H Q E h => ?_) (fun cdv A outer s H vs Q E hr h => ?_)
  · obtain ⟨p, dx, z, a, rfl, _⟩ := h; rfl
  · obtain ⟨p, dx, z, a, rfl, hp, q⟩ := h
    refine ⟨_, pss_cons (ps_expr (pe_clsfn (by rfl) T.mgT cT GT hr bT .nil pass0 (pa_cons (pv 0) (pa_cons (pv 2) (pa_cons pe_int (pa_cons pe_int pa_nil))))))
      (pss_one (ps_fld (pv 0) (pv 1) rfl)), ?_⟩
    refine ⟨_, rfl, _, rfl, p, c.F, dx, a, 1, 0, rfl, hp, T.tf, ?_⟩
    refine ⟨_, rfl, _, rfl, p, c.F, dx, _, rfl, upd_same, T.tf.cl, T.nFn, (by show 3 < 1000; decide), ?_⟩
    rw [put_x (by decide +kernel) (by decide +kernel) (by decide +kernel), upd_upd]
    exact q
/-! ### what a tree's fields hold -/
theorem fld_many {t : Tr} {v : V} {H : Hp} (T : Tcs K mg c) (x : TrIn c All H t v) : ∃ p C dx fs, v = .ref p ∧ H p = some (.ins C dx fs) ∧ Cls K C ∧ NoAttr K C "many" ∧ fs.lookup ("many" : Str) = some (.int (many t)) := by
  cases t with
  | word n a b =>
    simp only [TrIn] at x
    obtain ⟨p, dx, e, _, h⟩ := x
    exact ⟨p, _, dx, _, e, h, T.tw.cl, T.tw.nM, fW_many⟩
  | fig z a =>
    simp only [TrIn] at x
    obtain ⟨p, dx, e, _, h⟩ := x
    exact ⟨p, _, dx, _, e, h, T.tf.cl, T.tf.nM, fF_many⟩
  | row ps a =>
    simp only [TrIn] at x
    obtain ⟨p, dx, l, vs, e, _, h, _⟩ := x
    exact ⟨p, _, dx, _, e, h, T.tr.cl, T.tr.nM, by rw [fR_many]; simp only [many]⟩
theorem fld_deep {t : Tr} {v : V} {H : Hp} (T : Tcs K mg c) (x : TrIn c All H t v) : ∃ p C dx fs, v = .ref p ∧ H p = some (.ins C dx fs) ∧ Cls K C ∧ NoAttr K C "deep" ∧ fs.lookup ("deep" : Str) = some (.int (deep t)) := by
  cases t with
  | word n a b =>
    simp only [TrIn] at x
    obtain ⟨p, dx, e, _, h⟩ := x
    exact ⟨p, _, dx, _, e, h, T.tw.cl, T.tw.nD, fW_deep⟩
  | fig z a =>
    simp only [TrIn] at x
    obtain ⟨p, dx, e, _, h⟩ := x
    exact ⟨p, _, dx, _, e, h, T.tf.cl, T.tf.nD, fF_deep⟩
  | row ps a =>
    simp only [TrIn] at x
    obtain ⟨p, dx, l, vs, e, _, h, _⟩ := x
    exact ⟨p, _, dx, _, e, h, T.tr.cl, T.tr.nD, by rw [fR_deep]; simp only [deep]⟩
theorem take_snoc {α : Type} {xs : List α} {k : Nat} {x : α} (h : xs[k]? = some x) : xs.take (k + 1) = xs.take k ++ [x] := by rw [List.take_succ, h]; rfl
/-! ### Row.__init__ -/
theorem scRI : FnScope ["self", "parts", "at", "many", "deep"] ["self", "parts", "at"] (defScope sRI) := ⟨rfl, rfl, rfl, by decide +kernel, rfl, by decide +kernel, by decide +kernel⟩
theorem lcRI : LcS (defScope sRI).names [(".0", .local), ("part", .local)] ["self", "parts", "at", "many", "deep"] [false, false, false, false, false] :=
  ⟨by decide +kernel, by decide +kernel, by decide +kernel, by decide +kernel, by decide +kernel, rfl⟩
theorem ndRI : (["self", "parts", "at", "many", "deep", "part"] : List Str).Nodup := by decide +kernel
theorem ok_ri {f fT : Addr} {fd fdT : FuncData} (F : Fun K "__init__" "Row.__init__" sRI f fd) (T : Tcs K mg c) (FT : Fun K "__init__" "Tree.__init__" sTI fT fdT) (bT : Binds K fdT ["self", "at", "many", "deep"] []) (cT : ClsFn K c.T "__init__" fT) :
    FnOk P w K mg base CX0 2 f fd ["self", "parts", "at"] (spRI c) := by
  have GT : FnOk P w K mg base CX0 1 fT fdT ["self", "at", "many", "deep"] (spTI K) := ok_ti FT
  refine F.ok scRI (fun vs H Q E h => ?_) (fun cdv A outer s H vs Q E hr h => ?_)
  · obtain ⟨p, dx, l, us, ts, a, rfl, _⟩ := h; rfl
  · obtain ⟨p, dx, l, us, ts, a, rfl, hp, hl, hts, hlen, q⟩ := h
    have nd := scRI.nd
    refine ⟨_, pss_cons (ps_set (i := 3) nd rfl (Or.inl rfl) (pe_op op_add pe_int (pe_callB (call_sumI rfl) (by rfl) T.sum bt_sum (pa_cons (pe_lc (ext := ["part"]) lcRI rfl (pi_list (pv 1))
          ⟨fun _ _ _ _ _ => pg_name (i := 5) ndRI rfl (Or.inl rfl), fun _ _ _ _ _ => pts_nil, fun _ _ _ _ _ => (pe_fld (pv 5) rfl : PE _ _ (tFld K (tVar 5) ("many" : Str)))⟩) pa_nil))))
      (pss_cons (ps_set (i := 4) nd rfl (Or.inl rfl) (pe_op op_add pe_int (pe_maxD rfl (by rfl) T.max (pa_cons (pe_lc (ext := ["part"]) lcRI rfl (pi_list (pv 1))
          ⟨fun _ _ _ _ _ => pg_name (i := 5) ndRI rfl (Or.inl rfl), fun _ _ _ _ _ => pts_nil, fun _ _ _ _ _ => (pe_fld (pv 5) rfl : PE _ _ (tFld K (tVar 5) ("deep" : Str)))⟩) pa_nil))))
      (pss_cons (ps_expr (pe_clsfn (by rfl) T.mgT cT GT hr bT .nil pass0 (pa_cons (pv 0) (pa_cons (pv 2) (pa_cons (pv 3) (pa_cons (pv 4) pa_nil))))))
      (pss_one (ps_fld (pv 0) (pe_callTy call_list_of (by rfl) T.list bt_list (pa_cons (pv 1) pa_nil)) rfl)))), ?_⟩
    have hul : us.length = ts.length := hts.length
    have hsz : us.length ≤ sizeLine := by rw [sizeLine_eq]; omega
    -- many
    refine ⟨_, rfl, l, rfl, ⟨_, SqL.of hl⟩, fun D hD => ?_⟩
    refine lc_grow (xs := us) (fun k ys H1 => ys = (ts.take k).map fun t => V.int (many t)) hD (SqL.of hl) hsz rfl (fun k x v ys H1 R hx hy hS hDD hP hR => ?_) (fun ys H1 hy hS hDD hP => ?_)
    · obtain ⟨t, ht, htr⟩ := hts.get hx
      obtain ⟨p', C, dx', fs, ev, hp', cl, na, hlk⟩ := fld_many T (htr.same hS)
      refine ⟨_, rfl, p', C, dx', fs, _, ev, hp', cl, na, hlk, hR _ _ (Same.refl _) ?_⟩
      rw [take_snoc ht, List.map_append, hP]; rfl
    have hys : ys = (ts.map fun t => (many t : Int)).map V.int := by
      rw [hP, hul, List.take_length, List.map_map]; rfl
    refine ⟨D, ts.map fun t => (many t : Int), rfl, SqL.of (by rw [hDD, hys]), _, _, rfl, rfl, ?_⟩
    rw [sum_many]
    have hl1 := hS _ _ hl
    have hp1 := hS _ _ hp
    -- deep
    refine ⟨_, rfl, l, rfl, ⟨_, SqL.of hl1⟩, fun D2 hD2 => ?_⟩
    refine lc_grow (xs := us) (fun k ys H2 => ys = (ts.take k).map fun t => V.int (deep t)) hD2 (SqL.of hl1) hsz rfl (fun k x v ys H2 R hx hy hS2 hDD2 hP2 hR => ?_) (fun ys2 H2 hy2 hS2 hDD2 hP2 => ?_)
    · obtain ⟨t, ht, htr⟩ := hts.get hx
      obtain ⟨p', C, dx', fs, ev, hp', cl, na, hlk⟩ := fld_deep T (htr.same (hS.trans hS2))
      refine ⟨_, rfl, p', C, dx', fs, _, ev, hp', cl, na, hlk, hR _ _ (Same.refl _) ?_⟩
      rw [take_snoc ht, List.map_append, hP2]; rfl
    have hys2 : ys2 = (ts.map fun t => (deep t : Int)).map V.int := by
      rw [hP2, hul, List.take_length, List.map_map]; rfl
    refine ⟨D2, ts.map fun t => (deep t : Int), rfl, SqL.of (by rw [hDD2, hys2]), _, _, rfl, rfl, ?_⟩
    rw [maxI_deeps]
    have hl2 := hS2 _ _ hl1
    have hp2 := hS2 _ _ hp1
    have hSS := hS.trans hS2
    -- Tree.__init__
    refine ⟨_, rfl, _, rfl, _, rfl, _, rfl, p, c.R, dx, a, _, _, rfl, hp2, T.tr, ?_⟩
    have npl : l ≠ p := ne_of hl hp (by intro z; cases z)
    -- parts
    refine ⟨_, rfl, l, us, rfl, .inl (SqL.of (by rw [upd_ne npl]; exact hl2)), fun l2 hl2n => ?_⟩
    have np2 : l2 ≠ p := fun z => by rw [z, upd_same] at hl2n; cases hl2n
    refine ⟨_, rfl, p, c.R, dx, _, rfl, (by rw [upd_ne np2.symm, upd_same]), T.tr.cl, T.nRp, (by show 3 < 1000; decide), ?_⟩
    rw [put_x (by decide +kernel) (by decide +kernel) (by decide +kernel)]
    have hl2H : H2 l2 = none := by rw [upd_ne np2] at hl2n; exact hl2n
    refine q _ l2 (fun b o hb e => ?_) ?_ (hSS.free hl2H) ?_
    · have nb : b ≠ l2 := fun z => by rw [z, hSS.free hl2H] at e; cases e
      rw [upd_ne hb, upd_ne nb, upd_ne hb]
      exact hSS _ _ e
    · rw [upd_same]
      unfold fR
      simp only [Int.natCast_add, Int.natCast_one]
      congr 4
      all_goals first | rfl | (simp only [V.int.injEq, Prod.mk.injEq, List.cons.injEq, true_and, and_true]; omega)
    · rw [upd_ne np2, upd_same]
theorem tyW {n : Str} {a : Int} {b : Nat} {v : V} {H : Hp} (T : Tcs K mg c) (x : TrIn c All H (.word n a b) v) : TyOf K H v (.ref c.W) := by
  simp only [TrIn] at x
  obtain ⟨p, dx, rfl, _, h⟩ := x
  exact .ins h T.tw.cl T.tw.ha T.hn T.htk T.tw.hm
theorem tyF {z a : Int} {v : V} {H : Hp} (T : Tcs K mg c) (x : TrIn c All H (.fig z a) v) : TyOf K H v (.ref c.F) := by
  simp only [TrIn] at x
  obtain ⟨p, dx, rfl, _, h⟩ := x
  exact .ins h T.tf.cl T.tf.ha T.hn T.htk T.tf.hm
theorem tyR {ps : List Tr} {a : Int} {v : V} {H : Hp} (T : Tcs K mg c) (x : TrIn c All H (.row ps a) v) : TyOf K H v (.ref c.R) := by
  simp only [TrIn] at x
  obtain ⟨p, dx, l, vs, rfl, _, h, _⟩ := x
  exact .ins h T.tr.cl T.tr.ha T.hn T.htk T.tr.hm
theorem made_same {H : Hp} {x dx : Addr} {o : HO} {o' : HO} (hx : H x = none) (hd : H dx = none) : Same H (upd (upd H dx o) x o') := fun b u e => by
  rw [upd_ne (ne_of_none e hx), upd_ne (ne_of_none e hd)]; exact e
/-- the makers of the classes -/
structure Mks (K : PySem.W.Frag) (c : C4) (fW fF fR : Addr) : Prop where
  w : Mk K c.W fW
  f : Mk K c.F fF
  r : Mk K c.R fR
/-- a Row is made of parts that stand at addresses that are N -/
theorem row_made {N : Addr → Prop} {H : Hp} {l : Addr} {us : List V} {ts : List Tr} {a : Int} {Q : VK} (hN : ∀ b, H b = none → N b) (hl : H l = some (.lst us)) (hts : TrsIn c N H ts us) (hlen : ts.length ≤ 1000)
    (q : ∀ (H' : Hp) (x : V), Same H H' → TrIn c N H' (.row ts a) x → Q x H') (x dx : Addr) (nx : H x = none) (ndx : H dx = none) :
    spRI c (.ref x :: ([.ref l, .int a] ++ [])) (upd (upd H dx (.own x)) x (.ins c.R dx [])) (fun v H2 => v = .non ∧ Q (.ref x) H2) E0 := by
  have hM := made_same (o := .own x) (o' := .ins c.R dx []) nx ndx
  refine ⟨x, dx, l, us, ts, a, rfl, upd_same, hM _ _ hl, hts.mono fun b o _ e => ⟨trivial, hM _ _ e⟩, hlen, fun H' l2 hk hx hl2 hl2' => ⟨rfl, ?_⟩⟩
  have hS' : Same H H' := fun b o e => hk b o (ne_of_none e nx) (hM _ _ e)
  refine q _ _ hS' ?_
  simp only [TrIn]
  exact ⟨x, dx, l2, us, rfl, hN _ nx, hx, hN _ (hM.free hl2), hl2', hlen, hts.mono fun b o n e => ⟨n, hS' _ _ e⟩⟩
theorem deeps_get {ts : List Tr} {i : Nat} {t : Tr} (h : ts[i]? = some t) : deep t ≤ deeps ts := deep_le_of_mem (List.mem_of_getElem? h)
end
end K31

set_option Elab.async false
set_option linter.all false
set_option maxRecDepth 100000
set_option maxHeartbeats 4000000
set_option exponentiation.threshold 3000
/-! k31: the law's small defs: cells, names, parts. Own work. -/
namespace K31
open PySem L2 TR
theorem iteN {b : Bool} {A B : Prop} (h : b = false) (q : B) : if b = true then A else B := by rw [h]; exact iteF q
theorem iteY {b : Bool} {A B : Prop} (h : b = true) (q : A) : if b = true then A else B := by rw [h]; exact iteT q
theorem atI_some {α : Type} {xs : List α} {i : Int} (h0 : 0 ≤ i) (h1 : i < xs.length) : ∃ x, atI xs i = some x ∧ x ∈ xs := by
  have hi : i.toNat < xs.length := by omega
  refine ⟨xs[i.toNat], ?_, List.getElem_mem hi⟩
  unfold atI ixN
  rw [if_pos h0, if_pos h1]
  exact List.getElem?_eq_getElem hi
def spCell (K : PySem.W.Frag) : Sp := fun vs H Q _ => ∃ (a : Addr) (k : Int) (ns : List Int), vs = [.ref a, .int k] ∧ SqL K H a (ns.map V.int) ∧ 0 ≤ k ∧ ∀ z : Int, Q (.int z) H
def spName : Sp := fun vs H Q _ => ∃ z : Int, vs = [.int z] ∧ ∀ x : Str, Q (.str x) H
def spPart : Sp := fun vs H Q _ => ∃ (z a : Int) (st : Bool), vs = [.int z, .int a, .bl st] ∧ ∀ (H' : Hp) (t : Tr) (v : V), Same H H' → deep t ≤ 1 → MdIn (Free H) H' t v → Q v H'
section
variable {P : Program} {w : World} {K : PySem.W.Frag} {mg : Str → Option Value} {base : Heap} {c : C4}
theorem scCell : FnScope ["_law_script", "_law_k"] ["_law_script", "_law_k"] (defScope sCell) := ⟨rfl, rfl, rfl, by decide +kernel, rfl, by decide +kernel, by decide +kernel⟩
theorem ok_cell {f : Addr} {fd : FuncData} (F : Fun K "_law_cell_at" "_law_cell_at" sCell f fd) (T : Txt mg) : FnOk P w K mg base CX0 1 f fd ["_law_script", "_law_k"] (spCell K) := by
  refine F.ok scCell (fun vs H Q E h => ?_) (fun cdv A outer s H vs Q E hr h => ?_)
  · obtain ⟨a, k, ns, rfl, _⟩ := h; rfl
  · obtain ⟨a, k, ns, rfl, hS, k0, q⟩ := h
    refine ⟨_, pss_cons (ps_if (pt_cmpR op_lt (pv 1) (pe_callB call_len_seq (by rfl) T.len bt_len (pa_cons (pv 0) pa_nil)) (nomark _)) (pss_one (ps_ret (pe_ix ix_list (pv 0) (pv 1) (fun _ _ => rfl)))) pss_nil)
      (pss_one (ps_ret pe_int)), ?_⟩
    refine ⟨_, rfl, _, rfl, a, _, rfl, .inl hS, _, _, rfl, rfl, _, rfl, ite2 (fun hlt => ?_) (fun _ => q 0)⟩
    obtain ⟨v, ev, hv⟩ := atI_some (xs := ns.map V.int) (i := k) k0 (of_decide_eq_true hlt)
    obtain ⟨z, _, rfl⟩ := List.mem_map.mp hv
    exact ⟨_, rfl, _, rfl, a, _, _, _, rfl, rfl, hS, ev, q z⟩
/-! ### _law_name -/
theorem scName : FnScope ["_law_cell", "_law_letters", "_law_some", "_law_name_here"] ["_law_cell"] (defScope sName) := ⟨rfl, rfl, rfl, by decide +kernel, rfl, by decide +kernel, by decide +kernel⟩
theorem ok_name {f : Addr} {fd : FuncData} (F : Fun K "_law_name" "_law_name" sName f fd) : FnOk P w K mg base CX0 1 f fd ["_law_cell"] spName := by
  refine F.ok scName (fun vs H Q E h => ?_) (fun cdv A outer s H vs Q E hr h => ?_)
  · obtain ⟨z, rfl, _⟩ := h; rfl
  · obtain ⟨z, rfl, q⟩ := h
    have nd := scName.nd
    refine ⟨_, pss_cons (ps_set (i := 1) nd rfl (Or.inl rfl) pe_str)
      (pss_cons (ps_set (i := 2) nd rfl (Or.inl rfl) (pe_op op_add_str (pv 1) pe_str))
      (pss_cons (ps_set (i := 3) nd rfl (Or.inl rfl) (pe_ix ix_str (pv 1) (pe_op op_mod (pv 0) pe_int) (fun _ _ => rfl)))
      (pss_cons (ps_set (i := 0) nd rfl (Or.inl rfl) (pe_op op_mod (pe_op op_fdiv (pv 0) pe_int) (pe_op op_pow pe_int pe_int)))
      (pss_cons (ps_while PassesOwn.never (pt_cmpR op_gt (pv 0) pe_int (nomark _))
        (pss_cons (ps_set (i := 3) nd rfl (Or.inl rfl) (pe_op op_add_str (pv 3) (pe_ix ix_str (pv 2) (pe_op op_mod (pv 0) pe_int) (fun _ _ => rfl))))
        (pss_one (ps_set (i := 0) nd rfl (Or.inl rfl) (pe_op op_fdiv (pv 0) pe_int)))))
      (pss_one (ps_ret (pv 3))))))), ?_⟩
    have a0 := Int.emod_nonneg z (show (26 : Int) ≠ 0 by decide)
    have a1 := Int.emod_lt_of_pos z (show (0 : Int) < 26 by decide)
    obtain ⟨d, ed, _⟩ := atI_some (xs := cpl ("abcdefghijklmnopqrstuvwxyz" : Str)) (i := z % 26) a0 (by rw [show (cpl ("abcdefghijklmnopqrstuvwxyz" : Str)).length = 26 from by decide]; exact a1)
    have b0 := Int.emod_nonneg (z / 26) (show ((10 : Int) ^ (12 : Int).toNat) ≠ 0 by decide)
    have b1 := Int.emod_lt_of_pos (z / 26) (show (0 : Int) < (10 : Int) ^ (12 : Int).toNat by decide)
    refine ⟨_, rfl, _, _, rfl, rfl, (by show 26 + 10 ≤ sizeLine; rw [sizeLine_eq]; decide), ?_⟩
    refine ⟨_, rfl, _, rfl, _, _, rfl, rfl, (by show (0 : Int) < _; decide), ("abcdefghijklmnopqrstuvwxyz" : Str), _, d, rfl, rfl, by decide, ed, ?_⟩
    refine ⟨_, rfl, _, _, rfl, rfl, ⟨by decide, by decide⟩, _, _, rfl, rfl, ⟨by decide, by decide, by decide⟩, _, _, rfl, rfl, (by show (0 : Int) < _; decide), ?_⟩
    refine while_by (fun σ H' => ∃ (n : Nat) (nm : Str) (k : Nat), σ = [some (.int (n : Int)), some (.str "abcdefghijklmnopqrstuvwxyz"), some (.str (("abcdefghijklmnopqrstuvwxyz" : Str) ++ "0123456789")), some (.str nm)] ∧ H' = H ∧ n < 36 ^ k ∧ nm.length + k ≤ 10)
      (fun σ _ => match σ with | some (.int n) :: _ => n.toNat | _ => 0) ⟨(z / 26 % 10 ^ (12 : Int).toNat).toNat, ⟨#[d]⟩, 8, ?_, rfl, ?_, (by show 1 + 8 ≤ 10; decide)⟩ ?_ ?_
    · rw [Int.toNat_of_nonneg b0]; rfl
    · have : z / 26 % 10 ^ (12 : Int).toNat < 36 ^ 8 := Int.lt_trans b1 (by decide)
      omega
    · rintro σ H' ⟨n, nm, k, rfl, rfl, hn, hk⟩
      refine ⟨_, rfl, _, _, rfl, rfl, _, rfl, ite2 (fun hg => ?_) (fun _ => ⟨_, rfl, q nm⟩)⟩
      have hg' : (n : Int) > 0 := of_decide_eq_true hg
      obtain ⟨k', rfl⟩ : ∃ k', k = k' + 1 := by
        cases k with
        | zero => rw [Nat.pow_zero] at hn; omega
        | succ k' => exact ⟨k', rfl⟩
      have c0 := Int.emod_nonneg (n : Int) (show (36 : Int) ≠ 0 by decide)
      have c1 := Int.emod_lt_of_pos (n : Int) (show (0 : Int) < 36 by decide)
      obtain ⟨e, ee, _⟩ := atI_some (xs := cpl (("abcdefghijklmnopqrstuvwxyz" : Str) ++ "0123456789")) (i := (n : Int) % 36) c0 (by rw [show (cpl (("abcdefghijklmnopqrstuvwxyz" : Str) ++ "0123456789")).length = 36 from by decide]; exact c1)
      refine ⟨_, rfl, _, rfl, _, rfl, _, _, rfl, rfl, (by show (0 : Int) < _; decide), (("abcdefghijklmnopqrstuvwxyz" : Str) ++ "0123456789"), _, e, rfl, rfl, by decide, ee, _, _, rfl, rfl, (by show nm.length + 1 ≤ sizeLine; rw [sizeLine_eq]; omega), ?_⟩
      refine ⟨_, rfl, _, _, rfl, rfl, ⟨by decide, by decide⟩, ⟨n / 36, nm ++ ⟨#[e]⟩, k', rfl, rfl, ?_, ?_⟩, ?_⟩
      · rw [Nat.pow_succ] at hn
        exact Nat.div_lt_of_lt_mul (by omega)
      · rw [← cpl_len, cpl_cat, List.length_append, cpl_len]
        show nm.length + 1 + k' ≤ 10; omega
      · show ((n : Int) / 36).toNat < (n : Int).toNat
        omega
    · rintro σ H' Q1 Q2 hQ ⟨v, h, i, j, e1, e2, k, e3, q⟩
      exact ⟨v, h, i, j, e1, e2, k, e3, hQ _ _ q⟩
end
end K31

set_option Elab.async false
set_option linter.all false
set_option maxRecDepth 100000
set_option maxHeartbeats 4000000
set_option exponentiation.threshold 3000
/-! k31: one part of the row, as a model. Own work. -/
namespace K31
open PySem L2 TR
theorem deeps_zero : ∀ {ts : List Tr}, (∀ t ∈ ts, deep t = 0) → deeps ts = 0
  | [], _ => by simp only [deeps]
  | t :: r, h => by
    simp only [deeps]
    rw [h t List.mem_cons_self, deeps_zero fun x hx => h x (List.mem_cons_of_mem _ hx)]
    rfl
section
variable {P : Program} {w : World} {K : PySem.W.Frag} {mg : Str → Option Value} {base : Heap} {c : C4}
abbrev NPt : List Str := ["_law_cell", "_law_at", "_law_stars", "_law_bits"]
theorem scPart : FnScope NPt ["_law_cell", "_law_at", "_law_stars"] (defScope sPart) := ⟨rfl, rfl, rfl, by decide +kernel, rfl, by decide +kernel, by decide +kernel⟩
theorem ok_part {f fN : Addr} {fd fdN : FuncData} (F : Fun K "_law_part" "_law_part" sPart f fd) (FN : Fun K "_law_name" "_law_name" sName fN fdN) (bN : Binds K fdN ["_law_cell"] []) (mN : mg "_law_name" = some (.ref fN)) :
    FnOk P w K mg base CX0 2 f fd ["_law_cell", "_law_at", "_law_stars"] spPart := by
  have GN : FnOk P w K mg base CX0 1 fN fdN ["_law_cell"] spName := ok_name FN
  refine F.ok scPart (fun vs H Q E h => ?_) (fun cdv A outer s H vs Q E hr h => ?_)
  · obtain ⟨z, a, st, rfl, _⟩ := h; rfl
  · obtain ⟨z, a, st, rfl, q⟩ := h
    have nd := scPart.nd
    have z4 : 4 ≤ sizeLine := by rw [sizeLine_eq]; decide
    have z3 : 3 ≤ sizeLine := by rw [sizeLine_eq]; decide
    have z2 : 2 ≤ sizeLine := by rw [sizeLine_eq]; decide
    have wd : ∀ (n : Str) (b : Nat) (p : Addr), H p = none → Q (.ref p) (upd H p (.tup [.str "w", .str n, .int a, .int b])) := fun n b p hp => by
      refine q _ (.word n a b) (.ref p) (same_upd hp) (by simp only [deep]; omega) ?_
      simp only [MdIn]
      exact ⟨p, rfl, hp, upd_same⟩
    have REST : ∃ t : TS, PSs (cxOf CX0 P w K mg base NPt "_law_part" (defScope sPart) f cdv A outer s H E).nox ((defBody sPart).drop 2) t ∧
        ∀ b : Nat, t { nx := fun _ H' => Q .non H', rt := Q } [some (.int z), some (.int a), some (.bl st), some (.int b)] H := by
      refine ⟨_, pss_cons (ps_if (pt_cmpR op_eq (pe_op op_mod (pv 0) pe_int) pe_int (nomark _))
        (pss_one (ps_ret (pe_tup (pa_cons pe_str (pa_cons (pe_op op_sub (pe_op op_mod (pe_op op_fdiv (pv 0) pe_int) (pe_op op_mul pe_int (pe_op op_pow pe_int pe_int))) (pe_op op_pow pe_int pe_int)) (pa_cons (pv 1) pa_nil))))))
        pss_nil)
        (pss_cons (ps_if (pt_cmpR op_eq (pe_op op_mod (pv 0) pe_int) pe_int (nomark _))
        (pss_one (ps_ret (pe_tup (pa_cons pe_str (pa_cons pe_str (pa_cons (pv 1) (pa_cons (pv 3) pa_nil)))))))
        pss_nil)
        (pss_cons (ps_if (pt_cmpR op_eq (pe_op op_mod (pv 0) pe_int) pe_int (nomark _))
        (pss_one (ps_ret (pe_tup (pa_cons pe_str (pa_cons (pe_slice sl_list (pe_lst (pa_cons (pe_tup (pa_cons pe_str (pa_cons pe_str (pa_cons (pe_op op_add (pv 1) pe_int) (pa_cons (pv 3) pa_nil))))) (pa_cons (pe_tup (pa_cons pe_str (pa_cons (pe_call GN hr (by rfl) mN FN.kp bN .nil pass0 (pa_cons (pe_op op_fdiv (pv 0) pe_int) pa_nil)) (pa_cons (pe_op op_add (pv 1) pe_int) (pa_cons pe_int pa_nil))))) pa_nil))) (po_some (pe_op op_mod (pe_op op_fdiv (pv 0) pe_int) pe_int)) po_none) (pa_cons (pv 1) pa_nil))))))
        pss_nil)
        (pss_one (ps_ret (pe_tup (pa_cons pe_str (pa_cons (pe_call GN hr (by rfl) mN FN.kp bN .nil pass0 (pa_cons (pe_op op_fdiv (pv 0) pe_int) pa_nil)) (pa_cons (pv 1) (pa_cons (pv 3) pa_nil))))))))), ?_⟩
      intro b
      refine ⟨_, rfl, _, _, rfl, rfl, (by show (0 : Int) < _; decide), rfl, _, rfl, ite2 (fun _ => ?_) (fun _ => ?_)⟩
      · refine ⟨_, rfl, _, _, rfl, rfl, ⟨by decide, by decide⟩, _, _, rfl, rfl, ⟨by decide, by decide, by decide⟩, _, _, rfl, rfl, .inl ⟨by decide, by decide⟩, _, _, rfl, rfl, (by show (0 : Int) < _; decide), _, _, rfl, rfl, ⟨by decide, by decide, by decide⟩, _, _, rfl, rfl, _, rfl, z3, fun p hp => ?_⟩
        refine q _ (.fig (z / 8 % (2 * 10 ^ (59 : Int).toNat) - 10 ^ (59 : Int).toNat) a) (.ref p) (same_upd hp) (by simp only [deep]; omega) ?_
        simp only [MdIn]
        exact ⟨p, rfl, hp, upd_same⟩
      refine ⟨_, rfl, _, _, rfl, rfl, (by show (0 : Int) < _; decide), rfl, _, rfl, ite2 (fun _ => ?_) (fun _ => ?_)⟩
      · exact ⟨_, rfl, _, rfl, z4, fun p hp => wd _ b p hp⟩
      refine ⟨_, rfl, _, _, rfl, rfl, (by show (0 : Int) < _; decide), rfl, _, rfl, ite2 (fun _ => ?_) (fun _ => ?_)⟩
      · refine ⟨_, rfl, _, _, rfl, rfl, _, rfl, z4, fun p1 hp1 => ⟨_, rfl, _, _, rfl, rfl, ⟨by decide, by decide⟩, _, rfl, fun x => ⟨_, rfl, _, _, rfl, rfl, z4, fun p2 hp2 => ⟨z2, fun l hl => ⟨_, rfl, _, _, rfl, rfl, ⟨by decide, by decide⟩, _, _, rfl, rfl, (by show (0 : Int) < _; decide), _, rfl, l, _, rfl, SqL.of upd_same, fun l2 hl2 => ⟨_, rfl, z3, fun p3 hp3 => ?_⟩⟩⟩⟩⟩⟩
        have s1 := same_upd (o := .tup [.str "w", .str "*", .int (a + 1), .int b]) hp1
        have s2 := s1.trans (same_upd (o := .tup [.str "w", .str x, .int (a + 2), .int 0]) hp2)
        have s3 := s2.trans (same_upd (o := .lst [.ref p1, .ref p2]) hl)
        have s4 := s3.trans (same_upd (o := .lst (cutV [.ref p1, .ref p2] (some (z / 8 % 3)) none)) hl2)
        have s5 := s4.trans (same_upd (o := .tup [.str "r", .ref l2, .int a]) hp3)
        have ms : MdsIn (Free H) (upd (upd (upd (upd (upd H p1 (.tup [.str "w", .str "*", .int (a + 1), .int b])) p2 (.tup [.str "w", .str x, .int (a + 2), .int 0])) l (.lst [.ref p1, .ref p2])) l2 (.lst (cutV [.ref p1, .ref p2] (some (z / 8 % 3)) none))) p3 (.tup [.str "r", .ref l2, .int a]))
            [.word "*" (a + 1) b, .word x (a + 2) 0] [.ref p1, .ref p2] := by
          have k2 := (same_upd (o := .lst [.ref p1, .ref p2]) hl).trans ((same_upd (o := .lst (cutV [.ref p1, .ref p2] (some (z / 8 % 3)) none)) hl2).trans (same_upd (o := .tup [.str "r", .ref l2, .int a]) hp3))
          have k1 := (same_upd (o := .tup [.str "w", .str x, .int (a + 2), .int 0]) hp2).trans k2
          simp only [MdsIn, MdIn]
          exact ⟨.ref p1, [.ref p2], rfl, ⟨p1, rfl, hp1, k1 _ _ upd_same⟩, .ref p2, [], rfl, ⟨p2, rfl, s1.free hp2, k2 _ _ upd_same⟩, rfl⟩
        refine q _ (.row (([.word "*" (a + 1) b, .word x (a + 2) 0].drop (HT.sIx 2 0 (some (z / 8 % 3)))).take (HT.sIx 2 2 none - HT.sIx 2 0 (some (z / 8 % 3)))) a) (.ref p3) s5 ?_ ?_
        · simp only [deep]
          rw [deeps_zero]
          · omega
          · intro t ht
            have := List.mem_of_mem_drop (List.mem_of_mem_take ht)
            rcases List.mem_cons.mp this with e | this
            · rw [e]; simp only [deep]
            · rw [List.mem_singleton.mp this]; simp only [deep]
        · simp only [MdIn]
          refine ⟨p3, l2, cutV [.ref p1, .ref p2] (some (z / 8 % 3)) none, rfl, s4.free hp3, upd_same, s3.free hl2, (same_upd hp3) _ _ upd_same, ?_, ?_⟩
          · rw [List.length_take, List.length_drop]
            show min _ (2 - _) ≤ 1000; omega
          · exact (ms.drop _).take _
      · exact ⟨_, rfl, _, _, rfl, rfl, ⟨by decide, by decide⟩, _, rfl, fun x => ⟨_, rfl, _, rfl, z4, fun p hp => wd x b p hp⟩⟩
    obtain ⟨tR, hR, hrest⟩ := REST
    refine ⟨_, pss_cons (ps_set (i := 3) nd rfl (Or.inl rfl) (pe_op op_mod (pe_op op_mul (pe_op op_fdiv (pv 0) pe_int) pe_int) (pe_op op_pow pe_int pe_int)))
      (pss_cons (ps_if (PW.pt (pw_and (pt_cmpR op_eq (pe_op op_mod (pv 0) pe_int) pe_int (nomark _)) (pw_and1 (pt_val (pv 2))))) (pss_one (ps_ret (pe_tup (pa_cons pe_str (pa_cons pe_str (pa_cons (pv 1) (pa_cons (pv 3) pa_nil))))))) pss_nil) hR), ?_⟩
    have b0 := Int.emod_nonneg (z / 8 * 69621) (show ((2 : Int) ^ (40 : Int).toNat) ≠ 0 by decide)
    obtain ⟨b, eb⟩ : ∃ b : Nat, z / 8 * 69621 % 2 ^ (40 : Int).toNat = (b : Int) := ⟨(z / 8 * 69621 % 2 ^ (40 : Int).toNat).toNat, by omega⟩
    refine ⟨_, rfl, _, _, rfl, rfl, ⟨by decide, by decide⟩, _, _, rfl, rfl, .inr ⟨by decide, by decide⟩, _, _, rfl, rfl, ⟨by decide, by decide, by decide⟩, _, _, rfl, rfl, (by show (0 : Int) < _; decide), ?_⟩
    dsimp only
    rw [eb]
    refine ⟨_, rfl, _, _, rfl, rfl, (by show (0 : Int) < _; decide), rfl, _, rfl, ite2 (fun _ => ⟨_, rfl, _, rfl, ?_⟩) (fun _ => iteF (hrest b))⟩
    cases st with
    | true => exact iteT ⟨_, rfl, _, rfl, z4, fun p hp => wd _ b p hp⟩
    | false => exact iteF (hrest b)
end
end K31

set_option Elab.async false
set_option linter.all false
set_option maxRecDepth 100000
set_option maxHeartbeats 4000000
set_option exponentiation.threshold 3000
/-! k31: the parts of the row, as models. Own work. -/
namespace K31
open PySem L2 TR
theorem yes_if {σ : St} {H : Hp} {A B : Hp → Prop} (h : A H) : tYes σ H (fun b H3 => if b = true then A H3 else B H3) := by
  show if true = true then A H else B H
  exact iteT h
def spParts (K : PySem.W.Frag) : Sp := fun vs H Q _ => ∃ (a : Addr) (ns : List Int), vs = [.ref a] ∧ SqL K H a (ns.map V.int) ∧ ns.length ≤ 63 ∧
  ∀ (H' : Hp) (D : Addr) (us : List V) (ts : List Tr), Same H H' → H' D = some (.lst us) → MdsIn All H' ts us → (∀ t ∈ ts, deep t ≤ 1) → ts.length ≤ 200 → Q (.ref D) H'
abbrev NPs : List Str := ["_law_script", "_law_way", "_law_first", "_law_parts_here", "_law_spot"]
theorem lcParts1 : LcS (defScope sParts).names [(".0", .local), ("_law_k", .local), ("_law_cell", .local), ("_law_part", .globalImplicit), ("_law_first", .free), ("_law_way", .free)] ["_law_script", "_law_way", "_law_first", "_law_parts_here", "_law_spot"] [false, true, true, false, false] := ⟨by decide +kernel, by decide +kernel, by decide +kernel, by decide +kernel, by decide +kernel, rfl⟩
theorem ndParts1 : (["_law_script", "_law_way", "_law_first", "_law_parts_here", "_law_spot", "_law_k", "_law_cell"] : List Str).Nodup := by decide +kernel
theorem lcParts2 : LcS (defScope sParts).names [(".0", .local), ("_law_k", .local), ("_law_part", .globalImplicit), ("_law_first", .free)] ["_law_script", "_law_way", "_law_first", "_law_parts_here", "_law_spot"] [false, false, true, false, false] := ⟨by decide +kernel, by decide +kernel, by decide +kernel, by decide +kernel, by decide +kernel, rfl⟩
theorem ndParts2 : (["_law_script", "_law_way", "_law_first", "_law_parts_here", "_law_spot", "_law_k"] : List Str).Nodup := by decide +kernel
section
variable {P : Program} {w : World} {K : PySem.W.Frag} {mg : Str → Option Value} {base : Heap} {c : C4}
theorem scParts : FnScope NPs ["_law_script"] (defScope sParts) := ⟨rfl, rfl, rfl, by decide +kernel, rfl, by decide +kernel, by decide +kernel⟩
theorem ok_parts {f fC fP : Addr} {fd fdC fdP : FuncData} (F : Fun K "_law_parts" "_law_parts" sParts f fd) (X : Txt mg) (FC : Fun K "_law_cell_at" "_law_cell_at" sCell fC fdC) (bC : Binds K fdC ["_law_script", "_law_k"] []) (mC : mg "_law_cell_at" = some (.ref fC))
    (FP : Fun K "_law_part" "_law_part" sPart fP fdP) (bP : Binds K fdP ["_law_cell", "_law_at", "_law_stars"] []) (mP : mg "_law_part" = some (.ref fP)) (GP : FnOk P w K mg base CX0 2 fP fdP ["_law_cell", "_law_at", "_law_stars"] spPart) :
    FnOk P w K mg base CX0 3 f fd ["_law_script"] (spParts K) := by
  have GC : FnOk P w K mg base CX0 2 fC fdC ["_law_script", "_law_k"] (spCell K) := (ok_cell FC X).mono (by decide)
  refine F.ok scParts (fun vs H Q E h => ?_) (fun cdv A outer s H vs Q E hr h => ?_)
  · obtain ⟨a, ns, rfl, _⟩ := h; rfl
  · obtain ⟨a, ns, rfl, hS, hl, q⟩ := h
    have nd := scParts.nd
    have z4 : 4 ≤ sizeLine := by rw [sizeLine_eq]; decide
    have R5 : ∃ t : TS, PSs (cxOf CX0 P w K mg base NPs "_law_parts" (defScope sParts) f cdv A outer s H E).nox ((defBody sParts).drop 4) t ∧
        ∀ (wy fs : Int) (D : Addr) (us : List V) (ts : List Tr) (H1 : Hp), Same H H1 → H1 D = some (.lst us) → MdsIn All H1 ts us → (∀ t ∈ ts, deep t ≤ 1) → ts.length ≤ 91 → t { nx := fun _ H' => Q .non H', rt := Q } [some (.ref a), some (.int wy), some (.int fs), some (.ref D), none] H1 := by
      refine ⟨_, pss_cons (ps_if (pt_cmpR op_eq (pv 1) pe_int (nomark _))
      (pss_cons (ps_set (i := 4) nd rfl (Or.inl rfl) (pe_op op_mod (pe_call GC hr (by rfl) mC FC.kp bC .nil pass0 (pa_cons (pv 0) (pa_cons pe_int pa_nil))) (pe_op op_add (pe_callB call_len_seq (by rfl) X.len bt_len (pa_cons (pv 3) pa_nil)) pe_int)))
        (pss_one (ps_set (i := 3) nd rfl (Or.inl rfl) (pe_op op_cat (pe_op op_cat (pe_slice sl_list (pv 3) po_none (po_some (pv 4))) (pe_lst (pa_cons (pe_tup (pa_cons pe_str (pa_cons pe_str (pa_cons (pe_op op_add (pv 2) pe_int) (pa_cons (pe_op op_mod (pe_call GC hr (by rfl) mC FC.kp bC .nil pass0 (pa_cons (pv 0) (pa_cons pe_int pa_nil))) (pe_op op_pow pe_int pe_int)) pa_nil))))) pa_nil))) (pe_slice sl_list (pv 3) (po_some (pv 4)) po_none)))))
      pss_nil)
      (pss_one (ps_ret (pv 3))), ?_⟩
      intro wy fs D us ts H1 s1 hD hm hd hn
      have hul : us.length = ts.length := hm.length
      refine ⟨_, rfl, rfl, _, rfl, ite2 (fun _ => ?_) (fun _ => ⟨_, rfl, q H1 D us ts s1 hD hm hd (by omega)⟩)⟩
      refine ⟨_, rfl, a, 2, ns, rfl, s1.seq hS, by decide, fun z => ⟨_, rfl, D, _, rfl, .inl (SqL.of hD), _, _, rfl, rfl, _, _, rfl, rfl, (by show (0 : Int) < (us.length : Int) + 1; omega), ?_⟩⟩
      refine ⟨_, rfl, _, rfl, _, rfl, D, _, rfl, SqL.of hD, fun l1 hl1 => ?_⟩
      obtain ⟨sp, esp⟩ : ∃ sp : Int, z % ((us.length : Int) + 1) = sp := ⟨_, rfl⟩
      have t1 := same_upd (o := .lst (cutV us none (some (z % ((us.length : Int) + 1))))) hl1
      refine ⟨_, rfl, _, _, rfl, rfl, _, rfl, a, 2, ns, rfl, (s1.trans t1).seq hS, by decide, fun z2 => ⟨_, _, rfl, rfl, ⟨by decide, by decide, by decide⟩, _, _, rfl, rfl, (by show (0 : Int) < _; decide), z4, fun p hp => ⟨(by show 1 ≤ sizeLine; rw [sizeLine_eq]; decide), fun l2 hl2 => ?_⟩⟩⟩
      have b0 := Int.emod_nonneg z2 (show ((2 : Int) ^ (40 : Int).toNat) ≠ 0 by decide)
      obtain ⟨b, eb⟩ : ∃ b : Nat, z2 % 2 ^ (40 : Int).toNat = (b : Int) := ⟨(z2 % 2 ^ (40 : Int).toNat).toNat, by omega⟩
      have t2 := t1.trans (same_upd (o := .tup [.str "w", .str "*", .int (fs + 1), .int (z2 % 2 ^ (40 : Int).toNat)]) hp)
      have t3 := t2.trans (same_upd (o := .lst [.ref p]) hl2)
      have kp : Same _ _ := same_upd (o := .lst [.ref p]) hl2
      have k1 : Same _ _ := (same_upd (o := .tup [.str "w", .str "*", .int (fs + 1), .int (z2 % 2 ^ (40 : Int).toNat)]) hp).trans kp
      have hc1 := cutV_length us none (some (z % ((us.length : Int) + 1)))
      have hc2 := cutV_length us (some (z % ((us.length : Int) + 1))) none
      refine ⟨l1, l2, _, _, rfl, rfl, k1 _ _ upd_same, upd_same, (by show _ + 1 ≤ sizeLine; rw [sizeLine_eq]; omega), fun l3 hl3 => ?_⟩
      have t4 := t3.trans (same_upd (o := .lst (cutV us none (some (z % ((us.length : Int) + 1))) ++ [.ref p])) hl3)
      refine ⟨_, rfl, _, rfl, _, rfl, D, _, rfl, SqL.of (t4 _ _ hD), fun l4 hl4 => ?_⟩
      have k4 := same_upd (o := .lst (cutV us (some (z % ((us.length : Int) + 1))) none)) hl4
      have t5 := t4.trans k4
      refine ⟨l3, l4, _, _, rfl, rfl, k4 _ _ upd_same, upd_same, (by rw [List.length_append, List.length_singleton, sizeLine_eq]; omega), fun l5 hl5 => ?_⟩
      have t6 := t5.trans (same_upd (o := .lst ((cutV us none (some (z % ((us.length : Int) + 1))) ++ [.ref p]) ++ cutV us (some (z % ((us.length : Int) + 1))) none)) hl5)
      have hp6 := ((same_upd (o := .lst (cutV us none (some (z % ((us.length : Int) + 1))) ++ [.ref p])) hl3).trans (k4.trans (same_upd (o := .lst ((cutV us none (some (z % ((us.length : Int) + 1))) ++ [.ref p]) ++ cutV us (some (z % ((us.length : Int) + 1))) none)) hl5))) _ _ (kp _ _ upd_same)
      have m6 := hm.same t6
      have mp : ∀ Hx : Hp, Hx p = some (.tup [.str "w", .str "*", .int (fs + 1), .int (z2 % 2 ^ (40 : Int).toNat)]) → MdIn All Hx (.word "*" (fs + 1) b) (.ref p) := fun Hx hx => by
        simp only [MdIn]
        exact ⟨p, rfl, trivial, by rw [← eb]; exact hx⟩
      refine ⟨_, rfl, q _ l5 _ _ (s1.trans t6) upd_same ((((m6.drop (HT.sIx us.length 0 none)).take (HT.sIx us.length us.length (some (z % ((us.length : Int) + 1))) - HT.sIx us.length 0 none)).append (MdsIn.one (mp _ hp6))).append ((m6.drop (HT.sIx us.length 0 (some (z % ((us.length : Int) + 1))))).take (HT.sIx us.length us.length none - HT.sIx us.length 0 (some (z % ((us.length : Int) + 1)))))) ?_ ?_⟩
      · intro t ht
        rcases List.mem_append.mp ht with ht | ht
        · rcases List.mem_append.mp ht with ht | ht
          · exact hd t (List.mem_of_mem_drop (List.mem_of_mem_take ht))
          · rw [List.mem_singleton.mp ht]; simp only [deep]; omega
        · exact hd t (List.mem_of_mem_drop (List.mem_of_mem_take ht))
      · rw [List.length_append, List.length_append, List.length_take, List.length_take, List.length_drop, List.length_drop, List.length_singleton]
        omega
    obtain ⟨t5, h5, k5⟩ := R5
    refine ⟨_, pss_cons (ps_set (i := 1) nd rfl (Or.inr rfl) (pe_op op_mod (pe_call GC hr (by rfl) mC FC.kp bC .nil pass0 (pa_cons (pv 0) (pa_cons pe_int pa_nil))) pe_int))
      (pss_cons (ps_set (i := 2) nd rfl (Or.inr rfl) (pe_op op_mod (pe_op op_fdiv (pe_call GC hr (by rfl) mC FC.kp bC .nil pass0 (pa_cons (pv 0) (pa_cons pe_int pa_nil))) pe_int) pe_int))
      (pss_cons (ps_lc (i := 3) (g := gTup K 2 (gCons (gName 5) (gCons (gName 6) gNil))) (ext := ["_law_k", "_law_cell"]) nd rfl rfl lcParts1 rfl (pi_enum (by rfl) X.enum (pa_cons (pe_slice sl_list (pv 0) (po_some pe_int) (po_some pe_int)) pa_nil))
          ⟨fun _ _ _ _ _ => (pg_tup rfl (pgs_cons (pg_name (i := 5) ndParts1 rfl (Or.inl rfl) (.inr rfl)) (pgs_cons (pg_name (i := 6) ndParts1 rfl (Or.inl rfl) (.inr rfl)) pgs_nil))), fun _ _ _ _ _ => pts_nil, fun _ _ _ _ _ => (pe_call GP hr (by rfl) mP FP.kp bP .nil pass0 (pa_cons (pv 6) (pa_cons (pe_op op_add (pv 2) (pe_op op_mul pe_int (pv 5))) (pa_cons (pe_cmpR op_eq (pv 1) pe_int (nomark _)) pa_nil))))⟩)
      (pss_cons (ps_if (pt_cmpR op_eq (pe_op op_mod (pe_call GC hr (by rfl) mC FC.kp bC .nil pass0 (pa_cons (pv 0) (pa_cons pe_int pa_nil))) pe_int) pe_int (nomark _))
      (pss_one (ps_lc (i := 3) (ext := ["_law_k"]) nd rfl rfl lcParts2 rfl (pi_range1 rfl X.range (pa_cons (pe_op op_mod (pe_op op_fdiv (pe_call GC hr (by rfl) mC FC.kp bC .nil pass0 (pa_cons (pv 0) (pa_cons pe_int pa_nil))) pe_int) pe_int) pa_nil))
          ⟨fun _ _ _ _ _ => (pg_name (i := 5) ndParts2 rfl (Or.inl rfl) (.inr rfl)), fun _ _ _ _ _ => pts_nil, fun _ _ _ _ _ => (pe_call GP hr (by rfl) mP FP.kp bP .nil pass0 (pa_cons (pe_op op_add (pe_op op_mul pe_int (pv 5)) pe_int) (pa_cons (pe_op op_add (pv 2) (pe_op op_mul pe_int (pv 5))) (pa_cons pe_bl pa_nil))))⟩))
      pss_nil) h5))), ?_⟩
    refine ⟨_, rfl, a, 0, ns, rfl, hS, by decide, fun z0 => ⟨_, _, rfl, rfl, (by show (0 : Int) < _; decide), ?_⟩⟩
    refine ⟨_, rfl, a, 0, ns, rfl, hS, by decide, fun z1 => ⟨_, _, rfl, rfl, ⟨by decide, by decide⟩, _, _, rfl, rfl, (by show (0 : Int) < _; decide), ?_⟩⟩
    dsimp only
    generalize z0 % 3 = wy
    generalize z1 / 3 % 100000 = fs
    refine ⟨_, rfl, _, rfl, _, rfl, a, _, rfl, hS, fun S hSn => ⟨S, rfl, ⟨_, SqL.of upd_same⟩, fun D hD => ?_⟩⟩
    have sS := same_upd (o := .lst (cutV (ns.map V.int) (some 3) (some 73))) hSn
    have hcl := cutV_length (ns.map V.int) (some 3) (some 73)
    rw [List.length_map] at hcl
    refine lc_enum (K := K) (a := S) (xs := cutV (ns.map V.int) (some 3) (some 73)) (fun k ys σ' H' => (∃ v5 v6, σ' = [none, some (.int wy), some (.int fs), none, none, v5, v6]) ∧ Same (upd H S (.lst (cutV (ns.map V.int) (some 3) (some 73)))) H' ∧ H' D = some (.lst ys) ∧ ∃ ts, MdsIn (fun b => b ≠ D) H' ts ys ∧ (∀ t ∈ ts, deep t ≤ 1) ∧ ts.length = k)
      ⟨⟨_, _, rfl⟩, same_upd hD, upd_same, [], by simp only [MdsIn], by simp, rfl⟩ (fun k ys σ' H' _ hP => SqL.of (hP.2.1 _ _ upd_same)) ?_ ?_
    · rintro k x p ys σ' H' hx ⟨⟨v5, v6, rfl⟩, sH, hDy, ts, hm, hd, hn⟩ hp
      have hk : k < (cutV (ns.map V.int) (some 3) (some 73)).length := (List.getElem?_eq_some_iff.mp hx).1
      obtain ⟨zc, _, rfl⟩ := List.mem_map.mp (List.mem_of_mem_drop (List.mem_of_mem_take (List.mem_of_getElem? hx)))
      have sp := same_upd (o := .tup [.int (k : Nat), .int zc]) hp
      refine ⟨p, _, rfl, SqT.of upd_same, rfl, _, _, rfl, _, _, rfl, rfl, ?_⟩
      refine yes_if ?_
      refine ⟨_, rfl, _, rfl, _, rfl, _, _, rfl, rfl, .inl ⟨by decide, by decide⟩, _, _, rfl, rfl, _, rfl, rfl, zc, _, _, rfl, fun H2 t v s2 hdt hmt => ?_⟩
      have hDn : D ≠ p := fun z => by rw [z, hp] at hDy; cases hDy
      have s3 := sp.trans s2
      have hD2 := s3 _ _ hDy
      refine ⟨hD2, by rw [hm.length, hn, sizeLine_eq]; omega, Beh.of hk ⟨⟨_, _, rfl⟩, fun b o e => ?_, upd_same, ts ++ [t], ?_, ?_, by rw [List.length_append, hn]; rfl⟩⟩
      · rw [upd_ne (fun z => by rw [z] at e; rw [hD] at e; cases e)]
        exact s3 _ _ (sH _ _ e)
      · refine MdsIn.snoc (hmt.mono fun b o n e => ?_) (hm.mono fun b o n e => ⟨n, by rw [upd_ne n]; exact s3 _ _ e⟩)
        have nb : b ≠ D := fun z => by
          rw [z] at n
          have n' : upd H' p (.tup [.int (k : Nat), .int zc]) D = none := n
          rw [sp _ _ hDy] at n'; cases n'
        exact ⟨nb, by rw [upd_ne nb]; exact e⟩
      · intro t' ht'
        rcases List.mem_append.mp ht' with h | h
        · exact hd t' h
        · rw [List.mem_singleton.mp h]; exact hdt
    · rintro ys σ' H1 ⟨_, sH, hDy, ts, hm, hd, hn⟩
      have s1 : Same H H1 := sS.trans sH
      refine ⟨_, rfl, a, 1, ns, rfl, s1.seq hS, by decide, fun z2 => ⟨_, _, rfl, rfl, (by show (0 : Int) < _; decide), rfl, _, rfl, ite2 (fun _ => ?_) (fun _ => k5 wy fs D ys ts H1 s1 hDy hm.all hd (by omega))⟩⟩
      refine ⟨_, rfl, a, 1, ns, rfl, s1.seq hS, by decide, fun z3 => ⟨_, _, rfl, rfl, ⟨by decide, by decide⟩, _, _, rfl, rfl, (by show (0 : Int) < _; decide), ?_⟩⟩
      have u0 := Int.emod_nonneg (z3 / 7) (show (91 : Int) ≠ 0 by decide)
      have u1 := Int.emod_lt_of_pos (z3 / 7) (show (0 : Int) < 91 by decide)
      refine ⟨z3 / 7 % 91, rfl, by omega, by omega, fun D2 hD2 => ?_⟩
      refine lc_rng (lo := 0) (n := (z3 / 7 % 91).toNat) (fun k ys σ' H' => (∃ v5, σ' = [none, none, some (.int fs), none, none, v5]) ∧ Same H1 H' ∧ H' D2 = some (.lst ys) ∧ ∃ ts, MdsIn (fun b => b ≠ D2) H' ts ys ∧ (∀ t ∈ ts, deep t ≤ 1) ∧ ts.length = k)
        ⟨⟨_, rfl⟩, same_upd hD2, upd_same, [], by simp only [MdsIn], by simp, rfl⟩ ?_ ?_
      · rintro k ys2 σ' H' hk ⟨⟨v5, rfl⟩, sH2, hDy2, ts2, hm2, hd2, hn2⟩
        unfold gName
        refine yes_if ?_
        refine ⟨_, rfl, _, _, rfl, rfl, .inl ⟨by decide, by decide⟩, _, _, rfl, rfl, _, rfl, _, rfl, _, _, rfl, rfl, .inl ⟨by decide, by decide⟩, _, _, rfl, rfl, _, _, _, rfl, fun H2 t v s2 hdt hmt => ?_⟩
        refine ⟨s2 _ _ hDy2, by rw [hm2.length, hn2, sizeLine_eq]; omega, Beh.of hk ⟨⟨_, rfl⟩, fun b o e => ?_, upd_same, ts2 ++ [t], ?_, ?_, by rw [List.length_append, hn2]; rfl⟩⟩
        · rw [upd_ne (ne_of_none e hD2)]
          exact s2 _ _ (sH2 _ _ e)
        · refine MdsIn.snoc (hmt.mono fun b o n e => ?_) (hm2.mono fun b o n e => ⟨n, by rw [upd_ne n]; exact s2 _ _ e⟩)
          have nb : b ≠ D2 := fun z => by rw [z] at n; rw [show H' D2 = none from n] at hDy2; cases hDy2
          exact ⟨nb, by rw [upd_ne nb]; exact e⟩
        · intro t' ht'
          rcases List.mem_append.mp ht' with h | h
          · exact hd2 t' h
          · rw [List.mem_singleton.mp h]; exact hdt
      · rintro ys2 σ' H2 ⟨_, sH2, hDy2, ts2, hm2, hd2, hn2⟩
        exact k5 wy fs D2 ys2 ts2 H2 (s1.trans sH2) hDy2 hm2.all hd2 (by omega)
end
end K31

set_option Elab.async false
set_option linter.all false
set_option maxRecDepth 100000
set_option maxHeartbeats 4000000
/-! k31: trees made of models, and held against them. Own work. -/
namespace K31
open PySem L2 TR
theorem e_nw : decide (V.str (Str.ofString "n") = V.str (Str.ofString "w")) = false := by decide +kernel
theorem e_rw : decide (V.str (Str.ofString "r") = V.str (Str.ofString "w")) = false := by decide +kernel
theorem e_rn : decide (V.str (Str.ofString "r") = V.str (Str.ofString "n")) = false := by decide +kernel
theorem ne_self (x : V) : (!decide (x = x)) = false := by simp
def spNo : Sp := fun _ _ _ _ => False
def spTree (c : C4) (d : Nat) : Sp := fun vs H Q _ => ∃ (v : V) (t : Tr), vs = [v] ∧ MdIn All H t v ∧ deep t ≤ d ∧ ∀ (H' : Hp) (x : V), Same H H' → TrIn c (Free H) H' t x → Q x H'
def spAlike (c : C4) (d : Nat) : Sp := fun vs H Q _ => ∃ (v m : V) (t : Tr), vs = [v, m] ∧ TrIn c All H t v ∧ MdIn All H t m ∧ deep t ≤ d ∧ ∀ H', Same H H' → Q (.bl true) H'
/-- whether a tree is the word * -/
def starB : Tr → Bool
  | .word n _ _ => decide (V.str n = V.str "*")
  | _ => false
def spStar : Sp := fun vs H Q _ => ∃ (m : V) (t : Tr), vs = [m] ∧ MdIn All H t m ∧ Q (.bl (starB t)) H
theorem eqVs_self : ∀ {xs : List V}, xs.all flatV = true → eqVs xs xs = true
  | [], _ => rfl
  | x :: r, h => by
    rw [List.all_cons, Bool.and_eq_true] at h
    have ih := eqVs_self h.2
    show (eqV x x && eqVs r r) = true
    rw [ih, Bool.and_true]
    cases x with
    | int i => show (i == i) = true; simp
    | str i => show (i == i) = true; simp
    | bl i => cases i <;> rfl
    | non => rfl
    | _ => first | rfl | (exact absurd h.1 (by decide)) | (have := h.1; simp [flatV] at this)
section
variable {P : Program} {w : World} {K : PySem.W.Frag} {mg : Str → Option Value} {base : Heap} {c : C4}
theorem fn_no {k : Nat} {f : Addr} {fd : FuncData} {ps : List Str} : FnOk P w K mg base CX0 k f fd ps spNo := ⟨fun _ _ _ _ h => h.elim, fun _ _ _ _ _ _ _ _ _ _ _ _ _ h => h.elim⟩
theorem scTree : FnScope ["_law_model"] ["_law_model"] (defScope sTree) := ⟨rfl, rfl, rfl, by decide +kernel, rfl, by decide +kernel, by decide +kernel⟩
theorem lcTree1 : LcS (defScope sTree).names [(".0", .local), ("_law_part_here", .local), ("_law_tree", .globalImplicit)] ["_law_model"] [false] := ⟨by decide +kernel, by decide +kernel, by decide +kernel, by decide +kernel, by decide +kernel, rfl⟩
theorem ndTree1 : (["_law_model", "_law_part_here"] : List Str).Nodup := by decide +kernel
theorem lcAlike1 : LcS (defScope sAlike).names [(".0", .local), ("_law_part_here", .local), ("_law_other", .local), ("_law_alike", .globalImplicit)] ["_law_found", "_law_model"] [false, false] := ⟨by decide +kernel, by decide +kernel, by decide +kernel, by decide +kernel, by decide +kernel, rfl⟩
theorem ndAlike1 : (["_law_found", "_law_model", "_law_part_here", "_law_other"] : List Str).Nodup := by decide +kernel
theorem tree_step {d : Nat} {f fWI fFI fRI : Addr} {fd fdW fdF fdR : FuncData} {sp : Sp} (FT : Fun K "_law_tree" "_law_tree" sTree f fd) (T : Tcs K mg c) (M : Mks K c fWI fFI fRI)
    (GW : FnOk P w K mg base CX0 2 fWI fdW ["self", "name", "at", "bits"] (spWI c)) (bW : Binds K fdW ["self", "name", "at", "bits"] []) (GF : FnOk P w K mg base CX0 2 fFI fdF ["self", "number", "at"] (spFI c)) (bF : Binds K fdF ["self", "number", "at"] [])
    (GR : FnOk P w K mg base CX0 2 fRI fdR ["self", "parts", "at"] (spRI c)) (bR : Binds K fdR ["self", "parts", "at"] []) (GT : FnOk P w K mg base CX0 (d + 3) f fd ["_law_model"] sp) (bT : Binds K fd ["_law_model"] []) (mT : mg "_law_tree" = some (.ref f))
    (hsp : ∀ e, d = e + 1 → sp = spTree c e) : FnOk P w K mg base CX0 (d + 4) f fd ["_law_model"] (spTree c d) := by
  refine FT.ok scTree (fun vs H Q E h => ?_) (fun cdv A outer s H vs Q E hr h => ?_)
  · obtain ⟨v, t, rfl, _⟩ := h; rfl
  · obtain ⟨v, t, rfl, ht, hd, q⟩ := h
    have hr3 : Room 3 _ := hr.mono (by omega)
    refine ⟨_, pss_cons (ps_if (pt_cmpR op_eq (pe_ix ix_tup (pv 0) pe_int (fun _ _ => rfl)) pe_str (nomark _))
      (pss_one (ps_ret (pe_make M.w GW hr3 (by rfl) T.mgW bW .nil pass0 (pa_cons (pe_ix ix_tup (pv 0) pe_int (fun _ _ => rfl)) (pa_cons (pe_ix ix_tup (pv 0) pe_int (fun _ _ => rfl)) (pa_cons (pe_ix ix_tup (pv 0) pe_int (fun _ _ => rfl)) pa_nil))))))
      pss_nil)
      (pss_cons (ps_if (pt_cmpR op_eq (pe_ix ix_tup (pv 0) pe_int (fun _ _ => rfl)) pe_str (nomark _))
      (pss_one (ps_ret (pe_make M.f GF hr3 (by rfl) T.mgF bF .nil pass0 (pa_cons (pe_ix ix_tup (pv 0) pe_int (fun _ _ => rfl)) (pa_cons (pe_ix ix_tup (pv 0) pe_int (fun _ _ => rfl)) pa_nil)))))
      pss_nil)
      (pss_one (ps_ret (pe_make M.r GR hr3 (by rfl) T.mgR bR .nil pass0 (pa_cons (pe_lc (ext := ["_law_part_here"]) lcTree1 rfl (pi_list (pe_ix ix_tup (pv 0) pe_int (fun _ _ => rfl)))
          ⟨fun _ _ _ _ _ => (pg_name (i := 1) ndTree1 rfl (Or.inl rfl) (.inr rfl)), fun _ _ _ _ _ => pts_nil, fun _ _ _ _ _ => (pe_call GT hr (by rfl) mT FT.kp bT .nil pass0 (pa_cons (pv 1) pa_nil))⟩) (pa_cons (pe_ix ix_tup (pv 0) pe_int (fun _ _ => rfl)) pa_nil)))))), ?_⟩
    cases t with
    | word n a b =>
      simp only [MdIn] at ht
      obtain ⟨p, rfl, _, h⟩ := ht
      refine ⟨_, rfl, p, _, _, _, rfl, rfl, SqT.of h, rfl, rfl, _, rfl, iteY (decide_eq_true rfl) ?_⟩
      refine ⟨_, rfl, p, _, _, _, rfl, rfl, SqT.of h, rfl, _, rfl, p, _, _, _, rfl, rfl, SqT.of h, rfl, _, rfl, p, _, _, _, rfl, rfl, SqT.of h, rfl, ?_⟩
      intro x dx' nx ndx nex
      refine ⟨x, dx', n, a, b, rfl, upd_same, rfl, ?_⟩
      rw [upd_upd]
      refine q _ _ (made_same nx ndx) ?_
      simp only [TrIn]
      exact ⟨x, dx', rfl, nx, upd_same⟩
    | fig z a =>
      simp only [MdIn] at ht
      obtain ⟨p, rfl, _, h⟩ := ht
      refine ⟨_, rfl, p, _, _, _, rfl, rfl, SqT.of h, rfl, rfl, _, rfl, iteN e_nw ?_⟩
      refine ⟨_, rfl, p, _, _, _, rfl, rfl, SqT.of h, rfl, rfl, _, rfl, iteY (decide_eq_true rfl) ?_⟩
      refine ⟨_, rfl, p, _, _, _, rfl, rfl, SqT.of h, rfl, _, rfl, p, _, _, _, rfl, rfl, SqT.of h, rfl, ?_⟩
      intro x dx' nx ndx nex
      refine ⟨x, dx', z, a, rfl, upd_same, rfl, ?_⟩
      rw [upd_upd]
      refine q _ _ (made_same nx ndx) ?_
      simp only [TrIn]
      exact ⟨x, dx', rfl, nx, upd_same⟩
    | row ps a =>
      simp only [MdIn] at ht
      obtain ⟨p, l, us, rfl, _, h, _, hl, hlen, hts⟩ := ht
      have hul : us.length = ps.length := hts.length
      simp only [deep] at hd
      refine ⟨_, rfl, p, _, _, _, rfl, rfl, SqT.of h, rfl, rfl, _, rfl, iteN e_rw ?_⟩
      refine ⟨_, rfl, p, _, _, _, rfl, rfl, SqT.of h, rfl, rfl, _, rfl, iteN e_rn ?_⟩
      refine ⟨_, rfl, p, _, _, _, rfl, rfl, SqT.of h, rfl, l, rfl, ⟨_, SqL.of hl⟩, fun D hDn => ?_⟩
      refine lc_grow (xs := us) (fun j ys H1 => TrsIn c (fun b => Free H b ∧ b ≠ D) H1 (ps.take j) ys) hDn (SqL.of hl) (by rw [sizeLine_eq]; omega) (by simp only [List.take_zero, TrsIn]) (fun j x v ys H1 R hx hy hS hDD hP hR => ?_) (fun ys H1 hy hS hDD hP => ?_)
      · obtain ⟨t, ht, htr⟩ := hts.get hx
        have hdt : deep t ≤ deeps ps := deeps_get ht
        obtain ⟨e, he⟩ : ∃ e, d = e + 1 := ⟨d - 1, by omega⟩
        have hs := hsp e he
        subst hs
        refine ⟨_, rfl, _, t, rfl, htr.same hS, by omega, fun H2 y hS2 hy2 => ?_⟩
        refine hR y H2 hS2 ?_
        rw [take_snoc ht]
        refine TrsIn.snoc (hy2.mono fun b o n e => ?_) (hP.mono fun b o n e => ⟨n, by rw [upd_ne n.2]; exact hS2 _ _ e⟩)
        have nb : b ≠ D := fun z => by rw [z] at n; rw [show H1 D = none from n] at hDD; cases hDD
        exact ⟨⟨hS.free n, nb⟩, by rw [upd_ne nb]; exact e⟩
      · refine ⟨_, rfl, p, _, _, _, rfl, rfl, SqT.of (hS _ _ h), rfl, ?_⟩
        rw [hul, List.take_length] at hP
        intro x dx' nx ndx nex
        exact row_made (N := Free H) (fun b hb => hS.free hb) hDD (hP.mono fun b o n e => ⟨n.1, e⟩) hlen (fun H' z hS' hz => q H' z (hS.trans hS') hz) x dx' nx ndx
theorem ok_tree {f fWI fFI fRI : Addr} {fd fdW fdF fdR : FuncData} (F : Fun K "_law_tree" "_law_tree" sTree f fd) (T : Tcs K mg c) (M : Mks K c fWI fFI fRI)
    (GW : FnOk P w K mg base CX0 2 fWI fdW ["self", "name", "at", "bits"] (spWI c)) (bW : Binds K fdW ["self", "name", "at", "bits"] []) (GF : FnOk P w K mg base CX0 2 fFI fdF ["self", "number", "at"] (spFI c)) (bF : Binds K fdF ["self", "number", "at"] [])
    (GR : FnOk P w K mg base CX0 2 fRI fdR ["self", "parts", "at"] (spRI c)) (bR : Binds K fdR ["self", "parts", "at"] []) (bT : Binds K fd ["_law_model"] []) (mT : mg "_law_tree" = some (.ref f)) :
    ∀ d, FnOk P w K mg base CX0 (d + 4) f fd ["_law_model"] (spTree c d)
  | 0 => tree_step (sp := spNo) F T M GW bW GF bF GR bR fn_no bT mT fun e h => by omega
  | d + 1 => tree_step (sp := spTree c d) F T M GW bW GF bF GR bR (ok_tree F T M GW bW GF bF GR bR bT mT d) bT mT fun e h => by
    obtain rfl : e = d := by omega
    rfl
/-! ### _law_alike -/
theorem scAlike : FnScope ["_law_found", "_law_model"] ["_law_found", "_law_model"] (defScope sAlike) := ⟨rfl, rfl, rfl, by decide +kernel, rfl, by decide +kernel, by decide +kernel⟩
theorem alike_step {d : Nat} {f : Addr} {fd : FuncData} {sp : Sp} (FA : Fun K "_law_alike" "_law_alike" sAlike f fd) (T : Tcs K mg c) (X : Txt mg) (GA : FnOk P w K mg base CX0 d f fd ["_law_found", "_law_model"] sp) (bA : Binds K fd ["_law_found", "_law_model"] []) (mA : mg "_law_alike" = some (.ref f))
    (hsp : ∀ e, d = e + 1 → sp = spAlike c e) : FnOk P w K mg base CX0 (d + 1) f fd ["_law_found", "_law_model"] (spAlike c d) := by
  refine FA.ok scAlike (fun vs H Q E h => ?_) (fun cdv A outer s H vs Q E hr h => ?_)
  · obtain ⟨v, m, t, rfl, _⟩ := h; rfl
  · obtain ⟨v, m, t, rfl, ht, hm, hd, q⟩ := h
    have hu := hu_of hr
    have z3 : 3 ≤ sizeLine := by rw [sizeLine_eq]; decide
    have z2 : 2 ≤ sizeLine := by rw [sizeLine_eq]; decide
    refine ⟨_, pss_cons (ps_if (pt_cmpR op_eq (pe_ix ix_tup (pv 1) pe_int (fun _ _ => rfl)) pe_str (nomark _))
      (pss_one (ps_ret (pe_and (pe_callB call_isI (by rfl) X.isi bt_isinstance (pa_cons (pv 0) (pa_cons (pe_glob (v := .ref c.W) (by rfl) T.mgW rfl) pa_nil))) (pe_one (pe_cmpR (op_eqT hu) (pe_tup (pa_cons (pe_fld (pv 0) rfl : PE _ _ (tFld K (tVar 0) ("name" : Str))) (pa_cons (pe_fld (pv 0) rfl : PE _ _ (tFld K (tVar 0) ("at" : Str))) (pa_cons (pe_fld (pv 0) rfl : PE _ _ (tFld K (tVar 0) ("bits" : Str))) pa_nil)))) (pe_slice sl_tup (pv 1) (po_some pe_int) po_none) (nomark _))))))
      pss_nil)
      (pss_cons (ps_if (pt_cmpR op_eq (pe_ix ix_tup (pv 1) pe_int (fun _ _ => rfl)) pe_str (nomark _))
      (pss_one (ps_ret (pe_and (pe_callB call_isI (by rfl) X.isi bt_isinstance (pa_cons (pv 0) (pa_cons (pe_glob (v := .ref c.F) (by rfl) T.mgF rfl) pa_nil))) (pe_one (pe_cmpR (op_eqT hu) (pe_tup (pa_cons (pe_fld (pv 0) rfl : PE _ _ (tFld K (tVar 0) ("number" : Str))) (pa_cons (pe_fld (pv 0) rfl : PE _ _ (tFld K (tVar 0) ("at" : Str))) pa_nil))) (pe_slice sl_tup (pv 1) (po_some pe_int) po_none) (nomark _))))))
      pss_nil)
      (pss_cons (ps_if (PW.pt (pw_or (pt_not (pt_val (pe_callB call_isI (by rfl) X.isi bt_isinstance (pa_cons (pv 0) (pa_cons (pe_glob (v := .ref c.R) (by rfl) T.mgR rfl) pa_nil))))) (pw_or (pt_cmpR op_ne (pe_fld (pv 0) rfl : PE _ _ (tFld K (tVar 0) ("at" : Str))) (pe_ix ix_tup (pv 1) pe_int (fun _ _ => rfl)) (nomark _)) (pw_or1 (pt_cmpR op_ne (pe_callB call_len_seq (by rfl) X.len bt_len (pa_cons (pe_fld (pv 0) rfl : PE _ _ (tFld K (tVar 0) ("parts" : Str))) pa_nil)) (pe_callB call_len_seq (by rfl) X.len bt_len (pa_cons (pe_ix ix_tup (pv 1) pe_int (fun _ _ => rfl)) pa_nil)) (nomark _))))))
      (pss_one (ps_ret pe_bl))
      pss_nil)
      (pss_one (ps_ret (pe_callB (call_allB rfl) (by rfl) X.all bt_all (pa_cons (pe_lc (g := gTup K 2 (gCons (gName 2) (gCons (gName 3) gNil))) (ext := ["_law_part_here", "_law_other"]) lcAlike1 rfl (pi_zip (by rfl) X.zip (pa_cons (pe_fld (pv 0) rfl : PE _ _ (tFld K (tVar 0) ("parts" : Str))) (pa_cons (pe_ix ix_tup (pv 1) pe_int (fun _ _ => rfl)) pa_nil)))
          ⟨fun _ _ _ _ _ => (pg_tup rfl (pgs_cons (pg_name (i := 2) ndAlike1 rfl (Or.inl rfl) (.inr rfl)) (pgs_cons (pg_name (i := 3) ndAlike1 rfl (Or.inl rfl) (.inr rfl)) pgs_nil))), fun _ _ _ _ _ => pts_nil, fun _ _ _ _ _ => (pe_call GA hr (by rfl) mA FA.kp bA .nil pass0 (pa_cons (pv 2) (pa_cons (pv 3) pa_nil)))⟩) pa_nil)))))), ?_⟩
    cases t with
    | word n a b =>
      have tw := tyW T ht
      simp only [MdIn] at hm
      simp only [TrIn] at ht
      obtain ⟨p, rfl, _, hp⟩ := hm
      obtain ⟨x, dx, rfl, _, h⟩ := ht
      refine ⟨_, rfl, p, _, _, _, rfl, rfl, SqT.of hp, rfl, rfl, _, rfl, iteY (decide_eq_true rfl) ?_⟩
      refine ⟨_, rfl, _, .ref c.W, _, _, true, rfl, rfl, tw, T.iWW, _, rfl, iteT ?_⟩
      refine ⟨_, rfl, x, c.W, dx, _, _, rfl, h, T.tw.cl, T.nWn, fW_name, _, rfl, x, c.W, dx, _, _, rfl, h, T.tw.cl, T.tw.nA, fW_at, _, rfl, x, c.W, dx, _, _, rfl, h, T.tw.cl, T.nWb, fW_bits, z3, fun p1 hp1 => ?_⟩
      have s1 := same_upd (o := .tup [.str n, .int a, .int b]) hp1
      refine ⟨_, rfl, _, rfl, p, _, rfl, SqT.of (s1 _ _ hp), (by simp [HT.sIx]), fun p2 hp2 => ?_⟩
      have s2 := same_upd (o := .tup (cutV [.str "w", .str n, .int a, .int b] (some 1) none)) hp2
      refine ⟨p1, p2, [.str n, .int a, .int b], [.str n, .int a, .int b], rfl, rfl, SqT.of (s2 _ _ upd_same), SqT.of upd_same, rfl, rfl, ?_⟩
      show Q (.bl (eqVs [.str n, .int a, .int b] [.str n, .int a, .int b])) _
      rw [eqVs_self rfl]
      exact q _ (s1.trans s2)
    | fig z a =>
      have tw := tyF T ht
      simp only [MdIn] at hm
      simp only [TrIn] at ht
      obtain ⟨p, rfl, _, hp⟩ := hm
      obtain ⟨x, dx, rfl, _, h⟩ := ht
      refine ⟨_, rfl, p, _, _, _, rfl, rfl, SqT.of hp, rfl, rfl, _, rfl, iteN e_nw ?_⟩
      refine ⟨_, rfl, p, _, _, _, rfl, rfl, SqT.of hp, rfl, rfl, _, rfl, iteY (decide_eq_true rfl) ?_⟩
      refine ⟨_, rfl, _, .ref c.F, _, _, true, rfl, rfl, tw, T.iFF, _, rfl, iteT ?_⟩
      refine ⟨_, rfl, x, c.F, dx, _, _, rfl, h, T.tf.cl, T.nFn, fF_num, _, rfl, x, c.F, dx, _, _, rfl, h, T.tf.cl, T.tf.nA, fF_at, z2, fun p1 hp1 => ?_⟩
      have s1 := same_upd (o := .tup [.int z, .int a]) hp1
      refine ⟨_, rfl, _, rfl, p, _, rfl, SqT.of (s1 _ _ hp), (by simp [HT.sIx]), fun p2 hp2 => ?_⟩
      have s2 := same_upd (o := .tup (cutV [.str "n", .int z, .int a] (some 1) none)) hp2
      refine ⟨p1, p2, [.int z, .int a], [.int z, .int a], rfl, rfl, SqT.of (s2 _ _ upd_same), SqT.of upd_same, rfl, rfl, ?_⟩
      show Q (.bl (eqVs [.int z, .int a] [.int z, .int a])) _
      rw [eqVs_self rfl]
      exact q _ (s1.trans s2)
    | row ps a =>
      have tw := tyR T ht
      simp only [MdIn] at hm
      simp only [TrIn] at ht
      obtain ⟨p, l, us, rfl, _, hp, _, hl, hlen, hms⟩ := hm
      obtain ⟨x, dx, lx, ws, rfl, _, h, _, hlx, _, hts⟩ := ht
      have hul : us.length = ps.length := hms.length
      have hwl : ws.length = ps.length := hts.length
      simp only [deep] at hd
      refine ⟨_, rfl, p, _, _, _, rfl, rfl, SqT.of hp, rfl, rfl, _, rfl, iteN e_rw ?_⟩
      refine ⟨_, rfl, p, _, _, _, rfl, rfl, SqT.of hp, rfl, rfl, _, rfl, iteN e_rn ?_⟩
      refine ⟨_, rfl, _, .ref c.R, _, _, true, rfl, rfl, tw, T.iRR, _, rfl, iteF ?_⟩
      refine ⟨_, rfl, x, c.R, dx, _, _, rfl, h, T.tr.cl, T.tr.nA, fR_at, _, rfl, p, _, _, _, rfl, rfl, SqT.of hp, rfl, rfl, _, rfl, iteN (ne_self _) ?_⟩
      refine ⟨_, rfl, x, c.R, dx, _, _, rfl, h, T.tr.cl, T.nRp, fR_parts, lx, _, rfl, .inl (SqL.of hlx), _, rfl, p, _, _, _, rfl, rfl, SqT.of hp, rfl, l, _, rfl, .inl (SqL.of hl), rfl, _, rfl, iteN (by rw [hul, hwl]; exact ne_self _) ?_⟩
      refine ⟨_, rfl, x, c.R, dx, _, _, rfl, h, T.tr.cl, T.nRp, fR_parts, _, rfl, p, _, _, _, rfl, rfl, SqT.of hp, rfl, lx, l, rfl, ⟨_, SqL.of hlx⟩, ⟨_, SqL.of hl⟩, fun D hD => ?_⟩
      refine lc_zip (K := K) (a := lx) (b := l) (xs := ws) (zs := us) (by omega) (fun k ys σ' H' => (∃ v2 v3, σ' = [none, none, v2, v3]) ∧ Same H H' ∧ H' D = some (.lst ys) ∧ ys = List.replicate k (V.bl true))
        ⟨⟨_, _, rfl⟩, same_upd hD, upd_same, rfl⟩ (fun k ys σ' H' _ hP => ⟨SqL.of (hP.2.1 _ _ hlx), SqL.of (hP.2.1 _ _ hl)⟩) ?_ ?_
      · rintro k y z p2 ys σ' H' hy hz ⟨⟨v2, v3, rfl⟩, sH, hDy, rfl⟩ hp2
        have hk : k < ws.length := (List.getElem?_eq_some_iff.mp hy).1
        obtain ⟨t, ht, htr⟩ := hts.get hy
        obtain ⟨t2, ht2, hmt⟩ := hms.get hz
        rw [ht] at ht2
        cases ht2
        have sp := same_upd (o := .tup [y, z]) hp2
        have hdt : deep t ≤ deeps ps := deeps_get ht
        obtain ⟨e, he⟩ : ∃ e, d = e + 1 := ⟨d - 1, by omega⟩
        have hs := hsp e he
        subst hs
        refine ⟨p2, _, rfl, SqT.of upd_same, rfl, _, _, rfl, _, _, rfl, rfl, ?_⟩
        refine yes_if ?_
        refine ⟨_, rfl, _, rfl, y, z, t, rfl, htr.same (sH.trans sp), hmt.same (sH.trans sp), by omega, fun H2 s2 => ?_⟩
        have s3 := sp.trans s2
        refine ⟨s3 _ _ hDy, by rw [List.length_replicate, sizeLine_eq]; omega, Beh.of hk ⟨⟨_, _, rfl⟩, fun b o e => ?_, upd_same, by rw [List.replicate_succ']⟩⟩
        rw [upd_ne (ne_of_none e hD)]
        exact s3 _ _ (sH _ _ e)
      · rintro ys σ' H1 ⟨_, sH, hDy, rfl⟩
        refine ⟨D, List.replicate ws.length true, rfl, SqL.of (by rw [hDy, List.map_replicate]), ?_⟩
        rw [show (List.replicate ws.length true).all id = true from List.all_eq_true.mpr fun b hb => (List.mem_replicate.mp hb).2]
        exact q _ sH
theorem ok_alike {f : Addr} {fd : FuncData} (F : Fun K "_law_alike" "_law_alike" sAlike f fd) (T : Tcs K mg c) (X : Txt mg) (bA : Binds K fd ["_law_found", "_law_model"] []) (mA : mg "_law_alike" = some (.ref f)) : ∀ d, FnOk P w K mg base CX0 (d + 1) f fd ["_law_found", "_law_model"] (spAlike c d)
  | 0 => alike_step (sp := spNo) F T X fn_no bA mA fun e h => by omega
  | d + 1 => alike_step (sp := spAlike c d) F T X (ok_alike F T X bA mA d) bA mA fun e h => by
    obtain rfl : e = d := by omega
    rfl
/-! ### _law_is_star -/
theorem scStar : FnScope ["_law_model"] ["_law_model"] (defScope sStar) := ⟨rfl, rfl, rfl, by decide +kernel, rfl, by decide +kernel, by decide +kernel⟩
theorem ok_star {f : Addr} {fd : FuncData} (F : Fun K "_law_is_star" "_law_is_star" sStar f fd) : FnOk P w K mg base CX0 1 f fd ["_law_model"] spStar := by
  refine F.ok scStar (fun vs H Q E h => ?_) (fun cdv A outer s H vs Q E hr h => ?_)
  · obtain ⟨m, t, rfl, _⟩ := h; rfl
  · obtain ⟨m, t, rfl, hm, q⟩ := h
    refine ⟨_, pss_one (ps_ret (pe_and (pe_cmpR op_eq (pe_ix ix_tup (pv 0) pe_int (fun _ _ => rfl)) pe_str (nomark _)) (pe_one (pe_cmpR op_eq (pe_ix ix_tup (pv 0) pe_int (fun _ _ => rfl)) pe_str (nomark _))))), ?_⟩
    cases t with
    | word n a b =>
      simp only [MdIn] at hm
      obtain ⟨p, rfl, _, hp⟩ := hm
      refine ⟨_, rfl, p, _, _, _, rfl, rfl, SqT.of hp, rfl, rfl, _, rfl, iteY (decide_eq_true rfl) ?_⟩
      exact ⟨_, rfl, p, _, _, _, rfl, rfl, SqT.of hp, rfl, rfl, q⟩
    | fig z a =>
      simp only [MdIn] at hm
      obtain ⟨p, rfl, _, hp⟩ := hm
      exact ⟨_, rfl, p, _, _, _, rfl, rfl, SqT.of hp, rfl, rfl, _, rfl, iteN e_nw q⟩
    | row ps a =>
      simp only [MdIn] at hm
      obtain ⟨p, l, us, rfl, _, hp, _⟩ := hm
      exact ⟨_, rfl, p, _, _, _, rfl, rfl, SqT.of hp, rfl, rfl, _, rfl, iteN e_rw q⟩
end
end K31

set_option Elab.async false
set_option linter.all false
set_option maxRecDepth 100000
set_option maxHeartbeats 4000000
/-! k31: the program: HouseError.__init__, is_sign, pieces. Own work. -/
namespace K31
open PySem L2 TR XC
/-- what a class of refusals must tell -/
structure EC (K : PySem.W.Frag) (C : Addr) : Prop where
  c : ECls K C
  tA : PySem.W.takerIn K C "at" = some none
  tO : PySem.W.takerIn K C "other" = some none
def spHI (K : PySem.W.Frag) : Sp := fun vs H Q _ => ∃ (x C : Addr) (ws a o : V), vs = [.ref x, ws, a, o] ∧ H x = some (exN x C none) ∧ EC K C ∧
  ∀ (dx : Addr) (H' : Hp), H dx = none → dx ≠ x → (∀ b u, b ≠ x → H b = some u → H' b = some u) → H' x = some (exN x C (some dx)) → H' dx = some (dxO dx [("at", a), ("other", o)]) → Q .non H'
def spSign (c : C4) : Sp := fun vs H Q _ => ∃ (v : V) (t : Tr), vs = [v, .str "*"] ∧ TrIn c All H t v ∧ Q (.bl (starB t)) H
/-! ### the pieces of a row -/
def setL (acc : List (Tr × Bool)) : List (Tr × Bool) := match acc.getLast? with
  | some q => acc.dropLast ++ [(q.1, true)]
  | none => []
def pcsA : List Tr → Bool → List (Tr × Bool) → Option (List (Tr × Bool))
  | [], _, acc => some acc
  | t :: r, st, acc => if starB t = true then (if (st || acc.isEmpty) = true then none else pcsA r true (setL acc)) else pcsA r st (acc ++ [(t, false)])
def pcs (ts : List Tr) : Option (List (Tr × Bool)) := pcsA ts false []
def PcIn (c : C4) (N : Addr → Prop) (H : Hp) (q : Tr × Bool) (u : V) : Prop := ∃ p v, u = .ref p ∧ N p ∧ H p = some (.tup [v, .bl q.2]) ∧ TrIn c N H q.1 v
def PcsIn (c : C4) (N : Addr → Prop) (H : Hp) : List (Tr × Bool) → List V → Prop
  | [], us => us = []
  | q :: r, us => ∃ u ws, us = u :: ws ∧ PcIn c N H q u ∧ PcsIn c N H r ws
section
variable {c : C4} {N N' : Addr → Prop} {H H' : Hp}
theorem PcIn.mono (h : ∀ b o, N b → H b = some o → N' b ∧ H' b = some o) {q : Tr × Bool} {u : V} (x : PcIn c N H q u) : PcIn c N' H' q u := by
  obtain ⟨p, v, e, n, hp, ht⟩ := x
  exact ⟨p, v, e, (h _ _ n hp).1, (h _ _ n hp).2, ht.mono h⟩
theorem PcsIn.mono (h : ∀ b o, N b → H b = some o → N' b ∧ H' b = some o) : ∀ {qs : List (Tr × Bool)} {us : List V}, PcsIn c N H qs us → PcsIn c N' H' qs us
  | [], us, x => by simp only [PcsIn] at x ⊢; exact x
  | q :: r, us, x => by
    simp only [PcsIn] at x ⊢
    obtain ⟨u, ws, e, a, b⟩ := x
    exact ⟨u, ws, e, a.mono h, PcsIn.mono h b⟩
theorem PcsIn.length : ∀ {qs : List (Tr × Bool)} {us : List V}, PcsIn c N H qs us → us.length = qs.length
  | [], us, x => by simp only [PcsIn] at x; rw [x]; rfl
  | q :: r, us, x => by
    simp only [PcsIn] at x
    obtain ⟨u, ws, e, a, b⟩ := x
    rw [e, List.length_cons, List.length_cons, PcsIn.length b]
theorem PcsIn.snoc {q : Tr × Bool} {u : V} (y : PcIn c N H q u) : ∀ {qs : List (Tr × Bool)} {us : List V}, PcsIn c N H qs us → PcsIn c N H (qs ++ [q]) (us ++ [u])
  | [], us, x => by simp only [PcsIn] at x; rw [x]; simp only [List.nil_append, PcsIn]; exact ⟨u, [], rfl, y, rfl⟩
  | q' :: r, us, x => by
    simp only [PcsIn] at x
    obtain ⟨v, ws, e, a, b⟩ := x
    rw [e]
    simp only [List.cons_append, PcsIn]
    exact ⟨v, ws ++ [u], rfl, a, PcsIn.snoc y b⟩
theorem PcsIn.last {q : Tr × Bool} : ∀ {qs : List (Tr × Bool)} {us : List V}, PcsIn c N H (qs ++ [q]) us → ∃ ws u, us = ws ++ [u] ∧ PcsIn c N H qs ws ∧ PcIn c N H q u
  | [], us, x => by
    simp only [List.nil_append, PcsIn] at x
    obtain ⟨u, ws, e, a, b⟩ := x
    rw [b] at e
    exact ⟨[], u, e, by simp only [PcsIn], a⟩
  | q' :: r, us, x => by
    simp only [List.cons_append, PcsIn] at x
    obtain ⟨u, ws, e, a, b⟩ := x
    obtain ⟨zs, z, e2, x2, y2⟩ := PcsIn.last b
    refine ⟨u :: zs, z, by rw [e, e2]; rfl, ?_, y2⟩
    simp only [PcsIn]
    exact ⟨u, zs, rfl, a, x2⟩
theorem PcsIn.get : ∀ {qs : List (Tr × Bool)} {us : List V} {i : Nat} {u : V}, PcsIn c N H qs us → us[i]? = some u → ∃ q, qs[i]? = some q ∧ PcIn c N H q u
  | [], us, i, u, x, e => by simp only [PcsIn] at x; rw [x] at e; simp at e
  | q :: r, us, i, u, x, e => by
    simp only [PcsIn] at x
    obtain ⟨v, ws, ev, a, b⟩ := x
    subst ev
    cases i with
    | zero => simp at e; subst e; exact ⟨q, rfl, a⟩
    | succ i =>
      obtain ⟨q', eq, y⟩ := PcsIn.get b (i := i) (u := u) (by simpa using e)
      exact ⟨q', by simpa using eq, y⟩
end
theorem setL_snoc (acc : List (Tr × Bool)) (q : Tr × Bool) : setL (acc ++ [q]) = acc ++ [(q.1, true)] := by
  unfold setL
  rw [List.getLast?_concat, List.dropLast_concat]
theorem last_of {acc : List (Tr × Bool)} (h : acc.isEmpty = false) : ∃ a q, acc = a ++ [q] := by
  have hn : acc ≠ [] := fun e => by rw [e] at h; cases h
  exact ⟨acc.dropLast, acc.getLast hn, (List.dropLast_concat_getLast hn).symm⟩
def spPieces (c : C4) (cB : Addr) : Sp := fun vs H Q E => ∃ (v : V) (ts : List Tr) (a : Int), vs = [v] ∧ TrIn c All H (.row ts a) v ∧ ts.length ≤ 300 ∧
  (∀ ps, pcs ts = some ps → ∀ (H' : Hp) (D : Addr) (us : List V), Same H H' → H D = none → H' D = some (.lst us) → PcsIn c (fun b => b ≠ D) H' ps us → Q (.ref D) H') ∧
  (pcs ts = none → ∀ (x : Addr) (H' : Hp), Same H H' → H x = none → ExAt H' x cB [("at", .int a), ("other", .non)] → E (.ref cB) (some x) H')
section
variable {P : Program} {w : World} {K : PySem.W.Frag} {mg : Str → Option Value} {base : Heap} {c : C4} {cB : Addr}
theorem okX {x qual : Str} {st : Stmt} {f : Addr} {fd : FuncData} {N ps : List Str} {k : Nat} {sp : Sp} (F : Fun K x qual st f fd) (S : FnScope N ps (defScope st)) (len : ∀ vs H Q E, sp vs H Q E → vs.length = ps.length)
    (hbody : ∀ (cdv : Value) (A : Around) (outer : List Env) (s : Shared) (H : Hp) (vs : List V) (Q : VK) (E : XK), Room k (A.deeper (PyProof.Rows.envOfC qual (defScope st) s.heap.objs.size f cdv)) → sp vs H Q E →
      ∃ t, PSs (cxOf (CXE P w) P w K mg base N qual (defScope st) f cdv A outer s H E) (defBody st) t ∧ t { nx := fun _ H' => Q .non H', rt := Q } (start N vs) H) : FnOk P w K mg base (CXE P w) (k + 1) f fd ps sp := by
  obtain ⟨oc, od, kV, doc, pm, an, cdv, ct, osl, rfl, lk, hcd⟩ := F.ex
  exact fn_of lk hcd S len fun A outer s H vs Q E hr hsp => hbody cdv A outer s H vs Q E hr hsp
theorem scHI : FnScope ["self", "words", "at", "other"] ["self", "words", "at", "other"] (defScope sHI) := ⟨rfl, rfl, rfl, by decide +kernel, rfl, by decide +kernel, by decide +kernel⟩
theorem put_other (a o : V) : putF ("other" : Str) o [(("at" : Str), a)] = ([(("at" : Str), a), (("other" : Str), o)] : List (Str × V)) := by rfl
theorem ok_hi {f T0 : Addr} {fd : FuncData} (F : FunD K "__init__" "HouseError.__init__" sHI f fd T0) (X : Txt mg) (hfc : PySem.W.findCls K (.type "ValueError") (.type "type") "__init__" = some (.val (.builtin "ValueError.__init__"))) :
    FnOk P w K mg base CX0 1 f fd ["self", "words", "at", "other"] (spHI K) := by
  refine F.ok scHI (fun vs H Q E h => ?_) (fun cdv A outer s H vs Q E hr h => ?_)
  · obtain ⟨x, C, ws, a, o, rfl, _⟩ := h; rfl
  · obtain ⟨x, C, ws, a, o, rfl, hx, ec, q⟩ := h
    refine ⟨_, pss_cons (ps_expr (pe_vinit (by rfl) X.ve hfc (pa_cons (pv 0) (pa_cons (pv 1) pa_nil)))) (pss_cons (ps_fldX (pv 0) (pv 2) rfl) (pss_one (ps_fldX (pv 0) (pv 3) rfl))), ?_⟩
    refine ⟨_, rfl, _, rfl, x, C, _, rfl, hx, ec.c, ?_⟩
    refine ⟨_, rfl, _, rfl, x, C, rfl, ec.c, ec.tA, .inl ⟨hx, fun dx hdx hne => ?_⟩⟩
    refine ⟨_, rfl, _, rfl, x, C, rfl, ec.c, ec.tO, .inr ⟨dx, [("at", a)], upd_same, (by rw [upd_ne hne, upd_same]), hne, (by show 1 < 1000; decide), ?_⟩⟩
    rw [put_other]
    refine q dx _ hdx hne (fun b u nb e => ?_) ?_ upd_same
    · have nd : b ≠ dx := ne_of_none e hdx
      rw [upd_ne nd, upd_ne nb, upd_ne nd]; exact e
    · rw [upd_ne (Ne.symm hne), upd_same]
theorem scSign : FnScope ["tree", "name"] ["tree", "name"] (defScope sSign) := ⟨rfl, rfl, rfl, by decide +kernel, rfl, by decide +kernel, by decide +kernel⟩
theorem ok_sign {f : Addr} {fd : FuncData} (F : Fun K "is_sign" "is_sign" sSign f fd) (T : Tcs K mg c) (X : Txt mg) : FnOk P w K mg base CX0 1 f fd ["tree", "name"] (spSign c) := by
  refine F.ok scSign (fun vs H Q E h => ?_) (fun cdv A outer s H vs Q E hr h => ?_)
  · obtain ⟨v, t, rfl, _⟩ := h; rfl
  · obtain ⟨v, t, rfl, ht, q⟩ := h
    refine ⟨_, pss_one (ps_ret (pe_and (pe_callB call_isI (by rfl) X.isi bt_isinstance (pa_cons (pv 0) (pa_cons (pe_glob (v := .ref c.W) (by rfl) T.mgW rfl) pa_nil))) (pe_one (pe_cmpR op_eq (pe_fld (pv 0) rfl : PE _ _ (tFld K (tVar 0) ("name" : Str))) (pv 1) (nomark _))))), ?_⟩
    cases t with
    | word n a b =>
      have tw := tyW T ht
      simp only [TrIn] at ht
      obtain ⟨p, dx, rfl, _, h⟩ := ht
      refine ⟨_, rfl, _, .ref c.W, _, _, true, rfl, rfl, tw, T.iWW, _, rfl, iteT ?_⟩
      exact ⟨_, rfl, p, c.W, dx, _, _, rfl, h, T.tw.cl, T.nWn, fW_name, _, rfl, rfl, q⟩
    | fig z a =>
      have tw := tyF T ht
      simp only [TrIn] at ht
      obtain ⟨p, dx, rfl, _, h⟩ := ht
      exact ⟨_, rfl, _, .ref c.W, _, _, false, rfl, rfl, tw, T.iFW, _, rfl, iteF q⟩
    | row ps a =>
      have tw := tyR T ht
      simp only [TrIn] at ht
      obtain ⟨p, dx, l, us, rfl, _⟩ := ht
      exact ⟨_, rfl, _, .ref c.W, _, _, false, rfl, rfl, tw, T.iRW, _, rfl, iteF q⟩
abbrev NPc : List Str := ["row", "found", "starred", "part"]
theorem scPieces : FnScope NPc ["row"] (defScope sPieces) := ⟨rfl, rfl, rfl, by decide +kernel, rfl, by decide +kernel, by decide +kernel⟩
theorem ok_pieces {f fG fH : Addr} {fd fdG fdH : FuncData} (F : Fun K "pieces" "pieces" sPieces f fd) (T : Tcs K mg c) (X : Txt mg) (FG : Fun K "is_sign" "is_sign" sSign fG fdG) (bG : Binds K fdG ["tree", "name"] []) (mG : mg "is_sign" = some (.ref fG))
    (MB : MkE K cB fH) (eB : EC K cB) (mB : mg "BadRule" = some (.ref cB)) (GH0 : FnOk P w K mg base CX0 1 fH fdH ["self", "words", "at", "other"] (spHI K)) (bH : Binds K fdH ["self", "words", "at", "other"] [.none]) :
    FnOk P w K mg base (CXE P w) 3 f fd ["row"] (spPieces c cB) := by
  have GG : FnOk P w K mg base CX0 2 fG fdG ["tree", "name"] (spSign c) := (ok_sign FG T X).mono (by decide)
  have GH := GH0
  refine okX F scPieces (fun vs H Q E h => ?_) (fun cdv A outer s H vs Q E hr h => ?_)
  · obtain ⟨v, ts, a, rfl, _⟩ := h; rfl
  · obtain ⟨v, ts, a, rfl, ht, hlen, q, qe⟩ := h
    have nd := scPieces.nd
    have hr2 : Room 2 _ := hr
    have z2 : 2 ≤ sizeLine := by rw [sizeLine_eq]; decide
    have NW : NewX (cxOf (CXE P w) P w K mg base NPc "pieces" (defScope sPieces) f cdv A outer s H E) cB E := fun pins σ H1 s1 x od I hx hz hE => xe_new I hx hz hE
    refine ⟨_, pss_cons (ps_set (i := 1) nd rfl (Or.inl rfl) (pe_lst pa_nil))
      (pss_cons (ps_set (i := 2) nd rfl (Or.inl rfl) pe_bl)
      (pss_cons (ps_for PassesOwn.leaving rfl (pi_list (pe_fld (pv 0) rfl : PE _ _ (tFld K (tVar 0) ("parts" : Str)))) (pg_name (i := 3) nd rfl (Or.inl rfl))
      (pss_one (ps_if (pt_not (pt_val (pe_call GG hr (by rfl) mG FG.kp bG .nil pass0 (pa_cons (pv 3) (pa_cons pe_str pa_nil)))))
        (pss_one (ps_expr (pe_bm PySem.F.plainAttrs_list PySem.F.slot_list_append PySem.F.type_list_append mt_append (pv 1) (pa_cons (pe_tup (pa_cons (pv 3) (pa_cons pe_bl pa_nil))) pa_nil))))
        (pss_one (ps_if (PW.pt (pw_or (pt_val (pv 2)) (pw_or1 (pt_cmpR op_eq (pe_callB call_len_seq (by rfl) X.len bt_len (pa_cons (pv 1) pa_nil)) pe_int (nomark _)))))
          (pss_one (ps_raise NW rfl MB GH hr2 (by rfl) mB bH (dvs := [.non]) (.cons rfl .nil) (pa_cons pe_str (pa_cons (pe_fld (pv 0) rfl : PE _ _ (tFld K (tVar 0) ("at" : Str))) pa_nil))))
          (pss_cons (ps_set (i := 2) nd rfl (Or.inl rfl) pe_bl)
            (pss_one (ps_asg (pe_tup (pa_cons (pe_ix ix_tup (pe_ix ix_list (pv 1) (pe_un un_neg pe_int) (fun _ _ => rfl)) pe_int (fun _ _ => rfl)) (pa_cons pe_bl pa_nil))) (pg_sub (pv 1) (pe_un un_neg pe_int) set_list)))))))))
      (pss_one (ps_ret (pv 1))))), ?_⟩
    have ht0 := ht
    simp only [TrIn] at ht
    obtain ⟨p, dx, l, us, rfl, _, h, _, hl, _, hts⟩ := ht
    have hul : us.length = ts.length := hts.length
    refine ⟨Nat.zero_le _, fun D hD => ?_⟩
    have s0 := same_upd (o := .lst []) hD
    refine ⟨_, rfl, p, c.R, dx, _, _, rfl, s0 _ _ h, T.tr.cl, T.nRp, fR_parts, l, rfl, ⟨_, SqL.of (s0 _ _ hl)⟩, ?_⟩
    refine for_list (K := K) (a := l) (xs := us) (fun i σ H' => ∃ (st : Bool) (acc : List (Tr × Bool)) (ws : List V) (v3 : Option V), σ = [some (.ref p), some (.ref D), some (.bl st), v3] ∧ Same H H' ∧ H' D = some (.lst ws) ∧ PcsIn c (fun b => b ≠ D) H' acc ws ∧ acc.length ≤ i ∧ pcsA (ts.drop i) st acc = pcs ts)
      ⟨false, [], [], none, rfl, s0, upd_same, by simp only [PcsIn], Nat.le_refl _, rfl⟩ (fun i σ H' _ ⟨_, _, _, _, _, sH, _⟩ => SqL.of (sH _ _ hl)) ?_ ?_
    · rintro i x σ H' hi ⟨st, acc, ws, v3, rfl, sH, hw, hp, hacc, hpc⟩
      obtain ⟨t, hti, htr⟩ := hts.get hi
      have hil : i < ts.length := (List.getElem?_eq_some_iff.mp hti).1
      have edrop : ts.drop i = t :: ts.drop (i + 1) := by
        rw [List.drop_eq_getElem_cons hil]
        congr 1
        exact (List.getElem?_eq_some_iff.mp hti).2
      rw [edrop] at hpc
      have hwl := hp.length
      have htD : TrIn c (fun b => b ≠ D) H' t x := htr.mono fun b o _ e => ⟨ne_of_none e hD, sH _ _ e⟩
      refine ⟨_, rfl, x, t, rfl, htr.same sH, ?_⟩
      by_cases hst : starB t = true
      · unfold pcsA at hpc
        rw [if_pos hst] at hpc
        refine ⟨_, rfl, ?_⟩
        rw [hst]
        refine iteF ?_
        have bad : (st || acc.isEmpty) = true → pcs ts = none := fun e => by rw [if_pos e] at hpc; exact hpc.symm
        have RS : (st || acc.isEmpty) = true → ∀ x, H' x = none → spHI K (.ref x :: ([.str "a star that may not stand there", .int a] ++ [.non])) (upd H' x (exN x cB none)) (fun v H2 => v = .non ∧ rsQ cB E (.ref x) H2) E0 := fun hb x hx => by
          refine ⟨x, cB, _, _, _, rfl, upd_same, eB, fun dx2 H2 hdx hne hk h1 h2 => ⟨rfl, x, some dx2, rfl, h1, ?_⟩⟩
          refine qe (bad hb) x _ (fun b u e => ?_) (sH.free hx) ⟨dx2, .inl upd_same, by rw [upd_ne hne]; exact h2⟩
          have nb : b ≠ x := fun z => by rw [z, sH.free hx] at e; cases e
          rw [upd_ne nb]
          exact hk b u nb (by rw [upd_ne nb]; exact sH _ _ e)
        cases hsb : st with
        | true =>
          refine ⟨_, rfl, _, rfl, iteT (iteT ?_)⟩
          exact ⟨_, rfl, p, c.R, dx, _, _, rfl, sH _ _ h, T.tr.cl, T.tr.nA, fR_at, RS (by rw [hsb]; rfl)⟩
        | false =>
          refine ⟨_, rfl, _, rfl, iteF ⟨_, rfl, D, _, rfl, .inl (SqL.of hw), rfl, decide (acc = []), ?_, ?_⟩⟩
          · show V.bl (decide (V.int (ws.length : Int) = V.int 0)) = _
            rw [hwl]
            congr 1
            rw [decide_eq_decide]
            constructor
            · intro e
              have : (acc.length : Int) = 0 := V.int.inj e
              exact List.length_eq_zero_iff.mp (by omega)
            · intro e; rw [e]; rfl
          by_cases he : acc = []
          · rw [decide_eq_true he]
            refine iteT ?_
            exact ⟨_, rfl, p, c.R, dx, _, _, rfl, sH _ _ h, T.tr.cl, T.tr.nA, fR_at, RS (by rw [he]; cases st <;> rfl)⟩
          · rw [decide_eq_false he]
            refine iteF ?_
            have hem : acc.isEmpty = false := by cases acc with | nil => exact absurd rfl he | cons _ _ => rfl
            obtain ⟨ac, qq, rfl⟩ := last_of hem
            obtain ⟨wr, u, rfl, hp1, pp, pvv, rfl, nq, hpp, htq⟩ := hp.last
            rw [hsb, hem] at hpc
            rw [if_neg (by decide), setL_snoc] at hpc
            have eat : atI (wr ++ [V.ref pp]) (-1) = some (V.ref pp) := by
              unfold atI ixN
              rw [if_neg (by decide), if_pos (by rw [List.length_append, List.length_singleton]; omega)]
              show (wr ++ [V.ref pp])[(-1 + ((wr ++ [V.ref pp]).length : Int)).toNat]? = _
              rw [List.length_append, List.length_singleton, show (-1 + ((wr.length + 1 : Nat) : Int)).toNat = wr.length by omega]
              simp
            refine ⟨_, rfl, _, rfl, D, _, _, _, rfl, rfl, SqL.of hw, eat, pp, _, _, _, rfl, rfl, SqT.of hpp, rfl, z2, fun p3 hp3 => ?_⟩
            have s3 := same_upd (o := .tup [pvv, .bl true]) hp3
            have n3 : p3 ≠ D := fun z => by rw [z, hw] at hp3; cases hp3
            refine ⟨_, rfl, _, rfl, D, _, _, wr.length, rfl, rfl, s3 _ _ hw, ?_, ?_⟩
            · unfold ixN
              rw [if_neg (by decide), if_pos (by rw [List.length_append, List.length_singleton]; omega), List.length_append, List.length_singleton]
              congr 1; omega
            refine ⟨true, ac ++ [(qq.1, true)], wr ++ [.ref p3], _, rfl, fun b o e => ?_, ?_, ?_, ?_, hpc⟩
            · rw [upd_ne (ne_of_none e hD)]; exact s3 _ _ (sH _ _ e)
            · rw [upd_same]
              congr 2
              simp
            · refine PcsIn.snoc (q := (qq.1, true)) (u := .ref p3) ?_ ?_
              · exact ⟨p3, pvv, rfl, n3, by rw [upd_ne n3, upd_same], htq.mono fun b o n e => ⟨n, by rw [upd_ne n]; exact s3 _ _ e⟩⟩
              · exact hp1.mono fun b o n e => ⟨n, by rw [upd_ne n]; exact s3 _ _ e⟩
            · rw [List.length_append, List.length_singleton] at hacc ⊢; omega
      · have hst' : starB t = false := by cases e : starB t with | true => exact absurd e hst | false => rfl
        unfold pcsA at hpc
        rw [if_neg hst] at hpc
        refine ⟨_, rfl, ?_⟩
        rw [hst']
        refine iteT ?_
        refine ⟨_, rfl, .inl ⟨rfl, _, SqL.of hw⟩, _, rfl, z2, fun p3 hp3 => ?_⟩
        have s3 := same_upd (o := .tup [x, .bl false]) hp3
        have n3 : p3 ≠ D := fun z => by rw [z, hw] at hp3; cases hp3
        refine ⟨D, _, _, rfl, rfl, s3 _ _ hw, by rw [hwl, sizeLine_eq]; omega, ?_⟩
        refine ⟨st, acc ++ [(t, false)], ws ++ [.ref p3], _, rfl, fun b o e => ?_, upd_same, ?_, by rw [List.length_append, List.length_singleton]; omega, hpc⟩
        · rw [upd_ne (ne_of_none e hD)]; exact s3 _ _ (sH _ _ e)
        · refine PcsIn.snoc ⟨p3, x, rfl, n3, by rw [upd_ne n3, upd_same], htD.mono fun b o n e => ⟨n, by rw [upd_ne n]; exact s3 _ _ e⟩⟩ (hp.mono fun b o n e => ⟨n, by rw [upd_ne n]; exact s3 _ _ e⟩)
    · rintro σ H' ⟨st, acc, ws, v3, rfl, sH, hw, hp, hacc, hpc⟩
      rw [hul, List.drop_length] at hpc
      exact ⟨_, rfl, q acc hpc.symm H' D ws sH hD hw hp⟩
end
end K31

set_option Elab.async false
set_option linter.all false
set_option maxRecDepth 100000
set_option maxHeartbeats 4000000
/-! k31: refusals held against what is due; pieces too. Own work. -/
namespace K31
open PySem L2 TR XC
structure R9 where
  h : Addr
  bf : Addr
  go : Addr
  na : Addr
  nf : Addr
  nn : Addr
  nr : Addr
  nt : Addr
  tc : Addr
  br : Addr
/-- the classes of refusals -/
structure Rcs (K : PySem.W.Frag) (mg : Str → Option Value) (r : R9) (fH : Addr) : Prop where
  mh : mg "HouseError" = some (.ref r.h)
  mbf : mg "BadForm" = some (.ref r.bf)
  mgo : mg "GoesOn" = some (.ref r.go)
  mna : mg "NoAhead" = some (.ref r.na)
  mnf : mg "NoFill" = some (.ref r.nf)
  mnn : mg "NoName" = some (.ref r.nn)
  mnr : mg "NoRule" = some (.ref r.nr)
  mnt : mg "NoText" = some (.ref r.nt)
  mtc : mg "TwoClaims" = some (.ref r.tc)
  mbr : mg "BadRule" = some (.ref r.br)
  Mh : MkE K r.h fH
  Mb : MkE K r.br fH
  ec : EC K r.br
  ei : EIs K r.br
  sub : PySem.W.mroIn K r.br (.ref r.h) = some true
  na_ : PySem.W.findIn K (.ref r.br) "at" = some none
  kv : PySem.W.kitOne K (.ref r.br) (.type "ValueError") = some true
  kbf : PySem.W.kitOne K (.ref r.br) (.ref r.bf) = some false
  kgo : PySem.W.kitOne K (.ref r.br) (.ref r.go) = some false
  kna : PySem.W.kitOne K (.ref r.br) (.ref r.na) = some false
  knf : PySem.W.kitOne K (.ref r.br) (.ref r.nf) = some false
  knn : PySem.W.kitOne K (.ref r.br) (.ref r.nn) = some false
  knr : PySem.W.kitOne K (.ref r.br) (.ref r.nr) = some false
  knt : PySem.W.kitOne K (.ref r.br) (.ref r.nt) = some false
  ktc : PySem.W.kitOne K (.ref r.br) (.ref r.tc) = some false
  kbr : PySem.W.kitOne K (.ref r.br) (.ref r.br) = some true
def spRefused (c : C4) : Sp := fun vs H Q _ => ∃ (v : V) (ts : List Tr) (a : Int), vs = [v] ∧ TrIn c All H (.row ts a) v ∧ ts.length ≤ 300 ∧ pcs ts = none ∧ ∀ H', Same H H' → Q (.bl true) H'
def DcIn (H : Hp) (q : Tr × Bool) (u : V) : Prop := ∃ p v, u = .ref p ∧ H p = some (.tup [v, .bl q.2]) ∧ MdIn All H q.1 v
def DcsIn (H : Hp) : List (Tr × Bool) → List V → Prop
  | [], us => us = []
  | q :: r, us => ∃ u ws, us = u :: ws ∧ DcIn H q u ∧ DcsIn H r ws
theorem DcIn.same {H H' : Hp} (s : Same H H') {q : Tr × Bool} {u : V} (x : DcIn H q u) : DcIn H' q u := by
  obtain ⟨p, v, e, hp, ht⟩ := x
  exact ⟨p, v, e, s _ _ hp, ht.same s⟩
theorem DcsIn.mono {H H' : Hp} (h : ∀ q u, DcIn H q u → DcIn H' q u) : ∀ {qs : List (Tr × Bool)} {us : List V}, DcsIn H qs us → DcsIn H' qs us
  | [], us, x => by simp only [DcsIn] at x ⊢; exact x
  | q :: r, us, x => by
    simp only [DcsIn] at x ⊢
    obtain ⟨u, ws, e, a, b⟩ := x
    exact ⟨u, ws, e, h _ _ a, DcsIn.mono h b⟩
theorem DcsIn.length {H : Hp} : ∀ {qs : List (Tr × Bool)} {us : List V}, DcsIn H qs us → us.length = qs.length
  | [], us, x => by simp only [DcsIn] at x; rw [x]; rfl
  | q :: r, us, x => by
    simp only [DcsIn] at x
    obtain ⟨u, ws, e, a, b⟩ := x
    rw [e, List.length_cons, List.length_cons, DcsIn.length b]
theorem DcsIn.get {H : Hp} : ∀ {qs : List (Tr × Bool)} {us : List V} {i : Nat} {u : V}, DcsIn H qs us → us[i]? = some u → ∃ q, qs[i]? = some q ∧ DcIn H q u
  | [], us, i, u, x, e => by simp only [DcsIn] at x; rw [x] at e; simp at e
  | q :: r, us, i, u, x, e => by
    simp only [DcsIn] at x
    obtain ⟨v, ws, ev, a, b⟩ := x
    subst ev
    cases i with
    | zero => simp at e; subst e; exact ⟨q, rfl, a⟩
    | succ i =>
      obtain ⟨q', eq, y⟩ := DcsIn.get b (i := i) (u := u) (by simpa using e)
      exact ⟨q', by simpa using eq, y⟩
def spTold (c : C4) : Sp := fun vs H Q _ => ∃ (D U : Addr) (us ws : List V) (qs : List (Tr × Bool)), vs = [.ref D, .ref U] ∧ H D = some (.lst us) ∧ PcsIn c All H qs us ∧ H U = some (.lst ws) ∧ DcsIn H qs ws ∧ (∀ q ∈ qs, deep q.1 ≤ 1) ∧ ∀ H', Same H H' → Q (.bl true) H'
section
variable {P : Program} {w : World} {K : PySem.W.Frag} {mg : Str → Option Value} {base : Heap} {c : C4} {r : R9} {fH : Addr}
abbrev NRf : List Str := ["_law_row", "_law_got", "e"]
theorem scRefused : FnScope NRf ["_law_row"] (defScope sRefused) := ⟨rfl, rfl, rfl, by decide +kernel, rfl, by decide +kernel, by decide +kernel⟩
theorem ok_refused {f fI : Addr} {fd fdI : FuncData} (F : Fun K "_law_refused" "_law_refused" sRefused f fd) (T : Tcs K mg c) (X : Txt mg) (R : Rcs K mg r fH) (kI : PySem.W.keepIn K (.ref fI) = true) (bI : Binds K fdI ["row"] []) (mI : mg "pieces" = some (.ref fI))
    (GI : FnOk P w K mg base (CXE P w) 3 fI fdI ["row"] (spPieces c r.br)) : FnOk P w K mg base CX0 4 f fd ["_law_row"] (spRefused c) := by
  refine F.ok scRefused (fun vs H Q E h => ?_) (fun cdv A outer s H vs Q E hr h => ?_)
  · obtain ⟨v, ts, a, rfl, _⟩ := h; rfl
  · obtain ⟨v, ts, a, rfl, ht, hlen, hbad, q⟩ := h
    have nd := scRefused.nd
    refine ⟨_, pss_cons (ps_set (i := 1) nd rfl (Or.inl rfl) pe_non)
      (pss_cons (ps_try (i := 2) (L := s.heap.objs.size) (outer := outer) (px_call GI hr (by rfl) mI kI bI .nil (pa_cons (pv 0) pa_nil)) rfl rfl (by rfl) R.mh R.Mh nd rfl rfl (Or.inl rfl) (fun x => pss_one (ps_set (i := 1) nd rfl (Or.inl rfl) (pv 2))))
      (pss_cons (ps_if (PW.pt (pw_or (pt_val (pe_callB call_isX (by rfl) X.isi bt_isinstance (pa_cons (pv 1) (pa_cons (pe_glob (v := .ref r.bf) (by rfl) R.mbf rfl) pa_nil)))) (pw_or (pt_val (pe_callB call_isX (by rfl) X.isi bt_isinstance (pa_cons (pv 1) (pa_cons (pe_glob (v := .ref r.go) (by rfl) R.mgo rfl) pa_nil)))) (pw_or (pt_val (pe_callB call_isX (by rfl) X.isi bt_isinstance (pa_cons (pv 1) (pa_cons (pe_glob (v := .ref r.na) (by rfl) R.mna rfl) pa_nil)))) (pw_or1 (pt_val (pe_callB call_isX (by rfl) X.isi bt_isinstance (pa_cons (pv 1) (pa_cons (pe_glob (v := .ref r.nf) (by rfl) R.mnf rfl) pa_nil)))))))))
      (pss_one (ps_ret pe_bl))
      pss_nil)
      (pss_cons (ps_if (PW.pt (pw_or (pt_val (pe_callB call_isX (by rfl) X.isi bt_isinstance (pa_cons (pv 1) (pa_cons (pe_glob (v := .ref r.nn) (by rfl) R.mnn rfl) pa_nil)))) (pw_or (pt_val (pe_callB call_isX (by rfl) X.isi bt_isinstance (pa_cons (pv 1) (pa_cons (pe_glob (v := .ref r.nr) (by rfl) R.mnr rfl) pa_nil)))) (pw_or (pt_val (pe_callB call_isX (by rfl) X.isi bt_isinstance (pa_cons (pv 1) (pa_cons (pe_glob (v := .ref r.nt) (by rfl) R.mnt rfl) pa_nil)))) (pw_or1 (pt_val (pe_callB call_isX (by rfl) X.isi bt_isinstance (pa_cons (pv 1) (pa_cons (pe_glob (v := .ref r.tc) (by rfl) R.mtc rfl) pa_nil)))))))))
      (pss_one (ps_ret pe_bl))
      pss_nil)
      (pss_one (ps_ret (pe_and (pe_callB call_isX (by rfl) X.isi bt_isinstance (pa_cons (pv 1) (pa_cons (pe_glob (v := .ref r.br) (by rfl) R.mbr rfl) pa_nil))) (pe_and (pe_callB call_isX (by rfl) X.isi bt_isinstance (pa_cons (pv 1) (pa_cons (pe_bltn (v := .ty "ValueError") (by rfl) X.ve bt_ValueError rfl) pa_nil))) (pe_one (pe_cmpR op_eq (pe_fldX (pv 1) rfl : PE _ _ (tFldX K (tVar 1) ("at" : Str))) (pe_fld (pv 0) rfl : PE _ _ (tFld K (tVar 0) ("at" : Str))) (nomark _)))))))))), ?_⟩
    refine ⟨_, rfl, v, ts, a, rfl, ht, hlen, (fun ps hps => by rw [hbad] at hps; cases hps), fun _ x H1 sH hx ex => ⟨r.br, x, fH, rfl, rfl, R.Mb, R.sub, _, rfl, ?_⟩⟩
    have ht1 := ht.same sH
    simp only [TrIn] at ht1
    obtain ⟨p, dx, l, us, rfl, _, h, _⟩ := ht1
    refine ⟨_, rfl, x, r.br, .ref r.bf, _, false, _, rfl, rfl, ex, R.ei, R.kbf, _, rfl, iteF ?_⟩
    refine ⟨_, rfl, x, r.br, .ref r.go, _, false, _, rfl, rfl, ex, R.ei, R.kgo, _, rfl, iteF ?_⟩
    refine ⟨_, rfl, x, r.br, .ref r.na, _, false, _, rfl, rfl, ex, R.ei, R.kna, _, rfl, iteF ?_⟩
    refine ⟨_, rfl, x, r.br, .ref r.nf, _, false, _, rfl, rfl, ex, R.ei, R.knf, _, rfl, iteF ?_⟩
    refine ⟨_, rfl, x, r.br, .ref r.nn, _, false, _, rfl, rfl, ex, R.ei, R.knn, _, rfl, iteF ?_⟩
    refine ⟨_, rfl, x, r.br, .ref r.nr, _, false, _, rfl, rfl, ex, R.ei, R.knr, _, rfl, iteF ?_⟩
    refine ⟨_, rfl, x, r.br, .ref r.nt, _, false, _, rfl, rfl, ex, R.ei, R.knt, _, rfl, iteF ?_⟩
    refine ⟨_, rfl, x, r.br, .ref r.tc, _, false, _, rfl, rfl, ex, R.ei, R.ktc, _, rfl, iteF ?_⟩
    refine ⟨_, rfl, x, r.br, .ref r.br, _, true, _, rfl, rfl, ex, R.ei, R.kbr, _, rfl, iteT ?_⟩
    refine ⟨_, rfl, x, r.br, .ty "ValueError", _, true, _, rfl, rfl, ex, R.ei, R.kv, _, rfl, iteT ?_⟩
    refine ⟨_, rfl, x, r.br, _, _, rfl, ex, R.ec.c, R.na_, rfl, _, rfl, p, c.R, dx, _, _, rfl, h, T.tr.cl, T.tr.nA, fR_at, rfl, ?_⟩
    show Q (.bl (decide (V.int a = V.int a))) H1
    rw [decide_eq_true rfl]
    exact q H1 sH
/-! ### _law_told -/
theorem scTold : FnScope ["_law_found", "_law_due", "_law_pair", "_law_other"] ["_law_found", "_law_due"] (defScope sTold) := ⟨rfl, rfl, rfl, by decide +kernel, rfl, by decide +kernel, by decide +kernel⟩
theorem ok_told {f fA : Addr} {fd fdA : FuncData} (F : Fun K "_law_told" "_law_told" sTold f fd) (T : Tcs K mg c) (X : Txt mg) (FA : Fun K "_law_alike" "_law_alike" sAlike fA fdA) (bA : Binds K fdA ["_law_found", "_law_model"] []) (mA : mg "_law_alike" = some (.ref fA)) :
    FnOk P w K mg base CX0 3 f fd ["_law_found", "_law_due"] (spTold c) := by
  have GA : FnOk P w K mg base CX0 2 fA fdA ["_law_found", "_law_model"] (spAlike c 1) := ok_alike FA T X bA mA 1
  refine F.ok scTold (fun vs H Q E h => ?_) (fun cdv A outer s H vs Q E hr h => ?_)
  · obtain ⟨D, U, us, ws, qs, rfl, _⟩ := h; rfl
  · obtain ⟨D, U, us, ws, qs, rfl, hD, hp, hU, hd, hdp, q⟩ := h
    have nd := scTold.nd
    have hul := hp.length
    have hwl := hd.length
    refine ⟨_, pss_cons (ps_if (PW.pt (pw_or (pt_not (pt_val (pe_callB call_isI (by rfl) X.isi bt_isinstance (pa_cons (pv 0) (pa_cons (pe_bltn (v := .ty "list") (by rfl) X.list bt_list rfl) pa_nil))))) (pw_or1 (pt_cmpR op_ne (pe_callB call_len_seq (by rfl) X.len bt_len (pa_cons (pv 0) pa_nil)) (pe_callB call_len_seq (by rfl) X.len bt_len (pa_cons (pv 1) pa_nil)) (nomark _)))))
      (pss_one (ps_ret pe_bl))
      pss_nil)
      (pss_cons (ps_for PassesOwn.never rfl (pi_zip (by rfl) X.zip (pa_cons (pv 0) (pa_cons (pv 1) pa_nil))) (pg_tup rfl (pgs_cons (pg_name (i := 2) nd rfl (Or.inl rfl)) (pgs_cons (pg_name (i := 3) nd rfl (Or.inl rfl)) pgs_nil)))
      (pss_cons (ps_if (PW.pt (pw_or (pt_not (pt_val (pe_callB call_isI (by rfl) X.isi bt_isinstance (pa_cons (pv 2) (pa_cons (pe_bltn (v := .ty "tuple") (by rfl) X.tuple bt_tuple rfl) pa_nil))))) (pw_or (pt_cmpR op_ne (pe_callB call_len_seq (by rfl) X.len bt_len (pa_cons (pv 2) pa_nil)) pe_int (nomark _)) (pw_or1 (pt_not (pt_val (pe_callB call_isI (by rfl) X.isi bt_isinstance (pa_cons (pe_ix ix_tup (pv 2) pe_int (fun _ _ => rfl)) (pa_cons (pe_bltn (v := .ty "bool") (by rfl) X.bool bt_bool rfl) pa_nil)))))))))
        (pss_one (ps_ret pe_bl))
        pss_nil)
        (pss_one (ps_if (PW.pt (pw_or (pt_cmpR op_ne (pe_ix ix_tup (pv 2) pe_int (fun _ _ => rfl)) (pe_ix ix_tup (pv 3) pe_int (fun _ _ => rfl)) (nomark _)) (pw_or1 (pt_not (pt_val (pe_call GA hr (by rfl) mA FA.kp bA .nil pass0 (pa_cons (pe_ix ix_tup (pv 2) pe_int (fun _ _ => rfl)) (pa_cons (pe_ix ix_tup (pv 3) pe_int (fun _ _ => rfl)) pa_nil))))))))
        (pss_one (ps_ret pe_bl))
        pss_nil))))
      (pss_one (ps_ret pe_bl))), ?_⟩
    refine ⟨_, rfl, _, .ty "list", _, _, true, rfl, rfl, .lst hD, rfl, _, rfl, iteF ?_⟩
    refine ⟨_, rfl, D, _, rfl, .inl (SqL.of hD), _, rfl, U, _, rfl, .inl (SqL.of hU), rfl, _, rfl, iteN (by rw [hul, hwl]; exact ne_self _) ?_⟩
    refine ⟨_, rfl, _, rfl, D, U, rfl, ⟨_, SqL.of hD⟩, ⟨_, SqL.of hU⟩, for_zip (xs := us) (ys := ws) (by omega) (fun i σ H' => (∃ v2 v3, σ = [some (.ref D), some (.ref U), v2, v3]) ∧ Same H H') ⟨⟨_, _, rfl⟩, Same.refl _⟩ (fun i σ H' _ ⟨_, e⟩ => ⟨SqL.of (e _ _ hD), SqL.of (e _ _ hU)⟩) ?_ ?_⟩
    · rintro i x y p σ H' hx hy ⟨⟨v2, v3, rfl⟩, sH⟩ hpn
      obtain ⟨qq, e1, p1, t1, rfl, _, hp1, ht1⟩ := hp.get hx
      obtain ⟨q2, e2, p2, m2, rfl, hp2, hm2⟩ := hd.get hy
      rw [e1] at e2
      cases e2
      have s1 := sH.trans (same_upd (o := .tup [.ref p1, .ref p2]) hpn)
      refine ⟨p, _, rfl, SqT.of upd_same, rfl, _, _, rfl, _, _, rfl, rfl, ?_⟩
      generalize upd H' p (.tup [.ref p1, .ref p2]) = H2 at s1 ⊢
      refine ⟨_, rfl, _, .ty "tuple", _, _, true, rfl, rfl, .tup (s1 _ _ hp1), rfl, _, rfl, iteF ?_⟩
      refine ⟨_, rfl, p1, _, rfl, .inr (SqT.of (s1 _ _ hp1)), rfl, _, rfl, iteN (ne_self _) ?_⟩
      refine ⟨_, rfl, p1, _, _, _, rfl, rfl, SqT.of (s1 _ _ hp1), rfl, .bl qq.2, .ty "bool", _, _, true, rfl, rfl, .bl _, rfl, _, rfl, iteF ?_⟩
      refine ⟨_, rfl, p1, _, _, _, rfl, rfl, SqT.of (s1 _ _ hp1), rfl, _, rfl, p2, _, _, _, rfl, rfl, SqT.of (s1 _ _ hp2), rfl, rfl, _, rfl, iteN (ne_self _) ?_⟩
      refine ⟨_, rfl, p1, _, _, _, rfl, rfl, SqT.of (s1 _ _ hp1), rfl, _, rfl, p2, _, _, _, rfl, rfl, SqT.of (s1 _ _ hp2), rfl, t1, m2, qq.1, rfl, ht1.same s1, hm2.same s1, hdp _ (List.mem_of_getElem? e1), fun H3 s3 => ⟨_, rfl, iteF ⟨⟨_, _, rfl⟩, s1.trans s3⟩⟩⟩
    · rintro σ H' ⟨_, sH⟩
      exact q H' sH
end
end K31

set_option Elab.async false
set_option linter.all false
set_option maxRecDepth 100000
set_option maxHeartbeats 4000000
/-! k31: the law. Own work. -/
namespace K31
open PySem L2 TR XC
/-! ### stars, and what is due -/
def starsF : List Tr → Nat → List Nat
  | [], _ => []
  | t :: r, k => if starB t = true then k :: starsF r (k + 1) else starsF r (k + 1)
def dueF : List Tr → Nat → List Nat → List (Tr × Bool)
  | [], _, _ => []
  | t :: r, k, sp => if starB t = true then dueF r (k + 1) sp else (t, decide (k + 1 ∈ sp)) :: dueF r (k + 1) sp
theorem starsF_append : ∀ (a b : List Tr) (k : Nat), starsF (a ++ b) k = starsF a k ++ starsF b (k + a.length)
  | [], b, k => by simp [starsF]
  | t :: r, b, k => by
    simp only [List.cons_append, starsF, List.length_cons]
    rw [starsF_append r b (k + 1), show k + 1 + r.length = k + (r.length + 1) by omega]
    split <;> rfl
theorem dueF_append (sp : List Nat) : ∀ (a b : List Tr) (k : Nat), dueF (a ++ b) k sp = dueF a k sp ++ dueF b (k + a.length) sp
  | [], b, k => by simp [dueF]
  | t :: r, b, k => by
    simp only [List.cons_append, dueF, List.length_cons]
    rw [dueF_append sp r b (k + 1), show k + 1 + r.length = k + (r.length + 1) by omega]
    split <;> rfl
theorem starsF_ge : ∀ (ts : List Tr) (k : Nat), ∀ j ∈ starsF ts k, k ≤ j
  | [], k, j, h => by simp [starsF] at h
  | t :: r, k, j, h => by
    simp only [starsF] at h
    split at h
    · rcases List.mem_cons.mp h with e | h
      · omega
      · have := starsF_ge r (k + 1) j h; omega
    · have := starsF_ge r (k + 1) j h; omega
theorem pcs_none : ∀ (ts : List Tr) (k : Nat) (st : Bool) (acc : List (Tr × Bool)), starsF ts k = [] → pcsA ts st acc = some (acc ++ ts.map fun t => (t, false))
  | [], k, st, acc, _ => by simp [pcsA]
  | t :: r, k, st, acc, h => by
    simp only [starsF] at h
    split at h
    · cases h
    · rename_i hs
      unfold pcsA
      rw [if_neg hs, pcs_none r (k + 1) st _ h]
      simp
theorem pcs_bad1 : ∀ (ts : List Tr) (k : Nat) (acc : List (Tr × Bool)), starsF ts k ≠ [] → pcsA ts true acc = none
  | [], k, acc, h => absurd rfl h
  | t :: r, k, acc, h => by
    simp only [starsF] at h
    unfold pcsA
    split at h
    · rename_i hs
      rw [if_pos hs]; rfl
    · rename_i hs
      rw [if_neg hs]; exact pcs_bad1 r (k + 1) _ h
theorem pcs_bad2 {j j2 : Nat} {rest : List Nat} : ∀ (ts : List Tr) (k : Nat) (st : Bool) (acc : List (Tr × Bool)), starsF ts k = j :: j2 :: rest → pcsA ts st acc = none
  | [], k, st, acc, h => by cases h
  | t :: r, k, st, acc, h => by
    simp only [starsF] at h
    unfold pcsA
    split at h
    · rename_i hs
      rw [if_pos hs]
      split
      · rfl
      · exact pcs_bad1 r (k + 1) _ (by rw [(List.cons.inj h).2]; simp)
    · rename_i hs
      rw [if_neg hs]; exact pcs_bad2 r (k + 1) st _ h
theorem pcs_first {ts : List Tr} (h : starsF ts 0 = [0]) : pcs ts = none := by
  cases ts with
  | nil => cases h
  | cons t r =>
    simp only [starsF] at h
    unfold pcs pcsA
    split at h
    · rename_i hs
      rw [if_pos hs]; rfl
    · have := starsF_ge r 1 0 (by rw [h]; exact List.mem_cons_self)
      omega
theorem due_none (sp : List Nat) : ∀ (ts : List Tr) (k : Nat), starsF ts k = [] → (∀ s ∈ sp, s ≤ k) → dueF ts k sp = ts.map fun t => (t, false)
  | [], k, _, _ => rfl
  | t :: r, k, h, hs => by
    simp only [starsF] at h
    split at h
    · cases h
    · rename_i hn
      simp only [dueF, List.map_cons]
      rw [if_neg hn, due_none sp r (k + 1) h (fun s m => by have := hs s m; omega), decide_eq_false (fun m => by have := hs _ m; omega)]
theorem pcs_one {j : Nat} : ∀ (ts : List Tr) (k : Nat) (acc : List (Tr × Bool)), starsF ts k = [j] → (j = k → acc.isEmpty = false) → pcsA ts false acc = some ((if j = k then setL acc else acc) ++ dueF ts k [j])
  | [], k, acc, h, _ => by cases h
  | t :: r, k, acc, h, ha => by
    simp only [starsF] at h
    unfold pcsA
    simp only [dueF]
    split at h
    · rename_i hs
      obtain ⟨rfl, h2⟩ := List.cons.inj h
      rw [if_pos hs, if_pos hs, if_pos rfl, ha rfl, if_neg (by decide), pcs_none r (k + 1) true _ h2, due_none [k] r (k + 1) h2 (fun s m => by rw [List.mem_singleton.mp m]; omega)]
    · rename_i hs
      have hj : k + 1 ≤ j := starsF_ge r (k + 1) j (by rw [h]; exact List.mem_cons_self)
      rw [if_neg hs, if_neg hs, if_neg (by omega), pcs_one r (k + 1) _ h (fun _ => by simp)]
      by_cases e : j = k + 1
      · rw [if_pos e, setL_snoc, decide_eq_true (by rw [e]; exact List.mem_cons_self)]
        simp
      · rw [if_neg e, decide_eq_false (fun m => e (List.mem_singleton.mp m).symm)]
        simp
theorem pcs_good {ts : List Tr} (h1 : (starsF ts 0).length ≤ 1) (h2 : starsF ts 0 ≠ [0]) : pcs ts = some (dueF ts 0 (starsF ts 0)) := by
  cases hs : starsF ts 0 with
  | nil =>
    unfold pcs
    rw [pcs_none ts 0 false [] hs, due_none [] ts 0 hs (fun s m => by cases m)]
    simp
  | cons j rest =>
    rw [hs, List.length_cons] at h1
    obtain rfl : rest = [] := List.length_eq_zero_iff.mp (by omega)
    have hj : j ≠ 0 := fun e => h2 (by rw [hs, e])
    unfold pcs
    rw [pcs_one ts 0 [] hs (fun e => absurd e hj), if_neg hj, List.nil_append]
theorem due_mem {sp : List Nat} : ∀ {ts : List Tr} {k : Nat} {q : Tr × Bool}, q ∈ dueF ts k sp → q.1 ∈ ts
  | [], k, q, h => by cases h
  | t :: r, k, q, h => by
    simp only [dueF] at h
    split at h
    · exact List.mem_cons_of_mem _ (due_mem h)
    · rcases List.mem_cons.mp h with e | h
      · rw [e]; exact List.mem_cons_self
      · exact List.mem_cons_of_mem _ (due_mem h)
theorem deeps_le {d : Nat} : ∀ {ts : List Tr}, (∀ t ∈ ts, deep t ≤ d) → deeps ts ≤ d
  | [], _ => by simp only [deeps]; omega
  | t :: r, h => by
    have a := h t List.mem_cons_self
    have b := deeps_le fun x hx => h x (List.mem_cons_of_mem _ hx)
    simp only [deeps]; omega
def A2 {α β : Type} (R : α → β → Prop) : List α → List β → Prop
  | [], us => us = []
  | q :: r, us => ∃ u ws, us = u :: ws ∧ R q u ∧ A2 R r ws
theorem A2.mono {α β : Type} {R S : α → β → Prop} (h : ∀ q u, R q u → S q u) : ∀ {qs : List α} {us : List β}, A2 R qs us → A2 S qs us
  | [], us, x => by simp only [A2] at x ⊢; exact x
  | q :: r, us, x => by
    simp only [A2] at x ⊢
    obtain ⟨u, ws, e, a, b⟩ := x
    exact ⟨u, ws, e, h _ _ a, A2.mono h b⟩
theorem A2.snoc {α β : Type} {R : α → β → Prop} {q : α} {u : β} (y : R q u) : ∀ {qs : List α} {us : List β}, A2 R qs us → A2 R (qs ++ [q]) (us ++ [u])
  | [], us, x => by simp only [A2] at x; rw [x]; simp only [List.nil_append, A2]; exact ⟨u, [], rfl, y, rfl⟩
  | q' :: r, us, x => by
    simp only [A2] at x
    obtain ⟨v, ws, e, a, b⟩ := x
    rw [e]
    simp only [List.cons_append, A2]
    exact ⟨v, ws ++ [u], rfl, a, A2.snoc y b⟩
theorem A2.dcs {H : Hp} : ∀ {qs : List (Tr × Bool)} {us : List V}, A2 (DcIn H) qs us → DcsIn H qs us
  | [], us, x => by simp only [A2] at x; simp only [DcsIn]; exact x
  | q :: r, us, x => by
    simp only [A2] at x
    simp only [DcsIn]
    obtain ⟨u, ws, e, a, b⟩ := x
    exact ⟨u, ws, e, a, A2.dcs b⟩
def DuIn (H0 : Hp) (U : Addr) (H : Hp) (q : Tr × Bool) (u : V) : Prop := ∃ p v, u = .ref p ∧ p ≠ U ∧ H p = some (.tup [v, .bl q.2]) ∧ MdIn All H0 q.1 v
theorem stars_in {k : Nat} {l : List Nat} : inV (.int ((k : Int) + 1)) (l.map fun (j : Nat) => V.int (j : Int)) = decide (k + 1 ∈ l) := by
  have e : (l.map fun (j : Nat) => V.int (j : Int)) = (l.map fun (j : Nat) => (j : Int)).map V.int := by rw [List.map_map]; rfl
  rw [e, int_in, decide_eq_decide, List.mem_map]
  constructor
  · rintro ⟨j, hj, e⟩
    have : j = k + 1 := by omega
    rw [← this]; exact hj
  · intro h
    exact ⟨k + 1, h, by omega⟩
theorem flat_nats (l : List Nat) : (l.map fun (j : Nat) => V.int (j : Int)).all flatV = true := by
  rw [List.all_map, List.all_eq_true]; intro _ _; rfl
theorem FnOk.calm {P : Program} {w : World} {K : PySem.W.Frag} {mg : Str → Option Value} {base : Heap} {k : Nat} {f : Addr} {fd : FuncData} {ps : List Str} {sp : Sp} (F : FnOk P w K mg base (CXE P w) k f fd ps sp) : FnOk P w K mg base CX0 k f fd ps (fun vs H Q _ => sp vs H Q E0) :=
  ⟨fun vs H Q E h => F.len vs H Q E0 h, fun A outer s H args us vs Q E hr he hb hv hs => codeAny_mono (F.run A outer s H args us vs Q E0 hr he hb hv hs) fun r s' h => by
    cases r with
    | error e => obtain ⟨_, _, _, _, _, _, _, _, _, _, _, _, _, _, _, z⟩ := h; exact z
    | ok fl => cases fl <;> exact h⟩
def spLaw (K : PySem.W.Frag) : Sp := fun vs H Q _ => ∃ (a : Addr) (ns : List Int), vs = [.ref a] ∧ SqL K H a (ns.map V.int) ∧ ns.length ≤ 63 ∧ ∀ H', Q (.bl true) H'
abbrev NLw : List Str := ["_law_script", "_law_parts_here", "_law_model", "_law_row", "_law_spots", "_law_due", "_law_k", "_law_part_here", "_law_found"]
theorem lcLaw1 : LcS (defScope sLaw).names [(".0", .local), ("_law_k", .local), ("_law_part_here", .local), ("_law_is_star", .globalImplicit)] ["_law_script", "_law_parts_here", "_law_model", "_law_row", "_law_spots", "_law_due", "_law_k", "_law_part_here", "_law_found"] [false, false, false, false, false, false, false, false, false] := ⟨by decide +kernel, by decide +kernel, by decide +kernel, by decide +kernel, by decide +kernel, rfl⟩
theorem ndLaw1 : (["_law_script", "_law_parts_here", "_law_model", "_law_row", "_law_spots", "_law_due", "_law_k", "_law_part_here", "_law_found"] : List Str).Nodup := by decide +kernel
section
variable {P : Program} {w : World} {K : PySem.W.Frag} {mg : Str → Option Value} {base : Heap} {c : C4} {r : R9} {fH : Addr}
theorem scLaw : FnScope NLw ["_law_script"] (defScope sLaw) := ⟨rfl, rfl, rfl, by decide +kernel, rfl, by decide +kernel, by decide +kernel⟩
theorem ok_law {f fL fC fT fS fR fA fI fD : Addr} {fd fdL fdC fdT fdS fdR fdA fdI fdD : FuncData} (F : Fun K "law" "law" sLaw f fd) (T : Tcs K mg c) (X : Txt mg)
    (kL : PySem.W.keepIn K (.ref fL) = true) (GL0 : FnOk P w K mg base CX0 3 fL fdL ["_law_script"] (spParts K)) (bL : Binds K fdL ["_law_script"] []) (mL : mg "_law_parts" = some (.ref fL))
    (FC : Fun K "_law_cell_at" "_law_cell_at" sCell fC fdC) (bC : Binds K fdC ["_law_script", "_law_k"] []) (mC : mg "_law_cell_at" = some (.ref fC))
    (kT : PySem.W.keepIn K (.ref fT) = true) (GT0 : FnOk P w K mg base CX0 6 fT fdT ["_law_model"] (spTree c 2)) (bT : Binds K fdT ["_law_model"] []) (mT : mg "_law_tree" = some (.ref fT))
    (FS : Fun K "_law_is_star" "_law_is_star" sStar fS fdS) (bS : Binds K fdS ["_law_model"] []) (mS : mg "_law_is_star" = some (.ref fS))
    (kR : PySem.W.keepIn K (.ref fR) = true) (GR0 : FnOk P w K mg base CX0 4 fR fdR ["_law_row"] (spRefused c)) (bR : Binds K fdR ["_law_row"] []) (mR : mg "_law_refused" = some (.ref fR))
    (kA : PySem.W.keepIn K (.ref fA) = true) (GA0 : FnOk P w K mg base CX0 3 fA fdA ["_law_found", "_law_model"] (spAlike c 2)) (bA : Binds K fdA ["_law_found", "_law_model"] []) (mA : mg "_law_alike" = some (.ref fA))
    (kI : PySem.W.keepIn K (.ref fI) = true) (GI0 : FnOk P w K mg base (CXE P w) 3 fI fdI ["row"] (spPieces c r.br)) (bI : Binds K fdI ["row"] []) (mI : mg "pieces" = some (.ref fI))
    (kD : PySem.W.keepIn K (.ref fD) = true) (GD0 : FnOk P w K mg base CX0 3 fD fdD ["_law_found", "_law_due"] (spTold c)) (bD : Binds K fdD ["_law_found", "_law_due"] []) (mD : mg "_law_told" = some (.ref fD)) :
    FnOk P w K mg base CX0 7 f fd ["_law_script"] (spLaw K) := by
  have GL : FnOk P w K mg base CX0 6 fL fdL ["_law_script"] (spParts K) := GL0.mono (by decide)
  have GC : FnOk P w K mg base CX0 6 fC fdC ["_law_script", "_law_k"] (spCell K) := (ok_cell FC X).mono (by decide)
  have GT := GT0
  have GS : FnOk P w K mg base CX0 6 fS fdS ["_law_model"] spStar := (ok_star FS).mono (by decide)
  have GR : FnOk P w K mg base CX0 6 fR fdR ["_law_row"] (spRefused c) := GR0.mono (by decide)
  have GA : FnOk P w K mg base CX0 6 fA fdA ["_law_found", "_law_model"] (spAlike c 2) := GA0.mono (by decide)
  have GI : FnOk P w K mg base CX0 6 fI fdI ["row"] (fun vs H Q _ => spPieces c r.br vs H Q E0) := (FnOk.calm GI0).mono (by decide)
  have GD : FnOk P w K mg base CX0 6 fD fdD ["_law_found", "_law_due"] (spTold c) := GD0.mono (by decide)
  refine F.ok scLaw (fun vs H Q E h => ?_) (fun cdv A outer s H vs Q E hr h => ?_)
  · obtain ⟨a, ns, rfl, _⟩ := h; rfl
  · obtain ⟨a, ns, rfl, hS, hl, q⟩ := h
    have nd := scLaw.nd
    have hu := hu_of hr
    have z3 : 3 ≤ sizeLine := by rw [sizeLine_eq]; decide
    have z2 : 2 ≤ sizeLine := by rw [sizeLine_eq]; decide
    refine ⟨_, pss_cons (ps_set (i := 1) nd rfl (Or.inl rfl) (pe_call GL hr (by rfl) mL kL bL .nil pass0 (pa_cons (pv 0) pa_nil)))
      (pss_cons (ps_set (i := 2) nd rfl (Or.inl rfl) (pe_tup (pa_cons pe_str (pa_cons (pv 1) (pa_cons (pe_op op_mod (pe_call GC hr (by rfl) mC FC.kp bC .nil pass0 (pa_cons (pv 0) (pa_cons pe_int pa_nil))) pe_int) pa_nil)))))
      (pss_cons (ps_set (i := 3) nd rfl (Or.inl rfl) (pe_call GT hr (by rfl) mT kT bT .nil pass0 (pa_cons (pv 2) pa_nil)))
      (pss_cons (ps_lc (i := 4) (g := gTup K 2 (gCons (gName 6) (gCons (gName 7) gNil))) (ext := []) nd rfl rfl lcLaw1 rfl (pi_enum (by rfl) X.enum (pa_cons (pv 1) pa_nil))
          ⟨fun _ _ _ _ _ => (pg_tup rfl (pgs_cons (pg_name (i := 6) ndLaw1 rfl (Or.inl rfl) (.inr rfl)) (pgs_cons (pg_name (i := 7) ndLaw1 rfl (Or.inl rfl) (.inr rfl)) pgs_nil))), fun _ _ _ _ _ => (pts_one (pt_val (pe_call GS hr (by rfl) mS FS.kp bS .nil pass0 (pa_cons (pv 7) pa_nil)))), fun _ _ _ _ _ => (pv 6)⟩)
      (pss_cons (ps_if (PW.pt (pw_or (pt_cmpR op_gt (pe_callB call_len_seq (by rfl) X.len bt_len (pa_cons (pv 4) pa_nil)) pe_int (nomark _)) (pw_or1 (pt_cmpR (op_eqL hu) (pv 4) (pe_lst (pa_cons pe_int pa_nil)) (nomark _)))))
      (pss_one (ps_ret (pe_and (pe_call GR hr (by rfl) mR kR bR .nil pass0 (pa_cons (pv 3) pa_nil)) (pe_one (pe_call GA hr (by rfl) mA kA bA .nil pass0 (pa_cons (pv 3) (pa_cons (pv 2) pa_nil)))))))
      pss_nil)
      (pss_cons (ps_set (i := 5) nd rfl (Or.inl rfl) (pe_lst pa_nil))
      (pss_cons (ps_for PassesOwn.never rfl (pi_enum (by rfl) X.enum (pa_cons (pv 1) pa_nil)) (pg_tup rfl (pgs_cons (pg_name (i := 6) nd rfl (Or.inl rfl)) (pgs_cons (pg_name (i := 7) nd rfl (Or.inl rfl)) pgs_nil)))
      (pss_one (ps_if (pt_not (pt_val (pe_call GS hr (by rfl) mS FS.kp bS .nil pass0 (pa_cons (pv 7) pa_nil))))
        (pss_one (ps_expr (pe_bm PySem.F.plainAttrs_list PySem.F.slot_list_append PySem.F.type_list_append mt_append (pv 5) (pa_cons (pe_tup (pa_cons (pv 7) (pa_cons (pe_cmpR op_in_seq (pe_op op_add (pv 6) pe_int) (pv 4) rfl) pa_nil))) pa_nil))))
        pss_nil)))
      (pss_cons (ps_set (i := 8) nd rfl (Or.inl rfl) (pe_call GI hr (by rfl) mI kI bI .nil pass0 (pa_cons (pv 3) pa_nil)))
      (pss_cons (ps_if (pt_not (pt_val (pe_call GD hr (by rfl) mD kD bD .nil pass0 (pa_cons (pv 8) (pa_cons (pv 5) pa_nil)))))
      (pss_one (ps_ret pe_bl))
      pss_nil)
      (pss_cons (ps_expr (pe_bm0 PySem.F.plainAttrs_list PySem.F.slot_list_clear PySem.F.type_list_clear mt_clear (pv 8)))
      (pss_one (ps_ret (pe_and (pe_call GD hr (by rfl) mD kD bD .nil pass0 (pa_cons (pe_call GI hr (by rfl) mI kI bI .nil pass0 (pa_cons (pv 3) pa_nil)) (pa_cons (pv 5) pa_nil))) (pe_one (pe_call GA hr (by rfl) mA kA bA .nil pass0 (pa_cons (pv 3) (pa_cons (pv 2) pa_nil)))))))))))))))), ?_⟩
    refine ⟨_, rfl, a, ns, rfl, hS, hl, fun H1 L us ts s1 hL hm hd hn => ?_⟩
    have hul : us.length = ts.length := hm.length
    refine ⟨_, rfl, _, rfl, a, 1, ns, rfl, s1.seq hS, by decide, fun z => ⟨_, _, rfl, rfl, (by show (0 : Int) < _; decide), z3, fun pm hpm => ?_⟩⟩
    dsimp only
    have s2 := same_upd (o := .tup [.str "r", .ref L, .int (z % 50000)]) hpm
    generalize z % 50000 = at_ at s2 ⊢
    have hmod : MdIn All (upd H1 pm (.tup [.str "r", .ref L, .int at_])) (.row ts at_) (.ref pm) := by
      simp only [MdIn]
      exact ⟨pm, L, us, rfl, trivial, upd_same, trivial, s2 _ _ hL, by omega, hm.same s2⟩
    have hL2 := s2 _ _ hL
    have hms2 := hm.same s2
    have s12 := s1.trans s2
    generalize upd H1 pm (.tup [.str "r", .ref L, .int at_]) = H2 at hmod hL2 hms2 s12 ⊢
    have hdr : deep (.row ts at_) ≤ 2 := by simp only [deep]; have := deeps_le hd; omega
    refine ⟨_, rfl, .ref pm, .row ts at_, rfl, hmod, hdr, fun H3 x s3 hx => ?_⟩
    have htr : TrIn c All H3 (.row ts at_) x := hx.all
    have hmod3 := hmod.same s3
    have hL3 := s3 _ _ hL2
    have hms3 := hms2.same s3
    refine ⟨_, rfl, L, rfl, ⟨_, SqL.of hL3⟩, fun D hD => ?_⟩
    refine lc_enum (K := K) (a := L) (xs := us) (fun k ys σ' H' => (∃ v6 v7, σ' = [none, none, none, none, none, none, v6, v7, none]) ∧ Same H3 H' ∧ H' D = some (.lst ys) ∧ ys = ((starsF (ts.take k) 0).map fun (j : Nat) => V.int (j : Int)) ∧ ys.length ≤ k)
      ⟨⟨_, _, rfl⟩, same_upd hD, upd_same, by simp [starsF], Nat.le_refl _⟩ (fun k ys σ' H' _ hP => SqL.of (hP.2.1 _ _ hL3)) ?_ ?_
    · rintro k y p ys σ' H' hy ⟨⟨v6, v7, rfl⟩, sH, hDy, hys, hyl⟩ hp
      have hk : k < us.length := (List.getElem?_eq_some_iff.mp hy).1
      obtain ⟨t, ht, hmt⟩ := hms3.get hy
      have sp := same_upd (o := .tup [.int (k : Nat), y]) hp
      have hlt : (ts.take k).length = k := by rw [List.length_take]; omega
      refine ⟨p, _, rfl, SqT.of upd_same, rfl, _, _, rfl, _, _, rfl, rfl, ?_⟩
      refine ⟨_, rfl, y, t, rfl, hmt.same (sH.trans sp), _, rfl, ?_⟩
      have keep : ∀ {Hx : Hp}, Hx = upd H' p (.tup [.int (k : Nat), y]) → Same H3 Hx ∧ Hx D = some (.lst ys) := fun e => by rw [e]; exact ⟨sH.trans sp, sp _ _ hDy⟩
      obtain ⟨k1, k2⟩ := keep rfl
      cases hsb : starB t with
      | true =>
        refine iteT ⟨_, rfl, k2, by rw [sizeLine_eq]; omega, Beh.of hk ⟨⟨_, _, rfl⟩, fun b o e => ?_, upd_same, ?_, by rw [List.length_append, List.length_singleton]; omega⟩⟩
        · rw [upd_ne (ne_of_none e hD)]; exact k1 _ _ e
        · rw [take_snoc ht, starsF_append, List.map_append, hys, hlt]
          simp [starsF, hsb]
      | false =>
        refine iteF (Beh.of hk ⟨⟨_, _, rfl⟩, k1, k2, ?_, by omega⟩)
        rw [take_snoc ht, starsF_append, List.map_append, hys, hlt]
        simp [starsF, hsb]
    · rintro ys σ' H4 ⟨_, sH, hDy, hys, hyl⟩
      rw [hul, List.take_length] at hys
      have htr4 := htr.same sH
      have hmod4 := hmod3.same sH
      have hL4 := sH _ _ hL3
      have hms4 := hms3.same sH
      have hylen : ys.length = (starsF ts 0).length := by rw [hys, List.length_map]
      have fl : ys.all flatV = true := by rw [hys]; exact flat_nats _
      refine ⟨_, rfl, D, _, rfl, .inl (SqL.of hDy), _, _, rfl, rfl, _, rfl, ite2 (fun hg => iteT ?_) (fun hg => ?_)⟩
      · have hg' : (ys.length : Int) > 1 := of_decide_eq_true hg
        have hbad : pcs ts = none := by
          cases e : starsF ts 0 with
          | nil => rw [hylen, e] at hg'; exact absurd hg' (by decide)
          | cons j rest =>
            cases rest with
            | nil => rw [hylen, e] at hg'; exact absurd hg' (by show ¬ ((1 : Nat) : Int) > 1; decide)
            | cons j2 rest => exact pcs_bad2 ts 0 false [] e
        exact ⟨_, rfl, x, ts, at_, rfl, htr4, by omega, hbad, fun H5 s5 => ⟨_, rfl, iteT ⟨_, rfl, _, rfl, x, .ref pm, .row ts at_, rfl, htr4.same s5, hmod4.same s5, hdr, fun H6 _ => q H6⟩⟩⟩
      have hg' : ¬ (ys.length : Int) > 1 := fun e => hg (decide_eq_true e)
      refine ⟨_, rfl, (by show 1 ≤ sizeLine; rw [sizeLine_eq]; decide), fun p0 hp0 => ?_⟩
      have s5 := same_upd (o := .lst [.int 0]) hp0
      refine ⟨D, p0, ys, [.int 0], rfl, rfl, SqL.of (s5 _ _ hDy), SqL.of upd_same, fl, rfl, eqVs ys [.int 0], rfl, ?_⟩
      have heq : eqVs ys [.int 0] = decide (starsF ts 0 = [0]) := by
        have e : ys = ((starsF ts 0).map fun (j : Nat) => (j : Int)).map V.int := by rw [hys, List.map_map]; rfl
        rw [e, show ([.int 0] : List V) = ([0] : List Int).map V.int from rfl, eqVs_ints, decide_eq_decide]
        constructor
        · intro h
          cases e2 : starsF ts 0 with
          | nil => rw [e2] at h; cases h
          | cons j rest =>
            rw [e2, List.map_cons] at h
            obtain ⟨h1, h2⟩ := List.cons.inj h
            rw [List.map_eq_nil_iff.mp h2, show j = 0 by omega]
        · intro h; rw [h]; rfl
      rw [heq]
      have htr5 := htr4.same s5
      have hmod5 := hmod4.same s5
      have hL5 := s5 _ _ hL4
      have hms5 := hms4.same s5
      have hDy5 := s5 _ _ hDy
      generalize upd H4 p0 (.lst [.int 0]) = H5 at htr5 hmod5 hL5 hms5 hDy5 ⊢
      by_cases h0 : starsF ts 0 = [0]
      · rw [decide_eq_true h0]
        refine iteT ?_
        exact ⟨_, rfl, x, ts, at_, rfl, htr5, by omega, pcs_first h0, fun H6 s6 => ⟨_, rfl, iteT ⟨_, rfl, _, rfl, x, .ref pm, .row ts at_, rfl, htr5.same s6, hmod5.same s6, hdr, fun H6 _ => q H6⟩⟩⟩
      rw [decide_eq_false h0]
      refine iteF ?_
      have hgood := pcs_good (ts := ts) (by omega) h0
      refine ⟨Nat.zero_le _, fun U hU => ?_⟩
      have s6 := same_upd (o := .lst []) hU
      refine ⟨_, rfl, L, rfl, ⟨_, SqL.of (s6 _ _ hL5)⟩, for_enum (K := K) (a := L) (xs := us) (fun i σ H' => (∃ v6 v7, σ = [some (.ref a), some (.ref L), some (.ref pm), some x, some (.ref D), some (.ref U), v6, v7, none]) ∧ Same H5 H' ∧ ∃ ws, H' U = some (.lst ws) ∧ A2 (DuIn H5 U H') (dueF (ts.take i) 0 (starsF ts 0)) ws ∧ ws.length ≤ i)
        ⟨⟨_, _, rfl⟩, s6, [], upd_same, by simp [dueF, A2], Nat.le_refl _⟩ (fun i σ H' _ ⟨_, e, _⟩ => SqL.of (e _ _ hL5)) ?_ ?_⟩
      · rintro i y p σ H' hy ⟨⟨v6, v7, rfl⟩, sH', ws, hw, hdu, hwl⟩ hp
        have hk : i < us.length := (List.getElem?_eq_some_iff.mp hy).1
        obtain ⟨t, ht, hmt⟩ := hms5.get hy
        have hlt : (ts.take i).length = i := by rw [List.length_take]; omega
        have sp := same_upd (o := .tup [.int (i : Nat), y]) hp
        have s7 := sH'.trans sp
        have hw7 := sp _ _ hw
        have hdu7 : A2 (DuIn H5 U (upd H' p (.tup [.int (i : Nat), y]))) (dueF (ts.take i) 0 (starsF ts 0)) ws := hdu.mono fun q u ⟨p', v, e1, e2, e3, e4⟩ => ⟨p', v, e1, e2, sp _ _ e3, e4⟩
        refine ⟨p, _, rfl, SqT.of upd_same, rfl, _, _, rfl, _, _, rfl, rfl, ?_⟩
        generalize upd H' p (.tup [.int (i : Nat), y]) = H7 at s7 hw7 hdu7 ⊢
        refine ⟨_, rfl, y, t, rfl, hmt.same s7, _, rfl, ?_⟩
        cases hsb : starB t with
        | true =>
          refine iteF ⟨⟨_, _, rfl⟩, s7, ws, hw7, ?_, by omega⟩
          rw [take_snoc ht, dueF_append, hlt]
          simp only [dueF, hsb, if_true, List.append_nil]
          exact hdu7
        | false =>
          refine iteT ⟨_, rfl, .inl ⟨rfl, _, SqL.of hw7⟩, _, rfl, _, rfl, _, _, rfl, rfl, _, rfl, D, ys, rfl, .inl (SqL.of (s7 _ _ hDy5)), rfl, fl, ?_⟩
          have einv : inV (V.int ((i : Int) + 1)) ys = decide (i + 1 ∈ starsF ts 0) := by
            rw [hys]; exact stars_in
          show 2 ≤ sizeLine ∧ _
          refine ⟨z2, fun p8 hp8 => ?_⟩
          have s8 := same_upd (o := .tup [y, .bl (if false = true then !inV (V.int ((i : Int) + 1)) ys else inV (V.int ((i : Int) + 1)) ys)]) hp8
          have n8 : p8 ≠ U := fun z => by rw [z, hw7] at hp8; cases hp8
          refine ⟨U, _, _, rfl, rfl, s8 _ _ hw7, by rw [sizeLine_eq]; omega, ⟨_, _, rfl⟩, fun b o e => ?_, ws ++ [.ref p8], upd_same, ?_, by rw [List.length_append, List.length_singleton]; omega⟩
          · rw [upd_ne (ne_of_none e hU)]; exact s8 _ _ (s7 _ _ e)
          · rw [take_snoc ht, dueF_append, hlt]
            simp only [dueF, hsb, Nat.zero_add]
            rw [if_neg Bool.false_ne_true]
            refine A2.snoc ⟨p8, y, rfl, n8, ?_, hmt⟩ (hdu7.mono fun q u ⟨p', v, e1, e2, e3, e4⟩ => ⟨p', v, e1, e2, by rw [upd_ne e2]; exact s8 _ _ e3, e4⟩)
            rw [upd_ne n8, upd_same, einv]
      · rintro σ H6 ⟨⟨v6, v7, rfl⟩, sH6, ws, hw6, hdu6, hwl6⟩
        rw [hul, List.take_length] at hdu6
        have hdc : DcsIn H6 (dueF ts 0 (starsF ts 0)) ws := (hdu6.mono fun q u ⟨p', v, e1, _, e3, e4⟩ => ⟨p', v, e1, e3, e4.same sH6⟩).dcs
        have htr6 := htr5.same sH6
        have hmod6 := hmod5.same sH6
        have hdq : ∀ q ∈ dueF ts 0 (starsF ts 0), deep q.1 ≤ 1 := fun q hq => hd _ (due_mem hq)
        refine ⟨_, rfl, x, ts, at_, rfl, htr6, by omega, (fun ps hps H7 D7 us7 s7 hD7 h7 hp7 => ?_), fun hb => by rw [hgood] at hb; cases hb⟩
        rw [hgood] at hps
        cases hps
        refine ⟨_, rfl, _, rfl, D7, U, us7, ws, _, rfl, h7, hp7.mono (fun b o _ e => ⟨trivial, e⟩), s7 _ _ hw6, hdc.mono (fun q u y => y.same s7), hdq, fun H8 s8 => ⟨_, rfl, iteF ?_⟩⟩
        have h8 := s8 _ _ h7
        refine ⟨_, rfl, .inl ⟨rfl, _, SqL.of h8⟩, D7, _, rfl, rfl, h8, ?_⟩
        have s9 : Same H6 (upd H8 D7 (.lst [])) := fun b o e => by rw [upd_ne (ne_of_none e hD7)]; exact s8 _ _ (s7 _ _ e)
        generalize upd H8 D7 (.lst []) = H9 at s9 ⊢
        refine ⟨_, rfl, x, ts, at_, rfl, htr6.same s9, by omega, (fun ps hps H10 D10 us10 s10 hD10 h10 hp10 => ?_), fun hb => by rw [hgood] at hb; cases hb⟩
        rw [hgood] at hps
        cases hps
        have s11 := s9.trans s10
        refine ⟨_, rfl, D10, U, us10, ws, _, rfl, h10, hp10.mono (fun b o _ e => ⟨trivial, e⟩), s11 _ _ hw6, hdc.mono (fun q u y => y.same s11), hdq, fun H11 s12 => ⟨_, rfl, iteT ?_⟩⟩
        have s13 := s11.trans s12
        exact ⟨_, rfl, _, rfl, x, .ref pm, .row ts at_, rfl, htr6.same s13, hmod6.same s13, hdr, fun H12 _ => q H12⟩
end
end K31

set_option Elab.async false
set_option linter.all false
set_option maxRecDepth 100000
set_option maxHeartbeats 4000000
namespace K31
open PySem L2 TR XC
/-! ### what the top has written; the law's head -/
theorem all_mk {l : PySem.W.OpenLaw} {w : World} {K : PySem.W.Frag} {h : Heap} {mg : Str → Option Value} {fa gT gW gF gR T0 T1 gh gbf ggo gna gnf gnn gnr gnt gtc gbr fG fI fC fN fP fL fT fA fS fR fD fZ fWI fTI fFI fRI fHI : Addr} (X : K.In h) (G : h.Ns mainGlobals mg) (hfa : mg "law" = some (.ref fa))
    {nmh qh : Str} {Nh : Addr} {bsh : List Value} {snh : List Str} {subh : List Value} {abh : Bool} {colh : Option Bool} {ddh : Option Addr} {k0h k1h k2h k3h k5h : Option Value}
    {nmbr qbr : Str} {Nbr : Addr} {bsbr : List Value} {snbr : List Str} {subbr : List Value} {abbr : Bool} {colbr : Option Bool} {ddbr : Option Addr} {k0br k1br k2br k3br k5br : Option Value}
    {odT0 odT1 odG anG odI anI odC anC odN anN odP anP odL anL odT anT odA anA odS anS odR anR odD anD odZ anZ odWI anWI odTI anTI odFI anFI odRI anRI odHI anHI : Option Addr} {slT0 slT1 slG slI slC slN slP slL slT slA slS slR slD slZ slWI slTI slFI slRI slHI : Array (Option Value)} {ocT0 ocT1 ocG kVG dcG pmG cdG ctG ocI kVI dcI pmI cdI ctI ocC kVC dcC pmC cdC ctC ocN kVN dcN pmN cdN ctN ocP kVP dcP pmP cdP ctP ocL kVL dcL pmL cdL ctL ocT kVT dcT pmT cdT ctT ocA kVA dcA pmA cdA ctA ocS kVS dcS pmS cdS ctS ocR kVR dcR pmR cdR ctR ocD kVD dcD pmD cdD ctD ocZ kVZ dcZ pmZ cdZ ctZ ocWI kVWI dcWI pmWI cdWI ctWI ocTI kVTI dcTI pmTI cdTI ctTI ocFI kVFI dcFI pmFI cdFI ctFI ocRI kVRI dcRI pmRI cdRI ctRI ocHI kVHI dcHI pmHI cdHI ctHI : Value} {t0 : Tok} {nT0 nT1 : Nat}
    (qT : PySem.W.nsIn K mainGlobals "Tree" = some (some (.ref gT)))
    (qW : PySem.W.nsIn K mainGlobals "Word" = some (some (.ref gW)))
    (qF : PySem.W.nsIn K mainGlobals "Figure" = some (some (.ref gF)))
    (qR : PySem.W.nsIn K mainGlobals "Row" = some (some (.ref gR)))
    (eh : PySem.W.nsIn K mainGlobals "HouseError" = some (some (.ref gh)))
    (ebf : PySem.W.nsIn K mainGlobals "BadForm" = some (some (.ref gbf)))
    (ego : PySem.W.nsIn K mainGlobals "GoesOn" = some (some (.ref ggo)))
    (ena : PySem.W.nsIn K mainGlobals "NoAhead" = some (some (.ref gna)))
    (enf : PySem.W.nsIn K mainGlobals "NoFill" = some (some (.ref gnf)))
    (enn : PySem.W.nsIn K mainGlobals "NoName" = some (some (.ref gnn)))
    (enr : PySem.W.nsIn K mainGlobals "NoRule" = some (some (.ref gnr)))
    (ent : PySem.W.nsIn K mainGlobals "NoText" = some (some (.ref gnt)))
    (etc : PySem.W.nsIn K mainGlobals "TwoClaims" = some (some (.ref gtc)))
    (ebr : PySem.W.nsIn K mainGlobals "BadRule" = some (some (.ref gbr)))
    (aG : PySem.W.nsIn K mainGlobals "is_sign" = some (some (.ref fG)))
    (lG : K.lookup fG = some ⟨ocG, odG, .func (PySem.W.fnOf "is_sign" "is_sign" (defArgs sSign) (defBody sSign) (defScope sSign) .none kVG dcG pmG anG cdG ctG), slG⟩)
    (cG : PySem.W.codeIn K cdG "is_sign" = true)
    (kG : PySem.W.keepIn K (.ref fG) = true)
    (aI : PySem.W.nsIn K mainGlobals "pieces" = some (some (.ref fI)))
    (lI : K.lookup fI = some ⟨ocI, odI, .func (PySem.W.fnOf "pieces" "pieces" (defArgs sPieces) (defBody sPieces) (defScope sPieces) .none kVI dcI pmI anI cdI ctI), slI⟩)
    (cI : PySem.W.codeIn K cdI "pieces" = true)
    (kI : PySem.W.keepIn K (.ref fI) = true)
    (aC : PySem.W.nsIn K mainGlobals "_law_cell_at" = some (some (.ref fC)))
    (lC : K.lookup fC = some ⟨ocC, odC, .func (PySem.W.fnOf "_law_cell_at" "_law_cell_at" (defArgs sCell) (defBody sCell) (defScope sCell) .none kVC dcC pmC anC cdC ctC), slC⟩)
    (cC : PySem.W.codeIn K cdC "_law_cell_at" = true)
    (kC : PySem.W.keepIn K (.ref fC) = true)
    (aN : PySem.W.nsIn K mainGlobals "_law_name" = some (some (.ref fN)))
    (lN : K.lookup fN = some ⟨ocN, odN, .func (PySem.W.fnOf "_law_name" "_law_name" (defArgs sName) (defBody sName) (defScope sName) .none kVN dcN pmN anN cdN ctN), slN⟩)
    (cN : PySem.W.codeIn K cdN "_law_name" = true)
    (kN : PySem.W.keepIn K (.ref fN) = true)
    (aP : PySem.W.nsIn K mainGlobals "_law_part" = some (some (.ref fP)))
    (lP : K.lookup fP = some ⟨ocP, odP, .func (PySem.W.fnOf "_law_part" "_law_part" (defArgs sPart) (defBody sPart) (defScope sPart) .none kVP dcP pmP anP cdP ctP), slP⟩)
    (cP : PySem.W.codeIn K cdP "_law_part" = true)
    (kP : PySem.W.keepIn K (.ref fP) = true)
    (aL : PySem.W.nsIn K mainGlobals "_law_parts" = some (some (.ref fL)))
    (lL : K.lookup fL = some ⟨ocL, odL, .func (PySem.W.fnOf "_law_parts" "_law_parts" (defArgs sParts) (defBody sParts) (defScope sParts) .none kVL dcL pmL anL cdL ctL), slL⟩)
    (cL : PySem.W.codeIn K cdL "_law_parts" = true)
    (kL : PySem.W.keepIn K (.ref fL) = true)
    (aT : PySem.W.nsIn K mainGlobals "_law_tree" = some (some (.ref fT)))
    (lT : K.lookup fT = some ⟨ocT, odT, .func (PySem.W.fnOf "_law_tree" "_law_tree" (defArgs sTree) (defBody sTree) (defScope sTree) .none kVT dcT pmT anT cdT ctT), slT⟩)
    (cT : PySem.W.codeIn K cdT "_law_tree" = true)
    (kT : PySem.W.keepIn K (.ref fT) = true)
    (aA : PySem.W.nsIn K mainGlobals "_law_alike" = some (some (.ref fA)))
    (lA : K.lookup fA = some ⟨ocA, odA, .func (PySem.W.fnOf "_law_alike" "_law_alike" (defArgs sAlike) (defBody sAlike) (defScope sAlike) .none kVA dcA pmA anA cdA ctA), slA⟩)
    (cA : PySem.W.codeIn K cdA "_law_alike" = true)
    (kA : PySem.W.keepIn K (.ref fA) = true)
    (aS : PySem.W.nsIn K mainGlobals "_law_is_star" = some (some (.ref fS)))
    (lS : K.lookup fS = some ⟨ocS, odS, .func (PySem.W.fnOf "_law_is_star" "_law_is_star" (defArgs sStar) (defBody sStar) (defScope sStar) .none kVS dcS pmS anS cdS ctS), slS⟩)
    (cS : PySem.W.codeIn K cdS "_law_is_star" = true)
    (kS : PySem.W.keepIn K (.ref fS) = true)
    (aR : PySem.W.nsIn K mainGlobals "_law_refused" = some (some (.ref fR)))
    (lR : K.lookup fR = some ⟨ocR, odR, .func (PySem.W.fnOf "_law_refused" "_law_refused" (defArgs sRefused) (defBody sRefused) (defScope sRefused) .none kVR dcR pmR anR cdR ctR), slR⟩)
    (cR : PySem.W.codeIn K cdR "_law_refused" = true)
    (kR : PySem.W.keepIn K (.ref fR) = true)
    (aD : PySem.W.nsIn K mainGlobals "_law_told" = some (some (.ref fD)))
    (lD : K.lookup fD = some ⟨ocD, odD, .func (PySem.W.fnOf "_law_told" "_law_told" (defArgs sTold) (defBody sTold) (defScope sTold) .none kVD dcD pmD anD cdD ctD), slD⟩)
    (cD : PySem.W.codeIn K cdD "_law_told" = true)
    (kD : PySem.W.keepIn K (.ref fD) = true)
    (aZ : PySem.W.nsIn K mainGlobals "law" = some (some (.ref fZ)))
    (lZ : K.lookup fZ = some ⟨ocZ, odZ, .func (PySem.W.fnOf "law" "law" (defArgs sLaw) (defBody sLaw) (defScope sLaw) .none kVZ dcZ pmZ anZ cdZ ctZ), slZ⟩)
    (cZ : PySem.W.codeIn K cdZ "law" = true)
    (kZ : PySem.W.keepIn K (.ref fZ) = true)
    (aWI : PySem.W.findIn K (.ref gW) "__init__" = some (some (.ref fWI)))
    (lWI : K.lookup fWI = some ⟨ocWI, odWI, .func (PySem.W.fnOf "__init__" "Word.__init__" (defArgs sWI) (defBody sWI) (defScope sWI) (.ref T0) kVWI dcWI pmWI anWI cdWI ctWI), slWI⟩)
    (cWI : PySem.W.codeIn K cdWI "Word.__init__" = true)
    (kWI : PySem.W.keepIn K (.ref fWI) = true)
    (iWI : PySem.W.isFn K (.ref fWI) = true)
    (lT0 : K.lookup T0 = some ⟨ocT0, odT0, .seq #[.int 0 t0] nT0, slT0⟩)
    (aTI : PySem.W.findIn K (.ref gT) "__init__" = some (some (.ref fTI)))
    (lTI : K.lookup fTI = some ⟨ocTI, odTI, .func (PySem.W.fnOf "__init__" "Tree.__init__" (defArgs sTI) (defBody sTI) (defScope sTI) .none kVTI dcTI pmTI anTI cdTI ctTI), slTI⟩)
    (cTI : PySem.W.codeIn K cdTI "Tree.__init__" = true)
    (kTI : PySem.W.keepIn K (.ref fTI) = true)
    (iTI : PySem.W.isFn K (.ref fTI) = true)
    (aFI : PySem.W.findIn K (.ref gF) "__init__" = some (some (.ref fFI)))
    (lFI : K.lookup fFI = some ⟨ocFI, odFI, .func (PySem.W.fnOf "__init__" "Figure.__init__" (defArgs sFI) (defBody sFI) (defScope sFI) .none kVFI dcFI pmFI anFI cdFI ctFI), slFI⟩)
    (cFI : PySem.W.codeIn K cdFI "Figure.__init__" = true)
    (kFI : PySem.W.keepIn K (.ref fFI) = true)
    (iFI : PySem.W.isFn K (.ref fFI) = true)
    (aRI : PySem.W.findIn K (.ref gR) "__init__" = some (some (.ref fRI)))
    (lRI : K.lookup fRI = some ⟨ocRI, odRI, .func (PySem.W.fnOf "__init__" "Row.__init__" (defArgs sRI) (defBody sRI) (defScope sRI) .none kVRI dcRI pmRI anRI cdRI ctRI), slRI⟩)
    (cRI : PySem.W.codeIn K cdRI "Row.__init__" = true)
    (kRI : PySem.W.keepIn K (.ref fRI) = true)
    (iRI : PySem.W.isFn K (.ref fRI) = true)
    (mkW : PySem.W.makesIn K gW = true)
    (kcW : PySem.W.keepIn K (.ref gW) = true)
    (pgW : PySem.W.plainGet K gW Str.empty = true)
    (hdW : PySem.W.hasDictIn K gW = true)
    (poW : PySem.W.plainOver K gW = true)
    (saW : PySem.W.findIn K (.ref gW) "__setattr__" = some (some (.builtin "object.__setattr__")))
    (nAW : PySem.W.findIn K (.ref gW) "at" = some none)
    (nMW : PySem.W.findIn K (.ref gW) "many" = some none)
    (nDW : PySem.W.findIn K (.ref gW) "deep" = some none)
    (haW : PySem.W.findIn K (.ref gW) "__class__" = some (some (.builtin "object.__class__")))
    (hmW : PySem.W.mroIn K gW (.type "object") = some true)
    (mkF : PySem.W.makesIn K gF = true)
    (kcF : PySem.W.keepIn K (.ref gF) = true)
    (pgF : PySem.W.plainGet K gF Str.empty = true)
    (hdF : PySem.W.hasDictIn K gF = true)
    (poF : PySem.W.plainOver K gF = true)
    (saF : PySem.W.findIn K (.ref gF) "__setattr__" = some (some (.builtin "object.__setattr__")))
    (nAF : PySem.W.findIn K (.ref gF) "at" = some none)
    (nMF : PySem.W.findIn K (.ref gF) "many" = some none)
    (nDF : PySem.W.findIn K (.ref gF) "deep" = some none)
    (haF : PySem.W.findIn K (.ref gF) "__class__" = some (some (.builtin "object.__class__")))
    (hmF : PySem.W.mroIn K gF (.type "object") = some true)
    (mkR : PySem.W.makesIn K gR = true)
    (kcR : PySem.W.keepIn K (.ref gR) = true)
    (pgR : PySem.W.plainGet K gR Str.empty = true)
    (hdR : PySem.W.hasDictIn K gR = true)
    (poR : PySem.W.plainOver K gR = true)
    (saR : PySem.W.findIn K (.ref gR) "__setattr__" = some (some (.builtin "object.__setattr__")))
    (nAR : PySem.W.findIn K (.ref gR) "at" = some none)
    (nMR : PySem.W.findIn K (.ref gR) "many" = some none)
    (nDR : PySem.W.findIn K (.ref gR) "deep" = some none)
    (haR : PySem.W.findIn K (.ref gR) "__class__" = some (some (.builtin "object.__class__")))
    (hmR : PySem.W.mroIn K gR (.type "object") = some true)
    (nWn : PySem.W.findIn K (.ref gW) "name" = some none)
    (nWb : PySem.W.findIn K (.ref gW) "bits" = some none)
    (nFn : PySem.W.findIn K (.ref gF) "number" = some none)
    (nRp : PySem.W.findIn K (.ref gR) "parts" = some none)
    (gtT : PySem.W.specialIn K (.ref gT) "__getattribute__" = some (some (.builtin "type.__getattribute__")))
    (rdT : PySem.W.readsIn K gT (.type "type") = true)
    (fcT : PySem.W.findCls K (.ref gT) (.type "type") "__init__" = some (.val (.ref fTI)))
    (hn : PySem.W.specialIn K (.builtin "object.__class__") "__get__" = some (some (.builtin "getset_descriptor.__get__")))
    (htk : PySem.W.takesIn K (.builtin "object.__class__") = some true)
    (aHI : PySem.W.findIn K (.ref gh) "__init__" = some (some (.ref fHI)))
    (lHI : K.lookup fHI = some ⟨ocHI, odHI, .func (PySem.W.fnOf "__init__" "HouseError.__init__" (defArgs sHI) (defBody sHI) (defScope sHI) (.ref T1) kVHI dcHI pmHI anHI cdHI ctHI), slHI⟩)
    (cHI : PySem.W.codeIn K cdHI "HouseError.__init__" = true)
    (kHI : PySem.W.keepIn K (.ref fHI) = true)
    (iHI : PySem.W.isFn K (.ref fHI) = true)
    (lT1 : K.lookup T1 = some ⟨ocT1, odT1, .seq #[.none, .none] nT1, slT1⟩)
    (hfc : PySem.W.findCls K (.type "ValueError") (.type "type") "__init__" = some (.val (.builtin "ValueError.__init__")))
    (lh : K.lookup gh = some (excClassObj nmh qh gh Nh bsh [.type "ValueError", .type "Exception", .type "BaseException", .type "object"] true snh subh abh colh ddh k0h k1h k2h k3h k5h "ValueError.__new__"))
    (sah : PySem.W.findIn K (.ref gh) "__setattr__" = some (some (.builtin "object.__setattr__")))
    (gah : PySem.W.findIn K (.ref gh) "__getattribute__" = some (some (.builtin "BaseException.__getattribute__")))
    (gnh : PySem.W.findIn K (.ref gh) "__getattr__" = some none)
    (inh : PySem.W.findIn K (.ref gh) "__init__" = some (some (.ref fHI)))
    (kph : PySem.W.keepIn K (.ref gh) = true)
    (lbr : K.lookup gbr = some (excClassObj nmbr qbr gbr Nbr bsbr [.ref gh, .type "ValueError", .type "Exception", .type "BaseException", .type "object"] true snbr subbr abbr colbr ddbr k0br k1br k2br k3br k5br "ValueError.__new__"))
    (sabr : PySem.W.findIn K (.ref gbr) "__setattr__" = some (some (.builtin "object.__setattr__")))
    (gabr : PySem.W.findIn K (.ref gbr) "__getattribute__" = some (some (.builtin "BaseException.__getattribute__")))
    (gnbr : PySem.W.findIn K (.ref gbr) "__getattr__" = some none)
    (inbr : PySem.W.findIn K (.ref gbr) "__init__" = some (some (.ref fHI)))
    (kpbr : PySem.W.keepIn K (.ref gbr) = true)
    (tA : PySem.W.takerIn K gbr "at" = some none)
    (tO : PySem.W.takerIn K gbr "other" = some none)
    (hab : PySem.W.findIn K (.ref gbr) "__class__" = some (some (.builtin "object.__class__")))
    (subb : PySem.W.mroIn K gbr (.ref gh) = some true)
    (nab : PySem.W.findIn K (.ref gbr) "at" = some none)
    (kve : PySem.W.kitOne K (.ref gbr) (.type "ValueError") = some true)
    (kebf : PySem.W.kitOne K (.ref gbr) (.ref gbf) = some false)
    (kego : PySem.W.kitOne K (.ref gbr) (.ref ggo) = some false)
    (kena : PySem.W.kitOne K (.ref gbr) (.ref gna) = some false)
    (kenf : PySem.W.kitOne K (.ref gbr) (.ref gnf) = some false)
    (kenn : PySem.W.kitOne K (.ref gbr) (.ref gnn) = some false)
    (kenr : PySem.W.kitOne K (.ref gbr) (.ref gnr) = some false)
    (kent : PySem.W.kitOne K (.ref gbr) (.ref gnt) = some false)
    (ketc : PySem.W.kitOne K (.ref gbr) (.ref gtc) = some false)
    (kebr : PySem.W.kitOne K (.ref gbr) (.ref gbr) = some true)
    (iWW : PySem.W.kitOne K (.ref gW) (.ref gW) = some true)
    (iFW : PySem.W.kitOne K (.ref gF) (.ref gW) = some false)
    (iRW : PySem.W.kitOne K (.ref gR) (.ref gW) = some false)
    (iWF : PySem.W.kitOne K (.ref gW) (.ref gF) = some false)
    (iFF : PySem.W.kitOne K (.ref gF) (.ref gF) = some true)
    (iRF : PySem.W.kitOne K (.ref gR) (.ref gF) = some false)
    (iWR : PySem.W.kitOne K (.ref gW) (.ref gR) = some false)
    (iFR : PySem.W.kitOne K (.ref gF) (.ref gR) = some false)
    (iRR : PySem.W.kitOne K (.ref gR) (.ref gR) = some true)
    (iWT : PySem.W.kitOne K (.ref gW) (.ref gT) = some true)
    (iFT : PySem.W.kitOne K (.ref gF) (.ref gT) = some true)
    (iRT : PySem.W.kitOne K (.ref gR) (.ref gT) = some true)
    (z0 : PySem.W.nsIn K mainGlobals "len" = some none)
    (z1 : PySem.W.nsIn K mainGlobals "isinstance" = some none)
    (z2 : PySem.W.nsIn K mainGlobals "enumerate" = some none)
    (z3 : PySem.W.nsIn K mainGlobals "range" = some none)
    (z4 : PySem.W.nsIn K mainGlobals "all" = some none)
    (z5 : PySem.W.nsIn K mainGlobals "zip" = some none)
    (z6 : PySem.W.nsIn K mainGlobals "list" = some none)
    (z7 : PySem.W.nsIn K mainGlobals "tuple" = some none)
    (z8 : PySem.W.nsIn K mainGlobals "bool" = some none)
    (z9 : PySem.W.nsIn K mainGlobals "ValueError" = some none)
    (z10 : PySem.W.nsIn K mainGlobals "sum" = some none)
    (z11 : PySem.W.nsIn K mainGlobals "max" = some none)
    : ∃ fd : FuncData, (∀ (s : Shared) (v : Value), BindsTo s fd ⟨[v], []⟩ [("_law_script", v)]) ∧ ∀ base : Heap, K.In base → base.Ns mainGlobals mg → FnOk l.prog w K mg base CX0 7 fa fd ["_law_script"] (spLaw K) := by
  have e := hfa.symm.trans (PySem.W.mg_of X G aZ)
  cases e
  have TX : Txt mg := ⟨PySem.W.mg_none_of X G z0, PySem.W.mg_none_of X G z1, PySem.W.mg_none_of X G z2, PySem.W.mg_none_of X G z3, PySem.W.mg_none_of X G z4, PySem.W.mg_none_of X G z5, PySem.W.mg_none_of X G z6, PySem.W.mg_none_of X G z7, PySem.W.mg_none_of X G z8, PySem.W.mg_none_of X G z9⟩
  have T : Tcs K mg ⟨gT, gW, gF, gR⟩ := ⟨⟨⟨pgW, hdW, poW, saW⟩, nAW, nMW, nDW, haW, hmW⟩, ⟨⟨pgF, hdF, poF, saF⟩, nAF, nMF, nDF, haF, hmF⟩, ⟨⟨pgR, hdR, poR, saR⟩, nAR, nMR, nDR, haR, hmR⟩, nWn, nWb, nFn, nRp, PySem.W.mg_of X G qT, PySem.W.mg_of X G qW, PySem.W.mg_of X G qF, PySem.W.mg_of X G qR, hn, htk, iWW, iFW, iRW, iWF, iFF, iRF, iWR, iFR, iRR, iWT, iFT, iRT, PySem.W.mg_none_of X G z6, PySem.W.mg_none_of X G z11, PySem.W.mg_none_of X G z10⟩
  have FG := fun_mk (st := sSign) lG cG kG
  have bG := FG.binds (ps := ["tree", "name"]) fun _ _ _ _ _ _ us hl => match us, hl with | [_, _], _ => rfl
  have mG := PySem.W.mg_of X G aG
  have FI := fun_mk (st := sPieces) lI cI kI
  have bI := FI.binds (ps := ["row"]) fun _ _ _ _ _ _ us hl => match us, hl with | [_], _ => rfl
  have mI := PySem.W.mg_of X G aI
  have FC := fun_mk (st := sCell) lC cC kC
  have bC := FC.binds (ps := ["_law_script", "_law_k"]) fun _ _ _ _ _ _ us hl => match us, hl with | [_, _], _ => rfl
  have mC := PySem.W.mg_of X G aC
  have FN := fun_mk (st := sName) lN cN kN
  have bN := FN.binds (ps := ["_law_cell"]) fun _ _ _ _ _ _ us hl => match us, hl with | [_], _ => rfl
  have mN := PySem.W.mg_of X G aN
  have FP := fun_mk (st := sPart) lP cP kP
  have bP := FP.binds (ps := ["_law_cell", "_law_at", "_law_stars"]) fun _ _ _ _ _ _ us hl => match us, hl with | [_, _, _], _ => rfl
  have mP := PySem.W.mg_of X G aP
  have FL := fun_mk (st := sParts) lL cL kL
  have bL := FL.binds (ps := ["_law_script"]) fun _ _ _ _ _ _ us hl => match us, hl with | [_], _ => rfl
  have mL := PySem.W.mg_of X G aL
  have FT := fun_mk (st := sTree) lT cT kT
  have bT := FT.binds (ps := ["_law_model"]) fun _ _ _ _ _ _ us hl => match us, hl with | [_], _ => rfl
  have mT := PySem.W.mg_of X G aT
  have FA := fun_mk (st := sAlike) lA cA kA
  have bA := FA.binds (ps := ["_law_found", "_law_model"]) fun _ _ _ _ _ _ us hl => match us, hl with | [_, _], _ => rfl
  have mA := PySem.W.mg_of X G aA
  have FS := fun_mk (st := sStar) lS cS kS
  have bS := FS.binds (ps := ["_law_model"]) fun _ _ _ _ _ _ us hl => match us, hl with | [_], _ => rfl
  have mS := PySem.W.mg_of X G aS
  have FR := fun_mk (st := sRefused) lR cR kR
  have bR := FR.binds (ps := ["_law_row"]) fun _ _ _ _ _ _ us hl => match us, hl with | [_], _ => rfl
  have mR := PySem.W.mg_of X G aR
  have FD := fun_mk (st := sTold) lD cD kD
  have bD := FD.binds (ps := ["_law_found", "_law_due"]) fun _ _ _ _ _ _ us hl => match us, hl with | [_, _], _ => rfl
  have mD := PySem.W.mg_of X G aD
  have FZ := fun_mk (st := sLaw) lZ cZ kZ
  have FTI := fun_mk (st := sTI) lTI cTI kTI
  have bTI := FTI.binds (ps := ["self", "at", "many", "deep"]) fun _ _ _ _ _ _ us hl => match us, hl with | [_, _, _, _], _ => rfl
  have FFI := fun_mk (st := sFI) lFI cFI kFI
  have bFI := FFI.binds (ps := ["self", "number", "at"]) fun _ _ _ _ _ _ us hl => match us, hl with | [_, _, _], _ => rfl
  have FRI := fun_mk (st := sRI) lRI cRI kRI
  have bRI := FRI.binds (ps := ["self", "parts", "at"]) fun _ _ _ _ _ _ us hl => match us, hl with | [_, _, _], _ => rfl
  have FWI := fund_mk (st := sWI) lWI cWI kWI
  have bWI : Binds K (PySem.W.fnOf "__init__" "Word.__init__" (defArgs sWI) (defBody sWI) (defScope sWI) (.ref T0) kVWI dcWI pmWI anWI cdWI ctWI) ["self", "name", "at", "bits"] [] := fun s us hK hl => match us, hl with | [_, _, _, _], _ => PySem.W.binds_K hK rfl lT0 rfl rfl rfl
  have FHI := fund_mk (st := sHI) lHI cHI kHI
  have bHI1 : Binds K (PySem.W.fnOf "__init__" "HouseError.__init__" (defArgs sHI) (defBody sHI) (defScope sHI) (.ref T1) kVHI dcHI pmHI anHI cdHI ctHI) ["self", "words", "at", "other"] [.none] := fun s us hK hl => by
    have h3 : us.length = 3 := by simpa using hl
    match us, h3 with
    | [_, _, _], _ => exact PySem.W.binds_K hK rfl lT1 rfl rfl rfl
  have ECh : ECls K gh := ⟨⟨_, (by unfold PySem.W.clsIn; rw [lh]), rfl, rfl⟩, sah, gah, gnh⟩
  have MKh : MkE K gh fHI := ⟨ECh, ⟨_, _, _, _, _, _, _, _, _, _, _, _, _, _, _, _, lh, rfl⟩, inh, iHI, kph⟩
  have ECbr : ECls K gbr := ⟨⟨_, (by unfold PySem.W.clsIn; rw [lbr]), rfl, rfl⟩, sabr, gabr, gnbr⟩
  have MKbr : MkE K gbr fHI := ⟨ECbr, ⟨_, _, _, _, _, _, _, _, _, _, _, _, _, _, _, _, lbr, rfl⟩, inbr, iHI, kpbr⟩
  have ECB : EC K gbr := ⟨ECbr, tA, tO⟩
  have RR : Rcs K mg ⟨gh, gbf, ggo, gna, gnf, gnn, gnr, gnt, gtc, gbr⟩ fHI := ⟨PySem.W.mg_of X G eh, PySem.W.mg_of X G ebf, PySem.W.mg_of X G ego, PySem.W.mg_of X G ena, PySem.W.mg_of X G enf, PySem.W.mg_of X G enn, PySem.W.mg_of X G enr, PySem.W.mg_of X G ent, PySem.W.mg_of X G etc, PySem.W.mg_of X G ebr, MKh, MKbr, ECB, ⟨ECbr, hab, hn, htk⟩, subb, nab, kve, kebf, kego, kena, kenf, kenn, kenr, kent, ketc, kebr⟩
  have cT' : ClsFn K (C4.mk gT gW gF gR).T "__init__" fTI := ⟨gtT, rdT, fcT, kTI⟩
  refine ⟨PySem.W.fnOf "law" "law" (defArgs sLaw) (defBody sLaw) (defScope sLaw) .none kVZ dcZ pmZ anZ cdZ ctZ, fun s v => .of_eq rfl, fun base _ _ => ?_⟩
  have GWI : FnOk l.prog w K mg base CX0 2 fWI _ ["self", "name", "at", "bits"] (spWI ⟨gT, gW, gF, gR⟩) := ok_wi FWI T FTI bTI cT'
  have GFI : FnOk l.prog w K mg base CX0 2 fFI _ ["self", "number", "at"] (spFI ⟨gT, gW, gF, gR⟩) := ok_fi FFI T FTI bTI cT'
  have GRI : FnOk l.prog w K mg base CX0 2 fRI _ ["self", "parts", "at"] (spRI ⟨gT, gW, gF, gR⟩) := ok_ri FRI T FTI bTI cT'
  have MW : Mk K gW fWI := ⟨mkW, aWI, iWI, kcW⟩
  have MF : Mk K gF fFI := ⟨mkF, aFI, iFI, kcF⟩
  have MR : Mk K gR fRI := ⟨mkR, aRI, iRI, kcR⟩
  have M : Mks K ⟨gT, gW, gF, gR⟩ fWI fFI fRI := ⟨MW, MF, MR⟩
  have GHI : FnOk l.prog w K mg base CX0 1 fHI _ ["self", "words", "at", "other"] (spHI K) := ok_hi FHI TX hfc
  have GPc : FnOk l.prog w K mg base (CXE l.prog w) 3 fI _ ["row"] (spPieces ⟨gT, gW, gF, gR⟩ gbr) := ok_pieces FI T TX FG bG mG MKbr ECB (PySem.W.mg_of X G ebr) GHI bHI1
  have GPt : FnOk l.prog w K mg base CX0 2 fP _ ["_law_cell", "_law_at", "_law_stars"] spPart := ok_part FP FN bN mN
  exact ok_law (r := ⟨gh, gbf, ggo, gna, gnf, gnn, gnr, gnt, gtc, gbr⟩) FZ T TX kL (ok_parts FL TX FC bC mC FP bP mP GPt) bL mL FC bC mC kT (ok_tree FT T M GWI bWI GFI bFI GRI bRI bT mT 2) bT mT FS bS mS kR (ok_refused FR T TX RR kI bI mI GPc) bR mR kA (ok_alike FA T TX bA mA 2) bA mA kI GPc bI mI kD (ok_told FD T TX FA bA mA) bD mD
theorem walk {l : PySem.W.OpenLaw} {q : Program} {loose : List Str} {XP : (Str → Option Value) → Heap → Prop} {YP : World → Heap → Prop} {d : DefRec} {K : Params → PySem.W.Frag} (hn : l.most = some 63) (hdf : d.params.defaults = [])
    (hY : ∀ (w : World) (h : Heap), YP w h → (K w.params).In h)
    (F : ∀ (w : World) (mg : Str → Option Value) (fa : Addr) (h : Heap), (K w.params).In h → h.Ns mainGlobals mg → mg d.name = some (.ref fa) →
      ∃ fd : FuncData, (∀ (s : Shared) (u : Value), BindsTo s fd ⟨[u], []⟩ [("_law_script", u)]) ∧ ∀ base : Heap, (K w.params).In base → base.Ns mainGlobals mg → FnOk l.prog w (K w.params) mg base CX0 7 fa fd ["_law_script"] (spLaw (K w.params))) :
    PySem.W.WalkO q loose XP YP l.row.toRowW d [] (fun f vs => PySem.call f vs) :=
  L2.walk_of (n := 63) (k := 7) (x := "_law_script") (CX := fun _ => CX0) (sp := fun w => spLaw (K w.params)) hn (by decide) hdf ⟨rfl, by decide, by decide⟩ hY F (fun _ _ a ns hl _ hS => ⟨a, ns, rfl, hS, hl, fun _ => rfl⟩) fun _ _ _ _ _ z => z
end K31
open PySem PySem.W PyProof.Rows
set_option maxRecDepth 100000 in
set_option maxHeartbeats 0 in
theorem PySem.Challenge.cw_macrohouse_k31_pieces_holds : PySem.Challenge.rw_macrohouse_k31_pieces.Holds := by
  w_on; o_law; k_head; (case hw => w_witness2)
  k_fill
  refine K31.walk (l := PySem.Challenge.rw_macrohouse_k31_pieces) rfl rfl (fun w h Y => PySem.W.kIn_of Y) ?F
  case F =>
    intro w mg fa h KX G hmg
    refine' K31.all_mk KX G hmg ?qT ?qW ?qF ?qR ?eh ?ebf ?ego ?ena ?enf ?enn ?enr ?ent ?etc ?ebr ?aG ?lG ?cG ?kG ?aI ?lI ?cI ?kI ?aC ?lC ?cC ?kC ?aN ?lN ?cN ?kN ?aP ?lP ?cP ?kP ?aL ?lL ?cL ?kL ?aT ?lT ?cT ?kT ?aA ?lA ?cA ?kA ?aS ?lS ?cS ?kS ?aR ?lR ?cR ?kR ?aD ?lD ?cD ?kD ?aZ ?lZ ?cZ ?kZ ?aWI ?lWI ?cWI ?kWI ?iWI ?lT0 ?aTI ?lTI ?cTI ?kTI ?iTI ?aFI ?lFI ?cFI ?kFI ?iFI ?aRI ?lRI ?cRI ?kRI ?iRI ?mkW ?kcW ?pgW ?hdW ?poW ?saW ?nAW ?nMW ?nDW ?haW ?hmW ?mkF ?kcF ?pgF ?hdF ?poF ?saF ?nAF ?nMF ?nDF ?haF ?hmF ?mkR ?kcR ?pgR ?hdR ?poR ?saR ?nAR ?nMR ?nDR ?haR ?hmR ?nWn ?nWb ?nFn ?nRp ?gtT ?rdT ?fcT ?hn ?htk ?aHI ?lHI ?cHI ?kHI ?iHI ?lT1 ?hfc ?lh ?sah ?gah ?gnh ?inh ?kph ?lbr ?sabr ?gabr ?gnbr ?inbr ?kpbr ?tA ?tO ?hab ?subb ?nab ?kve ?kebf ?kego ?kena ?kenf ?kenn ?kenr ?kent ?ketc ?kebr ?iWW ?iFW ?iRW ?iWF ?iFF ?iRF ?iWR ?iFR ?iRR ?iWT ?iFT ?iRT ?z0 ?z1 ?z2 ?z3 ?z4 ?z5 ?z6 ?z7 ?z8 ?z9 ?z10 ?z11
    (case qT => k_is); (case qW => k_is); (case qF => k_is); (case qR => k_is); (case eh => k_is); (case ebf => k_is)
    (case ego => k_is); (case ena => k_is); (case enf => k_is); (case enn => k_is); (case enr => k_is); (case ent => k_is)
    (case etc => k_is); (case ebr => k_is); (case aG => k_is); (case lG => k_is); (case cG => k_is); (case kG => k_is)
    (case aI => k_is); (case lI => k_is); (case cI => k_is); (case kI => k_is); (case aC => k_is); (case lC => k_is)
    (case cC => k_is); (case kC => k_is); (case aN => k_is); (case lN => k_is); (case cN => k_is); (case kN => k_is)
    (case aP => k_is); (case lP => k_is); (case cP => k_is); (case kP => k_is); (case aL => k_is); (case lL => k_is)
    (case cL => k_is); (case kL => k_is); (case aT => k_is); (case lT => k_is); (case cT => k_is); (case kT => k_is)
    (case aA => k_is); (case lA => k_is); (case cA => k_is); (case kA => k_is); (case aS => k_is); (case lS => k_is)
    (case cS => k_is); (case kS => k_is); (case aR => k_is); (case lR => k_is); (case cR => k_is); (case kR => k_is)
    (case aD => k_is); (case lD => k_is); (case cD => k_is); (case kD => k_is); (case aZ => k_is); (case lZ => k_is)
    (case cZ => k_is); (case kZ => k_is); (case aWI => k_is); (case lWI => k_is); (case cWI => k_is); (case kWI => k_is)
    (case iWI => k_is); (case lT0 => k_is); (case aTI => k_is); (case lTI => k_is); (case cTI => k_is); (case kTI => k_is)
    (case iTI => k_is); (case aFI => k_is); (case lFI => k_is); (case cFI => k_is); (case kFI => k_is); (case iFI => k_is)
    (case aRI => k_is); (case lRI => k_is); (case cRI => k_is); (case kRI => k_is); (case iRI => k_is); (case mkW => k_is)
    (case kcW => k_is); (case pgW => k_is); (case hdW => k_is); (case poW => k_is); (case saW => k_is); (case nAW => k_is)
    (case nMW => k_is); (case nDW => k_is); (case haW => k_is); (case hmW => k_is); (case mkF => k_is); (case kcF => k_is)
    (case pgF => k_is); (case hdF => k_is); (case poF => k_is); (case saF => k_is); (case nAF => k_is); (case nMF => k_is)
    (case nDF => k_is); (case haF => k_is); (case hmF => k_is); (case mkR => k_is); (case kcR => k_is); (case pgR => k_is)
    (case hdR => k_is); (case poR => k_is); (case saR => k_is); (case nAR => k_is); (case nMR => k_is); (case nDR => k_is)
    (case haR => k_is); (case hmR => k_is); (case nWn => k_is); (case nWb => k_is); (case nFn => k_is); (case nRp => k_is)
    (case gtT => k_is); (case rdT => k_is); (case fcT => k_is); (case hn => k_is); (case htk => k_is); (case aHI => k_is)
    (case lHI => k_is); (case cHI => k_is); (case kHI => k_is); (case iHI => k_is); (case lT1 => k_is); (case hfc => k_is)
    (case lh => k_is); (case sah => k_is); (case gah => k_is); (case gnh => k_is); (case inh => k_is); (case kph => k_is)
    (case lbr => k_is); (case sabr => k_is); (case gabr => k_is); (case gnbr => k_is); (case inbr => k_is); (case kpbr => k_is)
    (case tA => k_is); (case tO => k_is); (case hab => k_is); (case subb => k_is); (case nab => k_is); (case kve => kit_is)
    (case kebf => kit_is); (case kego => kit_is); (case kena => kit_is); (case kenf => kit_is); (case kenn => kit_is); (case kenr => kit_is)
    (case kent => kit_is); (case ketc => kit_is); (case kebr => kit_is); (case iWW => kit_is); (case iFW => kit_is); (case iRW => kit_is)
    (case iWF => kit_is); (case iFF => kit_is); (case iRF => kit_is); (case iWR => kit_is); (case iFR => kit_is); (case iRR => kit_is)
    (case iWT => kit_is); (case iFT => kit_is); (case iRT => kit_is); (case z0 => k_is); (case z1 => k_is); (case z2 => k_is)
    (case z3 => k_is); (case z4 => k_is); (case z5 => k_is); (case z6 => k_is); (case z7 => k_is); (case z8 => k_is)
    (case z9 => k_is); (case z10 => k_is); (case z11 => k_is)
#print axioms PySem.Challenge.cw_macrohouse_k31_pieces_holds
