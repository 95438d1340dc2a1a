import PyProof.Rows.All
import Wide.All
import OpenK.AllK
import Wide.FinOn
import Lean
import PyProof.EqAt
import PyProof.EqKinds
import PyProof.TupleCall
import PyProof.StrBlockL
import KE.KSortKey
import PyProof.Rows.SortStr
import PyProof.ListRange
import KE.KLam
import PyProof.StationsW
import PyProof.Rows.SortRuns
import PyProof.CollectWalk
import PyProof.DictWalks
import PyProof.Rows.SeqMore
import PySem.Challenge.RW_tworeadings_k01_whole_once
set_option Elab.async false
set_option linter.all false
set_option maxRecDepth 100000
/-! THE HAND LAYER, for ints, bools, texts, own classes, DICTS (int and text keys), calls, loops. Paste it whole ahead of your own text; what your proof does not reach may be deleted. -/
namespace L2
open PySem PySem.Spec PyProof.Rows

/-- a key: an int or a str -/
abbrev Key := Sum Int Str
def keyIs : Key → Value → Bool
  | .inl k, v => Value.isInt k v
  | .inr x, v => Value.isStrOf x v
def keyH (w : World) : Key → Int
  | .inl k => hashInt k
  | .inr x => hashStr w x
theorem keyIs_shape : ∀ {k : Key} {v : Value}, keyIs k v = true → (∃ i t, k = Sum.inl i ∧ v = Value.int i t) ∨ (∃ x t, k = Sum.inr x ∧ v = Value.str x t)
  | .inl i, v, h => by
    obtain ⟨t, e⟩ := Value.isInt_shape (k := i) (v := v) h
    exact .inl ⟨i, t, rfl, e⟩
  | .inr x, v, h => by
    obtain ⟨t, e⟩ := Value.isStrOf_shape (x := x) (v := v) h
    exact .inr ⟨x, t, rfl, e⟩
theorem keyIs_int (i : Int) (t : Tok) : keyIs (.inl i) (.int i t) = true := by simp [keyIs, Value.isInt]
theorem keyIs_str (x : Str) (t : Tok) : keyIs (.inr x) (.str x t) = true := by simp [keyIs, Value.isStrOf]
theorem key_ll (a b : Int) : decide ((Sum.inl a : Key) = Sum.inl b) = (a == b) := by
  by_cases e : a = b
  · subst e; simp
  · have h : ¬ (Sum.inl a : Key) = Sum.inl b := fun q => e (Sum.inl.inj q)
    rw [decide_eq_false h]
    exact (beq_eq_false_iff_ne.mpr e).symm
theorem key_rr (a b : Str) : decide ((Sum.inr a : Key) = Sum.inr b) = decide (a = b) := by
  by_cases e : a = b
  · subst e; simp
  · have h : ¬ (Sum.inr a : Key) = Sum.inr b := fun q => e (Sum.inr.inj q)
    rw [decide_eq_false h, decide_eq_false e]
theorem key_lr (a : Int) (b : Str) : decide ((Sum.inl a : Key) = Sum.inr b) = false := decide_eq_false (fun q => nomatch q)
theorem key_rl (a : Str) (b : Int) : decide ((Sum.inr a : Key) = Sum.inl b) = false := decide_eq_false (fun q => nomatch q)

def mixKind (prog : Program) (w : World) : PySem.KeyKind prog w Key where
  is := keyIs
  hash := keyH w
  inj := fun v a b ha hb => by
    rcases keyIs_shape ha with ⟨i, t, rfl, rfl⟩ | ⟨x, t, rfl, rfl⟩
    · rcases keyIs_shape hb with ⟨j, u, rfl, e⟩ | ⟨y, u, rfl, e⟩
      · injection e with e1 _; rw [e1]
      · exact nomatch e
    · rcases keyIs_shape hb with ⟨j, u, rfl, e⟩ | ⟨y, u, rfl, e⟩
      · exact nomatch e
      · injection e with e1 _; rw [e1]
  byValue := fun k v h => by
    rcases keyIs_shape h with ⟨i, t, rfl, rfl⟩ | ⟨x, t, rfl, rfl⟩ <;> rfl
  pyHash := fun hv h => by
    rcases keyIs_shape hv with ⟨i, t, rfl, rfl⟩ | ⟨x, t, rfl, rfl⟩
    · exact wpAny_pyHash_int h
    · exact wpAny_pyHash_str h
  eqBool := fun hu hv h => by
    rcases keyIs_shape hu with ⟨i, t, rfl, rfl⟩ | ⟨x, t, rfl, rfl⟩
    · rcases keyIs_shape hv with ⟨j, u, rfl, rfl⟩ | ⟨y, u, rfl, rfl⟩
      · rw [key_ll] at h; exact wpAny_eqBool_int h
      · rw [key_lr] at h; exact SeqAt.EqAt.int_str i t y u _ _ _ _ h
    · rcases keyIs_shape hv with ⟨j, u, rfl, rfl⟩ | ⟨y, u, rfl, rfl⟩
      · rw [key_rl] at h; exact SeqAt.EqAt.str_int x t j u _ _ _ _ h
      · rw [key_rr] at h; exact wpAny_eqBool_str h
  «strs» := fun k x t v h => by
    rcases keyIs_shape h with ⟨i, u, rfl, e⟩ | ⟨y, u, rfl, e⟩
    · exact nomatch e
    · injection e with e1 _
      subst e1
      cases v <;> rfl

theorem mixKind_is (prog : Program) (w : World) (k : Key) (v : Value) : (mixKind prog w).is k v = keyIs k v := rfl
theorem mixKind_int (prog : Program) (w : World) (i : Int) (t : Tok) : (mixKind prog w).is (.inl i) (.int i t) = true := keyIs_int i t
theorem mixKind_str (prog : Program) (w : World) (x : Str) (t : Tok) : (mixKind prog w).is (.inr x) (.str x t) = true := keyIs_str x t
end L2

namespace L2
open PySem PySem.Spec PyProof.Rows

/-- a value, without the heap -/
inductive V where
  | non | bl (b : Bool) | int (i : Int) | str (x : Str) | byt (b : Array UInt8) | flt (b : UInt64) | ref (a : Addr) | ty (n : String)
  deriving DecidableEq

def RelV : V → Value → Prop
  | .non, u => u = Value.none
  | .bl b, u => u = Value.bool b
  | .int i, u => ∃ t, u = Value.int i t
  | .str x, u => ∃ t, u = Value.str x t
  | .byt b, u => ∃ t, u = Value.bytes b t
  | .flt b, u => ∃ t, u = Value.float b t
  | .ref a, u => u = Value.ref a
  | .ty n, u => u = Value.type n

abbrev Vals : List V → List Value → Prop := Paired RelV
theorem Vals.length {xs : List V} {us : List Value} (r : Vals xs us) : xs.length = us.length := Paired.length r
theorem Vals.get : ∀ {xs : List V} {us : List Value} {i : Nat} {x : V}, Vals xs us → xs[i]? = some x → ∃ u, us[i]? = some u ∧ RelV x u
  | _, _, _, _, .nil, e => by simp at e
  | _, _, 0, _, .cons r _, e => by simp at e; subst e; exact ⟨_, rfl, r⟩
  | _, _, i + 1, x, .cons _ t, e => by
    obtain ⟨u, h1, h2⟩ := Vals.get (i := i) (x := x) t (by simpa using e)
    exact ⟨u, by simpa using h1, h2⟩
theorem Vals.set {x : V} {u : Value} (r : RelV x u) : ∀ {xs : List V} {us : List Value} (i : Nat), Vals xs us → Vals (xs.set i x) (us.set i u)
  | _, _, _, .nil => .nil
  | _, _, 0, .cons _ t => .cons r t
  | _, _, i + 1, .cons q t => .cons q (Vals.set r i t)
theorem Vals.append : ∀ {xs ys : List V} {us ws : List Value}, Vals xs us → Vals ys ws → Vals (xs ++ ys) (us ++ ws)
  | _, _, _, _, .nil, s => s
  | _, _, _, _, .cons r t, s => .cons r (Vals.append t s)
theorem Vals.take : ∀ {xs : List V} {us : List Value} (n : Nat), Vals xs us → Vals (xs.take n) (us.take n)
  | _, _, 0, _ => .nil
  | _, _, _ + 1, .nil => .nil
  | _, _, n + 1, .cons r t => .cons r (Vals.take n t)
theorem Vals.drop : ∀ {xs : List V} {us : List Value} (n : Nat), Vals xs us → Vals (xs.drop n) (us.drop n)
  | _, _, 0, r => r
  | _, _, _ + 1, .nil => .nil
  | _, _, n + 1, .cons _ t => Vals.drop n t

def RelO : Option V → Option Value → Prop
  | some v, some u => RelV v u
  | none, none => True
  | _, _ => False
def KV {κ : Type} : List (κ × V) → List (κ × Value) → Prop := Paired fun (p : κ × V) (q : κ × Value) => p.1 = q.1 ∧ RelV p.2 q.2

/-- a key of a dict (00_mix): an int or a text -/
def kV : Key → V
  | .inl i => .int i
  | .inr x => .str x

/-- what stands at a tracked address -/
inductive HO where
  /-- a list -/
  | lst (xs : List V)
  /-- a tuple (never changes) -/
  | tup (xs : List V)
  /-- a dict whose keys are ints and texts; one whose keys are tuples of ints and texts (the empty one is both) -/
  | dK (kvs : List (Key × V)) | dT (kvs : List (List Key × V))
  /-- a set of ints: its members, its size -/
  | set (S : Int → Bool) (n : Nat)
  /-- an instance of the class at C, its dict at dx, its attributes -/
  | ins (C dx : Addr) (fs : List (Str × V))
  /-- the dict of the instance at x -/
  | own (x : Addr)
  /-- the dict of an exception -/
  | xd (fs : List (Str × V))
  /-- a bound method, f of x -/
  | met (f x : Addr)
  /-- a range object lo, lo + 1, .. below hi -/
  | rng (lo hi : Int)
  /-- a thing that is known to the object (the script; a dict while a loop walks it): read, never written while it is so -/
  | frz (o : Obj) (u : HO)
  /-- a code object's table -/
  | tbl (ps : Array Value)
  /-- any other thing, by what is true of its one object (a def of one's own: SetO a S n := HO.ext fun h => ..) -/
  | ext (φ : Heap → Prop)

abbrev Hp := Addr → Option HO
def upd (H : Hp) (a : Addr) (o : HO) : Hp := fun b => if b = a then some o else H b
theorem upd_same {H : Hp} {a : Addr} {o : HO} : upd H a o a = some o := by unfold upd; rw [if_pos rfl]
theorem upd_ne {H : Hp} {a b : Addr} {o : HO} (h : b ≠ a) : upd H a o b = H b := by unfold upd; rw [if_neg h]
theorem upd_upd {H : Hp} {a : Addr} {o u : HO} : upd (upd H a o) a u = upd H a u := by
  funext b; unfold upd; split <;> rfl
/-- two objects of different content stand apart -/
theorem ne_of {H : Hp} {a b : Addr} {o u : HO} (h : H a = some o) (h' : H b = some u) (d : o ≠ u) : a ≠ b := by
  intro e; subst e; rw [h] at h'; exact d (Option.some.inj h')
theorem ne_of_none {H : Hp} {a b : Addr} {o : HO} (h : H a = some o) (h' : H b = none) : a ≠ b := by
  intro e; subst e; rw [h] at h'; cases h'

section
variable (P : Program) (w : World)
def ObjOk (H : Hp) (h : Heap) (a : Addr) : HO → Prop
  | .lst xs => xs.length ≤ sizeLine ∧ ∃ (its : List Value) (n : Nat), Vals xs its ∧ h.get? a = some { cls := .type "list", data := .seq its.toArray n }
  | .tup xs => xs.length ≤ sizeLine ∧ ∃ its : List Value, Vals xs its ∧ IsTup h a its.toArray
  | .dK kvs => kvs.length ≤ sizeLine ∧ (a == sysModules) = false ∧ ∃ vs, KV kvs vs ∧ h.DictOf (mixKind P w) a vs
  | .dT kvs => kvs.length ≤ sizeLine ∧ (a == sysModules) = false ∧ ∃ xs : List (List Key × Addr × Value),
      Paired (fun (p : List Key × V) (q : List Key × Addr × Value) => p.1 = q.1 ∧ H q.2.1 = some (.tup (p.1.map kV)) ∧ RelV p.2 q.2.2) kvs xs ∧
      ∃ o es ep, h.get? a = some o ∧ o.ExactDict ∧ o.data = .dict es ep ∧ es.toList = xs.map (entryOfKey (tupleKind (mixKind P w))) ∧ (xs.map (·.1)).Nodup
  | .set S n => h.SetOf (intKind P w) a S n
  | .ins C dx fs => H dx = some (.own a) ∧ fs.length ≤ 1000 ∧ dx ≠ a ∧ h.get? a = some (PySem.W.instObj C dx) ∧
      ∃ mA, h.Ns1 dx mA ∧ (∀ f, RelO (fs.lookup f) (mA f)) ∧ PySem.Within mA (fs.map (·.1))
  | .own _ => ∃ o, h.get? a = some o
  | .xd fs => ∃ mA, h.Ns1 a mA ∧ ∀ f, RelO (fs.lookup f) (mA f)
  | .rng lo hi => ∃ t u v, h.get? a = some { cls := .type "range", data := .fields #[.int lo t, .int hi u, .int 1 v] }
  | .frz o u => h.get? a = some o ∧ ObjOk H h a u
  | .tbl ps => h.get? a = some { cls := .none, data := .fields ps }
  | .met f x => h.get? a = some (PySem.W.methodObj (.ref f) (.ref x))
  | .ext φ => φ h ∧ (∃ o, h.get? a = some o) ∧ ∀ h1 h2 : Heap, φ h1 → (∀ o, h1.get? a = some o → h2.get? a = some o) → φ h2
/-- the abstract heap is held -/
def HOk (H : Hp) (h : Heap) : Prop := ∀ a o, H a = some o → ObjOk P w H h a o
end

section
variable {P : Program} {w : World} {H H' : Hp} {h h' : Heap} {a : Addr} {o : HO}
theorem ObjOk.lt (x : ObjOk P w H h a o) : a < h.objs.size := by
  cases o with
  | lst xs => obtain ⟨_, _, _, _, e⟩ := x; exact Heap.lt_size e
  | tup xs => obtain ⟨_, _, _, p⟩ := x; exact p.lt
  | dK kvs => obtain ⟨_, _, _, _, o, _, _, e, _⟩ := x; exact Heap.lt_size e
  | dT kvs => obtain ⟨_, _, _, _, o, _, _, e, _⟩ := x; exact Heap.lt_size e
  | set S n => obtain ⟨o, _, _, _, e, _⟩ := x; exact Heap.lt_size e
  | ins C dx fs => obtain ⟨_, _, _, e, _⟩ := x; exact Heap.lt_size e
  | own y => obtain ⟨_, e⟩ := x; exact Heap.lt_size e
  | xd fs => obtain ⟨_, ⟨_, _, _, e, _⟩, _⟩ := x; exact Heap.lt_size e
  | rng lo hi => obtain ⟨_, _, _, e⟩ := x; exact Heap.lt_size e
  | frz ob u => obtain ⟨e, _⟩ := x; exact Heap.lt_size e
  | tbl ps => exact Heap.lt_size (show h.get? a = some _ from x)
  | met f y => exact Heap.lt_size (show h.get? a = some _ from x)
  | ext φ => obtain ⟨_, ⟨_, e⟩, _⟩ := x; exact Heap.lt_size e
theorem Paired.mapP {α β : Type} {F G : α → β → Prop} : ∀ {l₁ : List α} {l₂ : List β}, Paired F l₁ l₂ → (∀ a b, F a b → G a b) → Paired G l₁ l₂
  | _, _, .nil, _ => .nil
  | _, _, .cons r t, f => .cons (f _ _ r) (Paired.mapP t f)
/-- what an object's description leans on: its own object, its own dict, the tuples -/
theorem ObjOk.stay (x : ObjOk P w H h a o) (k : ∀ b u, (b = a ∨ H b = some (.own a)) → h.get? b = some u → h'.get? b = some u)
    (ho : ∀ b, H b = some (.own a) → H' b = some (.own a)) (ht : ∀ b xs, H b = some (.tup xs) → H' b = some (.tup xs)) : ObjOk P w H' h' a o := by
  induction o with
  | lst xs => obtain ⟨z, its, n, r, e⟩ := x; exact ⟨z, its, n, r, k _ _ (.inl rfl) e⟩
  | tup xs => obtain ⟨z, its, r, ob, e, c⟩ := x; exact ⟨z, its, r, ob, k _ _ (.inl rfl) e, c⟩
  | dK kvs => obtain ⟨z, y, vs, r, ob, es, ep, e, c⟩ := x; exact ⟨z, y, vs, r, ob, es, ep, k _ _ (.inl rfl) e, c⟩
  | dT kvs =>
    obtain ⟨z, y, xs, r, ob, es, ep, e, c⟩ := x
    exact ⟨z, y, xs, Paired.mapP r fun p q z => ⟨z.1, ht _ _ z.2.1, z.2.2⟩, ob, es, ep, k _ _ (.inl rfl) e, c⟩
  | set S n => obtain ⟨ob, es, ep, t, e, c⟩ := x; exact ⟨ob, es, ep, t, k _ _ (.inl rfl) e, c⟩
  | ins C dx fs =>
    obtain ⟨d, z, ne, e, mA, ⟨od, es, ep, e2, c⟩, r⟩ := x
    exact ⟨ho _ d, z, ne, k _ _ (.inl rfl) e, mA, ⟨od, es, ep, k _ _ (.inr d) e2, c⟩, r⟩
  | own y => obtain ⟨ob, e⟩ := x; exact ⟨ob, k _ _ (.inl rfl) e⟩
  | xd fs => obtain ⟨mA, ⟨od, es, ep, e, c⟩, r⟩ := x; exact ⟨mA, ⟨od, es, ep, k _ _ (.inl rfl) e, c⟩, r⟩
  | rng lo hi => obtain ⟨t, u, v, e⟩ := x; exact ⟨t, u, v, k _ _ (.inl rfl) e⟩
  | frz ob u ih => obtain ⟨e, q⟩ := x; exact ⟨k _ _ (.inl rfl) e, ih q⟩
  | tbl ps =>
    have e : h.get? a = some { cls := .none, data := .fields ps } := x
    show h'.get? a = some { cls := .none, data := .fields ps }
    exact k a _ (.inl rfl) e
  | met f y =>
    have e : h.get? a = some (PySem.W.methodObj (.ref f) (.ref y)) := x
    show h'.get? a = some (PySem.W.methodObj (.ref f) (.ref y))
    exact k a _ (.inl rfl) e
  | ext φ => obtain ⟨p, ⟨o, e⟩, st⟩ := x; exact ⟨st _ _ p fun o q => k _ _ (.inl rfl) q, ⟨o, k _ _ (.inl rfl) e⟩, st⟩
theorem HOk.lt (x : HOk P w H h) (e : H a = some o) : a < h.objs.size := (x a o e).lt
theorem HOk.fresh (x : HOk P w H h) (e : h.objs.size ≤ a) : H a = none := by
  cases q : H a with
  | none => rfl
  | some u => exact absurd (Nat.lt_of_lt_of_le (x.lt q) e) (Nat.lt_irrefl _)
/-- every object of the heap is kept -/
theorem HOk.kept (x : HOk P w H h) (k : ∀ b u, h.get? b = some u → h'.get? b = some u) : HOk P w H h' := fun a o e =>
  (x a o e).stay (fun b u _ q => k b u q) (fun _ q => q) fun _ _ q => q
/-- a new object is laid and tracked -/
theorem HOk.laid (x : HOk P w H h) (k : ∀ b u, h.get? b = some u → h'.get? b = some u) (hp : h.objs.size ≤ a) (new : ObjOk P w (upd H a o) h' a o) : HOk P w (upd H a o) h' := fun b u e => by
  have hn := x.fresh hp
  by_cases hb : b = a
  · subst hb; rw [upd_same] at e; cases e; exact new
  · rw [upd_ne hb] at e
    exact (x b u e).stay (fun c v _ q => k c v q) (fun c q => by rw [upd_ne (ne_of_none q hn)]; exact q) fun c xs q => by rw [upd_ne (ne_of_none q hn)]; exact q
end

/-- what may be read as u: it is u, or a known u -/
def Rd (H : Hp) (a : Addr) (u : HO) : Prop := H a = some u ∨ ∃ o, H a = some (.frz o u)
theorem Rd.ok {P : Program} {w : World} {H : Hp} {h : Heap} {a : Addr} {u : HO} (r : Rd H a u) (x : HOk P w H h) : ObjOk P w H h a u := by
  rcases r with r | ⟨o, r⟩
  · exact x a u r
  · obtain ⟨_, q⟩ := x a _ r
    exact q
/-- what may be written -/
def Mut : Option HO → Prop
  | some (.lst _) => True
  | some (.dK _) => True
  | some (.dT _) => True
  | some (.set _ _) => True
  | some (.ins _ _ _) => True
  | some (.ext _) => True
  | _ => False
section
variable {P : Program} {w : World} {H : Hp} {h h' : Heap} {x e : Addr} {o' : HO}
/-- the object at e is changed: x itself, or the dict of the instance x -/
theorem HOk.write (ok : HOk P w H h) (mu : Mut (H x)) (he : e = x ∨ H e = some (.own x)) (k : ∀ b u, b ≠ e → h.get? b = some u → h'.get? b = some u) (heo : ∃ u, h'.get? e = some u)
    (new : ObjOk P w (upd H x o') h' x o') : HOk P w (upd H x o') h' := fun b u q => by
  have nown : ∀ c y, H c = some (.own y) → c ≠ x := fun c y r z => by subst z; rw [r] at mu; exact mu
  have ntup : ∀ c xs, H c = some (.tup xs) → c ≠ x := fun c xs r z => by subst z; rw [r] at mu; exact mu
  by_cases hb : b = x
  · subst hb; rw [upd_same] at q; cases q; exact new
  · rw [upd_ne hb] at q
    by_cases hbe : b = e
    · have q' : H b = some (.own x) := by
        rcases he with z | z
        · exact absurd (hbe.trans z) hb
        · rw [hbe]; exact z
      rw [q] at q'; cases q'
      obtain ⟨v, hv⟩ := heo
      exact ⟨v, by rw [hbe]; exact hv⟩
    · refine (ok b u q).stay (fun c v hc r => k c v ?_ r) (fun c r => by rw [upd_ne (nown c b r)]; exact r) fun c xs r => by rw [upd_ne (ntup c xs r)]; exact r
      rcases hc with rfl | hc
      · exact hbe
      · rintro rfl
        rcases he with z | z
        · exact nown c b hc z
        · rw [hc] at z; cases z; exact hb rfl
end

/-! ### kept unless tracked; of the frames at fs (the callers') the slots may change (an exception that passes writes there); of the records at ex (iterators) nothing is said -/
structure Un (fs ex : List Addr) (H H' : Hp) (h h' : Heap) : Prop where
  keep : ∀ b o, h.get? b = some o → H b = none → b ∉ fs → b ∉ ex → h'.get? b = some o
  slot : ∀ b o, h.get? b = some o → H b = none → b ∈ fs → b ∉ ex → ∃ sl, h'.get? b = some { o with slots := sl }
  free : ∀ b o, h.get? b = some o → H b = none → b ∉ ex → H' b = none
  there : ∀ b o, h.get? b = some o → b ∉ ex → ∃ o', h'.get? b = some o'
  tups : ∀ b xs, H b = some (.tup xs) → H' b = some (.tup xs)
  frzs : ∀ b o u, H b = some (.frz o u) → H' b = some (.frz o u)
  tbls : ∀ b ps, H b = some (.tbl ps) → ∃ more, H' b = some (.tbl (ps ++ more))
section
variable {fs fs' ex ex' : List Addr} {H H1 H2 : Hp} {h h1 h2 h' : Heap} {a x e : Addr} {o : HO}
theorem Un.any (u : Un fs ex H H1 h h1) {b : Addr} {ob : Obj} (q : h.get? b = some ob) (n : H b = none) (hx : b ∉ ex) : ∃ sl, h1.get? b = some { ob with slots := sl } := by
  by_cases hb : b ∈ fs
  · exact u.slot b ob q n hb hx
  · exact ⟨ob.slots, u.keep b ob q n hb hx⟩
theorem Un.kept (k : ∀ b u, h.get? b = some u → h'.get? b = some u) : Un fs ex H H h h' :=
  ⟨fun b ob q _ _ _ => k b ob q, fun b ob q _ _ _ => ⟨ob.slots, k b ob q⟩, fun _ _ _ n _ => n, fun b ob q _ => ⟨ob, k b ob q⟩, fun _ _ q => q, fun _ _ _ q => q, fun _ ps q => ⟨#[], by rw [q]; simp⟩⟩
theorem Un.refl : Un fs ex H H h h := Un.kept fun _ _ q => q
theorem Un.laid (k : ∀ b u, h.get? b = some u → h'.get? b = some u) (hp : h.objs.size ≤ a) (hn : H a = none) : Un fs ex H (upd H a o) h h' where
  keep := fun b u q _ _ _ => k b u q
  slot := fun b u q _ _ _ => ⟨u.slots, k b u q⟩
  free := fun b u q n _ => by rw [upd_ne (Nat.ne_of_lt (Nat.lt_of_lt_of_le (Heap.lt_size q) hp))]; exact n
  there := fun b u q _ => ⟨u, k b u q⟩
  tups := fun b xs q => by rw [upd_ne (ne_of_none q hn)]; exact q
  frzs := fun b u xs q => by rw [upd_ne (ne_of_none q hn)]; exact q
  tbls := fun b ps q => ⟨#[], by rw [upd_ne (ne_of_none q hn), q]; simp⟩
theorem Un.write (mu : Mut (H x)) (he : e = x ∨ H e = some (.own x)) (k : ∀ b u, b ≠ e → h.get? b = some u → h'.get? b = some u) (heo : ∃ u, h'.get? e = some u) : Un fs ex H (upd H x o) h h' := by
  have hx : ∀ b, H b = none → b ≠ x := fun b n z => by subst z; rw [n] at mu; exact mu
  have hb : ∀ b, H b = none → b ≠ e := fun b n z => by
    subst z
    rcases he with r | r
    · exact hx b n r
    · rw [n] at r; cases r
  have hm : ∀ b u, H b = some u → ¬ Mut (some u) → b ≠ x := fun b u q nm z => by subst z; rw [q] at mu; exact nm mu
  refine ⟨fun b u q n _ _ => k b u (hb b n) q, fun b u q n _ _ => ⟨u.slots, k b u (hb b n) q⟩, fun b u q n _ => by rw [upd_ne (hx b n)]; exact n, fun b u q _ => ?_,
    fun b xs q => by rw [upd_ne (hm b _ q fun z => z)]; exact q, fun b u xs q => by rw [upd_ne (hm b _ q fun z => z)]; exact q, fun b ps q => ⟨#[], by rw [upd_ne (hm b _ q fun z => z), q]; simp⟩⟩
  by_cases hbe : b = e
  · subst hbe; exact heo
  · exact ⟨u, k b u hbe q⟩
end

/-! ### the heap without what is tracked -/
def trk (h : Heap) (H : Hp) : List Addr := (List.range h.objs.size).filter fun a => (H a).isSome
def hidT (h : Heap) (H : Hp) : Heap := PySem.W.hideAll h (trk h H)
theorem hidT_size (h : Heap) (H : Hp) : (hidT h H).objs.size = h.objs.size := PySem.W.hideAll_size _ _
theorem hidT_get {h : Heap} {H : Hp} {b : Addr} {o : Obj} (e : h.get? b = some o) (n : H b = none) : (hidT h H).get? b = some o :=
  PySem.W.hideAll_get _ e fun hm => by
    have q : (H b).isSome = true := (List.mem_filter.mp hm).2
    rw [n] at q; simp at q
theorem of_hidT {h : Heap} {H : Hp} {b : Addr} {o : Obj} (e : (hidT h H).get? b = some o) : h.get? b = some o ∧ H b = none := by
  have e' : h.get? b = some o := PySem.W.of_hideAll (trk h H) e
  refine ⟨e', ?_⟩
  cases q : H b with
  | none => rfl
  | some x =>
    have hm : b ∈ trk h H := List.mem_filter.mpr ⟨List.mem_range.mpr (Heap.lt_size e'), by simp [q]⟩
    have z : (hidT h H).get? b = none := PySem.W.hideAll_none (trk h H) hm
    rw [z] at e; cases e

/-! ### OpenK's ledger, filled with every new object but one -/
def allNews (g h : Heap) (L : Addr) : List (Addr × Obj) := (List.range h.objs.size).filterMap fun a => if a = L ∨ (g.get? a).isSome = true then none else (h.get? a).map fun o => (a, o)
theorem mem_allNews {g h : Heap} {L a : Addr} {o : Obj} (h1 : a ≠ L) (h2 : g.get? a = none) (h3 : h.get? a = some o) : (a, o) ∈ allNews g h L :=
  List.mem_filterMap.mpr ⟨a, List.mem_range.mpr (Heap.lt_size h3), by simp [h1, h2, h3]⟩
theorem of_mem_allNews {g h : Heap} {L : Addr} {p : Addr × Obj} (hp : p ∈ allNews g h L) : p.1 ≠ L ∧ g.get? p.1 = none ∧ h.get? p.1 = some p.2 := by
  obtain ⟨b, _, e⟩ := List.mem_filterMap.mp hp
  split at e
  · cases e
  · rename_i hn
    cases q : h.get? b with
    | none => rw [q] at e; simp at e
    | some u =>
      rw [q] at e
      simp only [Option.map_some, Option.some.injEq] at e
      subst e
      refine ⟨fun z => hn (.inl z), ?_, q⟩
      show g.get? b = none
      cases r : g.get? b with
      | none => rfl
      | some v => exact (hn (.inr (by simp [r]))).elim
theorem news_all {g h : Heap} {L : Addr} : News g L h (allNews g h L) := fun p hp => let ⟨a, b, c⟩ := of_mem_allNews hp; ⟨c, a, b⟩
end L2

namespace L2
open PySem PySem.Spec PyProof.Rows

/-- the module's facts, over the base: the heap at the law's entry without what is tracked there -/
structure Mod (K : PySem.W.Frag) (mg : Str → Option Value) (base : Heap) : Prop where
  kin : K.In base
  glob : base.Ns mainGlobals mg
  blt : ∃ mb, base.Ns builtinsNs mb ∧ ∀ x : Str, x ≠ "__name__" → mb x = bootBuiltins x
  nolimit : base.NoLimit

/-- the context: a def's body (or a comprehension's block) running. base: fixed through the whole law; s₀, H₀: the entry; outer: the frames whose slots others may change (a def's callers); stack: all frames that run;
   ex: iterators that were made ahead of the entry and are walked here (a comprehension's); fn: the names whose cells were made at the entry (a def: all; a comprehension's block: its own); calm: not within an except suite; pn: pins that every state bears; xe: what is wanted of an exception that leaves the code -/
structure Cx where
  prog : Program
  w : World
  K : PySem.W.Frag
  mg : Str → Option Value
  base : Heap
  A : Around
  N : List Str
  s₀ : Shared
  H₀ : Hp
  env : Env
  outer : List Env
  stack : List Env
  ex : List Addr
  fn : Str → Bool
  calm : Bool
  pn : List (Addr × Obj)
  xe : Value → Shared → Prop
/-- the callers' frames -/
def frs (l : List Env) : List Addr := l.filterMap (·.frame)
abbrev Cx.fs (X : Cx) : List Addr := frs X.outer

def Vis (sc : Scope) (x : Str) : Prop := sc.names.lookup x = some .local ∨ sc.names.lookup x = some .cell ∨ sc.names.lookup x = some .free
def Loc (sc : Scope) (x : Str) : Prop := sc.names.lookup x = some .local ∨ sc.names.lookup x = some .cell
def Look (env : Env) (h : Heap) (m : Str → Option Value) (x : Str) (u : Value) : Prop :=
  (env.kindOf x = some .local ∧ m x = some u) ∨ ((env.kindOf x = some .cell ∨ env.kindOf x = some .free) ∧ ∃ c, env.cells.lookup x = some c ∧ h.IsCell c (some u))

structure Cx.Ok (X : Cx) : Prop where
  mod : Mod X.K X.mg X.base
  kind : X.env.scope.kind = .function
  glob : X.env.globals = mainGlobals
  blt : X.env.builtins = builtinsNs
  above : X.s₀.heap.objs.size ≤ X.env.locals
  inj : ∀ x y c, X.env.cells.lookup x = some c → X.env.cells.lookup y = some c → x = y
  has : ∀ x, (X.env.kindOf x = some .cell ∨ X.env.kindOf x = some .free) → ∃ c, X.env.cells.lookup x = some c
  cab : ∀ x c, X.fn x = true → X.env.cells.lookup x = some c → X.s₀.heap.objs.size ≤ c
  hd : X.calm = true → X.A.handled = none
  frames : X.A.frames = some X.stack
  stk : X.stack = X.outer ∨ (X.stack = X.env :: X.outer ∧ X.env.frame = some X.env.locals)
  exf : ∀ b ∈ X.ex, b ≠ X.env.locals ∧ ∀ x c, X.env.cells.lookup x = some c → c ≠ b
  bs : ∀ b o, X.base.get? b = some o → X.s₀.heap.get? b = some o ∧ X.H₀ b = none
  bsz : X.base.objs.size ≤ X.s₀.heap.objs.size
  noex : ∀ b o, X.base.get? b = some o → b ∉ X.ex
  exfs : ∀ b ∈ X.ex, b ∉ X.fs
  funs : X.s₀.heap.FunFrames X.base X.outer
  frf : ∀ b ∈ X.fs, X.H₀ b = none

structure Inv (X : Cx) (pins : List (Addr × Obj)) (σ : List (Option V)) (H : Hp) (s : Shared) : Prop where
  ok : X.Ok
  os : s.os = X.s₀.os
  bare : AllBare s.gens
  base : Un X.fs X.ex X.H₀ H X.s₀.heap s.heap
  loc : ∃ m, s.heap.Ns X.env.locals m ∧ ∀ (i : Nat) (x : Str) (v : V), X.N[i]? = some x → σ[i]? = some (some v) → Vis X.env.scope x → ∃ u, RelV v u ∧ Look X.env s.heap m x u
  cell : ∀ x c, X.env.cells.lookup x = some c → ∃ v, s.heap.IsCell c v
  free : H X.env.locals = none
  freeC : ∀ x c, X.env.cells.lookup x = some c → H c = none
  pin : ∀ p ∈ X.pn ++ pins, s.heap.get? p.1 = some p.2 ∧ H p.1 = none ∧ p.1 ≠ X.env.locals ∧ p.1 ∉ X.fs ∧ ∀ v, p.2.data ≠ .cell v
  hok : HOk X.prog X.w H s.heap
  len : σ.length = X.N.length

section
variable {X : Cx} {pins : List (Addr × Obj)} {σ : List (Option V)} {H H' : Hp} {s : Shared} {h' : Heap}

theorem Cx.Ok.nofr (ok : X.Ok) {b : Addr} {o : Obj} (e : X.base.get? b = some o) : b ∉ X.fs := fun hb => by
  have := (ok.funs.mem hb).1
  rw [e] at this; cases this
theorem Inv.bs (I : Inv X pins σ H s) : ∀ b o, X.base.get? b = some o → s.heap.get? b = some o ∧ H b = none := fun b o e =>
  ⟨I.base.keep b o (I.ok.bs b o e).1 (I.ok.bs b o e).2 (I.ok.nofr e) (I.ok.noex b o e), I.base.free b o (I.ok.bs b o e).1 (I.ok.bs b o e).2 (I.ok.noex b o e)⟩
theorem Inv.bk (I : Inv X pins σ H s) : ∀ b o, X.base.get? b = some o → s.heap.get? b = some o := fun b o e => (I.bs b o e).1
theorem Inv.mod (I : Inv X pins σ H s) : Mod X.K X.mg X.base := I.ok.mod
theorem Inv.kIn (I : Inv X pins σ H s) : X.K.In s.heap := I.ok.mod.kin.keeps I.bk
theorem Inv.nolimit (I : Inv X pins σ H s) : s.heap.NoLimit := I.ok.mod.nolimit.keeps I.bk
/-- the frame over the base: for OpenK's rules (K.In X.base is I.mod.kin) -/
theorem Inv.fr (I : Inv X pins σ H s) : ∃ m, Fr X.base X.env.locals s.heap m :=
  let ⟨m, hn, _⟩ := I.loc
  ⟨m, hn, I.bk, Nat.le_trans I.ok.bsz I.ok.above⟩
theorem Inv.lt (I : Inv X pins σ H s) : X.env.locals < s.heap.objs.size := let ⟨_, hn, _⟩ := I.loc; hn.lt
theorem Inv.sz (I : Inv X pins σ H s) : X.s₀.heap.objs.size ≤ s.heap.objs.size := Nat.le_trans I.ok.above (Nat.le_of_lt I.lt)
theorem Inv.nofs (I : Inv X pins σ H s) {a : Addr} (h : s.heap.objs.size ≤ a) : a ∉ X.fs := fun hb => by
  obtain ⟨_, o, ho, _⟩ := I.ok.funs.mem hb
  exact absurd (Nat.lt_of_lt_of_le (Heap.lt_size ho) (Nat.le_trans I.sz h)) (Nat.lt_irrefl _)
theorem Inv.cne (I : Inv X pins σ H s) : ∀ x c, X.env.cells.lookup x = some c → c ≠ X.env.locals := fun x c e z => by
  obtain ⟨v, o, ho, hd⟩ := I.cell x c e
  obtain ⟨m, ⟨o', es, ep, ho', hd', _⟩, _⟩ := I.loc
  rw [z, ho'] at ho; cases ho; rw [hd'] at hd; cases hd
theorem Inv.funs (I : Inv X pins σ H s) : s.heap.FunFrames X.base X.outer := by
  have all : ∀ (l : List Env), (∀ b ∈ frs l, b ∈ X.fs) → X.s₀.heap.FunFrames X.base l → s.heap.FunFrames X.base l := by
    intro l
    induction l with
    | nil => intro _ _; trivial
    | cons env r ih =>
      intro hs hl
      obtain ⟨hk, ⟨L, o, hf, hn, ho, hd⟩, hr⟩ := hl
      have hL : L ∈ X.fs := hs L (by unfold frs; rw [List.filterMap_cons, hf]; exact List.mem_cons_self)
      obtain ⟨sl, e⟩ := I.base.slot L o ho (I.ok.frf L hL) hL fun z => I.ok.exfs L z hL
      exact ⟨hk, ⟨L, _, hf, hn, e, hd⟩, ih (fun b hb => hs b (by unfold frs; rw [List.filterMap_cons, hf]; exact List.mem_cons_of_mem _ hb)) hr⟩
  exact all X.outer (fun _ hb => hb) I.ok.funs

/-- the frames that run, for a call -/
theorem Inv.stack (I : Inv X pins σ H s) : s.heap.FunFrames X.base X.stack := by
  rcases I.ok.stk with e | ⟨e, hf⟩
  · rw [e]; exact I.funs
  · rw [e]
    obtain ⟨m, hn, _⟩ := I.loc
    refine .cons (by rw [I.ok.kind]; decide) hf hn ?_ I.funs
    exact Heap.get?_none_of_le (Nat.le_trans I.ok.bsz I.ok.above)
theorem Inv.stkSub (I : Inv X pins σ H s) : ∀ b ∈ frs X.stack, b ∈ X.env.locals :: X.fs := fun b hb => by
  rcases I.ok.stk with e | ⟨e, hf⟩
  · rw [e] at hb; exact List.mem_cons_of_mem _ hb
  · rw [e] at hb
    unfold frs at hb
    rw [List.filterMap_cons, hf] at hb
    exact hb
theorem Inv.stkFree (I : Inv X pins σ H s) : ∀ b ∈ frs X.stack, H b = none := fun b hb => by
  rcases List.mem_cons.mp (I.stkSub b hb) with e | hb
  · rw [e]; exact I.free
  · obtain ⟨_, o, ho, _⟩ := I.ok.funs.mem hb
    exact I.base.free b o ho (I.ok.frf b hb) fun z => I.ok.exfs b z hb

/-- THE STEP: the untracked objects but the frame and the records at ch are kept (the callers' frames up to slots), the frame's map is kept, the new abstract heap is held -/
theorem Inv.step {g' : Array GenState} {t' : Nat} {d' : Drawn} {ch : List Addr} (I : Inv X pins σ H s)
    (hch : ∀ b ∈ ch, (b ∈ X.ex ∨ X.s₀.heap.objs.size ≤ b) ∧ b ≠ X.env.locals ∧ (∀ x c, X.env.cells.lookup x = some c → c ≠ b) ∧ ∀ p ∈ X.pn ++ pins, p.1 ≠ b)
    (keep : ∀ b o, b ≠ X.env.locals → b ∉ X.fs → b ∉ ch → s.heap.get? b = some o → H b = none → h'.get? b = some o)
    (slot : ∀ b o, b ≠ X.env.locals → b ∈ X.fs → b ∉ ch → s.heap.get? b = some o → H b = none → ∃ sl, h'.get? b = some { o with slots := sl }) (free : ∀ b o, b ∉ ch → s.heap.get? b = some o → H b = none → H' b = none)
    (there : ∀ b o, b ∉ ch → s.heap.get? b = some o → ∃ o', h'.get? b = some o')
    (tups : ∀ b xs, H b = some (.tup xs) → H' b = some (.tup xs)) (frzs : ∀ b o u, H b = some (.frz o u) → H' b = some (.frz o u)) (tbls : ∀ b ps, H b = some (.tbl ps) → ∃ more, H' b = some (.tbl (ps ++ more)))
    (ns : ∀ m, s.heap.Ns X.env.locals m → h'.Ns X.env.locals m) (hok : HOk X.prog X.w H' h') (hg : AllBare g') :
    Inv X pins σ H' { s with heap := h', gens := g', drawn := d', toks := t' } := by
  have neL : ∀ b o, X.s₀.heap.get? b = some o → b ≠ X.env.locals := fun b o e => Nat.ne_of_lt (Nat.lt_of_lt_of_le (Heap.lt_size e) I.ok.above)
  have neC : ∀ b o, X.s₀.heap.get? b = some o → b ∉ X.ex → b ∉ ch := fun b o e hx hb => by
    rcases (hch b hb).1 with z | z
    · exact hx z
    · exact absurd (Nat.lt_of_lt_of_le (Heap.lt_size e) z) (Nat.lt_irrefl _)
  have cellK : ∀ x c, X.env.cells.lookup x = some c → ∀ v, s.heap.IsCell c v → h'.IsCell c v := fun x c e v ⟨o, ho, hd⟩ => by
    have nch : c ∉ ch := fun z => (hch c z).2.2.1 x c e rfl
    by_cases hc : c ∈ X.fs
    · obtain ⟨sl, q⟩ := slot c o (I.cne x c e) hc nch ho (I.freeC x c e)
      exact ⟨_, q, hd⟩
    · exact ⟨o, keep c o (I.cne x c e) hc nch ho (I.freeC x c e), hd⟩
  refine ⟨I.ok, I.os, hg, ⟨fun b o e n hb hx => ?_, fun b o e n hb hx => ?_, fun b o e n hx => ?_, fun b o e hx => ?_, fun b xs e => tups b xs (I.base.tups b xs e), fun b o xs e => frzs b o xs (I.base.frzs b o xs e), fun b ps e => ?_⟩, ?_, fun x c e => ?_, ?_, fun x c e => ?_, fun p hp => ?_, hok, I.len⟩
  · exact keep b o (neL b o e) hb (neC b o e hx) (I.base.keep b o e n hb hx) (I.base.free b o e n hx)
  · obtain ⟨sl, e1⟩ := I.base.slot b o e n hb hx
    obtain ⟨sl', e2⟩ := slot b _ (neL b o e) hb (neC b o e hx) e1 (I.base.free b o e n hx)
    exact ⟨sl', e2⟩
  · obtain ⟨o', e1⟩ := I.base.there b o e hx
    exact free b o' (neC b o e hx) e1 (I.base.free b o e n hx)
  · obtain ⟨o', e1⟩ := I.base.there b o e hx
    exact there b o' (neC b o e hx) e1
  · obtain ⟨m1, e1⟩ := I.base.tbls b ps e
    obtain ⟨m2, e2⟩ := tbls b _ e1
    exact ⟨m1 ++ m2, by rw [e2, Array.append_assoc]⟩
  · obtain ⟨m, hn, hl⟩ := I.loc
    refine ⟨m, ns m hn, fun i x v e1 e2 e3 => ?_⟩
    obtain ⟨u, r, l⟩ := hl i x v e1 e2 e3
    refine ⟨u, r, ?_⟩
    rcases l with l | ⟨k, c, e, z⟩
    · exact .inl l
    · exact .inr ⟨k, c, e, cellK x c e _ z⟩
  · obtain ⟨v, z⟩ := I.cell x c e
    exact ⟨v, cellK x c e v z⟩
  · obtain ⟨m, ⟨o, _, _, ho, _⟩, _⟩ := I.loc
    exact free _ o (fun z => (hch _ z).2.1 rfl) ho I.free
  · obtain ⟨v, o, ho, hd⟩ := I.cell x c e
    exact free c o (fun z => (hch c z).2.2.1 x c e rfl) ho (I.freeC x c e)
  · obtain ⟨e, n, ne, nf, d⟩ := I.pin p hp
    have nch : p.1 ∉ ch := fun z => (hch p.1 z).2.2.2 p hp rfl
    exact ⟨keep p.1 p.2 ne nf nch e n, free p.1 p.2 nch e n, ne, nf, d⟩
/-- .. where the frame's own object is kept too -/
theorem Inv.un {t' : Nat} (I : Inv X pins σ H s) (u : Un X.fs [] H H' s.heap h') (hok : HOk X.prog X.w H' h') : Inv X pins σ H' { s with heap := h', toks := t' } := by
  obtain ⟨m, ⟨o, es, ep, ho, r⟩, _⟩ := id I.loc
  obtain ⟨sl, hL⟩ := u.any ho I.free (by simp)
  exact I.step (g' := s.gens) (d' := s.drawn) (ch := []) (fun _ z => nomatch z) (fun b o _ hb _ e n => u.keep b o e n hb (by simp)) (fun b o _ hb _ e n => u.slot b o e n hb (by simp)) (fun b o _ e n => u.free b o e n (by simp)) (fun b o _ e => u.there b o e (by simp)) u.tups u.frzs u.tbls (fun m' hm => by
    obtain ⟨o', es', ep', ho', r'⟩ := hm
    rw [ho] at ho'; cases ho'
    exact ⟨_, es', ep', hL, r'⟩) hok I.bare
/-- behind a call (or a comprehension's block): the slots of this frame may have changed too, the records at ch may have turned -/
theorem Inv.call {g' : Array GenState} {t' : Nat} {d' : Drawn} {ch : List Addr} (I : Inv X pins σ H s) (u : Un (frs X.stack) ch H H' s.heap h') (hok : HOk X.prog X.w H' h') (hg : AllBare g')
    (hch : ∀ b ∈ ch, (b ∈ X.ex ∨ X.s₀.heap.objs.size ≤ b) ∧ b ≠ X.env.locals ∧ (∀ x c, X.env.cells.lookup x = some c → c ≠ b) ∧ ∀ p ∈ X.pn ++ pins, p.1 ≠ b) :
    Inv X pins σ H' { s with heap := h', gens := g', drawn := d', toks := t' } := by
  obtain ⟨m, ⟨o, es, ep, ho, r⟩, _⟩ := id I.loc
  obtain ⟨sl, hL⟩ := u.any ho I.free fun z => (hch _ z).2.1 rfl
  exact I.step (ch := ch) hch (fun b o hL hb hc e n => u.keep b o e n (fun z => (List.mem_cons.mp (I.stkSub b z)).elim hL hb) hc) (fun b o _ _ hc e n => u.any e n hc) (fun b o hc e n => u.free b o e n hc) (fun b o hc e => u.there b o e hc) u.tups u.frzs u.tbls (fun m' hm => by
    obtain ⟨o', es', ep', ho', r'⟩ := hm
    rw [ho] at ho'; cases ho'
    exact ⟨_, es', ep', hL, r'⟩) hok hg
/-- an untracked record of ours (an iterator) has turned -/
theorem Inv.turned {t' : Nat} {it : Addr} (I : Inv X pins σ H s) (k : ∀ b o, b ≠ it → s.heap.get? b = some o → h'.get? b = some o) (hn : H it = none) (hL : it ≠ X.env.locals)
    (h1 : it ∈ X.ex ∨ X.s₀.heap.objs.size ≤ it) (h2 : ∀ x c, X.env.cells.lookup x = some c → c ≠ it) (h3 : ∀ p ∈ X.pn ++ pins, p.1 ≠ it) : Inv X pins σ H { s with heap := h', toks := t' } := by
  have nit : ∀ b u, H b = some u → b ≠ it := fun b u e z => by rw [z, hn] at e; cases e
  refine I.step (g' := s.gens) (d' := s.drawn) (ch := [it]) (fun b hb => ?_) (fun b o _ _ hc e _ => k b o (fun z => hc (by simp [z])) e) (fun b o _ _ hc e _ => ⟨o.slots, k b o (fun z => hc (by simp [z])) e⟩) (fun _ _ _ _ n => n)
    (fun b o hc e => ⟨o, k b o (fun z => hc (by simp [z])) e⟩) (fun _ _ e => e) (fun _ _ _ e => e) (fun b ps e => ⟨#[], by rw [e]; simp⟩) (fun m hm => ?_) (fun b u e => ?_) I.bare
  · have e : b = it := by simpa using hb
    subst e
    exact ⟨h1, hL, h2, h3⟩
  · obtain ⟨o, es, ep, ho, r⟩ := hm
    exact ⟨o, es, ep, k _ o (Ne.symm hL) ho, r⟩
  · refine (I.hok b u e).stay (fun c v hc q => k c v ?_ q) (fun _ q => q) fun _ _ q => q
    rcases hc with z | z
    · rw [z]; exact nit b u e
    · exact nit c _ z
theorem Inv.tok (I : Inv X pins σ H s) (t : Nat) : Inv X pins σ H { s with toks := t } := I.un (h' := s.heap) (t' := t) Un.refl I.hok
/-- all objects kept -/
theorem Inv.kept {t' : Nat} (I : Inv X pins σ H s) (k : ∀ b u, s.heap.get? b = some u → h'.get? b = some u) : Inv X pins σ H { s with heap := h', toks := t' } := I.un (Un.kept k) (I.hok.kept k)
/-- a new object laid and tracked -/
theorem Inv.laid {a : Addr} {o : HO} {t' : Nat} (I : Inv X pins σ H s) (k : ∀ b u, s.heap.get? b = some u → h'.get? b = some u) (hp : s.heap.objs.size ≤ a) (new : ObjOk X.prog X.w (upd H a o) h' a o) :
    Inv X pins σ (upd H a o) { s with heap := h', toks := t' } := I.un (Un.laid k hp (I.hok.fresh hp)) (I.hok.laid k hp new)
/-- an object written -/
theorem Inv.write {x e : Addr} {o : HO} {t' : Nat} (I : Inv X pins σ H s) (mu : Mut (H x)) (he : e = x ∨ H e = some (.own x)) (k : ∀ b u, b ≠ e → s.heap.get? b = some u → h'.get? b = some u) (heo : ∃ u, h'.get? e = some u)
    (new : ObjOk X.prog X.w (upd H x o) h' x o) : Inv X pins σ (upd H x o) { s with heap := h', toks := t' } := I.un (Un.write mu he k heo) (I.hok.write mu he k heo new)
theorem Inv.pins_of {pins' : List (Addr × Obj)} (I : Inv X pins σ H s) (h : ∀ p ∈ pins', s.heap.get? p.1 = some p.2 ∧ H p.1 = none ∧ p.1 ≠ X.env.locals ∧ p.1 ∉ X.fs ∧ ∀ v, p.2.data ≠ .cell v) : Inv X pins' σ H s :=
  ⟨I.ok, I.os, I.bare, I.base, I.loc, I.cell, I.free, I.freeC, fun p hp => (List.mem_append.mp hp).elim (fun z => I.pin p (List.mem_append_left _ z)) (h p), I.hok, I.len⟩

theorem nodup_ix {N : List Str} (hN : N.Nodup) {i j : Nat} {x : Str} (a : N[i]? = some x) (b : N[j]? = some x) : i = j := by
  obtain ⟨h1, e1⟩ := List.getElem?_eq_some_iff.mp a
  obtain ⟨h2, e2⟩ := List.getElem?_eq_some_iff.mp b
  exact (List.getElem_inj hN).mp (e1.trans e2.symm)

/-- a name is stored; what changed -/
theorem store_ok2 {M : Model} {A : Around} {E : Value → Shared → Prop} {i : Nat} {x : Str} {v : V} {u : Value} {Q : Unit → Shared → Prop} (I : Inv X pins σ H s) (hN : X.N.Nodup) (hi : X.N[i]? = some x) (hx : Loc X.env.scope x) (r : RelV v u)
    (h : ∀ s', Inv X pins (σ.set i (some v)) H s' → (∃ a, Heap.SameBut a s.heap s'.heap ∧ (a = X.env.locals ∨ X.env.cells.lookup x = some a)) → Q () s') (hf : X.fn x = true ∨ X.env.scope.names.lookup x = some .local := by first | exact .inl rfl | exact .inr rfl | assumption) : wpAny M A (storeName X.env x u) Q E s := by
  obtain ⟨m, hn, hl⟩ := id I.loc
  have hcls : (X.env.scope.kind == .class || (X.env.scope.kind == .module && X.env.locals != X.env.globals)) = false := by rw [I.ok.kind]; rfl
  have hiσ : i < σ.length := by rw [I.len]; exact (List.getElem?_eq_some_iff.mp hi).1
  have cne := I.cne
  have tracked : ∀ {a : Addr} {h' : Heap}, (∃ o, s.heap.get? a = some o ∧ H a = none) → Heap.SameBut a s.heap h' → HOk X.prog X.w H h' := fun {a h'} ha hs b ob e => by
    obtain ⟨_, _, hfree⟩ := ha
    refine (I.hok b ob e).stay (fun c w' hc q => (hs.2 c ?_).trans q) (fun _ q => q) fun _ _ q => q
    rintro rfl
    rcases hc with rfl | hc
    · rw [hfree] at e; cases e
    · rw [hfree] at hc; cases hc
  rcases hx with hk | hk
  · refine wpAny_storeName_local hk hn (fun h' hn' hs => ?_) hcls
    obtain ⟨oL, _, _, hoL, _⟩ := id hn
    refine h _ ⟨I.ok, I.os, I.bare, ⟨fun b o e n hb hx => ?_, fun b o e n hb hx => ?_, I.base.free, fun b o e hx => ?_, I.base.tups, I.base.frzs, I.base.tbls⟩, ⟨_, hn', fun j y v' e1 e2 e3 => ?_⟩, fun y c e => ?_, I.free, I.freeC, fun p hp => ?_, tracked ⟨oL, hoL, I.free⟩ hs, by simpa using I.len⟩ ⟨_, hs, .inl rfl⟩
    · exact (hs.2 b (Nat.ne_of_lt (Nat.lt_of_lt_of_le (Heap.lt_size e) I.ok.above))).trans (I.base.keep b o e n hb hx)
    · obtain ⟨sl, e1⟩ := I.base.slot b o e n hb hx
      exact ⟨sl, (hs.2 b (Nat.ne_of_lt (Nat.lt_of_lt_of_le (Heap.lt_size e) I.ok.above))).trans e1⟩
    · obtain ⟨o', e1⟩ := I.base.there b o e hx
      exact ⟨o', (hs.2 b (Nat.ne_of_lt (Nat.lt_of_lt_of_le (Heap.lt_size e) I.ok.above))).trans e1⟩
    · by_cases hj : j = i
      · subst hj
        rw [hi] at e1; cases e1
        rw [List.getElem?_set_self hiσ] at e2
        cases e2
        exact ⟨u, r, .inl ⟨hk, by simp⟩⟩
      · rw [List.getElem?_set_ne (Ne.symm hj)] at e2
        obtain ⟨u', r', q⟩ := hl j y v' e1 e2 e3
        refine ⟨u', r', ?_⟩
        rcases q with ⟨k, e⟩ | ⟨k, c, e, z⟩
        · refine .inl ⟨k, ?_⟩
          have : y ≠ x := fun e => hj (nodup_ix hN e1 (e ▸ hi))
          simp [this, e]
        · exact .inr ⟨k, c, e, z.sameBut hs (cne y c e)⟩
    · obtain ⟨w', z⟩ := I.cell y c e
      exact ⟨w', z.sameBut hs (cne y c e)⟩
    · obtain ⟨e, n, ne, nf, d⟩ := I.pin p hp
      exact ⟨(hs.2 p.1 ne).trans e, n, ne, nf, d⟩
  · have hfn : X.fn x = true := by
      rcases hf with z | z
      · exact z
      · rw [z] at hk; cases hk
    obtain ⟨c, hc⟩ := I.ok.has x (.inl hk)
    obtain ⟨w', z⟩ := I.cell x c hc
    refine wpAny_storeName_cell I.ok.kind hk hc z (fun h' hc' hs => ?_)
    obtain ⟨oc, hoc, hocd⟩ := id z
    refine h { s with heap := h' } ⟨I.ok, I.os, I.bare, ⟨fun b o e n hb hx => ?_, fun b o e n hb hx => ?_, I.base.free, fun b o e hx => ?_, I.base.tups, I.base.frzs, I.base.tbls⟩, ⟨m, hn.sameBut hs (Ne.symm (cne x c hc)), fun j y v' e1 e2 e3 => ?_⟩, fun y c' e => ?_, I.free, I.freeC, fun p hp => ?_, tracked ⟨oc, hoc, I.freeC x c hc⟩ hs, by simpa using I.len⟩ ⟨c, hs, .inr hc⟩
    · exact (hs.2 b (Nat.ne_of_lt (Nat.lt_of_lt_of_le (Heap.lt_size e) (I.ok.cab x c hfn hc)))).trans (I.base.keep b o e n hb hx)
    · obtain ⟨sl, e1⟩ := I.base.slot b o e n hb hx
      exact ⟨sl, (hs.2 b (Nat.ne_of_lt (Nat.lt_of_lt_of_le (Heap.lt_size e) (I.ok.cab x c hfn hc)))).trans e1⟩
    · obtain ⟨o', e1⟩ := I.base.there b o e hx
      exact ⟨o', (hs.2 b (Nat.ne_of_lt (Nat.lt_of_lt_of_le (Heap.lt_size e) (I.ok.cab x c hfn hc)))).trans e1⟩
    · by_cases hj : j = i
      · subst hj
        rw [hi] at e1; cases e1
        rw [List.getElem?_set_self hiσ] at e2
        cases e2
        exact ⟨u, r, .inr ⟨.inl hk, c, hc, hc'⟩⟩
      · rw [List.getElem?_set_ne (Ne.symm hj)] at e2
        obtain ⟨u', r', q⟩ := hl j y v' e1 e2 e3
        refine ⟨u', r', ?_⟩
        rcases q with q | ⟨k, c', e, z'⟩
        · exact .inl q
        · refine .inr ⟨k, c', e, z'.sameBut hs ?_⟩
          rintro rfl
          exact hj (nodup_ix hN e1 (I.ok.inj _ _ _ e hc ▸ hi))
    · by_cases hcc : c' = c
      · subst hcc; exact ⟨_, hc'⟩
      · obtain ⟨w2, z2⟩ := I.cell y c' e
        exact ⟨w2, z2.sameBut hs hcc⟩
    · obtain ⟨e, n, ne, nf, d⟩ := I.pin p hp
      refine ⟨(hs.2 p.1 ?_).trans e, n, ne, nf, d⟩
      intro q
      rw [q, hoc] at e
      have q' : oc = p.2 := Option.some.inj e
      exact d w' (by rw [← q']; exact hocd)
theorem store_ok {M : Model} {A : Around} {E : Value → Shared → Prop} {i : Nat} {x : Str} {v : V} {u : Value} {Q : Unit → Shared → Prop} (I : Inv X pins σ H s) (hN : X.N.Nodup) (hi : X.N[i]? = some x) (hx : Loc X.env.scope x) (r : RelV v u)
    (h : ∀ s', Inv X pins (σ.set i (some v)) H s' → Q () s') (hf : X.fn x = true ∨ X.env.scope.names.lookup x = some .local := by first | exact .inl rfl | exact .inr rfl | assumption) : wpAny M A (storeName X.env x u) Q E s :=
  store_ok2 I hN hi hx r (fun s' I' _ => h s' I') hf
/-- behind a call or a block, the state as it is -/
theorem Inv.call' {s' : Shared} {ch : List Addr} (I : Inv X pins σ H s) (ho : s'.os = s.os) (u : Un (frs X.stack) ch H H' s.heap s'.heap) (hok : HOk X.prog X.w H' s'.heap) (hg : AllBare s'.gens)
    (hch : ∀ b ∈ ch, (b ∈ X.ex ∨ X.s₀.heap.objs.size ≤ b) ∧ b ≠ X.env.locals ∧ (∀ x c, X.env.cells.lookup x = some c → c ≠ b) ∧ ∀ p ∈ X.pn ++ pins, p.1 ≠ b) : Inv X pins σ H' s' := by
  obtain ⟨h', g', d', t', o'⟩ := s'
  have e : o' = s.os := ho
  subst e
  exact I.call (g' := g') (t' := t') (d' := d') u hok hg hch
end

/-! ### the judgements -/
/-- an exception: its class, its own dict's address (where it has one), the abstract heap behind it -/
abbrev XK := Value → Option Addr → Hp → Prop
abbrev St := List (Option V)
abbrev VK := V → Hp → Prop
/-- an expression's reading; a test's; an argument list's -/
abbrev TE := St → Hp → VK → Prop
abbrev TT := St → Hp → (Bool → Hp → Prop) → Prop
abbrev TA := St → Hp → (List V → Hp → Prop) → Prop
/-- what is wanted behind a statement -/
structure Ends where
  nx : St → Hp → Prop
  rt : VK
  bk : St → Hp → Prop := fun _ _ => False
  ct : St → Hp → Prop := fun _ _ => False
abbrev TS := Ends → St → Hp → Prop

def EP (X : Cx) (pins : List (Addr × Obj)) (σ : St) (Q : VK) (u : Value) (s' : Shared) : Prop := ∃ v H', Inv X pins σ H' s' ∧ RelV v u ∧ Q v H'
def TP (X : Cx) (pins : List (Addr × Obj)) (σ : St) (Q : Bool → Hp → Prop) (b : Bool) (s' : Shared) : Prop := ∃ H', Inv X pins σ H' s' ∧ Q b H'
def AP (X : Cx) (pins : List (Addr × Obj)) (σ : St) (Q : List V → Hp → Prop) (us : List Value) (s' : Shared) : Prop := ∃ vs H', Inv X pins σ H' s' ∧ Vals vs us ∧ Q vs H'
def SP (X : Cx) (pins : List (Addr × Obj)) (D : Ends) (f : Flow) (s' : Shared) : Prop :=
  match f with
  | .next => ∃ σ' H', Inv X pins σ' H' s' ∧ D.nx σ' H'
  | .brk => ∃ σ' H', Inv X pins σ' H' s' ∧ D.bk σ' H'
  | .cont => ∃ σ' H', Inv X pins σ' H' s' ∧ D.ct σ' H'
  | .ret u => ∃ v σ' H', Inv X pins σ' H' s' ∧ RelV v u ∧ D.rt v H'

def PE (X : Cx) (e : Expr) (t : TE) : Prop :=
  ∀ (pins : List (Addr × Obj)) (s : Shared) (σ : St) (H : Hp) (Q : VK), Inv X pins σ H s → t σ H Q → wpAny (model X.prog X.w) X.A (eval e X.env) (EP X pins σ Q) X.xe s
def PT (X : Cx) (e : Expr) (t : TT) : Prop :=
  ∀ (pins : List (Addr × Obj)) (s : Shared) (σ : St) (H : Hp) (Q : Bool → Hp → Prop), Inv X pins σ H s → t σ H Q → wpAny (model X.prog X.w) X.A (isTrue e X.env (eval e X.env)) (TP X pins σ Q) X.xe s
/-- a test whatever its 'whole' is (and, or) -/
def PW (X : Cx) (e : Expr) (t : TT) : Prop :=
  ∀ (whole : Sem Value) (pins : List (Addr × Obj)) (s : Shared) (σ : St) (H : Hp) (Q : Bool → Hp → Prop), Inv X pins σ H s → t σ H Q → wpAny (model X.prog X.w) X.A (isTrue e X.env whole) (TP X pins σ Q) X.xe s
theorem PW.pt {X : Cx} {e : Expr} {t : TT} (h : PW X e t) : PT X e t := h _
/-- an argument list (no star), from the left -/
def PA (X : Cx) (es : List Expr) (t : TA) : Prop :=
  ∀ (pos : Pos) (pins : List (Addr × Obj)) (s : Shared) (σ : St) (H : Hp) (Q : List V → Hp → Prop), Inv X pins σ H s → t σ H Q → wpAny (model X.prog X.w) X.A (spliced (backTo pos (starEach es X.env))) (AP X pins σ Q) X.xe s
def PS (X : Cx) (st : Stmt) (t : TS) : Prop :=
  ∀ (pins : List (Addr × Obj)) (s : Shared) (σ : St) (H : Hp) (D : Ends), Inv X pins σ H s → t D σ H → wpAny (model X.prog X.w) X.A (exec st X.env) (SP X pins D) X.xe s
def PSs (X : Cx) (st : List Stmt) (t : TS) : Prop :=
  ∀ (pins : List (Addr × Obj)) (s : Shared) (σ : St) (H : Hp) (D : Ends), Inv X pins σ H s → t D σ H → wpAny (model X.prog X.w) X.A (execs st X.env) (SP X pins D) X.xe s
/-- weaken the end -/
theorem thn {α : Type} {t : Sem α} {Q Q' : α → Shared → Prop} {M : Model} {A : Around} {E : Value → Shared → Prop} {s : Shared} (h : wpAny M A t Q E s) (hQ : ∀ a s, Q a s → Q' a s) : wpAny M A t Q' E s := wpAny_mono h hQ fun _ _ x => x
end L2

namespace L2
open PySem PySem.Spec PyProof.Rows
section
variable {X : Cx}

/-- two expressions in a row -/
theorem bin {a b : Expr} {ta tb : TE} (ha : PE X a ta) (hb : PE X b tb) {pins : List (Addr × Obj)} {s : Shared} {σ : St} {H : Hp} {R : V → V → Hp → Prop} (I : Inv X pins σ H s) (h : ta σ H fun x H1 => tb σ H1 fun y H2 => R x y H2)
    {α : Type} {Q : α → Shared → Prop} {f : Value → Value → Sem α}
    (hf : ∀ v u s2 x y H2, Inv X pins σ H2 s2 → RelV x v → RelV y u → R x y H2 → wpAny (model X.prog X.w) X.A (f v u) Q X.xe s2) :
    wpAny (model X.prog X.w) X.A (eval a X.env) (fun v s₁ => wpAny (model X.prog X.w) X.A (eval b X.env) (fun u s₂ => wpAny (model X.prog X.w) X.A (f v u) Q X.xe s₂) X.xe s₁) X.xe s := by
  refine thn (ha pins s σ H _ I h) fun v s1 ⟨x, H1, I1, r1, q1⟩ => ?_
  refine thn (hb pins s1 σ H1 _ I1 q1) fun u s2 ⟨y, H2, I2, r2, q2⟩ => ?_
  exact hf v u s2 x y H2 I2 r1 r2 q2

/-! ### names and constants -/
def tVar (i : Nat) : TE := fun σ H Q => ∃ v, σ[i]? = some (some v) ∧ Q v H
def tC (v : V) : TE := fun _ H Q => Q v H
theorem pe_var {i : Nat} {x : Str} {pos : Pos} (hN : X.N[i]? = some x) (hv : Vis X.env.scope x) (hd : (x == ("__debug__" : Str)) = false := by decide) (hcd : (x == ("__classdict__" : Str)) = false := by decide) : PE X (.Name x pos) (tVar i) := by
  intro pins s σ H Q I h
  obtain ⟨v, e, h⟩ := h
  obtain ⟨m, hn, hl⟩ := I.loc
  obtain ⟨u, r, l⟩ := hl i x v hN e hv
  have fin : EP X pins σ Q u s := ⟨v, H, I, r, h⟩
  rcases l with ⟨hk, hm⟩ | ⟨hk, c, hc, hcell⟩
  · exact wpAny_Name (wpAny_loadName_local I.ok.kind hk hn hm fin) hd
  · rcases hk with hk | hk
    · exact wpAny_Name (wpAny_loadName_cell I.ok.kind hk hc hcell fin) hd
    · exact wpAny_Name (wpAny_loadName_free I.ok.kind hk hc hcell fin hcd) hd
theorem pe_int {i j pos} : PE X (.Constant (.int i) j pos) (tC (.int i)) := fun _ _ _ H _ I h => wpAny_Constant_int ⟨.int i, H, I.tok _, ⟨_, rfl⟩, h⟩
theorem pe_bl {b j pos} : PE X (.Constant (.bool b) j pos) (tC (.bl b)) := fun _ _ _ H _ I h => Constant_bool ⟨.bl b, H, I, rfl, h⟩
theorem pe_non {j pos} : PE X (.Constant .none j pos) (tC .non) := fun _ _ _ H _ I h => Constant_none ⟨.non, H, I, rfl, h⟩
theorem pe_str {x j pos} : PE X (.Constant (.str x) j pos) (tC (.str x)) := fun _ _ _ H _ I h => Calls.Constant_str ⟨.str x, H, I.tok _, ⟨_, rfl⟩, h⟩

/-- a global name of the def -/
def Gl (X : Cx) (x : Str) : Prop := X.env.kindOf x = some .globalImplicit
theorem ld_glob {E : Value → Shared → Prop} {pins : List (Addr × Obj)} {s : Shared} {σ : St} {H : Hp} {x : Str} {u : Value} {pos : Pos} {Q : Value → Shared → Prop} (I : Inv X pins σ H s) (hg : Gl X x) (hm : X.mg x = some u) (h : Q u s)
    (hd : (x == ("__debug__" : Str)) = false := by decide) : wpAny (model X.prog X.w) X.A (eval (.Name x pos) X.env) Q E s :=
  Calls.Name_function_global I.ok.kind hg (Calls.loadGlobal_global (by rw [I.ok.glob]; exact I.mod.glob.keeps I.bk) hm h) hd
theorem ld_blt {E : Value → Shared → Prop} {pins : List (Addr × Obj)} {s : Shared} {σ : St} {H : Hp} {x : Str} {u : Value} {pos : Pos} {Q : Value → Shared → Prop} (I : Inv X pins σ H s) (hg : Gl X x) (hm : X.mg x = none) (hv : bootBuiltins x = some u) (h : Q u s)
    (hn : x ≠ "__name__" := by decide) (hd : (x == ("__debug__" : Str)) = false := by decide) : wpAny (model X.prog X.w) X.A (eval (.Name x pos) X.env) Q E s := by
  obtain ⟨mb, h1, h2⟩ := I.mod.blt
  exact Calls.Name_function_global I.ok.kind hg (Calls.loadGlobal_builtin (by rw [I.ok.glob]; exact I.mod.glob.keeps I.bk) hm (by rw [I.ok.blt]; exact h1.keeps I.bk) ((h2 x hn).trans hv) h) hd
/-- a module's constant, a class, a function, as a value -/
theorem pe_glob {x : Str} {v : V} {u : Value} {pos : Pos} (hg : Gl X x) (hm : X.mg x = some u) (r : RelV v u) (hd : (x == ("__debug__" : Str)) = false := by decide) : PE X (.Name x pos) (tC v) :=
  fun _ _ _ H _ I h => ld_glob I hg hm ⟨v, H, I, r, h⟩ hd
theorem pe_bltn {x : Str} {v : V} {u : Value} {pos : Pos} (hg : Gl X x) (hm : X.mg x = none) (hv : bootBuiltins x = some u) (r : RelV v u) (hn : x ≠ "__name__" := by decide) (hd : (x == ("__debug__" : Str)) = false := by decide) : PE X (.Name x pos) (tC v) :=
  fun _ _ _ H _ I h => ld_blt I hg hm hv ⟨v, H, I, r, h⟩ hn hd

/-! ### arithmetic -/
variable {a b : Expr} {ta tb : TE} {pos : Pos}

/-! ### comparisons -/
def PC (X : Cx) (op : CmpOp) (a b : Expr) (t : TE) : Prop :=
  ∀ (pins : List (Addr × Obj)) (s : Shared) (σ : St) (H : Hp) (Q : VK), Inv X pins σ H s → t σ H Q →
    wpAny (model X.prog X.w) X.A (eval a X.env) (fun v s₁ => wpAny (model X.prog X.w) X.A (eval b X.env) (fun u s₂ => wpAny (model X.prog X.w) X.A (compareOp op v u) (EP X pins σ Q) X.xe s₂) X.xe s₁) X.xe s
theorem nobehind (b : Expr) {op : CmpOp} (h : op ≠ .In) (h2 : op ≠ .NotIn) : behindInMarks op b = false := by
  have e1 : (op == CmpOp.In) = false := by cases op <;> first | rfl | exact absurd rfl h
  have e2 : (op == CmpOp.NotIn) = false := by cases op <;> first | rfl | exact absurd rfl h2
  cases b <;> simp [behindInMarks, e1, e2]
def tNotN (ta : TE) : TE := fun σ H Q => ta σ H fun x H1 => Q (.bl (!decide (x = .non))) H1
theorem RelV.none_iff {x : V} {v : Value} (r : RelV x v) : (v == Value.none) = decide (x = .non) := by
  cases x with
  | non => cases r; rfl
  | bl _ => cases r; rfl
  | int _ => obtain ⟨t, rfl⟩ := r; rfl
  | str _ => obtain ⟨t, rfl⟩ := r; rfl
  | byt _ => obtain ⟨t, rfl⟩ := r; rfl
  | flt _ => obtain ⟨t, rfl⟩ := r; rfl
  | ref _ => cases r; rfl
  | ty _ => cases r; rfl
theorem pc_notN {j pos'} (ha : PE X a ta) : PC X .IsNot a (.Constant .none j pos') (tNotN ta) := by
  intro pins s σ H Q I h
  refine thn (ha pins s σ H _ I h) fun v s1 ⟨x, H1, I1, r1, q1⟩ => ?_
  exact Constant_none (isnot_none_gen ⟨.bl _, H1, I1, by rw [r1.none_iff]; rfl, q1⟩)
/-- a comparison as a value, as a test -/
def tB (t : TE) : TT := fun σ H Q => t σ H fun x H1 => ∃ c, x = .bl c ∧ Q c H1
theorem pt_cmp {op : CmpOp} {t : TE} (h : PC X op a b t) (h1 : behindInMarks op b = false := by first | exact nobehind _ (by decide) (by decide) | rfl) : PT X (.Compare a [op] [b] pos) (tB t) := by
  intro pins s σ H Q I hw
  refine wpAny_isTrue_Compare1 (thn (h pins s σ H _ I hw) fun v s1 h1 => thn h1 fun u s2 h2 => thn h2 fun c s3 ⟨x, H1, I1, r1, q1⟩ => ?_) h1
  obtain ⟨d, rfl, q⟩ := q1
  cases r1
  exact wpAny_truthy_bool ⟨H1, I1, q⟩
/-- an expression whose value is a bool, as a test -/
theorem pt_val {e : Expr} {t : TE} (h : PE X e t) (he : ∀ whole, isTrue e X.env whole = (do let v ← whole; standAt e.pos; holding [v] (truthy v)) := by intro _; rfl) : PT X e (tB t) := by
  intro pins s σ H Q I hw
  refine isTrue_plain (thn (h pins s σ H _ I hw) fun v s1 ⟨x, H1, I1, r1, q1⟩ => ?_) (he _)
  obtain ⟨d, rfl, q⟩ := q1
  cases r1
  exact wpAny_truthy_bool ⟨H1, I1, q⟩

/-! ### and, or, not -/
variable {tA tB' : TT} {rest : List Expr}
def tAnd (t u : TT) : TT := fun σ H Q => t σ H fun c H1 => if c = true then u σ H1 Q else Q false H1
def tOr (t u : TT) : TT := fun σ H Q => t σ H fun c H1 => if c = true then Q true H1 else u σ H1 Q
def tNot (t : TT) : TT := fun σ H Q => t σ H fun c H1 => Q (!c) H1
theorem pw_and1 (ha : PT X a tA) : PW X (.BoolOp .And [a] pos) tA := by
  intro wh pins s σ H Q I h
  refine isTrue_and (thn (ha pins s σ H Q I h) fun c s1 e => ?_)
  cases c with
  | true => exact isTrue_and_nil e
  | false => exact e
theorem pw_or1 (ha : PT X a tA) : PW X (.BoolOp .Or [a] pos) tA := by
  intro wh pins s σ H Q I h
  refine isTrue_or (thn (ha pins s σ H Q I h) fun c s1 e => ?_)
  cases c with
  | false => exact isTrue_or_nil e
  | true => exact e
theorem pw_and (ha : PT X a tA) (hb : PW X (.BoolOp .And (b :: rest) pos) tB') : PW X (.BoolOp .And (a :: b :: rest) pos) (tAnd tA tB') := by
  intro wh pins s σ H Q I h
  refine isTrue_and (thn (ha pins s σ H _ I h) fun c s1 ⟨H1, I1, q1⟩ => ?_)
  cases c with
  | true => exact hb wh pins s1 σ H1 Q I1 q1
  | false => exact ⟨H1, I1, q1⟩
theorem pw_or (ha : PT X a tA) (hb : PW X (.BoolOp .Or (b :: rest) pos) tB') : PW X (.BoolOp .Or (a :: b :: rest) pos) (tOr tA tB') := by
  intro wh pins s σ H Q I h
  refine isTrue_or (thn (ha pins s σ H _ I h) fun c s1 ⟨H1, I1, q1⟩ => ?_)
  cases c with
  | true => exact ⟨H1, I1, q1⟩
  | false => exact hb wh pins s1 σ H1 Q I1 q1
theorem pt_not (ha : PT X a tA) : PT X (.UnaryOp .Not a pos) (tNot tA) := by
  intro pins s σ H Q I h
  exact isTrue_not (ha pins s σ H (fun c H1 => Q (!c) H1) I h)
/-- .. as values (bools) -/
def tAndV (ta tb : TE) : TE := fun σ H Q => ta σ H fun x H1 => ∃ c, x = .bl c ∧ if c = true then tb σ H1 Q else Q (.bl false) H1
def tNotV (ta : TE) : TE := fun σ H Q => ta σ H fun x H1 => ∃ c, x = .bl c ∧ Q (.bl (!c)) H1
theorem pe_one {op} {t : TE} (h : PE X a t) : PE X (.BoolOp op [a] pos) t := fun pins s σ H Q I hw => BoolOp_one (h pins s σ H Q I hw)
theorem pe_and (ha : PE X a ta) (hb : PE X (.BoolOp .And (b :: rest) pos) tb) : PE X (.BoolOp .And (a :: b :: rest) pos) (tAndV ta tb) := by
  intro pins s σ H Q I h
  refine BoolOp_and (thn (ha pins s σ H _ I h) fun v s1 ⟨x, H1, I1, r1, q1⟩ => ?_)
  obtain ⟨c, rfl, q1⟩ := q1
  cases r1
  refine wpAny_truthy_bool ?_
  cases c with
  | true => exact hb pins s1 σ H1 Q I1 q1
  | false => exact ⟨.bl false, H1, I1, rfl, q1⟩
theorem pe_not (ha : PE X a ta) : PE X (.UnaryOp .Not a pos) (tNotV ta) := by
  intro pins s σ H Q I h
  refine UnaryOp_ (thn (ha pins s σ H _ I h) fun v s1 ⟨x, H1, I1, r1, q1⟩ => ?_)
  obtain ⟨c, rfl, q1⟩ := q1
  cases r1
  exact not_of (wpAny_truthy_bool ⟨.bl (!c), H1, I1, rfl, q1⟩)
/-- a if t else b -/
def tIf (t : TT) (ta tb : TE) : TE := fun σ H Q => t σ H fun c H1 => if c = true then ta σ H1 Q else tb σ H1 Q
theorem pe_ifExp {c : Expr} (hc : PT X c tA) (ha : PE X a ta) (hb : PE X b tb) : PE X (.IfExp c a b pos) (tIf tA ta tb) := by
  intro pins s σ H Q I h
  refine wpAny_IfExp (thn (hc pins s σ H _ I h) fun d s1 ⟨H1, I1, q1⟩ => ?_)
  cases d with
  | true => exact ha pins s1 σ H1 Q I1 q1
  | false => exact hb pins s1 σ H1 Q I1 q1
end
end L2

namespace L2
open PySem PySem.Spec PyProof.Rows

/-! ### a list, a tuple that is read: tracked, frozen, or an object of the module -/
def SqL (K : PySem.W.Frag) (H : Hp) (a : Addr) (xs : List V) : Prop :=
  Rd H a (.lst xs) ∨
    ∃ (o : Obj) (its : Array Value) (n : Nat), K.lookup a = some o ∧ o.cls = .type "list" ∧ o.dict = none ∧ o.data = .seq its n ∧ its.size ≤ sizeLine ∧ Vals xs its.toList
def SqT (K : PySem.W.Frag) (H : Hp) (a : Addr) (xs : List V) : Prop :=
  Rd H a (.tup xs) ∨
    ∃ (o : Obj) (its : Array Value) (n : Nat), K.lookup a = some o ∧ o.cls = .type "tuple" ∧ o.data = .seq its n ∧ its.size ≤ sizeLine ∧ Vals xs its.toList
def absV : Value → Option V
  | .none => some .non
  | .bool b => some (.bl b)
  | .int i _ => some (.int i)
  | .str x _ => some (.str x)
  | .bytes b _ => some (.byt b)
  | .float b _ => some (.flt b)
  | .ref a => some (.ref a)
  | .type n => some (.ty n)
  | _ => none
theorem RelV.abs {x : V} {u : Value} (r : RelV x u) : absV u = some x := by
  cases x with
  | non => cases r; rfl
  | bl _ => cases r; rfl
  | int _ => obtain ⟨t, rfl⟩ := r; rfl
  | str _ => obtain ⟨t, rfl⟩ := r; rfl
  | byt _ => obtain ⟨t, rfl⟩ := r; rfl
  | flt _ => obtain ⟨t, rfl⟩ := r; rfl
  | ref _ => cases r; rfl
  | ty _ => cases r; rfl
theorem RelV.inj {x y : V} {u : Value} (r : RelV x u) (q : RelV y u) : x = y := Option.some.inj (r.abs.symm.trans q.abs)
theorem Vals.inj : ∀ {xs ys : List V} {us : List Value}, Vals xs us → Vals ys us → xs = ys
  | _, _, _, .nil, .nil => rfl
  | _, _, _, .cons r t, .cons r' t' => by rw [r.inj r', Vals.inj t t']
section
variable {X : Cx} {pins : List (Addr × Obj)} {σ : St} {H : Hp} {s : Shared} {a : Addr} {xs ys : List V}
theorem SqL.of {K : PySem.W.Frag} (h : H a = some (.lst xs)) : SqL K H a xs := .inl (.inl h)
theorem SqT.of {K : PySem.W.Frag} (h : H a = some (.tup xs)) : SqT K H a xs := .inl (.inl h)
theorem Inv.list (I : Inv X pins σ H s) (h : SqL X.K H a xs) : ∃ its : List Value, Vals xs its ∧ PlainL s.heap a its.toArray ∧ xs.length ≤ sizeLine := by
  rcases h with h | ⟨o, its, n, hk, hc, hd, hs, hz, r⟩
  · obtain ⟨z, its, n, r, e⟩ := h.ok I.hok
    exact ⟨its, r, ⟨_, n, e, rfl, rfl, rfl⟩, z⟩
  · refine ⟨its.toList, r, ⟨o, n, I.kIn a o hk, hc, hd, by simpa using hs⟩, ?_⟩
    have e := r.length
    simp only [Array.length_toList] at e
    omega
theorem Inv.tuple (I : Inv X pins σ H s) (h : SqT X.K H a xs) : ∃ its : List Value, Vals xs its ∧ IsTup s.heap a its.toArray ∧ xs.length ≤ sizeLine := by
  rcases h with h | ⟨o, its, n, hk, hc, hs, hz, r⟩
  · obtain ⟨z, its, r, p⟩ := h.ok I.hok
    exact ⟨its, r, p, z⟩
  · refine ⟨its.toList, r, ⟨o, I.kIn a o hk, hc, n, by simpa using hs⟩, ?_⟩
    have e := r.length
    simp only [Array.length_toList] at e
    omega
theorem Inv.list_inj (I : Inv X pins σ H s) (h : SqL X.K H a xs) (h' : SqL X.K H a ys) : xs = ys := by
  obtain ⟨its, r, ⟨o, n, e, _, _, d⟩, _⟩ := I.list h
  obtain ⟨its', r', ⟨o', n', e', _, _, d'⟩, _⟩ := I.list h'
  rw [e] at e'; cases e'
  rw [d] at d'
  injection d' with d1 _
  have : its = its' := by simpa using congrArg Array.toList d1
  subst this
  exact r.inj r'
end

/-! ### another wish about exceptions -/
abbrev Cx.wish (X : Cx) (E : Value → Shared → Prop) : Cx := { X with xe := E }
/-- no exception leaves -/
abbrev Cx.nox (X : Cx) : Cx := X.wish fun _ _ => False
theorem Cx.Ok.wish {X : Cx} (ok : X.Ok) (E : Value → Shared → Prop) : (X.wish E).Ok :=
  ⟨ok.mod, ok.kind, ok.glob, ok.blt, ok.above, ok.inj, ok.has, ok.cab, ok.hd, ok.frames, ok.stk, ok.exf, ok.bs, ok.bsz, ok.noex, ok.exfs, ok.funs, ok.frf⟩
theorem Cx.Ok.unwish {X : Cx} {E : Value → Shared → Prop} (ok : (X.wish E).Ok) : X.Ok :=
  ⟨ok.mod, ok.kind, ok.glob, ok.blt, ok.above, ok.inj, ok.has, ok.cab, ok.hd, ok.frames, ok.stk, ok.exf, ok.bs, ok.bsz, ok.noex, ok.exfs, ok.funs, ok.frf⟩
section
variable {X : Cx} {pins : List (Addr × Obj)} {σ : St} {H : Hp} {s : Shared} {E : Value → Shared → Prop}
theorem Inv.wish (I : Inv X pins σ H s) (E : Value → Shared → Prop) : Inv (X.wish E) pins σ H s := ⟨I.ok.wish E, I.os, I.bare, I.base, I.loc, I.cell, I.free, I.freeC, I.pin, I.hok, I.len⟩
theorem Inv.unwish (I : Inv (X.wish E) pins σ H s) : Inv X pins σ H s := ⟨I.ok.unwish, I.os, I.bare, I.base, I.loc, I.cell, I.free, I.freeC, I.pin, I.hok, I.len⟩
theorem SP.unwish {D : Ends} {f : Flow} {s' : Shared} (h : SP (X.wish E) pins D f s') : SP X pins D f s' := by
  cases f with
  | next => obtain ⟨σ', H', I, q⟩ := h; exact ⟨σ', H', I.unwish, q⟩
  | brk => obtain ⟨σ', H', I, q⟩ := h; exact ⟨σ', H', I.unwish, q⟩
  | cont => obtain ⟨σ', H', I, q⟩ := h; exact ⟨σ', H', I.unwish, q⟩
  | ret u => obtain ⟨v, σ', H', I, r, q⟩ := h; exact ⟨v, σ', H', I.unwish, r, q⟩
theorem PSs.nox {st : List Stmt} {t : TS} (h : PSs X.nox st t) : PSs X st t := fun pins s σ H D I hw =>
  wpAny_mono (h pins s σ H D (I.wish _) hw) (fun _ _ q => q.unwish) fun _ _ z => False.elim z
end

/-! ### blocks and small statements -/
section
variable {X : Cx} {st : Stmt} {rest : List Stmt} {t u : TS} {e : Expr} {te : TE} {pos : Pos}
def tNext : TS := fun D σ H => D.nx σ H
def tSeq (t u : TS) : TS := fun D σ H => t { D with nx := u D } σ H
theorem pss_nil : PSs X [] tNext := fun _ _ σ H _ I h => wpAny_execs_nil ⟨σ, H, I, h⟩
theorem pss_cons (h1 : PS X st t) (h2 : PSs X rest u) : PSs X (st :: rest) (tSeq t u) := by
  intro pins s σ H D I h
  refine wpAny_execs_cons (thn (h1 pins s σ H { D with nx := u D } I h) fun f s1 q => ?_)
  cases f with
  | next =>
    obtain ⟨σ', H', I', q⟩ := q
    exact h2 pins s1 σ' H' D I' q
  | ret v => exact q
  | brk => exact q
  | cont => exact q
theorem pss_one (h1 : PS X st t) : PSs X [st] t := by
  intro pins s σ H D I h
  refine wpAny_execs_cons (thn (h1 pins s σ H D I h) fun f s1 q => ?_)
  cases f with
  | next => exact wpAny_execs_nil q
  | ret v => exact q
  | brk => exact q
  | cont => exact q
/-- in a def's body nothing is shown -/
theorem Inv.quiet {pins : List (Addr × Obj)} {σ : St} {H : Hp} {s : Shared} (I : Inv X pins σ H s) : interactive X.env = false := by simp [interactive, I.ok.kind]
/-- an expression whose value is dropped -/
def tDrop (te : TE) : TS := fun D σ H => te σ H fun _ H1 => D.nx σ H1
theorem ps_expr (he : PE X e te) (hs : swapsWith e none pos.line X.env = pure false := by rfl) : PS X (.Expr e pos) (tDrop te) := by
  intro pins s σ H D I h
  exact wpAny_Expr_any (thn (he pins s σ H _ I h) fun v s1 ⟨x, H1, I1, r1, q1⟩ => ⟨σ, H1, I1, q1⟩) I.quiet hs
def tRet (te : TE) : TS := fun D σ H => te σ H D.rt
theorem ps_ret (he : PE X e te) : PS X (.Return (some e) pos) (tRet te) := by
  intro pins s σ H D I h
  exact wpAny_Return_some (thn (he pins s σ H _ I h) fun v s1 ⟨x, H1, I1, r1, q1⟩ => ⟨x, σ, H1, I1, r1, q1⟩)
def tIfS (c : TT) (t u : TS) : TS := fun D σ H => c σ H fun b H1 => if b = true then t D σ H1 else u D σ H1
theorem ps_if {c : Expr} {a b : List Stmt} {tc : TT} (hc : PT X c tc) (ha : PSs X a t) (hb : PSs X b u) : PS X (.If c a b pos) (tIfS tc t u) := by
  intro pins s σ H D I h
  refine wpAny_If (thn (hc pins s σ H _ I h) fun d s1 ⟨H1, I1, q1⟩ => ?_)
  cases d with
  | true => exact ha pins s1 σ H1 D I1 q1
  | false => exact hb pins s1 σ H1 D I1 q1
/-- code that the proof never comes to -/
def tNever : TS := fun _ _ _ => False
theorem pss_never {sts : List Stmt} : PSs X sts tNever := fun _ _ _ _ _ _ h => h.elim
end

/-! ### targets -/
abbrev TG := V → St → Hp → (St → Hp → Prop) → Prop
abbrev TGs := List V → St → Hp → (St → Hp → Prop) → Prop
def PG (X : Cx) (target : Expr) (t : TG) : Prop :=
  ∀ (pins : List (Addr × Obj)) (s : Shared) (σ : St) (H : Hp) (v : V) (u : Value) (Q : St → Hp → Prop), Inv X pins σ H s → RelV v u → t v σ H Q →
    wpAny (model X.prog X.w) X.A (assign target X.env u) (fun _ s' => ∃ σ' H', Inv X pins σ' H' s' ∧ Q σ' H') X.xe s
/-- several targets, one after another -/
def PGs (X : Cx) (ts : List Expr) (t : TGs) : Prop :=
  ∀ (pins : List (Addr × Obj)) (s : Shared) (σ : St) (H : Hp) (vs : List V) (us : List Value) (Q : St → Hp → Prop), Inv X pins σ H s → Vals vs us → t vs σ H Q →
    wpAny (model X.prog X.w) X.A (assignInOrder ((assignEach ts X.env).map (·.2)) us) (fun _ s' => ∃ σ' H', Inv X pins σ' H' s' ∧ Q σ' H') X.xe s
/-- o[i] = v, by values -/
abbrev TSet := V → V → V → Hp → (Hp → Prop) → Prop
def PSet (X : Cx) (t : TSet) : Prop :=
  ∀ (pins : List (Addr × Obj)) (s : Shared) (σ : St) (H : Hp) (o i v : V) (ov iv u : Value) (Q : Hp → Prop), Inv X pins σ H s → RelV o ov → RelV i iv → RelV v u → t o i v H Q →
    wpAny (model X.prog X.w) X.A (setItem ov iv u) (fun _ s' => ∃ H', Inv X pins σ H' s' ∧ Q H') X.xe s
section
variable {X : Cx} {pos : Pos}
def gName (i : Nat) : TG := fun v σ H Q => Q (σ.set i (some v)) H
theorem pg_name {i : Nat} {x : Str} (hN : X.N.Nodup) (hi : X.N[i]? = some x) (hx : Loc X.env.scope x) (hf : X.fn x = true ∨ X.env.scope.names.lookup x = some .local := by first | exact .inl rfl | exact .inr rfl | assumption) : PG X (.Name x pos) (gName i) := by
  intro pins s σ H v u Q I r h
  exact wpAny_assign_Name (store_ok I hN hi hx r (fun s' I' => ⟨_, H, I', h⟩) hf)
def gNil : TGs := fun vs σ H Q => vs = [] ∧ Q σ H
def gCons (t : TG) (u : TGs) : TGs := fun vs σ H Q => ∃ v r, vs = v :: r ∧ t v σ H fun σ' H' => u r σ' H' Q
theorem pgs_nil : PGs X [] gNil := by
  intro pins s σ H vs us Q I r h
  obtain ⟨e, h⟩ := h
  subst e
  cases r
  exact assignInOrder_nil ⟨σ, H, I, h⟩
theorem pgs_cons {e : Expr} {es : List Expr} {t : TG} {u : TGs} (h1 : PG X e t) (h2 : PGs X es u)
    (hs : (assignEach (e :: es) X.env).map (·.2) = assign e X.env :: (assignEach es X.env).map (·.2) := by rfl) : PGs X (e :: es) (gCons t u) := by
  intro pins s σ H vs us Q I r h
  obtain ⟨v, vr, e1, h⟩ := h
  subst e1
  cases r with
  | cons r rr =>
    rw [hs]
    refine assignInOrder_cons (thn (h1 pins s σ H _ _ _ I r h) fun _ s1 ⟨σ1, H1, I1, q1⟩ => ?_)
    exact h2 pins s1 σ1 H1 _ _ Q I1 rr q1
/-- (a, b, ..) = a tuple of that length -/
def gTup (K : PySem.W.Frag) (n : Nat) (t : TGs) : TG := fun v σ H Q => ∃ a xs, v = .ref a ∧ SqT K H a xs ∧ xs.length = n ∧ t xs σ H Q
theorem pg_tup {es : List Expr} {k : Nat} {t : TGs} {n : Nat} (hc : X.calm = true) (h : PGs X es t)
    (hn : (assignEach es X.env).length = n := by rfl) (hst : (assignEach es X.env).findIdx? (·.1) = none := by rfl) : PG X (.Tuple es k pos) (gTup X.K n t) := by
  intro pins s σ H v u Q I r hw
  obtain ⟨a, xs, e1, hq, hl, hw⟩ := hw
  subst e1
  cases r
  obtain ⟨its, rv, ht, hz⟩ := I.tuple hq
  refine assign_Tuple_tuple (I.ok.hd hc) ht (by simp [hn, ← hl, rv.length]) hst fun h' hx => ?_
  have I1 : Inv X pins σ H { s with heap := h' } := I.kept (t' := s.toks) fun b o e => hx b o (Nat.ne_of_lt (Heap.lt_size e)) e
  exact h pins _ σ H xs _ Q I1 (by simpa using rv) hw
/-- o[i] = .. -/
def gSub (to ti : TE) (t : TSet) : TG := fun v σ H Q => to σ H fun o H1 => ti σ H1 fun i H2 => t o i v H2 fun H3 => Q σ H3
theorem pg_sub {o i : Expr} {to ti : TE} {t : TSet} (ho : PE X o to) (hi : PE X i ti) (hs : PSet X t)
    (ha : ∀ v, assign (.Subscript o i pos) X.env v = (do
      let ov ← holding [v] (eval o X.env)
      let iv ← holding [v, ov] (eval i X.env)
      standAt pos
      holding [v, ov, iv] (setItem ov iv v)
      release [v, ov, iv] []) := by intro _; rfl) : PG X (.Subscript o i pos) (gSub to ti t) := by
  intro pins s σ H v u Q I r h
  rw [ha]
  refine wpAny_bind (wpAny_holding (thn (ho pins s σ H _ I h) fun ov s1 ⟨x, H1, I1, r1, q1⟩ => ?_))
  refine wpAny_bind (wpAny_holding (thn (hi pins s1 σ H1 _ I1 q1) fun iv s2 ⟨y, H2, I2, r2, q2⟩ => ?_))
  refine wpAny_bind (wpAny_standAt (wpAny_bind (wpAny_holding (thn (hs pins s2 σ H2 x y v ov iv u _ I2 r1 r2 r q2) fun _ s3 ⟨H3, I3, q3⟩ => ?_))))
  exact wpAny_release ⟨σ, H3, I3, q3⟩
/-- target = value -/
def tAsg (te : TE) (g : TG) : TS := fun D σ H => te σ H fun x H1 => g x σ H1 D.nx
theorem ps_asg {tg e : Expr} {te : TE} {g : TG} (he : PE X e te) (hg : PG X tg g) (hs : swapsWithSole [tg] e pos.line X.env = pure false := by rfl) (hw : swappedStores [tg] e X.env = pure none := by rfl)
    (h1 : (assignEach [tg] X.env).map (·.2) = [assign tg X.env] := by rfl) : PS X (.Assign [tg] e pos) (tAsg te g) := by
  intro pins s σ H D I h
  refine wpAny_Assign_stores (thn (he pins s σ H _ I h) fun v s1 ⟨x, H1, I1, r1, q1⟩ => ?_) hs hw
  rw [h1]
  exact thn (hg pins s1 σ H1 x v _ I1 r1 q1) fun _ s2 q => q
/-- name = value -/
theorem ps_set {i : Nat} {x : Str} {e : Expr} {te : TE} {pos' : Pos} (hN : X.N.Nodup) (hi : X.N[i]? = some x) (hx : Loc X.env.scope x) (he : PE X e te) (hs : swapsWith e (some (.Name x pos')) pos.line X.env = pure false := by rfl) (hf : X.fn x = true ∨ X.env.scope.names.lookup x = some .local := by first | exact .inl rfl | exact .inr rfl | assumption) :
    PS X (.Assign [.Name x pos'] e pos) (tAsg te (gName i)) := by
  intro pins s σ H D I h
  refine wpAny_Assign_Name (thn (he pins s σ H _ I h) fun v s1 ⟨y, H1, I1, r1, q1⟩ => ?_) hs
  exact store_ok I1 hN hi hx r1 (fun s2 I2 => ⟨_, H1, I2, q1⟩) hf
end

/-! ### while -/
section
variable {X : Cx} {pos : Pos}
/-- the invariant W with its measure -/
def tWhile (c : TT) (tb : TS) : TS := fun D σ H => ∃ W : Nat → St → Hp → Prop, (∃ m, W m σ H) ∧ ∀ m σ H, W m σ H →
  c σ H fun b H1 => if b = true then ∃ N : St → Hp → Prop, (∀ σ' H', N σ' H' → ∃ m', m' < m ∧ W m' σ' H') ∧ tb { D with nx := N, ct := N, bk := D.nx } σ H1 else D.nx σ H1
theorem ps_while {c : Expr} {body : List Stmt} {tc : TT} {tb : TS} (hp : PassesOwn (model X.prog X.w) X.A X.env X.xe) (hc : PT X c tc) (hb : PSs X body tb) : PS X (.While c body [] pos) (tWhile tc tb) := by
  intro pins s σ H D I h
  obtain ⟨W, ⟨m0, w0⟩, turn⟩ := h
  refine wpAny_While (codeAny_whileLoop (fun n s' => ∃ σ' H', Inv X pins σ' H' s' ∧ W n σ' H') ?_ m0 ⟨σ, H, I, w0⟩)
  rintro n s1 ⟨σ1, H1, I1, w1⟩
  refine wpAny_passesOwn hp (thn (hc pins s1 σ1 H1 _ I1 (turn n σ1 H1 w1)) fun b s2 ⟨H2, I2, q2⟩ => ?_)
  cases b with
  | true =>
    obtain ⟨N, hN, q2⟩ := q2
    rw [if_pos rfl]
    refine wpAny_passesOwn hp (thn (hb pins s2 σ1 H2 _ I2 q2) fun f s3 q3 => ?_)
    cases f with
    | next =>
      obtain ⟨σ3, H3, I3, n3⟩ := q3
      obtain ⟨m', hm, w3⟩ := hN σ3 H3 n3
      exact ⟨m', hm, σ3, H3, I3, w3⟩
    | cont =>
      obtain ⟨σ3, H3, I3, n3⟩ := q3
      obtain ⟨m', hm, w3⟩ := hN σ3 H3 n3
      exact ⟨m', hm, σ3, H3, I3, w3⟩
    | brk => exact q3
    | ret v => exact q3
  | false =>
    rw [if_neg Bool.false_ne_true]
    exact wpAny_execs_nil ⟨σ1, H2, I2, q2⟩
end

/-! ### what a loop or a comprehension walks -/
/-- at turn i: it yields x (the heap may grow), or it stops -/
structure It where
  go : Nat → Hp → Prop
  yld : Nat → Hp → V → Hp → Prop
  stop : Nat → Hp → Prop
/-- the iterator's own objects may turn: they are not the frame's, not pinned, younger than the entry (or a comprehension's own) -/
def FpOk (X : Cx) (pins : List (Addr × Obj)) (H : Hp) (b : Addr) : Prop :=
  H b = none ∧ b ≠ X.env.locals ∧ b ∉ X.fs ∧ (b ∈ X.ex ∨ X.s₀.heap.objs.size ≤ b) ∧ (∀ x c, X.env.cells.lookup x = some c → c ≠ b) ∧ ∀ p ∈ X.pn ++ pins, p.1 ≠ b
theorem Inv.fpOk {X : Cx} {pins : List (Addr × Obj)} {σ : St} {H H' : Hp} {s : Shared} {b : Addr} (I : Inv X pins σ H s) (hb : s.heap.objs.size ≤ b) (hn : H' b = none) : FpOk X pins H' b := by
  refine ⟨hn, Nat.ne_of_gt (Nat.lt_of_lt_of_le I.lt hb), I.nofs hb, .inr (Nat.le_trans I.sz hb), fun x c e z => ?_, fun p hp z => ?_⟩
  · obtain ⟨v, q⟩ := I.cell x c e
    exact absurd (Nat.lt_of_lt_of_le q.lt (by rw [z]; exact hb)) (Nat.lt_irrefl _)
  · exact absurd (Nat.lt_of_lt_of_le (Heap.lt_size (I.pin p hp).1) (by rw [z]; exact hb)) (Nat.lt_irrefl _)
structure Turn (P : Program) (w : World) (K : PySem.W.Frag) (tg : Expr) (J : It) (fp : List Addr) (it : Addr) (tn : Nat → Heap → Prop) : Prop where
  mem : it ∈ fp
  obj : ∀ i h, tn i h → ∀ b ∈ fp, ∃ o, h.get? b = some o ∧ ∀ v, o.data ≠ .cell v
  keep : ∀ i h h', tn i h → (∀ b ∈ fp, ∀ o, h.get? b = some o → h'.get? b = some o) → tn i h'
  item : ∀ (X : Cx), X.prog = P → X.w = w → X.K = K → X.calm = true → ∀ (i : Nat) (pins : List (Addr × Obj)) (s : Shared) (σ : St) (H : Hp) (E : Value → Shared → Prop), Inv X pins σ H s → (∀ b ∈ fp, FpOk X pins H b) → tn i s.heap → J.go i H →
    wpAny (model P w) X.A (pyNext (.ref it)) (fun r s1 => ∃ u, r = some u ∧
      wpAny (model P w) X.A (letOwnedTupleGo tg (.ref it) u) (fun _ s2 => ∃ x H', Inv X pins σ H' s2 ∧ RelV x u ∧ J.yld i H x H' ∧ tn (i + 1) s2.heap ∧ ∀ b ∈ fp, H' b = none) E s1) E s
  done : ∀ (X : Cx), X.prog = P → X.w = w → X.K = K → X.calm = true → ∀ (i : Nat) (pins : List (Addr × Obj)) (s : Shared) (σ : St) (H : Hp) (E : Value → Shared → Prop), Inv X pins σ H s → (∀ b ∈ fp, FpOk X pins H b) → tn i s.heap → J.stop i H →
    wpAny (model P w) X.A (pyNext (.ref it)) (fun r s1 => r = none ∧ Inv X pins σ H s1) E s
  self : ∀ (A : Around) (i : Nat) (s : Shared) (Q : Value → Shared → Prop) (E : Value → Shared → Prop), tn i s.heap → Q (.ref it) s → wpAny (model P w) A (pyIter (.ref it)) Q E s
abbrev TI := St → Hp → (It → Hp → Prop) → Prop
/-- an iterator has come -/
def PIE (X : Cx) (pins : List (Addr × Obj)) (σ : St) (tg : Expr) (R : It → Hp → Prop) (itv : Value) (s2 : Shared) : Prop :=
  ∃ (it : Addr) (fp : List Addr) (tn : Nat → Heap → Prop) (J : It) (H' : Hp), itv = .ref it ∧ Inv X pins σ H' s2 ∧ Turn X.prog X.w X.K tg J fp it tn ∧ tn 0 s2.heap ∧ (∀ b ∈ fp, FpOk X pins H' b) ∧ R J H'
def PI (X : Cx) (tg iter : Expr) (wi : TI) : Prop :=
  ∀ (pins : List (Addr × Obj)) (s : Shared) (σ : St) (H : Hp) (R : It → Hp → Prop), Inv X pins σ H s → wi σ H R →
    wpAny (model X.prog X.w) X.A (eval iter X.env) (fun v s1 => wpAny (model X.prog X.w) X.A (pyIter v) (PIE X pins σ tg R) X.xe s1) X.xe s

/-- the step ahead of the store is nothing for an iterator that keeps no tuple -/
theorem go_of {M : Model} {A : Around} {E : Value → Shared → Prop} {s : Shared} {tg : Expr} {it : Addr} {u : Value} {o : Obj} {n : String} {vs : Array Value} {Q : Unit → Shared → Prop} (ho : s.heap.get? it = some o) (hc : o.cls = .type n) (hd : o.data = .fields vs)
    (hn : ["enumerate", "zip", "dict_itemiterator", "dict_reverseitemiterator", "odict_iterator", "itertools.zip_longest", "itertools.pairwise"].contains n = false) (hQ : Q () s) : wpAny M A (letOwnedTupleGo tg (.ref it) u) Q E s := by
  unfold letOwnedTupleGo
  cases tg <;> first
    | exact wpAny_pure hQ
    | (cases u <;> first
        | exact wpAny_pure hQ
        | (refine wpAny_bind (wpAny_load ho ?_)
           rw [hc, hd]
           show wpAny M A (if (["enumerate", "zip", "dict_itemiterator", "dict_reverseitemiterator", "odict_iterator", "itertools.zip_longest", "itertools.pairwise"].contains n && vs[0]? == some (rawInt _)) = true then _ else _) Q E s
           rw [if_neg (by intro h; rw [hn, Bool.false_and] at h; cases h)]
           exact wpAny_pure hQ))

/-- the list at a, as it stands at each turn (a loop may append to it) -/
def Itl (K : PySem.W.Frag) (a : Addr) : It :=
  ⟨fun i H => ∃ xs x, SqL K H a xs ∧ xs[i]? = some x, fun i H x H' => H' = H ∧ ∀ xs, SqL K H a xs → xs[i]? = some x, fun i H => ∃ xs, SqL K H a xs ∧ xs.length ≤ i⟩
/-- lo, lo + 1, .. (n of them) -/
def Itr (lo : Int) (n : Nat) : It := ⟨fun i _ => i < n, fun i H x H' => H' = H ∧ x = .int (lo + i), fun i _ => n ≤ i⟩
theorem turn_list {P : Program} {w : World} {K : PySem.W.Frag} {tg : Expr} (a it : Addr) : Turn P w K tg (Itl K a) [it] it (fun i h => h.IsListIter it a i) where
  mem := by simp
  obj := fun i h st b hb => by
    have e : b = it := by simpa using hb
    subst e
    obtain ⟨o, e, c, d⟩ := st
    exact ⟨o, e, fun v z => by rw [d] at z; cases z⟩
  keep := fun i h h' st k => st.at fun o e => k it (by simp) o e
  item := by
    intro X hP hw hK hc i pins s σ H E I hf st hg
    subst hP hw hK
    obtain ⟨xs, x, hq, hx⟩ := hg
    obtain ⟨its, rv, p, hz⟩ := I.list hq
    obtain ⟨u, hu, ru⟩ := rv.get hx
    obtain ⟨f0, f1, f2, f3, f4, f5⟩ := hf it (by simp)
    refine wpAny_pyNext_list_item st p.isList (x := u) (by simpa using hu) fun h' st' sb => ?_
    have I1 : Inv X pins σ H { s with heap := h' } := I.turned (t' := s.toks) (fun b o hb e => (sb.2 b hb).trans e) f0 f1 f3 f4 f5
    obtain ⟨o, e, c, d⟩ := id st'
    exact ⟨u, rfl, go_of (s := { s with heap := h' }) e c d (by decide) ⟨x, H, I1, ru, ⟨rfl, fun ys hy => by rw [I.list_inj hy hq]; exact hx⟩, st', fun b hb => (hf b hb).1⟩⟩
  done := by
    intro X hP hw hK hc i pins s σ H E I hf st hg
    subst hP hw hK
    obtain ⟨xs, hq, hx⟩ := hg
    obtain ⟨its, rv, p, hz⟩ := I.list hq
    obtain ⟨f0, f1, f2, f3, f4, f5⟩ := hf it (by simp)
    have hl := rv.length
    exact wpAny_pyNext_list_end (I.ok.hd hc) st p.isList (by simp; omega) fun h' eb => ⟨rfl, I.turned (t' := s.toks) (fun b o hb e => eb b o hb e) f0 f1 f3 f4 f5⟩
  self := fun _ _ _ _ _ st h => wpAny_pyIter_listiter st h
theorem turn_range {P : Program} {w : World} {K : PySem.W.Frag} {tg : Expr} (it : Addr) (lo : Int) (n : Nat) : Turn P w K tg (Itr lo n) [it] it (fun i h => IsRangeIter h it (lo + (i : Nat) * 1) ((n : Int) - (i : Nat)) 1) where
  mem := by simp
  obj := fun i h st b hb => by
    have e : b = it := by simpa using hb
    subst e
    exact ⟨_, st, fun v z => by
      have z' : Data.fields _ = Data.cell v := z
      cases z'⟩
  keep := fun i h h' st k => k it (by simp) _ st
  item := by
    intro X hP hw hK hc i pins s σ H E I hf st hg
    subst hP hw hK
    obtain ⟨f0, f1, f2, f3, f4, f5⟩ := hf it (by simp)
    have W := Walks.range (prog := X.prog) (w := X.w) (I.ok.hd hc) it lo 1 n
    refine W.item i s _ _ hg st fun v h' tk hv st' kk => ?_
    obtain ⟨t, rfl⟩ := hv
    have I1 : Inv X pins σ H { s with heap := h', toks := tk } := I.turned (fun b o hb e => kk b o (by simpa using hb) e) f0 f1 f3 f4 f5
    refine ⟨_, rfl, go_of (s := { s with heap := h', toks := tk }) (n := "range_iterator") st' rfl rfl (by decide) ⟨.int (lo + i), H, I1, ⟨t, ?_⟩, ⟨rfl, rfl⟩, st', fun b hb => (hf b hb).1⟩⟩
    rw [Int.mul_one]
  done := by
    intro X hP hw hK hc i pins s σ H E I hf st hg
    subst hP hw hK
    obtain ⟨f0, f1, f2, f3, f4, f5⟩ := hf it (by simp)
    exact wpAny_pyNext_range_end (I.ok.hd hc) st (by have : n ≤ i := hg; omega) fun h' eb => ⟨rfl, I.turned (t' := s.toks) (fun b o hb e => eb b o hb e) f0 f1 f3 f4 f5⟩
  self := fun _ _ _ _ _ st h => wpAny_pyIter_rangeiter st h
end L2

namespace L2
open PySem PySem.Spec PyProof.Rows
section
variable {X : Cx} {tg : Expr}
def iList (K : PySem.W.Frag) (tl : TE) : TI := fun σ H R => tl σ H fun x H1 => ∃ a, x = .ref a ∧ (∃ xs, SqL K H1 a xs) ∧ R (Itl K a) H1
theorem pi_list {l : Expr} {tl : TE} (hl : PE X l tl) : PI X tg l (iList X.K tl) := by
  intro pins s σ H R I h
  refine thn (hl pins s σ H _ I h) fun v s1 ⟨x, H1, I1, r1, q1⟩ => ?_
  obtain ⟨a, e, ⟨xs, hq⟩, q⟩ := q1
  subst e
  cases r1
  obtain ⟨its, rv, p, hz⟩ := I1.list hq
  refine wpAny_pyIter_list p.isList ?_
  refine ⟨s1.heap.objs.size, [s1.heap.objs.size], _, _, H1, rfl, I1.kept (t' := s1.toks) fun b o e => Heap.get?_push_of_some _ e, turn_list a _, ⟨_, Heap.get?_push_size _ rfl, rfl, rfl⟩, fun b hb => ?_, q⟩
  have e : b = s1.heap.objs.size := by simpa using hb
  subst e
  exact I1.fpOk (Nat.le_refl _) (I1.hok.fresh (Nat.le_refl _))
/-- a range object just made, walked -/
theorem range_it {pins : List (Addr × Obj)} {σ : St} {H : Hp} {s : Shared} {R : It → Hp → Prop} {E : Value → Shared → Prop} {lo hi : Int} {t u v : Tok} {tk : Nat} (I : Inv X pins σ H s) (h1 : -(2 ^ 62) ≤ lo) (h2 : lo < 2 ^ 62) (h3 : -(2 ^ 62) ≤ hi) (h4 : hi < 2 ^ 62)
    (q : R (Itr lo (hi - lo).toNat) H) : wpAny (model X.prog X.w) X.A (pyIter (.ref s.heap.objs.size)) (PIE X pins σ tg R) E { s with heap := s.heap.push { cls := .type "range", data := .fields #[.int lo t, .int hi u, .int 1 v] }, toks := tk } := by
  refine wpAny_pyIter_range (IsRange.new ..) (small_one h1 h2 h3 h4) ?_
  have I1 : Inv X pins σ H { s with heap := s.heap.push { cls := .type "range", data := .fields #[.int lo t, .int hi u, .int 1 v] }, toks := tk } := I.kept fun b o e => Heap.get?_push_of_some _ e
  refine ⟨(s.heap.push { cls := .type "range", data := .fields #[.int lo t, .int hi u, .int 1 v] }).objs.size, [(s.heap.push { cls := .type "range", data := .fields #[.int lo t, .int hi u, .int 1 v] }).objs.size], _, _, H, rfl,
    I1.kept (t' := tk) fun b o e => Heap.get?_push_of_some _ e, turn_range _ lo (hi - lo).toNat, ?_, fun b hb => ?_, q⟩
  · have e1 : lo + ((0 : Nat) : Int) * 1 = lo := by simp
    have e2 : (((hi - lo).toNat : Nat) : Int) - ((0 : Nat) : Int) = Builtin.Range.rangeSize lo hi 1 := by rw [rangeSize_one]; split <;> omega
    show IsRangeIter _ _ (lo + ((0 : Nat) : Int) * 1) ((((hi - lo).toNat : Nat) : Int) - ((0 : Nat) : Int)) 1
    rw [e1, e2]
    exact Heap.get?_push_size _ rfl
  · have e : b = (s.heap.push { cls := .type "range", data := .fields #[.int lo t, .int hi u, .int 1 v] }).objs.size := by simpa using hb
    subst e
    exact I1.fpOk (Nat.le_refl _) (I1.hok.fresh (Nat.le_refl _))
def iRng1 (ta : TA) : TI := fun σ H R => ta σ H fun vs H1 => ∃ j : Int, vs = [.int j] ∧ -(2 ^ 62) ≤ j ∧ j < 2 ^ 62 ∧ R (Itr 0 j.toNat) H1
def iRng2 (ta : TA) : TI := fun σ H R => ta σ H fun vs H1 => ∃ i j : Int, vs = [.int i, .int j] ∧ (-(2 ^ 62) ≤ i ∧ i < 2 ^ 62 ∧ -(2 ^ 62) ≤ j ∧ j < 2 ^ 62) ∧ R (Itr i (j - i).toNat) H1
theorem pi_range1 {a : Expr} {ta : TA} {p pos : Pos} (hg : Gl X "range") (hm : X.mg "range" = none) (ha : PA X [a] ta) (hs : starEach [a] X.env = [(false, eval a X.env)] := by rfl) : PI X tg (.Call (.Name "range" p) [a] [] pos) (iRng1 ta) := by
  intro pins s σ H R I h
  refine Call_ (ld_blt I hg hm boot_range (PyProof.Rows.callWith_type1 (thn (ha pos pins s σ H _ I h) fun us s1 ⟨vs, H1, I1, r1, q1⟩ => ?_) hs rfl))
  obtain ⟨j, e, q1, q2, q⟩ := q1
  subst e
  cases r1 with
  | cons r rr =>
    cases rr
    obtain ⟨t, rfl⟩ := r
    exact call_range_1 (range_it I1 (by omega) (by omega) q1 q2 (by simpa using q))
theorem pi_range2 {a b : Expr} {ta : TA} {p pos : Pos} (hg : Gl X "range") (hm : X.mg "range" = none) (ha : PA X [a, b] ta) (hs : starEach [a, b] X.env = [(false, eval a X.env), (false, eval b X.env)] := by rfl) (hs2 : starEach [b] X.env = [(false, eval b X.env)] := by rfl) :
    PI X tg (.Call (.Name "range" p) [a, b] [] pos) (iRng2 ta) := by
  intro pins s σ H R I h
  refine Call_ (ld_blt I hg hm boot_range (PyProof.Rows.callWith_type1 (thn (ha pos pins s σ H _ I h) fun us s1 ⟨vs, H1, I1, r1, q1⟩ => ?_) (by rw [hs, hs2]) (by rw [hs2]; rfl)))
  obtain ⟨i, j, e, ⟨q1, q2, q3, q4⟩, q⟩ := q1
  subst e
  cases r1 with
  | cons r rr =>
    cases rr with
    | cons r' rr =>
      cases rr
      obtain ⟨t, rfl⟩ := r
      obtain ⟨t', rfl⟩ := r'
      exact call_range_2 (range_it I1 q1 q2 q3 q4 q)

/-! ### for -/
/-- W: the invariant by the turn and a measure; N: what the body is to reach -/
def tFor (wi : TI) (g : TG) (tb : TS) : TS := fun D σ H => wi σ H fun J H1 => ∃ W : Nat → Nat → St → Hp → Prop, (∃ m, W 0 m σ H1) ∧ ∀ i m σ H, W i m σ H →
  (J.stop i H ∧ D.nx σ H) ∨ (J.go i H ∧ ∃ N : St → Hp → Prop, (∀ σ' H', N σ' H' → ∃ m', m' < m ∧ W (i + 1) m' σ' H') ∧ ∀ x H', J.yld i H x H' → g x σ H' fun σ2 H2 => tb { D with nx := N, ct := N, bk := D.nx } σ2 H2)
/-- the records at fp as they stand -/
def pinsAt (fp : List Addr) (h : Heap) : List (Addr × Obj) := fp.filterMap fun b => (h.get? b).map fun o => (b, o)
theorem mem_pinsAt {fp : List Addr} {h : Heap} {b : Addr} {o : Obj} (hb : b ∈ fp) (e : h.get? b = some o) : (b, o) ∈ pinsAt fp h := List.mem_filterMap.mpr ⟨b, hb, by rw [e]; rfl⟩
theorem of_pinsAt {fp : List Addr} {h : Heap} {p : Addr × Obj} (hp : p ∈ pinsAt fp h) : p.1 ∈ fp ∧ h.get? p.1 = some p.2 := by
  obtain ⟨b, hb, e⟩ := List.mem_filterMap.mp hp
  cases q : h.get? b with
  | none => rw [q] at e; cases e
  | some o =>
    rw [q] at e
    have e' : (b, o) = p := Option.some.inj e
    subst e'
    exact ⟨hb, q⟩
theorem Inv.pinned {pins : List (Addr × Obj)} {σ : St} {H : Hp} {s : Shared} {fp : List Addr} (I : Inv X pins σ H s) (hf : ∀ b ∈ fp, FpOk X pins H b) (ho : ∀ b ∈ fp, ∃ o, s.heap.get? b = some o ∧ ∀ v, o.data ≠ .cell v) : Inv X (pins ++ pinsAt fp s.heap) σ H s :=
  I.pins_of fun p hp => (List.mem_append.mp hp).elim (fun z => I.pin p (List.mem_append_right _ z)) fun z => by
    obtain ⟨hb, e⟩ := of_pinsAt z
    obtain ⟨f0, f1, f2, _⟩ := hf p.1 hb
    obtain ⟨o, e', d⟩ := ho p.1 hb
    rw [e] at e'; cases e'
    exact ⟨e, f0, f1, f2, d⟩
theorem Inv.unpinned {pins pl : List (Addr × Obj)} {σ : St} {H : Hp} {s : Shared} (I : Inv X (pins ++ pl) σ H s) : Inv X pins σ H s := I.pins_of fun p hp => I.pin p (List.mem_append_right _ (List.mem_append_left _ hp))
theorem ps_for {iter : Expr} {body : List Stmt} {wi : TI} {g : TG} {tb : TS} {pos : Pos} (hp : PassesOwn (model X.prog X.w) X.A X.env X.xe) (hc : X.calm = true) (hi : PI X tg iter wi) (hg : PG X tg g) (hb : PSs X body tb)
    (hs : ∀ x, foldedSetIterable iter X.env x = pure x := by intro _; rfl) : PS X (.For tg iter body [] pos) (tFor wi g tb) := by
  intro pins s σ H D I h
  refine wpAny_For (thn (hi pins s σ H _ I h) fun v s1 h1 => thn h1 fun itv s2 h2 => ?_) hs
  obtain ⟨it, fp, tn, J, H2, e, I2, T, st2, f2, W, ⟨m0, w0⟩, turn⟩ := h2
  subst e
  -- what stays true of the iterator's objects through the loop
  have stat : ∀ {H' : Hp}, (∀ b ∈ fp, H' b = none) → ∀ b ∈ fp, FpOk X pins H' b := fun hn b hb => ⟨hn b hb, (f2 b hb).2⟩
  refine codeAny_forLoop_any (fun n s' => ∃ i σ' H', Inv X pins σ' H' s' ∧ tn i s'.heap ∧ (∀ b ∈ fp, H' b = none) ∧ W i n σ' H') ?_ m0 ⟨0, σ, H2, I2, st2, fun b hb => (f2 b hb).1, w0⟩
  rintro n s3 ⟨i, σ3, H3, I3, st3, fr3, w3⟩
  rcases turn i n σ3 H3 w3 with ⟨stop, qn⟩ | ⟨go, N, hN, step⟩
  · refine wpAny_passesOwn hp (thn (T.done X rfl rfl rfl hc i pins s3 σ3 H3 X.xe I3 (stat fr3) st3 stop) fun r s4 ⟨hr, I4⟩ => ?_)
    subst hr
    exact wpAny_execs_nil ⟨σ3, H3, I4, qn⟩
  · refine wpAny_passesOwn hp (thn (T.item X rfl rfl rfl hc i pins s3 σ3 H3 X.xe I3 (stat fr3) st3 go) fun r s4 ⟨u, hr, h4⟩ => ?_)
    subst hr
    refine wpAny_passesOwn hp (thn h4 fun _ s5 ⟨x, H5, I5, r5, y5, st5, fr5⟩ => ?_)
    have I5' := I5.pinned (stat fr5) (T.obj _ _ st5)
    refine wpAny_passesOwn hp (thn (hg _ s5 σ3 H5 x u _ I5' r5 (step x H5 y5)) fun _ s6 ⟨σ6, H6, I6, q6⟩ => ?_)
    refine wpAny_passesOwn hp (thn (hb _ s6 σ6 H6 _ I6 q6) fun f s7 q7 => ?_)
    have again : ∀ {σ7 : St} {H7 : Hp}, Inv X (pins ++ pinsAt fp s5.heap) σ7 H7 s7 → N σ7 H7 → ∃ m, m < n ∧ ∃ i σ' H', Inv X pins σ' H' s7 ∧ tn i s7.heap ∧ (∀ b ∈ fp, H' b = none) ∧ W i m σ' H' := fun {σ7 H7} I7 n7 => by
      obtain ⟨m', hm, w7⟩ := hN σ7 H7 n7
      refine ⟨m', hm, i + 1, σ7, H7, I7.unpinned, T.keep _ _ _ st5 fun b hb o e => (I7.pin (b, o) (List.mem_append_right _ (List.mem_append_right _ (mem_pinsAt hb e)))).1, fun b hb => ?_, w7⟩
      obtain ⟨o, e, d⟩ := T.obj _ _ st5 b hb
      exact (I7.pin (b, o) (List.mem_append_right _ (List.mem_append_right _ (mem_pinsAt hb e)))).2.1
    cases f with
    | next => obtain ⟨σ7, H7, I7, n7⟩ := q7; exact again I7 n7
    | cont => obtain ⟨σ7, H7, I7, n7⟩ := q7; exact again I7 n7
    | brk => obtain ⟨σ7, H7, I7, q7⟩ := q7; exact ⟨σ7, H7, I7.unpinned, q7⟩
    | ret v => obtain ⟨x7, σ7, H7, I7, r7, q7⟩ := q7; exact ⟨x7, σ7, H7, I7.unpinned, r7, q7⟩
end

/-! ### the forms one uses -/
/-- over a list that the body leaves as it is -/
theorem for_list {K : PySem.W.Frag} {a : Addr} {xs : List V} {g : TG} {tb : TS} {D : Ends} {σ : St} {H : Hp} (Pv : Nat → St → Hp → Prop) (h0 : Pv 0 σ H) (hl : ∀ i σ H, i ≤ xs.length → Pv i σ H → SqL K H a xs)
    (hs : ∀ i x σ H, xs[i]? = some x → Pv i σ H → g x σ H fun σ2 H2 => tb { D with nx := Pv (i + 1), ct := Pv (i + 1), bk := D.nx } σ2 H2) (hd : ∀ σ H, Pv xs.length σ H → D.nx σ H) :
    ∃ W : Nat → Nat → St → Hp → Prop, (∃ m, W 0 m σ H) ∧ ∀ i m σ H, W i m σ H →
      ((Itl K a).stop i H ∧ D.nx σ H) ∨ ((Itl K a).go i H ∧ ∃ N : St → Hp → Prop, (∀ σ' H', N σ' H' → ∃ m', m' < m ∧ W (i + 1) m' σ' H') ∧ ∀ x H', (Itl K a).yld i H x H' → g x σ H' fun σ2 H2 => tb { D with nx := N, ct := N, bk := D.nx } σ2 H2) := by
  refine ⟨fun i m σ H => m = xs.length - i ∧ i ≤ xs.length ∧ Pv i σ H, ⟨xs.length, by simp, Nat.zero_le _, h0⟩, ?_⟩
  rintro i m σ H ⟨rfl, hi, p⟩
  have q := hl i σ H hi p
  by_cases hlt : i < xs.length
  · refine .inr ⟨⟨xs, xs[i], q, by simp [hlt]⟩, Pv (i + 1), fun σ' H' p' => ⟨xs.length - (i + 1), by omega, rfl, hlt, p'⟩, fun x H' y => ?_⟩
    obtain ⟨e, y⟩ := y
    subst e
    exact hs i x σ _ (y xs q) p
  · have e : i = xs.length := by omega
    subst e
    exact .inl ⟨⟨xs, q, Nat.le_refl _⟩, hd σ H p⟩
theorem for_range {lo : Int} {n : Nat} {g : TG} {tb : TS} {D : Ends} {σ : St} {H : Hp} (Pv : Nat → St → Hp → Prop) (h0 : Pv 0 σ H)
    (hs : ∀ i σ H, i < n → Pv i σ H → g (.int (lo + i)) σ H fun σ2 H2 => tb { D with nx := Pv (i + 1), ct := Pv (i + 1), bk := D.nx } σ2 H2) (hd : ∀ σ H, Pv n σ H → D.nx σ H) :
    ∃ W : Nat → Nat → St → Hp → Prop, (∃ m, W 0 m σ H) ∧ ∀ i m σ H, W i m σ H →
      ((Itr lo n).stop i H ∧ D.nx σ H) ∨ ((Itr lo n).go i H ∧ ∃ N : St → Hp → Prop, (∀ σ' H', N σ' H' → ∃ m', m' < m ∧ W (i + 1) m' σ' H') ∧ ∀ x H', (Itr lo n).yld i H x H' → g x σ H' fun σ2 H2 => tb { D with nx := N, ct := N, bk := D.nx } σ2 H2) := by
  refine ⟨fun i m σ H => m = n - i ∧ i ≤ n ∧ Pv i σ H, ⟨n, by simp, Nat.zero_le _, h0⟩, ?_⟩
  rintro i m σ H ⟨rfl, hi, p⟩
  by_cases hlt : i < n
  · refine .inr ⟨hlt, Pv (i + 1), fun σ' H' p' => ⟨n - (i + 1), by omega, rfl, hlt, p'⟩, fun x H' y => ?_⟩
    obtain ⟨e, y⟩ := y
    subst e y
    exact hs i σ _ hlt p
  · have e : i = n := by omega
    subst e
    exact .inl ⟨Nat.le_refl _, hd σ H p⟩
/-- while, by a word and a measure of the state -/
theorem while_by {c : TT} {tb : TS} {D : Ends} {σ : St} {H : Hp} (Pv : St → Hp → Prop) (μ : St → Hp → Nat) (h0 : Pv σ H)
    (hs : ∀ σ H, Pv σ H → c σ H fun b H1 => if b = true then tb { D with nx := fun σ' H' => Pv σ' H' ∧ μ σ' H' < μ σ H, ct := fun σ' H' => Pv σ' H' ∧ μ σ' H' < μ σ H, bk := D.nx } σ H1 else D.nx σ H1)
    (mono : ∀ σ H Q Q', (∀ b H1, Q b H1 → Q' b H1) → c σ H Q → c σ H Q') : tWhile c tb D σ H := by
  refine ⟨fun m σ H => m = μ σ H ∧ Pv σ H, ⟨_, rfl, h0⟩, ?_⟩
  rintro m σ H ⟨rfl, p⟩
  refine mono σ H _ _ (fun b H1 q => ?_) (hs σ H p)
  cases b with
  | true => exact ⟨_, fun σ' H' ⟨p', l⟩ => ⟨_, l, rfl, p'⟩, q⟩
  | false => exact q
end L2

namespace L2
open PySem PySem.Spec PyProof.Rows

abbrev R2 := V → V → Hp → VK → Prop
/-- a two-place operation on values: f is binaryOp op, inplaceOp op or compareOp op -/
def OpR (X : Cx) (f : Value → Value → Sem Value) (r : R2) : Prop :=
  ∀ (pins : List (Addr × Obj)) (s : Shared) (σ : St) (H : Hp) (x y : V) (v u : Value) (Q : VK), Inv X pins σ H s → RelV x v → RelV y u → r x y H Q →
    wpAny (model X.prog X.w) X.A (f v u) (EP X pins σ Q) X.xe s
/-- a one-place operation -/
def UnR (X : Cx) (f : Value → Sem Value) (r : V → Hp → VK → Prop) : Prop :=
  ∀ (pins : List (Addr × Obj)) (s : Shared) (σ : St) (H : Hp) (x : V) (v : Value) (Q : VK), Inv X pins σ H s → RelV x v → r x H Q →
    wpAny (model X.prog X.w) X.A (f v) (EP X pins σ Q) X.xe s
/-- a call of a value that is known (a builtin, a type) with values -/
def CallR (X : Cx) (f : Value) (r : List V → Hp → VK → Prop) : Prop :=
  ∀ (pins : List (Addr × Obj)) (s : Shared) (σ : St) (H : Hp) (xs : List V) (us : List Value) (Q : VK), Inv X pins σ H s → Vals xs us → r xs H Q →
    wpAny (model X.prog X.w) X.A (call f us) (EP X pins σ Q) X.xe s
/-- a value's truth -/
def TruR (X : Cx) (r : V → Hp → (Bool → Hp → Prop) → Prop) : Prop :=
  ∀ (pins : List (Addr × Obj)) (s : Shared) (σ : St) (H : Hp) (x : V) (v : Value) (Q : Bool → Hp → Prop), Inv X pins σ H s → RelV x v → r x H Q →
    wpAny (model X.prog X.w) X.A (truthy v) (TP X pins σ Q) X.xe s

def tOp (r : R2) (ta tb : TE) : TE := fun σ H Q => ta σ H fun x H1 => tb σ H1 fun y H2 => r x y H2 Q
def tUn (r : V → Hp → VK → Prop) (ta : TE) : TE := fun σ H Q => ta σ H fun x H1 => r x H1 Q
/-- ints in, under C, and a value out -/
def rI (C : Int → Int → Prop) (g : Int → Int → V) : R2 := fun x y H Q => ∃ i j, x = .int i ∧ y = .int j ∧ C i j ∧ Q (g i j) H
def rI0 (g : Int → Int → V) : R2 := fun x y H Q => ∃ i j, x = .int i ∧ y = .int j ∧ Q (g i j) H
def rU (g : Int → V) : V → Hp → VK → Prop := fun x H Q => ∃ i, x = .int i ∧ Q (g i) H

section
variable {X : Cx} {a b c : Expr} {ta tb tc : TE} {pos : Pos}

theorem binT (ha : PE X a ta) (hb : PE X b tb) {pins : List (Addr × Obj)} {s : Shared} {σ : St} {H : Hp} {R : V → V → Hp → Prop} (I : Inv X pins σ H s)
    (h : ta σ H fun x H1 => tb σ H1 fun y H2 => R x y H2) {Q : Value → Shared → Prop} {f : Value → Value → Sem Value}
    (hf : ∀ v u s2 x y H2, Inv X pins σ H2 s2 → RelV x v → RelV y u → R x y H2 → wpAny (model X.prog X.w) X.A (f v u) Q X.xe s2) :
    wpAny (model X.prog X.w) X.A (eval a X.env) (fun v s₁ => wpAny (model X.prog X.w) X.A (eval b X.env) (fun u s₂ => wpAny (model X.prog X.w) X.A (f v u) Q X.xe s₂) X.xe s₁) X.xe s := by
  refine thn (ha pins s σ H _ I h) fun v s1 ⟨x, H1, I1, r1, q1⟩ => ?_
  refine thn (hb pins s1 σ H1 _ I1 q1) fun u s2 ⟨y, H2, I2, r2, q2⟩ => ?_
  exact hf v u s2 x y H2 I2 r1 r2 q2

theorem pe_op {op : Operator} {r : R2} (ho : OpR X (binaryOp op) r) (ha : PE X a ta) (hb : PE X b tb) : PE X (.BinOp a op b pos) (tOp r ta tb) := by
  intro pins s σ H Q I h
  exact wpAny_BinOp (binT ha hb I h fun v u s2 x y H2 I2 rx ry q => ho pins s2 σ H2 x y v u Q I2 rx ry q)
theorem pe_un {op : UnaryOp} {r : V → Hp → VK → Prop} (ho : UnR X (unaryOp op) r) (ha : PE X a ta) : PE X (.UnaryOp op a pos) (tUn r ta) := by
  intro pins s σ H Q I h
  exact UnaryOp_ (thn (ha pins s σ H _ I h) fun v s1 ⟨x, H1, I1, r1, q1⟩ => ho pins s1 σ H1 x v Q I1 r1 q1)

/-! ### ints -/
theorem opI {f : Value → Value → Sem Value} {C : Int → Int → Prop} {g : Int → Int → Int}
    (rule : ∀ (i j : Int) (t u : Tok) (s : Shared) (Q : Value → Shared → Prop) (E : Value → Shared → Prop), C i j → Q (.int (g i j) s.toks) { s with toks := s.toks + 1 } → wpAny (model X.prog X.w) X.A (f (.int i t) (.int j u)) Q E s) :
    OpR X f (rI C fun i j => .int (g i j)) := by
  intro pins s σ H x y v u Q I rx ry h
  obtain ⟨i, j, rfl, rfl, hc, q⟩ := h
  obtain ⟨t, rfl⟩ := rx
  obtain ⟨t', rfl⟩ := ry
  exact rule i j t t' s _ _ hc ⟨.int (g i j), H, I.tok _, ⟨_, rfl⟩, q⟩
theorem opI0 {f : Value → Value → Sem Value} {g : Int → Int → Int}
    (rule : ∀ (i j : Int) (t u : Tok) (s : Shared) (Q : Value → Shared → Prop) (E : Value → Shared → Prop), Q (.int (g i j) s.toks) { s with toks := s.toks + 1 } → wpAny (model X.prog X.w) X.A (f (.int i t) (.int j u)) Q E s) :
    OpR X f (rI0 fun i j => .int (g i j)) := by
  intro pins s σ H x y v u Q I rx ry h
  obtain ⟨i, j, rfl, rfl, q⟩ := h
  obtain ⟨t, rfl⟩ := rx
  obtain ⟨t', rfl⟩ := ry
  exact rule i j t t' s _ _ ⟨.int (g i j), H, I.tok _, ⟨_, rfl⟩, q⟩
theorem opB0 {f : Value → Value → Sem Value} {g : Int → Int → Bool}
    (rule : ∀ (i j : Int) (t u : Tok) (s : Shared) (Q : Value → Shared → Prop) (E : Value → Shared → Prop), Q (.bool (g i j)) s → wpAny (model X.prog X.w) X.A (f (.int i t) (.int j u)) Q E s) :
    OpR X f (rI0 fun i j => .bl (g i j)) := by
  intro pins s σ H x y v u Q I rx ry h
  obtain ⟨i, j, rfl, rfl, q⟩ := h
  obtain ⟨t, rfl⟩ := rx
  obtain ⟨t', rfl⟩ := ry
  exact rule i j t t' s _ _ ⟨.bl (g i j), H, I, rfl, q⟩

def CDiv (i j : Int) : Prop := 0 < j ∧ j < 1073741824
def CMul (i j : Int) : Prop := (-(2 ^ 64) < i ∧ i < 2 ^ 64) ∨ (-(2 ^ 64) < j ∧ j < 2 ^ 64)
theorem CMul.ok {i j : Int} (h : CMul i j) : IntMulOk i j := by
  rcases h with ⟨h1, h2⟩ | ⟨h1, h2⟩
  · exact .of_left (intBits_le_64 h1 h2)
  · exact .of_right (intBits_le_64 h1 h2)

theorem op_add : OpR X (binaryOp .Add) (rI0 fun i j => .int (i + j)) := opI0 fun _ _ _ _ _ _ _ q => add_int q
theorem op_sub : OpR X (binaryOp .Sub) (rI0 fun i j => .int (i - j)) := opI0 fun _ _ _ _ _ _ _ q => sub_int q
theorem op_mul : OpR X (binaryOp .Mult) (rI CMul fun i j => .int (i * j)) := opI fun _ _ _ _ _ _ _ hc q => mul_int q hc.ok
/-- // by a positive divisor -/
theorem op_fdiv : OpR X (binaryOp .FloorDiv) (rI CDiv fun i j => .int (i / j)) := opI fun i j _ _ _ _ _ hc q => by
  have h1 : (0 : Int) < j := hc.1
  have h2 : j < 1073741824 := hc.2
  exact floordiv_int (by omega) (by rw [Int.fdiv_eq_ediv_of_nonneg i (by omega)]; exact q) (.inl (PyProof.noPylong_small (by omega)))
/-- % by a positive divisor of any size -/
theorem op_mod : OpR X (binaryOp .Mod) (rI (fun _ j => 0 < j) fun i j => .int (i % j)) := opI fun i j _ _ _ _ _ hc q => by
  have h1 : (0 : Int) < j := hc
  exact mod_int' (by omega) (by rw [Int.fmod_eq_emod_of_nonneg i (by omega)]; exact q)


theorem unI {f : Value → Sem Value} {g : Int → Int}
    (rule : ∀ (i : Int) (t : Tok) (s : Shared) (Q : Value → Shared → Prop) (E : Value → Shared → Prop), Q (.int (g i) s.toks) { s with toks := s.toks + 1 } → wpAny (model X.prog X.w) X.A (f (.int i t)) Q E s) :
    UnR X f (rU fun i => .int (g i)) := by
  intro pins s σ H x v Q I rx h
  obtain ⟨i, rfl, q⟩ := h
  obtain ⟨t, rfl⟩ := rx
  exact rule i t s _ _ ⟨.int (g i), H, I.tok _, ⟨_, rfl⟩, q⟩
theorem un_neg : UnR X (unaryOp .USub) (rU fun i => .int (-i)) := unI fun _ _ _ _ _ q => neg_int q

/-! ### bools among ints: n += (a < b) -/
end

/-! ### comparisons -/
/-- the scalars that == tells apart as data does -/
def scal : V → V → Bool
  | .non, .non => true | .non, .int _ => true | .int _, .non => true | .non, .bl _ => true | .bl _, .non => true | .non, .str _ => true | .str _, .non => true
  | .int _, .int _ => true | .bl _, .bl _ => true | .str _, .str _ => true | .byt _, .byt _ => true
  | .int _, .str _ => true | .str _, .int _ => true | .bl _, .str _ => true | .str _, .bl _ => true
  | _, _ => false
def rEq : R2 := fun x y H Q => scal x y = true ∧ Q (.bl (decide (x = y))) H
def rNe : R2 := fun x y H Q => scal x y = true ∧ Q (.bl (!decide (x = y))) H

theorem dec_int {i j : Int} : decide (V.int i = V.int j) = (i == j) := by
  rw [Bool.eq_iff_iff]
  simp
theorem dec_bl {i j : Bool} : decide (V.bl i = V.bl j) = (i == j) := by
  rw [Bool.eq_iff_iff]
  simp
theorem dec_str {i j : Str} : decide (V.str i = V.str j) = (i == j) := by
  rw [Bool.eq_iff_iff]
  simp
theorem dec_byt {i j : Array UInt8} : decide (V.byt i = V.byt j) = (i.toList == j.toList) := by
  rw [Bool.eq_iff_iff]
  cases i
  cases j
  simp

section
variable {X : Cx} {a b c : Expr} {ta tb tc : TE} {pos : Pos}
theorem fin_bl {pins : List (Addr × Obj)} {σ : St} {H : Hp} {s : Shared} {Q : VK} {k k' : Bool} (I : Inv X pins σ H s) (q : Q (.bl k) H) (e : k = k') : EP X pins σ Q (.bool k') s := by
  subst e
  exact ⟨.bl k, H, I, rfl, q⟩
theorem op_eq : OpR X (compareOp .Eq) rEq := by
  intro pins s σ H x y v u Q I rx ry h
  obtain ⟨hs, q⟩ := h
  cases x with
  | non =>
    cases rx
    cases y with
    | non => cases ry; exact PySem.EqNone.eq_none_none (fin_bl I q (by simp))
    | bl j => cases ry; exact PySem.EqNone.eq_none_bool (fin_bl I q (by simp))
    | int j => obtain ⟨t', rfl⟩ := ry; exact PySem.EqNone.eq_none_int (fin_bl I q (by simp))
    | str j => obtain ⟨t', rfl⟩ := ry; exact PySem.EqNone.eq_none_str (fin_bl I q (by simp))
    | _ => exact absurd (show false = true from hs) Bool.false_ne_true
  | bl i =>
    cases rx
    cases y with
    | non => cases ry; exact PySem.EqNone.eq_bool_none (fin_bl I q (by simp))
    | bl j => cases ry; exact eq_bool (fin_bl I q dec_bl)
    | str j => obtain ⟨t', rfl⟩ := ry; exact PySem.EqMixed.eq_bool_str (fin_bl I q (by simp))
    | _ => exact absurd (show false = true from hs) Bool.false_ne_true
  | int i =>
    obtain ⟨t, rfl⟩ := rx
    cases y with
    | non => cases ry; exact PySem.EqNone.eq_int_none (fin_bl I q (by simp))
    | int j => obtain ⟨t', rfl⟩ := ry; exact eq_int (fin_bl I q dec_int)
    | str j => obtain ⟨t', rfl⟩ := ry; exact PySem.EqMixed.eq_int_str (fin_bl I q (by simp))
    | _ => exact absurd (show false = true from hs) Bool.false_ne_true
  | str i =>
    obtain ⟨t, rfl⟩ := rx
    cases y with
    | non => cases ry; exact PySem.EqNone.eq_str_none (fin_bl I q (by simp))
    | bl j => cases ry; exact PySem.EqMixed.eq_str_bool (fin_bl I q (by simp))
    | int j => obtain ⟨t', rfl⟩ := ry; exact PySem.EqMixed.eq_str_int (fin_bl I q (by simp))
    | str j => obtain ⟨t', rfl⟩ := ry; exact eq_str (fin_bl I q dec_str)
    | _ => exact absurd (show false = true from hs) Bool.false_ne_true
  | byt i =>
    obtain ⟨t, rfl⟩ := rx
    cases y with
    | byt j => obtain ⟨t', rfl⟩ := ry; exact PySem.W.eq_bytes (fin_bl I q dec_byt)
    | _ => exact absurd (show false = true from hs) Bool.false_ne_true
  | _ => cases y <;> exact absurd (show false = true from hs) Bool.false_ne_true
theorem op_ne : OpR X (compareOp .NotEq) rNe := by
  intro pins s σ H x y v u Q I rx ry h
  obtain ⟨hs, q⟩ := h
  cases x with
  | non =>
    cases rx
    cases y with
    | non => cases ry; exact PySem.EqNone.ne_none_none (fin_bl I q (by simp))
    | bl j => cases ry; exact PySem.EqNone.ne_none_bool (fin_bl I q (by simp))
    | int j => obtain ⟨t', rfl⟩ := ry; exact PySem.EqNone.ne_none_int (fin_bl I q (by simp))
    | str j => obtain ⟨t', rfl⟩ := ry; exact PySem.EqNone.ne_none_str (fin_bl I q (by simp))
    | _ => exact absurd (show false = true from hs) Bool.false_ne_true
  | bl i =>
    cases rx
    cases y with
    | non => cases ry; exact PySem.EqNone.ne_bool_none (fin_bl I q (by simp))
    | bl j => cases ry; exact ne_bool (fin_bl I q (congrArg not dec_bl))
    | str j => obtain ⟨t', rfl⟩ := ry; exact PySem.EqMixed.ne_bool_str (fin_bl I q (by simp))
    | _ => exact absurd (show false = true from hs) Bool.false_ne_true
  | int i =>
    obtain ⟨t, rfl⟩ := rx
    cases y with
    | non => cases ry; exact PySem.EqNone.ne_int_none (fin_bl I q (by simp))
    | int j => obtain ⟨t', rfl⟩ := ry; exact ne_int (fin_bl I q (congrArg not dec_int))
    | str j => obtain ⟨t', rfl⟩ := ry; exact PySem.EqMixed.ne_int_str (fin_bl I q (by simp))
    | _ => exact absurd (show false = true from hs) Bool.false_ne_true
  | str i =>
    obtain ⟨t, rfl⟩ := rx
    cases y with
    | non => cases ry; exact PySem.EqNone.ne_str_none (fin_bl I q (by simp))
    | bl j => cases ry; exact PySem.EqMixed.ne_str_bool (fin_bl I q (by simp))
    | int j => obtain ⟨t', rfl⟩ := ry; exact PySem.EqMixed.ne_str_int (fin_bl I q (by simp))
    | str j => obtain ⟨t', rfl⟩ := ry; exact ne_str (fin_bl I q (congrArg not dec_str))
    | _ => exact absurd (show false = true from hs) Bool.false_ne_true
  | byt i =>
    obtain ⟨t, rfl⟩ := rx
    cases y with
    | byt j => obtain ⟨t', rfl⟩ := ry; exact PySem.W.ne_bytes (fin_bl I q (congrArg not dec_byt))
    | _ => exact absurd (show false = true from hs) Bool.false_ne_true
  | _ => cases y <;> exact absurd (show false = true from hs) Bool.false_ne_true

theorem op_lt : OpR X (compareOp .Lt) (rI0 fun i j => .bl (decide (i < j))) := opB0 fun _ _ _ _ _ _ _ q => lt_int q
theorem op_le : OpR X (compareOp .LtE) (rI0 fun i j => .bl (decide (i ≤ j))) := opB0 fun _ _ _ _ _ _ _ q => le_int q
theorem op_gt : OpR X (compareOp .Gt) (rI0 fun i j => .bl (decide (j < i))) := opB0 fun _ _ _ _ _ _ _ q => gt_int q
theorem op_lt_str : OpR X (compareOp .Lt) (fun x y H Q => ∃ i j, x = .str i ∧ y = .str j ∧ Q (.bl (decide (i.cps.toList < j.cps.toList))) H) := by
  intro pins s σ H x y v u Q I rx ry h
  obtain ⟨i, j, rfl, rfl, q⟩ := h
  obtain ⟨t, rfl⟩ := rx
  obtain ⟨t', rfl⟩ := ry
  exact lt_str (fin_bl I q rfl)




theorem nomark (b : Expr) {op : CmpOp} (h : op ≠ .In := by decide) (h2 : op ≠ .NotIn := by decide) : behindInMarks op b = false := by
  have e1 : (op == CmpOp.In) = false := by cases op <;> first | rfl | exact absurd rfl h
  have e2 : (op == CmpOp.NotIn) = false := by cases op <;> first | rfl | exact absurd rfl h2
  cases b <;> simp [behindInMarks, e1, e2]
/-- a comparison as a value; hm: nomark b, or (for in, not in) by with_unfolding_all rfl -/
theorem pe_cmpR {op : CmpOp} {r : R2} (ho : OpR X (compareOp op) r) (ha : PE X a ta) (hb : PE X b tb) (hm : behindInMarks op b = false) : PE X (.Compare a [op] [b] pos) (tOp r ta tb) := by
  intro pins s σ H Q I h
  exact wpAny_Compare1 (binT ha hb I h fun v u s2 x y H2 I2 rx ry q => ho pins s2 σ H2 x y v u Q I2 rx ry q) hm
/-- a reading of a value as a test -/
def tTest (t : TE) : TT := fun σ H Q => t σ H fun x H' => ∃ k, x = .bl k ∧ Q k H'
theorem pt_cmpR {op : CmpOp} {r : R2} (ho : OpR X (compareOp op) r) (ha : PE X a ta) (hb : PE X b tb) (hm : behindInMarks op b = false) : PT X (.Compare a [op] [b] pos) (tTest (tOp r ta tb)) := by
  intro pins s σ H Q I h
  refine wpAny_isTrue_Compare1 (thn (ha pins s σ H _ I h) fun v s1 ⟨x, H1, I1, r1, q1⟩ => thn (hb pins s1 σ H1 _ I1 q1) fun u s2 ⟨y, H2, I2, r2, q2⟩ =>
    thn (ho pins s2 σ H2 x y v u _ I2 r1 r2 q2) fun c s3 ⟨z, H3, I3, r3, k, e, q3⟩ => ?_) hm
  subst e
  cases r3
  exact wpAny_truthy_bool ⟨H3, I3, q3⟩
/-- a op1 b op2 c -/
def tChain (r r' : R2) (ta tb tc : TE) : TE := fun σ H Q => ta σ H fun x H1 => tb σ H1 fun y H2 => r x y H2 fun z H3 => ∃ k, z = .bl k ∧
  (if k = true then tc σ H3 fun w' H4 => r' y w' H4 Q else Q (.bl false) H3)
theorem pe_chain {op op' : CmpOp} {r r' : R2} (ho : OpR X (compareOp op) r) (ho' : OpR X (compareOp op') r') (ha : PE X a ta) (hb : PE X b tb) (hc : PE X c tc)
    (hm : lastMarks [op, op'] [b, c] = false := by with_unfolding_all rfl) : PE X (.Compare a [op, op'] [b, c] pos) (tChain r r' ta tb tc) := by
  intro pins s σ H Q I h
  refine Compare_chain (thn (ha pins s σ H _ I h) fun v s1 ⟨x, H1, I1, r1, q1⟩ => chain_link (thn (hb pins s1 σ H1 _ I1 q1) fun u s2 ⟨y, H2, I2, r2, q2⟩ =>
    thn (ho pins s2 σ H2 x y v u _ I2 r1 r2 q2) fun d s3 ⟨z, H3, I3, r3, k, e, q3⟩ => ?_)) hm
  subst e
  cases r3
  refine wpAny_truthy_bool ?_
  cases k with
  | false => exact ite_ff ⟨.bl false, H3, I3, rfl, q3⟩
  | true => exact ite_tt (chain_last (thn (hc pins s3 σ H3 _ I3 q3) fun w' s4 ⟨z', H4, I4, r4, q4⟩ => ho' pins s4 σ H4 y z' u w' Q I4 r2 r4 q4))

/-! ### truth -/
/-- a value's truth by the abstract heap -/
def TruV (K : PySem.W.Frag) (x : V) (H : Hp) (k : Bool) : Prop :=
  match x with
  | .non => k = false
  | .bl b => k = b
  | .int i => k = (i != 0)
  | .str y => y.length ≤ sizeLine ∧ k = ((y.length : Int) != 0)
  | .byt y => y.size ≤ sizeLine ∧ k = ((y.size : Int) != 0)
  | .ref p => (∃ xs, SqL K H p xs ∧ k = !xs.isEmpty) ∨ (∃ xs, SqT K H p xs ∧ k = !xs.isEmpty) ∨ ∃ kvs, H p = some (.dK kvs) ∧ k = !kvs.isEmpty
  | _ => False
theorem isEmpty_kv {κ : Type} {kvs : List (κ × V)} {vs : List (κ × Value)} (r : KV kvs vs) : (!vs.isEmpty) = !kvs.isEmpty := by
  cases r <;> rfl
theorem isEmpty_of {xs : List V} {its : List Value} (r : Vals xs its) : (!its.toArray.isEmpty) = !xs.isEmpty := by
  cases r <;> simp
theorem line63 : (sizeLine : Nat) < 2 ^ 63 := by rw [sizeLine_eq]; decide
theorem tru_ok : TruR X (fun x H Q => ∃ k, TruV X.K x H k ∧ Q k H) := by
  intro pins s σ H x v Q I rx h
  obtain ⟨k, e, q⟩ := h
  have hl := line63
  have hs : sizeLine = 16777216 := sizeLine_eq
  cases x with
  | non =>
    cases rx
    have e' : k = false := e
    subst e'
    exact truthy_none ⟨H, I, q⟩
  | bl b =>
    cases rx
    have e' : k = b := e
    subst e'
    exact wpAny_truthy_bool ⟨H, I, q⟩
  | int i =>
    obtain ⟨t, rfl⟩ := rx
    have e' : k = (i != 0) := e
    subst e'
    exact PySem.P.truthy_int ⟨H, I, q⟩
  | str y =>
    obtain ⟨t, rfl⟩ := rx
    obtain ⟨hy, e'⟩ : y.length ≤ sizeLine ∧ k = ((y.length : Int) != 0) := e
    subst e'
    exact PySem.P.truthy_str (by omega) ⟨H, I.tok _, q⟩
  | byt y =>
    obtain ⟨t, rfl⟩ := rx
    obtain ⟨hy, e'⟩ : y.size ≤ sizeLine ∧ k = ((y.size : Int) != 0) := e
    subst e'
    exact PySem.W.truthy_bytes (by omega) ⟨H, I.tok _, q⟩
  | ref p =>
    cases rx
    have e' : (∃ xs, SqL X.K H p xs ∧ k = !xs.isEmpty) ∨ (∃ xs, SqT X.K H p xs ∧ k = !xs.isEmpty) ∨ ∃ kvs, H p = some (.dK kvs) ∧ k = !kvs.isEmpty := e
    rcases e' with ⟨xs, hx, e'⟩ | ⟨xs, hx, e'⟩ | ⟨kvs, hx, e'⟩
    · subst e'
      obtain ⟨its, r, pl, hz⟩ := I.list hx
      have hlen := r.length
      exact wpAny_truthy_list pl.isList (by simp only [List.size_toArray]; omega) ⟨H, I.tok _, by rw [isEmpty_of r]; exact q⟩
    · subst e'
      obtain ⟨its, r, pl, hz⟩ := I.tuple hx
      have hlen := r.length
      exact truthy_tuple pl (by simp only [List.size_toArray]; omega) ⟨H, I.tok _, by rw [isEmpty_of r]; exact q⟩
    · subst e'
      obtain ⟨hz, hS, vs, r, m⟩ : kvs.length ≤ sizeLine ∧ (p == sysModules) = false ∧ ∃ vs, KV kvs vs ∧ s.heap.DictOf (mixKind X.prog X.w) p vs := I.hok p _ hx
      have hlen : kvs.length = vs.length := Paired.length r
      exact wpAny_truthy_dict hS m (by omega) ⟨H, I.tok _, by rw [isEmpty_kv r]; exact q⟩
  | _ => exact (show False from e).elim
/-- any expression whose test is its value's truth (a name, a call, a subscript, a field ..: he by fun _ => rfl) -/
theorem pt_truth (ha : PE X a ta) (he : ∀ whole, isTrue a X.env whole = (do let v ← whole; standAt a.pos; holding [v] (truthy v))) :
    PT X a (fun σ H Q => ta σ H fun x H' => ∃ k, TruV X.K x H' k ∧ Q k H') := by
  intro pins s σ H Q I h
  exact isTrue_plain (thn (ha pins s σ H _ I h) fun v s1 ⟨x, H1, I1, r1, q1⟩ => tru_ok pins s1 σ H1 x v Q I1 r1 q1) (he _)

/-! ### strs and bytes -/
theorem op_add_str : OpR X (binaryOp .Add) (fun x y H Q => ∃ i j, x = .str i ∧ y = .str j ∧ i.length + j.length ≤ sizeLine ∧ Q (.str (i ++ j)) H) := by
  intro pins s σ H x y v u Q I rx ry h
  obtain ⟨i, j, rfl, rfl, hz, q⟩ := h
  obtain ⟨t, rfl⟩ := rx
  obtain ⟨t', rfl⟩ := ry
  exact add_str (fun t' tk => ⟨.str (i ++ j), H, I.tok _, ⟨_, rfl⟩, q⟩) hz


/-! ### scalar builtins, by CallR -/
theorem vals1 {x : V} {us : List Value} (r : Vals [x] us) : ∃ u, us = [u] ∧ RelV x u := by
  cases r with
  | cons r1 r2 => cases r2; exact ⟨_, rfl, r1⟩
theorem vals2 {x y : V} {us : List Value} (r : Vals [x, y] us) : ∃ u w', us = [u, w'] ∧ RelV x u ∧ RelV y w' := by
  cases r with
  | cons r1 r2 =>
    cases r2 with
    | cons r3 r4 => cases r4; exact ⟨_, _, rfl, r1, r3⟩
end
end L2

namespace L2
open PySem PySem.Spec PyProof.Rows

/-! ### an instance, its attributes a map -/
structure ObjM (h : Heap) (x dx C : Addr) (mA : Str → Option Value) : Prop where
  obj : h.get? x = some (PySem.W.instObj C dx)
  ns : h.Ns1 dx mA
  ne : dx ≠ x

theorem lookIn_ns {h : Heap} {dx : Addr} {mA : Str → Option Value} (n : h.Ns1 dx mA) : ∃ od, h.get? dx = some od ∧ ∀ name, PySem.W.lookIn name od = some (mA name) := by
  obtain ⟨o, es, ep, ho, hd, hk, _, hm⟩ := n
  refine ⟨o, ho, fun name => ?_⟩
  have e := hm name
  unfold nsFind findBy at e
  rw [← Array.find?_toList] at e
  unfold PySem.W.lookIn
  rw [hd]
  dsimp only
  split
  · rename_i y q
    rw [q] at e
    exact congrArg some e
  · rename_i q
    rw [q] at e
    have a : es.toList.any (·.refKey) = false := by
      rw [List.any_eq_false]
      intro y hy
      obtain ⟨z, t, hkey⟩ := hk y (Array.mem_toList_iff.mp hy)
      simp [DictEntry.refKey, hkey]
    have a' : ¬ es.toList.any (·.refKey) = true := by rw [a]; exact Bool.false_ne_true
    rw [if_neg a']
    exact congrArg some e

theorem ObjM.look {h : Heap} {x dx C : Addr} {mA : Str → Option Value} (I : ObjM h x dx C mA) : ∃ od, PySem.W.InstAt h x (PySem.W.instObj C dx) C (some od) ∧ ∀ name, PySem.W.lookIn name od = some (mA name) :=
  let ⟨od, ho, hl⟩ := lookIn_ns I.ns
  ⟨od, ⟨I.obj, rfl, rfl, ho⟩, hl⟩

section
variable {prog : Program} {w : World} {A : Around} {E : Value → Shared → Prop} {s : Shared} {K : PySem.W.Frag} {x dx C f : Addr} {mA : Str → Option Value} {name : Str} {v : Value}

theorem get_map {expr : Bool} {Q : Value → Shared → Prop} (X : K.In s.heap) (I : ObjM s.heap x dx C mA) (hg : PySem.W.plainGet K C name = true) (hh : PySem.W.hasDictIn K C = true)
    (ha : PySem.W.findIn K (.ref C) name = some none) (hv : mA name = some v) (hv' : PySem.W.handedIn v = true) (h : Q v { s with toks := s.toks + 1 }) :
    wpAny (model prog w) A (getAttr (.ref x) name expr) Q E s := by
  obtain ⟨od, J, hl⟩ := I.look
  exact PySem.W.get_value X J (PySem.W.plainGet_of hg).1 (PySem.W.findObj_own hh ha rfl (by rw [hl, hv])) hv' h


theorem get_meth {pl : Sem Bool} {Q : Value × List Value → Shared → Prop} (X : K.In s.heap) (I : ObjM s.heap x dx C mA) (hg : PySem.W.plainGet K C name = true)
    (hf : PySem.W.findIn K (.ref C) name = some (some (.ref f))) (ht : PySem.W.isFn K (.ref f) = true) (hv : mA name = none) (h : Q (.ref f, [.ref x]) s) :
    wpAny (model prog w) A (getMethod (.ref x) name pl) Q E s := by
  obtain ⟨od, J, hl⟩ := I.look
  exact PySem.W.method_fn X J (PySem.W.plainGet_of hg).1 (PySem.W.plainGet_of hg).2 hf (beq_iff_eq.mp ht) (by show (PySem.W.lookIn name od).map (·.isSome) = some false; rw [hl, hv]; rfl) h

theorem set_map {ns : List Str} {Q : Unit → Shared → Prop} (X : K.In s.heap) (I : ObjM s.heap x dx C mA)
    (hs : PySem.W.findIn K (.ref C) "__setattr__" = some (some (.builtin "object.__setattr__"))) (hp : PySem.W.plainOver K C = true) (ht : PySem.W.takerIn K C name = some none) (hh : PySem.W.hasDictIn K C = true)
    (hw : PySem.Within mA ns) (hsz : ns.length ≤ sizeLine)
    (h : ∀ h', ObjM h' x dx C (fun y => if y = name then some v else mA y) → Heap.SameBut dx s.heap h' → Q () { s with heap := h', toks := s.toks + 2 }) :
    wpAny (model prog w) A (setAttr (.ref x) name v) Q E s := by
  obtain ⟨od, J, hl⟩ := I.look
  refine PySem.W.set_plain X J hs (PySem.W.osa_open (s := { s with toks := s.toks + 1 }) (r := none) X J hp ht fun b => ?_)
  obtain ⟨cd, hc, hd'⟩ := PySem.W.any_some hh
  have hx : s.heap.get? x = some ⟨.ref C, some dx, .plain, #[]⟩ := I.obj
  refine wpAny_bind (wpAny_pure (wpAny_bind (wpAny_bind (wpAny_loadPart hx (wpAny_bind (PySem.W.Looks.here (s := { s with toks := s.toks + 1 }) (PySem.W.looks_clsIn X hc) ?_))))))
  rw [hd']
  refine wpAny_pure (a := some dx) (wpAny_bind (wpAny_pure (wpAny_bind ?_)))
  refine wpAny_nsSet1 (s := { s with toks := s.toks + 1 }) I.ns fun h' hn2 hs2 => ?_
  obtain ⟨oD, esD, epD, hoD, hdD, hcD⟩ := hn2.count (PySem.Within.cons name v hw)
  refine wpAny_bind (wpAny_lookBehind hoD (by rw [hdD]; exact pastItsLine_dict (Nat.le_trans hcD (by rw [List.length_cons]; omega))) ?_)
  exact wpAny_pure (h _ ⟨(hs2.2 _ (Ne.symm I.ne)).trans I.obj, hn2, I.ne⟩ hs2)

/-- C(..): the dict at the heap's end, the instance behind it; then its __init__ -/
theorem make_map {R : Result → Shared → Prop} {vs : List Value} {kw : List (Str × Value)} (X : K.In s.heap) (hm : PySem.W.makesIn K C = true)
    (hi : PySem.W.findIn K (.ref C) "__init__" = some (some (.ref f))) (hf : PySem.W.typeIn K (.ref f) = some (.type "function"))
    (h : codeAny (model prog w) (A.under (.builtin "type.__call__" ⟨.ref C :: vs, kw⟩)) (.call (.ref f) ⟨.ref (s.heap.objs.size + 1) :: vs, kw⟩) (PySem.W.InitBack (s.heap.objs.size + 1) R)
      { s with heap := (s.heap.push PySem.W.emptyDict).push (PySem.W.instObj C s.heap.objs.size) }) :
    codeAny (model prog w) A (.call (.ref C) ⟨vs, kw⟩) R s := by
  obtain ⟨hh, g, d, t, os⟩ := s
  exact PySem.W.make_core (PySem.W.makes_of X hm) (PySem.W.looks_findIn X hi) (fun self => PySem.W.bind_fn X self hf) (.inl rfl) h
end

/-! ### the attributes as a list of pairs -/
def putF (f : Str) (v : V) : List (Str × V) → List (Str × V)
  | [] => [(f, v)]
  | (g, x) :: r => if g = f then (g, v) :: r else (g, x) :: putF f v r
theorem lookup_putF (f g : Str) (v : V) : ∀ fs : List (Str × V), (putF f v fs).lookup g = if g = f then some v else fs.lookup g
  | [] => by
    show List.lookup g [(f, v)] = _
    by_cases h : g = f
    · have hb : (g == f) = true := beq_iff_eq.mpr h
      simp only [List.lookup, hb, if_pos h]
    · have hb : (g == f) = false := beq_eq_false_iff_ne.mpr h
      simp only [List.lookup, hb, if_neg h]
  | (k, x) :: r => by
    have ih := lookup_putF f g v r
    rw [show putF f v ((k, x) :: r) = (if k = f then (k, v) :: r else (k, x) :: putF f v r) from rfl]
    by_cases hk : k = f
    · rw [if_pos hk]
      by_cases h : g = k
      · have hb : (g == k) = true := beq_iff_eq.mpr h
        simp only [List.lookup, hb, if_pos (h.trans hk)]
      · have hb : (g == k) = false := beq_eq_false_iff_ne.mpr h
        simp only [List.lookup, hb, if_neg (fun e : g = f => h (e.trans hk.symm))]
    · rw [if_neg hk]
      by_cases h : g = k
      · have hb : (g == k) = true := beq_iff_eq.mpr h
        simp only [List.lookup, hb, if_neg (fun e : g = f => hk (h.symm.trans e))]
      · have hb : (g == k) = false := beq_eq_false_iff_ne.mpr h
        simp only [List.lookup, hb]
        exact ih
theorem keys_putF (f : Str) (v : V) : ∀ fs : List (Str × V), f ∈ (putF f v fs).map (·.1) ∧ ∀ g, g ∈ fs.map (·.1) → g ∈ (putF f v fs).map (·.1)
  | [] => ⟨by simp [putF], fun g h => by simp at h⟩
  | (k, x) :: r => by
    obtain ⟨i1, i2⟩ := keys_putF f v r
    rw [show putF f v ((k, x) :: r) = (if k = f then (k, v) :: r else (k, x) :: putF f v r) from rfl]
    by_cases hk : k = f
    · rw [if_pos hk]
      subst hk
      exact ⟨by simp, fun g h => by simpa using h⟩
    · rw [if_neg hk]
      refine ⟨?_, fun g h => ?_⟩
      · rw [List.map_cons]
        exact List.mem_cons_of_mem _ i1
      · rw [List.map_cons] at h ⊢
        rcases List.mem_cons.mp h with e | e
        · exact List.mem_cons.mpr (.inl e)
        · exact List.mem_cons_of_mem _ (i2 g e)
theorem length_putF (f : Str) (v : V) : ∀ fs : List (Str × V), (putF f v fs).length ≤ fs.length + 1
  | [] => by simp [putF]
  | (k, x) :: r => by
    have ih := length_putF f v r
    rw [show putF f v ((k, x) :: r) = (if k = f then (k, v) :: r else (k, x) :: putF f v r) from rfl]
    by_cases hk : k = f
    · rw [if_pos hk, List.length_cons, List.length_cons]; omega
    · rw [if_neg hk, List.length_cons, List.length_cons]; omega

theorem RelO.some_of {v : V} {o : Option Value} (r : RelO (some v) o) : ∃ u, o = some u ∧ RelV v u := by
  cases o with
  | none => exact (show False from r).elim
  | some u => exact ⟨u, rfl, r⟩
theorem RelO.none_of {o : Option Value} (r : RelO none o) : o = none := by
  cases o with
  | none => rfl
  | some u => exact (show False from r).elim
theorem handed_of {v : V} {u : Value} (r : RelV v u) : PySem.W.handedIn u = true := by
  cases v with
  | non => cases (show u = Value.none from r); rfl
  | bl b => cases (show u = Value.bool b from r); rfl
  | int i => obtain ⟨t, e⟩ := (show ∃ t, u = Value.int i t from r); cases e; rfl
  | str x => obtain ⟨t, e⟩ := (show ∃ t, u = Value.str x t from r); cases e; rfl
  | byt b => obtain ⟨t, e⟩ := (show ∃ t, u = Value.bytes b t from r); cases e; rfl
  | flt b => obtain ⟨t, e⟩ := (show ∃ t, u = Value.float b t from r); cases e; rfl
  | ref a => cases (show u = Value.ref a from r); rfl
  | ty n => cases (show u = Value.type n from r); rfl

section
variable {P : Program} {w : World} {H H' : Hp} {h h' : Heap} {a C dx : Addr} {fs fs' : List (Str × V)}
theorem ins_get (hok : HOk P w H h) (e : H a = some (.ins C dx fs)) : ∃ mA, ObjM h a dx C mA ∧ (∀ f, RelO (fs.lookup f) (mA f)) ∧ PySem.Within mA (fs.map (·.1)) ∧ fs.length ≤ 1000 ∧ H dx = some (.own a) := by
  obtain ⟨d, z, ne, ob, mA, n, r, q⟩ := (show ObjOk P w H h a (.ins C dx fs) from hok a _ e)
  exact ⟨mA, ⟨ob, n, ne⟩, r, q, z, d⟩
end

/-! ### what of the text a class must have -/
structure Cls (K : PySem.W.Frag) (C : Addr) : Prop where
  pg : PySem.W.plainGet K C Str.empty = true
  hd : PySem.W.hasDictIn K C = true
  po : PySem.W.plainOver K C = true
  sa : PySem.W.findIn K (.ref C) "__setattr__" = some (some (.builtin "object.__setattr__"))
theorem Cls.get {K : PySem.W.Frag} {C : Addr} (c : Cls K C) (f : Str) : PySem.W.plainGet K C f = true := c.pg
/-- no class of it has the name -/
def NoAttr (K : PySem.W.Frag) (C : Addr) (f : Str) : Prop := PySem.W.findIn K (.ref C) f = some none
theorem NoAttr.taker {K : PySem.W.Frag} {C : Addr} {f : Str} (n : NoAttr K C f) : PySem.W.takerIn K C f = some none := by
  unfold PySem.W.takerIn
  rw [show PySem.W.findIn K (.ref C) f = some none from n]
  rfl
/-- a method: a plain def of the class or of one above it -/
structure Meth (K : PySem.W.Frag) (C : Addr) (m : Str) (f : Addr) : Prop where
  at_ : PySem.W.findIn K (.ref C) m = some (some (.ref f))
  fn : PySem.W.isFn K (.ref f) = true
  kp : PySem.W.keepIn K (.ref f) = true

section
variable {X : Cx} {pins : List (Addr × Obj)} {σ : St} {H : Hp} {s : Shared} {a C dx : Addr} {fs : List (Str × V)} {f : Str} {v : V} {A : Around} {E : Value → Shared → Prop}

theorem getattr_ok {b : Bool} {Q : Value → Shared → Prop} (I : Inv X pins σ H s) (e : H a = some (.ins C dx fs)) (c : Cls X.K C) (n : NoAttr X.K C f) (l : fs.lookup f = some v)
    (h : ∀ u s', Inv X pins σ H s' → RelV v u → Q u s') : wpAny (model X.prog X.w) A (getAttr (.ref a) f b) Q E s := by
  obtain ⟨mA, O, r, _, _, _⟩ := ins_get I.hok e
  obtain ⟨u, hu, ru⟩ := RelO.some_of (v := v) (o := mA f) (by rw [← l]; exact r f)
  exact get_map I.kIn O (c.get f) c.hd n hu (handed_of ru) (h u _ (I.tok _) ru)


theorem getmeth_ok {m : Str} {g : Addr} {pl : Sem Bool} {Q : Value × List Value → Shared → Prop} (I : Inv X pins σ H s) (e : H a = some (.ins C dx fs)) (c : Cls X.K C) (k : Meth X.K C m g) (l : fs.lookup m = none)
    (h : Q (.ref g, [.ref a]) s) : wpAny (model X.prog X.w) A (getMethod (.ref a) m pl) Q E s := by
  obtain ⟨mA, O, r, _, _, _⟩ := ins_get I.hok e
  have hn : mA m = none := RelO.none_of (by rw [← l]; exact r m)
  exact get_meth I.kIn O (c.get m) k.at_ k.fn hn h

theorem setattr_ok {y : V} {u : Value} {Q : Unit → Shared → Prop} (I : Inv X pins σ H s) (e : H a = some (.ins C dx fs)) (c : Cls X.K C) (n : NoAttr X.K C f) (hl : fs.length < 1000) (ry : RelV y u)
    (h : ∀ s', Inv X pins σ (upd H a (.ins C dx (putF f y fs))) s' → Q () s') : wpAny (model X.prog X.w) A (setAttr (.ref a) f u) Q E s := by
  obtain ⟨mA, O, r, wi, _, ho⟩ := ins_get I.hok e
  have hz : (fs.map (·.1)).length ≤ sizeLine := by rw [List.length_map, sizeLine_eq]; omega
  refine set_map I.kIn O c.sa c.po n.taker c.hd wi hz fun h' O' sb => h _ ?_
  have hd : ∃ o, h'.get? dx = some o := let ⟨o, _, _, e', _⟩ := O'.ns; ⟨o, e'⟩
  refine I.write (x := a) (e := dx) (by rw [e]; exact True.intro) (.inr ho) (fun b q hb z => (sb.2 b hb).trans z) hd ?_
  refine ⟨by rw [upd_ne O.ne]; exact ho, ?_, O.ne, O'.obj, _, O'.ns, fun g => ?_, fun g hg => ?_⟩
  · have := length_putF f y fs; omega
  · show RelO ((putF f y fs).lookup g) (if g = f then some u else mA g)
    rw [lookup_putF]
    by_cases q : g = f
    · rw [if_pos q, if_pos q]; exact ry
    · rw [if_neg q, if_neg q]; exact r g
  · by_cases q : g = f
    · rw [q]; exact (keys_putF f y fs).1
    · refine (keys_putF f y fs).2 g (wi g fun z => hg ?_)
      show (if g = f then some u else mA g) = none
      rw [if_neg q]; exact z

/-- a new instance, tracked, without attributes -/
theorem Inv.made (I : Inv X pins σ H s) : Inv X pins σ (upd (upd H s.heap.objs.size (.own (s.heap.objs.size + 1))) (s.heap.objs.size + 1) (.ins C s.heap.objs.size []))
    { s with heap := (s.heap.push PySem.W.emptyDict).push (PySem.W.instObj C s.heap.objs.size) } := by
  have e1 : (s.heap.push PySem.W.emptyDict).get? s.heap.objs.size = some PySem.W.emptyDict := Heap.get?_push_size s.heap rfl
  have e2 : ((s.heap.push PySem.W.emptyDict).push (PySem.W.instObj C s.heap.objs.size)).get? (s.heap.objs.size + 1) = some (PySem.W.instObj C s.heap.objs.size) := by
    have := Heap.get?_push_size (s.heap.push PySem.W.emptyDict) (o := PySem.W.instObj C s.heap.objs.size) rfl
    rwa [Heap.size_push] at this
  have e3 : (s.heap.push PySem.W.emptyDict).Ns s.heap.objs.size (fun _ => none) := ⟨PySem.W.emptyDict, #[], _, e1, rfl, (fun e he => absurd he (by simp)), fun _ => rfl⟩
  have I1 := I.laid (a := s.heap.objs.size) (o := .own (s.heap.objs.size + 1)) (h' := s.heap.push PySem.W.emptyDict) (t' := s.toks) (fun b u q => Heap.get?_push_of_some _ q) (Nat.le_refl _) ⟨_, e1⟩
  refine I1.laid (a := s.heap.objs.size + 1) (o := .ins C s.heap.objs.size []) (t' := s.toks) (fun b u q => Heap.get?_push_of_some _ q) (Nat.le_of_eq (Heap.size_push _ _)) ?_
  have ne : s.heap.objs.size ≠ s.heap.objs.size + 1 := Nat.ne_of_lt (Nat.lt_succ_self _)
  refine ⟨by rw [upd_ne ne, upd_same], Nat.zero_le _, ne, e2, fun _ => none, (Heap.Ns1.of_empty e3).at fun o q => Heap.get?_push_of_some _ q, fun _ => True.intro, fun y hy => absurd rfl hy⟩

/-- e.f where nothing but the object is asked: through attributeBase (super) and the last hold -/
theorem attr_of {prog : Program} {w : World} {env : Env} {e : Expr} {f : Str} {pos : Pos} {s : Shared} {Q : Value → Shared → Prop} (hb : attributeBase e f env (eval e env) = eval e env)
    (h : wpAny (model prog w) A (eval e env) (fun o s₁ => wpAny (model prog w) A (getAttr o f true) Q E s₁) E s) : wpAny (model prog w) A (eval (.Attribute e f pos) env) Q E s :=
  Attribute_any_ h (by rw [arm_eval_Attribute, hb])
end

/-! ### readings and rules -/
/-- e.f, an attribute of the instance -/
def tFld (K : PySem.W.Frag) (ta : TE) (f : Str) : TE := fun σ H Q => ta σ H fun x H1 => ∃ a C dx fs v, x = .ref a ∧ H1 a = some (.ins C dx fs) ∧ Cls K C ∧ NoAttr K C f ∧ fs.lookup f = some v ∧ Q v H1
/-- e.f = value -/
def sFld (K : PySem.W.Frag) (ta tv : TE) (f : Str) : TS := fun D σ H => tv σ H fun y H1 => ta σ H1 fun x H2 => ∃ a C dx fs, x = .ref a ∧ H2 a = some (.ins C dx fs) ∧ Cls K C ∧ NoAttr K C f ∧ fs.length < 1000 ∧
  D.nx σ (upd H2 a (.ins C dx (putF f y fs)))

section
variable {X : Cx} {o e value : Expr} {f : Str} {pos pos' tpos : Pos} {ta tv : TE}
theorem pe_fld (he : PE X e ta) (hb : attributeBase e f X.env (eval e X.env) = eval e X.env) : PE X (.Attribute e f pos) (tFld X.K ta f) := by
  intro pins s σ H Q I h
  refine attr_of hb (thn (he pins s σ H _ I h) fun u s1 ⟨x, H1, I1, rx, a, C, dx, fs, v, ex, ea, c, n, l, q⟩ => ?_)
  subst ex
  obtain rfl : u = Value.ref a := rx
  exact getattr_ok I1 ea c n l fun u' s2 I2 ru => ⟨v, H1, I2, ru, q⟩
theorem ps_fld (ha : PE X o ta) (hv : PE X value tv) (hs : swapsWith value (some (.Attribute o f pos')) pos.line X.env = pure false) : PS X (.Assign [.Attribute o f pos'] value pos) (sFld X.K ta tv f) := by
  intro pins s σ H D I h
  refine plainObj_wpAny_Assign_Attribute (thn (hv pins s σ H _ I h) fun u s1 ⟨y, H1, I1, ry, q⟩ => thn (ha pins s1 σ H1 _ I1 q) fun ov s2 ⟨x, H2, I2, rx, a, C, dx, fs, ex, ea, c, n, l, q2⟩ => ?_) hs
  subst ex
  obtain rfl : ov = Value.ref a := rx
  exact setattr_ok I2 ea c n l ry fun s3 I3 => ⟨σ, _, I3, q2⟩

/-- what is between an instance and its method: the tree of a method call -/
theorem methcall_of {pl : Sem Bool} {m : Str} {apos : Pos} {args : List Expr} {pins : List (Addr × Obj)} {s : Shared} {σ : St} {H : Hp} {Q : Value → Shared → Prop} {te : TE} (he : PE X e te) (I : Inv X pins σ H s)
    (h : te σ H fun x H1 => ∃ a C dx fs g, x = .ref a ∧ H1 a = some (.ins C dx fs) ∧ Cls X.K C ∧ Meth X.K C m g ∧ fs.lookup m = none ∧
      ∀ s1, Inv X pins σ H1 s1 → wpAny (model X.prog X.w) X.A (callWith pos (.ref g) [.ref a] (backTo pos (starEach args X.env)) (backToKw pos (keywordEach [] X.env))) Q X.xe s1)
    (ht : eval (.Call (.Attribute e m apos) args [] pos) X.env = (do
      let ov ← eval e X.env
      standAt apos.atName
      let (f, first) ← holding [ov] (getMethod ov m pl)
      callWith pos f first (backTo pos (starEach args X.env)) (backToKw pos (keywordEach [] X.env)))) :
    wpAny (model X.prog X.w) X.A (eval (.Call (.Attribute e m apos) args [] pos) X.env) Q X.xe s := by
  refine PySem.W.methodCall_KW (pl := pl) (thn (he pins s σ H _ I h) fun u s1 ⟨x, H1, I1, rx, a, C, dx, fs, g, ex, ea, c, k, l, q⟩ => ?_) ht
  subst ex
  obtain rfl : u = Value.ref a := rx
  exact getmeth_ok I1 ea c k l (q s1 I1)
end

/-! ### isinstance -/
section
variable {X : Cx} {pins : List (Addr × Obj)} {σ : St} {H : Hp} {s : Shared} {A : Around} {E : Value → Shared → Prop} {Q : Value → Shared → Prop} {c : Value} {b : Bool}
/-- the type of a value, as the fragment's deciders take it; for an instance its class -/
inductive TyOf (K : PySem.W.Frag) (H : Hp) : V → Value → Prop where
  | non : TyOf K H .non (.type "NoneType")
  | bl (x : Bool) : TyOf K H (.bl x) (.type "bool")
  | int (i : Int) : TyOf K H (.int i) (.type "int")
  | str (x : Str) : TyOf K H (.str x) (.type "str")
  | flt (x : UInt64) : TyOf K H (.flt x) (.type "float")
  | lst {a : Addr} {xs : List V} (e : H a = some (.lst xs)) : TyOf K H (.ref a) (.type "list")
  | frz {a : Addr} {o : Obj} {xs : List V} (e : H a = some (.frz o (.lst xs))) : TyOf K H (.ref a) (.type "list")
  | tup {a : Addr} {xs : List V} (e : H a = some (.tup xs)) : TyOf K H (.ref a) (.type "tuple")
  | dK {a : Addr} {kvs : List (Key × V)} (e : H a = some (.dK kvs)) : TyOf K H (.ref a) (.type "dict")
  | dT {a : Addr} {kvs : List (List Key × V)} (e : H a = some (.dT kvs)) : TyOf K H (.ref a) (.type "dict")
  | ins {a C dx : Addr} {fs : List (Str × V)} (e : H a = some (.ins C dx fs)) (cl : Cls K C) (ha : PySem.W.findIn K (.ref C) "__class__" = some (some (.builtin "object.__class__")))
      (hn : PySem.W.specialIn K (.builtin "object.__class__") "__get__" = some (some (.builtin "getset_descriptor.__get__"))) (htk : PySem.W.takesIn K (.builtin "object.__class__") = some true)
      (hm : PySem.W.mroIn K C (.type "object") = some true) : TyOf K H (.ref a) (.ref C)
/-- isinstance(x, c) for one class c, a built-in or an own one: kitOne's answer -/
theorem isinst_ok {x : V} {u t : Value} (I : Inv X pins σ H s) (rx : RelV x u) (ty : TyOf X.K H x t) (e : PySem.W.kitOne X.K t c = some b) (h : ∀ tk, Q (.bool b) { s with toks := tk }) :
    wpAny (model X.prog X.w) A (call (.builtin "isinstance") [u, c]) Q E s := by
  cases ty with
  | non => cases (show u = Value.none from rx); exact PySem.W.kia_one PySem.W.kitx_none I.kIn True.intro e (fun z => nomatch z) h
  | bl y => cases (show u = Value.bool y from rx); exact PySem.W.kia_one PySem.W.kitx_bool I.kIn True.intro e (fun z => nomatch z) h
  | int i => obtain ⟨t, q⟩ := (show ∃ t, u = Value.int i t from rx); cases q; exact PySem.W.kia_one PySem.W.kitx_int I.kIn True.intro e (fun z => nomatch z) h
  | str y => obtain ⟨t, q⟩ := (show ∃ t, u = Value.str y t from rx); cases q; exact PySem.W.kia_one PySem.W.kitx_str I.kIn True.intro e (fun z => nomatch z) h
  | flt y => obtain ⟨t, q⟩ := (show ∃ t, u = Value.float y t from rx); cases q; exact PySem.W.kia_one PySem.W.kitx_float I.kIn True.intro e (fun z => nomatch z) h
  | @lst a xs ea =>
    cases (show u = Value.ref a from rx)
    obtain ⟨_, _, n, _, h1⟩ := (show ObjOk X.prog X.w H s.heap a (.lst xs) from I.hok a _ ea)
    exact PySem.W.kia_one PySem.W.kitx_list I.kIn ⟨_, h1, rfl⟩ e (fun z => nomatch z) h
  | @frz a ob xs ea =>
    cases (show u = Value.ref a from rx)
    obtain ⟨_, _, _, n, _, h1⟩ := (show ObjOk X.prog X.w H s.heap a (.frz ob (.lst xs)) from I.hok a _ ea)
    exact PySem.W.kia_one PySem.W.kitx_list I.kIn ⟨_, h1, rfl⟩ e (fun z => nomatch z) h
  | @tup a xs ea =>
    cases (show u = Value.ref a from rx)
    obtain ⟨_, _, _, p⟩ := (show ObjOk X.prog X.w H s.heap a (.tup xs) from I.hok a _ ea)
    obtain ⟨o, h1, h2, _⟩ := p
    exact PySem.W.kia_one PySem.W.kitx_tuple I.kIn ⟨o, h1, h2⟩ e (fun z => nomatch z) h
  | @dK a kvs ea =>
    cases (show u = Value.ref a from rx)
    obtain ⟨_, _, vs, _, p⟩ := (show ObjOk X.prog X.w H s.heap a (.dK kvs) from I.hok a _ ea)
    obtain ⟨o, es, ep, h1, h2, _⟩ := p
    exact PySem.W.kia_one PySem.W.kitx_dict I.kIn ⟨o, h1, h2.1⟩ e (fun z => nomatch z) h
  | @dT a kvs ea =>
    cases (show u = Value.ref a from rx)
    obtain ⟨_, _, xs, _, o, es, ep, h1, h2, _⟩ := (show ObjOk X.prog X.w H s.heap a (.dT kvs) from I.hok a _ ea)
    exact PySem.W.kia_one PySem.W.kitx_dict I.kIn ⟨o, h1, h2.1⟩ e (fun z => nomatch z) h
  | @ins a C dx fs ea cl ha hn htk hm =>
    cases (show u = Value.ref a from rx)
    obtain ⟨mA, O, _⟩ := ins_get I.hok ea
    obtain ⟨od, J, _⟩ := O.look
    exact PySem.W.kia_one (PySem.W.kitx_own (cl.get _) cl.hd ha hn htk hm) I.kIn J e (fun z => nomatch z) h
end
end L2

namespace L2
open PySem PySem.Spec PyProof.Rows

/-! ### room -/
structure Room (k : Nat) (A : Around) : Prop where
  hd : A.handled = none
  dp : A.depth + 3 * k + 5 < recursionLimit
  un : A.units + 16 * k + 200 < cLine
theorem Room.mono {j k : Nat} {A : Around} (r : Room k A) (h : j ≤ k) : Room j A := ⟨r.hd, by have := r.dp; omega, by have := r.un; omega⟩
theorem Room.deeper {k : Nat} {A : Around} (r : Room (k + 1) A) (env : Env) : Room k (A.deeper env) :=
  ⟨r.hd, by have := r.dp; show A.depth + 1 + 3 * k + 5 < _; omega, by have := r.un; show A.units + 3 + 16 * k + 200 < _; omega⟩
theorem make_depth {A : Around} {C : Addr} {us : List Value} {kw : List (Str × Value)} : (A.under (.builtin "type.__call__" ⟨.ref C :: us, kw⟩)).depth = A.depth + 1 := by
  first | rfl | simp [Around.under, Code.weight, Code.isCreation, Code.isGuard, Code.isCaller, Code.frames, Code.isFrame, guardIds]
theorem make_units {A : Around} {C : Addr} {us : List Value} {kw : List (Str × Value)} : (A.under (.builtin "type.__call__" ⟨.ref C :: us, kw⟩)).units = A.units + 1 := by
  first | rfl | simp [Around.under, Code.cUnits, Code.frames, Code.isFrame]
theorem Room.make {k : Nat} {A : Around} (r : Room (k + 1) A) (C : Addr) (us : List Value) (kw : List (Str × Value)) : Room k (A.under (.builtin "type.__call__" ⟨.ref C :: us, kw⟩)) :=
  ⟨r.hd, by have := r.dp; rw [make_depth]; omega, by have := r.un; rw [make_units]; omega⟩
theorem Room.depth {k : Nat} {A : Around} (r : Room k A) : A.depth < recursionLimit := by have := r.dp; omega
theorem Room.units {k : Nat} {A : Around} (r : Room k A) : A.units + 64 < cLine := by have := r.un; omega

/-! ### argument lists and displays -/
def tNil : TA := fun _ H Q => Q [] H
def tCons (ta : TE) (tr : TA) : TA := fun σ H Q => ta σ H fun x H1 => tr σ H1 fun xs H2 => Q (x :: xs) H2
section
variable {X : Cx} {e : Expr} {es : List Expr} {te : TE} {t : TA} {pos : Pos}
theorem pa_nil : PA X [] tNil := fun _ _ _ _ H Q I h => Calls.spliced_nil ⟨[], H, I, .nil, h⟩
theorem pa_cons (ha : PE X e te) (hr : PA X es t) (hs : starEach (e :: es) X.env = (false, eval e X.env) :: starEach es X.env := by rfl) : PA X (e :: es) (tCons te t) := by
  intro pos pins s σ H Q I h
  rw [hs]
  show wpAny _ _ (spliced ((false, eval e X.env) :: backTo pos (starEach es X.env))) _ _ s
  refine Calls.spliced_cons (thn (ha pins s σ H _ I h) fun u s1 ⟨x, H1, I1, r1, q1⟩ => ?_)
  exact thn (hr pos pins s1 σ H1 _ I1 q1) fun us s2 ⟨xs, H2, I2, r2, q2⟩ => ⟨x :: xs, H2, I2, .cons r1 r2, q2⟩

/-- a tuple, a list of written items -/
def tTup (t : TA) : TE := fun σ H Q => t σ H fun xs H1 => xs.length ≤ sizeLine ∧ ∀ p, H1 p = none → Q (.ref p) (upd H1 p (.tup xs))
def tLst (t : TA) : TE := fun σ H Q => t σ H fun xs H1 => xs.length ≤ sizeLine ∧ ∀ p, H1 p = none → Q (.ref p) (upd H1 p (.lst xs))
theorem pe_tup {x1} (h : PA X es t) : PE X (.Tuple es x1 pos) (tTup t) := by
  intro pins s σ H Q I hq
  refine wpAny_Tuple_spliced (thn (h pos pins s σ H _ I hq) fun us s1 ⟨xs, H1, I1, r, z, q⟩ => ⟨by rw [← r.length]; exact z, ?_⟩)
  have hf : H1 s1.heap.objs.size = none := I1.hok.fresh (Nat.le_refl _)
  refine ⟨.ref s1.heap.objs.size, upd H1 s1.heap.objs.size (.tup xs), I1.laid (t' := s1.toks) (fun b u e => Heap.get?_push_of_some _ e) (Nat.le_refl _) ?_, rfl, q _ hf⟩
  exact ⟨z, us, r, ⟨_, Heap.get?_push_size _ rfl, rfl, _, rfl⟩⟩
theorem pe_lst (h : PA X es t) : PE X (.List es pos) (tLst t) := by
  intro pins s σ H Q I hq
  refine wpAny_List_spliced (thn (h pos pins s σ H _ I hq) fun us s1 ⟨xs, H1, I1, r, z, q⟩ => ⟨by rw [← r.length]; exact z, ?_⟩)
  have hf : H1 s1.heap.objs.size = none := I1.hok.fresh (Nat.le_refl _)
  refine ⟨.ref s1.heap.objs.size, upd H1 s1.heap.objs.size (.lst xs), I1.laid (t' := s1.toks) (fun b u e => Heap.get?_push_of_some _ e) (Nat.le_refl _) ?_, rfl, q _ hf⟩
  exact ⟨z, us, 0, r, Heap.get?_push_size _ rfl⟩
end

/-! ### what a def promises -/
/-- a def's promise: the bound arguments in the parameters' order, the heap, the wanted end, the wanted exception -/
abbrev Sp := List V → Hp → VK → XK → Prop
/-- how an exception lies behind a call (file 08 gives it): the callers' frames, abstract heap and state ahead of the call, the wish, the exception, the state -/
abbrev CXT := List Env → Hp → Shared → XK → Value → Shared → Prop

/-- the state at a call -/
structure Env0 (P : Program) (w : World) (K : PySem.W.Frag) (mg : Str → Option Value) (base : Heap) (A : Around) (outer : List Env) (s : Shared) (H : Hp) : Prop where
  frames : A.frames = some outer
  mod : Mod K mg base
  bs : ∀ b o, base.get? b = some o → s.heap.get? b = some o ∧ H b = none
  bsz : base.objs.size ≤ s.heap.objs.size
  funs : s.heap.FunFrames base outer
  frf : ∀ b ∈ frs outer, H b = none
  hok : HOk P w H s.heap
  bare : AllBare s.gens
/-- a call's end -/
def CE (outer : List Env) (P : Program) (w : World) (H : Hp) (s : Shared) (Q : VK) (u : Value) (s' : Shared) : Prop :=
  ∃ v H', s'.os = s.os ∧ AllBare s'.gens ∧ Un (frs outer) [] H H' s.heap s'.heap ∧ HOk P w H' s'.heap ∧ RelV v u ∧ Q v H'
def CR (CX : CXT) (outer : List Env) (P : Program) (w : World) (H : Hp) (s : Shared) (Q : VK) (E : XK) (r : Result) (s' : Shared) : Prop :=
  match r with
  | .ok (.ret u) => CE outer P w H s Q u s'
  | .ok _ => False
  | .error e => CX outer H s E e s'
structure FnOk (P : Program) (w : World) (K : PySem.W.Frag) (mg : Str → Option Value) (base : Heap) (CX : CXT) (k : Nat) (f : Addr) (fd : FuncData) (ps : List Str) (sp : Sp) : Prop where
  len : ∀ vs H Q E, sp vs H Q E → vs.length = ps.length
  run : ∀ (A : Around) (outer : List Env) (s : Shared) (H : Hp) (args : Args) (us : List Value) (vs : List V) (Q : VK) (E : XK), Room k A → Env0 P w K mg base A outer s H → BindsTo s fd args (ps.zip us) → Vals vs us → sp vs H Q E →
    codeAny (model P w) A (.call (.ref f) args) (CR CX outer P w H s Q E) s

theorem Env0.make {P : Program} {w : World} {K : PySem.W.Frag} {mg : Str → Option Value} {base : Heap} {A : Around} {outer : List Env} {s : Shared} {H : Hp} (e : Env0 P w K mg base A outer s H) (C : Addr) (us : List Value) (kw : List (Str × Value)) :
    Env0 P w K mg base (A.under (.builtin "type.__call__" ⟨.ref C :: us, kw⟩)) outer s H := ⟨by first | exact e.frames | (simpa [Around.under, Code.envs, Code.isFrame, pushEnvs] using e.frames), e.mod, e.bs, e.bsz, e.funs, e.frf, e.hok, e.bare⟩

section
variable {X : Cx} {pins : List (Addr × Obj)} {σ : St} {H : Hp} {s s' : Shared}
/-- from a body: what a callee wants -/
theorem Inv.env0 (I : Inv X pins σ H s) : Env0 X.prog X.w X.K X.mg X.base X.A X.stack s H :=
  ⟨I.ok.frames, I.ok.mod, I.bs, Nat.le_trans I.ok.bsz I.sz, I.stack, I.stkFree, I.hok, I.bare⟩
/-- behind a call -/
theorem Inv.after {Q : VK} {u : Value} (I : Inv X pins σ H s) (h : CE X.stack X.prog X.w H s Q u s') : EP X pins σ Q u s' := by
  obtain ⟨v, H', os, bare, un, hok, r, q⟩ := h
  obtain ⟨hh, g, d, t, os'⟩ := s'
  obtain rfl : os' = s.os := os
  exact ⟨v, H', I.call (h' := hh) (g' := g) (d' := d) (t' := t) (ch := []) un hok bare (fun b z => absurd z (by simp)), r, q⟩
end

/-! ### calls -/
/-- f(..): the written arguments, then the defaults dvs; E: what is wanted of an exception -/
def tCall (sp : Sp) (dvs : List V) (E : XK) (t : TA) : TE := fun σ H Q => t σ H fun vs H1 => sp (vs ++ dvs) H1 Q E
/-- o.m(..) of an instance of the class at C -/
def tMeth (C : Addr) (m : Str) (sp : Sp) (dvs : List V) (E : XK) (ta : TE) (t : TA) : TE := fun σ H Q => ta σ H fun x H1 => ∃ a dx fs, x = .ref a ∧ H1 a = some (.ins C dx fs) ∧ fs.lookup m = none ∧
  t σ H1 fun vs H2 => sp (x :: (vs ++ dvs)) H2 Q E
/-- C(..): a new instance and its dict, then __init__ -/
def tMake (C : Addr) (sp : Sp) (dvs : List V) (E : XK) (t : TA) : TE := fun σ H Q => t σ H fun vs H1 => ∀ x dx, H1 x = none → H1 dx = none → dx ≠ x →
  sp (.ref x :: (vs ++ dvs)) (upd (upd H1 dx (.own x)) x (.ins C dx [])) (fun v H2 => v = .non ∧ Q (.ref x) H2) E

/-- how the parameters are bound: us the positional arguments, kw the keywords' values by name, ds the defaults that fill up -/
def Binds (K : PySem.W.Frag) (fd : FuncData) (ps : List Str) (ds : List Value) : Prop :=
  ∀ (s : Shared) (us : List Value), K.In s.heap → (us ++ ds).length = ps.length → BindsTo s fd ⟨us, []⟩ (ps.zip (us ++ ds))
/-- every parameter is given -/
theorem Binds.all {K : PySem.W.Frag} {fd : FuncData} {ps : List Str} (h : ∀ us : List Value, us.length = ps.length → bindArgs fd ⟨us, []⟩ = pure (ps.zip us)) : Binds K fd ps [] := fun s us _ hl => by
  rw [List.append_nil] at hl ⊢
  exact .of_eq (h us hl)

/-- an exception of a callee reaches what this body wants of exceptions -/
def Passes (CX : CXT) (X : Cx) (E : XK) : Prop := ∀ (pins : List (Addr × Obj)) (σ : St) (H : Hp) (s : Shared) (e : Value) (s' : Shared), Inv X pins σ H s → CX X.stack H s E e s' → X.xe e s'

section
variable {X : Cx} {CX : CXT} {k : Nat} {f C : Addr} {fd : FuncData} {ps : List Str} {sp : Sp} {dvs : List V} {ds : List Value} {E : XK} {x m : Str} {p pos apos : Pos} {e o : Expr} {es : List Expr} {ta : TE} {t : TA}

/-- the callee runs -/
theorem run_fn {pins : List (Addr × Obj)} {σ : St} {H : Hp} {s : Shared} {Q : VK} {us : List Value} {vs : List V} (F : FnOk X.prog X.w X.K X.mg X.base CX k f fd ps sp) (hr : Room k X.A) (hb : Binds X.K fd ps ds) (hd : Vals dvs ds) (hx : Passes CX X E)
    (I : Inv X pins σ H s) (r : Vals vs us) (h : sp (vs ++ dvs) H Q E) : wpAny (model X.prog X.w) X.A (call (.ref f) us) (EP X pins σ Q) X.xe s := by
  have r2 : Vals (vs ++ dvs) (us ++ ds) := r.append hd
  have hl : (us ++ ds).length = ps.length := by rw [← r2.length]; exact F.len _ _ _ _ h
  refine wpAny_call (codeAny_mono (F.run X.A X.stack s H ⟨us, []⟩ (us ++ ds) (vs ++ dvs) Q E hr I.env0 (hb s us I.kIn hl) r2 h) fun r s' hq => ?_)
  cases r with
  | error e => exact hx pins σ H s e s' I hq
  | ok fl =>
    cases fl with
    | ret u => exact I.after hq
    | next => exact False.elim hq
    | brk => exact False.elim hq
    | cont => exact False.elim hq

theorem pe_call (F : FnOk X.prog X.w X.K X.mg X.base CX k f fd ps sp) (hr : Room k X.A) (hg : Gl X x) (hm : X.mg x = some (.ref f)) (hk : PySem.W.keepIn X.K (.ref f) = true) (hb : Binds X.K fd ps ds) (hd : Vals dvs ds) (hx : Passes CX X E)
    (ha : PA X (e :: es) t) (hdb : (x == ("__debug__" : Str)) = false := by decide) (he : starEach (e :: es) X.env = (false, eval e X.env) :: starEach es X.env := by rfl) (hpl : (backTo pos (starEach es X.env)).any (·.1) = false := by rfl) :
    PE X (.Call (.Name x p) (e :: es) [] pos) (tCall sp dvs E t) := by
  intro pins s σ H Q I h
  refine wpAny_Call_Name_kw (ld_glob I hg hm ?_ hdb)
  refine PySem.W.callWith_K (h₀ := X.base) I.ok.mod.kin hk (thn (ha pos pins s σ H _ I h) fun us s1 ⟨vs, H1, I1, r, q⟩ => ⟨I1.kIn, ?_⟩) he hpl
  exact run_fn F hr hb hd hx I1 r q

/-- o.m(e, ..) -/
theorem pe_meth {pl : Sem Bool} (he : PE X o ta) (c : Cls X.K C) (hm : Meth X.K C m f) (F : FnOk X.prog X.w X.K X.mg X.base CX k f fd ps sp) (hr : Room k X.A) (hb : Binds X.K fd ps ds) (hd : Vals dvs ds) (hx : Passes CX X E) (ha : PA X (e :: es) t)
    (hst : starEach (e :: es) X.env = (false, eval e X.env) :: starEach es X.env := by rfl) (hpl : (backTo pos (starEach es X.env)).any (·.1) = false := by rfl)
    (ht : eval (.Call (.Attribute o m apos) (e :: es) [] pos) X.env = (do
      let ov ← eval o X.env
      standAt apos.atName
      let (f, first) ← holding [ov] (getMethod ov m pl)
      callWith pos f first (backTo pos (starEach (e :: es) X.env)) (backToKw pos (keywordEach [] X.env))) := by rfl) :
    PE X (.Call (.Attribute o m apos) (e :: es) [] pos) (tMeth C m sp dvs E ta t) := by
  intro pins s σ H Q I h
  refine PySem.W.methodCall_KW (pl := pl) (thn (he pins s σ H _ I h) fun u s1 ⟨x, H1, I1, rx, a, dx, fs, ex, ea, l, q⟩ => ?_) ht
  subst ex
  obtain rfl : u = Value.ref a := rx
  refine getmeth_ok I1 ea c hm l ?_
  refine PySem.W.callWith_K (first := [.ref a]) (h₀ := X.base) I.ok.mod.kin hm.kp (thn (ha pos pins s1 σ H1 _ I1 q) fun us s2 ⟨vs, H2, I2, r, q2⟩ => ⟨I2.kIn, ?_⟩) hst hpl
  exact run_fn (us := .ref a :: us) (vs := .ref a :: vs) F hr hb hd hx I2 (.cons rfl r) q2

/-- what a class must have to be made -/
structure Mk (K : PySem.W.Frag) (C f : Addr) : Prop where
  makes : PySem.W.makesIn K C = true
  init : PySem.W.findIn K (.ref C) "__init__" = some (some (.ref f))
  fn : PySem.W.isFn K (.ref f) = true
  kp : PySem.W.keepIn K (.ref C) = true

theorem run_make {pins : List (Addr × Obj)} {σ : St} {H : Hp} {s : Shared} {Q : VK} {us : List Value} {vs : List V} (M : Mk X.K C f) (F : FnOk X.prog X.w X.K X.mg X.base CX k f fd ps sp) (hr : Room (k + 1) X.A) (hb : Binds X.K fd ps ds) (hd : Vals dvs ds)
    (hx : Passes CX X E) (I : Inv X pins σ H s) (r : Vals vs us)
    (h : ∀ x dx, H x = none → H dx = none → dx ≠ x → sp (.ref x :: (vs ++ dvs)) (upd (upd H dx (.own x)) x (.ins C dx [])) (fun v H2 => v = .non ∧ Q (.ref x) H2) E) :
    wpAny (model X.prog X.w) X.A (call (.ref C) us) (EP X pins σ Q) X.xe s := by
  have hq := h (s.heap.objs.size + 1) s.heap.objs.size (I.hok.fresh (Nat.le_succ _)) (I.hok.fresh (Nat.le_refl _)) (Nat.ne_of_lt (Nat.lt_succ_self _))
  have I2 := Inv.made (C := C) I
  have r2 : Vals (V.ref (s.heap.objs.size + 1) :: (vs ++ dvs)) (Value.ref (s.heap.objs.size + 1) :: (us ++ ds)) := .cons rfl (r.append hd)
  have hl : (Value.ref (s.heap.objs.size + 1) :: us ++ ds).length = ps.length := by
    have e := r2.length
    rw [F.len _ _ _ _ hq] at e
    exact e.symm
  refine wpAny_call (make_map (f := f) I.kIn M.makes M.init (beq_iff_eq.mp M.fn) (codeAny_mono (F.run _ X.stack _ _ ⟨Value.ref (s.heap.objs.size + 1) :: us, []⟩ (Value.ref (s.heap.objs.size + 1) :: (us ++ ds)) _ _ E (hr.make C us [])
    (I2.env0.make C us []) (hb _ (Value.ref (s.heap.objs.size + 1) :: us) I2.kIn hl) r2 hq) fun r s' hq' => ?_))
  cases r with
  | error e => exact hx pins σ _ _ e s' I2 hq'
  | ok fl =>
    cases fl with
    | ret u =>
      obtain ⟨v, H', I3, rv, ev, q3⟩ := I2.after hq'
      subst ev
      exact ⟨rv, ⟨V.ref (s.heap.objs.size + 1), H', I3, rfl, q3⟩⟩
    | next => exact False.elim hq'
    | brk => exact False.elim hq'
    | cont => exact False.elim hq'
theorem pe_make (M : Mk X.K C f) (F : FnOk X.prog X.w X.K X.mg X.base CX k f fd ps sp) (hr : Room (k + 1) X.A) (hg : Gl X x) (hm : X.mg x = some (.ref C)) (hb : Binds X.K fd ps ds) (hd : Vals dvs ds) (hx : Passes CX X E)
    (ha : PA X (e :: es) t) (hdb : (x == ("__debug__" : Str)) = false := by decide) (he : starEach (e :: es) X.env = (false, eval e X.env) :: starEach es X.env := by rfl) (hpl : (backTo pos (starEach es X.env)).any (·.1) = false := by rfl) :
    PE X (.Call (.Name x p) (e :: es) [] pos) (tMake C sp dvs E t) := by
  intro pins s σ H Q I h
  refine wpAny_Call_Name_kw (ld_glob I hg hm ?_ hdb)
  refine PySem.W.callWith_K (h₀ := X.base) I.ok.mod.kin M.kp (thn (ha pos pins s σ H _ I h) fun us s1 ⟨vs, H1, I1, r, q⟩ => ⟨I1.kIn, ?_⟩) he hpl
  exact run_make M F hr hb hd hx I1 r q
end

/-! ### keywords -/
section
variable {X : Cx} {CX : CXT} {k : Nat} {f C : Addr} {fd : FuncData} {ps ks : List Str} {sp : Sp} {E : XK} {x m : Str} {p pos apos kpos : Pos} {e o : Expr} {es : List Expr} {kws : List Keyword} {te ta : TE} {t tk : TA} {nm : Option Str}

variable {g : List Value → List Value → List Value} {gV : List V → List V → List V}
end

/-! ### a def's body keeps its promise -/
/-- names: the parameters first -/
structure FnScope (N P : List Str) (sc : Scope) : Prop where
  kind : sc.kind = .function
  co : sc.isCoroutine = false
  gen : sc.isGenerator = false
  nd : N.Nodup
  pre : N.take P.length = P
  par : ∀ x ∈ P, sc.names.lookup x = some .local ∨ sc.names.lookup x = some .cell
  nofree : ∀ y ∈ sc.names, y.2 ≠ .free

theorem bindL_out {kindOf : Str → Option NameKind} {x : Str} : ∀ {binds : List (Str × Value)} {m : Str → Option Value}, (∀ v, (x, v) ∉ binds) → bindL kindOf binds m x = m x
  | [], _, _ => rfl
  | (n, v) :: r, m, h => by
    unfold bindL
    rw [bindL_out fun w hw => h w (List.mem_cons_of_mem _ hw)]
    split
    · have : x ≠ n := by rintro rfl; exact h v List.mem_cons_self
      simp [this]
    · rfl
theorem bindC_out {kindOf : Str → Option NameKind} {x : Str} : ∀ {binds : List (Str × Value)} {m : Str → Option Value}, (∀ v, (x, v) ∉ binds) → bindC kindOf binds m x = m x
  | [], _, _ => rfl
  | (n, v) :: r, m, h => by
    unfold bindC
    rw [bindC_out fun w hw => h w (List.mem_cons_of_mem _ hw)]
    split
    · rfl
    · have : x ≠ n := by rintro rfl; exact h v List.mem_cons_self
      simp [this]
theorem bindL_get {kindOf : Str → Option NameKind} {x : Str} {v : Value} : ∀ {P : List Str} {vs : List Value} {i : Nat} {m : Str → Option Value}, P.Nodup → P[i]? = some x → vs[i]? = some v → kindOf x = some .local →
    bindL kindOf (P.zip vs) m x = some v
  | [], _, _, _, _, h, _, _ => by simp at h
  | _ :: _, [], _, _, _, _, h, _ => by simp at h
  | p :: P, w :: vs, 0, m, nd, h1, h2, hk => by
    simp at h1 h2; subst h1; subst h2
    show bindL kindOf ((p, w) :: P.zip vs) m p = _
    unfold bindL
    rw [bindL_out fun v hv => (List.nodup_cons.mp nd).1 (List.of_mem_zip hv).1, if_pos hk]
    simp
  | p :: P, w :: vs, i + 1, m, nd, h1, h2, hk => by
    show bindL kindOf ((p, w) :: P.zip vs) m x = _
    unfold bindL
    exact bindL_get (i := i) (List.nodup_cons.mp nd).2 (by simpa using h1) (by simpa using h2) hk
theorem bindC_get {kindOf : Str → Option NameKind} {x : Str} {v : Value} : ∀ {P : List Str} {vs : List Value} {i : Nat} {m : Str → Option Value}, P.Nodup → P[i]? = some x → vs[i]? = some v → kindOf x ≠ some .local →
    bindC kindOf (P.zip vs) m x = some v
  | [], _, _, _, _, h, _, _ => by simp at h
  | _ :: _, [], _, _, _, _, h, _ => by simp at h
  | p :: P, w :: vs, 0, m, nd, h1, h2, hk => by
    simp at h1 h2; subst h1; subst h2
    show bindC kindOf ((p, w) :: P.zip vs) m p = _
    unfold bindC
    rw [bindC_out fun v hv => (List.nodup_cons.mp nd).1 (List.of_mem_zip hv).1, if_neg hk]
    simp
  | p :: P, w :: vs, i + 1, m, nd, h1, h2, hk => by
    show bindC kindOf ((p, w) :: P.zip vs) m x = _
    unfold bindC
    exact bindC_get (i := i) (List.nodup_cons.mp nd).2 (by simpa using h1) (by simpa using h2) hk

/-- the names' values at the entry -/
def start (N : List Str) (vs : List V) : St := vs.map some ++ List.replicate (N.length - vs.length) none

/-- the context of a def's body, at its entry; an exception leaves the frame, then lies as CX says -/
def cxOf (CX : CXT) (P : Program) (w : World) (K : PySem.W.Frag) (mg : Str → Option Value) (base : Heap) (N : List Str) (qual : Str) (scope : Scope) (f : Addr) (cd : Value) (A : Around) (outer : List Env) (s : Shared) (H : Hp) (E : XK) : Cx where
  prog := P
  w := w
  K := K
  mg := mg
  base := base
  A := A.deeper (envOfC qual scope s.heap.objs.size f cd)
  N := N
  s₀ := s
  H₀ := H
  env := envOfC qual scope s.heap.objs.size f cd
  outer := outer
  stack := envOfC qual scope s.heap.objs.size f cd :: outer
  ex := []
  calm := true
  fn := fun _ => true
  pn := []
  xe := fun e s' => wpAny (model P w) (A.deeper (envOfC qual scope s.heap.objs.size f cd)) (leaving (envOfC qual scope s.heap.objs.size f cd) e) (fun _ s'' => CX outer H s E e s'') (fun e' s'' => CX outer H s E e' s'') s'

theorem cell_has {sc : Scope} {n : Nat} {x : Str} (h : sc.names.lookup x = some .cell) : ∃ c, (cellsFrom n sc.names []).lookup x = some c := by
  have q := PySem.W.cellsFrom_some sc.names n [] (.inl h)
  exact Option.isSome_iff_exists.mp q

theorem inv_start {CX : CXT} {P : Program} {w : World} {K : PySem.W.Frag} {mg : Str → Option Value} {base : Heap} {N ps : List Str} {qual : Str} {scope : Scope} {f : Addr} {cd : Value} {A : Around} {outer : List Env} {s s1 : Shared} {H : Hp} {E : XK} {us : List Value} {vs : List V}
    (S : FnScope N ps scope) (hd : A.handled = none) (e0 : Env0 P w K mg base A outer s H) (hl : vs.length = ps.length) (r : Vals vs us)
    (x : InCallC s s.heap.objs.size (bindL (envOfC qual scope s.heap.objs.size f cd).kindOf (ps.zip us) fun _ => none) (cellsFrom (s.heap.objs.size + 1) scope.names []) (bindC (envOfC qual scope s.heap.objs.size f cd).kindOf (ps.zip us) fun _ => none) s1) :
    Inv (cxOf CX P w K mg base N qual scope f cd A outer s H E) [] (start N vs) H s1 := by
  have hpl : ps.length ≤ N.length := by have := congrArg List.length S.pre; rw [List.length_take] at this; omega
  obtain ⟨h1, tk, rfl, hk⟩ := x.done
  have noA : ∀ b : Addr, b ∉ (cxOf CX P w K mg base N qual scope f cd A outer s H E).ex := fun b z => absurd (show b ∈ ([] : List Addr) from z) (by simp)
  refine ⟨⟨e0.mod, S.kind, rfl, rfl, Nat.le_refl _, fun y z c h1 h2 => ?_, fun y hy => ?_, fun y c _ h => ?_, fun _ => hd, Around.frames_deeper e0.frames, .inr ⟨rfl, rfl⟩, fun b z => absurd z (noA b), e0.bs, e0.bsz, fun b _ _ => noA b, fun b z => absurd z (noA b), e0.funs, e0.frf⟩,
    rfl, e0.bare, Un.kept hk, ⟨_, x.toInCall.ns, fun i y v h1 h2 h3 => ?_⟩, fun y c h => ⟨_, x.cell y c h⟩, e0.hok.fresh (Nat.le_refl _), fun y c h => ?_, fun p hp => absurd (show p ∈ ([] : List (Addr × Obj)) from hp) (by simp), e0.hok.kept hk, ?_⟩
  · exact name_of_addr x.apart (PySem.mem_of_lookup h1) (PySem.mem_of_lookup h2)
  · have hy : scope.names.lookup y = some .cell ∨ scope.names.lookup y = some .free := hy
    rcases hy with hy | hy
    · exact cell_has hy
    · exact absurd rfl (S.nofree _ (PySem.mem_of_lookup hy))
  · exact Nat.le_of_lt (x.above y c (PySem.mem_of_lookup h))
  · have hi : i < vs.length := by
      unfold start at h2
      by_cases hi : i < vs.length
      · exact hi
      · rw [List.getElem?_append_right (by simpa using hi)] at h2
        rw [List.getElem?_replicate] at h2
        split at h2 <;> cases h2
    have ha : vs[i]? = some v := by
      unfold start at h2
      rw [List.getElem?_append_left (by simpa using hi), List.getElem?_map] at h2
      cases e : vs[i]? with
      | none => rw [e] at h2; cases h2
      | some a => rw [e] at h2; cases h2; rfl
    obtain ⟨u, hu, rv⟩ := r.get ha
    have hp : ps[i]? = some y := by
      rw [← S.pre, List.getElem?_take_of_lt (by omega)]; exact h1
    have ndP : ps.Nodup := by rw [← S.pre]; exact S.nd.sublist (List.take_sublist _ _)
    refine ⟨u, rv, ?_⟩
    rcases S.par y (List.mem_of_getElem? hp) with k | k
    · exact .inl ⟨k, bindL_get ndP hp hu k⟩
    · obtain ⟨c, e⟩ := cell_has (n := s.heap.objs.size + 1) k
      refine .inr ⟨.inl k, c, e, ?_⟩
      have q := x.cell y c e
      rw [bindC_get ndP hp hu (by show scope.names.lookup y ≠ _; rw [k]; decide)] at q
      exact q
  · exact e0.hok.fresh (Nat.le_of_lt (x.above y c (PySem.mem_of_lookup h)))
  · unfold start
    show _ = N.length
    rw [List.length_append, List.length_map, List.length_replicate]
    omega

/-- THE RULE: a def (or a method) of the text, by its body. The body's reading t is chosen for each entry; it is run at the parameters' values -/
theorem fn_of {CX : CXT} {P : Program} {w : World} {K : PySem.W.Frag} {mg : Str → Option Value} {base : Heap} {k : Nat} {f : Addr} {name qual : Str} {params : Arguments} {body : List Stmt} {scope : Scope} {dV kV doc pm cdv ct oc : Value} {an od : Option Addr}
    {osl : Array (Option Value)} {N ps : List Str} {sp : Sp} (lk : K.lookup f = some ⟨oc, od, .func (PySem.W.fnOf name qual params body scope dV kV doc pm an cdv ct), osl⟩) (hcd : PySem.W.codeIn K cdv qual = true) (S : FnScope N ps scope)
    (len : ∀ vs H Q E, sp vs H Q E → vs.length = ps.length)
    (hbody : ∀ (A : Around) (outer : List Env) (s : Shared) (H : Hp) (vs : List V) (Q : VK) (E : XK), Room k (A.deeper (envOfC qual scope s.heap.objs.size f cdv)) → sp vs H Q E →
      ∃ t, PSs (cxOf CX P w K mg base N qual scope f cdv A outer s H E) body t ∧ t { nx := fun _ H' => Q .non H', rt := Q } (start N vs) H) :
    FnOk P w K mg base CX (k + 1) f (PySem.W.fnOf name qual params body scope dV kV doc pm an cdv ct) ps sp := by
  refine ⟨len, fun A outer s H args us vs Q E hr e0 hb r hsp => ?_⟩
  have hl := len _ _ _ _ hsp
  have KX : K.In s.heap := e0.mod.kin.keeps fun b o e => (e0.bs b o e).1
  have lim : s.heap.NoLimit := e0.mod.nolimit.keeps fun b o e => (e0.bs b o e).1
  have hkind : ∀ y ∈ ps.zip us, scope.names.lookup y.1 = some .local ∨ (scope.names.lookup y.1 = some .cell ∧ ((cellsFrom (s.heap.objs.size + 1) scope.names []).lookup y.1).isSome = true) := fun ⟨n, v⟩ hy => by
    rcases S.par n (List.of_mem_zip hy).1 with q | q
    · exact .inl q
    · exact .inr ⟨q, PySem.W.cellsFrom_some _ _ _ (.inl q)⟩
  refine codeAny_call_function hr.depth (KX _ _ lk) rfl S.co S.gen rfl (PySem.W.codeRec_of KX hcd) (hb _ _ _ _ ?_)
  refine wpAny_newFunctionEnv_cells S.kind hkind fun env he s1 x => ?_
  subst he
  refine ⟨lim.keeps x.toInCall.keep, codeAny_func ?_⟩
  obtain ⟨t, ht, hq⟩ := hbody A outer s H vs Q E (hr.deeper _) hsp
  have I : Inv (cxOf CX P w K mg base N qual scope f cdv A outer s H E) [] (start N vs) H s1 := inv_start S hr.hd e0 hl r x
  refine wpAny_mono (ht [] s1 (start N vs) H _ I hq) (fun fl s' hs => ?_) fun e s' hs => hs
  have fin : ∀ {σ' : St} {H' : Hp} {v : V} {u : Value}, Inv (cxOf CX P w K mg base N qual scope f cdv A outer s H E) [] σ' H' s' → RelV v u → Q v H' → CE outer P w H s Q u s' :=
    fun {σ' H' v u} J rv q => ⟨v, H', J.os, J.bare, J.base, J.hok, rv, q⟩
  cases fl with
  | ret u =>
    obtain ⟨v, σ', H', J, rv, q⟩ := hs
    exact fin J rv q
  | next =>
    obtain ⟨σ', H', J, q⟩ := hs
    exact fin (v := V.non) (u := Value.none) J rfl q
  | brk =>
    obtain ⟨_, _, _, q⟩ := hs
    exact False.elim q
  | cont =>
    obtain ⟨_, _, _, q⟩ := hs
    exact False.elim q
end L2

namespace L2
open PySem PySem.Spec PyProof.Rows
section
variable {X : Cx} {x : Str} {p pos : Pos} {e : Expr} {es : List Expr} {t : TA} {id T : String} {r : List V → Hp → VK → Prop}

def tCB (r : List V → Hp → VK → Prop) (t : TA) : TE := fun σ H Q => t σ H fun vs H1 => r vs H1 Q
/-- f(e, ..), f a built-in function -/
theorem pe_callB (hc : CallR X (.builtin id) r) (hg : Gl X x) (hm : X.mg x = none) (hv : bootBuiltins x = some (.builtin id)) (ha : PA X (e :: es) t) (hn : x ≠ "__name__" := by decide) (hdb : (x == ("__debug__" : Str)) = false := by decide)
    (he : starEach (e :: es) X.env = (false, eval e X.env) :: starEach es X.env := by rfl) (hpl : (backTo pos (starEach es X.env)).any (·.1) = false := by rfl) : PE X (.Call (.Name x p) (e :: es) [] pos) (tCB r t) := by
  intro pins s σ H Q I h
  refine wpAny_Call_Name_kw (ld_blt I hg hm hv ?_ hn hdb)
  exact PyProof.Rows.callWith_builtin1 (thn (ha pos pins s σ H _ I h) fun us s1 ⟨vs, H1, I1, r1, q1⟩ => hc pins s1 σ H1 vs us Q I1 r1 q1) he hpl
/-- T(e, ..), T a built-in type -/
theorem pe_callTy (hc : CallR X (.type T) r) (hg : Gl X x) (hm : X.mg x = none) (hv : bootBuiltins x = some (.type T)) (ha : PA X (e :: es) t) (hn : x ≠ "__name__" := by decide) (hdb : (x == ("__debug__" : Str)) = false := by decide)
    (he : starEach (e :: es) X.env = (false, eval e X.env) :: starEach es X.env := by rfl) (hpl : (backTo pos (starEach es X.env)).any (·.1) = false := by rfl) : PE X (.Call (.Name x p) (e :: es) [] pos) (tCB r t) := by
  intro pins s σ H Q I h
  refine wpAny_Call_Name_kw (ld_blt I hg hm hv ?_ hn hdb)
  exact PyProof.Rows.callWith_type1 (thn (ha pos pins s σ H _ I h) fun us s1 ⟨vs, H1, I1, r1, q1⟩ => hc pins s1 σ H1 vs us Q I1 r1 q1) he hpl
end
end L2

namespace L2
open PySem PySem.Spec PyProof.Rows

/-! ### lists of pairs as tables -/
section
variable {κ : Type} [DecidableEq κ]
def valV (kvs : List (κ × V)) (k : κ) : Option V := (kvs.find? fun kv => decide (kv.1 = k)).map (·.2)
/-- in its place, or at the end -/
def putK (kvs : List (κ × V)) (k : κ) (v : V) : List (κ × V) :=
  if (kvs.any fun kv => decide (kv.1 = k)) = true then kvs.map (fun kv => if kv.1 = k then (kv.1, v) else kv) else kvs ++ [(k, v)]

theorem valV_pos {p : κ × V} {r : List (κ × V)} {k : κ} (e : p.1 = k) : valV (p :: r) k = some p.2 := by simp [valV, List.find?_cons, e]
theorem valV_neg {p : κ × V} {r : List (κ × V)} {k : κ} (e : ¬ p.1 = k) : valV (p :: r) k = valV r k := by simp [valV, List.find?_cons, e]
theorem valV_any (k : κ) : ∀ kvs : List (κ × V), (kvs.any fun kv => decide (kv.1 = k)) = (valV kvs k).isSome
  | [] => rfl
  | p :: r => by
    rw [List.any_cons]
    by_cases e : p.1 = k
    · simp only [valV_pos e, decide_eq_true e, Bool.true_or, Option.isSome_some]
    · rw [valV_neg e, decide_eq_false e, Bool.false_or]; exact valV_any k r
theorem valV_map (k j : κ) (y : V) : ∀ kvs : List (κ × V), valV (kvs.map fun kv => if kv.1 = k then (kv.1, y) else kv) j = (valV kvs j).map fun x => if j = k then y else x
  | [] => rfl
  | p :: r => by
    have ih := valV_map k j y r
    rw [List.map_cons]
    by_cases h : p.1 = k
    · rw [if_pos h]
      by_cases e : p.1 = j
      · rw [valV_pos (p := (p.1, y)) e, valV_pos e, Option.map_some, if_pos (e.symm.trans h)]
      · rw [valV_neg (p := (p.1, y)) e, valV_neg e, ih]
    · rw [if_neg h]
      by_cases e : p.1 = j
      · rw [valV_pos (p := p) e, valV_pos e, Option.map_some, if_neg (fun z => h (e.trans z))]
      · rw [valV_neg (p := p) e, valV_neg e, ih]
theorem valV_snoc (k j : κ) (y : V) : ∀ kvs : List (κ × V), valV kvs k = none → valV (kvs ++ [(k, y)]) j = if j = k then some y else valV kvs j
  | [], _ => by
    by_cases e : k = j
    · rw [if_pos e.symm]; exact valV_pos (p := (k, y)) e
    · rw [if_neg (fun z => e z.symm)]; exact valV_neg (p := (k, y)) e
  | p :: r, hn => by
    rw [List.cons_append]
    have hk : ¬ p.1 = k := fun z => by rw [valV_pos z] at hn; cases hn
    rw [valV_neg hk] at hn
    have ih := valV_snoc k j y r hn
    by_cases e : p.1 = j
    · rw [valV_pos e, valV_pos e, if_neg (fun z => hk (e.trans z))]
    · rw [valV_neg e, valV_neg e, ih]
theorem valV_put (kvs : List (κ × V)) (k j : κ) (y : V) : valV (putK kvs k y) j = if j = k then some y else valV kvs j := by
  unfold putK
  by_cases a : (kvs.any fun kv => decide (kv.1 = k)) = true
  · rw [if_pos a, valV_map]
    rw [valV_any] at a
    by_cases e : j = k
    · obtain ⟨x, hx⟩ := Option.isSome_iff_exists.mp a
      rw [if_pos e, e, hx, Option.map_some, if_pos rfl]
    · rw [if_neg e]
      cases valV kvs j with
      | none => rfl
      | some x => rw [Option.map_some, if_neg e]
  · rw [if_neg a]
    refine valV_snoc k j y kvs ?_
    rw [valV_any] at a
    cases q : valV kvs k with
    | none => rfl
    | some x => rw [q] at a; exact (a rfl).elim
theorem length_putK (kvs : List (κ × V)) (k : κ) (v : V) : (putK kvs k v).length ≤ kvs.length + 1 := by
  unfold putK
  split
  · rw [List.length_map]; omega
  · rw [List.length_append, List.length_cons, List.length_nil]; omega
theorem putK_new {kvs : List (κ × V)} {k : κ} (v : V) (h : valV kvs k = none) : putK kvs k v = kvs ++ [(k, v)] := by
  unfold putK
  rw [valV_any, h]
  exact if_neg (by decide)

theorem RelO.isSome_eq {o : Option V} {u : Option Value} (r : RelO o u) : o.isSome = u.isSome := by
  cases o with
  | none => cases u with
    | none => rfl
    | some _ => exact (show False from r).elim
  | some _ => cases u with
    | none => exact (show False from r).elim
    | some _ => rfl
theorem RelO.getD {o : Option V} {u : Option Value} {d : V} {d' : Value} (r : RelO o u) (rd : RelV d d') : RelV (o.getD d) (u.getD d') := by
  cases o with
  | none => cases u with
    | none => exact rd
    | some _ => exact (show False from r).elim
  | some _ => cases u with
    | none => exact (show False from r).elim
    | some _ => exact r

/-- raw tables of the same keys -/
theorem KV.val {kvs : List (κ × V)} {vs : List (κ × Value)} (r : KV kvs vs) (k : κ) : RelO (valV kvs k) (valueAt vs k) := by
  unfold KV at r
  induction r with
  | nil => exact True.intro
  | @cons p q ps qs h t ih =>
    obtain ⟨h1, h2⟩ := h
    by_cases e : p.1 = k
    · have e' : q.1 = k := h1.symm.trans e
      have b : valueAt (q :: qs) k = some q.2 := by simp [valueAt, List.find?_cons, e']
      rw [valV_pos e, b]; exact h2
    · have e' : ¬ q.1 = k := fun z => e (h1.trans z)
      have b : valueAt (q :: qs) k = valueAt qs k := by simp [valueAt, List.find?_cons, e']
      rw [valV_neg e, b]; exact ih
theorem KV.any {kvs : List (κ × V)} {vs : List (κ × Value)} (r : KV kvs vs) (k : κ) : (kvs.any fun kv => decide (kv.1 = k)) = vs.any fun kv => decide (kv.1 = k) := by
  unfold KV at r
  induction r with
  | nil => rfl
  | cons h t ih => rw [List.any_cons, List.any_cons, ih, h.1]
theorem KV.repl {kvs : List (κ × V)} {vs : List (κ × Value)} (r : KV kvs vs) (k : κ) {y : V} {u : Value} (ry : RelV y u) :
    KV (kvs.map fun kv => if kv.1 = k then (kv.1, y) else kv) (vs.map fun kv => if kv.1 = k then (kv.1, u) else kv) := by
  unfold KV at r ⊢
  induction r with
  | nil => exact .nil
  | @cons p q ps qs h t ih =>
    rw [List.map_cons, List.map_cons]
    refine .cons ?_ ih
    obtain ⟨h1, h2⟩ := h
    by_cases e : p.1 = k
    · rw [if_pos e, if_pos (h1.symm.trans e)]; exact ⟨h1, ry⟩
    · rw [if_neg e, if_neg (fun z => e (h1.trans z))]; exact ⟨h1, h2⟩
theorem KV.put {kvs : List (κ × V)} {vs : List (κ × Value)} (r : KV kvs vs) (k : κ) {y : V} {u : Value} (ry : RelV y u) : KV (putK kvs k y) (stored vs k u) := by
  unfold putK stored
  rw [r.any k]
  by_cases e : (vs.any fun kv => decide (kv.1 = k)) = true
  · rw [if_pos e, if_pos e]; exact r.repl k ry
  · rw [if_neg e, if_neg e]; exact Paired.snoc r ⟨rfl, ry⟩
theorem KV.length {kvs : List (κ × V)} {vs : List (κ × Value)} (r : KV kvs vs) : kvs.length = vs.length := Paired.length r
end


/-! ### a tracked dict, its keys ints and texts or tuples of these -/
theorem kV_is {P : Program} {w : World} {k : Key} {u : Value} (r : RelV (kV k) u) : (mixKind P w).is k u = true := by
  cases k with
  | inl i => obtain ⟨t, e⟩ := (show ∃ t, u = Value.int i t from r); subst e; exact mixKind_int P w i t
  | inr x => obtain ⟨t, e⟩ := (show ∃ t, u = Value.str x t from r); subst e; exact mixKind_str P w x t
theorem items_are {P : Program} {w : World} : ∀ {ks : List Key} {us : List Value}, Vals (ks.map kV) us → ItemsAre (mixKind P w) ks us
  | [], _, r => by rw [List.map_nil] at r; cases r; exact .nil
  | k :: ks, _, r => by
    rw [List.map_cons] at r
    cases r with
    | cons h t => exact .cons (kV_is h) (items_are t)

/-- raw entries of a dict with tuple keys -/
abbrev KT (H : Hp) : List (List Key × V) → List (List Key × Addr × Value) → Prop := Paired fun p q => p.1 = q.1 ∧ H q.2.1 = some (.tup (p.1.map kV)) ∧ RelV p.2 q.2.2
theorem KT.val {H : Hp} {kvs : List (List Key × V)} {xs : List (List Key × Addr × Value)} (r : KT H kvs xs) (k : List Key) : RelO (valV kvs k) ((atKey xs k).map (·.2)) := by
  induction r with
  | nil => exact True.intro
  | @cons p q ps qs h t ih =>
    obtain ⟨h1, _, h2⟩ := h
    by_cases e : p.1 = k
    · have e' : q.1 = k := h1.symm.trans e
      have b : atKey (q :: qs) k = some q.2 := by simp [atKey, List.find?_cons, e']
      rw [valV_pos e, b]; exact h2
    · have e' : ¬ q.1 = k := fun z => e (h1.trans z)
      have b : atKey (q :: qs) k = atKey qs k := by simp [atKey, List.find?_cons, e']
      rw [valV_neg e, b]; exact ih
theorem KT.repl {H : Hp} {kvs : List (List Key × V)} {xs : List (List Key × Addr × Value)} (r : KT H kvs xs) (k : List Key) {y : V} {u : Value} (ry : RelV y u) :
    KT H (kvs.map fun kv => if kv.1 = k then (kv.1, y) else kv) (xs.map (putAt k u)) := by
  induction r with
  | nil => exact .nil
  | @cons p q ps qs h t ih =>
    rw [List.map_cons, List.map_cons]
    refine .cons ?_ ih
    obtain ⟨h1, h2, h3⟩ := h
    unfold putAt
    by_cases e : p.1 = k
    · rw [if_pos e, if_pos (h1.symm.trans e)]; exact ⟨h1, h2, ry⟩
    · rw [if_neg e, if_neg (fun z => e (h1.trans z))]; exact ⟨h1, h2, h3⟩
theorem KT.put {H : Hp} {kvs : List (List Key × V)} {xs : List (List Key × Addr × Value)} (r : KT H kvs xs) (k : List Key) {b : Addr} {y : V} {u : Value} (hb : H b = some (.tup (k.map kV))) (ry : RelV y u) :
    KT H (putK kvs k y) (storedH xs k b u) := by
  have e : (kvs.any fun kv => decide (kv.1 = k)) = (atKey xs k).isSome := by
    rw [valV_any, (r.val k).isSome_eq, Option.isSome_map]
  unfold putK storedH
  rw [e]
  by_cases q : (atKey xs k).isSome = true
  · rw [if_pos q, if_pos q]; exact r.repl k ry
  · rw [if_neg q, if_neg q]; exact Paired.snoc r ⟨rfl, hb, ry⟩
theorem KT.keeps {H H' : Hp} {kvs : List (List Key × V)} {xs : List (List Key × Addr × Value)} (r : KT H kvs xs) (ht : ∀ b ys, H b = some (.tup ys) → H' b = some (.tup ys)) : KT H' kvs xs :=
  Paired.mapP r fun _ _ z => ⟨z.1, ht _ _ z.2.1, z.2.2⟩

section
variable {P : Program} {w : World} {H : Hp} {h : Heap} {a : Addr}
theorem rd_of {u : HO} (ok : HOk P w H h) (e : Rd H a u) : ObjOk P w H h a u := e.ok ok
theorem dk_rd {kvs : List (Key × V)} (ok : HOk P w H h) (e : Rd H a (.dK kvs)) : kvs.length ≤ sizeLine ∧ (a == sysModules) = false ∧ ∃ vs, KV kvs vs ∧ h.DictOf (mixKind P w) a vs :=
  show ObjOk P w H h a (.dK kvs) from rd_of ok e
theorem dk_of {kvs : List (Key × V)} (ok : HOk P w H h) (e : H a = some (.dK kvs)) : kvs.length ≤ sizeLine ∧ (a == sysModules) = false ∧ ∃ vs, KV kvs vs ∧ h.DictOf (mixKind P w) a vs := dk_rd ok (.inl e)
/-- a tracked tuple of ints and texts is a key -/
theorem key_of {ks : List Key} (ok : HOk P w H h) (e : H a = some (.tup (ks.map kV))) : (tupleKind (mixKind P w)).is h ks a := by
  obtain ⟨_, its, r, o, h1, h2, n, h3⟩ := (show ObjOk P w H h a (.tup (ks.map kV)) from ok a _ e)
  exact ⟨o, its.toArray, n, h1, h2, h3, by simpa using items_are r⟩
theorem dt_rd {kvs : List (List Key × V)} (ok : HOk P w H h) (e : Rd H a (.dT kvs)) : kvs.length ≤ sizeLine ∧ (a == sysModules) = false ∧
    ∃ xs, KT H kvs xs ∧ h.DictOfH (tupleKind (mixKind P w)) a xs := by
  obtain ⟨z, y, xs, r, o, es, ep, h1, h2, h3, h4, h5⟩ := (show ObjOk P w H h a (.dT kvs) from rd_of ok e)
  refine ⟨z, y, xs, r, o, es, ep, h1, h2, h3, h4, fun x hx => ?_, h5⟩
  have all : ∀ {l : List (List Key × V)} {m : List (List Key × Addr × Value)}, KT H l m → ∀ x ∈ m, (tupleKind (mixKind P w)).is h x.1 x.2.1 := by
    intro l m q
    induction q with
    | nil => intro x hx; exact nomatch hx
    | @cons p q ps qs hq t ih =>
      intro x hx
      rcases List.mem_cons.mp hx with e | hx
      · subst e
        exact key_of ok (by rw [← hq.1]; exact hq.2.1)
      · exact ih x hx
  exact all r x hx
theorem dt_of {kvs : List (List Key × V)} (ok : HOk P w H h) (e : H a = some (.dT kvs)) : kvs.length ≤ sizeLine ∧ (a == sysModules) = false ∧
    ∃ xs, KT H kvs xs ∧ h.DictOfH (tupleKind (mixKind P w)) a xs := dt_rd ok (.inl e)
end

/-- what the dict at a holds at the key y -/
def DGet (H : Hp) (a : Addr) (y : V) (r : Option V) : Prop :=
  (∃ kvs k, Rd H a (.dK kvs) ∧ y = kV k ∧ r = valV kvs k) ∨ ∃ kvs k b, Rd H a (.dT kvs) ∧ y = .ref b ∧ H b = some (.tup (k.map kV)) ∧ r = valV kvs k
/-- the heap behind a[y] = v -/
def DPut (H : Hp) (a : Addr) (y v : V) (H' : Hp) : Prop :=
  (∃ kvs k, H a = some (.dK kvs) ∧ y = kV k ∧ kvs.length < sizeLine ∧ H' = upd H a (.dK (putK kvs k v))) ∨
  ∃ kvs k b, H a = some (.dT kvs) ∧ y = .ref b ∧ H b = some (.tup (k.map kV)) ∧ kvs.length < sizeLine ∧ H' = upd H a (.dT (putK kvs k v))


section
variable {X : Cx} {pins : List (Addr × Obj)} {σ : St} {H : Hp} {s : Shared} {a : Addr} {y v : V} {u r : Value} {o : Option V} {A : Around} {E : Value → Shared → Prop}

theorem Inv.big (I : Inv X pins σ H s) : sysModules < s.heap.objs.size := by
  have h : mainGlobals < s.heap.objs.size := (I.mod.glob.keeps I.bk).lt
  exact Nat.lt_trans (by decide) h

/-- d[y], there -/
theorem d_getItem {Q : Value → Shared → Prop} (hu : A.units + 1 < cLine) (I : Inv X pins σ H s) (g : DGet H a y (some v)) (ry : RelV y u) (h : ∀ w' s', Inv X pins σ H s' → RelV v w' → Q w' s') :
    wpAny (model X.prog X.w) A (getItem (.ref a) u) Q E s := by
  rcases g with ⟨kvs, k, e, ey, l⟩ | ⟨kvs, k, b, e, ey, eb, l⟩
  · subst ey
    obtain ⟨z, hd, vs, rel, dd⟩ := dk_rd I.hok e
    obtain ⟨w', hw, rw'⟩ := RelO.some_of (v := v) (o := valueAt vs k) (by rw [l]; exact rel.val k)
    exact wpAny_getItem_of (kV_is ry) dd.mapOf hw (h w' _ (I.tok _) rw')
  · subst ey
    cases (show u = Value.ref b from ry)
    obtain ⟨z, hd, xs, rel, dd⟩ := dt_rd I.hok e
    obtain ⟨w', hw, rw'⟩ := RelO.some_of (v := v) (o := (atKey xs k).map (·.2)) (by rw [l]; exact rel.val k)
    obtain ⟨p, hp, hp2⟩ := Option.map_eq_some_iff.mp hw
    refine wpAny_getItem_heap (tupleKind_room_in1 hu) (key_of I.hok eb) dd hp ?_
    rw [hp2]
    exact h w' _ (I.tok _) rw'
/-- y in d -/
theorem d_in {Q : Value → Shared → Prop} (hu : A.units + 1 < cLine) (I : Inv X pins σ H s) (g : DGet H a y o) (ry : RelV y u) (h : ∀ s', Inv X pins σ H s' → Q (.bool o.isSome) s') :
    wpAny (model X.prog X.w) A (compareOp .In u (.ref a)) Q E s := by
  rcases g with ⟨kvs, k, e, ey, l⟩ | ⟨kvs, k, b, e, ey, eb, l⟩
  · subst ey
    obtain ⟨z, hd, vs, rel, dd⟩ := dk_rd I.hok e
    refine wpAny_in_of (kV_is ry) hd dd.mapOf ?_
    rw [← (rel.val k).isSome_eq, ← l]
    exact h _ (I.tok _)
  · subst ey
    cases (show u = Value.ref b from ry)
    obtain ⟨z, hd, xs, rel, dd⟩ := dt_rd I.hok e
    refine wpAny_in_heap (tupleKind_room_in1 hu) (key_of I.hok eb) hd dd ?_
    have q := (rel.val k).isSome_eq
    rw [Option.isSome_map] at q
    rw [← q, ← l]
    exact h _ (I.tok _)
theorem d_notIn {Q : Value → Shared → Prop} (hu : A.units + 1 < cLine) (I : Inv X pins σ H s) (g : DGet H a y o) (ry : RelV y u) (h : ∀ s', Inv X pins σ H s' → Q (.bool (!o.isSome)) s') :
    wpAny (model X.prog X.w) A (compareOp .NotIn u (.ref a)) Q E s := by
  rcases g with ⟨kvs, k, e, ey, l⟩ | ⟨kvs, k, b, e, ey, eb, l⟩
  · subst ey
    obtain ⟨z, hd, vs, rel, dd⟩ := dk_rd I.hok e
    refine wpAny_notIn_of (kV_is ry) hd dd.mapOf ?_
    rw [← (rel.val k).isSome_eq, ← l]
    exact h _ (I.tok _)
  · subst ey
    cases (show u = Value.ref b from ry)
    obtain ⟨z, hd, xs, rel, dd⟩ := dt_rd I.hok e
    refine wpAny_notIn_heap (tupleKind_room_in1 hu) (key_of I.hok eb) hd dd ?_
    have q := (rel.val k).isSome_eq
    rw [Option.isSome_map] at q
    rw [← q, ← l]
    exact h _ (I.tok _)
/-- a dict's object is replaced -/
theorem d_write {h' : Heap} {t' : Nat} {ob : HO} (I : Inv X pins σ H s) (mu : Mut (H a)) (hs : Heap.SameBut a s.heap h') (he : ∃ q, h'.get? a = some q) (new : ObjOk X.prog X.w (upd H a ob) h' a ob) :
    Inv X pins σ (upd H a ob) { s with heap := h', toks := t' } :=
  I.write (x := a) (e := a) mu (.inl rfl) (fun b q hb z => (hs.2 b hb).trans z) he new
theorem dk_new {P : Program} {w : World} {H' : Hp} {h' : Heap} {kvs : List (Key × V)} {vs : List (Key × Value)} (z : kvs.length ≤ sizeLine) (hd : (a == sysModules) = false) (rel : KV kvs vs) (dd : h'.DictOf (mixKind P w) a vs) :
    ObjOk P w H' h' a (.dK kvs) := ⟨z, hd, vs, rel, dd⟩
/-- d[y] = v -/
theorem d_setItem {H' : Hp} {Q : Unit → Shared → Prop} (hu : A.units + 1 < cLine) (I : Inv X pins σ H s) (g : DPut H a y v H') (ry : RelV y u) (rv : RelV v r) (h : ∀ s', Inv X pins σ H' s' → Q () s') :
    wpAny (model X.prog X.w) A (setItem (.ref a) u r) Q E s := by
  rcases g with ⟨kvs, k, e, ey, l, eH⟩ | ⟨kvs, k, b, e, ey, eb, l, eH⟩
  · subst ey eH
    obtain ⟨z, hd, vs, rel, dd⟩ := dk_of I.hok e
    have hz : vs.length ≤ sizeLine := by rw [← rel.length]; exact z
    have hl : (putK kvs k v).length ≤ sizeLine := by have := length_putK kvs k v; omega
    refine wpAny_setItem_pairs (hsz := hz) (kV_is ry) dd fun h' dd' hs => h _ ?_
    have he : ∃ q, h'.get? a = some q := let ⟨q, _, _, hq, _⟩ := dd'; ⟨q, hq⟩
    exact d_write I (by rw [e]; exact True.intro) hs he (dk_new hl hd (rel.put k rv) dd')
  · subst ey eH
    cases (show u = Value.ref b from ry)
    obtain ⟨z, hd, xs, rel, dd⟩ := dt_of I.hok e
    have hz : xs.length ≤ sizeLine := by rw [← Paired.length rel]; exact z
    have hl : (putK kvs k v).length ≤ sizeLine := by have := length_putK kvs k v; omega
    refine wpAny_setItem_heap (hsz := hz) (tupleKind_room_in1 hu) (key_of I.hok eb) dd fun h' dd' hs => h _ ?_
    obtain ⟨q, es, ep, hq, h2, h3, h4, _, h5⟩ := dd'
    refine d_write I (by rw [e]; exact True.intro) hs ⟨q, hq⟩ ⟨hl, hd, _, (rel.put k eb rv).keeps fun c ys ec => ?_, q, es, ep, hq, h2, h3, h4, h5⟩
    rw [upd_ne (ne_of ec e (fun z => nomatch z))]
    exact ec
end

section
variable {X : Cx} {pins : List (Addr × Obj)} {σ : St} {H : Hp} {s : Shared} {a : Addr} {kvs : List (Key × V)} {k : Key} {u : Value} {A : Around} {E : Value → Shared → Prop}
/-- len(d) -/
theorem d_len {Q : Value → Shared → Prop} (I : Inv X pins σ H s) (e : Rd H a (.dK kvs)) (h : ∀ t s', Inv X pins σ H s' → Q (.int kvs.length t) s') : wpAny (model X.prog X.w) A (call (.builtin "len") [.ref a]) Q E s := by
  obtain ⟨z, hd, vs, rel, dd⟩ := dk_rd I.hok e
  refine call_len_dict hd dd (by rw [← rel.length]; rw [sizeLine_eq] at z; omega) ?_
  rw [← rel.length]
  exact h _ _ (I.tok _)
end


/-! ### readings and rules -/
/-- the element of a subscription, not a slice -/
def NoSl (i : Expr) : Prop := ∀ ov iv, subscripted i false ov iv = operate [ov, iv] (getItem ov iv)
theorem subD_of {prog : Program} {w : World} {A : Around} {E : Value → Shared → Prop} {s : Shared} {env : Env} {value slice : Expr} {pos : Pos} {T id : String} {Q : Value → Shared → Prop}
    (hl : typeLookup (.type T) "__getitem__" = pure (some (.builtin id))) (hs : NoSl slice)
    (h : wpAny (model prog w) A (eval value env) (fun o s₁ => wpAny (model prog w) A (eval slice env) (fun i s₂ => s₂.TypeIs o T ∧ wpAny (model prog w) A (getItem o i) Q E s₂) E s₁) E s) :
    wpAny (model prog w) A (eval (.Subscript value slice pos) env) Q E s := by
  refine Subscript_ (wpAny_mono h (fun o s₁ h₁ => wpAny_mono h₁ (fun i s₂ h₂ => ?_) fun _ _ x => x) fun _ _ x => x)
  obtain ⟨hT, h₂⟩ := h₂
  unfold subscriptTail
  refine wpAny_bind ?_
  rw [getitemInPython_of_ne hT.not_modules]
  refine wpAny_bind (wpAny_specialOf hT hl ?_)
  have fin : wpAny (model prog w) A (subscripted slice false o i) (fun r s₃ => wpAny (model prog w) A (letTemporaryGo value o r >>= fun _ => pure r) Q E s₃) E s₂ := by
    rw [hs o i]
    exact wpAny_operating (wpAny_mono h₂ (fun r s₃ h₃ => wpAny_bind (wpAny_letTemporaryGo (wpAny_pure h₃))) fun _ _ x => x)
  first
    | exact wpAny_pure (wpAny_bind fin)
    | exact wpAny_bind (wpAny_pure (wpAny_bind fin))
    | exact wpAny_bind fin

theorem dict_typeIs {X : Cx} {pins : List (Addr × Obj)} {σ : St} {H : Hp} {s : Shared} {a : Addr} {y : V} {o : Option V} (I : Inv X pins σ H s) (g : DGet H a y o) : s.TypeIs (.ref a) "dict" := by
  rcases g with ⟨kvs, k, e, _, _⟩ | ⟨kvs, k, b, e, _, _, _⟩
  · obtain ⟨_, _, vs, _, dd⟩ := dk_rd I.hok e
    exact dd.typeIs
  · obtain ⟨_, _, xs, _, dd⟩ := dt_rd I.hok e
    exact dd.typeIs

/-- d[y] -/
def tDGet (td ty : TE) : TE := fun σ H Q => td σ H fun x H1 => ty σ H1 fun y H2 => ∃ a v, x = .ref a ∧ DGet H2 a y (some v) ∧ Q v H2
/-- y in d, y not in d -/
def tDIn (ty td : TE) : TE := fun σ H Q => ty σ H fun y H1 => td σ H1 fun x H2 => ∃ a o, x = .ref a ∧ DGet H2 a y o ∧ Q (.bl o.isSome) H2
def tDNotIn (ty td : TE) : TE := fun σ H Q => ty σ H fun y H1 => td σ H1 fun x H2 => ∃ a o, x = .ref a ∧ DGet H2 a y o ∧ Q (.bl (!o.isSome)) H2
/-- d[y] = v -/
def sDPut (td ty tv : TE) : TS := fun D σ H => tv σ H fun v H1 => td σ H1 fun x H2 => ty σ H2 fun y H3 => ∃ a H4, x = .ref a ∧ DPut H3 a y v H4 ∧ D.nx σ H4

section
variable {X : Cx} {o i e value : Expr} {pos pos' tpos : Pos} {td ty tv : TE}
theorem pe_dget (hu : X.A.units + 1 < cLine) (ho : PE X o td) (hi : PE X i ty) (hs : NoSl i) : PE X (.Subscript o i pos) (tDGet td ty) := by
  intro pins s σ H Q I h
  refine subD_of PySem.F.slot_dict_getitem.lookup hs (thn (ho pins s σ H _ I h) fun u s1 ⟨x, H1, I1, rx, q1⟩ => thn (hi pins s1 σ H1 _ I1 q1) fun iv s2 ⟨y, H2, I2, ry, a, v, ex, g, q2⟩ => ?_)
  subst ex
  obtain rfl : u = Value.ref a := rx
  exact ⟨dict_typeIs I2 g, d_getItem hu I2 g ry fun w' s3 I3 rw' => ⟨v, H2, I3, rw', q2⟩⟩
theorem pc_din (hu : X.A.units + 1 < cLine) (hi : PE X i ty) (ho : PE X o td) : PC X .In i o (tDIn ty td) := by
  intro pins s σ H Q I h
  refine thn (hi pins s σ H _ I h) fun iv s1 ⟨y, H1, I1, ry, q1⟩ => thn (ho pins s1 σ H1 _ I1 q1) fun u s2 ⟨x, H2, I2, rx, a, ov, ex, g, q2⟩ => ?_
  subst ex
  obtain rfl : u = Value.ref a := rx
  exact d_in hu I2 g ry fun s3 I3 => ⟨.bl ov.isSome, H2, I3, rfl, q2⟩
theorem pc_dnotin (hu : X.A.units + 1 < cLine) (hi : PE X i ty) (ho : PE X o td) : PC X .NotIn i o (tDNotIn ty td) := by
  intro pins s σ H Q I h
  refine thn (hi pins s σ H _ I h) fun iv s1 ⟨y, H1, I1, ry, q1⟩ => thn (ho pins s1 σ H1 _ I1 q1) fun u s2 ⟨x, H2, I2, rx, a, ov, ex, g, q2⟩ => ?_
  subst ex
  obtain rfl : u = Value.ref a := rx
  exact d_notIn hu I2 g ry fun s3 I3 => ⟨.bl (!ov.isSome), H2, I3, rfl, q2⟩
theorem ps_dput (hu : X.A.units + 1 < cLine) (ho : PE X o td) (hi : PE X i ty) (hv : PE X value tv) (hs : swapsWith value (some (.Subscript o i pos')) pos.line X.env = pure false) :
    PS X (.Assign [.Subscript o i pos'] value pos) (sDPut td ty tv) := by
  intro pins s σ H D I h
  refine wpAny_Assign_Subscript (thn (hv pins s σ H _ I h) fun r s1 ⟨v, H1, I1, rv, q1⟩ => thn (ho pins s1 σ H1 _ I1 q1) fun u s2 ⟨x, H2, I2, rx, q2⟩ => thn (hi pins s2 σ H2 _ I2 q2) fun iv s3 ⟨y, H3, I3, ry, a, H4, ex, g, q3⟩ => ?_) hs
  subst ex
  obtain rfl : u = Value.ref a := rx
  exact d_setItem hu I3 g ry rv fun s4 I4 => ⟨σ, H4, I4, q3⟩
end


/-! ### displays -/
theorem dk_empty {P : Program} {w : World} {H : Hp} (h : Heap) (hb : sysModules < h.objs.size) : ObjOk P w H (h.push { cls := .type "dict", data := .dict #[] }) h.objs.size (.dK []) :=
  ⟨Nat.zero_le _, beq_eq_false_iff_ne.mpr (Ne.symm (Nat.ne_of_lt hb)), [], .nil, Heap.DictOf.new h⟩
theorem dt_empty {P : Program} {w : World} {H : Hp} (h : Heap) (hb : sysModules < h.objs.size) : ObjOk P w H (h.push { cls := .type "dict", data := .dict #[] }) h.objs.size (.dT []) :=
  ⟨Nat.zero_le _, beq_eq_false_iff_ne.mpr (Ne.symm (Nat.ne_of_lt hb)), [], .nil, _, #[], 0, Heap.get?_push_size _ rfl, ⟨rfl, rfl, rfl⟩, rfl, rfl, List.nodup_nil⟩
/-- {}, to be a dict of the kind that is wanted -/
def tDNewK : TE := fun _ H Q => ∀ p, H p = none → Q (.ref p) (upd H p (.dK []))
def tDNewT : TE := fun _ H Q => ∀ p, H p = none → Q (.ref p) (upd H p (.dT []))
section
variable {X : Cx} {pos : Pos}
theorem pe_dnewK : PE X (.Dict [] [] pos) tDNewK := fun pins s σ H Q I h =>
  wpAny_Dict_empty ⟨.ref s.heap.objs.size, _, I.laid (a := s.heap.objs.size) (o := .dK []) (t' := s.toks) (fun _ _ q => Heap.get?_push_of_some _ q) (Nat.le_refl _) (dk_empty s.heap I.big), rfl, h _ (I.hok.fresh (Nat.le_refl _))⟩
theorem pe_dnewT : PE X (.Dict [] [] pos) tDNewT := fun pins s σ H Q I h =>
  wpAny_Dict_empty ⟨.ref s.heap.objs.size, _, I.laid (a := s.heap.objs.size) (o := .dT []) (t' := s.toks) (fun _ _ q => Heap.get?_push_of_some _ q) (Nat.le_refl _) (dt_empty s.heap I.big), rfl, h _ (I.hok.fresh (Nat.le_refl _))⟩
end


def mergeK (kvs more : List (Key × V)) : List (Key × V) := more.foldl (fun acc kv => putK acc kv.1 kv.2) kvs
theorem KV.merge : ∀ {more : List (Key × V)} {rs : List (Key × Value)} {kvs : List (Key × V)} {vs : List (Key × Value)}, KV more rs → KV kvs vs → KV (mergeK kvs more) (merged vs rs) := by
  intro more rs kvs vs r
  unfold KV at r
  induction r generalizing kvs vs with
  | nil => intro q; exact q
  | @cons p q ps qs h t ih =>
    intro r0
    have e : KV (putK kvs p.1 p.2) (stored vs q.1 q.2) := by
      have := r0.put p.1 h.2
      rw [← h.1]; exact this
    exact ih e
theorem length_mergeK : ∀ (more kvs : List (Key × V)), (mergeK kvs more).length ≤ kvs.length + more.length
  | [], kvs => by show kvs.length ≤ kvs.length + 0; omega
  | p :: r, kvs => by
    have h1 := length_mergeK r (putK kvs p.1 p.2)
    have h2 := length_putK kvs p.1 p.2
    show (mergeK (putK kvs p.1 p.2) r).length ≤ _
    rw [List.length_cons]; omega


/-! ### methods -/
/-- a method call o.m(e) of a built-in, with one argument: what must be seen of the text -/
structure M1 (X : Cx) (o : Expr) (m : Str) (apos : Pos) (e : Expr) (cpos : Pos) : Prop where
  base : attributeBase o m X.env (eval o X.env) = eval o X.env
  few : ((backTo cpos (starEach [e] X.env)).all (fun x => !x.1) && (backToKw cpos (keywordEach [] X.env)).all (fun x => x.1.isSome)
    && decide (([e] : List Expr).length + ([] : List Keyword).length + (if ([] : List Keyword).isEmpty then 0 else 1) < 30)) = true
  line : (apos.endLine == cpos.line) = true
  trees : backTo cpos (starEach [e] X.env) = [(false, eval e X.env)]
structure M2 (X : Cx) (o : Expr) (m : Str) (apos : Pos) (e f : Expr) (cpos : Pos) : Prop where
  base : attributeBase o m X.env (eval o X.env) = eval o X.env
  few : ((backTo cpos (starEach [e, f] X.env)).all (fun x => !x.1) && (backToKw cpos (keywordEach [] X.env)).all (fun x => x.1.isSome)
    && decide (([e, f] : List Expr).length + ([] : List Keyword).length + (if ([] : List Keyword).isEmpty then 0 else 1) < 30)) = true
  line : (apos.endLine == cpos.line) = true
  trees : backTo cpos (starEach [e, f] X.env) = [(false, eval e X.env), (false, eval f X.env)]

/-- a is a dict, whatever its keys -/
def IsD (H : Hp) (a : Addr) : Prop := (∃ kvs, Rd H a (.dK kvs)) ∨ ∃ kvs, Rd H a (.dT kvs)
theorem isD_at {X : Cx} {pins : List (Addr × Obj)} {σ : St} {H : Hp} {s : Shared} {a : Addr} (I : Inv X pins σ H s) (d : IsD H a) :
    s.TypeIs (.ref a) "dict" ∧ (∀ b, Value.ref a = .ref b → ∃ ob, s.heap.get? b = some ob ∧ ob.dict = none) ∧ (a == sysModules) = false := by
  rcases d with ⟨kvs, e⟩ | ⟨kvs, e⟩
  · obtain ⟨_, hd, vs, _, dd⟩ := dk_rd I.hok e
    refine ⟨dd.typeIs, fun b q => ?_, hd⟩
    cases q
    obtain ⟨ob, _, _, h1, h2, _⟩ := dd
    exact ⟨ob, h1, h2.2.1⟩
  · obtain ⟨_, hd, xs, _, dd⟩ := dt_rd I.hok e
    refine ⟨dd.typeIs, fun b q => ?_, hd⟩
    cases q
    obtain ⟨ob, _, _, h1, h2, _⟩ := dd
    exact ⟨ob, h1, h2.2.1⟩

section
variable {X : Cx} {pins : List (Addr × Obj)} {σ : St} {H : Hp} {s : Shared} {a : Addr} {y d : V} {u r : Value} {o : Option V} {A : Around} {E : Value → Shared → Prop}
/-- d.get(y) -/
theorem d_get1 {Q : Value → Shared → Prop} (hu : A.units + 1 < cLine) (I : Inv X pins σ H s) (g : DGet H a y o) (ry : RelV y u) (h : ∀ w' s', Inv X pins σ H s' → RelV (o.getD .non) w' → Q w' s') :
    wpAny (model X.prog X.w) A (call (.builtin "dict.get") [.ref a, u]) Q E s := by
  rcases g with ⟨kvs, k, e, ey, l⟩ | ⟨kvs, k, b, e, ey, eb, l⟩
  · subst ey
    obtain ⟨z, hd, vs, rel, dd⟩ := dk_rd I.hok e
    refine call_meetsIn PySem.F.slot_dict_get dd.typeIs PySem.F.entry_dict_get (PySem.F.args_dict_get_2 _ _) (meets_dict_get (mixKind X.prog X.w) a (kV_is ry) hd) ⟨_, dd.mapOf, h _ _ (I.tok _) ?_⟩
    rw [l]
    exact (rel.val k).getD rfl
  · subst ey
    cases (show u = Value.ref b from ry)
    obtain ⟨z, hd, xs, rel, dd⟩ := dt_rd I.hok e
    refine call_meetsIn PySem.F.slot_dict_get dd.typeIs PySem.F.entry_dict_get (PySem.F.args_dict_get_2 _ _) (meetsH_dict_get (tupleKind (mixKind X.prog X.w)) a b hd) ⟨tupleKind_room_in1 hu, k, xs, key_of I.hok eb, dd, h _ _ (I.tok _) ?_⟩
    rw [l]
    exact (rel.val k).getD rfl
end

def tDGet1 (td ty : TE) : TE := fun σ H Q => td σ H fun x H1 => ∃ a, x = .ref a ∧ IsD H1 a ∧ ty σ H1 fun y H2 => ∃ o, DGet H2 a y o ∧ Q (o.getD .non) H2
section
variable {X : Cx} {o e f : Expr} {apos cpos : Pos} {td ty tx : TE}
theorem pe_dget1 (hu : X.A.units + 1 < cLine) (ho : PE X o td) (he : PE X e ty) (m : M1 X o "get" apos e cpos) : PE X (.Call (.Attribute o "get" apos) [e] [] cpos) (tDGet1 td ty) := by
  intro pins s σ H Q I h
  refine wpAny_Call_method m.base m.few m.line PySem.F.plainAttrs_dict PySem.F.slot_dict_get PySem.F.type_dict_get (thn (ho pins s σ H _ I h) fun u s1 ⟨x, H1, I1, rx, a, ex, d, q1⟩ => ?_)
  subst ex
  obtain rfl : u = Value.ref a := rx
  obtain ⟨t1, t2, _⟩ := isD_at I1 d
  refine ⟨t1, t2, ?_⟩
  rw [m.trees]
  refine Calls.callWith_builtin rfl (Calls.evalArgs_plain (Calls.spliced_cons (thn (he pins s1 σ H1 _ I1 q1) fun iv s2 ⟨y, H2, I2, ry, ov, g, q2⟩ => Calls.spliced_nil ?_)))
  exact d_get1 hu I2 g ry fun w' s3 I3 rw' => ⟨_, H2, I3, rw', q2⟩
end

/-! ### dict(d): a copy -/
section
variable {X : Cx} {pins : List (Addr × Obj)} {σ : St} {H : Hp} {s : Shared} {a : Addr} {kvs : List (Key × V)} {A : Around} {E : Value → Shared → Prop}
end


section
variable {X : Cx} {pins : List (Addr × Obj)} {σ : St} {H : Hp} {s : Shared} {a : Addr} {y : V} {u : Value} {A : Around} {E : Value → Shared → Prop}
end
end L2

namespace HT
open PySem PyProof.Rows



section
open PySem.SeqAt
open PySem.AutoSeq1 (wpAny_loadPart')
open PySem.MeetsSeq PySem.MeetsSeq2 PySem.MeetsSeq3

end

section
variable {prog : Program} {w : World} {A : Around} {E : Value → Shared → Prop} {s : Shared}



/-! ### t[a:b], not the whole -/
/-- a slice's bound as a place among n (d where it is left out) -/
def sIx (n d : Nat) : Option Int → Nat
  | none => d
  | some v => if v < 0 then (v + (n : Int)).toNat else min v.toNat n
theorem sIx_nat (n d k : Nat) : sIx n d (some (k : Int)) = min k n := by
  show (if (k : Int) < 0 then ((k : Int) + (n : Int)).toNat else min (k : Int).toNat n) = min k n
  rw [if_neg (by omega), Int.toNat_natCast]
theorem sIx_le (n d : Nat) (hd : d ≤ n) (o : Option Int) : sIx n d o ≤ n := by
  cases o with
  | none => exact hd
  | some v =>
    show (if v < 0 then (v + (n : Int)).toNat else min v.toNat n) ≤ n
    by_cases hv : v < 0
    · rw [if_pos hv]; omega
    · rw [if_neg hv]; exact Nat.min_le_right _ _

end
end HT

namespace L2
open PySem PySem.Spec PyProof.Rows

/-! ### the parts of a slice -/
abbrev TO := St → Hp → (Option Int → Hp → Prop) → Prop
/-- a slice's part (left out, or an int) -/
def PO (X : Cx) (e : Option Expr) (t : TO) : Prop :=
  ∀ (pins : List (Addr × Obj)) (s : Shared) (σ : St) (H : Hp) (Q : Option Int → Hp → Prop), Inv X pins σ H s → t σ H Q →
    wpAny (model X.prog X.w) X.A (evalPart e X.env) (fun u s' => ∃ o H', Inv X pins σ H' s' ∧ IsPart u o ∧ Q o H') X.xe s
def tNoPart : TO := fun _ H Q => Q none H
def tPart (t : TE) : TO := fun σ H Q => t σ H fun x H1 => ∃ i, x = .int i ∧ Q (some i) H1

theorem intsAre_of {ns : List Int} : ∀ {us : List Value}, Vals (ns.map V.int) us → IntsAre us ns := by
  induction ns with
  | nil => intro us r; rw [List.map_nil] at r; cases r; exact .nil
  | cons n ns ih =>
    intro us r
    rw [List.map_cons] at r
    cases r with
    | cons r1 r2 =>
      obtain ⟨t, e⟩ := r1
      subst e
      exact .cons n t (ih r2)

section
variable {X : Cx} {e : Expr} {te : TE} {lo hi : Option Expr} {tl th : TO} {pos p2 : Pos}

theorem po_none : PO X none tNoPart := by
  intro pins s σ H Q I h
  rw [evalPart_none]
  exact wpAny_pure ⟨none, H, I, .none, h⟩
theorem po_some (h : PE X e te) : PO X (some e) (tPart te) := by
  intro pins s σ H Q I hw
  rw [evalPart_some]
  refine thn (h pins s σ H _ I hw) fun u s1 ⟨x, H1, I1, r1, q1⟩ => ?_
  obtain ⟨i, rfl, q⟩ := q1
  obtain ⟨t, rfl⟩ := r1
  exact ⟨some i, H1, I1, .int i t, q⟩

/-- what a slice of a value is, by values: the slice object stands at sl -/
def SlR (X : Cx) (r : V → Option Int → Option Int → Hp → VK → Prop) : Prop :=
  ∀ (pins : List (Addr × Obj)) (s : Shared) (σ : St) (H : Hp) (x : V) (v vl vu : Value) (lo hi : Option Int) (sl : Addr) (Q : VK), Inv X pins σ H s → RelV x v → s.heap.IsSliceOf sl vl vu .none → IsPart vl lo → IsPart vu hi → r x lo hi H Q →
    ∃ T id, typeLookup (.type T) "__getitem__" = pure (some (.builtin id)) ∧ s.TypeIs v T ∧ wpAny (model X.prog X.w) X.A (getItem v (.ref sl)) (EP X pins σ Q) X.xe s
def tSl (r : V → Option Int → Option Int → Hp → VK → Prop) (te : TE) (tl th : TO) : TE := fun σ H Q => te σ H fun x H1 => tl σ H1 fun l H2 => th σ H2 fun u H3 => r x l u H3 Q
/-- a[lo:hi], any a -/
theorem pe_slice {r : V → Option Int → Option Int → Hp → VK → Prop} (hr : SlR X r) (he : PE X e te) (hl : PO X lo tl) (hu : PO X hi th) : PE X (.Subscript e (.Slice lo hi none p2) pos) (tSl r te tl th) := by
  intro pins s σ H Q I h
  refine Subscript_ (thn (he pins s σ H _ I h) fun v s1 ⟨x, H1, I1, r1, q1⟩ => ?_)
  refine wpAny_Slice (thn (hl pins s1 σ H1 _ I1 q1) fun vl s2 ⟨l, H2, I2, pl, q2⟩ => thn (hu pins s2 σ H2 _ I2 q2) fun vu s3 ⟨u, H3, I3, pu, q3⟩ => ?_)
  rw [evalPart_none]
  refine wpAny_pure ?_
  have I4 : Inv X pins σ H3 { s3 with heap := s3.heap.push { cls := .type "slice", data := .fields #[vl, vu, .none] } } := I3.kept (t' := s3.toks) fun b ob q => Heap.get?_push_of_some _ q
  obtain ⟨T, id, hT, ht, hg⟩ := hr pins { s3 with heap := s3.heap.push { cls := .type "slice", data := .fields #[vl, vu, .none] } } σ H3 x v vl vu l u s3.heap.objs.size Q I4 r1 (Heap.IsSliceOf.new ..) pl pu q3
  show wpAny (model X.prog X.w) X.A (subscriptTail e (.Slice lo hi none p2) v (.ref s3.heap.objs.size)) (EP X pins σ Q) X.xe { s3 with heap := s3.heap.push { cls := .type "slice", data := .fields #[vl, vu, .none] } }
  exact tail_any (ops := [.ref s3.heap.objs.size, v]) ht hT hg (by with_unfolding_all rfl)

/-- the items of xs[lo:hi] -/
def cutV (xs : List V) (lo hi : Option Int) : List V := (xs.drop (HT.sIx xs.length 0 lo)).take (HT.sIx xs.length xs.length hi - HT.sIx xs.length 0 lo)
theorem cutV_length (xs : List V) (lo hi : Option Int) : (cutV xs lo hi).length ≤ xs.length := by
  unfold cutV
  rw [List.length_take, List.length_drop]
  omega

/-! ### t < u, t + u -/
end
end L2

namespace L2
open PySem PySem.Spec PyProof.Rows

/-! ### places -/
/-- the place that an index of any sign means -/
def ixN (n : Nat) (i : Int) : Option Nat := if 0 ≤ i then (if i < n then some i.toNat else none) else if -(n : Int) ≤ i then some (i + n).toNat else none
def atI {α : Type} (xs : List α) (i : Int) : Option α := (ixN xs.length i).bind fun j => xs[j]?
theorem ixN_seq {n : Nat} {i : Int} {j : Nat} (h : ixN n i = some j) : seqIndex? i n = some j ∧ j < n ∧ -(n : Int) ≤ i ∧ i < n := by
  unfold ixN at h
  by_cases h0 : 0 ≤ i
  · rw [if_pos h0] at h
    by_cases h1 : i < n
    · rw [if_pos h1] at h
      have e : i.toNat = j := Option.some.inj h
      exact ⟨by rw [seqIndex_of h0 h1, e], by omega, by omega, h1⟩
    · rw [if_neg h1] at h; cases h
  · rw [if_neg h0] at h
    by_cases h1 : -(n : Int) ≤ i
    · rw [if_pos h1] at h
      have e : (i + n).toNat = j := Option.some.inj h
      exact ⟨by rw [seqIndex_neg (by omega) h1, e], by omega, h1, by omega⟩
    · rw [if_neg h1] at h; cases h
theorem atI_get {α : Type} {xs : List α} {i : Int} {v : α} (h : atI xs i = some v) : ∃ j, seqIndex? i xs.length = some j ∧ xs[j]? = some v ∧ j < xs.length ∧ -(xs.length : Int) ≤ i ∧ i < xs.length := by
  unfold atI at h
  cases e : ixN xs.length i with
  | none => rw [e] at h; cases h
  | some j =>
    rw [e] at h
    obtain ⟨h1, h2, h3, h4⟩ := ixN_seq e
    exact ⟨j, h1, h, h2, h3, h4⟩
theorem atI_nat {α : Type} {xs : List α} {j : Nat} {v : α} (h : xs[j]? = some v) : atI xs (j : Int) = some v := by
  have hj : j < xs.length := (List.getElem?_eq_some_iff.mp h).1
  have e : ixN xs.length (j : Int) = some j := by
    unfold ixN
    rw [if_pos (by omega), if_pos (by omega)]; simp
  unfold atI; rw [e]; exact h

/-! ### what may be subscripted -/
/-- what stands as an index of a plain subscript -/
def PlainIx (b : Expr) : Prop := ∀ o i, subscripted b false o i = operate [o, i] (getItem o i)
/-- a subscript by values -/
def IxR (X : Cx) (r : R2) : Prop :=
  ∀ (value slice : Expr) (pins : List (Addr × Obj)) (s : Shared) (σ : St) (H : Hp) (x y : V) (v u : Value) (Q : VK), Inv X pins σ H s → RelV x v → RelV y u → r x y H Q →
    subscripted slice false v u = operate [v, u] (getItem v u) → wpAny (model X.prog X.w) X.A (subscriptTail value slice v u) (EP X pins σ Q) X.xe s
/-- a call of a builtin's method by values: the receiver, the arguments -/
def MtR (X : Cx) (id : String) (r : V → List V → Hp → VK → Prop) : Prop :=
  ∀ (pins : List (Addr × Obj)) (s : Shared) (σ : St) (H : Hp) (x : V) (xs : List V) (v : Value) (us : List Value) (Q : VK), Inv X pins σ H s → RelV x v → Vals xs us → r x xs H Q →
    wpAny (model X.prog X.w) X.A (call (.builtin id) (v :: us)) (EP X pins σ Q) X.xe s
section
variable {X : Cx} {a b : Expr} {ta tb : TE} {pos : Pos}
/-- a[b] -/
theorem pe_ix {r : R2} (hr : IxR X r) (ha : PE X a ta) (hb : PE X b tb) (hs : PlainIx b) : PE X (.Subscript a b pos) (tOp r ta tb) := by
  intro pins s σ H Q I h
  exact Subscript_ (binT ha hb I h fun v u s2 x y H2 I2 rx ry q => hr a b pins s2 σ H2 x y v u Q I2 rx ry q (hs _ _))

def rIxL (K : PySem.W.Frag) : R2 := fun x y H Q => ∃ p xs i v, x = .ref p ∧ y = .int i ∧ SqL K H p xs ∧ atI xs i = some v ∧ Q v H
def rIxT (K : PySem.W.Frag) : R2 := fun x y H Q => ∃ p xs i v, x = .ref p ∧ y = .int i ∧ SqT K H p xs ∧ atI xs i = some v ∧ Q v H
def rIxS : R2 := fun x y H Q => ∃ z i c, x = .str z ∧ y = .int i ∧ z.length ≤ sizeLine ∧ atI z.cps.toList i = some c ∧ Q (.str ⟨#[c]⟩) H
theorem ix_list : IxR X (rIxL X.K) := by
  intro value slice pins s σ H x y v u Q I rx ry h hs
  obtain ⟨p, xs, i, z, rfl, rfl, hq, he, q⟩ := h
  cases rx
  obtain ⟨t, rfl⟩ := ry
  obtain ⟨its, r, pl, hz⟩ := I.list hq
  obtain ⟨j, h1, h2, h3, h4, h5⟩ := atI_get he
  obtain ⟨w, ew, rw'⟩ := r.get h2
  have hl := r.length
  have hn := line63
  have fin : EP X pins σ Q w s := ⟨z, H, I, rw', q⟩
  by_cases h0 : 0 ≤ i
  · have hj : i.toNat = j := by
      rw [seqIndex_of h0 h5] at h1
      exact Option.some.inj h1
    exact item_listR pl.isList h0 (by omega) (by rw [hj]; simpa using ew) fin hs
  · have hj : (i + (its.toArray.size : Int)).toNat = j := by
      rw [seqIndex_neg (by omega) h4] at h1
      rw [List.size_toArray, ← hl]
      exact Option.some.inj h1
    exact subscriptTail_builtinR (x := w) pl.isList.typeIs slot_list_getitem.lookup
      (wpAny_getItem_list_neg (Q := fun r s' => r = w ∧ EP X pins σ Q r s') pl.isList (by omega) (by rw [List.size_toArray] <;> omega) (by omega) (by rw [hj]; simpa using ew) ⟨rfl, fin⟩) hs
theorem ix_tup : IxR X (rIxT X.K) := by
  intro value slice pins s σ H x y v u Q I rx ry h hs
  obtain ⟨p, xs, i, z, rfl, rfl, hq, he, q⟩ := h
  cases rx
  obtain ⟨t, rfl⟩ := ry
  obtain ⟨its, r, pl, hz⟩ := I.tuple hq
  obtain ⟨j, h1, h2, h3, h4, h5⟩ := atI_get he
  obtain ⟨w, ew, rw'⟩ := r.get h2
  have hl := r.length
  have hn := line63
  have fin : EP X pins σ Q w s := ⟨z, H, I, rw', q⟩
  exact subscriptTail_builtinR (x := w) pl.typeIs slot_tuple_getitem.lookup
    (getItem_tuple (j := j) (Q := fun r s' => r = w ∧ EP X pins σ Q r s') pl (by omega) (by omega) (by rw [List.size_toArray, ← hl]; exact h1) (by simpa using ew) ⟨rfl, fin⟩) hs
theorem ix_str : IxR X rIxS := by
  intro value slice pins s σ H x y v u Q I rx ry h hs
  obtain ⟨z, i, c, rfl, rfl, hz, he, q⟩ := h
  obtain ⟨t, rfl⟩ := rx
  obtain ⟨t', rfl⟩ := ry
  obtain ⟨j, h1, h2, h3, h4, h5⟩ := atI_get he
  have hl : z.cps.toList.length = z.length := by simp [Str.length]
  rw [hl] at h1 h4 h5
  have hn := line63
  exact tail_any (typeIs_str s z t) slot_str_getitem.lookup (getItem_str (c := c) (by
    have e1 : decide (i < -(2 ^ 63 : Int)) = false := decide_eq_false (by omega)
    have e2 : decide (i ≥ 2 ^ 63) = false := decide_eq_false (by omega)
    rw [e1, e2, Bool.or_false]) (by rw [h1]; simpa using h2) ⟨.str ⟨#[c]⟩, H, I.tok _, ⟨_, rfl⟩, q⟩) hs

/-! ### xs[i] = v, any sign -/
/-- the list's object behind a store -/
theorem mapSeq_set (its : List Value) (n j : Nat) (u : Value) : Obj.mapSeq (·.setIfInBounds j u) { cls := .type "list", data := .seq its.toArray n } = { cls := .type "list", data := .seq (its.set j u).toArray n } := by
  simp [Obj.mapSeq]
theorem Inv.lst {pins : List (Addr × Obj)} {σ : St} {H : Hp} {s : Shared} {p : Addr} {xs : List V} (I : Inv X pins σ H s) (h : H p = some (.lst xs)) :
    ∃ (its : List Value) (n : Nat), Vals xs its ∧ s.heap.get? p = some { cls := .type "list", data := .seq its.toArray n } ∧ xs.length ≤ sizeLine := by
  obtain ⟨z, its, n, r, e⟩ := I.hok p _ h
  exact ⟨its, n, r, e, z⟩
/-- the list at p is written by an update of its object -/
theorem Inv.lstUpd {pins : List (Addr × Obj)} {σ : St} {H : Hp} {s : Shared} {p : Addr} {xs ys : List V} {its its' : List Value} {n n' : Nat} {f : Obj → Obj} (I : Inv X pins σ H s) (h : H p = some (.lst xs))
    (ho : s.heap.get? p = some { cls := .type "list", data := .seq its.toArray n }) (hf : f { cls := .type "list", data := .seq its.toArray n } = { cls := .type "list", data := .seq its'.toArray n' }) (r : Vals ys its') (hz : ys.length ≤ sizeLine) (t : Nat) :
    Inv X pins σ (upd H p (.lst ys)) { s with heap := s.heap.update p f, toks := t } := by
  have e : (s.heap.update p f).get? p = some { cls := .type "list", data := .seq its'.toArray n' } := by
    rw [Heap.get?_update_self f ho (by rw [hf] <;> rfl), hf]
  refine I.write (x := p) (e := p) (by rw [h]; trivial) (.inl rfl) (fun b u hb q => (Heap.get?_update_other _ _ (Ne.symm hb)).trans q) ⟨_, e⟩ ?_
  exact ⟨hz, its', n', r, e⟩
def rSetL : V → V → V → Hp → (Hp → Prop) → Prop := fun o i v H Q => ∃ p xs k j, o = .ref p ∧ i = .int k ∧ H p = some (.lst xs) ∧ ixN xs.length k = some j ∧ Q (upd H p (.lst (xs.set j v)))
theorem set_list : PSet X rSetL := by
  intro pins s σ H o i v ov iv u Q I ro ri rv h
  obtain ⟨p, xs, k, j, rfl, rfl, hp, hj, q⟩ := h
  cases ro
  obtain ⟨t, rfl⟩ := ri
  obtain ⟨its, n, r, ho, hz⟩ := I.lst hp
  obtain ⟨h1, h2, h3, h4⟩ := ixN_seq hj
  have hl := r.length
  have hn := line63
  have I' : Inv X pins σ (upd H p (.lst (xs.set j v))) { s with heap := s.heap.update p (Obj.mapSeq (·.setIfInBounds j u)) } :=
    I.lstUpd hp ho (mapSeq_set its n j u) (r.set rv j) (by rw [List.length_set]; exact hz) s.toks
  by_cases h0 : 0 ≤ k
  · have hk : k.toNat = j := by
      rw [seqIndex_of h0 h4] at h1
      exact Option.some.inj h1
    exact PySem.W.ki_setAt ho h0 (by omega) (by rw [List.size_toArray, ← hl]; exact h4) (by rw [hk]; exact ⟨_, I', q⟩)
  · have hk : (k + (its.toArray.size : Int)).toNat = j := by
      rw [seqIndex_neg (by omega) h3] at h1
      rw [List.size_toArray, ← hl]
      exact Option.some.inj h1
    exact PySem.W.ki_setBack ho (by omega) (by rw [List.size_toArray, ← hl]; exact h3) (by omega) (by rw [hk]; exact ⟨_, I', q⟩)

/-! ### slices -/
theorem slice_bounds (lo hi : Option Int) (n : Nat) : (sliceBounds lo hi none n).1 = ((HT.sIx n 0 lo : Nat) : Int) ∧ (sliceBounds lo hi none n).2.1 = ((HT.sIx n n hi : Nat) : Int) ∧ (sliceBounds lo hi none n).2.2 = 1 := by
  refine ⟨?_, ?_, rfl⟩
  · cases lo with
    | none => simp [sliceBounds, HT.sIx]
    | some i =>
      simp only [sliceBounds, HT.sIx, Option.getD_none, show (1 : Int) > 0 by decide, if_true]
      by_cases h : i < 0
      · simp only [h, if_true] <;> omega
      · simp only [h, if_false] <;> omega
  · cases hi with
    | none => simp [sliceBounds, HT.sIx]
    | some i =>
      simp only [sliceBounds, HT.sIx, Option.getD_none, show (1 : Int) > 0 by decide, if_true]
      by_cases h : i < 0
      · simp only [h, if_true] <;> omega
      · simp only [h, if_false] <;> omega
theorem slicePick_cut (its : List Value) (lo hi : Option Int) : slicePick its.toArray lo hi none = ((its.drop (HT.sIx its.length 0 lo)).take (HT.sIx its.length its.length hi - HT.sIx its.length 0 lo)).toArray := by
  obtain ⟨h1, h2, h3⟩ := slice_bounds lo hi its.toArray.size
  unfold slicePick
  rw [h1, h2, h3]
  simp only [sliceRange_one, pick_run, List.size_toArray] <;> rfl
/-- xs[lo:hi] of a list: a new list -/
def rSlL (K : PySem.W.Frag) : V → Option Int → Option Int → Hp → VK → Prop := fun x lo hi H Q => ∃ a xs, x = .ref a ∧ SqL K H a xs ∧ ∀ p, H p = none → Q (.ref p) (upd H p (.lst (cutV xs lo hi)))
theorem sl_list : SlR X (rSlL X.K) := by
  intro pins s σ H x v vl vu lo hi sl Q I rx hs pl pu h
  obtain ⟨a, xs, rfl, hx, q⟩ := h
  cases rx
  obtain ⟨its, r, ht, hz⟩ := I.list hx
  have hlen := r.length
  refine ⟨"list", _, slot_list_getitem.lookup, ht.isList.typeIs, ?_⟩
  refine wpAny_getItem_list_slice ht.isList hs pl pu .none (by simp) ?_ (by rw [List.size_toArray] <;> omega)
  rw [slicePick_cut, ← hlen]
  refine ⟨.ref s.heap.objs.size, _, I.laid (t' := s.toks) (o := .lst (cutV xs lo hi)) (fun b ob q => Heap.get?_push_of_some _ q) (Nat.le_refl _) ?_, rfl, q _ (I.hok.fresh (Nat.le_refl _))⟩
  exact ⟨Nat.le_trans (cutV_length xs lo hi) hz, _, 0, (r.drop (HT.sIx xs.length 0 lo)).take (HT.sIx xs.length xs.length hi - HT.sIx xs.length 0 lo), Heap.get?_push_size _ rfl⟩

/-! ### in, not in: flat items -/
def flatV : V → Bool
  | .non => true
  | .bl _ => true
  | .int _ => true
  | .str _ => true
  | _ => false
/-- == of flat values -/
def eqV : V → V → Bool
  | .non, .non => true
  | .bl a, .bl b => a == b
  | .bl a, .int b => (if a then 1 else 0) == b
  | .int a, .bl b => a == (if b then 1 else 0)
  | .int a, .int b => a == b
  | .str a, .str b => a == b
  | _, _ => false
theorem eqAt_V {A : Around} {s : Shared} {y x : V} {u v : Value} (ry : RelV y u) (rx : RelV x v) (fy : flatV y = true) (fx : flatV x = true) : SeqAt.EqAt A s u v (eqV y x) := by
  cases y with
  | non =>
    cases ry
    cases x with
    | non => cases rx; exact SeqAt.EqAt.same _
    | bl b => cases rx; exact SeqAt.EqAt.none_bool b
    | int b => obtain ⟨t, rfl⟩ := rx; exact SeqAt.EqAt.none_int b t
    | str b => obtain ⟨t, rfl⟩ := rx; exact SeqAt.EqAt.none_str b t
    | _ => exact absurd (show false = true from fx) Bool.false_ne_true
  | bl a =>
    cases ry
    cases x with
    | non => cases rx; exact SeqAt.EqAt.bool_none a
    | bl b => cases rx; exact SeqAt.EqAt.bool_bool a b
    | int b => obtain ⟨t, rfl⟩ := rx; exact SeqAt.EqAt.bool_int a b t
    | str b => obtain ⟨t, rfl⟩ := rx; exact SeqAt.EqAt.bool_str a b t
    | _ => exact absurd (show false = true from fx) Bool.false_ne_true
  | int a =>
    obtain ⟨t', rfl⟩ := ry
    cases x with
    | non => cases rx; exact SeqAt.EqAt.int_none a t'
    | bl b => cases rx; exact SeqAt.EqAt.int_bool a t' b
    | int b => obtain ⟨t, rfl⟩ := rx; exact SeqAt.EqAt.int_int a t' b t
    | str b => obtain ⟨t, rfl⟩ := rx; exact SeqAt.EqAt.int_str a t' b t
    | _ => exact absurd (show false = true from fx) Bool.false_ne_true
  | str a =>
    obtain ⟨t', rfl⟩ := ry
    cases x with
    | non => cases rx; exact SeqAt.EqAt.str_none a t'
    | bl b => cases rx; exact SeqAt.EqAt.str_bool a t' b
    | int b => obtain ⟨t, rfl⟩ := rx; exact SeqAt.EqAt.str_int a t' b t
    | str b => obtain ⟨t, rfl⟩ := rx; exact SeqAt.EqAt.str_str a t' b t
    | _ => exact absurd (show false = true from fx) Bool.false_ne_true
  | _ => exact absurd (show false = true from fy) Bool.false_ne_true
/-- the items' answers, read off the values (a value's own answer does not lean on its token) -/
def eqU (x : V) (u : Value) : Bool := match u with
  | .none => eqV .non x
  | .bool b => eqV (.bl b) x
  | .int i _ => eqV (.int i) x
  | .str z _ => eqV (.str z) x
  | _ => false
theorem eqU_of {x y : V} {u : Value} (r : RelV y u) (f : flatV y = true) : eqU x u = eqV y x := by
  cases y with
  | non => cases r; rfl
  | bl b => cases r; rfl
  | int i => obtain ⟨t, rfl⟩ := r; rfl
  | str z => obtain ⟨t, rfl⟩ := r; rfl
  | _ => exact absurd (show false = true from f) Bool.false_ne_true
theorem any_eqU {x : V} : ∀ {xs : List V} {us : List Value}, Vals xs us → xs.all flatV = true → us.any (eqU x) = xs.any fun y => eqV y x
  | _, _, .nil, _ => rfl
  | y :: xs, u :: us, .cons r t, f => by
    rw [List.all_cons, Bool.and_eq_true] at f
    rw [List.any_cons, List.any_cons, eqU_of r f.1, any_eqU t f.2]
theorem mem_eqAt {A : Around} {s : Shared} {x : V} {v : Value} (rx : RelV x v) (fx : flatV x = true) : ∀ {xs : List V} {us : List Value}, Vals xs us → xs.all flatV = true → ∀ u ∈ us, SeqAt.EqAt A s u v (eqU x u)
  | _, _, .nil, _ => fun u hu => by cases hu
  | y :: xs, u :: us, .cons r t, f => fun u' hu => by
    rw [List.all_cons, Bool.and_eq_true] at f
    rcases List.mem_cons.mp hu with rfl | hu
    · rw [eqU_of r f.1]; exact eqAt_V r rx f.1 fx
    · exact mem_eqAt rx fx t f.2 u' hu
def inV (x : V) (xs : List V) : Bool := xs.any fun y => eqV y x
/-- x in a list or tuple of flat items -/
def rIn (K : PySem.W.Frag) (neg : Bool) : R2 := fun x y H Q => ∃ p xs, y = .ref p ∧ (SqL K H p xs ∨ SqT K H p xs) ∧ flatV x = true ∧ xs.all flatV = true ∧ Q (.bl (if neg then !inV x xs else inV x xs)) H
theorem op_in_seq : OpR X (compareOp .In) (rIn X.K false) := by
  intro pins s σ H x y v u Q I rx ry h
  obtain ⟨p, xs, rfl, hq, fx, fs, q⟩ := h
  cases ry
  rcases hq with hq | hq
  · obtain ⟨its, r, pl, hz⟩ := I.list hq
    refine SeqAt.in_listAt (eqU x) pl.isList (fun w hw => mem_eqAt rx fx r fs w (by simpa using hw)) ⟨.bl _, H, I, rfl, ?_⟩
    rw [show its.toArray.any (eqU x) = its.any (eqU x) by simp, any_eqU r fs]
    exact q
  · obtain ⟨its, r, pl, hz⟩ := I.tuple hq
    refine SeqAt.in_tupleAt (eqU x) pl (fun w hw => mem_eqAt rx fx r fs w (by simpa using hw)) ⟨.bl _, H, I, rfl, ?_⟩
    rw [show its.toArray.any (eqU x) = its.any (eqU x) by simp, any_eqU r fs]
    exact q
theorem op_notIn_seq : OpR X (compareOp .NotIn) (rIn X.K true) := by
  intro pins s σ H x y v u Q I rx ry h
  obtain ⟨p, xs, rfl, hq, fx, fs, q⟩ := h
  cases ry
  rcases hq with hq | hq
  · obtain ⟨its, r, pl, hz⟩ := I.list hq
    refine SeqAt.notIn_listAt (eqU x) pl.isList (fun w hw => mem_eqAt rx fx r fs w (by simpa using hw)) ⟨.bl _, H, I, rfl, ?_⟩
    rw [show its.toArray.any (eqU x) = its.any (eqU x) by simp, any_eqU r fs]
    exact q
  · obtain ⟨its, r, pl, hz⟩ := I.tuple hq
    refine SeqAt.notIn_tupleAt (eqU x) pl (fun w hw => mem_eqAt rx fx r fs w (by simpa using hw)) ⟨.bl _, H, I, rfl, ?_⟩
    rw [show its.toArray.any (eqU x) = its.any (eqU x) by simp, any_eqU r fs]
    exact q

/-! ### len, list(x), tuple(x) of any list or tuple that is read -/
theorem call_len_seq : CallR X (.builtin "len") (fun xs H Q => ∃ p ys, xs = [.ref p] ∧ (SqL X.K H p ys ∨ SqT X.K H p ys) ∧ Q (.int ys.length) H) := by
  intro pins s σ H xs us Q I r h
  obtain ⟨p, ys, rfl, hq, q⟩ := h
  obtain ⟨u, rfl, rx⟩ := vals1 r
  cases rx
  have hn := line63
  rcases hq with hq | hq
  · obtain ⟨its, r', pl, hz⟩ := I.list hq
    have hlen := r'.length
    exact Calls.call_len_list pl.isList (by simp only [List.size_toArray] <;> omega) ⟨.int ys.length, H, I.tok _, ⟨s.toks + 1, by rw [List.size_toArray, hlen]⟩, q⟩
  · obtain ⟨its, r', pl, hz⟩ := I.tuple hq
    have hlen := r'.length
    exact len_tuple pl (by simp only [List.size_toArray] <;> omega) ⟨.int ys.length, H, I.tok _, ⟨s.toks + 1, by rw [List.size_toArray, hlen]⟩, q⟩
theorem call_len_str : CallR X (.builtin "len") (fun xs H Q => ∃ z, xs = [.str z] ∧ z.length ≤ sizeLine ∧ Q (.int z.length) H) := by
  intro pins s σ H xs us Q I r h
  obtain ⟨z, rfl, hz, q⟩ := h
  obtain ⟨u, rfl, t, rfl⟩ := vals1 r
  have hn := line63
  exact len_str (by omega) ⟨.int z.length, H, I.tok _, ⟨_, rfl⟩, q⟩
theorem call_list_of : CallR X (.type "list") (fun xs H Q => ∃ p ys, xs = [.ref p] ∧ (SqL X.K H p ys ∨ SqT X.K H p ys) ∧ ∀ l, H l = none → Q (.ref l) (upd H l (.lst ys))) := by
  intro pins s σ H xs us Q I r h
  obtain ⟨p, ys, rfl, hq, q⟩ := h
  obtain ⟨u, rfl, rx⟩ := vals1 r
  cases rx
  have fin : ∀ (its : List Value), Vals ys its → ys.length ≤ sizeLine → ∀ (h' : Heap) (c' : Nat), (∀ b o', s.heap.get? b = some o' → h'.get? b = some o') →
      h'.get? s.heap.objs.size = some { cls := .type "list", dict := none, data := .seq its.toArray c', slots := #[] } → EP X pins σ Q (.ref s.heap.objs.size) { s with heap := h' } := fun its r' hz h' c' kp e =>
    ⟨.ref s.heap.objs.size, _, I.laid (t' := s.toks) kp (Nat.le_refl _) (show ObjOk X.prog X.w _ h' _ (.lst ys) from ⟨hz, its, c', r', e⟩), rfl, q _ (I.hok.fresh (Nat.le_refl _))⟩
  rcases hq with hq | hq
  · obtain ⟨its, r', pl, hz⟩ := I.list hq
    have hlen := r'.length
    obtain ⟨o, ho, hc, n, hd⟩ := pl.isList
    exact call_list_seq p (.inl rfl) ho hc hd (fun h' c' kp e => fin its r' hz h' c' kp e) (by simp only [List.size_toArray] <;> omega)
  · obtain ⟨its, r', pl, hz⟩ := I.tuple hq
    have hlen := r'.length
    obtain ⟨o, ho, hc, n, hd⟩ := pl
    exact call_list_seq p (.inr rfl) ho hc hd (fun h' c' kp e => fin its r' hz h' c' kp e) (by simp only [List.size_toArray] <;> omega)

/-! ### the call of a builtin's method: o.m(..) -/
/-- the value is of that builtin type -/
def tyV (K : PySem.W.Frag) (T : String) (x : V) (H : Hp) : Prop := match x with
  | .str _ => T = "str"
  | .int _ => T = "int"
  | .ref p => (T = "list" ∧ ∃ xs, SqL K H p xs) ∨ (T = "tuple" ∧ ∃ o, K.lookup p = some o ∧ o.cls = .type "tuple" ∧ o.dict = none) ∨
      (T = "dict" ∧ ((∃ kvs, H p = some (.dK kvs)) ∨ ∃ kvs, H p = some (.dT kvs))) ∨ (T = "set" ∧ ∃ S n, H p = some (.set S n))
  | _ => False
theorem tyV_is {pins : List (Addr × Obj)} {σ : St} {H : Hp} {s : Shared} {T : String} {x : V} {v : Value} (I : Inv X pins σ H s) (r : RelV x v) (ty : tyV X.K T x H) :
    s.TypeIs v T ∧ ∀ a, v = .ref a → ∃ ob, s.heap.get? a = some ob ∧ ob.dict = none := by
  cases x with
  | str z =>
    obtain ⟨t, rfl⟩ := r
    cases (show T = "str" from ty)
    exact ⟨typeIs_str s z t, fun _ e => nomatch e⟩
  | int i =>
    obtain ⟨t, rfl⟩ := r
    cases (show T = "int" from ty)
    exact ⟨typeIs_int s i t, fun _ e => nomatch e⟩
  | ref p =>
    cases r
    rcases ty with ⟨rfl, xs, hq⟩ | ⟨rfl, o, hk, hc, hd⟩ | ⟨rfl, hk⟩ | ⟨rfl, S, n, hk⟩
    · obtain ⟨its, _, pl, _⟩ := I.list hq
      refine ⟨pl.isList.typeIs, fun a e => ?_⟩
      cases e
      obtain ⟨o, n, e, c, hd, _⟩ := pl
      exact ⟨o, e, hd⟩
    · refine ⟨⟨o, I.kIn p o hk, hc⟩, fun a e => ?_⟩
      cases e
      exact ⟨o, I.kIn _ o hk, hd⟩
    · have z : ∃ o, s.heap.get? p = some o ∧ o.ExactDict := by
        rcases hk with ⟨kvs, hk⟩ | ⟨kvs, hk⟩
        · obtain ⟨_, _, _, _, o, _, _, e, ex, _⟩ := I.hok p _ hk
          exact ⟨o, e, ex⟩
        · obtain ⟨_, _, _, _, o, _, _, e, ex, _⟩ := I.hok p _ hk
          exact ⟨o, e, ex⟩
      obtain ⟨o, e, ex⟩ := z
      refine ⟨⟨o, e, ex.1⟩, fun a e2 => ?_⟩
      cases e2
      exact ⟨o, e, ex.2.1⟩
    · obtain ⟨o, _, _, _, e, ex, _⟩ := I.hok p _ hk
      refine ⟨⟨o, e, ex.1⟩, fun a e2 => ?_⟩
      cases e2
      exact ⟨o, e, ex.2.1⟩
  | _ => exact False.elim ty
def tBM0 (K : PySem.W.Frag) (T : String) (r : V → List V → Hp → VK → Prop) (to : TE) : TE := fun σ H Q => to σ H fun x H1 => tyV K T x H1 ∧ r x [] H1 Q
def tBM (K : PySem.W.Frag) (T : String) (r : V → List V → Hp → VK → Prop) (to : TE) (t : TA) : TE := fun σ H Q => to σ H fun x H1 => tyV K T x H1 ∧ t σ H1 fun xs H2 => r x xs H2 Q
variable {o e : Expr} {es : List Expr} {to : TE} {t : TA} {name : Str} {apos cpos : Pos} {T id : String} {r : V → List V → Hp → VK → Prop}
theorem pe_bm0 (pa : PlainAttrs T) (slot : Slot T name id) (hty : typeOf (.builtin id) = pure (.type "method_descriptor")) (hm : MtR X id r) (ho : PE X o to)
    (hbase : attributeBase o name X.env (eval o X.env) = eval o X.env := by rfl) (hline : (apos.endLine == cpos.line) = true := by rfl) : PE X (.Call (.Attribute o name apos) [] [] cpos) (tBM0 X.K T r to) := by
  intro pins s σ H Q I h
  refine wpAny_Call_method0_late hbase hline (thn (ho pins s σ H _ I h) fun v s1 ⟨x, H1, I1, r1, ty, q1⟩ => ?_)
  obtain ⟨h1, h2⟩ := tyV_is I1 r1 ty
  exact ⟨T, id, pa, slot, hty, h1, h2, Calls.callWith_builtin rfl (PySem.evalArgs_none (hm pins s1 σ H1 x [] v [] Q I1 r1 .nil q1))⟩
theorem pe_bm (pa : PlainAttrs T) (slot : Slot T name id) (hty : typeOf (.builtin id) = pure (.type "method_descriptor")) (hm : MtR X id r) (ho : PE X o to) (ha : PA X (e :: es) t)
    (hbase : attributeBase o name X.env (eval o X.env) = eval o X.env := by rfl)
    (hfew : ((backTo cpos (starEach (e :: es) X.env)).all (fun x => !x.1) && (backToKw cpos (keywordEach [] X.env)).all (fun x => x.1.isSome)
      && decide ((e :: es).length + ([] : List Keyword).length + (if ([] : List Keyword).isEmpty then 0 else 1) < 30)) = true := by rfl)
    (hline : (apos.endLine == cpos.line) = true := by rfl) (hs : starEach (e :: es) X.env = (false, eval e X.env) :: starEach es X.env := by rfl) (hplain : (backTo cpos (starEach es X.env)).any (·.1) = false := by rfl) :
    PE X (.Call (.Attribute o name apos) (e :: es) [] cpos) (tBM X.K T r to t) := by
  intro pins s σ H Q I h
  refine wpAny_Call_method_late hbase hfew hline rfl (thn (ho pins s σ H _ I h) fun v s1 ⟨x, H1, I1, r1, ty, q1⟩ => ?_)
  obtain ⟨h1, h2⟩ := tyV_is I1 r1 ty
  refine ⟨T, id, pa, slot, hty, h1, h2, ?_⟩
  have hA := ha cpos pins s1 σ H1 _ I1 q1
  rw [hs] at hA ⊢
  refine Calls.callWith_builtin (by show (false || (backTo cpos (starEach es X.env)).any (·.1)) = false; rw [hplain] <;> rfl) (Calls.evalArgs_plain ?_)
  exact thn hA fun us s2 ⟨vs, H2, I2, r2, q2⟩ => hm pins s2 σ H2 x vs v us Q I2 r1 r2 q2
/- xs.append(e), list.index on a module's tuple .. are MtR facts of 06m -/
end
end L2

namespace L2
open PySem PySem.Spec PyProof.Rows

def MtM (X : Cx) (id : String) (r : V → List V → Hp → VK → Prop) : Prop :=
  ∀ (pins : List (Addr × Obj)) (s : Shared) (σ : St) (H : Hp) (x : V) (xs : List V) (v : Value) (us : List Value) (Q : VK), Inv X pins σ H s → RelV x v → Vals xs us → r x xs H Q →
    wpAny (model X.prog X.w) X.A (call (.builtin id) (v :: us)) (EP X pins σ Q) X.xe s

/-! ### lists of values -/
theorem Vals.one : ∀ {x : V} {us : List Value}, Vals [x] us → ∃ u, us = [u] ∧ RelV x u
  | _, _, .cons r .nil => ⟨_, rfl, r⟩
theorem Vals.two : ∀ {x y : V} {us : List Value}, Vals [x, y] us → ∃ u v, us = [u, v] ∧ RelV x u ∧ RelV y v
  | _, _, _, .cons r (.cons q .nil) => ⟨_, _, rfl, r, q⟩
theorem Vals.zero : ∀ {us : List Value}, Vals [] us → us = []
  | _, .nil => rfl
theorem Vals.dropLast {xs : List V} {us : List Value} (h : Vals xs us) : Vals xs.dropLast us.dropLast := by
  induction h with
  | nil => exact .nil
  | cons r t ih =>
    cases t with
    | nil => exact .nil
    | cons q t' => exact .cons r ih
theorem Vals.reverse {xs : List V} {us : List Value} (h : Vals xs us) : Vals xs.reverse us.reverse := by
  induction h with
  | nil => exact .nil
  | cons r t ih => rw [List.reverse_cons, List.reverse_cons]; exact Vals.append ih (.cons r .nil)
theorem Vals.rep {xs : List V} {us : List Value} (h : Vals xs us) : ∀ k : Nat, Vals (List.replicate k xs).flatten (List.replicate k us).flatten
  | 0 => .nil
  | k + 1 => by
    rw [List.replicate_succ, List.replicate_succ, List.flatten_cons, List.flatten_cons]
    exact Vals.append h (Vals.rep h k)
theorem erase_last {α : Type} (l : List α) : l.eraseIdx (l.length - 1) = l.dropLast := by
  induction l with
  | nil => rfl
  | cons a r ih =>
    cases r with
    | nil => rfl
    | cons b r =>
      have e : (a :: b :: r).length - 1 = ((b :: r).length - 1) + 1 := by
        have h1 : (a :: b :: r).length = r.length + 2 := rfl
        have h2 : (b :: r).length = r.length + 1 := rfl
        omega
      rw [e, List.eraseIdx_cons_succ, ih]
      all_goals rfl
theorem foldl_rep (its : List Value) : ∀ (k : Nat) (acc : List Value),
    List.foldl (fun x1 x2 => x1 ++ x2) acc.toArray (List.replicate k its.toArray) = (acc ++ (List.replicate k its).flatten).toArray
  | 0, acc => by simp
  | k + 1, acc => by
    have e : acc.toArray ++ its.toArray = (acc ++ its).toArray := by simp
    have e2 : (acc ++ its) ++ (List.replicate k its).flatten = acc ++ (List.replicate (k + 1) its).flatten := by
      rw [List.replicate_succ, List.flatten_cons, List.append_assoc]
    rw [← e2, ← foldl_rep its k (acc ++ its), ← e, List.replicate_succ, List.foldl_cons]

section
variable {X : Cx} {pins : List (Addr × Obj)} {σ : St} {H : Hp} {s : Shared} {l b : Addr} {xs ys zs : List V}

/-! ### the two steps: a tracked list is rewritten, a new list is laid -/
theorem Inv.lset {its its' : List Value} {n : Nat} {f : Array Value → Array Value} {t' : Nat} (I : Inv X pins σ H s) (hH : H l = some (.lst xs))
    (e : s.heap.get? l = some { cls := .type "list", data := .seq its.toArray n }) (hf : f its.toArray = its'.toArray) (hv : Vals ys its') (hz : ys.length ≤ sizeLine) :
    Inv X pins σ (upd H l (.lst ys)) { s with heap := s.heap.update l (Obj.mapSeq f), toks := t' } := by
  have q := PySem.IsL.update e f
  rw [hf] at q
  refine I.write (x := l) (e := l) (by rw [hH]; exact trivial) (.inl rfl) (fun b' u hb hu => (Heap.get?_update_other s.heap (Obj.mapSeq f) (Ne.symm hb)).trans hu) ⟨_, q⟩ ?_
  exact ⟨hz, its', _, hv, q⟩
theorem Inv.lnew {its : List Value} {t' : Nat} (I : Inv X pins σ H s) (hv : Vals ys its) (hz : ys.length ≤ sizeLine) :
    Inv X pins σ (upd H s.heap.objs.size (.lst ys)) { s with heap := s.heap.push { cls := .type "list", data := .seq its.toArray }, toks := t' } :=
  I.laid (fun _ _ q => Heap.get?_push_of_some _ q) (Nat.le_refl _) ⟨hz, its, 0, hv, Heap.get?_push_size _ rfl⟩
theorem Inv.fresh (I : Inv X pins σ H s) : H s.heap.objs.size = none := I.hok.fresh (Nat.le_refl _)
theorem Inv.lstM (I : Inv X pins σ H s) (hH : H l = some (.lst xs)) : xs.length ≤ sizeLine ∧ ∃ (its : List Value) (n : Nat), Vals xs its ∧ xs.length = its.length ∧ s.heap.get? l = some { cls := .type "list", data := .seq its.toArray n } := by
  obtain ⟨z, its, n, r, e⟩ := I.hok l _ hH
  exact ⟨z, its, n, r, r.length, e⟩

theorem notLongL {n : Nat} (h : n ≤ sizeLine) : Builtin.List.listTooLong n = false := by
  unfold Builtin.List.listTooLong
  exact decide_eq_false (by omega)
end

section
variable {X : Cx}

/-! ### methods -/
def rAppend : V → List V → Hp → VK → Prop := fun x vs H Q => ∃ l xs y, x = .ref l ∧ vs = [y] ∧ H l = some (.lst xs) ∧ xs.length < sizeLine ∧ Q .non (upd H l (.lst (xs ++ [y])))
theorem mt_append : MtM X "list.append" rAppend := by
  intro pins s σ H x vs v us Q I rx rv h
  obtain ⟨l, xs, y, rfl, rfl, hH, hz, q⟩ := h
  cases rx
  obtain ⟨u, rfl, ru⟩ := rv.one
  obtain ⟨z, its, n, r, hl, e⟩ := I.lstM hH
  refine call_meets F.slot_list_append ⟨_, e, rfl⟩ F.entry_list_append (F.args_list_append_2 _ _) (PySem.list_append l its.toArray n u (by rw [List.size_toArray]; omega)) ⟨e, ?_⟩
  refine ⟨.non, _, I.lset (its' := its ++ [u]) hH e (by simp) (r.append (.cons ru .nil)) ?_, rfl, q⟩
  rw [List.length_append, List.length_singleton]
  omega

def rExtend : V → List V → Hp → VK → Prop := fun x vs H Q => ∃ l b xs zs, x = .ref l ∧ vs = [.ref b] ∧ H l = some (.lst xs) ∧ H b = some (.lst zs) ∧ xs.length + zs.length ≤ sizeLine ∧ Q .non (upd H l (.lst (xs ++ zs)))
theorem mt_extend : MtM X "list.extend" rExtend := by
  intro pins s σ H x vs v us Q I rx rv h
  obtain ⟨l, b, xs, zs, rfl, rfl, hH, hB, hz, q⟩ := h
  cases rx
  obtain ⟨u, rfl, ru⟩ := rv.one
  cases ru
  obtain ⟨z, its, n, r, hl, e⟩ := I.lstM hH
  obtain ⟨z2, its2, n2, r2, hl2, e2⟩ := I.lstM hB
  have hsz : its.toArray.size + its2.toArray.size ≤ sizeLine := by rw [List.size_toArray, List.size_toArray]; omega
  have hlong : ¬ (!its.toArray.isEmpty && Builtin.List.listTooLong (its.toArray.size + its2.toArray.size)) = true := by
    rw [notLongL hsz, Bool.and_false]
    exact Bool.false_ne_true
  refine call_meets F.slot_list_extend ⟨_, e, rfl⟩ F.entry_list_extend (F.args_list_extend_2 _ _)
    (AutoSeq1.list_extend_list_list_0 l its.toArray n b its2.toArray n2 hlong (by rw [List.size_toArray]; omega) (by omega)) ⟨e, e2, ?_⟩
  refine ⟨.non, _, I.lset (its' := its ++ its2) hH e (by simp) (r.append r2) ?_, rfl, q⟩
  rw [List.length_append]
  omega

def rPop : V → List V → Hp → VK → Prop := fun x vs H Q => ∃ l xs y, x = .ref l ∧ vs = [] ∧ H l = some (.lst xs) ∧ xs[xs.length - 1]? = some y ∧ Q y (upd H l (.lst xs.dropLast))
theorem mt_pop : MtM X "list.pop" rPop := by
  intro pins s σ H x vs v us Q I rx rv h
  obtain ⟨l, xs, y, rfl, rfl, hH, hy, q⟩ := h
  cases rx
  have hus := rv.zero
  subst hus
  obtain ⟨z, its, n, r, hl, e⟩ := I.lstM hH
  obtain ⟨u, hu, ru⟩ := r.get hy
  have hy' : its.toArray[its.toArray.size - 1]? = some u := by
    show its.toArray[its.length - 1]? = some u
    rw [← Array.getElem?_toList, ← hl]
    exact hu
  refine call_meets F.slot_list_pop ⟨_, e, rfl⟩ F.entry_list_pop (F.args_list_pop_1 _) (MeetsSeq.list_pop_last l its.toArray n u hy' (by rw [List.size_toArray]; omega)) ⟨e, ?_⟩
  refine ⟨y, _, I.lset (its' := its.dropLast) hH e ?_ r.dropLast ?_, ru, q⟩
  · show its.toArray.eraseIdxIfInBounds (its.toArray.size - 1) = its.dropLast.toArray
    rw [List.size_toArray, List.eraseIdxIfInBounds_toArray, erase_last]
  · rw [List.length_dropLast]
    omega


def rReverse : V → List V → Hp → VK → Prop := fun x vs H Q => ∃ l xs, x = .ref l ∧ vs = [] ∧ H l = some (.lst xs) ∧ Q .non (upd H l (.lst xs.reverse))
theorem mt_reverse : MtM X "list.reverse" rReverse := by
  intro pins s σ H x vs v us Q I rx rv h
  obtain ⟨l, xs, rfl, rfl, hH, q⟩ := h
  cases rx
  have hus := rv.zero
  subst hus
  obtain ⟨z, its, n, r, hl, e⟩ := I.lstM hH
  refine call_meets F.slot_list_reverse ⟨_, e, rfl⟩ F.entry_list_reverse (F.args_list_reverse_1 _) (AutoSeq1.list_reverse_list_0 l its.toArray n (by rw [List.size_toArray]; omega)) ⟨e, ?_⟩
  refine ⟨.non, _, I.lset (its' := its.reverse) hH e (by simp) r.reverse ?_, rfl, q⟩
  rw [List.length_reverse]
  omega


/-! ### list + list, list += list, list * int -/
def rCat : R2 := fun x y H Q => ∃ l b xs zs, x = .ref l ∧ y = .ref b ∧ H l = some (.lst xs) ∧ H b = some (.lst zs) ∧ xs.length + zs.length ≤ sizeLine ∧ ∀ p, H p = none → Q (.ref p) (upd H p (.lst (xs ++ zs)))
theorem op_cat : OpR X (binaryOp .Add) rCat := by
  intro pins s σ H x y v u Q I rx ry h
  obtain ⟨l, b, xs, zs, rfl, rfl, hH, hB, hz, q⟩ := h
  cases rx
  cases ry
  obtain ⟨z, its, n, r, hl, e⟩ := I.lstM hH
  obtain ⟨z2, its2, n2, r2, hl2, e2⟩ := I.lstM hB
  refine PySem.P.add_list e e2 ?_ (by rw [List.size_toArray, List.size_toArray]; omega)
  have ea : its.toArray ++ its2.toArray = (its ++ its2).toArray := by simp
  rw [ea]
  exact ⟨.ref _, _, I.lnew (t' := s.toks) (r.append r2) (by rw [List.length_append]; omega), rfl, q _ I.fresh⟩
/-- a list times an int (a negative one is nothing) -/
def rRep : R2 := fun x y H Q => ∃ l k xs, x = .ref l ∧ y = .int k ∧ H l = some (.lst xs) ∧ -(2 ^ 63) ≤ k ∧ k < 2 ^ 63 ∧ xs.length * k.toNat ≤ sizeLine ∧
  ∀ p, H p = none → Q (.ref p) (upd H p (.lst (List.replicate k.toNat xs).flatten))
theorem len_rep {α : Type} (xs : List α) (k : Nat) : (List.replicate k xs).flatten.length = k * xs.length := by
  induction k with
  | zero => simp
  | succ k ih => rw [List.replicate_succ, List.flatten_cons, List.length_append, ih, Nat.succ_mul, Nat.add_comm]
theorem op_rep : OpR X (binaryOp .Mult) rRep := by
  intro pins s σ H x y v u Q I rx ry h
  obtain ⟨l, k, xs, rfl, rfl, hH, h1, h2, hz, q⟩ := h
  cases rx
  obtain ⟨t, rfl⟩ := ry
  obtain ⟨z, its, n, r, hl, e⟩ := I.lstM hH
  have hlen : its.toArray.size * k.toNat ≤ sizeLine := by rw [List.size_toArray, ← hl]; exact hz
  have hcap : ¬ its.toArray.size * k.toNat > (2 ^ 63 - 1) / 8 := by
    have : (sizeLine : Nat) ≤ (2 ^ 63 - 1) / 8 := by decide
    omega
  have hfit : ¬ (!Builtin.List.listFitsIndex k) = true := by
    rw [fitsIndex_both h1 h2]
    exact Bool.false_ne_true
  have hlong : ¬ Builtin.List.listTooLong (its.toArray.size * k.toNat) = true := by
    rw [notLongL hlen]
    exact Bool.false_ne_true
  have hnew : List.foldl (fun x1 x2 => x1 ++ x2) #[] (List.replicate (if its.toArray.isEmpty = true then 0 else k.toNat) its.toArray) = (List.replicate k.toNat its).flatten.toArray := by
    have f0 : ∀ m : Nat, List.foldl (fun x1 x2 => x1 ++ x2) #[] (List.replicate m its.toArray) = (List.replicate m its).flatten.toArray := fun m => by
      have := foldl_rep its m []
      rw [List.nil_append] at this
      exact this
    rw [f0]
    cases its with
    | nil => simp
    | cons a r' => rw [if_neg (by simp)]
  refine wpAny_binaryOp_repeat_ref (T := "list") (U := "int") (by decide) ⟨_, e, rfl⟩ (fun s' => typeIs_int s' k t) noFill_list_mul F.fills_int_mul F.slot_int_rmul repeat_list F.slot_int_index.lookup
    (call_meets F.slot_int_rmul (typeIs_int s k t) F.entry_int_rmul (F.args_int_rmul_2 _ _) (int___rmul___int_list k t l its.toArray n)
      ⟨e, rfl, ⟨_, e, rfl⟩, call_meets F.slot_list_mul ⟨_, e, rfl⟩ F.entry_list_mul (F.args_list_mul_2 _ _) (AutoListH.list___mul___list_int_3 l its.toArray n k t hfit hcap hlong) ⟨e, ?_⟩⟩)
  rw [hnew]
  exact ⟨.ref _, _, I.lnew (t' := s.toks) (r.rep k.toNat) (by rw [len_rep, Nat.mul_comm]; exact hz), rfl, q _ I.fresh⟩

/-! ### del xs[i] -/
end

/-! ### xs[a:b] = ys -/
section
variable {prog : Program} {w : World} {A : Around} {E : Value → Shared → Prop} {s : Shared}
end

section
variable {X : Cx}
end
end L2

namespace Att
open PySem PySem.W PySem.Calls PyProof.Rows

/-! ### the script -/
theorem ints_of_wellAll {P : Params} {h : Heap} : ∀ (ns : List Int) (vs : List Value), WellAll P h vs (ns.map WData.int) → IntsAre vs ns := by
  intro ns
  induction ns with
  | nil =>
    intro vs w
    rw [List.map_nil] at w
    cases w
    exact .nil
  | cons n ns ih =>
    intro vs w
    rw [List.map_cons] at w
    cases w with
    | cons a b =>
      cases a
      exact .cons _ _ (ih _ b)

theorem script_of {l : OpenLaw} {n : Nat} (hn : l.most = some n) {P : Params} {h : Heap} {args : List WData} {vals : List Value}
    (hpre : l.row.toRowW.claim.pre args = true) (hwl : WellAll P h vals args) :
    ∃ a vs ns, vals = [Value.ref a] ∧ args = [WData.list (ns.map WData.int)] ∧ h.get? a = some { cls := .type "list", data := .seq vs.toArray } ∧ IntsAre vs ns ∧ ns.length ≤ n := by
  have hsh : WShape.hasAll [] args [.list .int] = true := (pre_splitW hpre).1
  have hc : l.pre.holds [] { args := args } = true := (pre_splitW hpre).2
  obtain ⟨d, r, rfl, h1, h2⟩ := hasAllW_cons hsh
  obtain rfl := hasAllW_nil h2
  obtain ⟨xs, rfl, h3⟩ := hasW_list h1
  obtain ⟨ns, rfl⟩ := items_int h3
  have hlen : ns.length ≤ n := by
    unfold OpenLaw.pre at hc
    have h4 : (WTm.not (.lt (.lit (.int (n : Int))) (.len (.arg 0)))).holds [] { args := [.list (ns.map .int)] } = true := by
      have h4 := (holds_andW hc).1
      rw [hn] at h4
      exact h4
    have h5 := condW_of h4 (w_not (w_lt w_lit (w_len_list (w_arg rfl))))
    rw [List.length_map] at h5
    refine Nat.le_of_not_lt fun q => ?_
    have q' : (n : Int) < ((ns.length : Nat) : Int) := by omega
    first
      | (rw [decide_eq_true q'] at h5; exact absurd h5 (by decide))
      | (simp at h5; omega)
  cases hwl with
  | cons w1 w2 =>
    cases w2
    cases w1 with
    | list ho hall => exact ⟨_, _, ns, rfl, rfl, ho, ints_of_wellAll ns _ hall, hlen⟩

theorem post_true (l : OpenLaw) (args : List WData) : l.row.toRowW.claim.post args (.bool true) args = true :=
  postW_of (r := l.row.toRowW) (X := (true == true))
    (show WShape.has [] (.bool true) .bool = true by first | rfl | decide | simp [WShape.has, WShape.arms, WShape.armsAll])
    (show (WTm.eq .res (.lit (.bool true))).value [] { args := args, res := some (.bool true), after := args } = some (.bool (true == true)) from w_eq_bool (w_res rfl) w_lit) rfl

/-! ### the attachment: holds_open's last premise (the goal 'hc' behind k_head) from a wpAny of the law's body -/

/-- the same from a codeAny of the CALL (for a layer whose function contracts speak of calls) -/
theorem attach_call {l : OpenLaw} {n : Nat} {q : Program} {loose : List Str} {XP : (Str → Option Value) → Heap → Prop} {YP : World → Heap → Prop} {d : DefRec}
    (hn : l.most = some n) (hdf : d.params.defaults = [])
    (call : ∀ (w : World) (s₀ s₁ : Shared) (mg mb : Str → Option Value) (fa : Addr) (o : Obj) (pm cd doc : Value) (a : Addr) (vs : List Value) (ns : List Int),
      Ground q loose [] XP w s₀ mg mb s₁.heap → YP w s₁.heap →
      s₁.heap.get? fa = some o → o.data = .func (docDef d.name d.params d.body d.scope pm cd doc) → s₁.heap.CodeRec cd d.name → mg d.name = some (.ref fa) →
      s₁.heap.get? a = some { cls := .type "list", data := .seq vs.toArray } → IntsAre vs ns → ns.length ≤ n → s₁.gens = #[] →
      codeAny (model l.prog w) callerA (.call (.ref fa) ⟨[.ref a], []⟩) (fun r s' => r = .ok (.ret (.bool true)) ∧ OldK s₁.heap s'.heap ∧ s'.os = s₁.os ∧ AllBare s'.gens) s₁) :
    WalkO q loose XP YP l.row.toRowW d [] (fun f vs => PySem.call f vs) := by
  intro w s₀ s₁ mg mb G Y fa o pm cd doc dV kV ho hd hcd hD hmg hg args vals as hpre hlay hrd hwl hlo
  obtain rfl : dV = .none := Dflts.none hD hdf
  obtain rfl : kV = .none := Dflts.noKw hD
  obtain ⟨a, vs, ns, rfl, rfl, hobj, hints, hlen⟩ := script_of hn hpre hwl
  refine enter_call (codeAny_mono (call w s₀ s₁ mg mb fa o pm cd doc a vs ns G Y ho (fd_plain hd) hcd hmg hobj hints hlen hg) fun r s' hq => ?_)
  obtain ⟨rfl, h2, h3, h4⟩ := hq
  exact ⟨.inl ⟨.bool true, .bool true, [], rfl, fun _ => rfl, .bool true, post_true l _, fun _ => ⟨List.Pairwise.nil, fun _ hm => (nomatch hm)⟩⟩, h2, h3, h4⟩


/-! ### rules over ANY heap (no ledger) from facts about the written part K: the library's own take a ledger (News) for what they write -/
section
variable {prog : Program} {w : World} {A : Around} {E : Value → Shared → Prop} {s : Shared} {K : Frag}





/-! the whole heap as the ledger: makes every rule that writes through a ledger a rule over any heap -/

end
end Att

namespace L2
open PySem PySem.Spec PyProof.Rows

theorem vals_ints : ∀ {vs : List Value} {ns : List Int}, IntsAre vs ns → Vals (ns.map V.int) vs
  | _, _, .nil => .nil
  | _, _, .cons n t h => .cons ⟨t, rfl⟩ (vals_ints h)


end L2

namespace L2
open PySem PySem.Spec PyProof.Rows


end L2

/- THE LAST THEOREM (shape; LID, My.* are yours):
   My.Adr: a structure of the addresses that your layer names (classes, functions); My.Txt K t: a structure (Prop) of the equations over K;
   My.txt_mk : {K} {implicit addresses ..} (e1 : nsIn K mainGlobals "law" = some (some (.ref f))) (e2 : K.lookup f = some ⟨oc, od, .func (fnOf "law" "law" params body scope dV kV doc pm an cdv ct), sl⟩) (e3 : codeIn K cdv "law" = true) .. : ∃ t, My.Txt K t

set_option maxRecDepth 100000 in
set_option maxHeartbeats 0 in
theorem PySem.Challenge.cw_LID_holds : PySem.Challenge.rw_LID.Holds := by
  w_on; o_law; k_head; (case hw => w_witness2)
  k_fill
  refine L2.walk_of (l := PySem.Challenge.rw_LID) (n := 63) (k := 40) (x := "script") (CX := fun w => ..) (sp := fun _ => My.sp_law) rfl (by decide) rfl ⟨rfl, by decide, by decide⟩ (fun w h Y => PySem.W.kIn_of Y) ?F ?S ?C
  case F =>
    intro w mg fa h KX G hmg
    have T : ∃ t, My.Txt (L2.KOf KX) t := by
      dsimp only [L2.KOf]                          -- K must stand as «<heap const> w.params» for k_is
      refine' My.txt_mk ?e1 ?e2 ?e3 ..
      (case e1 => PySem.W.k_is)                    -- in the order: a name -> its address -> its object -> its parts
      (case e2 => PySem.W.k_is)
      ..
    obtain ⟨t, T⟩ := T
    have e0 := hmg.symm.trans (PySem.W.mg_of KX G T.law)
    cases e0                                       -- fa is the law's own address
    exact ⟨_, fun s u => .of_eq rfl, fun base kb nb => My.law_fn T kb nb⟩     -- if «.of_eq rfl» comes too early: refine' ⟨_, ?b, fun base kb nb => My.law_fn T kb nb⟩; exact fun s u => .of_eq rfl
  case S => exact fun w H a ns hl hO hS => ..
  case C => exact ..
(the tactic k_is has no namespace: write k_is) -/

/-! SHORT WORDS over the layer: a def of the text, its body, what a loop and a test want. -/
namespace L2
open PySem PySem.Spec PyProof.Rows

/-! ### the text by places -/
/-- the j-th statement of a class's body -/
def inClass (s : Stmt) (j : Nat) : Stmt := match s with
  | .ClassDef _ _ _ body _ _ _ _ _ _ _ => body.getD j (.Pass ⟨0, 0, 0, 0⟩)
  | _ => .Pass ⟨0, 0, 0, 0⟩
def defArgs (s : Stmt) : Arguments := match s with
  | .FunctionDef _ a _ _ _ _ _ _ _ _ => a
  | _ => { posonlyargs := [], args := [], vararg := none, kwonlyargs := [], kw_defaults := [], kwarg := none, defaults := [] }
def defBody (s : Stmt) : List Stmt := match s with
  | .FunctionDef _ _ b _ _ _ _ _ _ _ => b
  | _ => []
def defScope (s : Stmt) : Scope := match s with
  | .FunctionDef _ _ _ _ _ _ sc _ _ _ => sc
  | _ => { kind := .function, names := [], isGenerator := false, isCoroutine := false }

/-! ### no exception leaves a def -/
abbrev CX0 : CXT := fun _ _ _ _ _ _ => False
abbrev E0 : XK := fun _ _ _ => False
theorem pass0 {X : Cx} : Passes CX0 X E0 := fun _ _ _ _ _ _ _ h => h.elim

/-! ### a def (or method) of the text as it stands behind the top -/
structure Fun (K : PySem.W.Frag) (x qual : Str) (st : Stmt) (f : Addr) (fd : FuncData) : Prop where
  ex : ∃ (oc : Value) (od : Option Addr) (kV doc pm : Value) (an : Option Addr) (cdv ct : Value) (osl : Array (Option Value)),
    fd = PySem.W.fnOf x qual (defArgs st) (defBody st) (defScope st) .none kV doc pm an cdv ct ∧ K.lookup f = some ⟨oc, od, .func fd, osl⟩ ∧ PySem.W.codeIn K cdv qual = true
  kp : PySem.W.keepIn K (.ref f) = true
section
variable {P : Program} {w : World} {K : PySem.W.Frag} {mg : Str → Option Value} {base : Heap}
/-- THE RULE for a def: its body as a term of rules, and the reading of that term -/
theorem Fun.ok {x qual : Str} {st : Stmt} {f : Addr} {fd : FuncData} {N ps : List Str} {k : Nat} {sp : Sp} (F : Fun K x qual st f fd) (S : FnScope N ps (defScope st)) (len : ∀ vs H Q E, sp vs H Q E → vs.length = ps.length)
    (hbody : ∀ (cdv : Value) (A : Around) (outer : List Env) (s : Shared) (H : Hp) (vs : List V) (Q : VK) (E : XK), Room k (A.deeper (envOfC qual (defScope st) s.heap.objs.size f cdv)) → sp vs H Q E →
      ∃ t, PSs (cxOf CX0 P w K mg base N qual (defScope st) f cdv A outer s H E).nox (defBody st) t ∧ t { nx := fun _ H' => Q .non H', rt := Q } (start N vs) H) : FnOk P w K mg base CX0 (k + 1) f fd ps sp := by
  obtain ⟨oc, od, kV, doc, pm, an, cdv, ct, osl, rfl, lk, hcd⟩ := F.ex
  refine fn_of lk hcd S len fun A outer s H vs Q E hr hsp => ?_
  obtain ⟨t, h, q⟩ := hbody cdv A outer s H vs Q E hr hsp
  exact ⟨t, h.nox, q⟩
/-- how its arguments bind (no defaults): h is «fun _ _ _ _ _ _ us hl => match us, hl with | [_, _], _ => rfl», one _ a parameter -/
theorem Fun.binds {x qual : Str} {st : Stmt} {f : Addr} {fd : FuncData} {ps : List Str} (F : Fun K x qual st f fd)
    (h : ∀ (kV doc pm : Value) (an : Option Addr) (cdv ct : Value) (us : List Value), us.length = ps.length → bindArgs (PySem.W.fnOf x qual (defArgs st) (defBody st) (defScope st) .none kV doc pm an cdv ct) ⟨us, []⟩ = pure (ps.zip us)) : Binds K fd ps [] := by
  obtain ⟨oc, od, kV, doc, pm, an, cdv, ct, osl, rfl, lk, hcd⟩ := F.ex
  exact .all (h kV doc pm an cdv ct)
theorem fun_mk {x qual : Str} {st : Stmt} {f : Addr} {oc : Value} {od an : Option Addr} {osl : Array (Option Value)} {kV doc pm cdv ct : Value} (l : K.lookup f = some ⟨oc, od, .func (PySem.W.fnOf x qual (defArgs st) (defBody st) (defScope st) .none kV doc pm an cdv ct), osl⟩)
    (c : PySem.W.codeIn K cdv qual = true) (k : PySem.W.keepIn K (.ref f) = true) : Fun K x qual st f (PySem.W.fnOf x qual (defArgs st) (defBody st) (defScope st) .none kV doc pm an cdv ct) := ⟨⟨oc, od, kV, doc, pm, an, cdv, ct, osl, rfl, l, c⟩, k⟩
end
theorem hu_of {A : Around} {k : Nat} (hr : Room k A) : A.units + 1 < cLine := Nat.lt_of_le_of_lt (Nat.add_le_add_left (by decide : 1 ≤ 64) _) hr.units

/-! ### expressions in short: the name that stands in the i-th slot -/
section
variable {X : Cx}
theorem pv (i : Nat) {x : Str} {pos : Pos} (hN : X.N[i]? = some x := by rfl) (hv : Vis X.env.scope x := by first | exact Or.inl rfl | exact Or.inr (Or.inl rfl) | exact Or.inr (Or.inr rfl)) (hd : (x == ("__debug__" : Str)) = false := by decide)
    (hcd : (x == ("__classdict__" : Str)) = false := by decide) : PE X (.Name x pos) (tVar i) := pe_var hN hv hd hcd
/-- len of a dict -/
theorem call_lenD : CallR X (.builtin "len") (fun xs H Q => ∃ a kvs, xs = [V.ref a] ∧ H a = some (.dK kvs) ∧ Q (.int kvs.length) H) := by
  intro pins s σ H xs us Q I r h
  obtain ⟨a, kvs, rfl, ha, q⟩ := h
  obtain ⟨u, rfl, ru⟩ := vals1 r
  cases ru
  exact d_len I (.inl ha) fun t s' I' => ⟨.int kvs.length, H, I', ⟨t, rfl⟩, q⟩
end

/-! ### tests -/
theorem iteF {A B : Prop} (h : B) : if false = true then A else B := by
  rw [if_neg Bool.false_ne_true]
  exact h
theorem iteT {A B : Prop} (h : A) : if true = true then A else B := by
  rw [if_pos rfl]
  exact h

/-! ### heaps -/
/-- all that was tracked is as it was -/
def Same (H H' : Hp) : Prop := ∀ b o, H b = some o → H' b = some o

/-! ### a dict's pairs: keys that differ -/
section
variable {κ : Type} [DecidableEq κ]
end
end L2


set_option Elab.async false
set_option linter.all false
set_option maxRecDepth 100000
namespace Tw
open PySem
/-! texts as lists of codes -/
abbrev W := List Nat
def st (l : W) : Str := ⟨l.toArray⟩
theorem st_cps (l : W) : (st l).cps.toList = l := rfl
theorem st_of (x : Str) : st x.cps.toList = x := by cases x; rfl
theorem st_inj {a b : W} (h : st a = st b) : a = b := by
  have := congrArg (fun s : Str => s.cps.toList) h
  exact this
theorem st_eq {a b : W} : st a = st b ↔ a = b := ⟨st_inj, fun h => by rw [h]⟩
theorem st_len (l : W) : (st l).length = l.length := by simp [st, Str.length]
theorem st_app (a b : W) : st a ++ st b = st (a ++ b) := by
  show (⟨a.toArray ++ b.toArray⟩ : Str) = _
  simp [st]
/-- y begins x -/
theorem st_starts (x y : W) : Txt.startswith (st x) (st y) = y.isPrefixOf x := by
  unfold Txt.startswith Builtin.Str.subAt
  rw [st_len, st_len]
  simp only [Nat.zero_add, st]
  rw [Bool.eq_iff_iff, Bool.and_eq_true, decide_eq_true_iff, List.isPrefixOf_iff_prefix, beq_iff_eq]
  constructor
  · rintro ⟨h1, h2⟩
    have h3 := congrArg Array.toList h2
    rw [List.prefix_iff_eq_take]
    simpa using h3.symm
  · intro h
    refine ⟨h.length_le, ?_⟩
    have h3 := List.prefix_iff_eq_take.mp h
    apply Array.ext'
    simpa using h3.symm
theorem takeWhile_len_all {p : Nat → Bool} : ∀ {l : W}, (l.takeWhile p).length = l.length → ∀ c ∈ l, p c = true
  | [], _, _, h => nomatch h
  | a :: l, e, c, h => by
    rw [List.takeWhile_cons] at e
    split at e
    · rename_i hp
      rcases List.mem_cons.mp h with rfl | h
      · exact hp
      · exact takeWhile_len_all (by simpa using e) c h
    · simp at e
theorem takeWhile_all {p : Nat → Bool} : ∀ {l : W}, (∀ c ∈ l, p c = true) → l.takeWhile p = l
  | [], _ => rfl
  | a :: l, h => by rw [List.takeWhile_cons, h a List.mem_cons_self]; simp [takeWhile_all fun c hc => h c (List.mem_cons_of_mem _ hc)]
theorem takeWhile_le {p : Nat → Bool} (l : W) : (l.takeWhile p).length ≤ l.length := (List.takeWhile_sublist p).length_le
theorem strSub_nil {x : W} {i j : Nat} : Builtin.Str.strSub (st x) i j = st [] ↔ min j x.length ≤ i := by
  unfold Builtin.Str.strSub st
  constructor
  · intro h
    have := congrArg (fun s : Str => s.cps.toList.length) h
    simp at this
    omega
  · intro h
    congr 1
    apply Array.ext'
    apply List.eq_nil_of_length_eq_zero
    simp
    omega
theorem st_lstrip (x y : W) : (Txt.lstripChars (st x) (st y) = st []) ↔ ∀ c ∈ x, c ∈ y := by
  unfold Txt.lstripChars Txt.stripBy stripSame stripped stripLo stripHi
  simp only [if_true, Bool.false_eq_true, if_false, st_len, st_cps]
  have hc : ∀ c, (st y).cps.contains c = true ↔ c ∈ y := fun c => by simp [st]
  split
  · rename_i h
    have h0 : (x.takeWhile (st y).cps.contains).length = 0 := by simpa using h
    rw [st_eq]
    constructor
    · rintro rfl; intro c h; nomatch h
    · intro h
      cases x with
      | nil => rfl
      | cons a r => rw [List.takeWhile_cons, (hc a).mpr (h a List.mem_cons_self)] at h0; simp at h0
  · rw [strSub_nil, Nat.min_self]
    constructor
    · intro h c hm
      exact (hc c).mp (takeWhile_len_all (Nat.le_antisymm (takeWhile_le _) h) c hm)
    · intro h
      rw [takeWhile_all fun c hm => (hc c).mpr (h c hm)]
      exact Nat.le_refl _
theorem st_join (ls : List W) : Txt.join (st []) (ls.map st) = st ls.flatten := by
  unfold Txt.join Builtin.Str.glued
  cases ls with
  | nil => rfl
  | cons a r =>
    simp only [List.map_cons, List.drop_succ_cons, List.drop_zero, List.headD_cons, List.flatten_cons]
    have : ∀ (r : List W) (acc : W), (r.map st).foldl (fun acc p => acc ++ (st []).cps ++ p.cps) acc.toArray = (acc ++ r.flatten).toArray := by
      intro r
      induction r with
      | nil => intro acc; simp
      | cons b r ih =>
        intro acc
        rw [List.map_cons, List.foldl_cons, List.flatten_cons]
        have e : acc.toArray ++ (st []).cps ++ (st b).cps = (acc ++ b).toArray := by simp [st]
        rw [e, ih, List.append_assoc]
    have h := this r a
    show (⟨_⟩ : Str) = _
    rw [show (st a).cps = a.toArray from rfl, h]
    rfl
end Tw


set_option Elab.async false
set_option linter.all false
set_option maxRecDepth 100000
set_option maxHeartbeats 4000000
namespace L2
open PySem PySem.Spec PyProof.Rows
/-! ### a rule that keeps the frame's map and a list of all other objects -/
section
variable {X : Cx} {pins : List (Addr × Obj)} {σ : St} {H : Hp} {s : Shared}
theorem ns_one {h : Heap} {a : Addr} {m m' : Str → Option Value} (x : h.Ns a m) (y : h.Ns a m') : m = m' := by
  obtain ⟨o, es, ep, e, d, _, f⟩ := x
  obtain ⟨o', es', ep', e', d', _, f'⟩ := y
  rw [e] at e'; cases e'
  rw [d] at d'; cases d'
  funext n
  rw [← f n, ← f' n]
/-- what any rule of the library's News kind may take, and what its end gives back -/
theorem Inv.byNews (I : Inv X pins σ H s) : ∃ m, Fr X.base X.env.locals s.heap m ∧ News X.base X.env.locals s.heap (allNews X.base s.heap X.env.locals) ∧
    ∀ (h' : Heap) (t' : Nat), Fr X.base X.env.locals h' m → News X.base X.env.locals h' (allNews X.base s.heap X.env.locals) → Inv X pins σ H { s with heap := h', toks := t' } := by
  obtain ⟨m, hm⟩ := I.fr
  refine ⟨m, hm, news_all, fun h' t' F N => ?_⟩
  have keep : ∀ b o, b ≠ X.env.locals → s.heap.get? b = some o → h'.get? b = some o := fun b o hb e => by
    cases q : X.base.get? b with
    | some u =>
      have := I.bk b u q
      rw [e] at this; cases this
      exact F.keep b _ q
    | none => exact (N (b, o) (mem_allNews hb q e)).1
  have hL : ∃ o, h'.get? X.env.locals = some o := by
    obtain ⟨o, _, _, e, _⟩ := F.ns
    exact ⟨o, e⟩
  refine I.step (g' := s.gens) (d' := s.drawn) (ch := []) (fun _ z => nomatch z) (fun b o h1 _ _ e _ => keep b o h1 e) (fun b o h1 _ _ e _ => ⟨o.slots, keep b o h1 e⟩) (fun _ _ _ _ n => n)
    (fun b o _ e => ?_) (fun _ _ e => e) (fun _ _ _ e => e) (fun b ps e => ⟨#[], by rw [e]; simp⟩) (fun m' hm' => ?_) (fun b u e => ?_) I.bare
  · by_cases hb : b = X.env.locals
    · subst hb; exact hL
    · exact ⟨o, keep b o hb e⟩
  · rw [← ns_one hm.ns hm']; exact F.ns
  · refine (I.hok b u e).stay (fun c v hc q => keep c v ?_ q) (fun _ q => q) fun _ _ q => q
    rintro rfl
    rcases hc with z | z
    · subst z; rw [I.free] at e; cases e
    · rw [I.free] at z; cases z
end

/-! ### isinstance -/
def cV : V → Value
  | .ty n => .type n
  | .ref a => .ref a
  | _ => .none
def isCls : V → Prop
  | .ty _ => True
  | .ref _ => True
  | _ => False
def rIsi (K : PySem.W.Frag) : List V → Hp → VK → Prop := fun xs H Q => ∃ x c t b, xs = [x, c] ∧ isCls c ∧ TyOf K H x t ∧ PySem.W.kitOne K t (cV c) = some b ∧ Q (.bl b) H
section
variable {X : Cx}
theorem call_isi : CallR X (.builtin "isinstance") (rIsi X.K) := by
  intro pins s σ H xs us Q I r h
  obtain ⟨x, c, t, b, rfl, hc, ty, e, q⟩ := h
  obtain ⟨u, w', rfl, rx, rc⟩ := vals2 r
  have ec : w' = cV c := by
    cases c with
    | ty n => exact rc
    | ref a => exact rc
    | _ => exact False.elim hc
  subst ec
  exact isinst_ok I rx ty e fun tk => ⟨.bl b, H, I.tok tk, rfl, q⟩
end

/-! ### all, any, sum of a list -/
section
variable {X : Cx}
theorem bools_of : ∀ {bs : List Bool} {us : List Value}, Vals (bs.map V.bl) us → us = bs.map Value.bool
  | [], _, r => by cases r; rfl
  | b :: bs, _, r => by
    cases r with
    | cons r1 r2 => rw [bools_of r2, List.map_cons, show _ = Value.bool b from r1]
theorem boolsAre : ∀ (bs : List Bool), LSm.BoolsAre (bs.map Value.bool) bs := by
  intro bs
  induction bs with
  | nil => exact .nil
  | cons b bs ih => exact .cons b ih
theorem call_all_bl (hc : X.calm = true) : CallR X (.builtin "all") (fun xs H Q => ∃ (p : Addr) (bs : List Bool), xs = [.ref p] ∧ SqL X.K H p (bs.map V.bl) ∧ Q (.bl (bs.all id)) H) := by
  intro pins s σ H xs us Q I r h
  obtain ⟨p, bs, rfl, hq, q⟩ := h
  obtain ⟨u, rfl, rx⟩ := vals1 r
  cases rx
  obtain ⟨its, r', pl, hz⟩ := I.list hq
  have e := bools_of r'
  subst e
  obtain ⟨m, F, N, back⟩ := I.byNews
  exact LSm.all_bools F N (I.ok.hd hc) pl.isList (boolsAre bs) fun h' tk F' N' => ⟨.bl _, H, back h' tk F' N', rfl, q⟩
theorem call_any_bl (hc : X.calm = true) : CallR X (.builtin "any") (fun xs H Q => ∃ (p : Addr) (bs : List Bool), xs = [.ref p] ∧ SqL X.K H p (bs.map V.bl) ∧ Q (.bl (bs.any id)) H) := by
  intro pins s σ H xs us Q I r h
  obtain ⟨p, bs, rfl, hq, q⟩ := h
  obtain ⟨u, rfl, rx⟩ := vals1 r
  cases rx
  obtain ⟨its, r', pl, hz⟩ := I.list hq
  have e := bools_of r'
  subst e
  obtain ⟨m, F, N, back⟩ := I.byNews
  exact LSm.any_bools F N (I.ok.hd hc) pl.isList (boolsAre bs) fun h' tk F' N' => ⟨.bl _, H, back h' tk F' N', rfl, q⟩
theorem call_sum_int (hc : X.calm = true) : CallR X (.builtin "sum") (fun xs H Q => ∃ (p : Addr) (ns : List Int), xs = [.ref p] ∧ SqL X.K H p (ns.map V.int) ∧ Q (.int ns.sum) H) := by
  intro pins s σ H xs us Q I r h
  obtain ⟨p, ns, rfl, hq, q⟩ := h
  obtain ⟨u, rfl, rx⟩ := vals1 r
  cases rx
  obtain ⟨its, r', pl, hz⟩ := I.list hq
  obtain ⟨m, F, N, back⟩ := I.byNews
  exact LSm.sum_ints F N (I.ok.hd hc) pl.isList (intsAre_of r') fun h' tk t' F' N' => ⟨.int _, H, back h' tk F' N', ⟨t', rfl⟩, q⟩

/-! ### methods of texts -/
open Tw
abbrev sv (l : W) : V := .str (st l)
theorem mt_starts : MtR X "str.startswith" (fun x xs H Q => ∃ (a b : W), x = sv a ∧ xs = [sv b] ∧ Q (.bl (b.isPrefixOf a)) H) := by
  intro pins s σ H x xs v us Q I rx rs h
  obtain ⟨a, b, rfl, rfl, q⟩ := h
  obtain ⟨t, rfl⟩ := rx
  obtain ⟨u, rfl, t', rfl⟩ := vals1 rs
  refine SC.startswith ⟨.bl _, H, I, rfl, ?_⟩
  rw [st_starts]
  exact q
theorem mt_lstrip : MtR X "str.lstrip" (fun x xs H Q => ∃ (a b : W), x = sv a ∧ xs = [sv b] ∧ a.length ≤ sizeLine ∧ ∀ c, (c = [] ↔ ∀ z ∈ a, z ∈ b) → Q (sv c) H) := by
  intro pins s σ H x xs v us Q I rx rs h
  obtain ⟨a, b, rfl, rfl, hz, q⟩ := h
  obtain ⟨t, rfl⟩ := rx
  obtain ⟨u, rfl, t', rfl⟩ := vals1 rs
  refine SC.lstripChars (fun t' k => ⟨.str _, H, I.tok k, ⟨t', rfl⟩, ?_⟩) (by rw [st_len]; exact hz)
  have z := q (Txt.lstripChars (st a) (st b)).cps.toList (by rw [← st_eq, st_of]; exact st_lstrip a b)
  unfold sv at z
  rw [st_of] at z
  exact z
theorem strsAre_of : ∀ {ls : List W} {us : List Value}, Vals (ls.map sv) us → StrsAre us (ls.map st)
  | [], _, r => by cases r; exact .nil
  | l :: ls, _, r => by
    cases r with
    | cons r1 r2 => obtain ⟨t, rfl⟩ := r1; exact .cons _ t (strsAre_of r2)
theorem mt_join : MtR X "str.join" (fun x xs H Q => ∃ (p : Addr) (ls : List W), x = .str (st []) ∧ xs = [.ref p] ∧ SqL X.K H p (ls.map sv) ∧ (ls.map List.length).sum ≤ 16777216 ∧ Q (sv ls.flatten) H) := by
  intro pins s σ H x xs v us Q I rx rs h
  obtain ⟨p, ls, rfl, rfl, hq, hz, q⟩ := h
  obtain ⟨t, rfl⟩ := rx
  obtain ⟨u, rfl, rx⟩ := vals1 rs
  cases rx
  obtain ⟨its, r', pl, _⟩ := I.list hq
  refine join_list pl.isList (ys := ls.map st) (by simpa using strsAre_of r') ?_ fun t' k => ⟨sv ls.flatten, H, I.tok k, ⟨t', by rw [st_join]⟩, q⟩
  have e : (ls.map st).map (·.length) = ls.map List.length := by rw [List.map_map]; exact List.map_congr_left fun a _ => st_len a
  rw [e, st_len]
  simpa using hz
end
end L2


set_option Elab.async false
set_option linter.all false
set_option maxRecDepth 100000
set_option maxHeartbeats 4000000
namespace L2
open PySem PySem.Spec PyProof.Rows
/-! ### list comprehensions: one clause, at most one test -/
/-- the cells that a block takes from around it -/
def clOf (names : List (Str × NameKind)) (cells : List (Str × Addr)) : List (Str × Addr) :=
  names.foldl (fun cs x => if x.2 == .free then (match cells.lookup x.1 with | some c => (x.1, c) :: cs | none => cs) else cs) []
theorem clOf_mem {cells : List (Str × Addr)} : ∀ {names : List (Str × NameKind)} {cs : List (Str × Addr)} {x : Str} {c : Addr},
    (names.foldl (fun cs x => if x.2 == .free then (match cells.lookup x.1 with | some c => (x.1, c) :: cs | none => cs) else cs) cs).lookup x = some c → cs.lookup x = some c ∨ cells.lookup x = some c
  | [], _, _, _, h => .inl h
  | y :: names, cs, x, c, h => by
    rw [List.foldl_cons] at h
    rcases clOf_mem h with h | h
    · split at h
      · split at h
        · rename_i c' e
          rw [List.lookup_cons] at h
          split at h
          · rename_i hb
            have hx : x = y.1 := by simpa using hb
            cases h
            exact .inr (by rw [hx]; exact e)
          · exact .inl h
        · exact .inl h
      · exact .inl h
    · exact .inr h
theorem clOf_keep {cells : List (Str × Addr)} : ∀ {names : List (Str × NameKind)} {cs : List (Str × Addr)} {x : Str}, (∃ c, cs.lookup x = some c) →
    ∃ c, (names.foldl (fun cs x => if x.2 == .free then (match cells.lookup x.1 with | some c => (x.1, c) :: cs | none => cs) else cs) cs).lookup x = some c
  | [], _, _, h => h
  | y :: names, cs, x, h => by
    rw [List.foldl_cons]
    refine clOf_keep ?_
    split
    · split
      · rw [List.lookup_cons]
        split
        · exact ⟨_, rfl⟩
        · exact h
      · exact h
    · exact h
theorem clOf_has {cells : List (Str × Addr)} : ∀ {names : List (Str × NameKind)} {cs : List (Str × Addr)} {x : Str}, (x, NameKind.free) ∈ names → (∃ c, cells.lookup x = some c) →
    ∃ c, (names.foldl (fun cs x => if x.2 == .free then (match cells.lookup x.1 with | some c => (x.1, c) :: cs | none => cs) else cs) cs).lookup x = some c
  | y :: names, cs, x, h, hc => by
    rw [List.foldl_cons]
    rcases List.mem_cons.mp h with h | h
    · subst h
      obtain ⟨c, e⟩ := hc
      refine clOf_keep ⟨c, ?_⟩
      simp [e]
    · exact clOf_has h hc
theorem closure_of {scope : Scope} {env : Env} (h : ∀ x, (x, NameKind.free) ∈ scope.names → ∃ c, env.cells.lookup x = some c) : closureFor scope env = pure (clOf scope.names env.cells) := by
  unfold closureFor clOf
  generalize hcs : ([] : List (Str × Addr)) = cs
  clear hcs
  show (do let r ← forIn scope.names cs _; pure r) = _
  have : ∀ (names : List (Str × NameKind)) (cs : List (Str × Addr)), (∀ x, (x, NameKind.free) ∈ names → ∃ c, env.cells.lookup x = some c) →
      (forIn names cs fun (x : Str × NameKind) (r : List (Str × Addr)) => (match x with | (name, kind) => if (kind == NameKind.free) = true then do let a ← cellOf env name; pure (ForInStep.yield ((name, a) :: r)) else pure (ForInStep.yield r) : Sem (ForInStep (List (Str × Addr))))) =
        pure (names.foldl (fun cs x => if x.2 == .free then (match env.cells.lookup x.1 with | some c => (x.1, c) :: cs | none => cs) else cs) cs) := by
    intro names
    induction names with
    | nil => intro cs _; rfl
    | cons y r ih =>
      intro cs h
      obtain ⟨n, k⟩ := y
      rw [List.forIn_cons, List.foldl_cons]
      have hr := fun cs => ih cs fun x hx => h x (List.mem_cons_of_mem _ hx)
      by_cases hk : k = .free
      · subst hk
        obtain ⟨c, e⟩ := h n List.mem_cons_self
        simp only [beq_self_eq_true, if_true, cellOf, e, pure_bind]
        exact hr _
      · have hb : (k == NameKind.free) = false := by simpa using hk
        simp only [hb, Bool.false_eq_true, if_false, pure_bind]
        exact hr _
  rw [this scope.names cs h]
  rfl

/-- the names of a block: its own ones none, those from around it by their places there -/
def subSt (js : List (Option Nat)) (σ : St) : St := js.map fun j => j.bind fun j => (σ[j]?).join
/-- N, oN: the names around, by place and by kind; sN: the block's kinds; N', js: its names, each with its place around where it is taken from there -/
def compOne (N : List Str) (oN sN : List (Str × NameKind)) (x : Str) : Option Nat → Bool
  | none => true
  | some j => decide (N[j]? = some x) && decide (oN.lookup x = some .cell) && decide (sN.lookup x = some .free)
def compOk (N : List Str) (oN sN : List (Str × NameKind)) : List Str → List (Option Nat) → Bool
  | [], [] => true
  | x :: N', j :: js => compOne N oN sN x j && compOk N oN sN N' js
  | [], _ :: _ => false
  | _ :: _, [] => false
theorem compOk_len {N : List Str} {oN sN : List (Str × NameKind)} : ∀ {N' : List Str} {js : List (Option Nat)}, compOk N oN sN N' js = true → N'.length = js.length
  | [], [], _ => rfl
  | x :: N', j :: js, h => by
    have h' : (compOne N oN sN x j && compOk N oN sN N' js) = true := h
    rw [Bool.and_eq_true] at h'
    simp [compOk_len h'.2]
  | [], _ :: _, h => nomatch h
  | _ :: _, [], h => nomatch h
theorem compOk_get {N : List Str} {oN sN : List (Str × NameKind)} : ∀ {N' : List Str} {js : List (Option Nat)} {i j : Nat}, compOk N oN sN N' js = true → js[i]? = some (some j) →
    ∃ x, N'[i]? = some x ∧ N[j]? = some x ∧ oN.lookup x = some .cell ∧ sN.lookup x = some .free
  | [], [], _, _, _, e => by simp at e
  | x :: N', k :: js, 0, j, h, e => by
    have h' : (compOne N oN sN x k && compOk N oN sN N' js) = true := h
    rw [Bool.and_eq_true] at h'
    simp at e
    subst e
    have h1 := h'.1
    simp only [compOne, Bool.and_eq_true, decide_eq_true_eq] at h1
    exact ⟨x, rfl, h1.1.1, h1.1.2, h1.2⟩
  | x :: N', k :: js, i + 1, j, h, e => by
    have h' : (compOne N oN sN x k && compOk N oN sN N' js) = true := h
    rw [Bool.and_eq_true] at h'
    obtain ⟨y, q, r⟩ := compOk_get (i := i) (j := j) h'.2 (by simpa using e)
    exact ⟨y, by simpa using q, r⟩
  | [], _ :: _, _, _, h, _ => nomatch h
  | _ :: _, [], _, _, h, _ => nomatch h

/-- the context of a block -/
def cxComp (X : Cx) (scope : Scope) (N' : List Str) (C : Addr) (fp : List Addr) (s₀ : Shared) (H₀ : Hp) : Cx where
  prog := X.prog
  w := X.w
  K := X.K
  mg := X.mg
  base := X.base
  A := X.A
  N := N'
  s₀ := s₀
  H₀ := H₀
  env := compEnvC scope (clOf scope.names X.env.cells) C X.env
  outer := X.stack
  stack := X.stack
  ex := fp
  fn := fun _ => false
  calm := true
  pn := []
  xe := fun _ _ => False

/-- the tests of a clause -/
def PTs (X : Cx) (ifs : List Expr) (t : TT) : Prop :=
  ∀ (pins : List (Addr × Obj)) (s : Shared) (σ : St) (H : Hp) (Q : Bool → Hp → Prop), Inv X pins σ H s → t σ H Q →
    wpAny (model X.prog X.w) X.A (forIn ifs true fun c r => if r = true then do let ok ← isTrue c X.env (eval c X.env); pure (ForInStep.yield ok) else pure (ForInStep.yield r)) (TP X pins σ Q) X.xe s
def tYes : TT := fun _ H Q => Q true H
section
variable {X : Cx}
theorem pts_nil : PTs X [] tYes := fun _ _ _ H _ I h => wpAny_tests_nil ⟨H, I, h⟩
end

/-- the loop of a block -/
theorem comp_loop {prog : Program} {w : World} {A : Around} {R : Result → Shared → Prop} {s : Shared} {elt target iter : Expr} {ifs : List Expr} {scope : Scope} {pos : Pos} {it acc : Value} {env : Env} (I : Nat → Shared → Prop)
    (turn : ∀ n s, I n s → wpAny (model prog w) A (pyNext it) (fun r s₁ => match r with
      | none => R (.ok .next) s₁
      | some v => wpAny (model prog w) A (letOwnedTupleGo target it v) (fun _ s₁' => wpAny (model prog w) A (assign target env v) (fun _ s₂ =>
          wpAny (model prog w) A (forIn ifs true fun c r => if r = true then do let ok ← isTrue c env (eval c env); pure (ForInStep.yield ok) else pure (ForInStep.yield r)) (fun ok s₃ =>
            if ok = true then wpAny (model prog w) A (eval elt env) (fun x s₄ =>
              wpAny (model prog w) A (call (.builtin "list.append") [acc, x]) (fun _ s₅ => ∃ m, m < n ∧ I m s₅) (fun _ _ => False) s₄) (fun _ _ => False) s₃
            else ∃ m, m < n ∧ I m s₃) (fun _ _ => False) s₂) (fun _ _ => False) s₁') (fun _ _ => False) s₁) (fun _ _ => False) s)
    (n : Nat) (h : I n s) :
    codeAny (model prog w) A (.compLoop (.ListComp elt [⟨target, iter, ifs, 0⟩] scope pos) 0 it acc env) R s := by
  have no {E : Value → Shared → Prop} : ∀ (e : Value) (s' : Shared), False → E e s' := fun _ _ f => f.elim
  have one : ∀ (n : Nat) (s : Shared), I n s → _ := fun n s hI => turn n s hI
  refine codeAny_loop rfl I (fun n s hI => wpAny_noted ?_) n h
  rw [compTurn_list]
  refine wpAny_bind (wpAny_standAt ?_)
  refine wpAny_bind (wpAny_mono (one n s hI) (fun r s₁ h₁ => ?_) no)
  cases r with
  | none => exact wpAny_pure h₁
  | some v =>
    refine wpAny_bind (wpAny_mono h₁ (fun _ s₁' h₁' => ?_) no)
    refine wpAny_bind (wpAny_mono h₁' (fun _ s₂ h₂ => wpAny_bind (wpAny_mono h₂ (fun ok s₃ h₃ => ?_) no)) no)
    cases ok with
    | false => exact wpAny_pure ⟨rfl, h₃⟩
    | true => exact wpAny_bind (wpAny_bind (wpAny_mono h₃ (fun x s₄ h₄ => wpAny_bind (wpAny_mono h₄ (fun _ s₅ h₅ => wpAny_pure (wpAny_pure ⟨rfl, h₅⟩)) no)) no))

/-- what is wanted of a block: D the new list; W the invariant by the turn and a measure -/
def tBlock (J : It) (js : List (Option Nat)) (g : TG) (tt : TT) (te : TE) (σ : St) (H1 : Hp) (Q : VK) : Prop :=
  ∀ D, H1 D = none → ∃ W : Nat → Nat → St → Hp → Prop, (∃ m, W 0 m (subSt js σ) (upd H1 D (.lst []))) ∧ ∀ i m σ' H', W i m σ' H' →
    (J.stop i H' ∧ Q (.ref D) H') ∨ (J.go i H' ∧ ∃ N : St → Hp → Prop, (∀ σ2 H2, N σ2 H2 → ∃ m', m' < m ∧ W (i + 1) m' σ2 H2) ∧
      ∀ x H2, J.yld i H' x H2 → g x σ' H2 fun σ2 H3 => tt σ2 H3 fun ok H4 => if ok = true then te σ2 H4 fun y H5 => ∃ ys, H5 D = some (.lst ys) ∧ ys.length < sizeLine ∧ N σ2 (upd H5 D (.lst (ys ++ [y]))) else N σ2 H4)
def tComp (wi : TI) (js : List (Option Nat)) (g : TG) (tt : TT) (te : TE) : TE := fun σ H Q => wi σ H fun J H1 => tBlock J js g tt te σ H1 Q

section
variable {X : Cx} {tg iter elt : Expr} {ifs : List Expr} {scope : Scope} {pos : Pos} {N' : List Str} {js : List (Option Nat)} {g : TG} {tt : TT} {te : TE}
/-- the kinds of a block's names -/
structure BlkScope (X : Cx) (scope : Scope) (N' : List Str) (js : List (Option Nat)) : Prop where
  kind : scope.kind = .function
  nocell : ∀ x ∈ scope.names, x.2 ≠ .cell
  locs : ∀ x ∈ scope.names, x.2 = .local → scope.names.lookup x.1 = some .local
  frees : ∀ x ∈ scope.names, x.2 = .free → X.env.scope.names.lookup x.1 = some .cell
  ok : compOk X.N X.env.scope.names scope.names N' js = true

def blkB (N : List Str) (oN : List (Str × NameKind)) (scope : Scope) (N' : List Str) (js : List (Option Nat)) : Bool :=
  decide (scope.kind = .function) && (scope.names.all (fun x => decide (x.2 ≠ .cell)) && (scope.names.all (fun x => !decide (x.2 = .local) || decide (scope.names.lookup x.1 = some .local)) &&
    (scope.names.all (fun x => !decide (x.2 = .free) || decide (oN.lookup x.1 = some .cell)) && compOk N oN scope.names N' js)))
theorem BlkScope.of {N : List Str} {oN : List (Str × NameKind)} (h : blkB N oN scope N' js = true) (e1 : N = X.N := by rfl) (e2 : oN = X.env.scope.names := by rfl) : BlkScope X scope N' js := by
  subst e1 e2
  unfold blkB at h
  rw [Bool.and_eq_true, Bool.and_eq_true, Bool.and_eq_true, Bool.and_eq_true, decide_eq_true_iff, List.all_eq_true, List.all_eq_true, List.all_eq_true] at h
  obtain ⟨h1, h2, h3, h4, h5⟩ := h
  refine ⟨h1, fun x hx => by simpa using h2 x hx, fun x hx z => ?_, fun x hx z => ?_, h5⟩
  · have := h3 x hx
    simpa [z] using this
  · have := h4 x hx
    simpa [z] using this
theorem relabel_free {env : Env} {names : List (Str × NameKind)} {x : Str} (h : names.lookup x = some .free) (h1 : env.scope.kind = .function) (h2 : env.kindOf x = some .cell) :
    (names.map fun (n, k) => if (k == NameKind.free && env.scope.kind == .function && env.kindOf n == some .cell) then (n, NameKind.cell) else (n, k)).lookup x = some .cell := by
  induction names with
  | nil => exact nomatch h
  | cons y r ih =>
    obtain ⟨n, k⟩ := y
    rw [List.map_cons]
    by_cases hn : x = n
    · subst hn
      have hk : k = .free := by simpa [List.lookup_cons] using h
      subst hk
      simp [h1, h2, List.lookup_cons]
    · have b : (x == n) = false := beq_false_of_ne hn
      have up := ih (by simpa [List.lookup_cons, b] using h)
      dsimp only
      split <;> (rw [List.lookup_cons, b]; exact up)
theorem relabel_inv {env : Env} : ∀ {names : List (Str × NameKind)} {x : Str}, (∀ y ∈ names, y.2 ≠ .cell) →
    ((names.map fun (n, k) => if (k == NameKind.free && env.scope.kind == .function && env.kindOf n == some .cell) then (n, NameKind.cell) else (n, k)).lookup x = some .cell ∨
     (names.map fun (n, k) => if (k == NameKind.free && env.scope.kind == .function && env.kindOf n == some .cell) then (n, NameKind.cell) else (n, k)).lookup x = some .free) → (x, NameKind.free) ∈ names
  | [], _, _, h => by simp at h
  | (n, k) :: r, x, hn, h => by
    have ih := @relabel_inv env r x (fun y hy => hn y (List.mem_cons_of_mem _ hy))
    have hk := hn (n, k) List.mem_cons_self
    by_cases hx : x = n
    · subst hx
      by_cases hc : (k == NameKind.free && env.scope.kind == .function && env.kindOf x == some .cell) = true
      · have : k = .free := by
          have := (Bool.and_eq_true _ _ ▸ (Bool.and_eq_true _ _ ▸ hc).1).1
          simpa using this
        subst this
        exact List.mem_cons_self
      · rw [List.map_cons] at h
        simp only [if_neg hc] at h
        simp [List.lookup_cons] at h
        rcases h with h | h
        · exact absurd h hk
        · subst h; exact List.mem_cons_self
    · refine List.mem_cons_of_mem _ (ih ?_)
      rw [List.map_cons] at h
      have hb : (x == n) = false := by simpa using hx
      by_cases hc : (k == NameKind.free && env.scope.kind == .function && env.kindOf n == some .cell) = true
      · simp only [if_pos hc, List.lookup_cons, hb] at h; exact h
      · simp only [if_neg hc, List.lookup_cons, hb] at h; exact h

/-- an untracked object of ours that no one knows changes -/
theorem Inv.gone {pins : List (Addr × Obj)} {σ : St} {H : Hp} {s : Shared} {C : Addr} {h' : Heap} (I : Inv X pins σ H s) (hs : Heap.SameBut C s.heap h') (h : FpOk X pins H C) : Inv X pins σ H { s with heap := h' } :=
  I.turned (t' := s.toks) (it := C) (fun b o hb e => (hs.2 b hb).trans e) h.1 h.2.1 h.2.2.2.1 h.2.2.2.2.1 h.2.2.2.2.2

/-- the block has run: X's state again, the new list at D, the block's own dict at C -/
theorem comp_core {pins : List (Addr × Obj)} {σ : St} {H2 : Hp} {s2 : Shared} {J : It} {it : Addr} {fp : List Addr} {tn : Nat → Heap → Prop} {Q : VK} {E : Value → Shared → Prop} {RR : Value → Addr → Result → Shared → Prop}
    (B : BlkScope X scope N' js) (hc : X.calm = true)
    (hb : ∀ C fp s₀ H₀, PG (cxComp X scope N' C fp s₀ H₀) tg g ∧ PTs (cxComp X scope N' C fp s₀ H₀) ifs tt ∧ PE (cxComp X scope N' C fp s₀ H₀) elt te)
    (I2 : Inv X pins σ H2 s2) (T : Turn X.prog X.w X.K tg J fp it tn) (st2 : tn 0 s2.heap) (f2 : ∀ b ∈ fp, FpOk X pins H2 b) (h : tBlock J js g tt te σ H2 Q)
    (hR : ∀ D C s' H' m, Inv X pins σ H' s' → s'.heap.Ns C m → FpOk X pins H' C → Q (.ref D) H' → RR (.ref D) C (.ok .next) s') :
    wpAny (model X.prog X.w) X.A (newList []) (fun acc s₃ => wpAny (model X.prog X.w) X.A (newFunctionEnv scope X.env.globals (clOf scope.names X.env.cells) [] X.env.qual none .none (some X.env)) (fun cenv s₄ =>
      codeAny (model X.prog X.w) X.A (.compStart (.ListComp elt [⟨tg, iter, ifs, 0⟩] scope pos) 0 (.ref it) acc { cenv with scope := relabel scope X.env }) (RR acc cenv.locals) s₄) E s₃) E s2 := by
  have hD0 : H2 s2.heap.objs.size = none := I2.hok.fresh (Nat.le_refl _)
  obtain ⟨W, ⟨m0, w0⟩, turn⟩ := h s2.heap.objs.size hD0
  have I3 : Inv X pins σ (upd H2 s2.heap.objs.size (.lst [])) { s2 with heap := s2.heap.push { cls := .type "list", dict := none, data := .seq ([] : List Value).toArray } } :=
    I2.laid (t' := s2.toks) (fun b u e => Heap.get?_push_of_some _ e) (Nat.le_refl _) (show ObjOk X.prog X.w _ _ _ (.lst []) from ⟨Nat.zero_le _, [], 0, .nil, Heap.get?_push_size _ rfl⟩)
  refine wpAny_newObj_type (wpAny_newFunctionEnv B.nocell (by intro y hy; simp at hy) (fun h₁ hns₁ hsb₁ => ?_) B.kind)
  dsimp only at hns₁ hsb₁ ⊢
  generalize hs3 : ({ s2 with heap := s2.heap.push { cls := .type "list", dict := none, data := .seq ([] : List Value).toArray } } : Shared) = s3 at I3
  generalize hH3 : upd H2 s2.heap.objs.size (.lst []) = H3 at I3 w0
  generalize hD : s2.heap.objs.size = D at w0 turn hD0 hH3
  have e3 : s2.heap.push { cls := .type "list", dict := none, data := .seq ([] : List Value).toArray } = s3.heap := by rw [← hs3]
  have hDs : D < s3.heap.objs.size := by rw [← e3, Heap.size_push, hD]; exact Nat.lt_succ_self _
  rw [e3] at hns₁ hsb₁ ⊢
  have et : s2.toks = s3.toks := by rw [← hs3]
  generalize hC : s3.heap.objs.size = C at hns₁ hsb₁ ⊢
  -- all that stood is kept
  have kept : ∀ b o, s3.heap.get? b = some o → h₁.get? b = some o := fun b o e =>
    (hsb₁.2 b (by rw [← hC]; exact Nat.ne_of_lt (Heap.lt_size e))).trans (Heap.get?_push_of_some _ e)
  have hfn : ∀ x c, (clOf scope.names X.env.cells).lookup x = some c → X.env.cells.lookup x = some c := fun x c e => by
    rcases clOf_mem e with e | e
    · simp at e
    · exact e
  have okind : X.env.scope.kind = .function := I2.ok.kind
  have hcells : ∀ x, (x, NameKind.free) ∈ scope.names → ∃ c, X.env.cells.lookup x = some c := fun x hx =>
    I2.ok.has x (.inl (B.frees _ hx rfl))
  -- the iterator's objects are old
  have flt : ∀ b ∈ fp, b < s2.heap.objs.size := fun b hb => by
    obtain ⟨o, e, _⟩ := T.obj _ _ st2 b hb
    exact Heap.lt_size e
  have f3 : ∀ b ∈ fp, FpOk X pins H3 b := fun b hb => ⟨by rw [← hH3, upd_ne (by rw [← hD]; exact Nat.ne_of_lt (flt b hb))]; exact (f2 b hb).1, (f2 b hb).2⟩
  have flt3 : ∀ b ∈ fp, b < C := fun b hb => by
    rw [← hC, ← e3, Heap.size_push]; exact Nat.lt_succ_of_lt (flt b hb)
  let X' : Cx := cxComp X scope N' C fp s3 H3
  have Ok' : X'.Ok := by
    refine ⟨I3.ok.mod, B.kind, I3.ok.glob, I3.ok.blt, Nat.le_of_eq hC, fun x y c h1 h2 => I3.ok.inj x y c (hfn x c h1) (hfn y c h2), fun x hx => ?_, (fun x c z => nomatch z), fun _ => I3.ok.hd hc, I3.ok.frames, .inl rfl,
      fun b hb => ⟨Nat.ne_of_lt (flt3 b hb), fun x c e => (f3 b hb).2.2.2.2.1 x c (hfn x c e)⟩, I3.bs, Nat.le_trans I3.ok.bsz I3.sz, fun b o e hb => ?_, fun b hb hf => ?_, I3.stack, I3.stkFree⟩
    · have hx' : (x, NameKind.free) ∈ scope.names := relabel_inv B.nocell hx
      exact clOf_has hx' (hcells x hx')
    · obtain ⟨_, _, _, h4, _⟩ := f3 b hb
      rcases h4 with h4 | h4
      · exact I3.ok.noex b o e h4
      · exact absurd (Nat.lt_of_lt_of_le (Nat.lt_of_lt_of_le (Heap.lt_size e) I3.ok.bsz) h4) (Nat.lt_irrefl _)
    · rcases List.mem_cons.mp (I3.stkSub b hf) with z | z
      · exact (f3 b hb).2.1 z
      · exact (f3 b hb).2.2.1 z
  have hfreshC : H3 C = none := I3.hok.fresh (Nat.le_of_eq hC)
  have I4 : Inv X' [] (subSt js σ) H3 { s3 with heap := h₁, toks := s3.toks + ([] : List (Str × Value)).length } := by
    refine ⟨Ok', rfl, I3.bare, Un.kept kept, ⟨_, hns₁, fun i x v e1 e2 e3 => ?_⟩, fun x c e => ?_, hfreshC, fun x c e => I3.freeC x c (hfn x c e), fun p hp => absurd (show p ∈ ([] : List (Addr × Obj)) from hp) (by simp), I3.hok.kept kept, ?_⟩
    · -- a name from around
      have ej : ∃ j, js[i]? = some (some j) ∧ σ[j]? = some (some v) := by
        unfold subSt at e2
        rw [List.getElem?_map] at e2
        cases q : js[i]? with
        | none => rw [q] at e2; cases e2
        | some j =>
          rw [q] at e2
          cases j with
          | none => simp at e2
          | some j =>
            refine ⟨j, rfl, ?_⟩
            simp at e2
            cases q2 : σ[j]? with
            | none => rw [q2] at e2; simp at e2
            | some o => rw [q2] at e2; simp at e2; rw [e2]
      obtain ⟨j, q1, q2⟩ := ej
      obtain ⟨y, z1, z2, z3, z4⟩ := compOk_get B.ok q1
      have hy : y = x := by
        have e1' : N'[i]? = some x := e1
        rw [z1] at e1'; exact Option.some.inj e1'
      subst hy
      obtain ⟨m, hn, hl⟩ := I3.loc
      obtain ⟨u, r, l⟩ := hl j y v z2 q2 (.inr (.inl z3))
      refine ⟨u, r, .inr ?_⟩
      rcases l with ⟨k, _⟩ | ⟨k, c, ec, z⟩
      · have : X.env.kindOf y = some .cell := z3
        rw [this] at k; cases k
      · have hfree : (y, NameKind.free) ∈ scope.names := PySem.mem_of_lookup z4
        obtain ⟨c', ec'⟩ := clOf_has (cs := []) hfree ⟨c, ec⟩
        have : c' = c := by have := hfn y c' ec'; rw [ec] at this; exact (Option.some.inj this).symm
        subst this
        refine ⟨.inl (relabel_free z4 okind z3), c', ec', ?_⟩
        obtain ⟨o, ho, hd⟩ := z
        exact ⟨o, kept _ o ho, hd⟩
    · obtain ⟨v, o, ho, hd⟩ := I3.cell x c (hfn x c e)
      exact ⟨v, o, kept _ o ho, hd⟩
    · unfold subSt
      rw [List.length_map]
      exact (compOk_len B.ok).symm
  obtain ⟨hg, htt, hte⟩ := hb C fp s3 H3
  have stat : ∀ {H' : Hp}, (∀ b ∈ fp, H' b = none) → ∀ b ∈ fp, FpOk X' [] H' b := fun hn b hb =>
    ⟨hn b hb, Nat.ne_of_lt (flt3 b hb), fun z => by
      rcases List.mem_cons.mp (I3.stkSub b z) with z | z
      · exact (f3 b hb).2.1 z
      · exact (f3 b hb).2.2.1 z, .inl hb, fun x c e => (f3 b hb).2.2.2.2.1 x c (hfn x c e), fun p hp => absurd (show p ∈ ([] : List (Addr × Obj)) from hp) (by simp)⟩
  have st4 : tn 0 h₁ := T.keep _ _ _ st2 fun b hb o e => kept b o (by rw [← e3]; exact Heap.get?_push_of_some _ e)
  have loop : ∀ s₃ : Shared, s₃ = { s2 with heap := h₁, toks := s2.toks + ([] : List (Str × Value)).length } →
      codeAny (model X.prog X.w) X.A (.compLoop (.ListComp elt [⟨tg, iter, ifs, 0⟩] scope pos) 0 (.ref it) (.ref D) X'.env) (RR (.ref D) C) s₃ := by
    rintro s₃ rfl
    refine comp_loop (fun n s' => ∃ i σ' H', Inv X' [] σ' H' s' ∧ tn i s'.heap ∧ (∀ b ∈ fp, H' b = none) ∧ W i n σ' H') ?_ m0 ⟨0, subSt js σ, H3, ?_, st4, fun b hb => (f3 b hb).1, w0⟩
    · rintro n s5 ⟨i, σ5, H5, I5, st5, fr5, w5⟩
      rcases turn i n σ5 H5 w5 with ⟨stop, qn⟩ | ⟨go, N, hN, step⟩
      · refine thn (T.done X' rfl rfl rfl rfl i [] s5 σ5 H5 X'.xe I5 (stat fr5) st5 stop) fun r s6 ⟨hr, I6⟩ => ?_
        subst hr
        obtain ⟨m, hn6, _⟩ := I6.loc
        have Ib : Inv X pins σ H5 s6 := by
          exact I3.call' (ch := fp) I6.os I6.base I6.hok I6.bare fun b hb => ⟨(f3 b hb).2.2.2.1, (f3 b hb).2.1, (f3 b hb).2.2.2.2.1, (f3 b hb).2.2.2.2.2⟩
        refine hR D C s6 H5 m Ib hn6 ?_ qn
        have hC3 : s3.heap.objs.size ≤ C := Nat.le_of_eq hC
        exact I3.fpOk hC3 I6.free
      · refine thn (T.item X' rfl rfl rfl rfl i [] s5 σ5 H5 X'.xe I5 (stat fr5) st5 go) fun r s6 ⟨u, hr, h6⟩ => ?_
        subst hr
        refine thn h6 fun _ s7 ⟨x, H7, I7, r7, y7, st7, fr7⟩ => ?_
        have I7' := I7.pinned (stat fr7) (T.obj _ _ st7)
        refine thn (hg _ s7 σ5 H7 x u _ I7' r7 (step x H7 y7)) fun _ s8 ⟨σ8, H8, I8, q8⟩ => ?_
        have again : ∀ {σ9 : St} {H9 : Hp} {s9 : Shared}, Inv X' ([] ++ pinsAt fp s7.heap) σ9 H9 s9 → N σ9 H9 → ∃ m, m < n ∧ ∃ i σ' H', Inv X' [] σ' H' s9 ∧ tn i s9.heap ∧ (∀ b ∈ fp, H' b = none) ∧ W i m σ' H' := fun {σ9 H9 s9} I9 n9 => by
          obtain ⟨m', hm, w9⟩ := hN σ9 H9 n9
          refine ⟨m', hm, i + 1, σ9, H9, I9.unpinned, T.keep _ _ _ st7 fun b hb o e => (I9.pin (b, o) (List.mem_append_right _ (List.mem_append_right _ (mem_pinsAt hb e)))).1, fun b hb => ?_, w9⟩
          obtain ⟨o, e, d⟩ := T.obj _ _ st7 b hb
          exact (I9.pin (b, o) (List.mem_append_right _ (List.mem_append_right _ (mem_pinsAt hb e)))).2.1
        refine thn (htt _ s8 σ8 H8 _ I8 q8) fun ok s9 ⟨H9, I9, q9⟩ => ?_
        cases ok with
        | false => exact again I9 q9
        | true =>
          refine thn (hte _ s9 σ8 H9 _ I9 q9) fun v s10 ⟨y, H10, I10, ry, ys, hys, hlen, n10⟩ => ?_
          refine thn (mt_append (X := X') _ s10 σ8 H10 (.ref D) [y] (.ref D) [v] (fun z H' => N σ8 H') I10 rfl (.cons ry .nil) ⟨D, ys, y, rfl, rfl, hys, hlen, n10⟩) fun _ s11 ⟨_, H11, I11, _, n11⟩ => again I11 n11
    · have e : ({ s2 with heap := h₁, toks := s2.toks + ([] : List (Str × Value)).length } : Shared) = { s3 with heap := h₁, toks := s3.toks + ([] : List (Str × Value)).length } := by rw [← hs3]
      rw [e]
      exact I4
  exact codeAny_compStart_list (loop _ rfl) (T.self X.A 0 _ _ _ st4 (loop _ rfl))

/-- [elt for tg in iter if c] -/
theorem pe_comp {wi : TI} (B : BlkScope X scope N' js) (hc : X.calm = true) (hi : PI X tg iter wi)
    (hb : ∀ C fp s₀ H₀, PG (cxComp X scope N' C fp s₀ H₀) tg g ∧ PTs (cxComp X scope N' C fp s₀ H₀) ifs tt ∧ PE (cxComp X scope N' C fp s₀ H₀) elt te)
    (hs : ∀ x, foldedSetIterable iter X.env x = pure x := by intro _; rfl) : PE X (.ListComp elt [⟨tg, iter, ifs, 0⟩] scope pos) (tComp wi js g tt te) := by
  intro pins s σ H Q I h
  rw [eval_ListComp]
  have hcells : ∀ x, (x, NameKind.free) ∈ scope.names → ∃ c, X.env.cells.lookup x = some c := fun x hx => I.ok.has x (.inl (B.frees _ hx rfl))
  refine wpAny_comprehension_free (use := none) rfl hs (closure_of hcells) B.kind B.locs (thn (hi pins s σ H _ I h) fun v s1 h1 => thn h1 fun itv s2 h2 => ?_)
  obtain ⟨it, fp, tn, J, H2, e, I2, T, st2, f2, hR⟩ := h2
  subst e
  refine comp_core (RR := fun acc C => compPost (model X.prog X.w) X.A X.xe none (EP X pins σ Q) acc C) B hc hb I2 T st2 f2 hR ?_
  intro D C s' H' m I' hn hf q
  exact ⟨m, hn, fun h' hs' => ⟨.ref D, H', I'.gone hs' hf, rfl, q⟩⟩
/-- y = [elt for tg in iter if c] -/
theorem ps_setC {wi : TI} {i : Nat} {y : Str} {py spos : Pos} (B : BlkScope X scope N' js) (hc : X.calm = true) (hi : PI X tg iter wi)
    (hb : ∀ C fp s₀ H₀, PG (cxComp X scope N' C fp s₀ H₀) tg g ∧ PTs (cxComp X scope N' C fp s₀ H₀) ifs tt ∧ PE (cxComp X scope N' C fp s₀ H₀) elt te)
    (hN : X.N.Nodup) (hy : X.N[i]? = some y) (hx : Loc X.env.scope y)
    (hsw : swapsWith (.ListComp elt [⟨tg, iter, ifs, 0⟩] scope pos) (some (.Name y py)) spos.line X.env = pure true := by rfl)
    (hs : ∀ x, foldedSetIterable iter X.env x = pure x := by intro _; rfl) (hf : X.fn y = true ∨ X.env.scope.names.lookup y = some .local := by first | exact .inl rfl | exact .inr rfl) :
    PS X (.Assign [.Name y py] (.ListComp elt [⟨tg, iter, ifs, 0⟩] scope pos) spos) (tAsg (tComp wi js g tt te) (gName i)) := by
  intro pins s σ H D I h
  have hcells : ∀ x, (x, NameKind.free) ∈ scope.names → ∃ c, X.env.cells.lookup x = some c := fun x hx => I.ok.has x (.inl (B.frees _ hx rfl))
  rw [exec_Assign_Name_used _ _ _ _ hsw]
  refine wpAny_bind (wpAny_standAt (wpAny_bind ?_))
  show wpAny _ X.A (do let _ ← comprehension (.ListComp elt [⟨tg, iter, ifs, 0⟩] scope pos) scope X.env _ (newList []) false (eval iter X.env) (some (assign (.Name y py) X.env))) _ _ s
  refine wpAny_bind (wpAny_mono (wpAny_comprehension_free (use := some (assign (.Name y py) X.env)) (Q := fun _ s' => SP X pins D .next s') rfl hs (closure_of hcells) B.kind B.locs
    (thn (hi pins s σ H _ I h) fun v s1 h1 => thn h1 fun itv s2 h2 => ?_)) (fun _ s' hq => wpAny_pure (wpAny_pure hq)) fun _ _ e => e)
  obtain ⟨it, fp, tn, J, H2, e, I2, T, st2, f2, hR⟩ := h2
  subst e
  refine comp_core (RR := fun acc C => compPost (model X.prog X.w) X.A X.xe (some (assign (.Name y py) X.env)) (fun _ s' => SP X pins D .next s') acc C) B hc hb I2 T st2 f2 hR ?_
  intro L C s' H' m I' hn hfp q
  show wpAny _ X.A (assign (.Name y py) X.env (.ref L)) _ _ _
  refine wpAny_assign_Name (store_ok2 I' hN hy hx (show RelV (.ref L) (.ref L) from rfl) (fun s'' I'' ⟨a, hs'', ha⟩ => ?_) hf)
  have hCa : C ≠ a := by
    rcases ha with ha | ha
    · rw [ha]; exact hfp.2.1
    · exact (hfp.2.2.2.2.1 y a ha).symm
  exact ⟨m, hn.sameBut hs'' hCa, fun h' hs' => ⟨_, H', I''.gone hs' hfp, q⟩⟩
end
end L2


set_option Elab.async false
set_option linter.all false
set_option maxRecDepth 100000
set_option maxHeartbeats 4000000
namespace L2
open PySem PySem.Spec PyProof.Rows
/-! ### the heap grows: what stood stands, a dict may have been shut -/
def Ext (H H' : Hp) : Prop := ∀ b o, H b = some o → H' b = some o ∨ ((∃ kvs, o = .dK kvs) ∧ ∃ ob, H' b = some (.frz ob o))
section
variable {H H1 H2 : Hp} {a b l : Addr} {o : HO} {xs : List V} {K : PySem.W.Frag}
theorem Ext.refl (H : Hp) : Ext H H := fun _ _ h => .inl h
theorem Ext.trans (x : Ext H H1) (y : Ext H1 H2) : Ext H H2 := fun b o h => by
  rcases x b o h with h1 | ⟨⟨kvs, e⟩, ob, h1⟩
  · exact y b o h1
  · rcases y b _ h1 with h2 | ⟨⟨kvs', e'⟩, _⟩
    · exact .inr ⟨⟨kvs, e⟩, ob, h2⟩
    · cases e'
theorem Ext.keep (x : Ext H H1) (h : H b = some o) (hn : ∀ kvs, o ≠ .dK kvs) : H1 b = some o := by
  rcases x b o h with h1 | ⟨⟨kvs, e⟩, _⟩
  · exact h1
  · exact absurd e (hn kvs)
theorem Ext.lst (x : Ext H H1) (h : H b = some (.lst xs)) : H1 b = some (.lst xs) := x.keep h fun _ e => nomatch e
theorem Ext.tup (x : Ext H H1) (h : H b = some (.tup xs)) : H1 b = some (.tup xs) := x.keep h fun _ e => nomatch e
theorem Ext.ins {C dx : Addr} {fs : List (Str × V)} (x : Ext H H1) (h : H b = some (.ins C dx fs)) : H1 b = some (.ins C dx fs) := x.keep h fun _ e => nomatch e
theorem Ext.free (x : Ext H H1) (h : H1 l = none) : H l = none := by
  cases q : H l with
  | none => rfl
  | some o =>
    rcases x l o q with h1 | ⟨_, ob, h1⟩
    · rw [h] at h1; cases h1
    · rw [h] at h1; cases h1
theorem Ext.new (h : H l = none) : Ext H (upd H l o) := fun b u e => .inl (by rw [upd_ne (ne_of_none e h)]; exact e)
theorem Ext.newer (x : Ext H H1) (h : H1 l = none) : Ext H (upd H1 l o) := x.trans (Ext.new h)
/-- a store at an address that was not there ahead -/
theorem Ext.over (x : Ext H H1) (h : H l = none) : Ext H (upd H1 l o) := fun b u e => by
  rw [upd_ne (ne_of_none e h)]; exact x b u e
theorem Ext.sqL (x : Ext H H1) (h : SqL K H a xs) : SqL K H1 a xs := by
  rcases h with (h | ⟨ob, h⟩) | h
  · exact .inl (.inl (x.lst h))
  · exact .inl (.inr ⟨ob, x.keep h fun _ e => nomatch e⟩)
  · exact .inr h
theorem Ext.rdK {kvs : List (Key × V)} (x : Ext H H1) (h : Rd H a (.dK kvs)) : Rd H1 a (.dK kvs) := by
  rcases h with h | ⟨ob, h⟩
  · rcases x a _ h with h1 | ⟨_, ob, h1⟩
    · exact .inl h1
    · exact .inr ⟨ob, h1⟩
  · exact .inr ⟨ob, x.keep h fun _ e => nomatch e⟩
end

/-! ### what only grows the heap -/
def PureT (tt : TT) (σ : St) (H : Hp) (b : Bool) : Prop := ∀ Q : Bool → Hp → Prop, (∀ H', Ext H H' → Q b H') → tt σ H Q
def PureE (te : TE) (σ : St) (H : Hp) (Φ : V → Hp → Prop) : Prop := ∀ Q : VK, (∀ v H', Ext H H' → Φ v H' → Q v H') → te σ H Q

/-- all but lists and dicts stands as it stood -/
def Keep (H H' : Hp) : Prop := ∀ b o, H b = some o → (∀ xs, o ≠ .lst xs) → (∀ kvs, o ≠ .dK kvs) → H' b = some o
theorem Ext.kp {H H' : Hp} (x : Ext H H') : Keep H H' := fun _ _ h _ hn => x.keep h hn
theorem Keep.over {H : Hp} {D : Addr} {ys zs : List V} (h : H D = some (.lst ys)) : Keep H (upd H D (.lst zs)) := fun b o e hl _ => by
  have : b ≠ D := fun z => by subst z; rw [h] at e; cases e; exact hl _ rfl
  rw [upd_ne this]; exact e
theorem Paired.imp2 {α β : Type} {F G : α → β → Prop} (h : ∀ a b, F a b → G a b) : ∀ {xs : List α} {ys : List β}, Paired F xs ys → Paired G xs ys
  | _, _, .nil => .nil
  | _, _, .cons r t => .cons (h _ _ r) (Paired.imp2 h t)
/-- a block over things known by their number, each element pure: p the test, Φ the element -/
theorem block_pure {J : It} {n : Nat} {f : Nat → V} {tt : TT} {te : TE} {σ : St} {H1 : Hp} {Q : VK} {j0 : Option Nat} {jr : List (Option Nat)} (hn : n ≤ sizeLine)
    (hgo : ∀ i H', Ext H1 H' → i < n → J.go i H') (hyl : ∀ i H' x H2, Ext H1 H' → i < n → J.yld i H' x H2 → x = f i ∧ H2 = H') (hst : ∀ H', Ext H1 H' → J.stop n H')
    (p : Nat → Bool) (Φ : Nat → V → Hp → Prop) (hm : ∀ i v H' H2, Keep H' H2 → Φ i v H' → Φ i v H2)
    (htt : ∀ i H', Ext H1 H' → i < n → PureT tt (some (f i) :: subSt jr σ) H' (p i))
    (hte : ∀ i H', Ext H1 H' → i < n → p i = true → PureE te (some (f i) :: subSt jr σ) H' (Φ i))
    (hQ : ∀ D H' ys, H1 D = none → Ext H1 H' → H' D = some (.lst ys) → Paired (fun i y => Φ i y H') ((List.range n).filter p) ys → Q (.ref D) H') :
    tBlock J (j0 :: jr) (gName 0) tt te σ H1 Q := by
  intro D hD
  refine ⟨fun i m σ' H' => m = n - i ∧ i ≤ n ∧ (∃ y, σ' = y :: subSt jr σ) ∧ Ext H1 H' ∧ ∃ ys, H' D = some (.lst ys) ∧ Paired (fun i y => Φ i y H') ((List.range i).filter p) ys,
    ⟨n, by simp, Nat.zero_le _, ⟨_, rfl⟩, Ext.new hD, [], upd_same, .nil⟩, ?_⟩
  rintro i m σ' H' ⟨rfl, hi, ⟨y, rfl⟩, x, ys, hys, hp⟩
  by_cases hlt : i < n
  · refine .inr ⟨hgo i H' x hlt, fun σ2 H2 => (∃ y, σ2 = y :: subSt jr σ) ∧ Ext H1 H2 ∧ ∃ ys, H2 D = some (.lst ys) ∧ Paired (fun i y => Φ i y H2) ((List.range (i + 1)).filter p) ys, fun σ2 H2 h => ⟨n - (i + 1), by omega, rfl, hlt, h⟩, ?_⟩
    intro v H2 hy
    obtain ⟨rfl, rfl⟩ := hyl i H' v H2 x hlt hy
    refine htt i _ x hlt _ fun H4 x4 => ?_
    have er : (List.range (i + 1)).filter p = (List.range i).filter p ++ (if p i then [i] else []) := by
      rw [List.range_succ, List.filter_append]
      cases hpi : p i <;> simp [hpi]
    cases hpi : p i with
    | false =>
      rw [if_neg (by decide)]
      refine ⟨⟨_, rfl⟩, x.trans x4, ys, x4.lst hys, ?_⟩
      rw [er, hpi]
      simpa using Paired.imp2 (fun i y h => hm i y _ _ x4.kp h) hp
    | true =>
      rw [if_pos rfl]
      refine hte i _ (x.trans x4) hlt hpi _ fun w H5 x5 hw => ?_
      have hy5 := x5.lst (x4.lst hys)
      have hlen : ys.length = ((List.range i).filter p).length := hp.length.symm
      have hle : ((List.range i).filter p).length ≤ i := Nat.le_trans (List.length_filter_le _ _) (by simp)
      refine ⟨ys, hy5, by omega, ⟨_, rfl⟩, Ext.over ((x.trans x4).trans x5) hD, ys ++ [w], upd_same, ?_⟩
      rw [er, hpi]
      have k := Keep.over (zs := ys ++ [w]) hy5
      exact Paired.snoc (Paired.imp2 (fun i y h => hm i y _ _ k (hm i y _ _ (x4.trans x5).kp h)) hp) (hm i w _ _ k hw)
  · have e : i = n := by omega
    subst e
    exact .inl ⟨hst H' x, hQ D H' ys hD x hys hp⟩
/-- .. over a list -/
theorem block_list {K : PySem.W.Frag} {a : Addr} {xs : List V} {tt : TT} {te : TE} {σ : St} {H1 : Hp} {Q : VK} {j0 : Option Nat} {jr : List (Option Nat)} (hS : SqL K H1 a xs) (hn : xs.length ≤ sizeLine)
    (p : V → Bool) (Φ : V → V → Hp → Prop) (hm : ∀ x v H' H2, Keep H' H2 → Φ x v H' → Φ x v H2)
    (htt : ∀ x H', x ∈ xs → Ext H1 H' → PureT tt (some x :: subSt jr σ) H' (p x))
    (hte : ∀ x H', x ∈ xs → Ext H1 H' → p x = true → PureE te (some x :: subSt jr σ) H' (Φ x))
    (hQ : ∀ D H' ys, H1 D = none → Ext H1 H' → H' D = some (.lst ys) → Paired (fun x y => Φ x y H') (xs.filter p) ys → Q (.ref D) H') :
    tBlock (Itl K a) (j0 :: jr) (gName 0) tt te σ H1 Q := by
  have get : ∀ i, i < xs.length → ∃ x, xs[i]? = some x ∧ x ∈ xs ∧ xs.getD i .non = x := fun i hi => ⟨xs[i], by simp [hi], by simp, by simp [hi]⟩
  refine block_pure (n := xs.length) (f := fun i => xs.getD i .non) hn (fun i H' x hi => ?_) (fun i H' v H2 x hi hy => ?_) (fun H' x => ⟨xs, x.sqL hS, Nat.le_refl _⟩) (fun i => p (xs.getD i .non)) (fun i => Φ (xs.getD i .non)) (fun i => hm _) (fun i H' x hi => ?_) (fun i H' x hi hp => ?_) (fun D H' ys h1 h2 h3 h4 => hQ D H' ys h1 h2 h3 ?_)
  · obtain ⟨v, e, _⟩ := get i hi
    exact ⟨xs, v, x.sqL hS, e⟩
  · obtain ⟨v', e, _, e'⟩ := get i hi
    obtain ⟨h1, h2⟩ := hy
    have := h2 xs (x.sqL hS)
    rw [e] at this
    exact ⟨by rw [e']; exact (Option.some.inj this).symm, h1⟩
  · obtain ⟨v, e, hv, e'⟩ := get i hi
    rw [e']; exact htt v H' hv x
  · obtain ⟨v, e, hv, e'⟩ := get i hi
    rw [e'] at hp ⊢; exact hte v H' hv x hp
  · have e1 : xs = (List.range xs.length).map fun i => xs.getD i .non := by
      apply List.ext_getElem
      · simp
      · intro i h1 h2
        simp [List.getElem?_eq_getElem h1]
    have e2 : xs.filter p = ((List.range xs.length).filter fun i => p (xs.getD i .non)).map fun i => xs.getD i .non := by
      conv => lhs; rw [e1]
      rw [List.filter_map]
      rfl
    rw [e2]
    have : ∀ {is : List Nat} {ys : List V}, Paired (fun i y => Φ (xs.getD i .non) y H') is ys → Paired (fun x y => Φ x y H') (is.map fun i => xs.getD i .non) ys := by
      intro is ys h
      induction h with
      | nil => exact .nil
      | cons r _ ih => exact .cons r ih
    exact this h4
/-- .. by a function -/
theorem block_map {K : PySem.W.Frag} {a : Addr} {xs : List V} {tt : TT} {te : TE} {σ : St} {H1 : Hp} {Q : VK} {j0 : Option Nat} {jr : List (Option Nat)} (hS : SqL K H1 a xs) (hn : xs.length ≤ sizeLine)
    (p : V → Bool) (f : V → V)
    (htt : ∀ x H', x ∈ xs → Ext H1 H' → PureT tt (some x :: subSt jr σ) H' (p x))
    (hte : ∀ x H', x ∈ xs → Ext H1 H' → p x = true → PureE te (some x :: subSt jr σ) H' (fun v _ => v = f x))
    (hQ : ∀ D H', H1 D = none → Ext H1 H' → H' D = some (.lst ((xs.filter p).map f)) → Q (.ref D) H') :
    tBlock (Itl K a) (j0 :: jr) (gName 0) tt te σ H1 Q := by
  refine block_list hS hn p (fun x v _ => v = f x) (fun _ _ _ _ _ h => h) htt hte fun D H' ys h1 h2 h3 h4 => hQ D H' h1 h2 ?_
  have : ∀ {as : List V} {ys : List V}, Paired (fun x y => y = f x) as ys → ys = as.map f := by
    intro as ys h
    induction h with
    | nil => rfl
    | cons r _ ih => rw [r, ih]; rfl
  rw [h3, this h4]
/-- .. without a test -/
theorem block_map1 {K : PySem.W.Frag} {a : Addr} {xs : List V} {te : TE} {σ : St} {H1 : Hp} {Q : VK} {j0 : Option Nat} {jr : List (Option Nat)} (hS : SqL K H1 a xs) (hn : xs.length ≤ sizeLine) (f : V → V)
    (hte : ∀ x H', x ∈ xs → Ext H1 H' → PureE te (some x :: subSt jr σ) H' (fun v _ => v = f x))
    (hQ : ∀ D H', H1 D = none → Ext H1 H' → H' D = some (.lst (xs.map f)) → Q (.ref D) H') :
    tBlock (Itl K a) (j0 :: jr) (gName 0) tYes te σ H1 Q :=
  block_map hS hn (fun _ => true) f (fun _ H' _ _ Q h => h H' (Ext.refl _)) (fun x H' hx x1 _ => hte x H' hx x1) fun D H' h1 h2 h3 => hQ D H' h1 h2 (by rw [List.filter_eq_self.mpr (fun _ _ => rfl)] at h3; exact h3)
end L2


set_option Elab.async false
set_option linter.all false
set_option maxRecDepth 100000
set_option maxHeartbeats 4000000
namespace L2
open PySem PySem.Spec PyProof.Rows
/-! ### a walk over a dict's keys: the dict is shut meanwhile -/
section
variable {X : Cx} {pins : List (Addr × Obj)} {σ : St} {H : Hp} {s : Shared} {a : Addr} {kvs : List (Key × V)}
theorem Inv.shut {o : Obj} (I : Inv X pins σ H s) (h : H a = some (.dK kvs)) (e : s.heap.get? a = some o) : Inv X pins σ (upd H a (.frz o (.dK kvs))) s := by
  have hne : ∀ b u, H b = some u → (∀ kvs, u ≠ .dK kvs) → b ≠ a := fun b u q hn z => by subst z; rw [h] at q; cases q; exact hn _ rfl
  have un : Un X.fs [] H (upd H a (.frz o (.dK kvs))) s.heap s.heap :=
    ⟨fun b ob q _ _ _ => q, fun b ob q _ _ _ => ⟨ob.slots, q⟩, fun b ob q n _ => by rw [upd_ne (fun z => by subst z; rw [h] at n; cases n)]; exact n, fun b ob q _ => ⟨ob, q⟩,
      fun b xs q => by rw [upd_ne (hne b _ q fun _ z => nomatch z)]; exact q, fun b ob u q => by rw [upd_ne (hne b _ q fun _ z => nomatch z)]; exact q,
      fun b ps q => ⟨#[], by rw [upd_ne (hne b _ q fun _ z => nomatch z), q]; simp⟩⟩
  have hok : HOk X.prog X.w (upd H a (.frz o (.dK kvs))) s.heap := fun b u q => by
    have stay : ∀ {b u}, ObjOk X.prog X.w H s.heap b u → ObjOk X.prog X.w (upd H a (.frz o (.dK kvs))) s.heap b u := fun z =>
      z.stay (fun _ _ _ q => q) (fun c q => by rw [upd_ne (hne c _ q fun _ z => nomatch z)]; exact q) fun c xs q => by rw [upd_ne (hne c _ q fun _ z => nomatch z)]; exact q
    by_cases hb : b = a
    · subst hb
      rw [upd_same] at q
      cases q
      exact ⟨e, stay (I.hok _ _ h)⟩
    · rw [upd_ne hb] at q
      exact stay (I.hok b u q)
  exact I.un (h' := s.heap) (t' := s.toks) un hok

theorem key_rel {k : Key} {u : Value} (h : (mixKind X.prog X.w).is k u = true) : RelV (kV k) u := by
  rw [mixKind_is] at h
  rcases keyIs_shape h with ⟨i, t, rfl, rfl⟩ | ⟨x, t, rfl, rfl⟩
  · exact ⟨t, rfl⟩
  · exact ⟨t, rfl⟩
def Itd (a : Addr) (o : Obj) (kvs : List (Key × V)) : It :=
  ⟨fun i H => i < kvs.length ∧ H a = some (.frz o (.dK kvs)), fun i H x H' => H' = H ∧ ∃ p, kvs[i]? = some p ∧ x = kV p.1, fun i H => kvs.length ≤ i ∧ H a = some (.frz o (.dK kvs))⟩
theorem KV.get {κ : Type} : ∀ {kvs : List (κ × V)} {vs : List (κ × Value)} {i : Nat} {p : κ × V}, KV kvs vs → kvs[i]? = some p → ∃ u, vs[i]? = some (p.1, u) ∧ RelV p.2 u
  | _, _, _, _, .nil, e => by simp at e
  | _, (k, u) :: _, 0, _, .cons r _, e => by simp at e; subst e; exact ⟨u, by simp [r.1], r.2⟩
  | _, _, i + 1, p, .cons _ t, e => by
    obtain ⟨u, h1, h2⟩ := KV.get (i := i) (p := p) t (by simpa using e)
    exact ⟨u, by simpa using h1, h2⟩
theorem turn_dict {P : Program} {w : World} {K : PySem.W.Frag} {tg : Expr} {o : Obj} {es : Array DictEntry} {ep : Nat} (a it : Addr) (ho : o.data = .dict es ep) :
    Turn P w K tg (Itd a o kvs) [it] it (fun i h => h.IsKeyIter it a i kvs.length ep) where
  mem := by simp
  obj := fun i h st b hb => by
    have e : b = it := by simpa using hb
    subst e
    obtain ⟨ob, e, c, d⟩ := st
    exact ⟨ob, e, fun v z => by rw [d] at z; cases z⟩
  keep := fun i h h' st k => st.at fun o e => k it (by simp) o e
  item := by
    intro X hP hw hK hc i pins s σ H E I hf st hg
    subst hP hw hK
    obtain ⟨hi, hH⟩ := hg
    obtain ⟨eo, hz, hs, vs, kv, od⟩ := I.hok a _ hH
    have hl : kvs.length = vs.length := Paired.length kv
    obtain ⟨ob, es', ep', e', ex, d', r⟩ := id od
    rw [eo] at e'; cases e'
    rw [ho] at d'; cases d'
    have at' : s.heap.DictAt (mixKind X.prog X.w) a vs ep := ⟨o, es, eo, ex, ho, r⟩
    obtain ⟨p, hp⟩ : ∃ p, kvs[i]? = some p := ⟨kvs[i], by simp [hi]⟩
    obtain ⟨u, hu, ru⟩ := KV.get kv hp
    obtain ⟨f0, f1, f2, f3, f4, f5⟩ := hf it (by simp)
    refine wpAny_pyNext_dict_item (hl ▸ st) at' hu fun key h' hkey st' sb => ?_
    have I1 : Inv X pins σ H { s with heap := h' } := I.turned (t' := s.toks) (fun b o hb e => (sb.2 b hb).trans e) f0 f1 f3 f4 f5
    obtain ⟨ob, e, c, d⟩ := id st'
    exact ⟨key, rfl, go_of (s := { s with heap := h' }) e c d (by decide) ⟨kV p.1, H, I1, key_rel hkey, ⟨rfl, p, hp, rfl⟩, hl ▸ st', fun b hb => (hf b hb).1⟩⟩
  done := by
    intro X hP hw hK hc i pins s σ H E I hf st hg
    subst hP hw hK
    obtain ⟨hi, hH⟩ := hg
    obtain ⟨eo, hz, hs, vs, kv, od⟩ := I.hok a _ hH
    have hl : kvs.length = vs.length := Paired.length kv
    obtain ⟨ob, es', ep', e', ex, d', r⟩ := id od
    rw [eo] at e'; cases e'
    rw [ho] at d'; cases d'
    have at' : s.heap.DictAt (mixKind X.prog X.w) a vs ep := ⟨o, es, eo, ex, ho, r⟩
    obtain ⟨f0, f1, f2, f3, f4, f5⟩ := hf it (by simp)
    exact wpAny_pyNext_dict_end (I.ok.hd hc) (hl ▸ st) at' (by simp; omega) fun h' eb => ⟨rfl, I.turned (t' := s.toks) (fun b o hb e => eb b o hb e) f0 f1 f3 f4 f5⟩
  self := fun _ _ _ _ _ st h => wpAny_pyIter_keyiter st h
def iDict (tl : TE) : TI := fun σ H R => tl σ H fun x H1 => ∃ a kvs, x = .ref a ∧ Rd H1 a (.dK kvs) ∧ ∀ o H2, Ext H1 H2 → H2 a = some (.frz o (.dK kvs)) → (∀ b, b ≠ a → H2 b = H1 b) → R (Itd a o kvs) H2
theorem pi_dict {l tg : Expr} {tl : TE} (hl : PE X l tl) : PI X tg l (iDict tl) := by
  intro pins s σ H R I h
  refine thn (hl pins s σ H _ I h) fun v s1 ⟨x, H1, I1, r1, q1⟩ => ?_
  obtain ⟨a, kvs, e, rd, q⟩ := q1
  subst e
  cases r1
  have ⟨o, H2, I2, hH2, x2, ne2⟩ : ∃ o H2, Inv X pins σ H2 s1 ∧ H2 a = some (.frz o (.dK kvs)) ∧ Ext H1 H2 ∧ ∀ b, b ≠ a → H2 b = H1 b := by
    rcases rd with h | ⟨o, h⟩
    · obtain ⟨_, _, _, _, o, _, _, e, _⟩ := I1.hok a _ h
      refine ⟨o, _, I1.shut h e, upd_same, fun b u q2 => ?_, fun b hb => upd_ne hb⟩
      by_cases hb : b = a
      · subst hb
        rw [h] at q2
        cases q2
        exact .inr ⟨⟨_, rfl⟩, o, upd_same⟩
      · exact .inl (by rw [upd_ne hb]; exact q2)
    · exact ⟨o, H1, I1, h, Ext.refl _, fun _ _ => rfl⟩
  obtain ⟨eo, hz, hs, vs, kv, od⟩ := I2.hok a _ hH2
  have hll : kvs.length = vs.length := Paired.length kv
  obtain ⟨ob, es, ep, e', ex, d', r⟩ := id od
  rw [eo] at e'; cases e'
  have at' : s1.heap.DictAt (mixKind X.prog X.w) a vs ep := ⟨o, es, eo, ex, d', r⟩
  refine wpAny_pyIter_dict hs at' ?_
  refine ⟨s1.heap.objs.size, [s1.heap.objs.size], _, _, H2, rfl, I2.kept (t' := s1.toks) fun b o e => Heap.get?_push_of_some _ e, turn_dict (es := es) (ep := ep) a _ d', ?_, fun b hb => ?_, q o H2 x2 hH2 ne2⟩
  · rw [hll]
    exact ⟨_, Heap.get?_push_size _ rfl, rfl, rfl⟩
  · have e : b = s1.heap.objs.size := by simpa using hb
    subst e
    exact I2.fpOk (Nat.le_refl _) (I2.hok.fresh (Nat.le_refl _))
end
end L2


set_option Elab.async false
set_option linter.all false
set_option maxRecDepth 100000
set_option maxHeartbeats 4000000
namespace L2
open PySem PySem.Spec PyProof.Rows Tw
/-! ### slices of texts -/
def cutL {α : Type} (xs : List α) (lo hi : Option Int) : List α := (xs.drop (HT.sIx xs.length 0 lo)).take (HT.sIx xs.length xs.length hi - HT.sIx xs.length 0 lo)
theorem cutL_length {α : Type} (xs : List α) (lo hi : Option Int) : (cutL xs lo hi).length ≤ xs.length := by
  unfold cutL; rw [List.length_take, List.length_drop]; omega
theorem cutV_cutL (xs : List V) (lo hi : Option Int) : cutV xs lo hi = cutL xs lo hi := rfl
theorem filterMap_run {α : Type} : ∀ (xs : List α) (a n : Nat), ((List.range n).map fun k => a + k).filterMap (fun i => xs[i]?) = (xs.drop a).take n := by
  intro xs a n
  induction n generalizing a with
  | zero => simp
  | succ n ih =>
    rw [List.range_succ_eq_map, List.map_cons, List.filterMap_cons, List.map_map]
    have e : ((List.range n).map ((fun k => a + k) ∘ Nat.succ)) = (List.range n).map fun k => (a + 1) + k := by
      apply List.map_congr_left; intro k _; simp; omega
    rw [e, ih (a + 1), Nat.add_zero]
    cases h : xs[a]? with
    | none =>
      have := List.getElem?_eq_none_iff.mp h
      rw [List.drop_of_length_le this, List.drop_of_length_le (by omega)]
      simp
    | some x =>
      obtain ⟨h1, h2⟩ := List.getElem?_eq_some_iff.mp h
      rw [List.drop_eq_getElem_cons h1, List.take_succ_cons, h2]
theorem strIdx (lo hi : Option Int) (n : Nat) : Builtin.Str.strSliceIndices lo hi 1 n = (List.range (HT.sIx n n hi - HT.sIx n 0 lo)).map fun k => HT.sIx n 0 lo + k := by
  obtain ⟨h1, h2, h3⟩ := slice_bounds lo hi n
  have e : Builtin.Str.strSliceIndices lo hi 1 n = sliceRange (sliceBounds lo hi none n).1 (sliceBounds lo hi none n).2.1 (sliceBounds lo hi none n).2.2 := rfl
  rw [e, h1, h2, h3]
  unfold sliceRange
  simp only [show (1 : Int) > 0 by decide, if_true]
  have e2 : ((if ((HT.sIx n 0 lo : Nat) : Int) < ((HT.sIx n n hi : Nat) : Int) then (((HT.sIx n n hi : Nat) : Int) - ((HT.sIx n 0 lo : Nat) : Int) + 1 - 1) / 1 else 0 : Int)).toNat = HT.sIx n n hi - HT.sIx n 0 lo := by
    split <;> simp <;> omega
  rw [e2]
  apply List.map_congr_left
  intro k _
  omega
def IsPart.opt {v : Value} {o : Option Int} (p : IsPart v o) : ∃ q : Option (Int × Tok), v = partValue q ∧ q.map (·.1) = o := by
  cases p with
  | none => exact ⟨none, rfl, rfl⟩
  | int i t => exact ⟨some (i, t), rfl, rfl⟩
def rSlS : V → Option Int → Option Int → Hp → VK → Prop := fun x lo hi H Q => ∃ a, x = sv a ∧ a.length ≤ sizeLine ∧ Q (sv (cutL a lo hi)) H
section
variable {X : Cx}
theorem sl_str : SlR X rSlS := by
  intro pins s σ H x v vl vu lo hi sl Q I rx hs pl pu h
  obtain ⟨a, rfl, hz, q⟩ := h
  obtain ⟨t, rfl⟩ := rx
  obtain ⟨ql, rfl, el⟩ := IsPart.opt pl
  obtain ⟨qu, rfl, eu⟩ := IsPart.opt pu
  refine ⟨"str", _, PySem.F.slot_str_getitem.lookup, typeIs_str s _ t, ?_⟩
  refine wpAny_getItem_str_slice (l := ql) (u := qu) (st := none) hs rfl ?_
  have hp : ((slicePicked (st a) ql qu none).filterMap ((st a).cps[·]?)) = cutL a lo hi := by
    unfold slicePicked
    rw [el, eu, st_len]
    show (Builtin.Str.strSliceIndices lo hi 1 a.length).filterMap _ = _
    rw [strIdx]
    have : (fun i : Nat => (st a).cps[i]?) = fun i : Nat => a[i]? := by funext i; show (a.toArray)[i]? = a[i]?; simp
    rw [this, filterMap_run]
    rfl
  unfold sliceMade
  split
  · rename_i hc
    have hl : (slicePicked (st a) ql qu none).length = a.length := by
      have := (Bool.and_eq_true _ _ ▸ hc).2
      rw [st_len] at this
      simpa using this
    have hfull : cutL a lo hi = a := by
      have e : (slicePicked (st a) ql qu none).length = HT.sIx a.length a.length hi - HT.sIx a.length 0 lo := by
        unfold slicePicked
        rw [el, eu, st_len]
        show (Builtin.Str.strSliceIndices lo hi 1 a.length).length = _
        rw [strIdx, List.length_map, List.length_range]
      have h1 := HT.sIx_le a.length a.length (Nat.le_refl _) hi
      unfold cutL
      have h0 : HT.sIx a.length 0 lo = 0 ∨ a.length = 0 := by omega
      rcases h0 with h0 | h0
      · rw [h0, List.drop_zero, List.take_of_length_le (by omega)]
      · have : a = [] := List.eq_nil_of_length_eq_zero h0
        subst this; simp
    rw [hfull] at q
    exact ⟨sv a, H, I, ⟨t, rfl⟩, q⟩
  · show Made.post (.str ⟨_⟩) _ _
    rw [hp]
    exact ⟨by rw [show (⟨(cutL a lo hi).toArray⟩ : Str) = st (cutL a lo hi) from rfl, st_len]; exact Nat.le_trans (cutL_length a lo hi) hz, sv (cutL a lo hi), H, I.tok _, ⟨_, rfl⟩, q⟩

/-! ### == of lists of ints, of texts -/
def rEqLI (K : PySem.W.Frag) (neg : Bool) : R2 := fun x y H Q => ∃ (p q : Addr) (ns ms : List Int), x = .ref p ∧ y = .ref q ∧ SqL K H p (ns.map V.int) ∧ SqL K H q (ms.map V.int) ∧ Q (.bl (if neg then !decide (ns = ms) else decide (ns = ms))) H
theorem op_eqLI (hu : X.A.units + 64 < cLine) : OpR X (compareOp .Eq) (rEqLI X.K false) := by
  intro pins s σ H x y v u Q I rx ry h
  obtain ⟨p, q, ns, ms, rfl, rfl, hp, hq, k⟩ := h
  cases rx
  cases ry
  obtain ⟨its, r, pl, _⟩ := I.list hp
  obtain ⟨its', r', pl', _⟩ := I.list hq
  exact PySem.W.ke_eq_ints pl.isList pl'.isList (intsAre_of r) (intsAre_of r') hu ⟨.bl _, H, I, rfl, k⟩
theorem op_neLI (hu : X.A.units + 64 < cLine) : OpR X (compareOp .NotEq) (rEqLI X.K true) := by
  intro pins s σ H x y v u Q I rx ry h
  obtain ⟨p, q, ns, ms, rfl, rfl, hp, hq, k⟩ := h
  cases rx
  cases ry
  obtain ⟨its, r, pl, _⟩ := I.list hp
  obtain ⟨its', r', pl', _⟩ := I.list hq
  exact PySem.W.ke_ne_ints pl.isList pl'.isList (intsAre_of r) (intsAre_of r') hu ⟨.bl _, H, I, rfl, k⟩
/-! ### sorted, of fewer than 64 -/
end
end L2


set_option Elab.async false
set_option linter.all false
set_option maxRecDepth 100000
set_option maxHeartbeats 4000000
namespace PySem
open PySem.Calls
theorem keys_no_list : typeLookup (.type "list") "keys" = pure none := by rw [typeLookup_type, builtinLookup_eq_fast]; kernel_rfl
theorem list_no_keys {prog : Program} {w : World} {A : Around} {E : Value → Shared → Prop} {s : Shared} {a : Addr} {o : Obj} {xs : Array Value} {k : Nat} {Q : Option Value → Shared → Prop}
    (ho : s.heap.get? a = some o) (oc : o.cls = .type "list") (od : o.data = .seq xs k) (on : o.dict = none) (hA : A.handled = none)
    (end' : ∀ h' tk e, Heap.NewExcOf s.heap h' e "AttributeError" → Q none { s with heap := h', toks := tk }) :
    wpAny (model prog w) A (getAttr? (.ref a) "keys") Q E s := by
  obtain ⟨c, dct, dat, sl⟩ := o
  simp only at oc od on
  subst oc od on
  obtain ⟨hp, g, d, tk, os⟩ := s
  have isL : ∀ tk', (⟨hp, g, d, tk', os⟩ : Shared).TypeIs (.ref a) "list" := fun _ => ⟨_, ho, rfl⟩
  have e1 := sub_AttributeError
  have e3 := F.slot_list_getattribute.lookup
  have e4 := F.slot_list_getattribute.bind (.ref a)
  have e5 := am_list_getattr_none
  unfold getAttr? getAttrBy? getAttrBy
  repeat (any_goals (first | assumption | exact isL _ | ((with_reducible show wpAny _ _ (call (Value.builtin "list.__getattribute__") _ _) _ _ _); refine call_meets F.slot_list_getattribute (isL _) am_entry_list_getattribute (F.args_list_getattribute_2 _ _) (meets_getattribute_miss_list a xs k sl "keys" _ keys_no_list (by decide +kernel) (by decide +kernel)) ⟨ho, hA, fun h' tk' e ne => ?_⟩) | wp_step))
  obtain ⟨t1, u1, at1⟩ := ne.there
  show wpAny _ A (getattributeRaised _ _ _ _ _ _ _) _ _ _
  unfold getattributeRaised
  repeat (any_goals (first | assumption | wp_step))
  exact end' _ _ _ ne.of

theorem upd_loop_entry : entryFor table "dict.update.loop" = some Builtin.«dict.update.loop» := entryFor_of_tree (by kernel_rfl)
theorem upd_loop_plain : plainId "dict.update.loop" = true := by decide +kernel
section
variable {prog : Program} {w : World} {K : Type} [DecidableEq K] {knd : KeyKind prog w K} {A : Around} {R : Result → Shared → Prop}
/-- the pairs of a list of 2-tuples go into a dict, one by one -/
theorem pairs_loop {I l d : Addr} {items : Array Value} (hA : A.handled = none) (n1 : l ≠ I) (n2 : d ≠ I) (n3 : l ≠ d) : ∀ (k i : Nat) (s : Shared) (acc ps : List (K × Value)) (tk0 : Tok), items.size - i = k → i ≤ items.size →
    s.heap.IsListIter I l i → s.heap.IsList l items → s.heap.DictOf knd d acc → ps.length = k → acc.length + ps.length ≤ sizeLine →
    (∀ j p, ps[j]? = some p → ∃ t key, items[i + j]? = some (.ref t) ∧ t ≠ I ∧ t ≠ d ∧ s.heap.IsTuple t #[key, p.2] ∧ knd.is p.1 key = true) →
    (∀ h' tk, h'.DictOf knd d (merged acc ps) → (∀ b o, b ≠ I → b ≠ d → s.heap.get? b = some o → h'.get? b = some o) → R (.ok (.ret .none)) { s with heap := h', toks := tk }) →
    codeAny (model prog w) A (.builtin "dict.update.loop" ⟨[.ref d, .ref I, .int i tk0, .none], []⟩) R s := by
  intro k
  induction k with
  | zero =>
    intro i s acc ps tk0 hk hi it il dd hl hz hps hR
    have hps0 : ps = [] := List.eq_nil_of_length_eq_zero hl
    subst hps0
    refine codeAny_builtin upd_loop_entry ?_
    rw [Around.under_plainId upd_loop_plain _]
    show wpAny _ A.in1 (pyNext (.ref I) >>= _) _ _ s
    refine wpAny_bind (wpAny_pyNext_list_end hA it il (by simp; omega) fun h' eb => ?_)
    refine wpAny_bind (wpAny_pure (wpAny_pure ?_))
    exact hR h' s.toks (dd.extBut eb n2) fun b o h1 _ e => eb b o h1 e
  | succ k ih =>
    intro i s acc ps tk0 hk hi it il dd hl hz hps hR
    cases ps with
    | nil => simp at hl
    | cons p ps =>
      obtain ⟨t, key, e1, e2, e3, e4, e5⟩ := hps 0 p rfl
      refine codeAny_builtin upd_loop_entry ?_
      rw [Around.under_plainId upd_loop_plain _]
      show wpAny _ A.in1 (pyNext (.ref I) >>= _) _ _ s
      refine wpAny_bind (wpAny_pyNext_list_item it il (by simpa using e1) fun h1 it1 sb1 => ?_)
      have tup1 : h1.IsTuple t #[key, p.2] := by
        obtain ⟨o, ho, r⟩ := e4
        exact ⟨o, (sb1.2 t e2).trans ho, r⟩
      obtain ⟨ot, hot, hct, nt, hdt⟩ := id tup1
      have isT : ({ s with heap := h1 } : Shared).TypeIs (.ref t) "tuple" := ⟨ot, hot, hct⟩
      refine wpAny_bind (wpAny_holding (wpAny_bind ?_))
      have got : wpAny (model prog w) A.in1 (Builtin.Dict.pairItems (.ref t)) (fun r s' => r = [key, p.2] ∧ s' = { s with heap := h1 }) (fun _ _ => False) { s with heap := h1 } := by
        unfold Builtin.Dict.pairItems
        refine wpAny_bind (wpAny_typeOf isT ?_)
        rw [if_pos (by decide)]
        unfold seqItems?
        refine wpAny_bind (wpAny_bind (wpAny_load hot ?_))
        rw [hdt]
        exact wpAny_pure (wpAny_pure ⟨rfl, rfl⟩)
      refine wpAny_tryCatch (wpAny_mono got (fun r s' hr => ?_) fun _ _ f => f.elim)
      obtain ⟨rfl, rfl⟩ := hr
      have dd1 : h1.DictOf knd d acc := dd.extBut sb1.extBut n2
      refine wpAny_holding (wpAny_dictSet_pairs (hsz := by simp at hz; omega) e5 dd1 fun h2 dd2 sb2 => ?_)
      refine wpAny_pure ⟨plainId_quiet upd_loop_plain _, ?_⟩
      have keep : ∀ b o, b ≠ I → b ≠ d → s.heap.get? b = some o → h2.get? b = some o := fun b o b1 b2 e => (sb2.2 b b2).trans ((sb1.2 b b1).trans e)
      refine ih (i + 1) { s with heap := h2, toks := s.toks + 1 } (stored acc p.1 p.2) ps _ (by omega) (by omega) ?_ ?_ dd2 (by simpa using hl) ?_ ?_ fun h' tk dd' kp => hR h' tk dd' fun b o b1 b2 e => kp b o b1 b2 (keep b o b1 b2 e)
      · exact it1.extBut sb2.extBut (Ne.symm n2)
      · exact (il.extBut sb1.extBut n1).extBut sb2.extBut n3
      · have : (stored acc p.1 p.2).length ≤ acc.length + 1 := by unfold stored; split <;> simp
        simp at hz; omega
      · intro j q hj
        obtain ⟨t', key', a1, a2, a3, a4, a5⟩ := hps (j + 1) q (by simpa using hj)
        refine ⟨t', key', by rw [show i + 1 + j = i + (j + 1) by omega]; exact a1, a2, a3, ?_, a5⟩
        obtain ⟨o, ho, r⟩ := a4
        exact ⟨o, keep t' o a2 a3 ho, r⟩
/-- dict(l), l a list of 2-tuples -/
theorem dict_of_pairs {E : Value → Shared → Prop} {s : Shared} {l : Addr} {items : Array Value} {ps : List (K × Value)} {Q : Value → Shared → Prop} (hA : A.handled = none) (il : PlainL s.heap l items)
    (hl : ps.length = items.size) (hz : ps.length ≤ sizeLine)
    (hps : ∀ (j : Nat) (p : K × Value), ps[j]? = some p → ∃ t key, items[j]? = some (.ref t) ∧ s.heap.IsTuple t #[key, p.2] ∧ knd.is p.1 key = true)
    (fin : ∀ h' tk, h'.DictOf knd s.heap.objs.size (merged [] ps) → (∀ b o, s.heap.get? b = some o → h'.get? b = some o) → Q (.ref s.heap.objs.size) { s with heap := h', toks := tk }) :
    wpAny (model prog w) A (call (.type "dict") [.ref l]) Q E s := by
  obtain ⟨ob, k0, ho, oc, on, od⟩ := il
  refine callType_codes (Q₁ := fun obj s₁ => obj = .ref s.heap.objs.size ∧ s₁ = { s with heap := s.heap.push { cls := .type "dict", data := .dict #[] } }) F.kt_called_dict (F.kt_typeCall_dict_1 _) F.entry_dict_init (kt_code_dict_new _ ⟨rfl, rfl⟩) ?_
  rintro obj s₁ ⟨rfl, rfl⟩
  have new0 : (s.heap.push { cls := .type "dict", data := .dict #[] }).DictOf knd s.heap.objs.size [] := Heap.DictOf.new s.heap
  have ho1 : (s.heap.push { cls := .type "dict", data := .dict #[] }).get? l = some ob := Heap.get?_push_of_some _ ho
  have ne1 : l ≠ s.heap.objs.size := Nat.ne_of_lt (Heap.lt_size ho)
  have isL : ({ s with heap := s.heap.push { cls := .type "dict", data := .dict #[] } } : Shared).TypeIs (.ref l) "list" := ⟨_, ho1, oc⟩
  refine ⟨new0.typeIs, F.args_dict_init_2 _ _, ?_⟩
  unfold Builtin.«dict.__init__» Builtin.Dict.selfAndRest
  refine wpAny_bind (wpAny_bind (wpAny_notOrdered_dict new0.typeIs (wpAny_of_eq (a := (s.heap.objs.size, [Value.ref l])) rfl ?_)))
  show wpAny _ _ (Builtin.Dict.updateFrom "dict.__init__" s.heap.objs.size (.ref l) [] .none) _ _ _
  unfold Builtin.Dict.updateFrom
  refine wpAny_bind (wpAny_typeOf isL ?_)
  rw [if_pos (by decide)]
  refine wpAny_bind (list_no_keys (s := { s with heap := s.heap.push { cls := .type "dict", data := .dict #[] } }) ho1 oc od on hA fun h1 tk1 e ne => ?_)
  rw [if_pos (show (none : Option Value).isNone = true from rfl)]
  refine wpAny_bind (wpAny_rule (wpAny_bind ?_))
  have kp1 : ∀ b o, s.heap.get? b = some o → h1.get? b = some o := fun b o q => ne.keeps b o (Heap.get?_push_of_some _ q)
  have il1 : h1.IsList l items := ⟨_, kp1 l _ ho, oc, _, od⟩
  refine wpAny_pyIter_list (s := { s with heap := h1, toks := tk1 }) il1 (wpAny_pure ⟨plainId_quiet upd_loop_plain _, ?_⟩)
  have dd1 : h1.DictOf knd s.heap.objs.size [] := by
    obtain ⟨o, es, ep, q, r⟩ := new0
    exact ⟨o, es, ep, ne.keeps _ o q, r⟩
  have lt1 : s.heap.objs.size < h1.objs.size := by
    obtain ⟨o, es, ep, q, r⟩ := dd1
    exact Heap.lt_size q
  have old : ∀ b o, s.heap.get? b = some o → b ≠ h1.objs.size ∧ b ≠ s.heap.objs.size := fun b o q => ⟨Nat.ne_of_lt (Heap.lt_size (kp1 b o q)), Nat.ne_of_lt (Heap.lt_size q)⟩
  refine pairs_loop (A := A.in1) (knd := knd) (items := items) hA (Nat.ne_of_lt (Heap.lt_size (kp1 l _ ho))) (Nat.ne_of_lt lt1) ne1 items.size 0 _ [] ps _ (by simp) (Nat.zero_le _) ?_ ?_ ?_ hl (by simpa using hz) ?_ ?_
  · exact ⟨_, Heap.get?_push_size _ rfl, rfl, rfl⟩
  · exact il1.push _
  · exact dd1.push _
  · intro j p hj
    obtain ⟨t, key, a1, a2, a3⟩ := hps j p hj
    obtain ⟨o, q, r⟩ := id a2
    exact ⟨t, key, by rw [Nat.zero_add]; exact a1, (old t o q).1, (old t o q).2, ⟨o, Heap.get?_push_of_some _ (kp1 t o q), r⟩, a3⟩
  · intro h' tk dd' kp
    exact ⟨rfl, fin h' tk dd' fun b o q => kp b o (old b o q).1 (old b o q).2 (Heap.get?_push_of_some _ (kp1 b o q))⟩
end
end PySem


set_option Elab.async false
set_option linter.all false
set_option maxRecDepth 100000
set_option maxHeartbeats 4000000
namespace L2
open PySem PySem.Spec PyProof.Rows Tw
section
variable {X : Cx}
theorem pairs_rel {pins : List (Addr × Obj)} {σ : St} {H : Hp} {s : Shared} (I : Inv X pins σ H s) : ∀ {ts : List Addr} {kvs : List (Key × V)}, Paired (fun t (kv : Key × V) => SqT X.K H t [kV kv.1, kv.2]) ts kvs →
    ∃ ps : List (Key × Value), KV kvs ps ∧ ∀ (j : Nat) (p : Key × Value), ps[j]? = some p → ∃ t key, ts[j]? = some t ∧ s.heap.IsTuple t #[key, p.2] ∧ (mixKind X.prog X.w).is p.1 key = true
  | _, _, .nil => ⟨[], .nil, fun j p e => by simp at e⟩
  | t :: ts, kv :: kvs, .cons h r => by
    obtain ⟨ps, q, f⟩ := pairs_rel I r
    obtain ⟨its, rv, it, _⟩ := I.tuple h
    obtain ⟨a, b, rfl, ra, rb⟩ := Vals.two rv
    refine ⟨(kv.1, b) :: ps, .cons ⟨rfl, rb⟩ q, fun j p e => ?_⟩
    cases j with
    | zero =>
      simp at e
      subst e
      exact ⟨t, a, rfl, it, kV_is ra⟩
    | succ j => simpa using f j p (by simpa using e)
theorem call_dict_pairs (hc : X.calm = true) : CallR X (.type "dict") (fun xs H Q => ∃ (p : Addr) (ts : List Addr) (kvs : List (Key × V)), xs = [.ref p] ∧ SqL X.K H p (ts.map V.ref) ∧
    Paired (fun t (kv : Key × V) => SqT X.K H t [kV kv.1, kv.2]) ts kvs ∧ ∀ d, H d = none → Q (.ref d) (upd H d (.dK (mergeK [] kvs)))) := by
  intro pins s σ H xs us Q I r h
  obtain ⟨p, ts, kvs, rfl, hp, hk, k⟩ := h
  obtain ⟨u, rfl, rx⟩ := vals1 r
  cases rx
  obtain ⟨its, rv, pl, hz⟩ := I.list hp
  obtain ⟨ps, kv, f⟩ := pairs_rel I hk
  have l1 : ts.length = its.length := by rw [← rv.length]; simp
  have l2 : kvs.length = ps.length := Paired.length kv
  have l3 : ts.length = kvs.length := hk.length
  have lz : ps.length ≤ sizeLine := by rw [← l2, ← l3]; simpa using hz
  have get : ∀ (j : Nat) (t : Addr), ts[j]? = some t → its[j]? = some (Value.ref t) := fun j t e => by
    obtain ⟨u, e1, e2⟩ := rv.get (i := j) (x := V.ref t) (by rw [List.getElem?_map, e]; rfl)
    rw [e1, show u = Value.ref t from e2]
  refine dict_of_pairs (knd := mixKind X.prog X.w) (I.ok.hd hc) pl (by simp; omega) lz (fun j p e => ?_) fun h' tk dd kp => ?_
  · obtain ⟨t, key, e1, e2, e3⟩ := f j p e
    exact ⟨t, key, by simpa using get j t e1, e2, e3⟩
  · have hfr : H s.heap.objs.size = none := I.hok.fresh (Nat.le_refl _)
    refine ⟨.ref s.heap.objs.size, _, I.laid (t' := tk) (o := .dK (mergeK [] kvs)) kp (Nat.le_refl _) ?_, rfl, k _ hfr⟩
    refine dk_new (vs := merged [] ps) ?_ ?_ (KV.merge kv .nil) dd
    · have := length_mergeK kvs []
      simp at this
      omega
    · have := I.big
      simpa using Nat.ne_of_gt this
end
end L2


set_option Elab.async false
set_option linter.all false
set_option maxRecDepth 100000
set_option maxHeartbeats 4000000
namespace L2
open PySem PySem.Spec PyProof.Rows Tw
/-! ### a def of the text, and what it promises, as its callers take it -/
/-- the def stands under its name -/
def Def (K : PySem.W.Frag) (mg : Str → Option Value) (x qual : Str) (st : Stmt) (ps : List Str) : Prop :=
  ∃ f fd, Fun K x qual st f fd ∧ mg x = some (.ref f) ∧ PySem.W.keepIn K (.ref f) = true ∧ Binds K fd ps []
/-- .. and keeps a promise -/
def Cal (P : Program) (w : World) (K : PySem.W.Frag) (mg : Str → Option Value) (base : Heap) (CX : CXT) (k : Nat) (x : Str) (ps : List Str) (sp : Sp) : Prop :=
  ∃ f fd, FnOk P w K mg base CX k f fd ps sp ∧ mg x = some (.ref f) ∧ PySem.W.keepIn K (.ref f) = true ∧ Binds K fd ps []
section
variable {X : Cx} {CX : CXT} {k : Nat} {x : Str} {ps : List Str} {sp : Sp} {E : XK} {p pos : Pos} {e : Expr} {es : List Expr} {t : TA}
theorem pe_callF (C : Cal X.prog X.w X.K X.mg X.base CX k x ps sp) (hr : Room k X.A) (ha : PA X (e :: es) t) (hx : Passes CX X E) (hg : Gl X x := by rfl) (hdb : (x == ("__debug__" : Str)) = false := by decide)
    (he : starEach (e :: es) X.env = (false, eval e X.env) :: starEach es X.env := by rfl) (hpl : (backTo pos (starEach es X.env)).any (·.1) = false := by rfl) : PE X (.Call (.Name x p) (e :: es) [] pos) (tCall sp [] E t) := by
  obtain ⟨f, fd, F, hm, hk, hb⟩ := C
  exact pe_call F hr hg hm hk hb .nil hx ha hdb he hpl
theorem Def.cal {P : Program} {w : World} {K : PySem.W.Frag} {mg : Str → Option Value} {base : Heap} {qual : Str} {st : Stmt} (D : Def K mg x qual st ps)
    (h : ∀ f fd, Fun K x qual st f fd → FnOk P w K mg base CX k f fd ps sp) : Cal P w K mg base CX k x ps sp := by
  obtain ⟨f, fd, F, hm, hk, hb⟩ := D
  exact ⟨f, fd, h f fd F, hm, hk, hb⟩
end
/-! ### plain data -/
def IsDt (K : PySem.W.Frag) (H : Hp) (v : V) : Prop := ∃ n, TyOf K H v (.type n)
def isIntV : V → Bool | .int _ => true | .bl _ => true | _ => false
def isBoolV : V → Bool | .bl _ => true | _ => false
def isStrV : V → Bool | .str _ => true | _ => false
section
variable {K : PySem.W.Frag} {H : Hp} {v : V}
theorem isi_int (h : IsDt K H v) : ∃ t, TyOf K H v t ∧ PySem.W.kitOne K t (.type "int") = some (isIntV v) := by
  obtain ⟨n, ty⟩ := h
  refine ⟨_, ty, ?_⟩
  cases ty <;> kernel_rfl
theorem isi_bool (h : IsDt K H v) : ∃ t, TyOf K H v t ∧ PySem.W.kitOne K t (.type "bool") = some (isBoolV v) := by
  obtain ⟨n, ty⟩ := h
  refine ⟨_, ty, ?_⟩
  cases ty <;> kernel_rfl
theorem isi_str (h : IsDt K H v) : ∃ t, TyOf K H v t ∧ PySem.W.kitOne K t (.type "str") = some (isStrV v) := by
  obtain ⟨n, ty⟩ := h
  refine ⟨_, ty, ?_⟩
  cases ty <;> kernel_rfl
theorem isi_list (h : IsDt K H v) : ∃ t b, TyOf K H v t ∧ PySem.W.kitOne K t (.type "list") = some b ∧ (b = true ↔ ∃ a xs, v = .ref a ∧ Rd H a (.lst xs)) := by
  obtain ⟨n, ty⟩ := h
  have no : ∀ {a : Addr} {o : HO}, H a = some o → (∀ xs, o ≠ .lst xs) → (∀ ob xs, o ≠ .frz ob (.lst xs)) → ¬ ∃ b xs, V.ref a = .ref b ∧ Rd H b (.lst xs) := by
    rintro a o e h1 h2 ⟨b, xs, hb, hr⟩
    cases hb
    rcases hr with q | ⟨ob, q⟩
    · rw [e] at q; cases q; exact h1 _ rfl
    · rw [e] at q; cases q; exact h2 _ _ rfl
  refine ⟨_, ?b, ty, ?_, ?_⟩
  case b => exact (match v with | .ref a => (match H a with | some (.lst _) => true | some (.frz _ (.lst _)) => true | _ => false) | _ => false)
  · cases ty with
    | lst e => dsimp only; rw [e]; kernel_rfl
    | frz e => dsimp only; rw [e]; kernel_rfl
    | tup e => dsimp only; rw [e]; kernel_rfl
    | dK e => dsimp only; rw [e]; kernel_rfl
    | dT e => dsimp only; rw [e]; kernel_rfl
    | _ => kernel_rfl
  · cases ty with
    | lst e => dsimp only; rw [e]; exact ⟨fun _ => ⟨_, _, rfl, .inl e⟩, fun _ => rfl⟩
    | frz e => dsimp only; rw [e]; exact ⟨fun _ => ⟨_, _, rfl, .inr ⟨_, e⟩⟩, fun _ => rfl⟩
    | tup e => dsimp only; rw [e]; exact ⟨(fun z => nomatch z), fun z => absurd z (no e (fun _ => by simp) fun _ _ => by simp)⟩
    | dK e => dsimp only; rw [e]; exact ⟨(fun z => nomatch z), fun z => absurd z (no e (fun _ => by simp) fun _ _ => by simp)⟩
    | dT e => dsimp only; rw [e]; exact ⟨(fun z => nomatch z), fun z => absurd z (no e (fun _ => by simp) fun _ _ => by simp)⟩
    | _ => exact ⟨(fun z => nomatch z), fun ⟨a, xs, e, _⟩ => nomatch e⟩
end
end L2


set_option Elab.async false
set_option linter.all false
set_option maxRecDepth 100000
set_option maxHeartbeats 2000000
namespace L2
open PySem PySem.Spec PyProof.Rows
/-! ### list.sort with a key -/
/-- what comes of sorting the items by their keys -/
def Sorts (keys vs : List Value) (R : List Value → Prop) : Prop :=
  (vs.length < 2 → R vs) ∧ (2 ≤ vs.length → keyKind' keys.toArray = pure oneType' ∧
    ∀ (prog : Program) (w : World) (A : Around) (E : Value → Shared → Prop) (s : Shared),
      wpS (model prog w) A E s sortRuns' (fun _ st => failedOf st = none ∧ ((arrOf st).map (·.2)).size = vs.length ∧ R ((arrOf st).map (·.2)).toList) (SortSt.mk' oneType' (keys.toArray.zip vs.toArray) #[] 7 none))
section
variable {prog : Program} {w : World} {A : Around} {E : Value → Shared → Prop} {s : Shared} {a q kS : Addr} {vs : List Value} {n c : Nat} {R : List Value → Prop} {KeyIs : Nat → Value → Prop} {P : PySem.Fin → Shared → Prop}
/-- while the keys are asked for -/
def Asking (s : Shared) (a kS : Addr) (c : Nat) (KeyIs : Nat → Value → Prop) (i : Nat) (s' : Shared) : Prop :=
  ∃ h tk ks e, s' = { s with heap := h, toks := tk } ∧ (∀ b o, b ≠ a → s.heap.get? b = some o → h.get? b = some o) ∧ h.get? a = some (seqObj "list" #[] c) ∧ h.get? kS = some (seqObj "list" ks e) ∧ ks.size = i ∧ ∀ j k, ks[j]? = some k → KeyIs j k
theorem upd_seq {h : Heap} {l b : Addr} {o : Obj} {f : Array Value → Array Value} (hb : b ≠ l) (e : h.get? b = some o) : (h.update l (Obj.mapSeq f)).get? b = some o := (Heap.get?_update_other _ _ (Ne.symm hb)).trans e
theorem tail_by {st : SortSt} {ks : Array Value} {e : Nat} (oa : s.heap.get? a = some (seqObj "list" #[] c)) (ok : s.heap.get? kS = some (seqObj "list" ks e)) (ne : kS ≠ a) (kz : ks.size ≤ sizeLine) (fl : failedOf st = none) (fz : ((arrOf st).map (·.2)).size ≤ sizeLine)
    (h : ∀ h' c', h'.get? a = some (seqObj "list" ((arrOf st).map (·.2)) c') → (∀ b o, b ≠ a → b ≠ kS → s.heap.get? b = some o → h'.get? b = some o) → P (.done (.ret .none)) { s with heap := h' }) : wpAny (model prog w) A (ksk_tail a false c (.ref kS) st) P E s := by
  have o1 := upd_seq (f := fun _ => #[]) (Ne.symm ne) oa
  refine wpAny_bind (listUpdate_at ok rfl (wpAny_bind (wpAny_letGo (wpAny_bind (seqEpoch_at o1 rfl (wpAny_bind (listUpdate_at o1 rfl ?_ (Nat.zero_le _) (Nat.le_succ_of_le fz))))))) kz (Nat.zero_le _))
  rw [fl]
  simp only [bne_self_eq_false, Bool.false_eq_true, if_false]
  exact wpAny_pure (h _ _ (get?_update_seq o1 fun _ => (arrOf st).map (·.2)) fun b o h1 h2 z => upd_seq h1 (upd_seq h2 z))
theorem sort_by (ho : s.heap.get? a = some (seqObj "list" vs.toArray n)) (hz : vs.length ≤ sizeLine)
    (turn : ∀ (i : Nat) (x : Value) (h : Heap) (tk : Nat), vs[i]? = some x → (∀ b o, b ≠ a → s.heap.get? b = some o → h.get? b = some o) →
      wpAny (model prog w) A (call (.ref q) [x]) (fun v s' => KeyIs i v ∧ ∃ h' tk', s' = { s with heap := h', toks := tk' } ∧ ∀ b o, h.get? b = some o → h'.get? b = some o) (fun _ _ => False) { s with heap := h, toks := tk })
    (srt : ∀ keys : List Value, keys.length = vs.length → (∀ i k, keys[i]? = some k → KeyIs i k) → Sorts keys vs R)
    (h : ∀ h' tk out c', h'.get? a = some (seqObj "list" out c') → (∀ b o, b ≠ a → s.heap.get? b = some o → h'.get? b = some o) → R out.toList → out.size = vs.length → P (.done (.ret .none)) { s with heap := h', toks := tk }) :
    wpAny (model prog w) A (Builtin.«list.sort» ⟨[.ref a], [(Str.ofString "key", .ref q)]⟩) P E s := by
  rw [ksk_t1]
  have lt : a < s.heap.objs.size := Heap.lt_size ho
  have o1 := get?_update_seq ho fun _ => #[]
  generalize (if ((fun _ : Array Value => (#[] : Array Value)) vs.toArray).size == vs.toArray.size then n else n + 1) = c at o1
  refine wpAny_bind (listItems_at ho rfl (wpAny_bind (listUpdate_at ho rfl (wpAny_bind (seqEpoch_at o1 rfl (wpAny_bind (wpAny_newTuple (wpAny_bind (wpAny_newList (wpAny_holding ?_))) hz)))) (by simpa using hz))))
  have sz : ((s.heap.update a (Obj.mapSeq fun _ => (#[] : Array Value))).push (seqObj "tuple" vs.toArray 0)).objs.size = s.heap.objs.size + 1 := by rw [size_push', Heap.size_update]
  have old : ∀ b o, b ≠ a → s.heap.get? b = some o → (((s.heap.update a (Obj.mapSeq fun _ => (#[] : Array Value))).push (seqObj "tuple" vs.toArray 0)).push (seqObj "list" #[] 0)).get? b = some o := fun b o hb z => Heap.get?_push_of_some _ (Heap.get?_push_of_some _ (upd_seq hb z))
  have oa := Heap.get?_push_of_some (seqObj "list" #[] 0) (Heap.get?_push_of_some (seqObj "tuple" vs.toArray 0) o1)
  have ok : (((s.heap.update a (Obj.mapSeq fun _ => (#[] : Array Value))).push (seqObj "tuple" vs.toArray 0)).push (seqObj "list" #[] 0)).get? (s.heap.objs.size + 1) = some (seqObj "list" #[] 0) := by rw [← sz]; exact Heap.get?_push_size _ rfl
  show wpAny _ A (ksk_rest a (.ref q) false vs.toArray c (.ref ((s.heap.update a (Obj.mapSeq fun _ => (#[] : Array Value))).push (seqObj "tuple" vs.toArray 0)).objs.size)) P E { s with heap := ((s.heap.update a (Obj.mapSeq fun _ => (#[] : Array Value))).push (seqObj "tuple" vs.toArray 0)).push (seqObj "list" #[] 0) }
  rw [sz]
  generalize ((s.heap.update a (Obj.mapSeq fun _ => (#[] : Array Value))).push (seqObj "tuple" vs.toArray 0)).push (seqObj "list" #[] 0) = h0 at old oa ok
  have nk : s.heap.objs.size + 1 ≠ a := Nat.ne_of_gt (Nat.lt_succ_of_lt lt)
  have below : ∀ b o, s.heap.get? b = some o → b ≠ s.heap.objs.size + 1 := fun b o z => Nat.ne_of_lt (Nat.lt_succ_of_lt (Heap.lt_size z))
  refine wpAny_bind (wpAny_rule ?_)
  rw [List.forIn_toArray]
  refine wpAny_bind (ksk_fold (Asking s a (s.heap.objs.size + 1) c KeyIs) vs 0 _ ⟨h0, s.toks, #[], 0, rfl, old, oa, ok, rfl, fun j k z => by simp at z⟩ (fun j x s' hx J => ?_) fun s' J => ?_)
  · simp only [Nat.zero_add] at J ⊢
    obtain ⟨h1, tk, ks, e, rfl, k1, a1, b1, z1, all⟩ := J
    refine wpAny_bind (wpAny_attempt (wpAny_mono (turn j x h1 tk hx k1) (fun v s2 ⟨kv, h2, tk2, e2, k2⟩ => ?_) fun _ _ z => z.elim))
    subst e2
    have lj : j < vs.length := (List.getElem?_eq_some_iff.mp hx).1
    have b2 := k2 _ _ b1
    refine wpAny_bind (listUpdate_at (f := (·.push v)) b2 rfl ?_ (by omega) (by show (ks.push v).size ≤ _; rw [Array.size_push]; omega))
    refine wpAny_pure ⟨rfl, _, _, ks.push v, _, rfl, fun b o hb z => upd_seq (below b o z) (k2 b o (k1 b o hb z)), upd_seq (Ne.symm nk) (k2 _ _ a1), get?_update_seq b2 (·.push v), by rw [Array.size_push, z1], fun i k z => ?_⟩
    rw [Array.getElem?_push] at z
    split at z
    next ei => cases z; rw [ei, z1]; exact kv
    next => exact all i k z
  · simp only [Nat.zero_add] at J
    obtain ⟨h1, tk, ks, e, rfl, k1, a1, b1, z1, all⟩ := J
    refine wpAny_bind (listItems_at b1 rfl ?_)
    have S := srt ks.toList (by rw [Array.length_toList, z1]) fun i k z => all i k (by rw [← Array.getElem?_toList]; exact z)
    have fin : ∀ st : SortSt, failedOf st = none → ((arrOf st).map (·.2)).size = vs.length → R ((arrOf st).map (·.2)).toList → wpAny (model prog w) A (ksk_tail a false c (.ref (s.heap.objs.size + 1)) st) P E { s with heap := h1, toks := tk } := fun st f1 f2 f3 =>
      tail_by (s := { s with heap := h1, toks := tk }) a1 b1 nk (by omega) f1 (by omega) fun h' c' o' k' => h h' tk _ c' o' (fun b o hb z => k' b o hb (below b o z) (k1 b o hb z)) f3 f2
    have vz : vs.toArray.size = vs.length := List.size_toArray
    show wpAny _ A (ksk_end a false vs.toArray c (.ref (s.heap.objs.size + 1)) ks) P E _
    unfold ksk_end
    simp only [Bool.false_eq_true, if_false]
    have ez : (ks.zip vs.toArray).map (·.2) = vs.toArray := by
      rw [← Array.toList_inj]
      simp only [Array.toList_map, Array.toList_zip]
      exact List.map_snd_zip (show vs.length ≤ ks.toList.length from Nat.le_of_eq (z1.symm.trans Array.length_toList.symm))
    by_cases few : vs.toArray.size < 2
    · simp only [if_pos few, StateT.run_pure]
      refine wpAny_bind (wpAny_pure (wpAny_bind (wpAny_pure (fin (SortSt.mk' general' (ks.zip vs.toArray) #[] 7 none) rfl ?_ ?_))))
      · show ((ks.zip vs.toArray).map (·.2)).size = _
        rw [ez, vz]
      · show R ((ks.zip vs.toArray).map (·.2)).toList
        rw [ez]
        exact S.1 (by omega)
    · simp only [if_neg few]
      obtain ⟨kk, run⟩ := S.2 (by omega)
      rw [Array.toArray_toList] at kk run
      rw [kk]
      refine wpAny_bind (wpAny_pure (wpAny_bind (wpAny_mono (run prog w A E _) ?_ fun _ _ z => z)))
      rintro ⟨⟨⟩, st⟩ s2 ⟨rfl, f1, f2, f3⟩
      exact fin st f1 f2 f3
end
end L2


set_option Elab.async false
set_option linter.all false
set_option maxRecDepth 100000
set_option maxHeartbeats 2000000
namespace L2
open PySem PySem.Spec PyProof.Rows
/-! ### sorted over a range, with a key -/
section
variable {prog : Program} {w : World} {A : Around} {E : Value → Shared → Prop} {s : Shared}
abbrev rngObj (lo hi : Int) (t u v : Tok) : Obj := { cls := .type "range", data := .fields #[.int lo t, .int hi u, .int 1 v] }
theorem rng_size (n : Nat) : Builtin.Range.rangeSize 0 n 1 = n := by
  rw [rangeSize_one]
  split <;> omega
theorem rng_small {n : Nat} (h : n ≤ 2 ^ 24) : Builtin.Range.small 0 n 1 = true := small_one (by omega) (by omega) (by omega) (by omega)
theorem collect_range {r : Addr} {n : Nat} {t u v : Tok} {Q : List Value → Shared → Prop} (hh : A.handled = none) (hr : s.heap.get? r = some (rngObj 0 n t u v)) (hn : n ≤ 2 ^ 24)
    (h : ∀ (h' : Heap) (tk : Nat) (us : List Value), us.length = n → (∀ (i : Nat) x, us[i]? = some x → ∃ t, x = .int i t) → (∀ b o, s.heap.get? b = some o → h'.get? b = some o) → s.heap.objs.size ≤ h'.objs.size → Q us { s with heap := h', toks := tk }) :
    wpAny (model prog w) A (collect (.ref r)) Q E s := by
  generalize hl : s.heap.objs.size = l
  have oL : (s.heap.push { cls := .type "list", data := .seq #[] }).get? l = some { cls := .type "list", data := .seq #[] } := by rw [← hl]; exact Heap.get?_push_size _ rfl
  refine wpAny_bind (wpAny_runValue (codeAny_builtin PySem.F.entry_proto_collect ?_))
  rw [Around.under_plainId PySem.F.plain_proto_collect]
  refine wpAny_bind (m := newList []) (wpAny_newObj_type (wpAny_pure ⟨plainId_quiet PySem.F.plain_list_iadd _, codeAny_builtin PySem.F.entry_list_iadd ?_⟩))
  rw [Around.under_plainId PySem.F.plain_list_iadd, hl]
  refine wpAny_mono (wpAny_extend_range (s := { s with heap := s.heap.push { cls := .type "list", data := .seq #[] } }) (R := fun r s' => r = .ok (.ret (.ref l)) ∧ ∃ h' tk acc c', s' = { s with heap := h', toks := tk } ∧ (∀ b o, b ≠ l → (s.heap.push { cls := .type "list", data := .seq #[] }).get? b = some o → h'.get? b = some o) ∧
    h'.get? l = some { cls := .type "list", dict := none, data := .seq acc c', slots := #[] } ∧ ItemsOf (fun i v => ∃ t, v = .int ((0 : Int) + i * 1) t) acc n) hh (Heap.get?_push_of_some _ hr) (rng_small hn) (rng_size n) hn l (.ref l) 0 oL fun h' tk acc c' keep o' all => ⟨rfl, h', tk, acc, c', rfl, keep, o', all⟩) (fun fin s' hf => ?_) fun e s' he => nomatch he.1
  have go : ∀ s', (∃ h' tk acc c', s' = { s with heap := h', toks := tk } ∧ (∀ b o, b ≠ l → (s.heap.push { cls := .type "list", data := .seq #[] }).get? b = some o → h'.get? b = some o) ∧ h'.get? l = some { cls := .type "list", dict := none, data := .seq acc c', slots := #[] } ∧ ItemsOf (fun i v => ∃ t, v = .int ((0 : Int) + i * 1) t) acc n) →
      wpAny (model prog w) A (do let o ← load l; match o.data with | .seq xs _ => pure xs.toList | _ => unsupported "internal:collect") Q E s' := by
    rintro s' ⟨h', tk, acc, c', rfl, keep, o', all⟩
    refine wpAny_bind (wpAny_load o' (wpAny_pure ?_))
    refine h h' tk acc.toList (by rw [Array.length_toList]; exact all.1) (fun i x e => ?_) (fun b o e => keep b o ?_ (Heap.get?_push_of_some _ e)) ?_
    · obtain ⟨t, e⟩ := all.2 i x (by rw [← Array.getElem?_toList]; exact e)
      exact ⟨t, by rw [e]; simp⟩
    · rw [← hl]
      exact Nat.ne_of_lt (Heap.lt_size e)
    · rw [hl]
      exact Nat.le_of_lt (Heap.lt_size o')
  cases fin with
  | done f =>
    obtain ⟨e, ph⟩ := hf
    cases e
    exact go s' ph
  | again c' =>
    refine ⟨hf.1, codeAny_mono hf.2 fun r s2 hs => ?_⟩
    obtain ⟨e, ph⟩ := hs
    subst e
    exact go s2 ph
theorem ints_range {us : List Value} {n : Nat} (hl : us.length = n) (h : ∀ (i : Nat) x, us[i]? = some x → ∃ t, x = .int i t) : IntsAre us ((List.range n).map Int.ofNat) := by
  have go : ∀ (us : List Value) (m : Nat), (∀ (i : Nat) x, us[i]? = some x → ∃ t, x = .int (m + i : Nat) t) → IntsAre us ((List.range' m us.length).map Int.ofNat) := by
    intro us
    induction us with
    | nil => exact fun _ _ => .nil
    | cons x us ih =>
      intro m q
      obtain ⟨t, rfl⟩ := q 0 x rfl
      refine .cons _ t (ih (m + 1) fun i y e => ?_)
      obtain ⟨t, rfl⟩ := q (i + 1) y e
      exact ⟨t, by rw [show m + (i + 1) = m + 1 + i by omega]⟩
  have := go us 0 fun i x e => by rw [Nat.zero_add]; exact h i x e
  rw [hl] at this
  rwa [List.range_eq_range']
theorem sorted_range_by {r q : Addr} {n : Nat} {t u v : Tok} {R : List Value → Prop} {KeyIs : Nat → Value → Prop} {Q : Value → Shared → Prop} (hh : A.handled = none) (hr : s.heap.get? r = some (rngObj 0 n t u v)) (hn : n ≤ 2 ^ 24)
    (turn : ∀ (i : Nat) (t : Tok) (h : Heap) (tk : Nat), i < n → (∀ b o, s.heap.get? b = some o → h.get? b = some o) →
      wpAny (model prog w) A.in1.in1 (call (.ref q) [.int i t]) (fun v s' => KeyIs i v ∧ ∃ h' tk', s' = { s with heap := h', toks := tk' } ∧ ∀ b o, h.get? b = some o → h'.get? b = some o) (fun _ _ => False) { s with heap := h, toks := tk })
    (srt : ∀ keys vs : List Value, keys.length = n → vs.length = n → (∀ i k, keys[i]? = some k → KeyIs i k) → IntsAre vs ((List.range n).map Int.ofNat) → Sorts keys vs R)
    (h : ∀ D h' tk out c, s.heap.objs.size ≤ D → h'.get? D = some (seqObj "list" out c) → (∀ b o, s.heap.get? b = some o → h'.get? b = some o) → R out.toList → out.size = n → Q (.ref D) { s with heap := h', toks := tk }) :
    wpAny (model prog w) A (call (.builtin "sorted") [.ref r] [(Str.ofString "key", .ref q)]) Q E s := by
  refine call_function_entry_kw kind_sorted plain_sorted entry_sorted (ksk_s1 _ _) (wpAny_bind (wpAny_pure ?_))
  refine wpAny_bind (collect_range (A := A.in1) (by simpa using hh) hr hn fun h1 tk us e1 e2 keep le => ?_)
  have nz : us.length ≤ sizeLine := by rw [e1, sizeLine_eq]; omega
  have oL : (h1.push (seqObj "list" us.toArray 0)).get? h1.objs.size = some (seqObj "list" us.toArray 0) := Heap.get?_push_size _ rfl
  have k1 : ∀ b o, s.heap.get? b = some o → b ≠ h1.objs.size ∧ (h1.push (seqObj "list" us.toArray 0)).get? b = some o := fun b o e => ⟨Nat.ne_of_lt (Heap.lt_size (keep b o e)), Heap.get?_push_of_some _ (keep b o e)⟩
  refine wpAny_bind (wpAny_newList (wpAny_bind (wpAny_holding ?_)) nz)
  refine wpAny_call_entry_kw (s := { s with heap := h1.push (seqObj "list" us.toArray 0), toks := tk }) slot_list_sort ⟨_, oL, rfl⟩ entry_list_sort ?_ (ksk_l1 _ _)
  refine sort_by (R := R) (KeyIs := KeyIs) oL nz (fun i x h2 tk2 ex k2 => ?_) (fun keys l1 l2 => srt keys us (by rw [l1, e1]) e1 l2 (ints_range e1 e2)) fun h2 tk2 out c o2 k2 r2 z2 => ⟨_, rfl, ?_⟩
  · obtain ⟨t, rfl⟩ := e2 i x ex
    exact turn i t h2 tk2 (by rw [← e1]; exact (List.getElem?_eq_some_iff.mp ex).1) fun b o e => k2 b o (k1 b o e).1 (k1 b o e).2
  · exact wpAny_pure ⟨_, rfl, h _ h2 tk2 out c le o2 (fun b o e => k2 b o (k1 b o e).1 (k1 b o e).2) r2 (by rw [z2, e1])⟩
end
/-! ### the keys: texts, ints -/
theorem ints_at {vs : List Value} {n : Nat} (hv : IntsAre vs ((List.range n).map Int.ofNat)) {i : Nat} {x : Value} (e : vs[i]? = some x) : i < n ∧ ∃ t, x = .int i t := by
  have go : ∀ {vs : List Value} {ns : List Int}, IntsAre vs ns → ∀ {i : Nat} {x : Value}, vs[i]? = some x → ∃ z t, ns[i]? = some z ∧ x = .int z t := by
    intro vs ns h
    induction h with
    | nil => exact fun e => nomatch e
    | cons z t _ ih =>
      intro i x e
      cases i with
      | zero => exact ⟨z, t, rfl, (Option.some.inj e).symm⟩
      | succ i => exact ih e
  obtain ⟨z, t, e1, e2⟩ := go hv e
  rw [List.getElem?_map] at e1
  obtain ⟨j, e3, e4⟩ := Option.map_eq_some_iff.mp e1
  obtain ⟨l1, l2⟩ := List.getElem?_eq_some_iff.mp e3
  rw [List.getElem_range] at l2
  rw [List.length_range] at l1
  subst l2
  exact ⟨l1, t, by rw [e2, ← e4]; rfl⟩
theorem places_out {γ : Type} (key : Value → γ) (le : γ → γ → Prop) {n : Nat} {keys vs : List Value} {xs : Array Keyed} (hp : xs.Perm (keys.toArray.zip vs.toArray)) (hl : keys.length = n) (hz : vs.length = n) (hv : IntsAre vs ((List.range n).map Int.ofNat))
    (hs : ∀ (i j : Nat) (hi : i < xs.size) (hj : j < xs.size), i < j → le (key xs[i].1) (key xs[j].1)) :
    ∃ ms : List Nat, IntsAre (xs.map (·.2)).toList (ms.map Int.ofNat) ∧ ms.Perm (List.range n) ∧ ms.Pairwise fun i j => le (key (keys.getD i .none)) (key (keys.getD j .none)) := by
  have pl : xs.toList.Perm (keys.zip vs) := by
    have := Array.perm_iff_toList_perm.mp hp
    rwa [Array.toList_zip] at this
  have at_ : ∀ p ∈ xs.toList, ∃ (i : Nat) (t : Tok), keys.getD i .none = p.1 ∧ p.2 = .int i t := fun p hm => by
    obtain ⟨i, hi⟩ := List.getElem?_of_mem (pl.mem_iff.mp hm)
    rw [List.getElem?_zip_eq_some] at hi
    obtain ⟨_, t, e⟩ := ints_at hv hi.2
    exact ⟨i, t, by rw [List.getD_eq_getElem?_getD, hi.1]; rfl, e⟩
  have ii : ∀ (l : List Keyed), (∀ p ∈ l, ∃ (i : Nat) (t : Tok), keys.getD i .none = p.1 ∧ p.2 = .int i t) → IntsAre (l.map (·.2)) ((l.map fun p => (numOf p.2).toNat).map Int.ofNat) := by
    intro l
    induction l with
    | nil => exact fun _ => .nil
    | cons p l ih =>
      intro q
      obtain ⟨i, t, _, e⟩ := q p (.head _)
      have q2 := ih fun r hr => q r (.tail _ hr)
      simp only [List.map_cons]
      rw [e]
      exact .cons _ t q2
  refine ⟨xs.toList.map fun p => (numOf p.2).toNat, by rw [Array.toList_map]; exact ii _ at_, ?_, ?_⟩
  · have := pl.map fun p : Keyed => (numOf p.2).toNat
    refine this.trans (List.Perm.of_eq ?_)
    have e1 : (keys.zip vs).map (fun p : Keyed => (numOf p.2).toNat) = ((keys.zip vs).map (·.2)).map fun x => (numOf x).toNat := by rw [List.map_map]; rfl
    rw [e1, List.map_snd_zip (by omega)]
    have e2 : vs.map numOf = (List.range n).map Int.ofNat := hv.nums
    have e3 : vs.map (fun x => (numOf x).toNat) = (vs.map numOf).map Int.toNat := by rw [List.map_map]; rfl
    rw [e3, e2, List.map_map]
    exact List.map_id'' (fun _ => rfl) _
  · rw [List.pairwise_map, List.pairwise_iff_getElem]
    intro i j hi hj lt
    have hi' : i < xs.size := by simpa using hi
    have hj' : j < xs.size := by simpa using hj
    obtain ⟨a, t, e1, e2⟩ := at_ xs[i] (by simp)
    obtain ⟨b, t', e3, e4⟩ := at_ xs[j] (by simp)
    have q := hs i j hi' hj' lt
    simp only [Array.getElem_toList]
    rw [e2, e4]
    show le (key (keys.getD a .none)) (key (keys.getD b .none))
    rw [e1, e3]
    exact q
theorem two_of {α : Type} : ∀ {l : List α}, 2 ≤ l.length → ∃ a b r, l = a :: b :: r
  | [], h => absurd h (by simp)
  | [_], h => absurd h (by simp)
  | a :: b :: r, _ => ⟨a, b, r, rfl⟩
def strK : Value → List Nat
  | .str x _ => x.cps.toList
  | _ => []
/-- the codes of a word of the list -/
def wat (ws : List Str) (i : Nat) : List Nat := (ws.getD i ⟨#[]⟩).cps.toList
theorem strs_at {keys : List Value} {ws : List Str} (h : StrsAre keys ws) : ∀ i, strK (keys.getD i .none) = wat ws i := by
  induction h with
  | nil => exact fun i => by cases i <;> rfl
  | cons x t _ ih =>
    intro i
    cases i with
    | zero => rfl
    | succ i => exact ih i
theorem srt_few {n : Nat} {vs : List Value} {T : Nat → Nat → Prop} (hv : IntsAre vs ((List.range n).map Int.ofNat)) (h : n < 2) : ∃ ms : List Nat, IntsAre vs (ms.map Int.ofNat) ∧ ms.Perm (List.range n) ∧ ms.Pairwise T := by
  refine ⟨_, hv, List.Perm.refl _, ?_⟩
  match n, h with
  | 0, _ => exact .nil
  | 1, _ => exact List.pairwise_singleton _ _
theorem srt_strs {n : Nat} {ws : List Str} {keys vs : List Value} (hk : StrsAre keys ws) (hl : keys.length = n) (hz : vs.length = n) (hv : IntsAre vs ((List.range n).map Int.ofNat)) (h64 : n < 64) :
    Sorts keys vs fun out => ∃ ms : List Nat, IntsAre out (ms.map Int.ofNat) ∧ ms.Perm (List.range n) ∧ ms.Pairwise fun i j => ¬ wat ws j < wat ws i := by
  refine ⟨fun few => srt_few hv (by omega), fun two => ?_⟩
  have zz : (keys.toArray.zip vs.toArray).size = n := by rw [Array.size_zip, List.size_toArray, List.size_toArray]; omega
  obtain ⟨k1, k2, r, rfl⟩ := two_of (l := keys) (by omega)
  refine ⟨keyKind_strs hk, fun prog w A E s => ?_⟩
  refine wpS_sortRunsK (κ := strKind) strKind_oneLt (a₀ := (k1 :: k2 :: r).toArray.zip vs.toArray) (fun p hp => ?_) ⟨Array.Perm.refl _, rfl, rfl, rfl⟩ (by omega) (by omega) fun st p1 p2 p3 => ⟨p2, ?_, ?_⟩
  · rw [Array.toList_zip] at hp
    obtain ⟨x, t, e⟩ := hk.all _ (List.of_mem_zip hp).1
    exact ⟨_, by rw [e]⟩
  · rw [Array.size_map, p1.size_eq, zz, hz]
  · have q := places_out strK (fun a b => ¬ b < a) p1 hl hz hv fun i j hi hj lt => ?_
    · obtain ⟨ms, m1, m2, m3⟩ := q
      exact ⟨ms, m1, m2, m3.imp fun {a b} z => by rw [strs_at hk, strs_at hk] at z; exact z⟩
    · have := p3 i j (Nat.le_of_lt lt) (by rw [← p1.size_eq]; exact hj)
      have kk : ∀ (i : Nat) (hi : i < (arrOf st).size), KK strKind (arrOf st) i = strK (arrOf st)[i].1 := fun i hi => by
        unfold KK
        rw [Array.getElem?_eq_getElem hi]
        generalize (arrOf st)[i] = p
        obtain ⟨x, y⟩ := p
        cases x <;> rfl
      rw [kk i hi, kk j hj] at this
      exact of_decide_eq_false this
end L2


set_option Elab.async false
set_option linter.all false
set_option maxRecDepth 100000
set_option maxHeartbeats 2000000
namespace L2
open PySem PySem.Spec PyProof.Rows
/-! ### sorted(range(n), key=lambda place: values[place]) -/
/-- the lambda's code, once it is laid -/
def CodeO (c : Addr) (qual : Str) : HO := .ext fun h => h.CodeRec (.ref c) qual
/-- the table of the def's code: the lambda's code is not yet laid, or it is -/
def Pk (P : Addr) (pos : Pos) (qual : Str) (H : Hp) : Prop :=
  H P = some (.tbl #[]) ∨ ∃ c, H P = some (.tbl #[rawInt pos.line, rawInt pos.col, .ref c]) ∧ H c = some (CodeO c qual)
/-- all is as it was but the table -/
def KeepP (P : Addr) (H H' : Hp) : Prop := ∀ b o, b ≠ P → H b = some o → H' b = some o
theorem KeepP.refl {P : Addr} {H : Hp} : KeepP P H H := fun _ _ _ e => e
theorem Pk.same {P : Addr} {pos : Pos} {qual : Str} {H H' : Hp} (p : Pk P pos qual H) (a : Same H H') : Pk P pos qual H' := by
  rcases p with p | ⟨c, p, q⟩
  · exact .inl (a _ _ p)
  · exact .inr ⟨c, a _ _ p, a _ _ q⟩
theorem Pk.at {P : Addr} {pos : Pos} {qual : Str} {H : Hp} (p : Pk P pos qual H) : ∃ ps, H P = some (.tbl ps) := by
  rcases p with p | ⟨c, p, _⟩
  · exact ⟨_, p⟩
  · exact ⟨_, p⟩
theorem KeepP.free {P : Addr} {H H' : Hp} (k : KeepP P H H') {l : Addr} (hl : l ≠ P) (h : H' l = none) : H l = none := by
  cases q : H l with
  | none => rfl
  | some o =>
    rw [k l o hl q] at h
    cases h
theorem KeepP.seq {K : PySem.W.Frag} {P : Addr} {pos : Pos} {qual : Str} {H H' : Hp} {a : Addr} {xs : List V} (k : KeepP P H H') (p : Pk P pos qual H) (h : SqL K H a xs) : SqL K H' a xs := by
  obtain ⟨ps, p⟩ := p.at
  rcases h with (h | ⟨o, h⟩) | h
  · exact .inl (.inl (k _ _ (ne_of h p (fun z => nomatch z)) h))
  · exact .inl (.inr ⟨o, k _ _ (ne_of h p (fun z => nomatch z)) h⟩)
  · exact .inr h
/-- the module of the built-in names -/
def BM (mg : Str → Option Value) (h : Heap) : Prop := ∃ bm o, mg "__builtins__" = some (.ref bm) ∧ bm ≠ builtinsNs ∧ h.get? bm = some o ∧ o.cls = .type "module" ∧ o.dict = some builtinsNs ∧ o.data = .plain
/-- range(n) as a thing -/
theorem call_rng {X : Cx} : CallR X (.type "range") (fun xs H Q => ∃ n : Nat, xs = [.int n] ∧ ∀ l, H l = none → Q (.ref l) (upd H l (.rng 0 n))) := by
  intro pins s σ H xs us Q I r h
  obtain ⟨n, rfl, q⟩ := h
  obtain ⟨u, rfl, t, rfl⟩ := vals1 r
  have fr : H s.heap.objs.size = none := I.hok.fresh (Nat.le_refl _)
  exact call_range_1 ⟨.ref s.heap.objs.size, _, I.laid (o := .rng 0 n) (fun b o e => Heap.get?_push_of_some _ e) (Nat.le_refl _) ⟨_, _, _, Heap.get?_push_size _ rfl⟩, rfl, q _ fr⟩
/-- what sorting the places by these things gives -/
def Srt (xs : List V) (T : List Nat → Prop) : Prop := ∀ keys vs : List Value, Vals xs keys → vs.length = xs.length → IntsAre vs ((List.range xs.length).map Int.ofNat) → Sorts keys vs fun out => ∃ ms : List Nat, IntsAre out (ms.map Int.ofNat) ∧ T ms
section
variable {X : Cx} {pins : List (Addr × Obj)} {σ : St} {H : Hp} {s : Shared} {P : Addr} {qual : Str} {c' : Addr} {h' : Heap} {tk : Nat}
/-- the lambda's code is laid, the table written -/
theorem Inv.coded (I : Inv X pins σ H s) {ps : Array Value} (hP : H P = some (.tbl #[])) (hx : ∀ b o, b ≠ P → s.heap.get? b = some o → h'.get? b = some o) (hc : s.heap.objs.size ≤ c') (hr : h'.CodeRec (.ref c') qual) (ht : h'.get? P = some { cls := .none, data := .fields ps }) :
    Inv X pins σ (upd (upd H P (.tbl ps)) c' (CodeO c' qual)) { s with heap := h', toks := tk } := by
  have fc : H c' = none := I.hok.fresh hc
  have ltP : P < s.heap.objs.size := I.hok.lt hP
  have cP : c' ≠ P := fun z => by rw [z, hP] at fc; cases fc
  have old : ∀ b u, H b = some u → b ≠ P → (upd (upd H P (.tbl ps)) c' (CodeO c' qual)) b = some u := fun b u e n => by
    rw [upd_ne (ne_of_none e fc), upd_ne n]
    exact e
  have un : Un X.fs [] H (upd (upd H P (.tbl ps)) c' (CodeO c' qual)) s.heap h' := by
    have nP : ∀ b, H b = none → b ≠ P := fun b n z => by subst z; rw [hP] at n; cases n
    have there : ∀ b o, s.heap.get? b = some o → ∃ o', h'.get? b = some o' := fun b o e => by
      by_cases z : b = P
      · subst z; exact ⟨_, ht⟩
      · exact ⟨o, hx b o z e⟩
    refine ⟨fun b o e n _ _ => hx b o (nP b n) e, fun b o e n _ _ => ⟨o.slots, hx b o (nP b n) e⟩, fun b o e n _ => ?_, fun b o e _ => there b o e, fun b xs e => old b _ e (ne_of e hP (fun z => nomatch z)), fun b o u e => old b _ e (ne_of e hP (fun z => nomatch z)), fun b qs e => ?_⟩
    · rw [upd_ne (Nat.ne_of_lt (Nat.lt_of_lt_of_le (Heap.lt_size e) hc)), upd_ne (nP b n)]
      exact n
    · by_cases z : b = P
      · subst z
        rw [hP] at e
        cases e
        exact ⟨ps, by rw [upd_ne (Ne.symm cP), upd_same]; simp⟩
      · exact ⟨#[], by rw [old b _ e z]; simp⟩
  refine I.un un fun b u e => ?_
  by_cases z : b = c'
  · subst z
    rw [upd_same] at e
    cases e
    obtain ⟨c2, o, vs, t, e1, e2, e3⟩ := hr
    cases e1
    refine ⟨⟨_, o, vs, t, rfl, e2, e3⟩, ⟨o, e2⟩, fun h1 h2 ⟨c3, o3, vs3, t3, f1, f2, f3⟩ k => ?_⟩
    cases f1
    exact ⟨_, o3, vs3, t3, rfl, k _ f2, f3⟩
  · rw [upd_ne z] at e
    by_cases y : b = P
    · subst y
      rw [upd_same] at e
      cases e
      exact ht
    · rw [upd_ne y] at e
      refine (I.hok b u e).stay (fun d v hd q => hx d v ?_ q) (fun d q => old d _ q (ne_of q hP (fun z => nomatch z))) fun d xs q => old d _ q (ne_of q hP (fun z => nomatch z))
      rcases hd with rfl | hd
      · exact y
      · exact ne_of hd hP (fun z => nomatch z)
end
/-- the lambda is called: values[place] -/
theorem call_key {prog : Program} {w : World} {A : Around} {s : Shared} {h : Heap} {tk : Nat} {f c c0 l : Addr} {v y qual : Str} {params : Arguments} {lsc : Scope} {pm ctv : Value} {p1 p2 p3 : Pos} {its : Array Value} {i : Nat} {t : Tok} {x : Value} {KeyIs : Nat → Value → Prop}
    (hroom : A.depth < recursionLimit) (lim : h.NoLimit) (ho : h.get? f = some (PySem.W.kla_obj "<lambda>" qual params (.Subscript (.Name v p1) (.Name y p2) p3) lsc [(v, c0)] pm c ctv)) (hcd : h.CodeRec (.ref c) qual)
    (hcell : h.IsCell c0 (some (.ref l))) (hl : h.IsList l its) (hi : i < 2 ^ 62) (hx : its[i]? = some x) (hk : KeyIs i x)
    (s1 : lsc.kind = .function) (s2 : lsc.isCoroutine = false) (s3 : lsc.isGenerator = false) (s4 : lsc.names.lookup y = some .local) (s5 : lsc.names.lookup v = some .free) (s6 : ∀ z ∈ lsc.names, z.2 ≠ .cell)
    (hb : ∀ (qual : Str) (bd : Expr) (sc : Scope) (cl : List (Str × Addr)) (pm cdv ct u : Value), bindArgs (PySem.W.kla_fn "<lambda>" qual params bd sc cl pm cdv ct) ⟨[u], []⟩ = pure [(y, u)])
    (hd1 : (v == ("__debug__" : Str)) = false) (hd2 : (y == ("__debug__" : Str)) = false) (hd3 : (v == ("__classdict__" : Str)) = false) :
    wpAny (model prog w) A (call (.ref f) [.int i t]) (fun r s' => KeyIs i r ∧ ∃ h' tk', s' = { s with heap := h', toks := tk' } ∧ ∀ b o, h.get? b = some o → h'.get? b = some o) (fun _ _ => False) { s with heap := h, toks := tk } := by
  refine wpAny_call (PySem.W.kla_callFunE (s := { s with heap := h, toks := tk }) hroom ho rfl s2 s3 rfl hcd ?_)
  rw [hb]
  refine wpAny_pure (wpAny_newFunctionEnv s6 (fun z hz => ?_) (fun h1 ns sb => ⟨?_, PySem.W.kla_codeExpr ?_⟩) s1)
  · rw [List.mem_singleton.mp hz]
    exact s4
  · exact lim.fresh _ sb
  · have keep : ∀ b o, h.get? b = some o → h1.get? b = some o := fun b o e => sb.extBut b o (Nat.ne_of_lt (Heap.lt_size e)) (Heap.get?_push_of_some _ e)
    refine Subscript_ (wpAny_Name (wpAny_loadName_free s1 s5 ?_ (hcell.keeps keep) ?_ hd3) hd1)
    · show List.lookup v [(v, c0)] = some c0
      simp
    · refine wpAny_Name (wpAny_loadName_local s1 s4 ns (v := .int i t) (by simp) ?_) hd2
      have hl1 : h1.IsList l its := let ⟨o, e, r⟩ := hl; ⟨o, keep _ _ e, r⟩
      exact item_listR (s := { s with heap := h1, toks := _ }) hl1 (Int.natCast_nonneg i) (by omega) (by simpa using hx) ⟨hk, h1, _, rfl, keep⟩
/-- the whole -/
abbrev rRng : List V → Hp → VK → Prop := fun xs H Q => ∃ n : Nat, xs = [.int n] ∧ ∀ l, H l = none → Q (.ref l) (upd H l (.rng 0 n))
def tOrder (K : PySem.W.Frag) (P : Addr) (pos : Pos) (qual : Str) (i : Nat) (te : TE) : TE := fun σ H Q => tCons (tCB rRng (tCons te tNil)) tNil σ H fun us H1 => ∃ (r l : Addr) (xs : List V) (T : List Nat → Prop), us = [.ref r] ∧ H1 r = some (.rng 0 xs.length) ∧ σ[i]? = some (some (.ref l)) ∧ SqL K H1 l xs ∧ xs.length < 64 ∧ Srt xs T ∧ Pk P pos qual H1 ∧
  ∀ (D : Addr) (ms : List Nat) (H2 : Hp), KeepP P H1 H2 → Pk P pos qual H2 → D ≠ P → H1 D = none → H2 D = some (.lst (ms.map fun (m : Nat) => V.int (m : Int))) → T ms → Q (.ref D) H2
theorem vals_of_at : ∀ {xs : List V} {us : List Value}, xs.length = us.length → (∀ (i : Nat) x u, xs[i]? = some x → us[i]? = some u → RelV x u) → Vals xs us
  | [], [], _, _ => .nil
  | [], _ :: _, e, _ => by cases e
  | _ :: _, [], e, _ => by cases e
  | x :: xs, u :: us, e, h => .cons (h 0 x u rfl rfl) (vals_of_at (Nat.succ.inj e) fun i y w e1 e2 => h (i + 1) y w e1 e2)
theorem vals_nats : ∀ {out : List Value} {ms : List Nat}, IntsAre out (ms.map Int.ofNat) → Vals (ms.map fun (m : Nat) => V.int (m : Int)) out := fun {out ms} h => by
  have := vals_ints h
  rw [List.map_map] at this
  exact this
section
variable {X : Cx} {e : Expr} {te : TE} {p p2 p3 p4 p5 p6 pos lpos kp : Pos} {v y : Str} {params : Arguments} {lsc : Scope} {i : Nat} {c c0 P : Addr}
theorem pe_order (hr : Room 0 X.A) (hms : X.mg "sorted" = none) (hmr : X.mg "range" = none) (he : PE X e te) (hi : X.N[i]? = some v) (hvc : X.env.kindOf v = some .cell) (hc0 : X.env.cells.lookup v = some c0) (hcl : PySem.closureFor lsc X.env = pure [(v, c0)])
    (hcode : X.env.code = .ref c) (C : PySem.W.CodeHd X.base c P) (B : BM X.mg X.base)
    (s1 : lsc.kind = .function) (s2 : lsc.isCoroutine = false) (s3 : lsc.isGenerator = false) (s4 : lsc.names.lookup y = some .local) (s5 : lsc.names.lookup v = some .free) (s6 : ∀ z ∈ lsc.names, z.2 ≠ .cell)
    (hb : ∀ (qual : Str) (bd : Expr) (sc : Scope) (cl : List (Str × Addr)) (pm cdv ct u : Value), bindArgs (PySem.W.kla_fn "<lambda>" qual params bd sc cl pm cdv ct) ⟨[u], []⟩ = pure [(y, u)]) (hdf : defaultsOf params X.env = ([], []))
    (hd1 : (v == ("__debug__" : Str)) = false) (hd2 : (y == ("__debug__" : Str)) = false) (hd3 : (v == ("__classdict__" : Str)) = false)
    (hgs : Gl X "sorted" := by rfl) (hgr : Gl X "range" := by rfl)
    (hs1 : starEach [e] X.env = [(false, eval e X.env)] := by rfl) (hs2 : starEach [.Call (.Name "range" p2) [e] [] p3] X.env = [(false, eval (.Call (.Name "range" p2) [e] [] p3) X.env)] := by rfl)
    : PE X (.Call (.Name "sorted" p) [.Call (.Name "range" p2) [e] [] p3] [⟨some "key", .Lambda params (.Subscript (.Name v p4) (.Name y p5) p6) lsc lpos, kp⟩] pos) (tOrder X.K P lpos (X.env.qual ++ "<lambda>") i te) := by
  intro pins s σ H Q I h
  refine wpAny_Call_Name_kw (ld_blt I hgs hms boot_sorted ?_)
  have hrng : PE X (.Call (.Name "range" p2) [e] [] p3) (tCB rRng (tCons te tNil)) := pe_callTy call_rng hgr hmr boot_range (pa_cons he pa_nil hs1) (by decide) (by decide) hs1 rfl
  refine PyProof.Rows.callWith_kw (thn ((pa_cons hrng pa_nil hs2) pos pins s σ H _ I h) fun us s1' ⟨xs', H1, I1, r1, r, l, xs, T, e1, hr1, hσ, hq, h64, hT, pk, k⟩ => ?_) (by rw [hs2]; rfl) (by rw [hs2]; rfl) rfl rfl
  subst e1
  obtain ⟨u, rfl, ru⟩ := vals1 r1
  cases ru
  obtain ⟨bm, bo, b1, b2, b3, b4, b5, b6⟩ := B
  have glob := I1.mod.glob.keeps I1.bk
  obtain ⟨ps, hPs⟩ := pk.at
  have apart : ∀ b o, X.base.get? b = some o → b ≠ P := fun b o z w => by
    have := (I1.bs b o z).2
    rw [w, hPs] at this
    cases this
  have gP : mainGlobals ≠ P := by
    obtain ⟨o, _, _, z, _⟩ := I1.mod.glob
    exact apart _ _ z
  have bG : bm ≠ mainGlobals := fun z => by
    obtain ⟨o, es, ep, w, d, _⟩ := I1.mod.glob
    rw [z, w] at b3
    cases b3
    rw [d] at b6
    cases b6
  have hB : s1'.heap.BuiltinsAt X.mg P := ⟨bm, bo, b1, b2, bG, apart _ _ b3, I1.bk _ _ b3, b4, b5, b6⟩
  have hgl : X.env.globals = mainGlobals := I1.ok.glob
  -- behind the lambda
  have after : ∀ (H2 : Hp) (s2' : Shared) (f cc : Addr) (ctv : Value), Inv X pins σ H2 s2' → KeepP P H1 H2 → Pk P lpos (X.env.qual ++ "<lambda>") H2 → H2 cc = some (CodeO cc (X.env.qual ++ "<lambda>")) →
      s2'.heap.get? f = some (PySem.W.kla_obj "<lambda>" (X.env.qual ++ "<lambda>") params (.Subscript (.Name v p4) (.Name y p5) p6) lsc [(v, c0)] ((X.mg "__name__").getD .none) cc ctv) →
      wpAny (model X.prog X.w) X.A (call (.builtin "sorted") [.ref r] [(Str.ofString "key", .ref f)]) (EP X pins σ Q) X.xe s2' := by
    intro H2 s2' f cc ctv I2 kp2 pk2 hcc hf
    obtain ⟨ps2, hPs2⟩ := pk2.at
    have hr2 : H2 r = some (.rng 0 xs.length) := kp2 _ _ (ne_of hr1 hPs (fun z => nomatch z)) hr1
    obtain ⟨t1, t2, t3, or⟩ := I2.hok r _ hr2
    have hq2 := kp2.seq pk hq
    obtain ⟨its, rv, pl, hz⟩ := I2.list hq2
    obtain ⟨m, hn, hlk⟩ := I2.loc
    obtain ⟨u, ru, lk⟩ := hlk i v (.ref l) hi hσ (.inr (.inl hvc))
    cases ru
    have cell : s2'.heap.IsCell c0 (some (.ref l)) := by
      rcases lk with ⟨z, _⟩ | ⟨_, c1, z, w⟩
      · rw [hvc] at z
        cases z
      · rw [hc0] at z
        cases z
        exact w
    have cd : s2'.heap.CodeRec (.ref cc) (X.env.qual ++ "<lambda>") := (I2.hok cc _ hcc).1
    have len := rv.length
    refine sorted_range_by (R := fun out => ∃ ms : List Nat, IntsAre out (ms.map Int.ofNat) ∧ T ms) (KeyIs := fun i w => ∃ x, xs[i]? = some x ∧ RelV x w) hr.hd or (by omega) (fun j t h3 tk3 lt k3 => ?_) (fun keys vs l1 l2 q1 q2 => hT keys vs ?_ l2 q2) fun D h3 tk3 out cn le o3 k3 ⟨ms, m1, m2⟩ z3 => ?_
    · obtain ⟨x, ex⟩ : ∃ x, xs[j]? = some x := ⟨_, List.getElem?_eq_getElem lt⟩
      obtain ⟨w, ew, rw'⟩ := rv.get ex
      refine call_key (x := w) (its := its.toArray) (i := j) (KeyIs := fun i w => ∃ x, xs[i]? = some x ∧ RelV x w) ?_ (I2.nolimit.keeps k3) (k3 _ _ hf) (cd.keeps k3) (cell.keeps k3) ?_ (by omega) (by simpa using ew) ⟨x, ex, rw'⟩ s1 s2 s3 s4 s5 s6 hb hd1 hd2 hd3
      · have := hr.dp
        show X.A.depth < _
        omega
      · obtain ⟨o, z, w⟩ := pl.isList
        exact ⟨o, k3 _ _ z, w⟩
    · exact vals_of_at (by omega) fun j x kx e2 e3 => by
        obtain ⟨x', e4, e5⟩ := q1 j kx e3
        rw [e2] at e4
        cases e4
        exact e5
    · have fr : H2 D = none := I2.hok.fresh le
      have dP : D ≠ P := fun z => by rw [z, hPs2] at fr; cases fr
      refine ⟨.ref D, _, I2.laid (o := .lst (ms.map fun (m : Nat) => V.int (m : Int))) k3 le ⟨?_, out.toList, cn, vals_nats m1, by simpa using o3⟩, rfl, k D ms _ (fun b o hb z => ?_) ?_ dP ?_ upd_same m2⟩
      · have l3 := (vals_nats m1).length.trans (Array.length_toList.trans z3)
        rw [l3]
        exact hz
      · rw [upd_ne (ne_of_none (kp2 b o hb z) fr)]
        exact kp2 b o hb z
      · exact pk2.same fun b o z => by rw [upd_ne (ne_of_none z fr)]; exact z
      · exact kp2.free dP fr
  refine PyProof.Rows.kws_cons (PySem.W.kla_eval hdf ?_)
  rcases pk with hP | ⟨cc, hP, hcc⟩
  · refine PySem.W.kla_makeFunction (ps := #[]) hcl hgl glob hcode (C.keeps I1.bk) (I1.hok P _ hP) trivial rfl gP hB fun cc ctv h' tk hx hge hlt hrec htb => PyProof.Rows.kws_nil ?_
    have push : ∀ b o, h'.get? b = some o → (h'.push (PySem.W.kla_obj "<lambda>" (X.env.qual ++ "<lambda>") params (.Subscript (.Name v p4) (.Name y p5) p6) lsc [(v, c0)] ((X.mg "__name__").getD .none) cc ctv)).get? b = some o := fun b o z => Heap.get?_push_of_some _ z
    have fc : H1 cc = none := I1.hok.fresh hge
    have cP : cc ≠ P := fun z => by rw [z, hP] at fc; cases fc
    have I2 := I1.coded (tk := tk) hP (fun b o hb z => push b o (hx b o hb z)) hge (hrec.keeps push) (push _ _ htb)
    refine after _ _ _ cc ctv I2 (fun b o hb z => ?_) (.inr ⟨cc, ?_, upd_same⟩) upd_same (Heap.get?_push_size _ rfl)
    · rw [upd_ne (ne_of_none z fc), upd_ne hb]
      exact z
    · rw [upd_ne (Ne.symm cP), upd_same]
      rfl
  · refine PySem.W.kla_makeFunctionHit (cv := .ref cc) (ps := #[rawInt lpos.line, rawInt lpos.col, .ref cc]) hcl hgl glob hcode (C.keeps I1.bk) (I1.hok P _ hP) trivial ?_ hB fun ctv h' tk hk hsz => PyProof.Rows.kws_nil ?_
    · simp [codeAmong, rawInt]
    · exact after H1 _ _ cc ctv (I1.kept (t' := tk) fun b o z => Heap.get?_push_of_some _ (hk b o z)) .refl (.inr ⟨cc, hP, hcc⟩) hcc (Heap.get?_push_size _ rfl)
end
end L2


set_option linter.all false
namespace Pl
open PySem L2
def top (i : Nat) : Stmt := PySem.Challenge.pw_tworeadings_k01_whole_once.main.body.getD i (.Pass ⟨0, 0, 0, 0⟩)
abbrev s_is_whole : Stmt := top 5
abbrev s_is_word : Stmt := top 6
abbrev s_are_words : Stmt := top 7
abbrev s_is_code : Stmt := top 8
abbrev s_is_place : Stmt := top 9
abbrev s_are_places : Stmt := top 10
abbrev s_words_at : Stmt := top 11
abbrev s_joined : Stmt := top 12
abbrev s_check_code : Stmt := top 13
abbrev s_noted : Stmt := top 14
abbrev s_in_order : Stmt := top 15
abbrev s_count_below : Stmt := top 16
abbrev s_grouped : Stmt := top 17
abbrev s_standing : Stmt := top 18
abbrev s_marks_behind : Stmt := top 19
abbrev s_unrolled : Stmt := top 20
abbrev s_copied : Stmt := top 22
abbrev s_are_tails : Stmt := top 23
abbrev s_rests_known : Stmt := top 24
abbrev s_tails_closed : Stmt := top 25
abbrev s_none_begins_next : Stmt := top 26
abbrev c_Clash_init : Stmt := inClass (top 28) 0
abbrev c_Clash_shows : Stmt := inClass (top 28) 1
abbrev c_Tails_init : Stmt := inClass (top 29) 0
abbrev c_Tails_shows : Stmt := inClass (top 29) 1
abbrev c_Reading_init : Stmt := inClass (top 30) 0
abbrev c_Reading_shows : Stmt := inClass (top 30) 1
abbrev c_Begins_init : Stmt := inClass (top 31) 0
abbrev c_Begins_shows : Stmt := inClass (top 31) 1
abbrev c_Apart_init : Stmt := inClass (top 32) 0
abbrev c_Apart_shows : Stmt := inClass (top 32) 1
abbrev c_Rest_init : Stmt := inClass (top 35) 0
abbrev s_rest_numbers : Stmt := top 36
abbrev s_first_rests : Stmt := top 37
abbrev s_places_begun : Stmt := top 38
abbrev s_rests_behind : Stmt := top 39
abbrev s_take_new : Stmt := top 40
abbrev s_all_rests : Stmt := top 41
abbrev s_once : Stmt := top 42
abbrev s_law_code : Stmt := top 44
abbrev s_law_stands : Stmt := top 45
abbrev s_law_numbers : Stmt := top 46
abbrev s_law_clash : Stmt := top 47
abbrev s_law_tails : Stmt := top 48
abbrev s_law_too_many : Stmt := top 49
abbrev s_law_due : Stmt := top 50
abbrev s_law : Stmt := top 51
def lamPos : Pos := ⟨30, 42, 30, 69⟩
def lamQual : Str := ("in_order" ++ ".<locals>." : Str) ++ "<lambda>"
end Pl


set_option Elab.async false
set_option linter.all false
set_option maxRecDepth 100000
set_option maxHeartbeats 4000000
namespace L2
open PySem PySem.Spec PyProof.Rows Tw
/-! ### short forms -/
theorem iteT' {c A B : Prop} [Decidable c] (hc : c) (h : A) : if c then A else B := by rw [if_pos hc]; exact h
theorem iteF' {c A B : Prop} [Decidable c] (hc : ¬ c) (h : B) : if c then A else B := by rw [if_neg hc]; exact h
/-- builtin names that the text leaves alone -/
structure Bare (mg : Str → Option Value) : Prop where
  isi : mg "isinstance" = none
  int : mg "int" = none
  bool : mg "bool" = none
  str : mg "str" = none
  list : mg "list" = none
  dict : mg "dict" = none
  all : mg "all" = none
  any : mg "any" = none
  len : mg "len" = none
  range : mg "range" = none
  sorted : mg "sorted" = none
  sum : mg "sum" = none
  enumerate : mg "enumerate" = none
  max : mg "max" = none
  valueError : mg "ValueError" = none
abbrev tIsi (K : PySem.W.Frag) (te : TE) (c : V) : TE := tCB (rIsi K) (tCons te (tCons (tC c) tNil))
section
variable {X : Cx} {e : Expr} {te : TE} {p q pos : Pos}
theorem pe_isi {cv : V} {c : Expr} (hm : X.mg "isinstance" = none) (he : PE X e te) (hc : PE X c (tC cv)) (hg : Gl X "isinstance" := by rfl)
    (hs1 : starEach (e :: [c]) X.env = (false, eval e X.env) :: starEach [c] X.env := by rfl) (hs2 : starEach (c :: []) X.env = (false, eval c X.env) :: starEach [] X.env := by rfl)
    (hpl : (backTo pos (starEach [c] X.env)).any (·.1) = false := by rfl) : PE X (.Call (.Name "isinstance" p) [e, c] [] pos) (tIsi X.K te cv) := by
  exact pe_callB (r := rIsi X.K) call_isi hg hm boot_isinstance (pa_cons he (pa_cons hc pa_nil hs2) hs1) (by decide) (by decide) hs1 hpl
theorem pe_isi_int (B : Bare X.mg) (he : PE X e te) (hg : Gl X "isinstance" := by rfl) (hg2 : Gl X "int" := by rfl)
    (hs1 : starEach (e :: [.Name "int" q]) X.env = (false, eval e X.env) :: starEach [.Name "int" q] X.env := by rfl) : PE X (.Call (.Name "isinstance" p) [e, .Name "int" q] [] pos) (tIsi X.K te (.ty "int")) :=
  pe_isi B.isi he (pe_bltn hg2 B.int boot_int rfl) hg hs1 rfl rfl
theorem pe_isi_bool (B : Bare X.mg) (he : PE X e te) (hg : Gl X "isinstance" := by rfl) (hg2 : Gl X "bool" := by rfl)
    (hs1 : starEach (e :: [.Name "bool" q]) X.env = (false, eval e X.env) :: starEach [.Name "bool" q] X.env := by rfl) : PE X (.Call (.Name "isinstance" p) [e, .Name "bool" q] [] pos) (tIsi X.K te (.ty "bool")) :=
  pe_isi B.isi he (pe_bltn hg2 B.bool boot_bool rfl) hg hs1 rfl rfl
theorem pe_isi_str (B : Bare X.mg) (he : PE X e te) (hg : Gl X "isinstance" := by rfl) (hg2 : Gl X "str" := by rfl)
    (hs1 : starEach (e :: [.Name "str" q]) X.env = (false, eval e X.env) :: starEach [.Name "str" q] X.env := by rfl) : PE X (.Call (.Name "isinstance" p) [e, .Name "str" q] [] pos) (tIsi X.K te (.ty "str")) :=
  pe_isi B.isi he (pe_bltn hg2 B.str boot_str rfl) hg hs1 rfl rfl
theorem pe_isi_list (B : Bare X.mg) (he : PE X e te) (hg : Gl X "isinstance" := by rfl) (hg2 : Gl X "list" := by rfl)
    (hs1 : starEach (e :: [.Name "list" q]) X.env = (false, eval e X.env) :: starEach [.Name "list" q] X.env := by rfl) : PE X (.Call (.Name "isinstance" p) [e, .Name "list" q] [] pos) (tIsi X.K te (.ty "list")) :=
  pe_isi B.isi he (pe_bltn hg2 B.list boot_list rfl) hg hs1 rfl rfl
end
/-! ### tworeadings.codes -/
section
variable {P : Program} {w : World} {K : PySem.W.Frag} {mg : Str → Option Value} {base : Heap}
def spIsWhole (K : PySem.W.Frag) : Sp := fun vs H Q _ => ∃ v, vs = [v] ∧ IsDt K H v ∧ Q (.bl (isIntV v && !isBoolV v)) H
theorem ok_is_whole (D : Def K mg "is_whole" "is_whole" Pl.s_is_whole ["value"]) (B : Bare mg) : Cal P w K mg base CX0 1 "is_whole" ["value"] (spIsWhole K) := by
  have sc : FnScope ["value"] ["value"] (defScope Pl.s_is_whole) := ⟨rfl, rfl, rfl, by decide +kernel, rfl, by decide +kernel, by decide +kernel⟩
  refine D.cal fun f fd F => F.ok sc (fun vs H Q E h => ?_) (fun cdv A outer s H vs Q E hr h => ?_)
  · obtain ⟨v, rfl, _⟩ := h
    rfl
  · obtain ⟨v, rfl, hd, k⟩ := h
    refine ⟨_, pss_one (ps_ret (pe_and (pe_isi_int B (pv 0)) (pe_one (pe_not (pe_isi_bool B (pv 0)))))), ?_⟩
    obtain ⟨t, ty, e⟩ := isi_int hd
    refine ⟨_, rfl, _, _, t, _, rfl, trivial, ty, e, _, rfl, ?_⟩
    cases hi : isIntV v with
    | false =>
      rw [hi] at k
      exact iteF k
    | true =>
      refine iteT ?_
      obtain ⟨t, ty, e⟩ := isi_bool hd
      refine ⟨_, rfl, _, _, t, _, rfl, trivial, ty, e, _, rfl, ?_⟩
      rw [hi] at k
      exact k

/-- a text of these letters, one or more -/
def isWordV (letters : W) : V → Bool
  | .str x => decide (x.cps.toList ≠ []) && x.cps.toList.all fun c => letters.contains c
  | _ => false
def spIsWord (K : PySem.W.Frag) : Sp := fun vs H Q _ => ∃ v letters, vs = [v, sv letters] ∧ IsDt K H v ∧ (∀ x, v = .str x → x.length ≤ sizeLine) ∧ Q (.bl (isWordV letters v)) H
theorem ok_is_word (D : Def K mg "is_word" "is_word" Pl.s_is_word ["value", "letters"]) (B : Bare mg) : Cal P w K mg base CX0 1 "is_word" ["value", "letters"] (spIsWord K) := by
  have sc : FnScope ["value", "letters"] ["value", "letters"] (defScope Pl.s_is_word) := ⟨rfl, rfl, rfl, by decide +kernel, rfl, by decide +kernel, by decide +kernel⟩
  refine D.cal fun f fd F => F.ok sc (fun vs H Q E h => ?_) (fun cdv A outer s H vs Q E hr h => ?_)
  · obtain ⟨v, l, rfl, _⟩ := h
    rfl
  · obtain ⟨v, letters, rfl, hd, hz, k⟩ := h
    refine ⟨_, pss_one (ps_ret (pe_and (pe_isi_str B (pv 0)) (pe_and (pe_cmpR op_ne (pv 0) pe_str (nomark _)) (pe_one (pe_cmpR op_eq (pe_bm PySem.F.plainAttrs_str PySem.F.slot_str_lstrip PySem.F.type_str_lstrip mt_lstrip (pv 0) (pa_cons (pv 1) pa_nil)) pe_str (nomark _)))))), ?_⟩
    obtain ⟨t, ty, e⟩ := isi_str hd
    refine ⟨_, rfl, _, _, t, _, rfl, trivial, ty, e, _, rfl, ?_⟩
    cases v with
    | str x =>
      refine iteT ?_
      refine ⟨_, rfl, rfl, _, rfl, ?_⟩
      obtain ⟨a, rfl⟩ : ∃ a, x = st a := ⟨x.cps.toList, (st_of x).symm⟩
      by_cases ha : a = []
      · subst ha
        exact iteF' (by decide +kernel) k
      · refine iteT' (by rw [Bool.not_eq_true', decide_eq_false_iff_not]; intro z; exact ha (st_inj (V.str.inj z))) ?_
        refine ⟨_, rfl, rfl, _, rfl, a, letters, rfl, rfl, by have := hz _ rfl; rw [st_len] at this; exact this, fun c hc => ⟨rfl, ?_⟩⟩
        have e : isWordV letters (.str (st a)) = decide (sv c = V.str (st [])) := by
          show (decide (a ≠ []) && a.all fun z => letters.contains z) = _
          rw [Bool.eq_iff_iff, Bool.and_eq_true, decide_eq_true_iff, List.all_eq_true, decide_eq_true_iff]
          constructor
          · rintro ⟨_, h2⟩
            rw [hc.mpr fun z hz => by simpa using h2 z hz]
          · intro z
            exact ⟨ha, fun y hy => by simpa using hc.mp (st_inj (V.str.inj z)) y hy⟩
        rw [e] at k
        exact k
    | _ => exact iteF k

/-- an argument that may be a list of data -/
def LstArg (K : PySem.W.Frag) (H : Hp) (v : V) : Prop := IsDt K H v ∧ ∀ a xs, v = .ref a → Rd H a (.lst xs) → xs.length ≤ sizeLine ∧ ∀ y ∈ xs, ∀ H', Ext H H' → IsDt K H' y
/-- b: it is a list whose members are all so -/
def AllSo (H : Hp) (v : V) (p : V → Bool) (b : Bool) : Prop := (∀ a xs, v = .ref a → Rd H a (.lst xs) → b = xs.all p) ∧ ((∀ a xs, ¬ (v = .ref a ∧ Rd H a (.lst xs))) → b = false)
theorem Rd.inj {H : Hp} {a : Addr} {xs ys : List V} (h : Rd H a (.lst xs)) (h' : Rd H a (.lst ys)) : xs = ys := by
  rcases h with h | ⟨o, h⟩ <;> rcases h' with h' | ⟨o', h'⟩ <;> rw [h] at h' <;> cases h' <;> rfl
theorem AllSo.of {H : Hp} {a : Addr} {xs : List V} {p : V → Bool} (h : Rd H a (.lst xs)) : AllSo H (.ref a) p (xs.all p) :=
  ⟨fun b ys e h' => by cases e; rw [h.inj h'], fun z => absurd ⟨rfl, h⟩ (z a xs)⟩
theorem AllSo.eq {H : Hp} {a : Addr} {xs : List V} {p : V → Bool} {b : Bool} (h : Rd H a (.lst xs)) (q : AllSo H (.ref a) p b) : b = xs.all p := q.1 a xs rfl h
def spAreWords (K : PySem.W.Frag) : Sp := fun vs H Q _ => ∃ v letters, vs = [v, sv letters] ∧ LstArg K H v ∧ (∀ a xs, v = .ref a → Rd H a (.lst xs) → ∀ x, V.str x ∈ xs → x.length ≤ sizeLine) ∧
  ∀ b H', Ext H H' → AllSo H v (isWordV letters) b → Q (.bl b) H'
theorem ok_are_words (D : Def K mg "are_words" "are_words" Pl.s_are_words ["values", "letters"]) (B : Bare mg) (C1 : Cal P w K mg base CX0 1 "is_word" ["value", "letters"] (spIsWord K)) :
    Cal P w K mg base CX0 2 "are_words" ["values", "letters"] (spAreWords K) := by
  have sc : FnScope ["values", "letters"] ["values", "letters"] (defScope Pl.s_are_words) := ⟨rfl, rfl, rfl, by decide +kernel, rfl, by decide +kernel, by decide +kernel⟩
  refine D.cal fun f fd F => F.ok sc (fun vs H Q E h => ?_) (fun cdv A outer s H vs Q E hr h => ?_)
  · obtain ⟨v, l, rfl, _⟩ := h
    rfl
  · obtain ⟨v, letters, rfl, ⟨hd, hl⟩, hz, k⟩ := h
    have nd : (["value", "letters"] : List Str).Nodup := by decide +kernel
    refine ⟨_, pss_one (ps_ret (pe_and (pe_isi_list B (pv 0)) (pe_one (pe_callB (call_all_bl rfl) (by rfl) B.all Boot.«all» (pa_cons
      (pe_comp (N' := ["value", "letters"]) (js := [none, some 1]) (.of (by kernel_rfl)) rfl (pi_list (pv 0)) fun C fp s₀ H₀ => ⟨pg_name (i := 0) nd rfl (Or.inl rfl), pts_nil,
        pe_callF C1 hr (pa_cons (pv 0) (pa_cons (pv 1) pa_nil)) pass0⟩) pa_nil))))), ?_⟩
    obtain ⟨t, b, ty, e, hb⟩ := isi_list hd
    refine ⟨_, rfl, _, _, t, _, rfl, trivial, ty, e, _, rfl, ?_⟩
    cases b with
    | false =>
      refine iteF (k false H (Ext.refl _) ⟨fun a xs e h => ?_, fun _ => rfl⟩)
      exact absurd (hb.mpr ⟨a, xs, e, h⟩) (by decide)
    | true =>
      refine iteT ?_
      obtain ⟨a, xs, rfl, hr2⟩ := hb.mp rfl
      have hq : SqL K H a xs := .inl hr2
      refine ⟨_, rfl, a, rfl, ⟨xs, hq⟩, ?_⟩
      obtain ⟨hl1, hl2⟩ := hl a xs rfl hr2
      refine block_map1 hq hl1 (fun y => .bl (isWordV letters y)) (fun y H' hy x1 Q' k' => ?_) (fun D H' _ x1 hD => ?_)
      · exact ⟨_, rfl, _, rfl, y, letters, rfl, hl2 y hy H' x1, fun x e => hz a xs rfl hr2 x (e ▸ hy), k' _ H' (Ext.refl _) rfl⟩
      · refine ⟨D, xs.map (isWordV letters), rfl, SqL.of (by rw [hD, List.map_map]; rfl), ?_⟩
        have := k (xs.all (isWordV letters)) H' x1 (AllSo.of hr2)
        rw [List.all_map]
        exact this
/-- the letters a to z -/
def az : W := [97, 98, 99, 100, 101, 102, 103, 104, 105, 106, 107, 108, 109, 110, 111, 112, 113, 114, 115, 116, 117, 118, 119, 120, 121, 122]
theorem az_eq : (Str.ofString "abcdefghijklmnopqrstuvwxyz") = st az := by decide +kernel
def spIsCode (K : PySem.W.Frag) : Sp := fun vs H Q _ => ∃ v, vs = [v] ∧ LstArg K H v ∧ (∀ a xs, v = .ref a → Rd H a (.lst xs) → ∀ x, V.str x ∈ xs → x.length ≤ sizeLine) ∧ ∀ b H', Ext H H' → AllSo H v (isWordV az) b → Q (.bl b) H'
theorem ok_is_code (D : Def K mg "is_code" "is_code" Pl.s_is_code ["value"]) (L : ∃ t, mg "LETTERS" = some (.str "abcdefghijklmnopqrstuvwxyz" t)) (C1 : Cal P w K mg base CX0 2 "are_words" ["values", "letters"] (spAreWords K)) :
    Cal P w K mg base CX0 3 "is_code" ["value"] (spIsCode K) := by
  have sc : FnScope ["value"] ["value"] (defScope Pl.s_is_code) := ⟨rfl, rfl, rfl, by decide +kernel, rfl, by decide +kernel, by decide +kernel⟩
  obtain ⟨tk, hL⟩ := L
  refine D.cal fun f fd F => F.ok sc (fun vs H Q E h => ?_) (fun cdv A outer s H vs Q E hr h => ?_)
  · obtain ⟨v, rfl, _⟩ := h
    rfl
  · obtain ⟨v, rfl, hl, hz, k⟩ := h
    refine ⟨_, pss_one (ps_ret (pe_callF C1 hr (pa_cons (pv 0) (pa_cons (pe_glob (v := sv az) (by rfl) hL ⟨tk, by rw [az_eq]⟩) pa_nil)) pass0)), ?_⟩
    exact ⟨_, rfl, v, az, rfl, hl, hz, k⟩
/-- a place below n -/
def isPlaceV (n : Int) : V → Bool
  | .int i => decide (0 ≤ i) && decide (i < n)
  | _ => false
def spIsPlace (K : PySem.W.Frag) : Sp := fun vs H Q _ => ∃ v n, vs = [v, .int n] ∧ IsDt K H v ∧ Q (.bl (isPlaceV n v)) H
theorem ok_is_place (D : Def K mg "is_place" "is_place" Pl.s_is_place ["value", "count"]) (C1 : Cal P w K mg base CX0 1 "is_whole" ["value"] (spIsWhole K)) : Cal P w K mg base CX0 2 "is_place" ["value", "count"] (spIsPlace K) := by
  have sc : FnScope ["value", "count"] ["value", "count"] (defScope Pl.s_is_place) := ⟨rfl, rfl, rfl, by decide +kernel, rfl, by decide +kernel, by decide +kernel⟩
  refine D.cal fun f fd F => F.ok sc (fun vs H Q E h => ?_) (fun cdv A outer s H vs Q E hr h => ?_)
  · obtain ⟨v, n, rfl, _⟩ := h
    rfl
  · obtain ⟨v, n, rfl, hd, k⟩ := h
    refine ⟨_, pss_one (ps_ret (pe_and (pe_callF C1 hr (pa_cons (pv 0) pa_nil) pass0) (pe_one (pe_chain op_le op_lt pe_int (pv 0) (pv 1))))), ?_⟩
    refine ⟨_, rfl, v, rfl, hd, _, rfl, ?_⟩
    cases v with
    | int i =>
      refine iteT ?_
      refine ⟨_, rfl, _, _, rfl, rfl, _, rfl, ?_⟩
      by_cases h0 : (0 : Int) ≤ i
      · refine iteT' (by simpa using h0) ?_
        refine ⟨_, rfl, _, _, rfl, rfl, ?_⟩
        have e : isPlaceV n (.int i) = decide (i < n) := by show (decide (0 ≤ i) && decide (i < n)) = _; rw [decide_eq_true h0, Bool.true_and]
        rw [e] at k
        exact k
      · refine iteF' (by simpa using h0) ?_
        have e : isPlaceV n (.int i) = false := by show (decide (0 ≤ i) && decide (i < n)) = _; rw [decide_eq_false h0, Bool.false_and]
        rw [e] at k
        first | exact k | (rw [decide_eq_false h0]; exact k)
    | _ => exact iteF' (fun z => Bool.noConfusion z) k
end
end L2


set_option linter.all false
namespace Tw
/-- the text of a reading, by words -/
abbrev Code := List W
def textOf (c : Code) (r : List Nat) : W := (r.map fun i => c.getD i []).flatten
theorem textOf_nil (c : Code) : textOf c [] = [] := rfl
theorem textOf_cons (c : Code) (i : Nat) (r : List Nat) : textOf c (i :: r) = c.getD i [] ++ textOf c r := rfl
theorem textOf_append (c : Code) (r q : List Nat) : textOf c (r ++ q) = textOf c r ++ textOf c q := by
  induction r with
  | nil => rfl
  | cons i r ih => rw [List.cons_append, textOf_cons, textOf_cons, ih, List.append_assoc]
def IsReading (c : Code) (r : List Nat) : Prop := ∀ i ∈ r, i < c.length
end Tw


set_option Elab.async false
set_option linter.all false
set_option maxRecDepth 100000
set_option maxHeartbeats 4000000
namespace L2
open PySem PySem.Spec PyProof.Rows Tw
section
variable {P : Program} {w : World} {K : PySem.W.Frag} {mg : Str → Option Value} {base : Heap}
def spArePlaces (K : PySem.W.Frag) : Sp := fun vs H Q _ => ∃ v n, vs = [v, .int n] ∧ LstArg K H v ∧ ∀ b H', Ext H H' → AllSo H v (isPlaceV n) b → Q (.bl b) H'
theorem ok_are_places (D : Def K mg "are_places" "are_places" Pl.s_are_places ["values", "count"]) (B : Bare mg) (C1 : Cal P w K mg base CX0 2 "is_place" ["value", "count"] (spIsPlace K)) :
    Cal P w K mg base CX0 3 "are_places" ["values", "count"] (spArePlaces K) := by
  have sc : FnScope ["values", "count"] ["values", "count"] (defScope Pl.s_are_places) := ⟨rfl, rfl, rfl, by decide +kernel, rfl, by decide +kernel, by decide +kernel⟩
  refine D.cal fun f fd F => F.ok sc (fun vs H Q E h => ?_) (fun cdv A outer s H vs Q E hr h => ?_)
  · obtain ⟨v, l, rfl, _⟩ := h
    rfl
  · obtain ⟨v, n, rfl, ⟨hd, hl⟩, k⟩ := h
    have nd : (["value", "count"] : List Str).Nodup := by decide +kernel
    refine ⟨_, pss_one (ps_ret (pe_and (pe_isi_list B (pv 0)) (pe_one (pe_callB (call_all_bl rfl) (by rfl) B.all Boot.«all» (pa_cons
      (pe_comp (N' := ["value", "count"]) (js := [none, some 1]) (.of (by kernel_rfl)) rfl (pi_list (pv 0)) fun C fp s₀ H₀ => ⟨pg_name (i := 0) nd rfl (Or.inl rfl), pts_nil,
        pe_callF C1 hr (pa_cons (pv 0) (pa_cons (pv 1) pa_nil)) pass0⟩) pa_nil))))), ?_⟩
    obtain ⟨t, b, ty, e, hb⟩ := isi_list hd
    refine ⟨_, rfl, _, _, t, _, rfl, trivial, ty, e, _, rfl, ?_⟩
    cases b with
    | false =>
      refine iteF (k false H (Ext.refl _) ⟨fun a xs e h => ?_, fun _ => rfl⟩)
      exact absurd (hb.mpr ⟨a, xs, e, h⟩) (by decide)
    | true =>
      refine iteT ?_
      obtain ⟨a, xs, rfl, hr2⟩ := hb.mp rfl
      have hq : SqL K H a xs := .inl hr2
      refine ⟨_, rfl, a, rfl, ⟨xs, hq⟩, ?_⟩
      obtain ⟨hl1, hl2⟩ := hl a xs rfl hr2
      refine block_map1 hq hl1 (fun y => .bl (isPlaceV n y)) (fun y H' hy x1 Q' k' => ?_) (fun D H' _ x1 hD => ?_)
      · exact ⟨_, rfl, _, rfl, y, n, rfl, hl2 y hy H' x1, k' _ H' (Ext.refl _) rfl⟩
      · refine ⟨D, xs.map (isPlaceV n), rfl, SqL.of (by rw [hD, List.map_map]; rfl), ?_⟩
        have := k (xs.all (isPlaceV n)) H' x1 (AllSo.of hr2)
        rw [List.all_map]
        exact this
/-- a list of words stands at a; of places -/
def CodeAt (K : PySem.W.Frag) (H : Hp) (a : Addr) (ws : List W) : Prop := SqL K H a (ws.map sv) ∧ ws.length ≤ 10000 ∧ ∀ x ∈ ws, x.length ≤ 10000
def PlacesAt (K : PySem.W.Frag) (H : Hp) (a : Addr) (r : List Nat) : Prop := SqL K H a (r.map fun (i : Nat) => V.int i) ∧ r.length ≤ 100000
theorem Ext.code {H H' : Hp} {a : Addr} {ws : List W} (x : Ext H H') (h : CodeAt K H a ws) : CodeAt K H' a ws := ⟨x.sqL h.1, h.2⟩
theorem small_line {n : Nat} (h : n ≤ 1000000) : n ≤ sizeLine := Nat.le_trans h (by decide)
def spWordsAt (K : PySem.W.Frag) : Sp := fun vs H Q _ => ∃ (a b : Addr) (ws : List W) (r : List Nat), vs = [.ref a, .ref b] ∧ CodeAt K H a ws ∧ PlacesAt K H b r ∧ (∀ i ∈ r, i < ws.length) ∧
  ∀ D H', H D = none → Ext H H' → H' D = some (.lst ((r.map fun i => ws.getD i []).map sv)) → Q (.ref D) H'
theorem ok_words_at (D : Def K mg "words_at" "words_at" Pl.s_words_at ["code", "places"]) : Cal P w K mg base CX0 1 "words_at" ["code", "places"] (spWordsAt K) := by
  have sc : FnScope ["code", "places"] ["code", "places"] (defScope Pl.s_words_at) := ⟨rfl, rfl, rfl, by decide +kernel, rfl, by decide +kernel, by decide +kernel⟩
  refine D.cal fun f fd F => F.ok sc (fun vs H Q E h => ?_) (fun cdv A outer s H vs Q E hr h => ?_)
  · obtain ⟨_, _, _, _, rfl, _⟩ := h
    rfl
  · obtain ⟨a, b, ws, r, rfl, hc, hp, hin, k⟩ := h
    have nd : (["place", "code"] : List Str).Nodup := by decide +kernel
    refine ⟨_, pss_one (ps_ret (pe_comp (N' := ["place", "code"]) (js := [none, some 0]) (.of (by kernel_rfl)) rfl (pi_list (pv 1)) fun C fp s₀ H₀ => ⟨pg_name (i := 0) nd rfl (Or.inl rfl), pts_nil,
        pe_ix (r := rIxL K) ix_list (pv 1) (pv 0) (fun _ _ => rfl)⟩)), ?_⟩
    refine ⟨_, rfl, b, rfl, ⟨_, hp.1⟩, ?_⟩
    refine block_map1 hp.1 (by rw [List.length_map]; exact small_line (by have := hp.2; omega)) (fun y => match y with | .int i => sv (ws.getD i.toNat []) | _ => .non) (fun y H' hy x1 Q' k' => ?_) (fun D H' h1 x1 hD => ?_)
    · obtain ⟨i, hi, rfl⟩ := List.mem_map.mp hy
      have hlt := hin i hi
      have hc' := (x1.code hc).1
      refine ⟨_, rfl, _, rfl, a, _, (i : Int), sv (ws.getD i []), rfl, rfl, hc', atI_nat (by rw [List.getElem?_map]; simp [hlt]), k' _ H' (Ext.refl _) rfl⟩
    · refine k D H' h1 x1 ?_
      rw [hD, List.map_map, List.map_map]
      rfl
def spJoined (K : PySem.W.Frag) : Sp := fun vs H Q _ => ∃ (a b : Addr) (ws : List W) (r : List Nat), vs = [.ref a, .ref b] ∧ CodeAt K H a ws ∧ PlacesAt K H b r ∧ (∀ i ∈ r, i < ws.length) ∧ (textOf ws r).length ≤ 1000000 ∧
  ∀ H', Ext H H' → Q (sv (textOf ws r)) H'
theorem ok_joined (D : Def K mg "joined" "joined" Pl.s_joined ["code", "places"]) (C1 : Cal P w K mg base CX0 1 "words_at" ["code", "places"] (spWordsAt K)) : Cal P w K mg base CX0 2 "joined" ["code", "places"] (spJoined K) := by
  have sc : FnScope ["code", "places"] ["code", "places"] (defScope Pl.s_joined) := ⟨rfl, rfl, rfl, by decide +kernel, rfl, by decide +kernel, by decide +kernel⟩
  refine D.cal fun f fd F => F.ok sc (fun vs H Q E h => ?_) (fun cdv A outer s H vs Q E hr h => ?_)
  · obtain ⟨_, _, _, _, rfl, _⟩ := h
    rfl
  · obtain ⟨a, b, ws, r, rfl, hc, hp, hin, hz, k⟩ := h
    refine ⟨_, pss_one (ps_ret (pe_bm PySem.F.plainAttrs_str PySem.F.slot_str_join PySem.F.type_str_join mt_join pe_str (pa_cons (pe_callF C1 hr (pa_cons (pv 0) (pa_cons (pv 1) pa_nil)) pass0) pa_nil))), ?_⟩
    refine ⟨rfl, _, rfl, _, rfl, a, b, ws, r, rfl, hc, hp, hin, fun D H' h1 x1 hD => ?_⟩
    refine ⟨D, r.map fun i => ws.getD i [], rfl, rfl, SqL.of hD, ?_, k H' x1⟩
    have e : ((r.map fun i => ws.getD i []).map List.length).sum = (textOf ws r).length := by rw [textOf, List.length_flatten]
    rw [e]; omega
end
end L2


set_option Elab.async false
set_option linter.all false
set_option maxRecDepth 100000
set_option maxHeartbeats 1500000
namespace L2
open PySem
/-! ### trees that write no third field: what an exception's context was, it is -/
def Soft (f : Obj → Obj) : Prop := ∀ o vs, o.data = .fields vs → ∃ vs', (f o).data = .fields vs' ∧ vs'[2]? = vs[2]?
def Mild {α : Type} : Sem α → Prop
  | .rule _ k => Mild (k ())
  | .at _ k => Mild (k ())
  | .load _ _ k => ∀ o, Mild (k o)
  | .update _ _ f k => Soft f ∧ Mild (k ())
  | .alloc _ k => ∀ n, Mild (k n)
  | .loadIfAlive _ k => ∀ o, Mild (k o)
  | .point _ k => Mild (k ())
  | .fresh k => ∀ n, Mild (k n)
  | .ask k => ∀ x, Mild (k x)
  | .handled _ k => ∀ x, Mild (k x)
  | .stack k => ∀ x, Mild (k x)
  | .thread k => ∀ x, Mild (k x)
  | .pure _ => True
  | .raise _ => True
  | .unsupported _ => True
  | .finish _ => True
  | _ => False
/-- the third field of the record at e -/
def Third (e : Addr) (v : Value) (h : Heap) : Prop := ∃ o vs, h.get? e = some o ∧ o.data = .fields vs ∧ vs[2]? = some v
theorem Third.upd {e a : Addr} {v : Value} {h : Heap} {f : Obj → Obj} (x : Third e v h) (hf : Soft f) : Third e v (h.update a f) := by
  obtain ⟨o, vs, h1, h2, h3⟩ := x
  by_cases z : a = e
  · subst z
    obtain ⟨vs', g1, g2⟩ := hf o vs h2
    exact ⟨f o, vs', Heap.get?_update_self f h1 (Obj.isFreed_of_fields g1), g1, g2.trans h3⟩
  · exact ⟨o, vs, (Heap.get?_update_other _ _ z).trans h1, h2, h3⟩
theorem mild_wp {α : Type} {M : Model} {Γ : Ctx} {e : Addr} {v : Value} : ∀ {t : Sem α} {Q : α → Pos → Shared → Prop} {E : Value → Pos → Shared → Prop} {p : Pos} {s : Shared}, Mild t → Third e v s.heap → Sem.wp M Γ t Q E p s →
    Sem.wp M Γ t (fun a p' s' => Q a p' s' ∧ Third e v s'.heap) (fun x p' s' => E x p' s' ∧ Third e v s'.heap) p s := by
  intro t
  induction t with
  | pure a => exact fun _ x h => ⟨h, x⟩
  | raise u => exact fun _ x h => ⟨h, x⟩
  | unsupported u => exact fun _ _ h => h
  | finish u => exact fun _ _ h => h
  | rule _ k ih => exact fun m x h => ih () m x h
  | «at» _ k ih => exact fun m x h => ih () m x h
  | load a _ k ih => exact fun m x h => h.imp fun o q => ⟨q.1, ih o (m o) x q.2⟩
  | update a _ f k ih => exact fun m x h => ⟨h.1, ih () m.2 (x.upd m.1) h.2⟩
  | alloc o k ih => exact fun m x h => ih _ (m _) (let ⟨u, vs, q⟩ := x; ⟨u, vs, Heap.get?_push_of_some _ q.1, q.2⟩) h
  | loadIfAlive a k ih => exact fun m x h => ih _ (m _) x h
  | point _ k ih => exact fun m x h => ih () m x h
  | fresh k ih => exact fun m x h => ih _ (m _) x h
  | ask k ih => exact fun m x h => ih _ (m _) x h
  | handled _ k ih => exact fun m x h => ih _ (m _) x h
  | stack k ih => exact fun m x h => ih _ (m _) x h
  | thread k ih => exact fun m x h => ih _ (m _) x h
  | _ => exact fun m _ _ => m.elim
theorem Mild.bind {α β : Type} {f : α → Sem β} : ∀ {t : Sem α}, Mild t → (∀ a, Mild (f a)) → Mild (t.bind f) := by
  intro t
  induction t with
  | pure a => exact fun _ h => h a
  | raise u => exact fun _ _ => trivial
  | unsupported u => exact fun _ _ => trivial
  | finish u => exact fun _ _ => trivial
  | rule _ k ih => exact fun m h => ih () m h
  | «at» _ k ih => exact fun m h => ih () m h
  | load a _ k ih => exact fun m h o => ih o (m o) h
  | update a _ f k ih => exact fun m h => ⟨m.1, ih () m.2 h⟩
  | alloc o k ih => exact fun m h n => ih n (m n) h
  | loadIfAlive a k ih => exact fun m h o => ih o (m o) h
  | point _ k ih => exact fun m h => ih () m h
  | fresh k ih => exact fun m h n => ih n (m n) h
  | ask k ih => exact fun m h n => ih n (m n) h
  | handled _ k ih => exact fun m h n => ih n (m n) h
  | stack k ih => exact fun m h n => ih n (m n) h
  | thread k ih => exact fun m h n => ih n (m n) h
  | _ => exact fun m _ => m.elim
/-- .. and so every promise of such a tree may be told with the field -/
theorem wpAny_third {α : Type} {M : Model} {A : Around} {t : Sem α} {Q : α → Shared → Prop} {E : Value → Shared → Prop} {s : Shared} {e : Addr} {v : Value} (m : Mild t) (x : Third e v s.heap) (h : wpAny M A t Q E s) :
    wpAny M A t (fun a s' => Q a s' ∧ Third e v s'.heap) (fun u s' => E u s' ∧ Third e v s'.heap) s := fun Γ p g => mild_wp m x (h Γ p g)
theorem mild_field (v : Value) (i : Nat) : Mild (field v i) := by
  have f : Mild (fieldsOf v) := by
    cases v with
    | ref a =>
      intro o
      show Mild (match o.data with | .fields vs => pure vs | _ => unsupported "internal:no-fields")
      split <;> trivial
    | _ => trivial
  refine f.bind fun vs => ?_
  split <;> trivial
theorem soft_set {i : Nat} (h : i ≠ 2) (x : Value) : Soft (Obj.mapFields (·.setIfInBounds i x)) := fun o vs e => ⟨_, Obj.data_mapFields e _, by rw [Array.getElem?_setIfInBounds_ne h]⟩
theorem mild_set {i : Nat} (h : i ≠ 2) (v x : Value) : Mild (setField v i x) := by
  cases v with
  | ref a =>
    intro o
    show Mild (match o.data with | .fields vs => if i < vs.size then update a (Obj.mapFields (·.setIfInBounds i x)) else unsupported "internal:no-such-field" | _ => unsupported "internal:write-to-non-record")
    split
    · split
      · exact ⟨soft_set h x, trivial⟩
      · trivial
    · trivial
  | _ => trivial
theorem mild_flight (v : Value) (f : Option Addr) : Mild (setFlight v f) := by
  refine (mild_field v 1).bind fun tb => ?_
  split
  · exact mild_set (by decide) _ _
  · trivial
theorem mild_back (env : Env) (outer : List Env) : Mild (behindIsImport env outer) := by
  unfold behindIsImport
  split
  · trivial
  · split
    · trivial
    · exact (mild_field _ _).bind fun _ => trivial
theorem mild_ready : ∀ l : List Env, Mild (readyFrames l)
  | [] => trivial
  | env :: outer => by
    unfold readyFrames
    cases env.frame with
    | none => trivial
    | some f =>
      intro o
      show Mild (if (o.slots.getD 3 none).isSome = true then pure () else _)
      split
      · trivial
      · refine (mild_back env outer).bind fun im => ?_
        have kb : Mild (keptBack env im outer) := by
          unfold keptBack
          cases outer with
          | nil =>
            dsimp only
            split
            · trivial
            · intro x; trivial
          | cons c r => trivial
        exact kb.bind fun b => ⟨fun o vs e => ⟨vs, e, rfl⟩, mild_ready outer⟩
theorem mild_newRec (ty : String) (vs : List Value) : Mild (newFields ty vs) := by
  unfold newFields newObj
  dsimp only
  split
  · trivial
  · exact fun n => trivial
theorem mild_note (v : Value) (env : Env) : Mild (noteFrame v env) := by
  unfold noteFrame
  cases env.frame with
  | none => trivial
  | some f =>
    have tail : ∀ head : Value, Mild (do setField v 1 (← EntryCells.newEntry head (← frameOf env) .none (rawInt f) .none (← entryPlaceOf f (head != .none)))) := fun head => by
      have fr : Mild (frameOf env) := by
        unfold frameOf
        refine Mild.bind (show Mild frameEnvs from fun _ => trivial) fun l => Mild.bind ?_ fun r => by split <;> trivial
        unfold frameObject
        split
        · trivial
        · exact (mild_ready _).bind fun _ => trivial
      have pl : Mild (entryPlaceOf f (head != .none)) := by
        unfold entryPlaceOf
        exact Mild.bind (show Mild stack from fun _ => trivial) fun acts => by split <;> trivial
      have ne : ∀ a l, Mild (EntryCells.newEntry head a .none (rawInt f) .none l) := fun a l => mild_newRec "traceback" _
      exact fr.bind fun a => pl.bind fun l => (ne a l).bind fun b => mild_set (by decide) v b
    refine (mild_field v 1).bind fun head => ?_
    split
    · refine (mild_field head 3).bind fun x => ?_
      split
      · trivial
      · exact (mild_set (by decide) head .none).bind fun _ => tail head
    · exact tail head
theorem mild_leave (env : Env) (v : Value) : Mild (leaving env v) := (mild_note v env).bind fun _ => mild_flight v none
end L2


set_option Elab.async false
set_option linter.all false
set_option maxRecDepth 100000
set_option maxHeartbeats 4000000
namespace L2
open PySem PySem.Spec PyProof.Rows
/-! ### exceptions that leave a def -/
section
variable {P : Program} {w : World} {H : Hp} {h : Heap} {a : Addr} {o : HO}
theorem ObjOk.there (x : ObjOk P w H h a o) : ∃ ob, h.get? a = some ob := by
  cases o with
  | lst xs => obtain ⟨_, _, _, _, e⟩ := x; exact ⟨_, e⟩
  | tup xs => obtain ⟨_, _, _, ob, e, _⟩ := x; exact ⟨_, e⟩
  | dK kvs => obtain ⟨_, _, _, _, ob, _, _, e, _⟩ := x; exact ⟨_, e⟩
  | dT kvs => obtain ⟨_, _, _, _, ob, _, _, e, _⟩ := x; exact ⟨_, e⟩
  | set S n => obtain ⟨ob, _, _, _, e, _⟩ := x; exact ⟨_, e⟩
  | ins C dx fs => obtain ⟨_, _, _, e, _⟩ := x; exact ⟨_, e⟩
  | own y => exact x
  | xd fs => obtain ⟨_, ⟨_, _, _, e, _⟩, _⟩ := x; exact ⟨_, e⟩
  | rng lo hi => obtain ⟨_, _, _, e⟩ := x; exact ⟨_, e⟩
  | frz ob u => exact ⟨_, x.1⟩
  | tbl ps => exact ⟨_, (show h.get? a = some _ from x)⟩
  | met f y => exact ⟨_, (show h.get? a = some _ from x)⟩
  | ext φ => exact x.2.1
end
/-- an exception has left a call that began at (H, s) -/
structure Flies (P : Program) (w : World) (outer : List Env) (H : Hp) (s : Shared) (ea : Addr) (cls : Value) (H' : Hp) (s' : Shared) : Prop where
  os : s'.os = s.os
  bare : AllBare s'.gens
  un : Un (frs outer) [] H H' s.heap s'.heap
  hok : HOk P w H' s'.heap
  fly : ∃ B a0, Heap.FlyingW B outer ea cls a0 s'.heap ∧ ∀ b o, s'.heap.get? b = some o → b ∉ frs outer → ((∃ o', s.heap.get? b = some o') ∨ ∃ u, H' b = some u) → B.get? b = some o
  ctx : Third ea .none s'.heap
def CX1 (P : Program) (w : World) : CXT := fun outer H s E e s' => ∃ ea cls H', e = .ref ea ∧ Flies P w outer H s ea cls H' s' ∧ E cls none H'
section
variable {X : Cx} {pins : List (Addr × Obj)} {σ : St} {H1 H' : Hp} {s1 s' : Shared} {ea : Addr} {cls a0 : Value} {B h' : Heap}
theorem mv_un (I : Inv X pins σ H1 s1) (I' : Inv X pins σ H' s') (hex : X.ex = [])
    (hB : ∀ b o, s'.heap.get? b = some o → b ∉ frs X.stack → ((∃ o', s1.heap.get? b = some o') ∨ ∃ u, H' b = some u) → h'.get? b = some o) (up : s'.heap.UpToSlots h') :
    Un X.fs [] X.H₀ H' X.s₀.heap h' ∧ HOk X.prog X.w H' h' := by
  have nx : ∀ b, b ∉ X.ex := fun b => by rw [hex]; simp
  have old : ∀ b o, X.s₀.heap.get? b = some o → b ∉ X.fs → b ∉ frs X.stack := fun b o e hb hs => by
    rcases List.mem_cons.mp (I.stkSub b hs) with z | z
    · have l := Nat.lt_of_lt_of_le (Heap.lt_size e) I.ok.above
      rw [z] at l
      exact Nat.lt_irrefl _ l
    · exact hb z
  refine ⟨⟨fun b o q n hf _ => ?_, fun b o q n hf _ => ?_, fun b o q n _ => I'.base.free b o q n (nx b), fun b o q _ => ?_, I'.base.tups, I'.base.frzs, I'.base.tbls⟩, fun a o e => ?_⟩
  · exact hB b o (I'.base.keep b o q n hf (nx b)) (old b o q hf) (.inl (I.base.there b o q (nx b)))
  · obtain ⟨sl, q1⟩ := I'.base.slot b o q n hf (nx b)
    obtain ⟨_, o1, ho1, hd⟩ := I.ok.funs.mem hf
    rw [q] at ho1
    cases ho1
    obtain ⟨sl2, q2⟩ := up b _ q1 hd
    exact ⟨sl2, q2⟩
  · obtain ⟨o1, q1⟩ := I'.base.there b o q (nx b)
    by_cases hs : b ∈ frs X.stack
    · obtain ⟨_, o2, q2, hd⟩ := I'.stack.mem hs
      obtain ⟨sl, q3⟩ := up b o2 q2 hd
      exact ⟨_, q3⟩
    · exact ⟨o1, hB b o1 q1 hs (.inl (I.base.there b o q (nx b)))⟩
  · refine (I'.hok a o e).stay (fun b u hb q => ?_) (fun _ q => q) fun _ _ q => q
    have tr : ∃ v, H' b = some v := by
      rcases hb with z | z
      · exact ⟨_, z ▸ e⟩
      · exact ⟨_, z⟩
    refine hB b u q (fun hs => ?_) (.inr tr)
    obtain ⟨v, hv⟩ := tr
    rw [I'.stkFree b hs] at hv
    cases hv
theorem flies_of (I : Inv X pins σ H1 s1) (I' : Inv X pins σ H' s') (hex : X.ex = [])
    (hB : ∀ b o, s'.heap.get? b = some o → b ∉ frs X.stack → ((∃ o', s1.heap.get? b = some o') ∨ ∃ u, H' b = some u) → B.get? b = some o)
    (fl : Heap.FlyingW B X.outer ea cls a0 h') (up : s'.heap.UpToSlots h') (cx : Third ea .none h') : Flies X.prog X.w X.outer X.H₀ X.s₀ ea cls H' { s' with heap := h' } := by
  obtain ⟨un, hok⟩ := mv_un (h' := h') I I' hex (fun b o q hs c => fl.1 b o (hB b o q hs c)) up
  refine ⟨I'.os, I'.bare, un, hok, ⟨B, a0, fl, fun b o q hf c => ?_⟩, cx⟩
  have nx : ∀ b, b ∉ X.ex := fun b => by rw [hex]; simp
  have hs : b ∉ frs X.stack := fun hs => by
    rcases List.mem_cons.mp (I.stkSub b hs) with z | z
    · rcases c with ⟨o', e⟩ | ⟨u, e⟩
      · have l := Nat.lt_of_lt_of_le (Heap.lt_size e) I.ok.above
        rw [z] at l
        exact Nat.lt_irrefl _ l
      · rw [z, I'.free] at e
        cases e
    · exact hf z
  have ⟨o2, q2⟩ : ∃ o2, s'.heap.get? b = some o2 := by
    rcases c with ⟨o', e⟩ | ⟨u, e⟩
    · exact I'.base.there b o' e (nx b)
    · exact (I'.hok b u e).there
  have c1 : (∃ o', s1.heap.get? b = some o') ∨ ∃ u, H' b = some u := by
    rcases c with ⟨o', e⟩ | c
    · exact .inl (I.base.there b o' e (nx b))
    · exact .inr c
  have q3 := hB b o2 q2 hs c1
  have q4 := fl.1 b o2 q3
  have q' : h'.get? b = some o := q
  rw [q'] at q4
  cases q4
  exact q3
end
section
variable {P : Program} {w : World} {K : PySem.W.Frag} {mg : Str → Option Value} {base : Heap} {N : List Str} {qual : Str} {scope : Scope} {f : Addr} {cd : Value} {A : Around} {outer : List Env} {s : Shared} {H : Hp} {E : XK}
/-- an exception made here goes out -/
def Raises (X : Cx) (E : XK) : Prop := ∀ (pins : List (Addr × Obj)) (σ : St) (H1 : Hp) (s1 : Shared) (h2 : Heap) (ea : Addr) (cls : Value) (args : List Value), Inv X pins σ H1 s1 → Heap.MadeExcOf s1.heap h2 ea cls args → E cls none H1 → X.xe (.ref ea) { s1 with heap := h2 }
theorem raisesX : Raises (cxOf (CX1 P w) P w K mg base N qual scope f cd A outer s H E) E := by
  intro pins σ H1 s1 h2 ea cls args I hm q
  show wpAny _ _ (leaving _ (.ref ea)) _ _ _
  have hin : ∀ env ∈ (cxOf (CX1 P w) P w K mg base N qual scope f cd A outer s H E).stack, ∀ a, env.frame = some a → a ∈ frs (cxOf (CX1 P w) P w K mg base N qual scope f cd A outer s H E).stack := fun env he a ha => List.mem_filterMap.mpr ⟨env, he, ha⟩
  have cx0 : Third ea .none h2 := let ⟨t, ht, _⟩ := hm.there; ⟨_, _, ht, rfl, rfl⟩
  have on := wpAny_leaves_madeW (M := model P w) (E := fun _ _ => False) (Q := fun _ s2 => ∃ h' t, s2 = { s1 with heap := h' } ∧ Heap.FlyingW (PySem.W.hideAll s1.heap (frs (cxOf (CX1 P w) P w K mg base N qual scope f cd A outer s H E).stack)) outer ea cls (.ref t) h' ∧ h2.UpToSlots h')
    (s := { s1 with heap := h2 }) (A := A.deeper (envOfC qual scope s.heap.objs.size f cd)) (env := envOfC qual scope s.heap.objs.size f cd) (outer := outer) (h := s1.heap) I.ok.frames rfl
    (fun b o z => PySem.W.of_hideAll _ z) (PySem.W.funFrames_hide I.stack hin) hm fun h' t fl ht htn up => ⟨h', t, rfl, fl, up⟩
  refine wpAny_mono (wpAny_third (mild_leave _ _) cx0 on) (fun _ s2 q2 => ?_) fun _ _ z => z.1.elim
  obtain ⟨⟨h', t, rfl, fl, up⟩, cx⟩ := q2
  exact ⟨ea, cls, H1, rfl, flies_of (X := cxOf (CX1 P w) P w K mg base N qual scope f cd A outer s H E) (s1 := s1) (s' := s1) (h' := h') I I rfl (fun b o z hs _ => PySem.W.hideAll_get _ z hs) fl ((Heap.UpToSlots.of_keeps hm.keeps).trans up) cx, q⟩
/-- THE RULE for a def that may raise -/
theorem Fun.okX {x : Str} {st : Stmt} {fd : FuncData} {ps : List Str} {k : Nat} {sp : Sp} (F : Fun K x qual st f fd) (S : FnScope N ps (defScope st)) (len : ∀ vs H Q E, sp vs H Q E → vs.length = ps.length)
    (hbody : ∀ (cdv : Value) (A : Around) (outer : List Env) (s : Shared) (H : Hp) (vs : List V) (Q : VK) (E : XK), Room k (A.deeper (envOfC qual (defScope st) s.heap.objs.size f cdv)) → sp vs H Q E →
      ∃ t, PSs (cxOf (CX1 P w) P w K mg base N qual (defScope st) f cdv A outer s H E) (defBody st) t ∧ t { nx := fun _ H' => Q .non H', rt := Q } (start N vs) H) : FnOk P w K mg base (CX1 P w) (k + 1) f fd ps sp := by
  obtain ⟨oc, od, kV, doc, pm, an, cdv, ct, osl, rfl, lk, hcd⟩ := F.ex
  exact fn_of lk hcd S len fun A outer s H vs Q E hr hsp => hbody cdv A outer s H vs Q E hr hsp
end
/-! ### raise C(..), C an own class under ValueError -/
theorem exc_at {K : PySem.W.Frag} {h : Heap} {C : Addr} {bmB : List Value} {newId : String} (X : K.In h) (q : PySem.W.excIn K C bmB newId = true) :
    ∃ bm N nm qn bs hd sn sub ab col dd k0 k1 k2 k3 k5 mN, h.get? C = some (excClassObj nm qn C N bs bm hd sn sub ab col dd k0 k1 k2 k3 k5 newId) ∧ h.Ns N mN ∧ mN "__init__" = none ∧ OwnTail h bmB bm := by
  unfold PySem.W.excIn at q
  split at q
  next dd cd sl ho =>
    split at q
    next C1 bm e0 e1 e2 e3 nn e5 hmro hslots =>
      simp only [Bool.and_eq_true, beq_iff_eq, Bool.not_eq_true'] at q
      obtain ⟨⟨⟨⟨⟨rfl, rfl⟩, del⟩, tl⟩, okN⟩, noI⟩ := q
      obtain ⟨c1, c2, c3, c4, c5, c6, c7, c8, c9, c10, c11⟩ := cd
      dsimp only at hmro del okN noI
      subst hmro del
      have es : sl = #[e0, e1, e2, e3, some (.builtin nn), e5] := by
        obtain ⟨ll⟩ := sl
        dsimp only at hslots
        rw [hslots]
      subst es
      exact ⟨bm, c4, c1, c5, c2, c6, c7, c8, c9, c10, dd, e0, e1, e2, e3, e5, _, X _ _ ho, .of_isNs (PySem.W.isNs_of_in X okN), PySem.W.nsMap_none_of_in X okN noI, PySem.W.tail_of_in X tl⟩
    next => cases q
  next => cases q
def bmVE : List Value := [.type "ValueError", .type "Exception", .type "BaseException", .type "object"]
/-- an own class of exceptions under ValueError, by its name -/
structure Exc (K : PySem.W.Frag) (mg : Str → Option Value) (x : Str) (C : Addr) : Prop where
  there : mg x = some (.ref C)
  ok : PySem.W.excIn K C bmVE "ValueError.__new__" = true
def tRaise (E : XK) (c : Value) (te : TE) : TS := fun _ σ H => tCons te tNil σ H fun xs H1 => xs.length ≤ 10 ∧ E c none H1
theorem ps_raise {X : Cx} {E : XK} {x : Str} {C : Addr} {e : Expr} {te : TE} {np cpos pos : Pos} (hR : Raises X E) (hc : X.calm = true) (Z : Exc X.K X.mg x C) (he : PE X e te) (hg : Gl X x := by rfl) (hd : (x == ("__debug__" : Str)) = false := by decide)
    (hs : starEach [e] X.env = (false, eval e X.env) :: starEach [] X.env := by rfl) (hpl : (backTo cpos (starEach [e] X.env)).any (·.1) = false := by rfl) :
    PS X (.Raise (some (.Call (.Name x np) [e] [] cpos)) none pos) (tRaise E (.ref C) te) := by
  intro pins s σ H D I h
  obtain ⟨bm, N, nm, qn, bs, hdc, sn, sub, ab, col, dd, k0, k1, k2, k3, k5, mN, hC, hN, hni, T⟩ := exc_at I.mod.kin Z.ok
  refine wpAny_Raise_call_subT (bmB := bmVE) (nm := nm) (q := qn) (C := C) (N := N) (bs := bs) (bm := bm) (hdct := hdc) (sn := sn) (sub := sub) (ab := ab) (col := col) (dd := dd) (k0 := k0) (k1 := k1) (k2 := k2) (k3 := k3) (k5 := k5) (mN := mN) PySem.F.excBase_ValueError (T.hasType PySem.F.excBase_ValueError.hasBase) (I.ok.hd hc) hpl hni (ld_glob I hg Z.there ⟨rfl, ?_⟩ hd)
  have sp := (pa_cons he pa_nil hs) cpos pins s σ H _ I h
  rw [hs] at sp ⊢
  refine Calls.evalArgs_plain (wpAny_mono sp (fun us s₂ hq => ?_) fun _ _ z => z)
  obtain ⟨xs, H2, I2, r, hl, q2⟩ := hq
  have hl2 : us.length ≤ sizeLine := by
    rw [← r.length]
    exact Nat.le_trans hl (by decide)
  exact ⟨rfl, hl2, I2.bk _ _ hC, hN.keeps I2.bk, T.keeps I2.bk, fun h' ea hm => hR pins σ H2 s₂ h' ea _ _ I2 hm q2⟩
end L2


set_option Elab.async false
set_option linter.all false
set_option maxRecDepth 100000
set_option maxHeartbeats 4000000
namespace L2
open PySem PySem.Spec PyProof.Rows
/-! ### try .. except C as n -/
section
variable {X : Cx} {pins : List (Addr × Obj)} {σ : St} {H H1 H' : Hp} {s s1 s' : Shared} {ea : Addr} {cls a0 : Value} {B h' : Heap} {W : Value → Shared → Prop} {pn : List (Addr × Obj)}
end
end L2


set_option Elab.async false
set_option linter.all false
set_option maxRecDepth 100000
set_option maxHeartbeats 4000000
namespace L2
open PySem PySem.Spec PyProof.Rows Tw
/-! ### d.setdefault(k, x) -/
def tDSd (td ty tx : TE) : TE := fun σ H Q => td σ H fun x H1 => ∃ a, x = .ref a ∧ IsD H1 a ∧ ty σ H1 fun y H2 => tx σ H2 fun z H3 => ∃ kvs k, H3 a = some (.dK kvs) ∧ y = kV k ∧
  (∀ v, valV kvs k = some v → Q v H3) ∧ (valV kvs k = none → kvs.length < sizeLine ∧ Q z (upd H3 a (.dK (putK kvs k z))))
section
variable {X : Cx} {o e f : Expr} {apos cpos : Pos} {td ty tx : TE}
theorem pe_dsd (ho : PE X o td) (he : PE X e ty) (hf : PE X f tx) (m : M2 X o "setdefault" apos e f cpos) : PE X (.Call (.Attribute o "setdefault" apos) [e, f] [] cpos) (tDSd td ty tx) := by
  intro pins s σ H Q I h
  refine wpAny_Call_method m.base m.few m.line PySem.F.plainAttrs_dict PySem.F.slot_dict_setdefault PySem.F.type_dict_setdefault (thn (ho pins s σ H _ I h) fun u s1 ⟨x, H1, I1, rx, a, ex, d, q1⟩ => ?_)
  subst ex
  obtain rfl : u = Value.ref a := rx
  obtain ⟨t1, t2, _⟩ := isD_at I1 d
  refine ⟨t1, t2, ?_⟩
  rw [m.trees]
  refine Calls.callWith_builtin rfl (Calls.evalArgs_plain (Calls.spliced_cons (thn (he pins s1 σ H1 _ I1 q1) fun iv s2 ⟨y, H2, I2, ry, q2⟩ =>
    Calls.spliced_cons (thn (hf pins s2 σ H2 _ I2 q2) fun fv s3 ⟨z, H3, I3, rz, kvs, k, ea, ey, q3, q4⟩ => Calls.spliced_nil ?_))))
  subst ey
  obtain ⟨hz, hd, vs, rel, dd⟩ := dk_of I3.hok ea
  have rv := rel.val k
  refine call_meetsIn PySem.F.slot_dict_setdefault dd.typeIs PySem.F.entry_dict_setdefault (PySem.F.args_dict_setdefault_3 _ _ _) (kt_meets_setdefault (mixKind X.prog X.w) a (kV_is ry) hd fv)
    ⟨vs, dd, by rw [← rel.length]; exact hz, fun w' hw => ?_, fun hn h' dd' hs => ?_⟩
  · cases l : valV kvs k with
    | none => rw [l, hw] at rv; exact rv.elim
    | some v => rw [l, hw] at rv; exact ⟨v, H3, I3.tok _, rv, q3 v l⟩
  · cases l : valV kvs k with
    | some v => rw [l, hn] at rv; exact rv.elim
    | none =>
      obtain ⟨hl, q5⟩ := q4 l
      have hl2 : (putK kvs k z).length ≤ sizeLine := by have := length_putK kvs k z; omega
      have he : ∃ q, h'.get? a = some q := let ⟨q, _, _, hq, _⟩ := dd'; ⟨q, hq⟩
      exact ⟨z, _, d_write I3 (by rw [ea]; exact True.intro) hs he (dk_new hl2 hd (rel.put k rz) dd'), rz, q5⟩
end
/-! ### for i, x in enumerate(l) -/
section
variable {X : Cx} {pins : List (Addr × Obj)} {σ : St} {H H' : Hp} {s : Shared} {h' : Heap}
theorem upd_keep {b t : Addr} {o u : HO} (e : H b = some o) (hn : H t = none) : upd H t u b = some o := by rw [upd_ne (ne_of_none e hn)]; exact e
/-- two records of ours turned, a new tuple laid -/
theorem Inv.turned2 {e it t : Addr} {xs : List V} {tk : Nat} (I : Inv X pins σ H s) (k : ∀ b o, b ≠ e → b ≠ it → s.heap.get? b = some o → h'.get? b = some o) (he : FpOk X pins H e) (hi : FpOk X pins H it) (ht : s.heap.objs.size ≤ t)
    (new : ObjOk X.prog X.w (upd H t (.tup xs)) h' t (.tup xs)) (hle : ∃ o, h'.get? e = some o) (hli : ∃ o, h'.get? it = some o) : Inv X pins σ (upd H t (.tup xs)) { s with heap := h', toks := tk } := by
  have hn : H t = none := I.hok.fresh ht
  have nch : ∀ b, b ∉ [e, it] → b ≠ e ∧ b ≠ it := fun b hb => ⟨fun z => hb (by simp [z]), fun z => hb (by simp [z])⟩
  refine I.step (g' := s.gens) (d' := s.drawn) (ch := [e, it]) (fun b hb => ?_) (fun b o _ _ hc q _ => k b o (nch b hc).1 (nch b hc).2 q) (fun b o _ _ hc q _ => ⟨o.slots, k b o (nch b hc).1 (nch b hc).2 q⟩)
    (fun b o _ q n => by rw [upd_ne (Nat.ne_of_lt (Nat.lt_of_lt_of_le (Heap.lt_size q) ht))]; exact n) (fun b o hc q => ⟨o, k b o (nch b hc).1 (nch b hc).2 q⟩) (fun b ys q => upd_keep q hn) (fun b o u q => upd_keep q hn)
    (fun b ps q => ⟨#[], by rw [upd_keep q hn]; simp⟩) (fun m hm => ?_) (fun b u q => ?_) I.bare
  · rcases List.mem_cons.mp hb with z | hb
    · rw [z]; exact ⟨he.2.2.2.1, he.2.1, he.2.2.2.2.1, he.2.2.2.2.2⟩
    · have z : b = it := by simpa using hb
      rw [z]; exact ⟨hi.2.2.2.1, hi.2.1, hi.2.2.2.2.1, hi.2.2.2.2.2⟩
  · obtain ⟨o, es, ep, ho, r⟩ := hm
    exact ⟨o, es, ep, k _ o he.2.1.symm hi.2.1.symm ho, r⟩
  · by_cases hb : b = t
    · subst hb
      rw [upd_same] at q
      cases q
      exact new
    · rw [upd_ne hb] at q
      refine (I.hok b u q).stay (fun c v hc z => k c v ?_ ?_ z) (fun c z => upd_keep z hn) fun c ys z => upd_keep z hn
      · rintro rfl
        rcases hc with z | z
        · rw [← z, he.1] at q; cases q
        · rw [he.1] at z; cases z
      · rintro rfl
        rcases hc with z | z
        · rw [← z, hi.1] at q; cases q
        · rw [hi.1] at z; cases z
end
/-- (0, x0), (1, x1), ..: a new tuple each -/
def Ite (K : PySem.W.Frag) (a : Addr) : It :=
  ⟨fun i H => ∃ xs x, SqL K H a xs ∧ xs[i]? = some x, fun i H v H' => ∃ t, v = .ref t ∧ H t = none ∧ ∀ xs, SqL K H a xs → ∃ x, xs[i]? = some x ∧ H' = upd H t (.tup [.int i, x]), fun i H => ∃ xs, SqL K H a xs ∧ xs.length ≤ i⟩
theorem turn_enum {P : Program} {w : World} {K : PySem.W.Frag} {elts : List Expr} {x1} {pos : Pos} (a e it : Addr) (hne : e ≠ it) :
    Turn P w K (.Tuple elts x1 pos) (Ite K a) [e, it] e (fun i h => (∃ old, IsEnum h e it i old) ∧ h.IsListIter it a i) where
  mem := by simp
  obj := fun i h st b hb => by
    obtain ⟨⟨old, st1⟩, o, h1, c, d⟩ := st
    rcases List.mem_cons.mp hb with z | hb
    · subst z
      exact ⟨_, st1, fun v z => by
        have z' : Data.fields _ = Data.cell v := z
        cases z'⟩
    · have z : b = it := by simpa using hb
      subst z
      exact ⟨o, h1, fun v z => by rw [d] at z; cases z⟩
  keep := fun i h h' st k => ⟨let ⟨old, q⟩ := st.1; ⟨old, k e (by simp) _ q⟩, st.2.at fun o q => k it (by simp) o q⟩
  item := by
    intro X hP hw hK hc i pins s σ H E I hf st hg
    subst hP hw hK
    obtain ⟨xs, x, hq, hx⟩ := hg
    obtain ⟨⟨old, he⟩, hit⟩ := st
    obtain ⟨its, rv, p, hz⟩ := I.list hq
    obtain ⟨u, hu, ru⟩ := rv.get hx
    refine wpAny_pyNext_enum_item he hit p.isList (x := u) (by simpa using hu) hne fun h' ho hit' hT hsz hk => ?_
    have hfr : H s.heap.objs.size = none := I.hok.fresh (Nat.le_refl _)
    have I1 : Inv X pins σ (upd H s.heap.objs.size (.tup [.int i, x])) { s with heap := h', toks := s.toks + 1 } :=
      I.turned2 hk (hf e (by simp)) (hf it (by simp)) (Nat.le_refl _) ⟨by show 2 ≤ sizeLine; decide, [.int i s.toks, u], .cons ⟨_, rfl⟩ (.cons ru .nil), ⟨_, hT, rfl, _, rfl⟩⟩ ⟨_, ho⟩ (let ⟨o, q, _⟩ := hit'; ⟨o, q⟩)
    refine ⟨_, rfl, wpAny_letOwnedTupleGo_enum (s := { s with heap := h', toks := s.toks + 1 }) ho fun h2 he2 sb2 => ?_⟩
    have hlt : e < s.heap.objs.size := Heap.lt_size he
    have ilt : it < s.heap.objs.size := let ⟨o, q, _⟩ := hit; Heap.lt_size q
    obtain ⟨f0, f1, f2, f3, f4, f5⟩ := hf e (by simp)
    have I2 := I1.turned (h' := h2) (t' := s.toks + 1) (it := e) (fun b o hb q => (sb2.2 b hb).trans q) (by rw [upd_ne (Nat.ne_of_lt hlt)]; exact f0) f1 f3 f4 f5
    refine ⟨.ref s.heap.objs.size, _, I2, rfl, ⟨_, rfl, hfr, fun ys hy => ⟨x, by rw [I.list_inj hy hq]; exact hx, rfl⟩⟩, ⟨⟨_, by simpa using he2⟩, hit'.at fun o q => (sb2.2 it hne.symm).trans q⟩, fun b hb => ?_⟩
    have hb' : b < s.heap.objs.size := by
      rcases List.mem_cons.mp hb with z | hb
      · rw [z]; exact hlt
      · have z : b = it := by simpa using hb
        rw [z]; exact ilt
    rw [upd_ne (Nat.ne_of_lt hb')]
    exact (hf b hb).1
  done := by
    intro X hP hw hK hc i pins s σ H E I hf st hg
    subst hP hw hK
    obtain ⟨xs, hq, hx⟩ := hg
    obtain ⟨⟨old, he⟩, hit⟩ := st
    obtain ⟨its, rv, p, hz⟩ := I.list hq
    have hl := rv.length
    obtain ⟨f0, f1, f2, f3, f4, f5⟩ := hf it (by simp)
    exact wpAny_pyNext_enum_end (I.ok.hd hc) he hit p.isList (by simp; omega) fun h' eb => ⟨rfl, I.turned (t' := s.toks) (it := it) (fun b o hb q => eb b o hb q) f0 f1 f3 f4 f5⟩
  self := fun _ _ _ _ _ st h => let ⟨⟨_, he⟩, _⟩ := st; wpAny_pyIter_enum he h
def iEnum (K : PySem.W.Frag) (ta : TA) : TI := fun σ H R => ta σ H fun vs H1 => ∃ a, vs = [.ref a] ∧ (∃ xs, SqL K H1 a xs) ∧ R (Ite K a) H1
theorem pi_enum {X : Cx} {a : Expr} {ta : TA} {p pos tpos : Pos} {elts : List Expr} {x1} (hg : Gl X "enumerate") (hm : X.mg "enumerate" = none) (ha : PA X [a] ta) (hs : starEach [a] X.env = [(false, eval a X.env)] := by rfl) :
    PI X (.Tuple elts x1 tpos) (.Call (.Name "enumerate" p) [a] [] pos) (iEnum X.K ta) := by
  intro pins s σ H R I h
  refine Call_ (ld_blt I hg hm boot_enumerate (PyProof.Rows.callWith_type1 (thn (ha pos pins s σ H _ I h) fun us s1 ⟨vs, H1, I1, r1, q1⟩ => ?_) hs rfl))
  obtain ⟨l, ev, ⟨xs, hq⟩, q⟩ := q1
  subst ev
  obtain ⟨u, rfl, ru⟩ := vals1 r1
  cases ru
  obtain ⟨its, rv, pl, hz⟩ := I1.list hq
  refine call_enumerate_list pl.isList fun h' he hit hsz hk => ?_
  refine wpAny_pyIter_enum (s := { s1 with heap := h' }) he ?_
  have I2 : Inv X pins σ H1 { s1 with heap := h', toks := s1.toks } := I1.kept (t' := s1.toks) hk
  refine ⟨s1.heap.objs.size + 1, [s1.heap.objs.size + 1, s1.heap.objs.size], _, _, H1, rfl, I2, turn_enum l _ _ (Nat.succ_ne_self _), ⟨⟨_, by simpa using he⟩, hit⟩, fun b hb => ?_, q⟩
  have hb' : s1.heap.objs.size ≤ b := by
    rcases List.mem_cons.mp hb with z | hb
    · rw [z]; exact Nat.le_succ _
    · have z : b = s1.heap.objs.size := by simpa using hb
      rw [z]; exact Nat.le_refl _
  obtain ⟨f0, f1, f2, f3, f4, f5⟩ := I1.fpOk hb' (I1.hok.fresh hb')
  exact ⟨f0, f1, f2, f3, f4, f5⟩
/-! ### a call of a reckoned def -/
/-! ### range(hi, lo, -1) -/
def Itd1 (hi : Int) (n : Nat) : It := ⟨fun i _ => i < n, fun i H x H' => H' = H ∧ x = .int (hi - i), fun i _ => n ≤ i⟩
theorem turn_down {P : Program} {w : World} {K : PySem.W.Frag} {tg : Expr} (it : Addr) (hi : Int) (n : Nat) : Turn P w K tg (Itd1 hi n) [it] it (fun i h => IsRangeIter h it (hi + (i : Nat) * (-1)) ((n : Int) - (i : Nat)) (-1)) where
  mem := by simp
  obj := fun i h st b hb => by
    have e : b = it := by simpa using hb
    subst e
    exact ⟨_, st, fun v z => by
      have z' : Data.fields _ = Data.cell v := z
      cases z'⟩
  keep := fun i h h' st k => k it (by simp) _ st
  item := by
    intro X hP hw hK hc i pins s σ H E I hf st hg
    subst hP hw hK
    obtain ⟨f0, f1, f2, f3, f4, f5⟩ := hf it (by simp)
    have W := Walks.range (prog := X.prog) (w := X.w) (I.ok.hd hc) it hi (-1) n
    refine W.item i s _ _ hg st fun v h' tk hv st' kk => ?_
    obtain ⟨t, rfl⟩ := hv
    have I1 : Inv X pins σ H { s with heap := h', toks := tk } := I.turned (fun b o hb e => kk b o (by simpa using hb) e) f0 f1 f3 f4 f5
    refine ⟨_, rfl, go_of (s := { s with heap := h', toks := tk }) (n := "range_iterator") st' rfl rfl (by decide) ⟨.int (hi - i), H, I1, ⟨t, ?_⟩, ⟨rfl, rfl⟩, st', fun b hb => (hf b hb).1⟩⟩
    rw [show hi + (i : Int) * (-1) = hi - i by omega]
  done := by
    intro X hP hw hK hc i pins s σ H E I hf st hg
    subst hP hw hK
    obtain ⟨f0, f1, f2, f3, f4, f5⟩ := hf it (by simp)
    exact wpAny_pyNext_range_end (I.ok.hd hc) st (by have : n ≤ i := hg; omega) fun h' eb => ⟨rfl, I.turned (t' := s.toks) (fun b o hb e => eb b o hb e) f0 f1 f3 f4 f5⟩
  self := fun _ _ _ _ _ st h => wpAny_pyIter_rangeiter st h
def iDown (ta : TA) : TI := fun σ H R => ta σ H fun vs H1 => ∃ i j : Int, vs = [.int i, .int j, .int (-1)] ∧ (-1000000000 ≤ i ∧ i ≤ 1000000000 ∧ -1000000000 ≤ j ∧ j ≤ 1000000000) ∧ R (Itd1 i (i - j).toNat) H1
theorem small_down {a b : Int} (ha : -1000000000 ≤ a) (ha' : a ≤ 1000000000) (hb : -1000000000 ≤ b) (hb' : b ≤ 1000000000) : Builtin.Range.small a b (-1) = true := by
  unfold Builtin.Range.small
  rw [PySem.W.rangeSize_down]
  simp only [Builtin.Range.rangeFitsLong, Bool.and_eq_true, Bool.or_eq_true, decide_eq_true_eq, beq_iff_eq, show ¬ ((-1 : Int) > 0) by decide, if_false]
  split <;> omega
theorem pi_down {X : Cx} {tg a b c : Expr} {ta : TA} {p pos : Pos} (hg : Gl X "range") (hm : X.mg "range" = none) (ha : PA X [a, b, c] ta) (hs : starEach [a, b, c] X.env = (false, eval a X.env) :: starEach [b, c] X.env := by rfl)
    (hs2 : (backTo pos (starEach [b, c] X.env)).any (·.1) = false := by rfl) : PI X tg (.Call (.Name "range" p) [a, b, c] [] pos) (iDown ta) := by
  intro pins s σ H R I h
  refine Call_ (ld_blt I hg hm boot_range (PyProof.Rows.callWith_type1 (thn (ha pos pins s σ H _ I h) fun us s1 ⟨vs, H1, I1, r1, q1⟩ => ?_) hs hs2))
  obtain ⟨i, j, e, ⟨q1, q2, q3, q4⟩, q⟩ := q1
  subst e
  obtain ⟨u1, u2, u3, rfl, ⟨t1, rfl⟩, ⟨t2, rfl⟩, ⟨t3, rfl⟩⟩ : ∃ u1 u2 u3, us = [u1, u2, u3] ∧ RelV (.int i) u1 ∧ RelV (.int j) u2 ∧ RelV (.int (-1)) u3 := by
    cases r1 with
    | cons a1 r1 => cases r1 with
      | cons a2 r1 => cases r1 with
        | cons a3 r1 => cases r1; exact ⟨_, _, _, rfl, a1, a2, a3⟩
  refine call_range_3 (by decide) ?_ (.inl (PyProof.noPylong_small (by omega)))
  refine wpAny_pyIter_range (IsRange.new ..) (small_down q1 q2 q3 q4) ?_
  have I2 : Inv X pins σ H1 { s1 with heap := s1.heap.push { cls := .type "range", data := .fields #[.int i t1, .int j t2, .int (-1) t3] }, toks := s1.toks } := I1.kept fun b o e => Heap.get?_push_of_some _ e
  refine ⟨(s1.heap.push { cls := .type "range", data := .fields #[.int i t1, .int j t2, .int (-1) t3] }).objs.size, [(s1.heap.push { cls := .type "range", data := .fields #[.int i t1, .int j t2, .int (-1) t3] }).objs.size], _, _, H1, rfl,
    I2.kept (t' := s1.toks) fun b o e => Heap.get?_push_of_some _ e, turn_down _ i (i - j).toNat, ?_, fun b hb => ?_, q⟩
  · have e1 : i + ((0 : Nat) : Int) * (-1) = i := by simp
    have e2 : (((i - j).toNat : Nat) : Int) - ((0 : Nat) : Int) = Builtin.Range.rangeSize i j (-1) := by rw [PySem.W.rangeSize_downNat]; simp
    show IsRangeIter _ _ (i + ((0 : Nat) : Int) * (-1)) ((((i - j).toNat : Nat) : Int) - ((0 : Nat) : Int)) (-1)
    rw [e1, e2]
    exact Heap.get?_push_size _ rfl
  · have e : b = (s1.heap.push { cls := .type "range", data := .fields #[.int i t1, .int j t2, .int (-1) t3] }).objs.size := by simpa using hb
    subst e
    exact I2.fpOk (Nat.le_refl _) (I2.hok.fresh (Nat.le_refl _))
end L2


set_option Elab.async false
set_option linter.all false
namespace Tw
/-! ### words in groups, by length: the mirror -/
def addNew {α : Type} [DecidableEq α] (l : List α) (x : α) : List α := if x ∈ l then l else l ++ [x]
theorem mem_addNew {α : Type} [DecidableEq α] {l : List α} {x y : α} : y ∈ addNew l x ↔ y ∈ l ∨ y = x := by
  unfold addNew
  split
  · rename_i h
    exact ⟨.inl, fun z => z.elim id fun e => e ▸ h⟩
  · simp
theorem nd_addNew {α : Type} [DecidableEq α] {l : List α} {x : α} (h : l.Nodup) : (addNew l x).Nodup := by
  unfold addNew
  split
  · exact h
  · rename_i hx
    rw [List.nodup_append]
    exact ⟨h, by simp, fun a ha b hb => by rw [List.mem_singleton.mp hb]; intro e; exact hx (e ▸ ha)⟩
def lensOf (ws : List W) : List Nat := ws.foldl (fun acc x => addNew acc x.length) []
def wordsOf (ws : List W) (n : Nat) : List W := ws.foldl (fun acc x => if x.length = n then addNew acc x else acc) []
def placesOf (ws : List W) (x : W) : List Nat := (List.range ws.length).filter fun i => decide (ws[i]? = some x)
theorem lensOf_snoc (ws : List W) (x : W) : lensOf (ws ++ [x]) = addNew (lensOf ws) x.length := by
  unfold lensOf; rw [List.foldl_append]; rfl
theorem wordsOf_snoc (ws : List W) (x : W) (n : Nat) : wordsOf (ws ++ [x]) n = if x.length = n then addNew (wordsOf ws n) x else wordsOf ws n := by
  unfold wordsOf; rw [List.foldl_append]; rfl
theorem snoc_ind {α : Type} {P : List α → Prop} (h0 : P []) (hs : ∀ l x, P l → P (l ++ [x])) : ∀ l, P l := by
  intro l
  have : ∀ n, ∀ l : List α, l.length = n → P l := by
    intro n
    induction n with
    | zero => intro l hl; rw [List.eq_nil_of_length_eq_zero hl]; exact h0
    | succ n ih =>
      intro l hl
      have hne : l ≠ [] := fun e => by rw [e] at hl; cases hl
      rw [← List.dropLast_concat_getLast hne]
      exact hs _ _ (ih _ (by simp [hl]))
  exact this _ l rfl
theorem mem_lensOf (ws : List W) (n : Nat) : n ∈ lensOf ws ↔ ∃ x ∈ ws, x.length = n := by
  induction ws using snoc_ind with
  | h0 => simp [lensOf]
  | hs ws x ih =>
    rw [lensOf_snoc, mem_addNew, ih]
    constructor
    · rintro (⟨y, hy, e⟩ | e)
      · exact ⟨y, List.mem_append_left _ hy, e⟩
      · exact ⟨x, by simp, e.symm⟩
    · rintro ⟨y, hy, e⟩
      rcases List.mem_append.mp hy with hy | hy
      · exact .inl ⟨y, hy, e⟩
      · rw [List.mem_singleton.mp hy] at e; exact .inr e.symm
theorem nd_lensOf (ws : List W) : (lensOf ws).Nodup := by
  induction ws using snoc_ind with
  | h0 => exact List.nodup_nil
  | hs ws x ih => rw [lensOf_snoc]; exact nd_addNew ih
theorem lensOf_len (ws : List W) : (lensOf ws).length ≤ ws.length := by
  induction ws using snoc_ind with
  | h0 => exact Nat.le_refl _
  | hs ws x ih =>
    rw [lensOf_snoc]
    unfold addNew
    split <;> simp <;> omega
theorem mem_wordsOf (ws : List W) (n : Nat) (x : W) : x ∈ wordsOf ws n ↔ x ∈ ws ∧ x.length = n := by
  induction ws using snoc_ind with
  | h0 => simp [wordsOf]
  | hs ws y ih =>
    rw [wordsOf_snoc, List.mem_append, List.mem_singleton]
    split
    · rename_i hy
      rw [mem_addNew, ih]
      constructor
      · rintro (⟨a, b⟩ | e)
        · exact ⟨.inl a, b⟩
        · exact ⟨.inr e, by rw [e]; exact hy⟩
      · rintro ⟨a | a, b⟩
        · exact .inl ⟨a, b⟩
        · exact .inr a
    · rename_i hy
      rw [ih]
      constructor
      · rintro ⟨a, b⟩; exact ⟨.inl a, b⟩
      · rintro ⟨a | a, b⟩
        · exact ⟨a, b⟩
        · exact absurd (a ▸ b) hy
theorem wordsOf_len (ws : List W) (n : Nat) : (wordsOf ws n).length ≤ ws.length := by
  induction ws using snoc_ind with
  | h0 => exact Nat.le_refl _
  | hs ws x ih =>
    rw [wordsOf_snoc]
    unfold addNew
    split
    · split <;> simp <;> omega
    · simp; omega
theorem placesOf_snoc (ws : List W) (x y : W) : placesOf (ws ++ [x]) y = placesOf ws y ++ if x = y then [ws.length] else [] := by
  unfold placesOf
  rw [List.length_append, List.length_singleton, List.range_succ, List.filter_append]
  congr 1
  · apply List.filter_congr
    intro i hi
    rw [List.getElem?_append_left (List.mem_range.mp hi)]
  · simp [List.filter_cons]
theorem mem_placesOf (ws : List W) (x : W) (i : Nat) : i ∈ placesOf ws x ↔ ws[i]? = some x := by
  unfold placesOf
  rw [List.mem_filter, List.mem_range, decide_eq_true_iff]
  exact ⟨fun h => h.2, fun h => ⟨(List.getElem?_eq_some_iff.mp h).1, h⟩⟩
theorem placesOf_len (ws : List W) (x : W) : (placesOf ws x).length ≤ ws.length := by
  unfold placesOf
  exact Nat.le_trans (List.length_filter_le _ _) (by simp)
theorem placesOf_none {ws : List W} {x : W} (h : x ∉ ws) : placesOf ws x = [] := by
  rw [List.eq_nil_iff_forall_not_mem]
  intro i hi
  rw [mem_placesOf] at hi
  exact h (List.mem_of_getElem? hi)
theorem placesOf_up (ws : List W) (x : W) : (placesOf ws x).Pairwise (· < ·) := by
  unfold placesOf
  exact List.Pairwise.filter _ List.pairwise_lt_range
/-- the lengths of the words that stand at a mark, in the groups' order -/
def cut (t : W) (m n : Nat) : W := (t.drop m).take n
def standL (ws : List W) (t : W) (m : Nat) : List Nat := (lensOf ws).filter fun n => decide (n ≤ t.length - m) && decide (cut t m n ∈ ws)
theorem mem_standL (ws : List W) (t : W) (m n : Nat) (hm : m ≤ t.length) : n ∈ standL ws t m ↔ cut t m n ∈ ws ∧ n ≤ t.length - m ∧ (cut t m n).length = n := by
  unfold standL
  rw [List.mem_filter, Bool.and_eq_true, decide_eq_true_iff, decide_eq_true_iff, mem_lensOf]
  have hl : n ≤ t.length - m → (cut t m n).length = n := fun h => by unfold cut; simp; omega
  constructor
  · rintro ⟨_, h1, h2⟩; exact ⟨h2, h1, hl h1⟩
  · rintro ⟨h1, h2, h3⟩; exact ⟨⟨_, h1, h3⟩, h2, h1⟩
theorem standL_len (ws : List W) (t : W) (m : Nat) : (standL ws t m).length ≤ ws.length := Nat.le_trans (List.length_filter_le _ _) (lensOf_len ws)
/-! ### how many readings of what is behind a mark -/
/-- no word is empty -/
def Full (ws : List W) : Prop := ∀ x ∈ ws, x ≠ []
end Tw


set_option Elab.async false
set_option linter.all false
set_option maxRecDepth 100000
set_option maxHeartbeats 4000000
namespace L2
open PySem PySem.Spec PyProof.Rows Tw
theorem valV_of {α : Type} {κ : α → Key} {v : α → V} : ∀ {l : List α}, (∀ a ∈ l, ∀ b ∈ l, κ a = κ b → a = b) → ∀ {a : α}, a ∈ l → valV (l.map fun a => (κ a, v a)) (κ a) = some (v a)
  | [], _, _, h => nomatch h
  | b :: l, inj, a, h => by
    rw [List.map_cons]
    by_cases e : κ b = κ a
    · have := inj b List.mem_cons_self a h e
      subst this
      exact valV_pos rfl
    · rw [valV_neg (p := (κ b, v b)) e]
      rcases List.mem_cons.mp h with z | z
      · exact absurd (by rw [z]) e
      · exact valV_of (fun x hx y hy => inj x (List.mem_cons_of_mem _ hx) y (List.mem_cons_of_mem _ hy)) z
theorem valV_no {α : Type} {κ : α → Key} {v : α → V} {k : Key} : ∀ {l : List α}, (∀ a ∈ l, κ a ≠ k) → valV (l.map fun a => (κ a, v a)) k = none
  | [], _ => rfl
  | b :: l, h => by
    rw [List.map_cons, valV_neg (p := (κ b, v b)) (h b List.mem_cons_self)]
    exact valV_no fun a ha => h a (List.mem_cons_of_mem _ ha)
theorem lenK_inj {a b : Nat} (e : (.inl (a : Int) : Key) = .inl (b : Int)) : a = b := by have := Sum.inl.inj e; omega
theorem wK_inj {a b : W} (e : (.inr (st a) : Key) = .inr (st b)) : a = b := st_inj (Sum.inr.inj e)
theorem upd_k {H : Hp} {b t : Addr} {o u : HO} (e : H b = some o) (hn : b ≠ t) : upd H t u b = some o := by rw [upd_ne hn]; exact e
theorem small1000000 {n : Nat} (h : n ≤ 1000000) : n < sizeLine := Nat.lt_of_le_of_lt h (by decide)
abbrev intsV (r : List Nat) : List V := r.map fun (i : Nat) => V.int i
/-- groups at g, by lengths L: the dicts d n, the lists f x -/
structure GL (H : Hp) (g : Addr) (ws : List W) (L : List Nat) (d : Nat → Addr) (f : W → Addr) : Prop where
  gd : H g = some (.dK (L.map fun (n : Nat) => ((.inl (n : Int) : Key), V.ref (d n))))
  inn : ∀ n ∈ L, H (d n) = some (.dK ((wordsOf ws n).map fun (x : W) => ((.inr (st x) : Key), V.ref (f x))))
  lst : ∀ x ∈ ws, H (f x) = some (.lst (intsV (placesOf ws x)))
  dinj : ∀ n ∈ L, ∀ m ∈ L, d n = d m → n = m
  finj : ∀ x ∈ ws, ∀ y ∈ ws, f x = f y → x = y
  dg : ∀ n ∈ L, d n ≠ g
  cov : ∀ x ∈ ws, x.length ∈ L
section
variable {H : Hp} {g l : Addr} {ws : List W} {L : List Nat} {d : Nat → Addr} {f : W → Addr} {x : W} {n : Nat} {o : HO}
theorem GL.new (G : GL H g ws L d f) (h : H l = none) : GL (upd H l o) g ws L d f :=
  ⟨upd_keep G.gd h, fun n hn => upd_keep (G.inn n hn) h, fun x hx => upd_keep (G.lst x hx) h, G.dinj, G.finj, G.dg, G.cov⟩
theorem GL.len (G : GL H g ws L d f) (hn : n ∉ L) (h : H l = none) :
    GL (upd (upd H l (.dK [])) g (.dK (putK (L.map fun (n : Nat) => ((.inl (n : Int) : Key), V.ref (d n))) (.inl (n : Int)) (.ref l)))) g ws (L ++ [n]) (fun k => if k = n then l else d k) f := by
  have lg : l ≠ g := (ne_of_none G.gd h).symm
  have hd : ∀ m ∈ L, (if m = n then l else d m) = d m := fun m hm => if_neg fun (e : m = n) => hn (e ▸ hm)
  refine ⟨?_, fun m hm => ?_, fun x hx => ?_, fun m hm k hk e => ?_, G.finj, fun m hm => ?_, fun x hx => List.mem_append_left _ (G.cov x hx)⟩
  · rw [upd_same, putK_new _ (valV_no (κ := fun n : Nat => (.inl (n : Int) : Key)) fun a ha e => hn (lenK_inj (b := n) e ▸ ha)), List.map_append]
    congr 2
    · congr 1
      · apply List.map_congr_left
        intro m hm
        rw [hd m hm]
      · simp
  · rcases List.mem_append.mp hm with hm | hm
    · show upd (upd H l (.dK [])) g _ (if m = n then l else d m) = _
      rw [hd m hm]
      exact upd_k (upd_keep (G.inn m hm) h) (G.dg m hm)
    · have e : m = n := by simpa using hm
      subst e
      show upd (upd H l (.dK [])) g _ (if m = m then l else d m) = _
      rw [if_pos rfl, upd_ne lg, upd_same]
      have : wordsOf ws m = [] := by
        rw [List.eq_nil_iff_forall_not_mem]
        intro x hx
        obtain ⟨h1, h2⟩ := (mem_wordsOf ws m x).mp hx
        exact hn (h2 ▸ G.cov x h1)
      rw [this]; rfl
  · exact upd_k (upd_keep (G.lst x hx) h) (ne_of (G.lst x hx) G.gd (by simp))
  · have dn : ∀ m ∈ L, d m ≠ l := fun m hm => ne_of_none (G.inn m hm) h
    rcases List.mem_append.mp hm with hm | hm <;> rcases List.mem_append.mp hk with hk | hk
    · replace e : (if m = n then l else d m) = (if k = n then l else d k) := e
      rw [hd m hm, hd k hk] at e
      exact G.dinj m hm k hk e
    · have ek : k = n := by simpa using hk
      replace e : (if m = n then l else d m) = (if k = n then l else d k) := e
      rw [hd m hm, if_pos ek] at e
      exact absurd e (dn m hm)
    · have em : m = n := by simpa using hm
      replace e : (if m = n then l else d m) = (if k = n then l else d k) := e
      rw [hd k hk, if_pos em] at e
      exact absurd e.symm (dn k hk)
    · have em : m = n := by simpa using hm
      have ek : k = n := by simpa using hk
      rw [em, ek]
  · rcases List.mem_append.mp hm with hm | hm
    · show (if m = n then l else d m) ≠ g
      rw [hd m hm]; exact G.dg m hm
    · have em : m = n := by simpa using hm
      show (if m = n then l else d m) ≠ g
      rw [if_pos em]; exact lg
theorem GL.more (G : GL H g ws L d f) (hx : x ∈ ws) : GL (upd H (f x) (.lst (intsV (placesOf ws x) ++ [.int (ws.length : Nat)]))) g (ws ++ [x]) L d f := by
  have hl := G.lst x hx
  have all : ∀ y, y ∈ ws ++ [x] → y ∈ ws := fun y hy => by
    rcases List.mem_append.mp hy with z | z
    · exact z
    · rw [List.mem_singleton.mp z]; exact hx
  refine ⟨upd_k G.gd (ne_of G.gd hl (by simp)), fun m hm => ?_, fun y hy => ?_, G.dinj, fun a ha b hb => G.finj a (all a ha) b (all b hb), G.dg, fun y hy => G.cov y (all y hy)⟩
  · have : wordsOf (ws ++ [x]) m = wordsOf ws m := by
      rw [wordsOf_snoc]
      split
      · rename_i e
        unfold addNew
        rw [if_pos ((mem_wordsOf ws m x).mpr ⟨hx, e⟩)]
      · rfl
    rw [this]
    exact upd_k (G.inn m hm) (ne_of (G.inn m hm) hl (by simp))
  · rw [placesOf_snoc]
    by_cases e : x = y
    · subst e
      rw [upd_same, if_pos rfl]
      simp [intsV]
    · rw [if_neg e, List.append_nil]
      exact upd_k (G.lst y (all y hy)) fun z => e (G.finj y (all y hy) x hx z).symm
theorem GL.word (G : GL H g ws L d f) (hx : x ∉ ws) (hn : x.length ∈ L) (h : H l = none) :
    GL (upd (upd (upd H l (.lst [])) (d x.length) (.dK (putK ((wordsOf ws x.length).map fun (x : W) => ((.inr (st x) : Key), V.ref (f x))) (.inr (st x)) (.ref l)))) l (.lst ([] ++ [.int (ws.length : Nat)]))) g (ws ++ [x]) L d (fun y => if y = x then l else f y) := by
  have hf : ∀ y ∈ ws, (if y = x then l else f y) = f y := fun y hy => if_neg fun (e : y = x) => hx (e ▸ hy)
  have fl : ∀ y ∈ ws, f y ≠ l := fun y hy => ne_of_none (G.lst y hy) h
  have dl : ∀ m ∈ L, d m ≠ l := fun m hm => ne_of_none (G.inn m hm) h
  refine ⟨?_, fun m hm => ?_, fun y hy => ?_, G.dinj, fun a ha b hb e => ?_, G.dg, fun y hy => ?_⟩
  · exact upd_k (upd_k (upd_keep G.gd h) (G.dg _ hn).symm) (ne_of_none G.gd h)
  · rw [upd_ne (dl m hm), wordsOf_snoc]
    by_cases e : x.length = m
    · subst e
      rw [upd_same, if_pos rfl]
      have nx : x ∉ wordsOf ws x.length := fun z => hx ((mem_wordsOf ws _ x).mp z).1
      unfold addNew
      rw [if_neg nx, putK_new _ (valV_no (κ := fun x : W => (.inr (st x) : Key)) fun a ha e => nx (by have z := wK_inj (a := a) (b := x) e; rw [z] at ha; exact ha)), List.map_append]
      congr 2
      congr 1
      · apply List.map_congr_left
        intro y hy
        rw [hf y ((mem_wordsOf ws _ y).mp hy).1]
      · simp
    · have dne : d m ≠ d x.length := fun z => e (G.dinj _ hm _ hn z).symm
      rw [if_neg e, upd_ne dne, upd_ne (dl m hm), G.inn m hm]
      congr 2
      apply List.map_congr_left
      intro y hy
      rw [hf y ((mem_wordsOf ws _ y).mp hy).1]
  · rw [placesOf_snoc]
    rcases List.mem_append.mp hy with hy | hy
    · have e : ¬ x = y := fun e => hx (e ▸ hy)
      rw [if_neg e, List.append_nil]
      show upd _ l _ (if y = x then l else f y) = _
      rw [hf y hy]
      exact upd_k (upd_k (upd_keep (G.lst y hy) h) (ne_of (G.lst y hy) (G.inn _ hn) (by simp))) (fl y hy)
    · have e : y = x := by simpa using hy
      subst e
      show upd _ l _ (if y = y then l else f y) = _
      rw [if_pos rfl, if_pos rfl, upd_same, placesOf_none hx]
      simp [intsV]
  · rcases List.mem_append.mp ha with ha | ha <;> rcases List.mem_append.mp hb with hb | hb
    · replace e : (if a = x then l else f a) = (if b = x then l else f b) := e
      rw [hf a ha, hf b hb] at e
      exact G.finj a ha b hb e
    · have eb : b = x := by simpa using hb
      replace e : (if a = x then l else f a) = (if b = x then l else f b) := e
      rw [hf a ha, if_pos eb] at e
      exact absurd e (fl a ha)
    · have ea : a = x := by simpa using ha
      replace e : (if a = x then l else f a) = (if b = x then l else f b) := e
      rw [hf b hb, if_pos ea] at e
      exact absurd e.symm (fl b hb)
    · have ea : a = x := by simpa using ha
      have eb : b = x := by simpa using hb
      rw [ea, eb]
  · rcases List.mem_append.mp hy with hy | hy
    · exact G.cov y hy
    · have e : y = x := by simpa using hy
      rw [e]; exact hn
end
/-! ### the forms of for -/
theorem for_enum {K : PySem.W.Frag} {a : Addr} {xs : List V} {g : TG} {tb : TS} {D : Ends} {σ : St} {H : Hp} (Pv : Nat → St → Hp → Prop) (h0 : Pv 0 σ H) (hl : ∀ i σ H, i ≤ xs.length → Pv i σ H → SqL K H a xs)
    (hs : ∀ i x t σ H, xs[i]? = some x → Pv i σ H → H t = none → g (.ref t) σ (upd H t (.tup [.int i, x])) fun σ2 H2 => tb { D with nx := Pv (i + 1), ct := Pv (i + 1), bk := D.nx } σ2 H2) (hd : ∀ σ H, Pv xs.length σ H → D.nx σ H) :
    ∃ W : Nat → Nat → St → Hp → Prop, (∃ m, W 0 m σ H) ∧ ∀ i m σ H, W i m σ H →
      ((Ite K a).stop i H ∧ D.nx σ H) ∨ ((Ite K a).go i H ∧ ∃ N : St → Hp → Prop, (∀ σ' H', N σ' H' → ∃ m', m' < m ∧ W (i + 1) m' σ' H') ∧ ∀ x H', (Ite K a).yld i H x H' → g x σ H' fun σ2 H2 => tb { D with nx := N, ct := N, bk := D.nx } σ2 H2) := by
  refine ⟨fun i m σ H => m = xs.length - i ∧ i ≤ xs.length ∧ Pv i σ H, ⟨xs.length, by simp, Nat.zero_le _, h0⟩, ?_⟩
  rintro i m σ H ⟨rfl, hi, p⟩
  have q := hl i σ H hi p
  by_cases hlt : i < xs.length
  · refine .inr ⟨⟨xs, xs[i], q, by simp [hlt]⟩, Pv (i + 1), fun σ' H' p' => ⟨xs.length - (i + 1), by omega, rfl, hlt, p'⟩, fun x H' y => ?_⟩
    obtain ⟨t, rfl, ht, y⟩ := y
    obtain ⟨x, hx, rfl⟩ := y xs q
    exact hs i x t σ H hx p ht
  · have e : i = xs.length := by omega
    subst e
    exact .inl ⟨⟨xs, q, Nat.le_refl _⟩, hd σ H p⟩
theorem for_dict {a : Addr} {o : Obj} {kvs : List (Key × V)} {g : TG} {tb : TS} {D : Ends} {σ : St} {H : Hp} (Pv : Nat → St → Hp → Prop) (h0 : Pv 0 σ H) (hl : ∀ i σ H, i ≤ kvs.length → Pv i σ H → H a = some (.frz o (.dK kvs)))
    (hs : ∀ i p σ H, kvs[i]? = some p → Pv i σ H → g (kV p.1) σ H fun σ2 H2 => tb { D with nx := Pv (i + 1), ct := Pv (i + 1), bk := D.nx } σ2 H2) (hd : ∀ σ H, Pv kvs.length σ H → D.nx σ H) :
    ∃ W : Nat → Nat → St → Hp → Prop, (∃ m, W 0 m σ H) ∧ ∀ i m σ H, W i m σ H →
      ((Itd a o kvs).stop i H ∧ D.nx σ H) ∨ ((Itd a o kvs).go i H ∧ ∃ N : St → Hp → Prop, (∀ σ' H', N σ' H' → ∃ m', m' < m ∧ W (i + 1) m' σ' H') ∧ ∀ x H', (Itd a o kvs).yld i H x H' → g x σ H' fun σ2 H2 => tb { D with nx := N, ct := N, bk := D.nx } σ2 H2) := by
  refine ⟨fun i m σ H => m = kvs.length - i ∧ i ≤ kvs.length ∧ Pv i σ H, ⟨kvs.length, by simp, Nat.zero_le _, h0⟩, ?_⟩
  rintro i m σ H ⟨rfl, hi, p⟩
  have q := hl i σ H hi p
  by_cases hlt : i < kvs.length
  · refine .inr ⟨⟨hlt, q⟩, Pv (i + 1), fun σ' H' p' => ⟨kvs.length - (i + 1), by omega, rfl, hlt, p'⟩, fun x H' y => ?_⟩
    obtain ⟨rfl, kv, hkv, rfl⟩ := y
    exact hs i kv σ _ hkv p
  · have e : i = kvs.length := by omega
    subst e
    exact .inl ⟨⟨Nat.le_refl _, q⟩, hd σ H p⟩
theorem for_down {hi : Int} {n : Nat} {g : TG} {tb : TS} {D : Ends} {σ : St} {H : Hp} (Pv : Nat → St → Hp → Prop) (h0 : Pv 0 σ H)
    (hs : ∀ i σ H, i < n → Pv i σ H → g (.int (hi - i)) σ H fun σ2 H2 => tb { D with nx := Pv (i + 1), ct := Pv (i + 1), bk := D.nx } σ2 H2) (hd : ∀ σ H, Pv n σ H → D.nx σ H) :
    ∃ W : Nat → Nat → St → Hp → Prop, (∃ m, W 0 m σ H) ∧ ∀ i m σ H, W i m σ H →
      ((Itd1 hi n).stop i H ∧ D.nx σ H) ∨ ((Itd1 hi n).go i H ∧ ∃ N : St → Hp → Prop, (∀ σ' H', N σ' H' → ∃ m', m' < m ∧ W (i + 1) m' σ' H') ∧ ∀ x H', (Itd1 hi n).yld i H x H' → g x σ H' fun σ2 H2 => tb { D with nx := N, ct := N, bk := D.nx } σ2 H2) := by
  refine ⟨fun i m σ H => m = n - i ∧ i ≤ n ∧ Pv i σ H, ⟨n, by simp, Nat.zero_le _, h0⟩, ?_⟩
  rintro i m σ H ⟨rfl, hi, p⟩
  by_cases hlt : i < n
  · refine .inr ⟨hlt, Pv (i + 1), fun σ' H' p' => ⟨n - (i + 1), by omega, rfl, hlt, p'⟩, fun x H' y => ?_⟩
    obtain ⟨e, y⟩ := y
    subst e y
    exact hs i σ _ hlt p
  · have e : i = n := by omega
    subst e
    exact .inl ⟨Nat.le_refl _, hd σ H p⟩
end L2


set_option Elab.async false
set_option linter.all false
set_option maxRecDepth 100000
set_option maxHeartbeats 4000000
namespace L2
open PySem PySem.Spec PyProof.Rows Tw
section
variable {P : Program} {w : World} {K : PySem.W.Frag} {mg : Str → Option Value} {base : Heap}
def spGrouped (K : PySem.W.Frag) : Sp := fun vs H Q _ => ∃ (a : Addr) (ws : List W), vs = [.ref a] ∧ CodeAt K H a ws ∧ ∀ g d f H', H g = none → Ext H H' → GL H' g ws (lensOf ws) d f → Q (.ref g) H'
theorem ok_grouped (D : Def K mg "grouped" "grouped" Pl.s_grouped ["words"]) (B : Bare mg) : Cal P w K mg base CX0 1 "grouped" ["words"] (spGrouped K) := by
  have sc : FnScope ["words", "groups", "place", "word"] ["words"] (defScope Pl.s_grouped) := ⟨rfl, rfl, rfl, by decide +kernel, rfl, by decide +kernel, by decide +kernel⟩
  refine D.cal fun f fd F => F.ok sc (fun vs H Q E h => ?_) (fun cdv A outer s H vs Q E hr h => ?_)
  · obtain ⟨_, _, rfl, _⟩ := h
    rfl
  · obtain ⟨a, ws, rfl, hc, k⟩ := h
    have hu := hu_of hr
    refine ⟨_, pss_cons (ps_set (i := 1) sc.nd rfl (Or.inl rfl) pe_dnewK)
      (pss_cons (ps_for PassesOwn.never rfl (pi_enum (by rfl) B.enumerate (pa_cons (pv 0) pa_nil)) (pg_tup rfl (pgs_cons (pg_name (i := 2) sc.nd rfl (Or.inl rfl)) (pgs_cons (pg_name (i := 3) sc.nd rfl (Or.inl rfl)) pgs_nil)))
        (pss_cons (ps_if (pt_cmp (pc_dnotin hu (pe_callB call_len_str (by rfl) B.len PySem.boot_len (pa_cons (pv 3) pa_nil)) (pv 1)))
          (pss_one (ps_dput hu (pv 1) (pe_callB call_len_str (by rfl) B.len PySem.boot_len (pa_cons (pv 3) pa_nil)) pe_dnewK rfl)) pss_nil)
        (pss_one (ps_expr (pe_bm PySem.F.plainAttrs_list PySem.F.slot_list_append PySem.F.type_list_append mt_append
          (pe_dsd (pe_dget hu (pv 1) (pe_callB call_len_str (by rfl) B.len PySem.boot_len (pa_cons (pv 3) pa_nil)) (fun _ _ => rfl)) (pv 3) (pe_lst pa_nil) ⟨rfl, rfl, rfl, rfl⟩) (pa_cons (pv 2) pa_nil))))))
      (pss_one (ps_ret (pv 1)))), ?_⟩
    intro g hg
    refine ⟨_, rfl, a, rfl, ⟨_, (Ext.new hg).sqL hc.1⟩, for_enum (K := K) (a := a) (xs := ws.map sv) (fun i σ H2 => ∃ (d : Nat → Addr) (f : W → Addr) (p v : Option V), σ = [some (.ref a), some (.ref g), p, v] ∧ Ext H H2 ∧ (∀ n ∈ lensOf (ws.take i), H (d n) = none) ∧
      (∀ x ∈ ws.take i, H (f x) = none) ∧ GL H2 g (ws.take i) (lensOf (ws.take i)) d f) ?_ ?_ ?_ ?_⟩
    · refine ⟨fun _ => g, fun _ => g, none, none, rfl, Ext.new hg, fun n hn => ?_, fun x hx => ?_, ?_⟩
      · simp [lensOf] at hn
      · simp at hx
      · exact ⟨upd_same, fun n hn => by simp [lensOf] at hn, fun x hx => by simp at hx, fun n hn => by simp [lensOf] at hn, fun x hx => by simp at hx, fun n hn => by simp [lensOf] at hn, fun x hx => by simp at hx⟩
    · rintro i σ H2 hi ⟨d, f, p, v, rfl, x2, _⟩
      exact x2.sqL hc.1
    · rintro i y t σ H2 hy ⟨d, f, p, v, rfl, x2, hd, hf, G⟩ ht
      obtain ⟨x, hx, rfl⟩ : ∃ x, ws[i]? = some x ∧ sv x = y := by
        rw [List.getElem?_map] at hy
        cases q : ws[i]? with
        | none => rw [q] at hy; cases hy
        | some x => rw [q] at hy; exact ⟨x, rfl, by simpa using hy⟩
      have hlt : i < ws.length := (List.getElem?_eq_some_iff.mp hx).1
      have hw : ws.take (i + 1) = ws.take i ++ [x] := by rw [List.take_succ, hx]; rfl
      have hil : (ws.take i).length = i := by rw [List.length_take]; omega
      have hwl := hc.2.1
      have hxl : x.length ≤ 10000 := hc.2.2 x (List.mem_of_getElem? hx)
      have hsz : (st x).length ≤ sizeLine := by rw [st_len]; exact small_line (by omega)
      have ek : V.int ((st x).length : Nat) = kV (.inl (x.length : Int)) := by rw [st_len]; rfl
      have hLl : (lensOf (ws.take i)).length ≤ i := by have := lensOf_len (ws.take i); omega
      refine ⟨t, _, rfl, SqT.of upd_same, rfl, _, _, rfl, _, _, rfl, rfl, ?_⟩
      have x3 := x2.newer (o := .tup [.int i, sv x]) ht
      have G3 := G.new (o := .tup [.int i, sv x]) ht
      generalize upd H2 t (.tup [.int i, sv x]) = H3 at x3 G3
      have second : ∀ (H4 : Hp) (L : List Nat) (d : Nat → Addr), Ext H H4 → (∀ n ∈ L, H (d n) = none) → GL H4 g (ws.take i) L d f → x.length ∈ L → L = lensOf (ws.take (i + 1)) →
          tDrop (tBM K "list" rAppend (tDSd (tDGet (tVar 1) (tCB (fun xs H Q => ∃ z, xs = [.str z] ∧ z.length ≤ sizeLine ∧ Q (.int z.length) H) (tCons (tVar 3) tNil))) (tVar 3) (tLst tNil)) (tCons (tVar 2) tNil))
            { nx := fun σ H2 => ∃ (d : Nat → Addr) (f : W → Addr) (p v : Option V), σ = [some (.ref a), some (.ref g), p, v] ∧ Ext H H2 ∧ (∀ n ∈ lensOf (ws.take (i + 1)), H (d n) = none) ∧ (∀ x ∈ ws.take (i + 1), H (f x) = none) ∧ GL H2 g (ws.take (i + 1)) (lensOf (ws.take (i + 1))) d f, rt := Q }
            [some (.ref a), some (.ref g), some (.int i), some (sv x)] H4 := by
        intro H4 L d x4 hd4 G4 hxL eL
        subst eL
        have hnd := nd_lensOf (ws.take (i + 1))
        refine ⟨_, rfl, _, rfl, st x, rfl, hsz, g, .ref (d x.length), rfl, ?_, d x.length, rfl, .inl ⟨_, .inl (G4.inn _ hxL)⟩, _, rfl, by show 0 ≤ sizeLine; exact Nat.zero_le _, fun l hl => ?_⟩
        · rw [ek]
          exact .inl ⟨_, _, .inl G4.gd, rfl, (valV_of (κ := fun n : Nat => (.inl (n : Int) : Key)) (v := fun n => V.ref (d n)) (fun a _ b _ e => lenK_inj e) hxL).symm⟩
        · have G5 := G4.new (o := .lst []) hl
          have x5 := x4.newer (o := .lst []) hl
          refine ⟨_, .inr (st x), G5.inn _ hxL, rfl, fun v hv => ?_, fun hv => ?_⟩
          · have hxw : x ∈ ws.take i := by
              by_cases h : x ∈ ws.take i
              · exact h
              · rw [valV_no (κ := fun x : W => (.inr (st x) : Key)) (fun a ha e => h (wK_inj (b := x) e ▸ ((mem_wordsOf _ _ a).mp ha).1))] at hv
                cases hv
            rw [valV_of (κ := fun x : W => (.inr (st x) : Key)) (fun a _ b _ e => wK_inj e) ((mem_wordsOf _ _ x).mpr ⟨hxw, rfl⟩)] at hv
            cases hv
            refine ⟨.inl ⟨rfl, _, SqL.of (G5.lst x hxw)⟩, _, rfl, f x, _, _, rfl, rfl, G5.lst x hxw, ?_, ?_⟩
            · rw [List.length_map]
              have := placesOf_len (ws.take i) x
              exact small1000000 (by omega)
            · refine ⟨d, f, _, _, rfl, x5.over (hf x hxw), hd4, fun y hy => ?_, ?_⟩
              · rw [hw] at hy
                rcases List.mem_append.mp hy with hy | hy
                · exact hf y hy
                · rw [List.mem_singleton.mp hy]; exact hf x hxw
              · have G6 := G5.more hxw
                rw [hil] at G6
                rw [← hw] at G6
                exact G6
          · have hxw : x ∉ ws.take i := fun h => by
              rw [valV_of (κ := fun x : W => (.inr (st x) : Key)) (fun a _ b _ e => wK_inj e) ((mem_wordsOf _ _ x).mpr ⟨h, rfl⟩)] at hv
              cases hv
            have dl : l ≠ d x.length := (ne_of_none (G4.inn _ hxL) hl).symm
            refine ⟨?_, .inl ⟨rfl, _, SqL.of (upd_k upd_same dl)⟩, _, rfl, l, [], _, rfl, rfl, upd_k upd_same dl, by decide, ?_⟩
            · rw [List.length_map]
              have := wordsOf_len (ws.take i) x.length
              exact small1000000 (by omega)
            · refine ⟨d, fun y => if y = x then l else f y, _, _, rfl, (x5.over (hd4 _ hxL)).over (x4.free hl), hd4, fun y hy => ?_, ?_⟩
              · rw [hw] at hy
                show H (if y = x then l else f y) = none
                split
                · exact x4.free hl
                · rename_i hne
                  rcases List.mem_append.mp hy with hy | hy
                  · exact hf y hy
                  · exact absurd (List.mem_singleton.mp hy) hne
              · have G6 := G4.word hxw hxL hl
                rw [hil] at G6
                rw [← hw] at G6
                exact G6
      refine ⟨_, rfl, st x, rfl, hsz, _, rfl, g, _, rfl, .inl ⟨_, (.inl (x.length : Int) : Key), .inl G3.gd, ek, rfl⟩, _, rfl, ?_⟩
      by_cases hk : x.length ∈ lensOf (ws.take i)
      · rw [valV_of (κ := fun n : Nat => (.inl (n : Int) : Key)) (fun a _ b _ e => lenK_inj e) hk]
        refine iteF' (by simp) ?_
        refine second H3 _ d x3 hd G3 hk ?_
        rw [hw, lensOf_snoc]
        unfold addNew
        rw [if_pos hk]
      · rw [valV_no (κ := fun n : Nat => (.inl (n : Int) : Key)) (fun a ha e => hk (lenK_inj (b := x.length) e ▸ ha))]
        refine iteT' (by decide) ?_
        intro dd hdd
        have hg3 := upd_keep (u := .dK []) G3.gd hdd
        refine ⟨_, rfl, _, rfl, st x, rfl, hsz, g, _, rfl, .inl ⟨_, (.inl (x.length : Int) : Key), hg3, ek, by rw [List.length_map]; exact small1000000 (by omega), rfl⟩, ?_⟩
        refine second _ (lensOf (ws.take i) ++ [x.length]) (fun k => if k = x.length then dd else d k) ((x3.newer hdd).over hg) (fun n hn => ?_) (G3.len hk hdd) (by simp) ?_
        · show H (if n = x.length then dd else d n) = none
          split
          · exact x3.free hdd
          · rename_i hne
            rcases List.mem_append.mp hn with hn | hn
            · exact hd n hn
            · exact absurd (List.mem_singleton.mp hn) hne
        · rw [hw, lensOf_snoc]
          unfold addNew
          rw [if_neg hk]
    · rintro σ H2 ⟨d, f, p, v, rfl, x2, _, _, G⟩
      rw [List.length_map, List.take_length] at G
      exact ⟨_, rfl, k g d f H2 hg x2 G⟩
end
end L2


set_option Elab.async false
set_option linter.all false
set_option maxRecDepth 100000
set_option maxHeartbeats 4000000
namespace L2
open PySem PySem.Spec PyProof.Rows Tw
/-- the groups as they are read -/
structure GR (H : Hp) (g : Addr) (ws : List W) (d : Nat → Addr) (f : W → Addr) : Prop where
  gd : Rd H g (.dK ((lensOf ws).map fun (n : Nat) => ((.inl (n : Int) : Key), V.ref (d n))))
  inn : ∀ n ∈ lensOf ws, Rd H (d n) (.dK ((wordsOf ws n).map fun (x : W) => ((.inr (st x) : Key), V.ref (f x))))
  lst : ∀ x ∈ ws, H (f x) = some (.lst (intsV (placesOf ws x)))
section
variable {H H' : Hp} {g : Addr} {ws : List W} {d : Nat → Addr} {f : W → Addr} {L : List Nat}
theorem GL.rd (G : GL H g ws (lensOf ws) d f) : GR H g ws d f := ⟨.inl G.gd, fun n hn => .inl (G.inn n hn), G.lst⟩
theorem Ext.gr (x : Ext H H') (G : GR H g ws d f) : GR H' g ws d f := ⟨x.rdK G.gd, fun n hn => x.rdK (G.inn n hn), fun y hy => x.lst (G.lst y hy)⟩
end
def Stood (f : W → Addr) (t : W) (m n : Nat) (v : V) (H : Hp) : Prop := ∃ a, v = .ref a ∧ H a = some (.tup [.int ((m : Int) + (n : Int)), .ref (f (cut t m n))])
theorem Stood.keep {f : W → Addr} {t : W} {m n : Nat} {v : V} {H H' : Hp} (h : Stood f t m n v H) (k : Keep H H') : Stood f t m n v H' := by
  obtain ⟨a, e, z⟩ := h
  exact ⟨a, e, k a _ z (fun _ => by simp) fun _ => by simp⟩
theorem Keep.trans' {H H1 H2 : Hp} (a : Keep H H1) (b : Keep H1 H2) : Keep H H2 := fun c o e h1 h2 => b c o (a c o e h1 h2) h1 h2
theorem keep_new {H : Hp} {l : Addr} {o : HO} (h : H l = none) : Keep H (upd H l o) := (Ext.new h).kp
theorem cut_run' (t : W) (m n : Nat) (h : m ≤ t.length) : cutL t (some (m : Int)) (some ((m : Int) + (n : Int))) = cut t m n := by
  unfold cutL cut
  rw [HT.sIx_nat, show ((m : Int) + (n : Int)) = ((m + n : Nat) : Int) by omega, HT.sIx_nat, Nat.min_eq_left h]
  by_cases h2 : m + n ≤ t.length
  · rw [Nat.min_eq_left h2, Nat.add_sub_cancel_left]
  · rw [Nat.min_eq_right (by omega), List.take_of_length_le (by simp), List.take_of_length_le (by simp; omega)]
theorem kget {α : Type} {l : List α} {κ : α → Key} {v : α → V} {i : Nat} {p : Key × V} (h : (l.map fun a => (κ a, v a))[i]? = some p) : ∃ a, l[i]? = some a ∧ p = (κ a, v a) := by
  rw [List.getElem?_map] at h
  cases q : l[i]? with
  | none => rw [q] at h; cases h
  | some a => rw [q] at h; exact ⟨a, rfl, by simpa using h.symm⟩
theorem take_snoc {α : Type} {l : List α} {i : Nat} {a : α} (h : l[i]? = some a) : l.take (i + 1) = l.take i ++ [a] := by rw [List.take_succ, h]; rfl
section
variable {P : Program} {w : World} {K : PySem.W.Frag} {mg : Str → Option Value} {base : Heap}
def spStanding (K : PySem.W.Frag) : Sp := fun vs H Q _ => ∃ (g : Addr) (ws : List W) (d : Nat → Addr) (f : W → Addr) (t : W) (m : Nat), vs = [.ref g, sv t, .int (m : Int)] ∧ GR H g ws d f ∧ ws.length ≤ 10000 ∧ t.length ≤ 1000000 ∧ m ≤ t.length ∧
  ∀ D H' ys, H D = none → Ext H H' → (∀ b o, b ≠ g → H b = some o → H' b = some o) → H' D = some (.lst ys) → Paired (fun n v => Stood f t m n v H') (standL ws t m) ys → Q (.ref D) H'
theorem ok_standing (D : Def K mg "standing" "standing" Pl.s_standing ["groups", "text", "mark"]) (B : Bare mg) : Cal P w K mg base CX0 1 "standing" ["groups", "text", "mark"] (spStanding K) := by
  have sc : FnScope ["groups", "text", "mark", "left", "found", "length", "places"] ["groups", "text", "mark"] (defScope Pl.s_standing) := ⟨rfl, rfl, rfl, by decide +kernel, rfl, by decide +kernel, by decide +kernel⟩
  refine D.cal fun f fd F => F.ok sc (fun vs H Q E h => ?_) (fun cdv A outer s H vs Q E hr h => ?_)
  · obtain ⟨_, _, _, _, _, _, rfl, _⟩ := h
    rfl
  · obtain ⟨g, ws, d, f, t, m, rfl, G, hwl, htl, hmt, k⟩ := h
    have hu := hu_of hr
    refine ⟨_, pss_cons (ps_set (i := 3) sc.nd rfl (Or.inl rfl) (pe_op op_sub (pe_callB call_len_str (by rfl) B.len PySem.boot_len (pa_cons (pv 1) pa_nil)) (pv 2)))
      (pss_cons (ps_set (i := 4) sc.nd rfl (Or.inl rfl) (pe_lst pa_nil))
      (pss_cons (ps_for PassesOwn.never rfl (pi_dict (pv 0)) (pg_name (i := 5) sc.nd rfl (Or.inl rfl))
        (pss_one (ps_if (pt_cmpR op_le (pv 5) (pv 3) (nomark _))
          (pss_cons (ps_set (i := 6) sc.nd rfl (Or.inl rfl) (pe_dget1 hu (pe_dget hu (pv 0) (pv 5) (fun _ _ => rfl)) (pe_slice (r := rSlS) sl_str (pv 1) (po_some (pv 2)) (po_some (pe_op op_add (pv 2) (pv 5)))) ⟨rfl, rfl, rfl, rfl⟩))
          (pss_one (ps_if (pt_cmp (pc_notN (pv 6)))
            (pss_one (ps_expr (pe_bm PySem.F.plainAttrs_list PySem.F.slot_list_append PySem.F.type_list_append mt_append (pv 4) (pa_cons (pe_tup (pa_cons (pe_op op_add (pv 2) (pv 5)) (pa_cons (pv 6) pa_nil))) pa_nil)))) pss_nil)))
          pss_nil)))
      (pss_one (ps_ret (pv 4))))), ?_⟩
    have hsz : (st t).length ≤ sizeLine := by rw [st_len]; exact small_line htl
    refine ⟨_, rfl, st t, rfl, hsz, _, rfl, _, _, rfl, rfl, by show 0 ≤ sizeLine; exact Nat.zero_le _, fun D hD => ?_⟩
    have x1 : Ext H (upd H D (.lst [])) := Ext.new hD
    refine ⟨_, rfl, g, _, rfl, (x1.gr G).gd, fun o H2 x2 hH2 ne2 => ?_⟩
    have hDg : D ≠ g := by
      rintro rfl
      rcases G.gd with z | ⟨_, z⟩ <;> rw [hD] at z <;> cases z
    let p : Nat → Bool := fun n => decide (n ≤ t.length - m) && decide (cut t m n ∈ ws)
    refine for_dict (a := g) (o := o) (fun i σ H3 => ∃ (ln pl : Option V) (ys : List V), σ = [some (.ref g), some (sv t), some (.int (m : Int)), some (.int (((st t).length : Int) - (m : Int))), some (.ref D), ln, pl] ∧ H3 g = some (.frz o (.dK ((lensOf ws).map fun (n : Nat) => ((.inl (n : Int) : Key), V.ref (d n))))) ∧ (∀ b o, b ≠ g → H b = some o → H3 b = some o) ∧ Ext H H3 ∧ H3 D = some (.lst ys) ∧
      Paired (fun n v => Stood f t m n v H3) (((lensOf ws).take i).filter p) ys) ?_ ?_ ?_ ?_
    · exact ⟨none, none, [], rfl, hH2, fun b o hb e => by rw [ne2 b hb]; exact upd_keep e hD, x1.trans x2, by rw [ne2 D hDg]; exact upd_same, .nil⟩
    · rintro i σ H3 _ ⟨ln, pl, ys, rfl, x3, _⟩
      exact x3
    · rintro i q σ H3 hq ⟨ln, pl, ys, rfl, x3, kb, x4, hys, hp⟩
      obtain ⟨n, hn, rfl⟩ := kget hq
      have hnm : n ∈ lensOf ws := List.mem_of_getElem? hn
      have G4 := x4.gr G
      have et : (lensOf ws).take (i + 1) = (lensOf ws).take i ++ [n] := take_snoc hn
      have ys_len : ys.length ≤ 10000 := by
        rw [← hp.length]
        have h1 := List.length_filter_le p ((lensOf ws).take i)
        have h2 := List.length_take_le i (lensOf ws)
        have h3 := lensOf_len ws
        have h4 : ((lensOf ws).take i).length ≤ (lensOf ws).length := by rw [List.length_take]; omega
        omega
      have skip : p n = false → ∀ l0 p0 : Option V, ∃ (ln pl : Option V) (ys : List V), [some (.ref g), some (sv t), some (.int (m : Int)), some (.int (((st t).length : Int) - (m : Int))), some (.ref D), l0, p0] = [some (.ref g), some (sv t), some (.int (m : Int)), some (.int (((st t).length : Int) - (m : Int))), some (.ref D), ln, pl] ∧ H3 g = some (.frz o (.dK ((lensOf ws).map fun (n : Nat) => ((.inl (n : Int) : Key), V.ref (d n))))) ∧ (∀ b o, b ≠ g → H b = some o → H3 b = some o) ∧ Ext H H3 ∧ H3 D = some (.lst ys) ∧
          Paired (fun n v => Stood f t m n v H3) (((lensOf ws).take (i + 1)).filter p) ys := fun hpn l0 p0 => by
        refine ⟨l0, p0, ys, rfl, x3, kb, x4, hys, ?_⟩
        rw [et, List.filter_append]
        simp [hpn]
        exact hp
      refine ⟨_, rfl, _, rfl, _, _, rfl, rfl, _, rfl, ?_⟩
      by_cases hle : n ≤ t.length - m
      · refine iteT' (by rw [decide_eq_true_iff, st_len]; omega) ?_
        have ec := cut_run' t m n hmt
        have hcl : (cut t m n).length = n := by unfold cut; simp; omega
        refine ⟨_, rfl, _, rfl, g, .ref (d n), rfl, .inl ⟨_, (.inl (n : Int) : Key), G4.gd, rfl, (valV_of (κ := fun n : Nat => (.inl (n : Int) : Key)) (v := fun n => V.ref (d n)) (fun a _ b _ e => lenK_inj e) hnm).symm⟩, d n, rfl, .inl ⟨_, G4.inn n hnm⟩, _, rfl, _, rfl, _, rfl, _, rfl, _, rfl, _, _, rfl, rfl, _, rfl, t, rfl, small_line htl, ?_⟩
        rw [ec]
        refine ⟨_, .inl ⟨_, (.inr (st (cut t m n)) : Key), G4.inn n hnm, rfl, rfl⟩, ?_⟩
        by_cases hc : cut t m n ∈ ws
        · rw [valV_of (κ := fun x : W => (.inr (st x) : Key)) (fun a _ b _ e => wK_inj e) ((mem_wordsOf ws n _).mpr ⟨hc, hcl⟩)]
          refine ⟨_, rfl, _, rfl, iteT' (by simp) ?_⟩
          refine ⟨_, rfl, .inl ⟨rfl, _, SqL.of hys⟩, _, rfl, _, rfl, _, _, rfl, rfl, _, rfl, by show 2 ≤ sizeLine; decide, fun tp htp => ?_⟩
          have hys' := upd_keep (u := .tup [.int ((m : Int) + (n : Int)), .ref (f (cut t m n))]) hys htp
          refine ⟨D, ys, _, rfl, rfl, hys', small1000000 (by omega), ?_⟩
          have k2 := (keep_new htp).trans' (Keep.over (zs := ys ++ [.ref tp]) hys')
          refine ⟨_, _, ys ++ [.ref tp], rfl, ?_, fun b o hb e => upd_k (upd_keep (kb b o hb e) htp) (ne_of_none e hD), (x4.newer htp).over hD, upd_same, ?_⟩
          · exact upd_k (upd_keep x3 htp) hDg.symm
          · rw [et, List.filter_append]
            have hpn : p n = true := by simp [p, hle, hc]
            simp only [List.filter_cons, hpn, if_true, List.filter_nil]
            exact Paired.snoc (Paired.imp2 (fun n v h => h.keep k2) hp) ⟨tp, rfl, by rw [upd_ne (ne_of_none hys htp).symm, upd_same]; rfl⟩
        · rw [valV_no (κ := fun x : W => (.inr (st x) : Key)) (fun a ha e => hc (wK_inj (b := cut t m n) e ▸ ((mem_wordsOf ws n a).mp ha).1))]
          refine ⟨_, rfl, _, rfl, iteF' (by simp) ?_⟩
          exact skip (by simp [p, hc]) _ _
      · refine iteF' (by rw [decide_eq_true_iff, st_len]; omega) ?_
        exact skip (by simp [p]; intro z; exact absurd z hle) _ _
    · rintro σ H3 ⟨ln, pl, ys, rfl, x3, kb, x4, hys, hp⟩
      rw [List.length_map, List.take_length] at hp
      exact ⟨_, rfl, k D H3 ys hD x4 kb hys hp⟩
end
end L2


set_option Elab.async false
set_option linter.all false
set_option maxRecDepth 100000
set_option maxHeartbeats 4000000
namespace L2
open PySem PySem.Spec PyProof.Rows Tw
def rLenS (K : PySem.W.Frag) : List V → Hp → VK → Prop := fun xs H Q => ∃ p ys, xs = [.ref p] ∧ (SqL K H p ys ∨ SqT K H p ys) ∧ Q (.int ys.length) H
theorem call_len_s {X : Cx} {K : PySem.W.Frag} (h : X.K = K) : CallR X (.builtin "len") (rLenS K) := by subst h; exact call_len_seq
theorem pg_tupK {X : Cx} {K : PySem.W.Frag} {es : List Expr} {k : Nat} {t : TGs} {n : Nat} {pos : Pos} (h : X.K = K) (hc : X.calm = true) (hp : PGs X es t) (hn : (assignEach es X.env).length = n := by rfl)
    (hst : (assignEach es X.env).findIdx? (·.1) = none := by rfl) : PG X (.Tuple es k pos) (gTup K n t) := by subst h; exact pg_tup hc hp hn hst
/-- [e for a, b in l], the elements leave the heap as it is -/
theorem block_pairs {K : PySem.W.Frag} {D : Addr} {ys : List V} {te : TE} {σ : St} {H1 : Hp} {Q : VK} {j0 j1 : Option Nat} {jr : List (Option Nat)} (hS : SqL K H1 D ys) (hn : ys.length ≤ sizeLine) (A B f : Nat → V)
    (hT : ∀ i v, ys[i]? = some v → ∃ t, v = .ref t ∧ H1 t = some (.tup [A i, B i])) (hte : ∀ i H' (R : VK), i < ys.length → (∀ b o, H1 b = some o → H' b = some o) → R (f i) H' → te (some (A i) :: some (B i) :: subSt jr σ) H' R)
    (hQ : ∀ E, H1 E = none → Q (.ref E) (upd H1 E (.lst ((List.range ys.length).map f)))) : tBlock (Itl K D) (j0 :: j1 :: jr) (gTup K 2 (gCons (gName 0) (gCons (gName 1) gNil))) tYes te σ H1 Q := by
  intro E hE
  have SQ : ∀ zs, SqL K (upd H1 E (.lst zs)) D ys := fun zs => (Ext.new hE).sqL hS
  refine ⟨fun i m σ' H' => m = ys.length - i ∧ i ≤ ys.length ∧ (∃ y z, σ' = y :: z :: subSt jr σ) ∧ H' = upd H1 E (.lst ((List.range i).map f)), ⟨ys.length, by simp, Nat.zero_le _, ⟨_, _, rfl⟩, rfl⟩, ?_⟩
  rintro i m σ' H' ⟨rfl, hi, ⟨y, z, rfl⟩, rfl⟩
  by_cases hlt : i < ys.length
  · refine .inr ⟨⟨ys, ys[i], SQ _, by simp [hlt]⟩, fun σ2 H2 => (∃ y z, σ2 = y :: z :: subSt jr σ) ∧ H2 = upd H1 E (.lst ((List.range (i + 1)).map f)), fun σ2 H2 h => ⟨ys.length - (i + 1), by omega, rfl, hlt, h⟩, ?_⟩
    rintro v H2 ⟨rfl, hv⟩
    obtain ⟨t, rfl, ht⟩ := hT i v (hv ys (SQ _))
    refine ⟨t, _, rfl, SqT.of (upd_keep ht hE), rfl, _, _, rfl, _, _, rfl, rfl, ?_⟩
    dsimp only [tYes]
    rw [if_pos rfl]
    refine hte i _ _ hlt (fun b o e => upd_keep e hE) ?_
    refine ⟨_, upd_same, ?_, ⟨_, _, rfl⟩, ?_⟩
    · rw [List.length_map, List.length_range]; omega
    · rw [upd_upd, List.range_succ, List.map_append]; rfl
  · have e : i = ys.length := by omega
    subst e
    exact .inl ⟨⟨ys, SQ _, Nat.le_refl _⟩, hQ E hE⟩
theorem paired_get {α β : Type} {R : α → β → Prop} : ∀ {l : List α} {r : List β}, Paired R l r → ∀ {i : Nat} {y : β}, r[i]? = some y → ∃ x, l[i]? = some x ∧ R x y
  | _, _, .nil, _, _, e => by simp at e
  | _, _, .cons h t, 0, _, e => by simp at e; subst e; exact ⟨_, rfl, h⟩
  | _, _, .cons h t, i + 1, y, e => by
    obtain ⟨x, e1, e2⟩ := paired_get t (i := i) (y := y) (by simpa using e)
    exact ⟨x, by simpa using e1, e2⟩
end L2


set_option Elab.async false
set_option linter.all false
set_option maxRecDepth 100000
set_option maxHeartbeats 4000000
namespace L2
open PySem PySem.Spec PyProof.Rows Tw
def Sz (H : Hp) (v : V) : Prop := ∀ a xs, v = .ref a → Rd H a (.lst xs) → ∀ x, V.str x ∈ xs → x.length ≤ sizeLine
section
variable {P : Program} {w : World} {K : PySem.W.Frag} {mg : Str → Option Value} {base : Heap} {cCode cText cRead cNumber cPlaces cLengths : Addr}
def spCheckCode (K : PySem.W.Frag) (c : Addr) : Sp := fun vs H Q E => ∃ v, vs = [v] ∧ LstArg K H v ∧ Sz H v ∧ ∀ b H', Ext H H' → AllSo H v (isWordV az) b → (b = true → Q .non H') ∧ (b = false → E (.ref c) none H')
theorem ok_check_code (D : Def K mg "check_code" "check_code" Pl.s_check_code ["value"]) (Z : Exc K mg "BadCode" cCode) (C1 : Cal P w K mg base CX0 3 "is_code" ["value"] (spIsCode K)) :
    Cal P w K mg base (CX1 P w) 4 "check_code" ["value"] (spCheckCode K cCode) := by
  have sc : FnScope ["value"] ["value"] (defScope Pl.s_check_code) := ⟨rfl, rfl, rfl, by decide +kernel, rfl, by decide +kernel, by decide +kernel⟩
  refine D.cal fun f fd F => F.okX sc (fun vs H Q E h => ?_) (fun cdv A outer s H vs Q E hr h => ?_)
  · obtain ⟨_, rfl, _⟩ := h
    rfl
  · obtain ⟨v, rfl, hl, hz, k⟩ := h
    refine ⟨_, pss_one (ps_if (pt_not (pt_val (pe_callF C1 hr (pa_cons (pv 0) pa_nil) pass0))) (pss_one (ps_raise raisesX rfl Z pe_str)) pss_nil), ?_⟩
    refine ⟨_, rfl, v, rfl, hl, hz, fun b H' x1 hA => ⟨_, rfl, ?_⟩⟩
    cases b with
    | true => exact iteF ((k true H' x1 hA).1 rfl)
    | false => exact iteT ⟨by decide, (k false H' x1 hA).2 rfl⟩
end
end L2


set_option Elab.async false
set_option linter.all false
set_option maxRecDepth 100000
set_option maxHeartbeats 4000000
namespace L2
open PySem PySem.Spec PyProof.Rows Tw
/-! ### max(.., default=d) of ints -/
/-- ints are drawn, one by one -/
structure Drw (X : Cx) (pins : List (Addr × Obj)) (σ : St) (H : Hp) (it : Addr) (fp : List Addr) (tn : Nat → Heap → Prop) (ns : List Int) : Prop where
  item : ∀ (i : Nat) (n : Int) (s : Shared) (Q : Option Value → Shared → Prop) (E : Value → Shared → Prop), ns[i]? = some n → Inv X pins σ H s → tn i s.heap →
    (∀ t s', Inv X pins σ H s' → tn (i + 1) s'.heap → (∀ b o, b ∉ fp → s.heap.get? b = some o → s'.heap.get? b = some o) → Q (some (.int n t)) s') → wpAny (model X.prog X.w) X.A (pyNext (.ref it)) Q E s
  done : ∀ (s : Shared) (Q : Option Value → Shared → Prop) (E : Value → Shared → Prop), Inv X pins σ H s → tn ns.length s.heap →
    (∀ s', Inv X pins σ H s' → (∀ b o, b ∉ fp → s.heap.get? b = some o → s'.heap.get? b = some o) → Q none s') → wpAny (model X.prog X.w) X.A (pyNext (.ref it)) Q E s
  keep : ∀ i h h', tn i h → (∀ b ∈ fp, ∀ o, h.get? b = some o → h'.get? b = some o) → tn i h'
def mxStep (b : Option Int) (n : Int) : Option Int := match b with | none => some n | some m => some (if m < n then n else m)
def mxOf (ns : List Int) : Option Int := ns.foldl mxStep none
def BestIs : Option Int → List Value → Prop
  | none, vb => vb = []
  | some m, vb => ∃ t, vb = [.int m t, .int m t]
theorem max_loop {X : Cx} {pins : List (Addr × Obj)} {σ : St} {H : Hp} {it S : Addr} {fp : List Addr} {tn : Nat → Heap → Prop} {ns : List Int} {A : Around} {R : Result → Shared → Prop} (hA : A.in1 = X.A) (W : Drw X pins σ H it fp tn ns) (hSf : S ∉ fp) (hS : FpOk X pins H S) (dv : Value)
    (fin : ∀ s' u, Inv X pins σ H s' → (match mxOf ns with | none => u = dv | some m => ∃ t, u = .int m t) → R (.ok (.ret u)) s') :
    ∀ (k i : Nat) (s : Shared) (b : Option Int) (vb : List Value) (c : Nat), ns.length - i = k → i ≤ ns.length → Inv X pins σ H s → tn i s.heap → s.heap.get? S = some { cls := .type "list", data := .seq vb.toArray c } → b = (ns.take i).foldl mxStep none → BestIs b vb →
      codeAny (model X.prog X.w) A (.builtin "max.loop" ⟨[.ref it, .none, .ref S], [("default", dv)]⟩) R s := by
  have nm : (toString "max" ++ toString ".loop" : String) = "max.loop" := by decide
  intro k
  induction k with
  | zero =>
    intro i s b vb c hk hi I st hSo hb hv
    have ei : i = ns.length := by omega
    subst ei
    rw [List.take_length] at hb
    refine codeAny_builtin PySem.F.entry_max_loop ?_
    rw [Around.under_plainId PySem.F.plain_max_loop _, hA]
    show wpAny _ X.A (seqItems? (.ref S) >>= _) _ _ s
    refine wpAny_bind (wpAny_seqItems hSo rfl ?_)
    show wpAny _ X.A (tryCatch (pyNext (.ref it)) _ >>= _) _ _ s
    refine wpAny_bind (wpAny_tryCatch (W.done s _ _ I st fun s1 I1 kp => ?_))
    have hS1 := kp S _ hSf hSo
    cases b with
    | none =>
      subst hv
      show wpAny _ X.A (rule _ >>= _) _ _ _
      refine wpAny_bind (wpAny_rule (wpAny_pure ?_))
      exact fin s1 dv I1 (by unfold mxOf; rw [← hb])
    | some m =>
      obtain ⟨t, rfl⟩ := hv
      show wpAny _ X.A (updateSeq S (fun _ => #[]) >>= _) _ _ _
      refine wpAny_bind (wpAny_updateSeq hS1 rfl (wpAny_bind (wpAny_letGo (wpAny_pure ?_))))
      refine fin _ _ (I1.turned (t' := s1.toks) (it := S) (fun b o hb e => (Heap.get?_update_other _ _ (Ne.symm hb)).trans e) hS.1 hS.2.1 hS.2.2.2.1 hS.2.2.2.2.1 hS.2.2.2.2.2) ?_
      unfold mxOf
      rw [← hb]
      exact ⟨t, rfl⟩
  | succ k ih =>
    intro i s b vb c hk hi I st hSo hb hv
    have hlt : i < ns.length := by omega
    have hn : ns[i]? = some ns[i] := List.getElem?_eq_getElem hlt
    have hb' : ∀ n, ns[i]? = some n → (ns.take (i + 1)).foldl mxStep none = mxStep b n := fun n hn => by rw [take_snoc hn, List.foldl_append, ← hb]; rfl
    refine codeAny_builtin PySem.F.entry_max_loop ?_
    rw [Around.under_plainId PySem.F.plain_max_loop _, hA]
    show wpAny _ X.A (seqItems? (.ref S) >>= _) _ _ s
    refine wpAny_bind (wpAny_seqItems hSo rfl ?_)
    show wpAny _ X.A (tryCatch (pyNext (.ref it)) _ >>= _) _ _ s
    refine wpAny_bind (wpAny_tryCatch (W.item i _ s _ _ hn I st fun t s1 I1 st1 kp => ?_))
    have hS1 := kp S _ hSf hSo
    generalize hnn : ns[i] = n at hn
    have turnS : ∀ f, Inv X pins σ H { s1 with heap := s1.heap.update S (Obj.mapSeq f) } := fun f => I1.turned (t' := s1.toks) (it := S) (fun b o hb e => (Heap.get?_update_other _ _ (Ne.symm hb)).trans e) hS.1 hS.2.1 hS.2.2.2.1 hS.2.2.2.2.1 hS.2.2.2.2.2
    have tnS : ∀ f, tn (i + 1) (s1.heap.update S (Obj.mapSeq f)) := fun f => W.keep _ _ _ st1 fun b hbf o e => (Heap.get?_update_other _ _ (fun z : S = b => hSf (z ▸ hbf))).trans e
    cases b with
    | none =>
      subst hv
      show wpAny _ X.A (updateSeq S (fun _ => #[.int n t, .int n t]) >>= _) _ _ _
      refine wpAny_bind (wpAny_updateSeq hS1 rfl ?_)
      rw [nm]
      refine wpAny_pure ⟨plainId_quiet PySem.F.plain_max_loop _, ?_⟩
      exact ih (i + 1) _ (some n) [.int n t, .int n t] _ (by omega) hlt (turnS _) (tnS _) (Heap.get?_update_self _ hS1 rfl) (hb' n hn).symm ⟨t, rfl⟩
    | some m =>
      obtain ⟨u, rfl⟩ := hv
      show wpAny _ X.A (tryCatch (holding [.int n t, .int n t] (richCompare .Gt (.int n t) (.int m u) >>= _)) _ >>= _) _ _ _
      refine wpAny_bind (wpAny_tryCatch (wpAny_holding (wpAny_bind (richCompare_gives (op := .Gt) (typeIs_int s1 _ t) (typeIs_int s1 _ u) PySem.F.slot_int_gt PySem.F.entry_int_gt (PySem.F.args_int_gt_2 _ _) (gives_int_gt _ _ t u) (fun x => nomatch x) ?_))))
      refine wpAny_bind (wpAny_holding (wpAny_truthy_bool ?_))
      refine wpAny_bind (wpAny_letGo (wpAny_pure ?_))
      by_cases hgt : n > m
      · rw [decide_eq_true hgt]
        simp only [if_true]
        refine wpAny_bind (wpAny_updateSeq hS1 rfl (wpAny_bind (wpAny_letGo ?_)))
        rw [nm]
        refine wpAny_pure ⟨plainId_quiet PySem.F.plain_max_loop _, ?_⟩
        refine ih (i + 1) _ (some n) [.int n t, .int n t] _ (by omega) hlt (turnS _) (tnS _) (Heap.get?_update_self _ hS1 rfl) ?_ ⟨t, rfl⟩
        rw [hb' n hn]
        show _ = some (if m < n then n else m)
        rw [if_pos hgt]
      · rw [decide_eq_false hgt]
        simp only [Bool.false_eq_true, if_false]
        refine wpAny_bind (wpAny_letGo ?_)
        rw [nm]
        refine wpAny_pure ⟨plainId_quiet PySem.F.plain_max_loop _, ?_⟩
        refine ih (i + 1) _ (some m) [.int m u, .int m u] _ (by omega) hlt I1 st1 hS1 ?_ ⟨u, rfl⟩
        rw [hb' n hn]
        show _ = some (if m < n then n else m)
        rw [if_neg hgt]
end L2


set_option Elab.async false
set_option linter.all false
set_option maxRecDepth 100000
set_option maxHeartbeats 4000000
namespace L2
open PySem PySem.Spec PyProof.Rows Tw
def Cx.in1 (X : Cx) : Cx := { X with A := X.A.in1 }
section
variable {X : Cx} {pins : List (Addr × Obj)} {σ : St} {H : Hp} {s : Shared}
theorem Inv.in1 (I : Inv X pins σ H s) : Inv X.in1 pins σ H s :=
  ⟨⟨I.ok.mod, I.ok.kind, I.ok.glob, I.ok.blt, I.ok.above, I.ok.inj, I.ok.has, I.ok.cab, I.ok.hd, I.ok.frames, I.ok.stk, I.ok.exf, I.ok.bs, I.ok.bsz, I.ok.noex, I.ok.exfs, I.ok.funs, I.ok.frf⟩, I.os, I.bare, I.base, I.loc, I.cell, I.free, I.freeC, I.pin, I.hok, I.len⟩
theorem Inv.ofIn1 (I : Inv X.in1 pins σ H s) : Inv X pins σ H s :=
  ⟨⟨I.ok.mod, I.ok.kind, I.ok.glob, I.ok.blt, I.ok.above, I.ok.inj, I.ok.has, I.ok.cab, I.ok.hd, I.ok.frames, I.ok.stk, I.ok.exf, I.ok.bs, I.ok.bsz, I.ok.noex, I.ok.exfs, I.ok.funs, I.ok.frf⟩, I.os, I.bare, I.base, I.loc, I.cell, I.free, I.freeC, I.pin, I.hok, I.len⟩
theorem args_maxD (v dv : Value) : argsOk "max" ⟨[v], [("default", dv)]⟩ := by unfold argsOk; kernel_rfl
theorem call_maxD {v dv : Value} {Q : Value → Shared → Prop} {E : Value → Shared → Prop} 
    (h : wpAny (model X.prog X.w) X.A.in1 (pyIter v) (fun itv s2 => ∃ it fp tn ns H', itv = .ref it ∧ Inv X.in1 pins σ H' s2 ∧ Drw X.in1 pins σ H' it fp tn ns ∧ tn 0 s2.heap ∧ (∀ b ∈ fp, b < s2.heap.objs.size) ∧
      ∀ s' u, Inv X pins σ H' s' → (match mxOf ns with | none => u = dv | some m => ∃ t, u = .int m t) → Q u s') E s) : wpAny (model X.prog X.w) X.A (call (.builtin "max") [v] [("default", dv)]) Q E s := by
  have nm : (toString "max" ++ toString ".loop" : String) = "max.loop" := by decide
  refine wpAny_call (codeAny_call_builtin PySem.F.plain_max PySem.F.entry_max ?_)
  have fin : ∀ {R : Fin → Shared → Prop}, wpAny (model X.prog X.w) X.A.in1 (Builtin.«max» ⟨[v], [("default", dv)]⟩) R E s → wpAny (model X.prog X.w) X.A.in1 (checkBuiltinCall "max" ⟨[v], [("default", dv)]⟩) (fun _ s => wpAny (model X.prog X.w) X.A.in1 (Builtin.«max» ⟨[v], [("default", dv)]⟩) R E s) E s := fun {R} hc => by
    simp only [checkBuiltinCall, PySem.F.kind_max]
    have ha := args_maxD v dv
    cases hsig : Manifest.signature? "max" with
    | none => exact wpAny_pure hc
    | some sig =>
      simp only [argsOk, hsig] at ha
      have h2 : Bind.checkArgs "max" sig ⟨[v], [("default", dv)]⟩ = pure () := ha
      show wpAny _ X.A.in1 (Bind.checkArgs "max" sig ⟨[v], [("default", dv)]⟩) _ _ s
      rw [h2]
      exact wpAny_pure hc
  refine fin ?_
  show wpAny _ X.A.in1 (Builtin.Builtins.bindParams "max" ["key", "default"] 0 ⟨[], [("default", dv)]⟩ >>= _) _ _ s
  refine wpAny_bind (wpAny_of_eq (show Builtin.Builtins.bindParams "max" ["key", "default"] 0 ⟨[], [("default", dv)]⟩ = pure [none, some dv] from rfl) ?_)
  refine wpAny_bind (wpAny_pure ?_)
  refine wpAny_bind (wpAny_mono h (fun itv s2 h2 => ?_) fun _ _ e => e)
  obtain ⟨it, fp, tn, ns, H', rfl, I2, W, st, hfp, hQ⟩ := h2
  refine wpAny_bind (wpAny_newObj_type ?_)
  have hSf : s2.heap.objs.size ∉ fp := fun hm => Nat.lt_irrefl _ (hfp _ hm)
  rw [nm]
  refine wpAny_pure ⟨plainId_quiet PySem.F.plain_max_loop _, ?_⟩
  have I3 : Inv X.in1 pins σ H' { s2 with heap := s2.heap.push { cls := .type "list", data := .seq ([] : List Value).toArray } } := I2.kept (t' := s2.toks) fun b o e => Heap.get?_push_of_some _ e
  refine max_loop (X := X.in1) (A := X.A) rfl W hSf (I2.fpOk (Nat.le_refl _) (I2.hok.fresh (Nat.le_refl _))) dv (fun s' u I' hu => hQ s' u I'.ofIn1 hu) _ 0 _ none [] 0 rfl (Nat.zero_le _) I3 (W.keep _ _ _ st fun b _ o e => Heap.get?_push_of_some _ e) (Heap.get?_push_size _ rfl) rfl rfl
/-- a list draws -/
theorem drw_list {a it : Addr} {ns : List Int} (hc : X.calm = true) (hq : SqL X.K H a (ns.map V.int)) (hf : FpOk X pins H it) : Drw X pins σ H it [it] (fun i h => h.IsListIter it a i) ns where
  item := by
    intro i n s Q E hn I st h
    obtain ⟨its, rv, p, hz⟩ := I.list hq
    obtain ⟨u, hu, t, rfl⟩ := rv.get (i := i) (x := V.int n) (by rw [List.getElem?_map, hn]; rfl)
    obtain ⟨f0, f1, f2, f3, f4, f5⟩ := hf
    refine wpAny_pyNext_list_item st p.isList (x := .int n t) (by simpa using hu) fun h' st' sb => ?_
    exact h t _ (I.turned (t' := s.toks) (it := it) (fun b o hb e => (sb.2 b hb).trans e) f0 f1 f3 f4 f5) st' fun b o hb e => (sb.2 b fun z => hb (by simp [z])).trans e
  done := by
    intro s Q E I st h
    obtain ⟨its, rv, p, hz⟩ := I.list hq
    have hl := rv.length
    rw [List.length_map] at hl
    obtain ⟨f0, f1, f2, f3, f4, f5⟩ := hf
    exact wpAny_pyNext_list_end (I.ok.hd hc) st p.isList (by simp; omega) fun h' eb => h _ (I.turned (t' := s.toks) (it := it) (fun b o hb e => eb b o hb e) f0 f1 f3 f4 f5) fun b o hb e => eb b o (fun z => hb (by simp [z])) e
  keep := fun i h h' st k => st.at fun o e => k it (by simp) o e
end
/-! ### the rules -/
def mxV (ns : List Int) (d : V) : V := match mxOf ns with | none => d | some m => .int m
def tMaxL (K : PySem.W.Frag) (te : TA) (td : TE) : TE := fun σ H Q => te σ H fun xs H1 => td σ H1 fun d H2 => ∃ a ns, xs = [.ref a] ∧ SqL K H2 a (ns.map V.int) ∧ Q (mxV ns d) H2
theorem mxV_rel {ns : List Int} {d : V} {dv u : Value} (r : RelV d dv) (h : match mxOf ns with | none => u = dv | some m => ∃ t, u = .int m t) : RelV (mxV ns d) u := by
  unfold mxV
  cases q : mxOf ns with
  | none => rw [q] at h; rw [h]; exact r
  | some m => rw [q] at h; exact h
section
variable {X : Cx} {e d : Expr} {te : TA} {td : TE} {p pos kpos : Pos}
theorem pe_maxL (hc : X.calm = true) (hm : X.mg "max" = none) (he : PA X [e] te) (hd : PE X d td) (hg : Gl X "max" := by rfl)
    (hb : backTo pos (starEach [e] X.env) = (false, eval e X.env) :: backTo pos (starEach [] X.env) := by rfl) (hpl : (backTo pos (starEach [e] X.env)).any (·.1) = false := by rfl) : PE X (.Call (.Name "max" p) [e] [⟨some "default", d, kpos⟩] pos) (tMaxL X.K te td) := by
  intro pins s σ H Q I h
  refine wpAny_Call_Name_kw (ld_blt I hg hm Boot.«max» ?_)
  refine PyProof.Rows.callWith_kw (thn (he pos pins s σ H _ I h) fun us s1 ⟨xs, H1, I1, r1, q1⟩ => ?_) hb hpl rfl rfl
  refine PyProof.Rows.kws_cons (thn (hd pins s1 σ H1 _ I1 q1) fun dv s2 ⟨dx, H2, I2, rd, a, ns, e1, hq, q2⟩ => PyProof.Rows.kws_nil ?_)
  subst e1
  obtain ⟨u, rfl, ru⟩ := vals1 r1
  cases ru
  refine call_maxD (pins := pins) (σ := σ) ?_
  obtain ⟨its, rv, pl, hz⟩ := I2.list hq
  refine wpAny_pyIter_list pl.isList ?_
  have hfr : H2 s2.heap.objs.size = none := I2.hok.fresh (Nat.le_refl _)
  refine ⟨s2.heap.objs.size, [s2.heap.objs.size], _, ns, H2, rfl, (I2.kept (t' := s2.toks) fun b o e => Heap.get?_push_of_some _ e).in1, drw_list hc hq (I2.in1.fpOk (Nat.le_refl _) hfr), ⟨_, Heap.get?_push_size _ rfl, rfl, rfl⟩, fun b hb => ?_, fun s' u I' hu => ⟨_, H2, I', mxV_rel rd hu, q2⟩⟩
  have : b = s2.heap.objs.size := by simpa using hb
  rw [this, Heap.size_push]
  exact Nat.lt_succ_self _
end
end L2


set_option Elab.async false
set_option linter.all false
set_option maxRecDepth 100000
set_option maxHeartbeats 4000000
namespace L2
open PySem PySem.Spec PyProof.Rows Tw
/-- words of letters, at a -/
structure CodeL (H : Hp) (a : Addr) (ws : List W) : Prop where
  at_ : H a = some (.lst (ws.map sv))
  ok : ∀ x ∈ ws, isWordV az (sv x) = true
  few : ws.length ≤ 10000
  short : ∀ x ∈ ws, x.length ≤ 10000
section
variable {H H' : Hp} {a : Addr} {ws : List W} {K : PySem.W.Frag}
theorem CodeL.code (h : CodeL H a ws) : CodeAt K H a ws := ⟨SqL.of h.at_, h.few, h.short⟩
theorem CodeL.ext (h : CodeL H a ws) (x : Ext H H') : CodeL H' a ws := ⟨x.lst h.at_, h.ok, h.few, h.short⟩
theorem CodeL.full (h : CodeL H a ws) : Tw.Full ws := fun x hx e => by
  have := h.ok x hx
  subst e
  exact absurd this (by decide)
theorem CodeL.arg (h : CodeL H a ws) : LstArg K H (.ref a) := by
  refine ⟨⟨_, .lst h.at_⟩, fun b xs e hr => ?_⟩
  cases e
  have := hr.inj (.inl h.at_)
  subst this
  refine ⟨by rw [List.length_map]; exact small_line (by have := h.few; omega), fun y hy H' _ => ?_⟩
  obtain ⟨x, _, rfl⟩ := List.mem_map.mp hy
  exact ⟨_, .str _⟩
theorem CodeL.sz (h : CodeL H a ws) : Sz H (.ref a) := fun b xs e hr x hx => by
  cases e
  have := hr.inj (.inl h.at_)
  subst this
  obtain ⟨y, hy, e⟩ := List.mem_map.mp hx
  cases e
  rw [st_len]
  exact small_line (by have := h.short y hy; omega)
theorem CodeL.all (h : CodeL H a ws) {b : Bool} (q : AllSo H (.ref a) (isWordV az) b) : b = true := by
  rw [q.eq (.inl h.at_), List.all_eq_true]
  intro y hy
  obtain ⟨x, hx, rfl⟩ := List.mem_map.mp hy
  exact h.ok x hx
end
end L2


set_option Elab.async false
set_option linter.all false
set_option maxRecDepth 100000
set_option maxHeartbeats 4000000
namespace L2
open PySem PySem.Spec PyProof.Rows Tw
end L2


set_option Elab.async false
set_option linter.all false
set_option maxRecDepth 100000
set_option maxHeartbeats 4000000
namespace L2
open PySem PySem.Spec PyProof.Rows Tw
def IntsL (H : Hp) (a : Addr) (r : List Nat) : Prop := H a = some (.lst (intsV r)) ∧ r.length ≤ 100000
section
variable {H H' : Hp} {a : Addr} {r : List Nat} {K : PySem.W.Frag}
theorem IntsL.ext (h : IntsL H a r) (x : Ext H H') : IntsL H' a r := ⟨x.lst h.1, h.2⟩
theorem IntsL.arg (h : IntsL H a r) : LstArg K H (.ref a) := by
  refine ⟨⟨_, .lst h.1⟩, fun b xs e hr => ?_⟩
  cases e
  have := hr.inj (.inl h.1)
  subst this
  refine ⟨by rw [List.length_map]; exact small_line (by have := h.2; omega), fun y hy H' _ => ?_⟩
  obtain ⟨x, _, rfl⟩ := List.mem_map.mp hy
  exact ⟨_, .int _⟩
theorem IntsL.places (h : IntsL H a r) : PlacesAt K H a r := ⟨SqL.of h.1, h.2⟩
end
section
variable {P : Program} {w : World} {K : PySem.W.Frag} {mg : Str → Option Value} {base : Heap} {cCode cText cRead cNumber cPlaces cLengths : Addr}
end
end L2


set_option Elab.async false
set_option linter.all false
set_option maxRecDepth 100000
set_option maxHeartbeats 2000000
namespace L2
open PySem PySem.Spec PyProof.Rows Tw
seal PSs PS PE PT PW PA PG PGs PI PC
abbrev PkL (P : Addr) (H : Hp) : Prop := Pk P Pl.lamPos Pl.lamQual H
/-- what was there is as it was, but for dicts that are shut and the table of the lambda's code -/
structure XP (P : Addr) (H H' : Hp) : Prop where
  pk : PkL P H
  pk' : PkL P H'
  ext : ∀ b o, b ≠ P → H b = some o → H' b = some o ∨ ((∃ kvs, o = .dK kvs) ∧ ∃ ob, H' b = some (.frz ob o))
section
variable {P : Addr} {H H1 H2 : Hp} {a b l : Addr} {o : HO} {xs : List V} {K : PySem.W.Frag}
theorem PkL.ext (p : PkL P H) (x : Ext H H1) : PkL P H1 := by
  rcases p with p | ⟨c, p, q⟩
  · exact .inl (x.keep p fun _ z => nomatch z)
  · exact .inr ⟨c, x.keep p (fun _ z => nomatch z), x.keep q (fun _ z => nomatch z)⟩
theorem XP.of (p : PkL P H) (x : Ext H H1) : XP P H H1 := ⟨p, PkL.ext p x, fun b o _ e => x b o e⟩
theorem XP.refl (p : PkL P H) : XP P H H := .of p (.refl H)
theorem XP.ne (x : XP P H H1) (h : H b = some o) (n : ∀ ps, o ≠ .tbl ps) : b ≠ P := by
  obtain ⟨ps, q⟩ := x.pk.at
  exact ne_of h q (n ps)
theorem XP.trans (x : XP P H H1) (y : XP P H1 H2) : XP P H H2 := by
  refine ⟨x.pk, y.pk', fun b o hb h => ?_⟩
  rcases x.ext b o hb h with h1 | ⟨⟨kvs, e⟩, ob, h1⟩
  · exact y.ext b o hb h1
  · rcases y.ext b _ hb h1 with h2 | ⟨⟨kvs, e⟩, _⟩
    · exact .inr ⟨⟨kvs, e⟩, ob, h2⟩
    · cases e
theorem XP.keep (x : XP P H H1) (h : H b = some o) (hn : ∀ kvs, o ≠ .dK kvs) (ht : ∀ ps, o ≠ .tbl ps) : H1 b = some o := by
  rcases x.ext b o (x.ne h ht) h with h1 | ⟨⟨kvs, e⟩, _⟩
  · exact h1
  · exact absurd e (hn kvs)
theorem XP.lst (x : XP P H H1) (h : H b = some (.lst xs)) : H1 b = some (.lst xs) := x.keep h (fun _ e => nomatch e) fun _ e => nomatch e
theorem XP.free (x : XP P H H1) (h : H1 l = none) : H l = none := by
  cases q : H l with
  | none => rfl
  | some u =>
    by_cases z : l = P
    · subst z
      obtain ⟨ps, r⟩ := x.pk'.at
      rw [h] at r
      cases r
    · rcases x.ext l u z q with h1 | ⟨_, ob, h1⟩ <;> rw [h] at h1 <;> cases h1
theorem XP.then (x : XP P H H1) (y : Ext H1 H2) : XP P H H2 := x.trans (.of x.pk' y)
theorem XP.over {u : HO} (x : XP P H H1) (h : H l = none) (h1 : H1 l = some u) (nt : ∀ ps, u ≠ .tbl ps) (nx : ∀ φ, u ≠ .ext φ) : XP P H (upd H1 l o) := by
  obtain ⟨ps, hp⟩ := x.pk'.at
  have lP : P ≠ l := ne_of hp h1 (fun z => nt ps z.symm)
  refine ⟨x.pk, ?_, fun b w hb e => ?_⟩
  · rcases x.pk' with p | ⟨c, p, q⟩
    · exact .inl (by rw [upd_ne lP]; exact p)
    · exact .inr ⟨c, by rw [upd_ne lP]; exact p, by rw [upd_ne (ne_of q h1 (fun z => nx _ z.symm))]; exact q⟩
  · rw [upd_ne (ne_of_none e h)]
    exact x.ext b w hb e
theorem XP.codeL {ws : List W} (x : XP P H H1) (h : CodeL H a ws) : CodeL H1 a ws := ⟨x.lst h.at_, h.ok, h.few, h.short⟩
end
section
variable {P : Program} {w : World} {K : PySem.W.Frag} {mg : Str → Option Value} {base : Heap}
/-- a def whose own code is known -/
theorem Fun.okC {x qual : Str} {st : Stmt} {f c : Addr} {fd : FuncData} {N ps : List Str} {k : Nat} {sp : Sp} (F : Fun K x qual st f fd) (hc : fd.code = .ref c) (S : FnScope N ps (defScope st)) (len : ∀ vs H Q E, sp vs H Q E → vs.length = ps.length)
    (hbody : ∀ (A : Around) (outer : List Env) (s : Shared) (H : Hp) (vs : List V) (Q : VK) (E : XK), Room k (A.deeper (envOfC qual (defScope st) s.heap.objs.size f (.ref c))) → sp vs H Q E →
      ∃ t, PSs (cxOf CX0 P w K mg base N qual (defScope st) f (.ref c) A outer s H E).nox (defBody st) t ∧ t { nx := fun _ H' => Q .non H', rt := Q } (start N vs) H) : FnOk P w K mg base CX0 (k + 1) f fd ps sp := by
  obtain ⟨oc, od, kV, doc, pm, an, cdv, ct, osl, rfl, lk, hcd⟩ := F.ex
  cases (show cdv = .ref c from hc)
  refine fn_of lk hcd S len fun A outer s H vs Q E hr hsp => ?_
  obtain ⟨t, h, q⟩ := hbody A outer s H vs Q E hr hsp
  exact ⟨t, h.nox, q⟩
def spInOrder (K : PySem.W.Frag) (T : Addr) : Sp := fun vs H Q _ => ∃ (l : Addr) (xs : List V) (R : List Nat → Prop), vs = [.ref l] ∧ SqL K H l xs ∧ xs.length < 64 ∧ Srt xs R ∧ PkL T H ∧ ∀ D ms H', XP T H H' → H D = none → H' D = some (.lst (intsV ms)) → R ms → Q (.ref D) H'
/-- in_order stands under its name, its code's table at T -/
def DefT (K : PySem.W.Frag) (mg : Str → Option Value) (base : Heap) (T : Addr) : Prop :=
  ∃ f fd c, Fun K "in_order" "in_order" Pl.s_in_order f fd ∧ mg "in_order" = some (.ref f) ∧ PySem.W.keepIn K (.ref f) = true ∧ Binds K fd ["values"] [] ∧ fd.code = .ref c ∧ PySem.W.CodeHd base c T
theorem ok_in_order {T : Addr} (D : DefT K mg base T) (B : Bare mg) (M : BM mg base) : Cal P w K mg base CX0 1 "in_order" ["values"] (spInOrder K T) := by
  have sc : FnScope ["values"] ["values"] (defScope Pl.s_in_order) := ⟨rfl, rfl, rfl, by decide +kernel, rfl, by decide +kernel, by decide +kernel⟩
  obtain ⟨f, fd, c, F, h1, h2, h3, h4, C⟩ := D
  refine ⟨f, fd, F.okC h4 sc (fun vs H Q E h => ?_) (fun A outer s H vs Q E hr h => ?_), h1, h2, h3⟩
  · obtain ⟨_, _, _, rfl, _⟩ := h
    rfl
  · obtain ⟨l, xs, R, rfl, hq, h64, hs, pk, k⟩ := h
    refine ⟨_, pss_one (ps_ret (pe_order (P := T) (i := 0) (v := "values") (y := "place") (c := c) hr B.sorted B.range (pe_callB call_len_seq (by rfl) B.len PySem.boot_len (pa_cons (pv 0) pa_nil)) rfl rfl rfl rfl rfl C M rfl rfl rfl rfl rfl (by decide +kernel) (fun _ _ _ _ _ _ _ _ => rfl) rfl (by decide) (by decide) (by decide))), ?_⟩
    · refine ⟨_, rfl, l, xs, rfl, .inl hq, xs.length, rfl, fun r hr => ⟨r, l, xs, R, rfl, upd_same, rfl, ?_, h64, hs, ?_, fun D ms H2 kp pk2 hD h1 h2 h3 => ?_⟩⟩
      · exact Ext.sqL (Ext.new hr) hq
      · exact PkL.ext pk (Ext.new hr)
      · have fD : H D = none := (Ext.new hr).free h1
        exact k D ms H2 ⟨pk, pk2, fun b o hb z => .inl (kp b o hb (by rw [upd_ne (ne_of_none z hr)]; exact z))⟩ fD h2 h3
end
end L2


set_option Elab.async false
set_option linter.all false
set_option maxRecDepth 100000
set_option maxHeartbeats 4000000
namespace L2
open PySem PySem.Spec PyProof.Rows Tw
/-! ### lists of bools compared; a text times a number -/
theorem fold_app (a : Array Nat) : ∀ (n : Nat) (acc : Array Nat), (List.replicate n a).foldl (· ++ ·) acc = acc ++ (List.replicate n a.toList).flatten.toArray
  | 0, acc => by simp
  | n + 1, acc => by
    rw [List.replicate_succ, List.foldl_cons, fold_app a n (acc ++ a), List.replicate_succ, List.flatten_cons]
    apply Array.ext'
    simp
def rMulS : R2 := fun x y H Q => ∃ (a : W) (n : Int), x = sv a ∧ y = .int n ∧ 0 ≤ n ∧ n ≤ 1000 ∧ a.length ≤ 1000 ∧ Q (sv (List.replicate n.toNat a).flatten) H
theorem op_mulS {X : Cx} : OpR X (binaryOp .Mult) rMulS := by
  intro pins s σ H x y v u Q I rx ry h
  obtain ⟨a, n, rfl, rfl, h0, h1, ha, q⟩ := h
  obtain ⟨t, rfl⟩ := rx
  obtain ⟨t', rfl⟩ := ry
  have hlen : a.length * n.toNat ≤ 1000000 := Nat.mul_le_mul ha (show n.toNat ≤ 1000 by omega)
  refine PySem.P.mul_str (by
    have g1 : ¬ n < -(2 ^ 63 : Int) := by omega
    have g2 : ¬ n ≥ 2 ^ 63 := by omega
    rw [decide_eq_false g1, decide_eq_false g2]; rfl) (fun g1 _ => ?_) (fun _ _ => ?_) ?_
  · rw [st_len]
    have : (9223372036854775 : Int) ≤ (2 ^ 63 - 1) / n := by
      rw [Int.le_ediv_iff_mul_le (by omega)]
      omega
    omega
  · rw [st_len]
    unfold Builtin.Str.tooLong
    exact decide_eq_false (by have := small_line hlen; omega)
  · by_cases g1 : n < 1
    · rw [if_pos g1]
      have : n.toNat = 0 := by omega
      rw [this] at q
      exact ⟨by decide, sv [], H, I.tok _, ⟨_, rfl⟩, q⟩
    · rw [if_neg g1]
      by_cases g2 : (n == 1 || (st a).length == 0) = true
      · rw [if_pos g2]
        have e : (List.replicate n.toNat a).flatten = a := by
          rw [Bool.or_eq_true, beq_iff_eq, beq_iff_eq, st_len] at g2
          rcases g2 with z | z
          · rw [z]; simp
          · have : a = [] := List.eq_nil_of_length_eq_zero z
            rw [this]; simp
        rw [e] at q
        exact ⟨sv a, H, I, ⟨t, rfl⟩, q⟩
      · rw [if_neg g2]
        have e : (⟨(List.replicate n.toNat (st a).cps).foldl (· ++ ·) #[]⟩ : Str) = st (List.replicate n.toNat a).flatten := by
          rw [fold_app]
          show (⟨#[] ++ (List.replicate n.toNat a).flatten.toArray⟩ : Str) = ⟨(List.replicate n.toNat a).flatten.toArray⟩
          simp
        rw [e]
        refine ⟨?_, sv _, H, I.tok _, ⟨_, rfl⟩, q⟩
        rw [st_len]
        have : (List.replicate n.toNat a).flatten.length = n.toNat * a.length := by simp
        rw [this, Nat.mul_comm]
        exact small_line hlen
end L2


set_option Elab.async false
set_option linter.all false
set_option maxRecDepth 100000
set_option maxHeartbeats 4000000
namespace L2
open PySem PySem.Spec PyProof.Rows Tw
section
variable {X : Cx}
/-! ### a text told backwards -/
theorem revIdx (n : Nat) : Builtin.Str.strSliceIndices none none (-1) n = (List.range n).map fun k => n - 1 - k := by
  show sliceRange (if (-1 : Int) > 0 then 0 else (n : Int) - 1) (if (-1 : Int) > 0 then (n : Int) else -1) (-1) = _
  simp only [show ¬ ((-1 : Int) > 0) by decide, if_false]
  unfold sliceRange
  simp only [show ¬ ((-1 : Int) > 0) by decide, if_false]
  have e : ((if (n : Int) - 1 > -1 then ((n : Int) - 1 - -1 - -1 - 1) / (- -1) else 0 : Int)).toNat = n := by
    split <;> simp <;> omega
  rw [e]
  apply List.map_congr_left
  intro k hk
  have := List.mem_range.mp hk
  omega
theorem rev_range (n : Nat) : (List.range n).map (fun k => n - 1 - k) = (List.range n).reverse := by
  apply List.ext_getElem
  · simp
  · intro i h1 h2
    simp
theorem revPicked (a : W) (t : Tok) : ((slicePicked (st a) none none (some (-1, t))).filterMap ((st a).cps[·]?)) = a.reverse := by
  unfold slicePicked
  rw [st_len]
  show (Builtin.Str.strSliceIndices none none (-1) a.length).filterMap _ = _
  rw [revIdx, rev_range, List.filterMap_reverse]
  have : (fun i : Nat => (st a).cps[i]?) = fun i : Nat => a[i]? := by funext i; show (a.toArray)[i]? = a[i]?; simp
  rw [this, List.filterMap_getElem?_range_length]
theorem pe_rev {e es : Expr} {te ts : TE} {p2 pos : Pos} (he : PE X e te) (hs : PE X es ts) : PE X (.Subscript e (.Slice none none (some es) p2) pos)
    (fun σ H Q => te σ H fun x H1 => ts σ H1 fun i H2 => ∃ a : W, x = sv a ∧ i = .int (-1) ∧ a.length ≤ sizeLine ∧ Q (sv a.reverse) H2) := by
  intro pins s σ H Q I h
  refine Subscript_ (thn (he pins s σ H _ I h) fun v s1 ⟨x, H1, I1, r1, q1⟩ => ?_)
  refine wpAny_Slice ?_
  rw [evalPart_none]
  refine wpAny_pure ?_
  rw [evalPart_some]
  refine wpAny_pure ?_
  refine thn (hs pins s1 σ H1 _ I1 q1) fun u s2 ⟨y, H2, I2, r2, q2⟩ => ?_
  obtain ⟨a, rfl, rfl, hz, q⟩ := q2
  obtain ⟨t, rfl⟩ := r1
  obtain ⟨tu, rfl⟩ := r2
  have I4 : Inv X pins σ H2 { s2 with heap := s2.heap.push { cls := .type "slice", data := .fields #[.none, .none, .int (-1) tu] } } := I2.kept (t' := s2.toks) fun b ob q => Heap.get?_push_of_some _ q
  refine tail_any (ops := [.ref s2.heap.objs.size, .str (st a) t]) (typeIs_str _ _ t) PySem.F.slot_str_getitem.lookup ?_ (by with_unfolding_all rfl)
  refine wpAny_getItem_str_slice (l := none) (u := none) (st := some (-1, tu)) ⟨_, Heap.get?_push_size _ rfl, rfl, rfl⟩ rfl ?_
  unfold sliceMade
  rw [if_neg (by simp)]
  show Made.post (.str ⟨_⟩) _ _
  rw [revPicked]
  exact ⟨by rw [show (⟨a.reverse.toArray⟩ : Str) = st a.reverse from rfl, st_len, List.length_reverse]; exact hz, sv a.reverse, H2, I4.tok _, ⟨_, rfl⟩, q⟩
end
end L2


set_option Elab.async false
set_option linter.all false
set_option maxRecDepth 100000
set_option maxHeartbeats 2000000
namespace L2
open PySem PySem.Spec PyProof.Rows Tw
seal PSs PS PE PT PW PA PG PGs PI PC
theorem call_isi_s {X : Cx} {K : PySem.W.Frag} (h : X.K = K) : CallR X (.builtin "isinstance") (rIsi K) := by subst h; exact call_isi
section
variable {P : Program} {w : World} {K : PySem.W.Frag} {mg : Str → Option Value} {base : Heap}
def spStands : Sp := fun vs H Q _ => ∃ (x t : W) (m : Nat), vs = [sv x, sv t, .int (m : Int)] ∧ x.length ≤ 10000 ∧ t.length ≤ 100000 ∧ m ≤ t.length ∧ Q (.bl (decide (cut t m x.length = x))) H
theorem ok_stands (D : Def K mg "_law_stands" "_law_stands" Pl.s_law_stands ["_law_word", "_law_text", "_law_at"]) (B : Bare mg) : Cal P w K mg base CX0 1 "_law_stands" ["_law_word", "_law_text", "_law_at"] spStands := by
  have sc : FnScope ["_law_word", "_law_text", "_law_at"] ["_law_word", "_law_text", "_law_at"] (defScope Pl.s_law_stands) := ⟨rfl, rfl, rfl, by decide +kernel, rfl, by decide +kernel, by decide +kernel⟩
  refine D.cal fun f fd F => F.ok sc (fun vs H Q E h => ?_) (fun cdv A outer s H vs Q E hr h => ?_)
  · obtain ⟨_, _, _, rfl, _⟩ := h
    rfl
  · obtain ⟨x, t, m, rfl, hx, ht, hm, k⟩ := h
    refine ⟨_, pss_one (ps_ret (pe_cmpR op_eq (pe_slice sl_str (pv 1) (po_some (pv 2)) (po_some (pe_op op_add (pv 2) (pe_callB call_len_str (by rfl) B.len PySem.boot_len (pa_cons (pv 0) pa_nil))))) (pv 0) (nomark _))), ?_⟩
    refine ⟨_, rfl, _, rfl, (m : Int), rfl, _, rfl, _, rfl, st x, rfl, by rw [st_len]; exact small_line (by omega), _, _, rfl, rfl, _, rfl, t, rfl, small_line (by omega), _, rfl, rfl, ?_⟩
    rw [st_len, cut_run' t m x.length hm]
    have e : decide (sv (cut t m x.length) = sv x) = decide (cut t m x.length = x) := by
      by_cases z : cut t m x.length = x
      · rw [z]; simp
      · rw [decide_eq_false z, decide_eq_false fun q => z (st_inj (V.str.inj q))]
    rw [e]
    exact k
def spNumbers (K : PySem.W.Frag) : Sp := fun vs H Q _ => ∃ (p : Addr) (r : List Nat), vs = [.ref p] ∧ H p = some (.lst (intsV r)) ∧ r.length ≤ 100000 ∧ ∀ H', Ext H H' → Q (.bl true) H'
theorem ok_numbers (D : Def K mg "_law_numbers" "_law_numbers" Pl.s_law_numbers ["_law_found"]) (B : Bare mg) : Cal P w K mg base CX0 1 "_law_numbers" ["_law_found"] (spNumbers K) := by
  have sc : FnScope ["_law_found"] ["_law_found"] (defScope Pl.s_law_numbers) := ⟨rfl, rfl, rfl, by decide +kernel, rfl, by decide +kernel, by decide +kernel⟩
  refine D.cal fun f fd F => F.ok sc (fun vs H Q E h => ?_) (fun cdv A outer s H vs Q E hr h => ?_)
  · obtain ⟨_, _, rfl, _⟩ := h
    rfl
  · obtain ⟨p, r, rfl, hp, hz, k⟩ := h
    have nd : (["_law_one"] : List Str).Nodup := by decide +kernel
    refine ⟨_, pss_cons (ps_if (pt_not (pt_val (pe_isi_list B (pv 0)))) (pss_one (ps_ret pe_bl)) pss_nil)
      (pss_one (ps_ret (pe_callB (call_all_bl rfl) (by rfl) B.all Boot.«all» (pa_cons
        (pe_comp (N' := ["_law_one"]) (js := [none]) (.of (by kernel_rfl)) rfl (pi_list (pv 0)) fun C fp s₀ H₀ => ⟨pg_name (i := 0) nd rfl (Or.inl rfl), pts_nil,
          pe_and (pe_callB (r := rIsi K) (call_isi_s rfl) (by rfl) B.isi boot_isinstance (pa_cons (pv 0) (pa_cons (pe_bltn (v := .ty "int") (by rfl) B.int boot_int rfl) pa_nil))) (pe_one (pe_not (pe_callB (r := rIsi K) (call_isi_s rfl) (by rfl) B.isi boot_isinstance (pa_cons (pv 0) (pa_cons (pe_bltn (v := .ty "bool") (by rfl) B.bool boot_bool rfl) pa_nil)))))⟩) pa_nil)))), ?_⟩
    obtain ⟨t, b, ty, e, hb⟩ := isi_list (K := K) (H := H) (v := .ref p) ⟨_, .lst hp⟩
    have hbt : b = true := hb.mpr ⟨p, _, rfl, .inl hp⟩
    subst hbt
    refine ⟨_, rfl, _, _, t, _, rfl, trivial, ty, e, _, rfl, iteF ?_⟩
    have hq : SqL K H p (intsV r) := SqL.of hp
    refine ⟨_, rfl, p, rfl, ⟨_, hq⟩, ?_⟩
    refine block_map1 hq (by unfold intsV; rw [List.length_map]; exact small_line (by omega)) (fun y => .bl true) (fun y H' hy x1 Q' k' => ?_) (fun D H' _ x1 hD => ?_)
    · obtain ⟨i, hi, rfl⟩ := List.mem_map.mp hy
      obtain ⟨t, ty, e⟩ := isi_int (K := K) (H := H') (v := .int (i : Int)) ⟨_, .int _⟩
      refine ⟨_, rfl, _, _, t, _, rfl, trivial, ty, e, _, rfl, iteT ?_⟩
      obtain ⟨t, ty, e⟩ := isi_bool (K := K) (H := H') (v := .int (i : Int)) ⟨_, .int _⟩
      exact ⟨_, rfl, _, _, t, _, rfl, trivial, ty, e, _, rfl, k' _ H' (Ext.refl _) rfl⟩
    · refine ⟨D, (intsV r).map fun _ => true, rfl, SqL.of (by rw [hD]; simp [Function.comp_def]), ?_⟩
      have e : ((intsV r).map fun _ => true).all id = true := by simp
      rw [e]
      exact k H' x1
end
end L2


set_option Elab.async false
set_option linter.all false
set_option maxRecDepth 100000
set_option maxHeartbeats 2000000
namespace L2
open PySem PySem.Spec PyProof.Rows Tw
/-! ### lists of texts compared; is not True; two kinds of one thing -/
theorem az_small : ∀ z ∈ az, z < 1000 := by decide
theorem kt_lay : ∀ ws : List W, (∀ x ∈ ws, ∀ z ∈ x, z ∈ az) → PyData.canLayAll0 (ws.map fun x => PyData.str (st x)) = true
  | [], _ => rfl
  | x :: r, h => by
    have h1 := h x List.mem_cons_self
    have h2 := kt_lay r fun y hy => h y (List.mem_cons_of_mem _ hy)
    have h3 : PyData.strOk (st x) = true := by
      show (st x).cps.all (· < 0x110000) = true
      rw [Array.all_eq_true']
      intro z hz
      have hz' : z ∈ x := List.mem_toArray.mp (show z ∈ x.toArray from hz)
      have := az_small z (h1 z hz')
      simp only [decide_eq_true_iff]
      omega
    simp only [List.map_cons, PyData.canLayAll0, PyData.canLay0, h2, h3, Bool.and_self]
theorem kt_depth : ∀ ws : List W, PyData.depthAll (ws.map fun x => PyData.str (st x)) = 0
  | [] => rfl
  | _ :: r => by simp [PyData.depthAll, PyData.depth, kt_depth r]
theorem kt_shaped (ws : List W) (h : ∀ x ∈ ws, ∀ z ∈ x, z ∈ az) : SeqAt.shaped (.list (ws.map fun x => PyData.str (st x))) = true := by simp [SeqAt.shaped, PyData.canLay0, PyData.depth, kt_lay ws h, kt_depth]
theorem kt_same (ws : List W) : PySem.Spec.sameAll (ws.map fun x => PyData.str (st x)) (ws.map fun x => PyData.str (st x)) = true := by
  induction ws with
  | nil => simp [PySem.Spec.sameAll]
  | cons x r ih => simp [PySem.Spec.sameAll, PySem.Spec.same, ih]
theorem kt_carried : ∀ {ws : List W} {us : List Value}, Vals (ws.map sv) us → CarriedAll us (ws.map fun x => PyData.str (st x))
  | [], _, r => by cases r; exact .nil
  | x :: ws, _, r => by
    cases r with
    | cons r1 r2 =>
      obtain ⟨t, rfl⟩ := r1
      exact .cons (.str _ t) (kt_carried r2)
def rSame (K : PySem.W.Frag) (b : Bool) : R2 := fun x y H Q => ∃ (p q : Addr) (ws : List W), x = .ref p ∧ y = .ref q ∧ SqL K H p (ws.map sv) ∧ SqL K H q (ws.map sv) ∧ (∀ x ∈ ws, ∀ z ∈ x, z ∈ az) ∧ Q (.bl b) H
theorem op_neLT {X : Cx} {K : PySem.W.Frag} (h : X.K = K) (hu : X.A.units + 64 < cLine) : OpR X (compareOp .NotEq) (rSame K false) := by
  subst h
  intro pins s σ H x y v u Q I rx ry h
  obtain ⟨p, q, ws, rfl, rfl, hp, hq, hl, k⟩ := h
  cases rx
  cases ry
  obtain ⟨its, r, pl, _⟩ := I.list hp
  obtain ⟨its', r', pl', _⟩ := I.list hq
  refine ne_dataH_same (reads_newData pl.isList (kt_carried r)) (reads_newData pl'.isList (kt_carried r')) (kt_shaped _ hl) (kt_shaped _ hl) hu (SeqAt.noMix_of_shape (.list .str) rfl _ _ (list_map_has fun _ => rfl) (list_map_has fun _ => rfl)) ?_
  have e : PySem.Spec.same (.list (ws.map fun x => PyData.str (st x))) (.list (ws.map fun x => PyData.str (st x))) = true := by simp only [PySem.Spec.same]; exact kt_same ws
  rw [e]
  exact ⟨.bl _, H, I, rfl, k⟩
def rIsNotB : R2 := fun x y H Q => ∃ b c, x = .bl b ∧ y = .bl c ∧ Q (.bl (!decide (b = c))) H
theorem op_isNotB {X : Cx} : OpR X (compareOp .IsNot) rIsNotB := by
  intro pins s σ H x y v u Q I rx ry h
  obtain ⟨b, c, rfl, rfl, k⟩ := h
  cases rx
  cases ry
  refine wpAny_isNot_plain rfl ⟨.bl (!decide (b = c)), H, I, ?_, k⟩
  cases b <;> cases c <;> rfl
theorem pe_either {X : Cx} {e : Expr} {t t' : TE} (h : PE X e t) (h' : PE X e t') : PE X e (fun σ H Q => t σ H Q ∨ t' σ H Q) := fun pins s σ H Q I q => q.elim (h pins s σ H Q I) (h' pins s σ H Q I)
seal PSs PS PE PT PW PA PG PGs PI PC
def lstLen (H : Hp) (l : Addr) : Nat := match H l with
  | some (.lst xs) => xs.length
  | _ => 0
theorem lstLen_of {H : Hp} {l : Addr} {xs : List V} (h : H l = some (.lst xs)) : lstLen H l = xs.length := by unfold lstLen; rw [h]
theorem no_list (K : PySem.W.Frag) : PySem.W.kitOne K (.type "int") (.type "list") = some false := by kernel_rfl
theorem yes_list (K : PySem.W.Frag) : PySem.W.kitOne K (.type "list") (.type "list") = some true := by kernel_rfl
section
variable {P : Program} {w : World} {K : PySem.W.Frag} {mg : Str → Option Value} {base : Heap}
end
theorem places_all {n : Nat} {r : List Nat} : (intsV r).all (isPlaceV (n : Int)) = decide (∀ i ∈ r, i < n) := by
  rw [Bool.eq_iff_iff, List.all_eq_true, decide_eq_true_iff]
  constructor
  · intro h i hi
    have := h (.int (i : Int)) (List.mem_map.mpr ⟨i, hi, rfl⟩)
    simp only [isPlaceV, Bool.and_eq_true, decide_eq_true_iff] at this
    omega
  · intro h v hv
    obtain ⟨i, hi, rfl⟩ := List.mem_map.mp hv
    have := h i hi
    simp only [isPlaceV, Bool.and_eq_true, decide_eq_true_iff]
    omega
theorem pe_fld_s {X : Cx} {K : PySem.W.Frag} {e : Expr} {f : Str} {pos : Pos} {ta : TE} (h : X.K = K) (he : PE X e ta) (hb : attributeBase e f X.env (eval e X.env) = eval e X.env) : PE X (.Attribute e f pos) (tFld K ta f) := by subst h; exact pe_fld he hb
theorem op_in_s {X : Cx} {K : PySem.W.Frag} (h : X.K = K) : OpR X (compareOp .In) (rIn K false) := by subst h; exact op_in_seq
theorem op_notIn_s {X : Cx} {K : PySem.W.Frag} (h : X.K = K) : OpR X (compareOp .NotIn) (rIn K true) := by subst h; exact op_notIn_seq
/-- what isinstance needs of a class -/
structure InsTy (K : PySem.W.Frag) (C : Addr) : Prop where
  cls : Cls K C
  ha : PySem.W.findIn K (.ref C) "__class__" = some (some (.builtin "object.__class__"))
  hn : PySem.W.specialIn K (.builtin "object.__class__") "__get__" = some (some (.builtin "getset_descriptor.__get__"))
  htk : PySem.W.takesIn K (.builtin "object.__class__") = some true
  hm : PySem.W.mroIn K C (.type "object") = some true
theorem InsTy.ty {K : PySem.W.Frag} {C a dx : Addr} {H : Hp} {fs : List (Str × V)} (I : InsTy K C) (e : H a = some (.ins C dx fs)) : TyOf K H (.ref a) (.ref C) := .ins e I.cls I.ha I.hn I.htk I.hm
theorem passF {P : Program} {w : World} {X : Cx} : Passes (CX1 P w) X (fun _ _ _ => False) := by
  intro pins σ H1 s1 e s' I h
  obtain ⟨ea, cls, H', rfl, F, q⟩ := h
  exact q.elim
end L2


set_option Elab.async false
set_option linter.all false
set_option maxRecDepth 100000
set_option maxHeartbeats 2000000
namespace L2
open PySem PySem.Spec PyProof.Rows Tw
seal PSs PS PE PT PW PA PG PGs PI PC
/-- a class of answers: how it is made and shown -/
structure Kls (P : Program) (w : World) (K : PySem.W.Frag) (mg : Str → Option Value) (base : Heap) (x : Str) (C : Addr) (ips : List Str) (ini : Sp) (sps : List Str) (sp : Sp) : Prop where
  there : mg x = some (.ref C)
  cls : Cls K C
  mak : ∃ f fd, Mk K C f ∧ FnOk P w K mg base CX0 2 f fd ("self" :: ips) ini ∧ Binds K fd ("self" :: ips) []
  sh : ∃ f fd, Meth K C "shows" f ∧ FnOk P w K mg base CX0 5 f fd ("self" :: sps) sp ∧ Binds K fd ("self" :: sps) []
theorem pe_kls {X : Cx} {x : Str} {C : Addr} {ips sps : List Str} {ini sp : Sp} {e : Expr} {es : List Expr} {t : TA} {p pos : Pos} (O : Kls X.prog X.w X.K X.mg X.base x C ips ini sps sp) (hr : Room 3 X.A) (ha : PA X (e :: es) t) (hg : Gl X x := by rfl) (hdb : (x == ("__debug__" : Str)) = false := by decide)
    (he : starEach (e :: es) X.env = (false, eval e X.env) :: starEach es X.env := by rfl) (hpl : (backTo pos (starEach es X.env)).any (·.1) = false := by rfl) : PE X (.Call (.Name x p) (e :: es) [] pos) (tMake C ini [] E0 t) := by
  obtain ⟨f, fd, M, F, b⟩ := O.mak
  exact pe_make M F hr hg O.there b .nil pass0 ha hdb he hpl
theorem wat_st (ws : List W) (i : Nat) : wat (ws.map st) i = ws.getD i [] := by
  unfold wat
  rw [List.getD_eq_getElem?_getD, List.getElem?_map, List.getD_eq_getElem?_getD]
  cases ws[i]? <;> rfl
/-- the places of words, in the order of the words -/
def InOrd (ws : List W) (ms : List Nat) : Prop := ms.Perm (List.range ws.length) ∧ ms.Pairwise fun i j => ¬ ws.getD j [] < ws.getD i []
theorem srt_words {ws : List W} (h : ws.length < 64) : Srt (ws.map sv) (InOrd ws) := by
  intro keys vs r hl hv
  rw [List.length_map] at hl hv
  have hk : StrsAre keys (ws.map st) := strsAre_of r
  have kl : keys.length = ws.length := by rw [← r.length, List.length_map]
  have S := srt_strs hk kl hl hv h
  have im : ∀ out, (∃ ms : List Nat, IntsAre out (ms.map Int.ofNat) ∧ ms.Perm (List.range ws.length) ∧ ms.Pairwise fun i j => ¬ wat (ws.map st) j < wat (ws.map st) i) → ∃ ms : List Nat, IntsAre out (ms.map Int.ofNat) ∧ InOrd ws ms := fun out ⟨ms, m1, m2, m3⟩ => ⟨ms, m1, m2, m3.imp fun {a b} z => by rw [wat_st, wat_st] at z; exact z⟩
  refine ⟨fun z => im _ (S.1 z), fun z => ⟨(S.2 z).1, fun prog w A E s => ?_⟩⟩
  exact wpS_mono ((S.2 z).2 prog w A E s) fun _ st ⟨a1, a2, a3⟩ => ⟨a1, a2, im _ a3⟩
end L2


set_option Elab.async false
set_option linter.all false
set_option maxRecDepth 100000
set_option maxHeartbeats 1000000
namespace Ts
open PySem PyProof.Rows
/-! ### sorting keeps what is there, however long the list is -/
section
variable {prog : Program} {w : World} {A : Around} {E : Value → Shared → Prop} {s : Shared} {σ : Type} {α β : Type}
variable {I : σ → Prop}
end
section
variable {prog : Program} {w : World} {A : Around} {E : Value → Shared → Prop} {s : Shared}
variable {I : SortSt → Prop}
section
variable {a b out : Array Keyed} {i j k : Nat} {p : Keyed}
end
section
variable {a b out : Array Keyed} {i j k : Nat} {p : Keyed}
end
variable {a₀ : Array Keyed} {hi : Nat}
end
end Ts


set_option Elab.async false
set_option linter.all false
set_option maxRecDepth 100000
set_option maxHeartbeats 2000000
namespace L2
open PySem PySem.Spec PyProof.Rows
/-! ### sorted(d), d a dict with int keys, of any size: the keys, in some order -/
section
variable {prog : Program} {w : World} {A : Around} {E : Value → Shared → Prop} {s : Shared}
end
end L2


set_option Elab.async false
set_option linter.all false
set_option maxRecDepth 100000
set_option maxHeartbeats 2000000
namespace L2
open PySem PySem.Spec PyProof.Rows Tw
section
variable {X : Cx}
/-! ### list(range(n)); sorted(l) of ints, however many -/
end
end L2


set_option Elab.async false
set_option linter.all false
set_option maxRecDepth 100000
set_option maxHeartbeats 2000000
namespace L2
open PySem PySem.Spec PyProof.Rows Tw
seal PSs PS PE PT PW PA PG PGs PI PC
/-- a word of letters, not too long -/
structure Good (ls : W) (n : Nat) (x : W) : Prop where
  ne : x ≠ []
  az_ : ∀ z ∈ x, z ∈ ls
  len : x.length ≤ n
theorem Good.ok {ls : W} {n : Nat} {x : W} (hl : ∀ z ∈ ls, z ∈ az) (h : Good ls n x) : isWordV az (sv x) = true := by
  show (decide (x ≠ []) && x.all fun z => az.contains z) = true
  rw [decide_eq_true h.ne, Bool.true_and, List.all_eq_true]
  intro z hz
  simpa using hl z (h.az_ z hz)
theorem Good.mono {ls : W} {n m : Nat} {x : W} (h : Good ls n x) (hm : n ≤ m) : Good ls m x := ⟨h.ne, h.az_, by have := h.len; omega⟩
theorem good_code {H : Hp} {a : Addr} {ls : W} {ws : List W} (h : H a = some (.lst (ws.map sv))) (hl : ws.length ≤ 64) (hz : ∀ z ∈ ls, z ∈ az) (hg : ∀ x ∈ ws, Good ls 65 x) : CodeL H a ws :=
  ⟨h, fun x hx => (hg x hx).ok hz, by omega, fun x hx => by have := (hg x hx).len; omega⟩
theorem rep_len (n c : Nat) : (List.replicate n [c]).flatten.length = n := by
  induction n with
  | zero => rfl
  | succ n ih => rw [List.replicate_succ, List.flatten_cons, List.length_append, ih, List.length_singleton]; omega
theorem s_one (c : Nat) : (⟨#[c]⟩ : Str) = st [c] := rfl
theorem mod_nat {i k : Int} (hk : 0 < k) : ∃ n : Nat, i % k = (n : Int) ∧ (n : Int) < k := ⟨(i % k).toNat, by have := Int.emod_nonneg i (by omega : k ≠ 0); omega, by have := Int.emod_lt_of_pos i hk; have := Int.emod_nonneg i (by omega : k ≠ 0); omega⟩
theorem mod_ix {α : Type} {xs : List α} {i k : Int} (hk : 0 < k) (hl : k ≤ xs.length) : ∃ v, atI xs (i % k) = some v ∧ v ∈ xs := by
  obtain ⟨n, e, l⟩ := mod_nat (i := i) hk
  have hn : n < xs.length := by omega
  exact ⟨xs[n], by rw [e]; exact atI_nat (by simp [hn]), by simp⟩
theorem ints_get {ns : List Int} {i : Nat} {y : V} (h : (ns.map V.int)[i]? = some y) : ∃ z, y = V.int z := by
  rw [List.getElem?_map] at h
  cases e : ns[i]? with
  | none => rw [e] at h; cases h
  | some z => rw [e] at h; exact ⟨z, (Option.some.inj h).symm⟩
theorem cutV_ints (ns : List Int) (lo hi : Option Int) : ∃ ms : List Int, cutV (ns.map V.int) lo hi = ms.map V.int ∧ ms.length ≤ ns.length := by
  refine ⟨cutL ns lo hi, ?_, cutL_length ns lo hi⟩
  rw [cutV_cutL]
  unfold cutL
  rw [List.length_map, List.map_take, List.map_drop]
theorem sE : Str.ofString "" = st [] := by decide +kernel
theorem letters_ok : ∀ v ∈ [V.str "abc", V.str "dmz", V.str "ahy"], ∃ ls : W, v = sv ls ∧ ls.length = 3 ∧ ∀ z ∈ ls, z ∈ az := by
  intro v hv
  simp only [List.mem_cons, List.not_mem_nil, or_false] at hv
  rcases hv with rfl | rfl | rfl
  · exact ⟨[97, 98, 99], by rw [show (Str.ofString "abc") = st [97, 98, 99] by decide +kernel], rfl, by decide⟩
  · exact ⟨[100, 109, 122], by rw [show (Str.ofString "dmz") = st [100, 109, 122] by decide +kernel], rfl, by decide⟩
  · exact ⟨[97, 104, 121], by rw [show (Str.ofString "ahy") = st [97, 104, 121] by decide +kernel], rfl, by decide⟩
theorem two_three : ∀ v ∈ [V.int 2, V.int 3, V.int 2, V.int 3], ∃ k : Int, v = .int k ∧ 0 < k ∧ k ≤ 3 := by
  intro v hv
  simp only [List.mem_cons, List.not_mem_nil, or_false] at hv
  rcases hv with rfl | rfl | rfl | rfl <;> exact ⟨_, rfl, by decide, by decide⟩
theorem lastWord {K : PySem.W.Frag} {D : Ends} {a p2 : Addr} {kd : Int} {ls wd : W} {c : Option V} {ws : List W} {H H1 : Hp} (hp : H1 p2 = some (.lst (ws.map sv))) (xH : Ext H H1) (hH2 : H p2 = none) (hwl : ws.length + min 1 wd.length ≤ 63) (hdl : wd.length ≤ 63)
    (hz : ∀ z ∈ wd, z ∈ ls) (hg : ∀ x ∈ ws, Good ls 63 x)
    (rest : ∀ (ws' : List W) (H3 : Hp), Ext H H3 → H3 p2 = some (.lst (ws'.map sv)) → ws'.length ≤ 63 → (∀ x ∈ ws', Good ls 63 x) → D.nx [some (.ref a), some (.int kd), some (sv ls), some (.ref p2), some (sv wd), c] H3) :
    if (!decide (sv wd = V.str (Str.ofString ""))) = true then tDrop (tBM K "list" rAppend (tVar 3) (tCons (tVar 4) tNil)) D [some (.ref a), some (.int kd), some (sv ls), some (.ref p2), some (sv wd), c] H1
      else tNext D [some (.ref a), some (.int kd), some (sv ls), some (.ref p2), some (sv wd), c] H1 := by
  by_cases e : wd = []
  · subst e
    refine iteF' (by rw [sE]; decide) (rest ws H1 xH hp (by omega) hg)
  · refine iteT' (by rw [sE, Bool.not_eq_true', decide_eq_false_iff_not]; intro z; exact e (st_inj (V.str.inj z))) ?_
    refine ⟨_, rfl, .inl ⟨rfl, _, SqL.of hp⟩, _, rfl, p2, _, _, rfl, rfl, hp, ?_, rest (ws ++ [wd]) _ (xH.over hH2) (by rw [upd_same]; simp) ?_ fun x hx => ?_⟩
    · rw [List.length_map]
      exact Nat.lt_of_le_of_lt (show ws.length ≤ 63 by omega) (by decide)
    · have : 0 < wd.length := List.length_pos_iff.mpr e
      rw [List.length_append, List.length_singleton]; omega
    · rcases List.mem_append.mp hx with h | h
      · exact hg x h
      · rw [List.mem_singleton] at h; subst h
        exact ⟨e, hz, hdl⟩
section
variable {P : Program} {w : World} {K : PySem.W.Frag} {mg : Str → Option Value} {base : Heap}
def spLawCode (K : PySem.W.Frag) : Sp := fun vs H Q _ => ∃ (a : Addr) (ns : List Int), vs = [.ref a] ∧ SqL K H a (ns.map V.int) ∧ ns.length ≤ 63 ∧ ∀ (p : Addr) (ws : List W) (ls : W) (H' : Hp), H p = none → Ext H H' → H' p = some (.lst (ws.map sv)) → ws.length ≤ 63 → ls.length = 3 → (∀ z ∈ ls, z ∈ az) → (∀ x ∈ ws, Good ls 65 x) → Q (.ref p) H'
theorem ok_law_code (D : Def K mg "_law_code" "_law_code" Pl.s_law_code ["_law_script"]) (B : Bare mg) : Cal P w K mg base CX0 1 "_law_code" ["_law_script"] (spLawCode K) := by
  have sc : FnScope ["_law_script", "_law_kind", "_law_letters", "_law_words", "_law_word", "_law_cell"] ["_law_script"] (defScope Pl.s_law_code) := ⟨rfl, rfl, rfl, by decide +kernel, rfl, by decide +kernel, by decide +kernel⟩
  refine D.cal fun f fd F => F.ok sc (fun vs H Q E h => ?_) (fun cdv A outer s H vs Q E hr h => ?_)
  · obtain ⟨_, _, rfl, _⟩ := h
    rfl
  · obtain ⟨a, ns, rfl, hS, hlen, k⟩ := h
    have nd1 : (["_law_cell", "_law_letters"] : List Str).Nodup := by decide +kernel
    have nd2 : (["_law_word", "_law_letters"] : List Str).Nodup := by decide +kernel
    refine ⟨_, pss_cons (ps_set (i := 1) sc.nd rfl (Or.inl rfl) (pe_op op_mod (pe_callB (call_sum_int rfl) (by rfl) B.sum Boot.«sum» (pa_cons (pv 0) pa_nil)) pe_int))
      (pss_cons (ps_set (i := 2) sc.nd rfl (Or.inr rfl) (pe_ix (r := rIxT K) ix_tup (pe_tup (pa_cons pe_str (pa_cons pe_str (pa_cons pe_str pa_nil)))) (pe_op op_mod (pe_op op_fdiv (pe_callB (call_sum_int rfl) (by rfl) B.sum Boot.«sum» (pa_cons (pv 0) pa_nil)) pe_int) pe_int) (fun _ _ => rfl)))
      (pss_cons (ps_set (i := 3) sc.nd rfl (Or.inl rfl) (pe_lst pa_nil)) (pss_cons (ps_set (i := 4) sc.nd rfl (Or.inl rfl) pe_str)
      (pss_cons (ps_for PassesOwn.never rfl (pi_list (pv 0)) (pg_name (i := 5) sc.nd rfl (Or.inl rfl))
        (pss_cons (ps_set (i := 4) sc.nd rfl (Or.inl rfl) (pe_op op_add_str (pv 4) (pe_ix (r := rIxS) ix_str (pv 2) (pe_op op_mod (pv 5) (pe_ix (r := rIxT K) ix_tup (pe_tup (pa_cons pe_int (pa_cons pe_int (pa_cons pe_int (pa_cons pe_int pa_nil))))) (pv 1) (fun _ _ => rfl))) (fun _ _ => rfl))))
        (pss_one (ps_if (pt_cmpR op_eq (pe_op op_mod (pe_op op_fdiv (pv 5) pe_int) pe_int) pe_int (nomark _))
          (pss_cons (ps_expr (pe_bm PySem.F.plainAttrs_list PySem.F.slot_list_append PySem.F.type_list_append mt_append (pv 3) (pa_cons (pv 4) pa_nil))) (pss_one (ps_set (i := 4) sc.nd rfl (Or.inl rfl) pe_str))) pss_nil))))
      (pss_cons (ps_if (pt_cmpR op_ne (pv 4) pe_str (nomark _)) (pss_one (ps_expr (pe_bm PySem.F.plainAttrs_list PySem.F.slot_list_append PySem.F.type_list_append mt_append (pv 3) (pa_cons (pv 4) pa_nil)))) pss_nil)
      (pss_cons (ps_if (pt_cmpR op_eq (pv 1) pe_int (nomark _)) (pss_one (ps_ret (pe_comp (N' := ["_law_cell", "_law_letters"]) (js := [none, some 2]) (.of (by kernel_rfl)) rfl (pi_list (pe_slice sl_list (pv 0) po_none (po_some pe_int))) fun C fp s₀ H₀ =>
          ⟨pg_name (i := 0) nd1 rfl (Or.inl rfl), pts_nil, pe_op op_add_str (pe_ix (r := rIxS) ix_str (pv 1) pe_int (fun _ _ => rfl)) (pe_op op_mulS (pe_ix (r := rIxS) ix_str (pv 1) pe_int (fun _ _ => rfl)) (pe_op op_mod (pe_op op_fdiv (pv 0) pe_int) pe_int))⟩))) pss_nil)
      (pss_one (ps_ret (pe_ifExp (pt_cmpR op_eq (pv 1) pe_int (nomark _)) (pe_comp (N' := ["_law_word", "_law_letters"]) (js := [none, some 2]) (.of (by kernel_rfl)) rfl (pi_list (pv 3)) fun C fp s₀ H₀ =>
          ⟨pg_name (i := 0) nd2 rfl (Or.inl rfl), pts_nil, pe_op op_add_str (pe_ix (r := rIxS) ix_str (pv 1) pe_int (fun _ _ => rfl)) (pe_rev (pv 0) (pe_un un_neg pe_int))⟩) (pv 3)))))))))), ?_⟩
    refine ⟨_, rfl, a, ns, rfl, hS, _, _, rfl, rfl, by show (0 : Int) < 4; decide, ?_⟩
    obtain ⟨v, hv, hvm⟩ := mod_ix (xs := [V.str "abc", V.str "dmz", V.str "ahy"]) (i := ns.sum / 4) (k := 3) (by decide) (by decide)
    obtain ⟨ls, rfl, hl3, hlz⟩ := letters_ok v hvm
    obtain ⟨v4, hv4, hv4m⟩ := mod_ix (xs := [V.int 2, V.int 3, V.int 2, V.int 3]) (i := ns.sum) (k := 4) (by decide) (by decide)
    obtain ⟨k4, rfl, hk0, hk3⟩ := two_three v4 hv4m
    have hsl : (st ls).length ≤ sizeLine := by rw [st_len]; exact small_line (by omega)
    refine ⟨by show 3 ≤ sizeLine; decide, fun p1 h1 => ?_⟩
    have x1 := Ext.new (o := HO.tup [V.str "abc", V.str "dmz", V.str "ahy"]) h1
    refine ⟨_, rfl, a, ns, rfl, x1.sqL hS, _, _, rfl, rfl, ⟨by decide, by decide⟩, _, _, rfl, rfl, by show (0 : Int) < 3; decide, p1, _, _, _, rfl, rfl, SqT.of upd_same, hv, ?_⟩
    refine ⟨by show 0 ≤ sizeLine; decide, fun p2 h2 => ?_⟩
    have x2 := x1.newer (o := HO.lst []) h2
    have hH2 : H p2 = none := x1.free h2
    refine ⟨_, rfl, a, rfl, ⟨_, x2.sqL hS⟩, for_list (K := K) (a := a) (xs := ns.map V.int) (fun i σ H2 => ∃ (ws : List W) (wd : W) (c : Option V), σ = [some (.ref a), some (.int (ns.sum % 4)), some (sv ls), some (.ref p2), some (sv wd), c] ∧ Ext H H2 ∧ H2 p2 = some (.lst (ws.map sv)) ∧ ws.length + min 1 wd.length ≤ i ∧ wd.length ≤ i ∧ (∀ z ∈ wd, z ∈ ls) ∧ ∀ x ∈ ws, Good ls i x) ?_ (fun i σ H2 _ ⟨_, _, _, _, x, _⟩ => x.sqL hS) ?_ ?_⟩
    · exact ⟨[], [], none, by rw [sE]; rfl, x2, upd_same, by simp, Nat.le_refl _, (fun z hz => nomatch hz), fun x hx => nomatch hx⟩
    · rintro i y σ H2 hi ⟨ws, wd, c, rfl, xH, hp, hwl, hdl, hz, hg⟩
      obtain ⟨z, rfl⟩ := ints_get hi
      have hin : i < 63 := by have := (List.getElem?_eq_some_iff.mp hi).1; rw [List.length_map] at this; omega
      obtain ⟨ch, hch, hcm⟩ := mod_ix (xs := ls) (i := z) (k := k4) hk0 (by rw [hl3]; exact hk3)
      refine ⟨_, rfl, _, rfl, _, rfl, by show 4 ≤ sizeLine; decide, fun q hq => ⟨_, rfl, q, _, _, _, rfl, rfl, SqT.of upd_same, hv4, _, _, rfl, rfl, hk0, st ls, _, ch, rfl, rfl, hsl, hch, _, _, rfl, rfl, ?_, ?_⟩⟩
      · rw [st_len]; exact small_line (by show wd.length + 1 ≤ 1000000; omega)
      have e1 : st wd ++ (⟨#[ch]⟩ : Str) = st (wd ++ [ch]) := st_app wd [ch]
      rw [e1]
      have x3 := xH.newer (o := HO.tup [V.int 2, V.int 3, V.int 2, V.int 3]) hq
      have hp3 := upd_keep (u := HO.tup [V.int 2, V.int 3, V.int 2, V.int 3]) hp hq
      have hz3 : ∀ y ∈ wd ++ [ch], y ∈ ls := fun y hy => by
        rcases List.mem_append.mp hy with h | h
        · exact hz y h
        · rw [List.mem_singleton] at h; subst h; exact hcm
      refine ⟨_, rfl, _, _, rfl, rfl, ⟨by decide, by decide⟩, _, _, rfl, rfl, by show (0 : Int) < 3; decide, rfl, _, rfl, ?_⟩
      by_cases h0 : z / 3 % 3 = 0
      · refine iteT' (by show decide (V.int (z / 3 % 3) = V.int 0) = true; rw [h0]; decide) ?_
        refine ⟨_, rfl, .inl ⟨rfl, _, SqL.of hp3⟩, _, rfl, p2, _, _, rfl, rfl, hp3, ?_, ?_⟩
        · rw [List.length_map]
          exact Nat.lt_of_le_of_lt (show ws.length ≤ 63 by omega) (by decide)
        · refine ⟨ws ++ [wd ++ [ch]], [], _, by rw [sE]; rfl, x3.over hH2, by rw [upd_same]; simp, ?_, Nat.zero_le _, (fun z hz => nomatch hz), fun x hx => ?_⟩
          · simp only [List.length_append, List.length_singleton, List.length_nil]; omega
          · rcases List.mem_append.mp hx with h | h
            · exact (hg x h).mono (by omega)
            · rw [List.mem_singleton] at h; subst h
              exact ⟨by simp, hz3, by rw [List.length_append, List.length_singleton]; omega⟩
      · refine iteF' (by rw [decide_eq_true_iff]; intro q; exact h0 (V.int.inj q)) ?_
        exact ⟨ws, wd ++ [ch], _, rfl, x3, hp3, by omega, by rw [List.length_append, List.length_singleton]; omega, hz3, fun x hx => (hg x hx).mono (by omega)⟩
    · rintro σ H2 ⟨ws, wd, c, rfl, xH, hp, hwl, hdl, hz, hg⟩
      rw [List.length_map] at hwl hdl hg
      refine ⟨_, rfl, rfl, _, rfl, lastWord hp xH hH2 (by omega) (by omega) hz (fun x hx => (hg x hx).mono (by omega)) fun ws' H3 x3 hp3 hl3' hg3 => ?_⟩
      obtain ⟨c0, c1, c2, rfl⟩ : ∃ c0 c1 c2, ls = [c0, c1, c2] := by
        match ls, hl3 with
        | [c0, c1, c2], _ => exact ⟨c0, c1, c2, rfl⟩
      have z0 : c0 ∈ [c0, c1, c2] := by simp
      have z1 : c1 ∈ [c0, c1, c2] := by simp
      have z2 : c2 ∈ [c0, c1, c2] := by simp
      refine ⟨_, rfl, rfl, _, rfl, ?_⟩
      by_cases k2 : ns.sum % 4 = 2
      · refine iteT' (by show decide (V.int (ns.sum % 4) = V.int 2) = true; rw [k2]; decide) ?_
        obtain ⟨ms, em, hml⟩ := cutV_ints ns none (some 12)
        refine ⟨_, rfl, 12, rfl, a, _, rfl, x3.sqL hS, fun q hq => ⟨q, rfl, ⟨_, SqL.of upd_same⟩, ?_⟩⟩
        have x4 := x3.newer (o := HO.lst (cutV (ns.map V.int) none (some 12))) hq
        refine block_map1 (SqL.of upd_same) (by rw [em, List.length_map]; exact small_line (by omega)) (fun y => match y with | .int z => .str ((⟨#[c1]⟩ : Str) ++ st (List.replicate (z / 2 % 9).toNat [c0]).flatten) | _ => .non) (fun y H' hy x1 Q' k' => ?_) (fun D' H' hD' x1 hD => ?_)
        · rw [em] at hy
          obtain ⟨z, _, rfl⟩ := List.mem_map.mp hy
          have g0 : 0 ≤ z / 2 % 9 := Int.emod_nonneg _ (by decide)
          have g1 : z / 2 % 9 < 9 := Int.emod_lt_of_pos _ (by decide)
          refine ⟨_, rfl, st [c0, c1, c2], 1, c1, rfl, rfl, hsl, rfl, _, rfl, st [c0, c1, c2], 0, c0, rfl, rfl, hsl, rfl, _, rfl, _, _, rfl, rfl, ⟨by decide, by decide⟩, _, _, rfl, rfl, by show (0 : Int) < 9; decide, [c0], z / 2 % 9, rfl, rfl, g0, by omega, by show 1 ≤ 1000; decide, _, _, rfl, rfl, ?_, k' _ H' (Ext.refl _) rfl⟩
          rw [st_len, rep_len]
          exact small_line (by show 1 + (z / 2 % 9).toNat ≤ 1000000; omega)
        · refine k D' (ms.map fun z => [c1] ++ (List.replicate (z / 2 % 9).toNat [c0]).flatten) [c0, c1, c2] H' (x4.free hD') (x4.trans x1) ?_ ?_ rfl hlz ?_
          · rw [hD, em, List.map_map, List.map_map]
            congr 2
            apply List.map_congr_left
            intro z _
            show V.str ((⟨#[c1]⟩ : Str) ++ st _) = _
            rw [s_one, st_app]
            rfl
          · rw [List.length_map]; omega
          · intro x hx
            obtain ⟨z, _, rfl⟩ := List.mem_map.mp hx
            have g0 : 0 ≤ z / 2 % 9 := Int.emod_nonneg _ (by decide)
            have g1 : z / 2 % 9 < 9 := Int.emod_lt_of_pos _ (by decide)
            refine ⟨by simp, fun y hy => ?_, ?_⟩
            · rcases List.mem_append.mp hy with h | h
              · rw [List.mem_singleton] at h; subst h; exact z1
              · obtain ⟨l, hl, hyl⟩ := List.mem_flatten.mp h
                rw [List.eq_of_mem_replicate hl, List.mem_singleton] at hyl
                subst hyl; exact z0
            · rw [List.length_append, rep_len]
              show 1 + (z / 2 % 9).toNat ≤ 65
              omega
      · refine iteF' (by rw [decide_eq_true_iff]; intro q; exact k2 (V.int.inj q)) ?_
        refine ⟨_, rfl, rfl, _, rfl, ?_⟩
        by_cases k3 : ns.sum % 4 = 3
        · refine iteT' (by show decide (V.int (ns.sum % 4) = V.int 3) = true; rw [k3]; decide) ?_
          refine ⟨_, rfl, p2, rfl, ⟨_, SqL.of hp3⟩, ?_⟩
          refine block_map1 (SqL.of hp3) (by rw [List.length_map]; exact small_line (by omega)) (fun y => match y with | .str x => .str ((⟨#[c2]⟩ : Str) ++ st x.cps.toList.reverse) | _ => .non) (fun y H' hy x1 Q' k' => ?_) (fun D' H' hD' x1 hD => ?_)
          · obtain ⟨x, hx, rfl⟩ := List.mem_map.mp hy
            have hxl := (hg3 x hx).len
            refine ⟨_, rfl, st [c0, c1, c2], 2, c2, rfl, rfl, hsl, rfl, _, rfl, 1, rfl, x, rfl, rfl, small_line (by omega), _, _, rfl, rfl, ?_, k' _ H' (Ext.refl _) rfl⟩
            rw [st_len, List.length_reverse]
            exact small_line (by show 1 + x.length ≤ 1000000; omega)
          · refine k D' (ws'.map fun x => [c2] ++ x.reverse) [c0, c1, c2] H' (x3.free hD') (x3.trans x1) ?_ ?_ rfl hlz ?_
            · rw [hD, List.map_map, List.map_map]
              congr 2
              apply List.map_congr_left
              intro x _
              show V.str ((⟨#[c2]⟩ : Str) ++ st x.reverse) = _
              rw [s_one, st_app]
              rfl
            · rw [List.length_map]; exact hl3'
            · intro x hx
              obtain ⟨y, hy, rfl⟩ := List.mem_map.mp hx
              have hg' := hg3 y hy
              refine ⟨by simp, fun z hz => ?_, ?_⟩
              · rcases List.mem_append.mp hz with h | h
                · rw [List.mem_singleton] at h; subst h; exact z2
                · exact hg'.az_ z (List.mem_reverse.mp h)
              · rw [List.length_append, List.length_reverse]
                have := hg'.len
                show 1 + y.length ≤ 65
                omega
        · refine iteF' (by rw [decide_eq_true_iff]; intro q; exact k3 (V.int.inj q)) ?_
          exact ⟨_, rfl, k p2 ws' [c0, c1, c2] H3 hH2 x3 hp3 hl3' rfl hlz fun x hx => (hg3 x hx).mono (by omega)⟩
end
end L2


set_option Elab.async false
set_option linter.all false
set_option maxRecDepth 100000
set_option maxHeartbeats 2000000
namespace L2
open PySem PySem.Spec PyProof.Rows Tw
/-! ### numbers of rests: equal ones get one number -/
section
variable {kvs kvs' : List (List Key × V)} {s t : W} {n m r : Nat} {c : Nat}
abbrev rkey (r c : Nat) : List Key := [.inl (r : Int), .inr ⟨#[c]⟩]
inductive Nm (kvs : List (List Key × V)) : W → Nat → Prop
  | nil : Nm kvs [] 0
  | cons {s : W} {r c n : Nat} : Nm kvs s r → valV kvs (rkey r c) = some (.int (n : Int)) → Nm kvs (c :: s) n
structure NumOk (kvs : List (List Key × V)) : Prop where
  val : ∀ k v, valV kvs k = some v → ∃ n : Nat, v = .int (n : Int) ∧ 1 ≤ n ∧ n ≤ kvs.length
  inj : ∀ k k' v, valV kvs k = some v → valV kvs k' = some v → k = k'
theorem NumOk.nil : NumOk [] := ⟨fun k v e => by simp [valV] at e, fun k k' v e => by simp [valV] at e⟩
theorem putK_len {k : List Key} {v : V} (h : valV kvs k = none) : (putK kvs k v).length = kvs.length + 1 := by rw [putK_new _ h, List.length_append]; rfl
theorem NumOk.put (h : NumOk kvs) {k : List Key} (hk : valV kvs k = none) : NumOk (putK kvs k (.int ((kvs.length : Int) + 1))) := by
  have old : ∀ j v, valV kvs j = some v → v ≠ .int ((kvs.length : Int) + 1) := fun j v e z => by
    obtain ⟨n, rfl, _, h2⟩ := h.val j v e
    have := V.int.inj z
    omega
  refine ⟨fun j v e => ?_, fun j j' v e e' => ?_⟩
  · rw [valV_put] at e
    rw [putK_len hk]
    split at e
    · cases e
      exact ⟨kvs.length + 1, by simp, by omega, Nat.le_refl _⟩
    · obtain ⟨n, e1, e2, e3⟩ := h.val j v e
      exact ⟨n, e1, e2, by omega⟩
  · rw [valV_put] at e e'
    split at e
    · rename_i ej
      cases e
      split at e'
      · rename_i ej'
        rw [ej, ej']
      · exact absurd rfl (old j' _ e')
    · split at e'
      · cases e'
        exact absurd rfl (old j _ e)
      · exact h.inj j j' v e e'
theorem put_mono {k : List Key} {v : V} (hk : valV kvs k = none) : ∀ j u, valV kvs j = some u → valV (putK kvs k v) j = some u := fun j u e => by
  rw [valV_put, if_neg]
  · exact e
  · rintro rfl
    rw [hk] at e
    cases e
theorem Nm.mono (h : Nm kvs s n) (k : ∀ j u, valV kvs j = some u → valV kvs' j = some u) : Nm kvs' s n := by
  induction h with
  | nil => exact .nil
  | cons _ e ih => exact .cons ih (k _ _ e)
theorem rkey_inj {r r' c c' : Nat} (h : rkey r c = rkey r' c') : r = r' ∧ c = c' := by
  simp only [rkey, List.cons.injEq, and_true, Sum.inl.injEq, Sum.inr.injEq, Str.mk.injEq] at h
  obtain ⟨h1, h2⟩ := h
  exact ⟨by omega, by simpa using h2⟩
theorem Nm.pos (h : NumOk kvs) (q : Nm kvs s n) (e : s ≠ []) : 1 ≤ n := by
  cases q with
  | nil => exact absurd rfl e
  | cons _ v =>
    obtain ⟨n', e1, e2, _⟩ := h.val _ _ v
    have := V.int.inj e1
    omega
theorem Nm.inj (h : NumOk kvs) (q : Nm kvs s n) : ∀ {t : W}, Nm kvs t n → s = t := by
  induction q with
  | nil =>
    intro t q'
    cases t with
    | nil => rfl
    | cons c t => have := q'.pos h (by simp); omega
  | @cons s r c n q v ih =>
    intro t q'
    cases q' with
    | nil =>
      have := (Nm.cons q v).pos h (by simp)
      omega
    | cons q2 v2 =>
      obtain ⟨rfl, rfl⟩ := rkey_inj (h.inj _ _ _ v v2)
      rw [ih q2]
theorem Nm.fn (q : Nm kvs s n) : ∀ {m : Nat}, Nm kvs s m → n = m := by
  induction q with
  | nil => intro m q'; cases q'; rfl
  | cons q v ih =>
    intro m q'
    cases q' with
    | cons q2 v2 =>
      cases ih q2
      rw [v] at v2
      have := V.int.inj (Option.some.inj v2)
      omega
end
open Classical in
/-- the number of a text -/
noncomputable def numOf' (kvs : List (List Key × V)) (s : W) : Nat := if h : ∃ n, Nm kvs s n then choose h else 0
theorem numOf'_eq {kvs : List (List Key × V)} {s : W} {n : Nat} (h : Nm kvs s n) : numOf' kvs s = n := by
  unfold numOf'
  rw [dif_pos ⟨n, h⟩]
  exact (Classical.choose_spec (⟨n, h⟩ : ∃ n, Nm kvs s n)).fn h
/-- a rest of a word -/
def Suf (ws : List W) (s : W) : Prop := ∃ p m, p < ws.length ∧ m ≤ (ws.getD p []).length ∧ s = (ws.getD p []).drop m
structure NumFn (ws : List W) (N : W → Nat) : Prop where
  nil : N [] = 0
  inj : ∀ s t, Suf ws s → Suf ws t → N s = N t → s = t
/-- the rows of numbers -/
def RowsAt (H : Hp) (D : Addr) (ws : List W) (N : W → Nat) : Prop := ∃ ps : List Addr, H D = some (.lst (ps.map V.ref)) ∧ ps.length = ws.length ∧
  ∀ p, p < ws.length → H (ps.getD p 0) = some (.lst ((List.range ((ws.getD p []).length + 1)).map fun m => V.int (N ((ws.getD p []).drop m) : Nat)))
theorem RowsAt.ext {H H' : Hp} {D : Addr} {ws : List W} {N : W → Nat} (h : RowsAt H D ws N) (x : Ext H H') : RowsAt H' D ws N :=
  let ⟨ps, h1, h2, h3⟩ := h; ⟨ps, x.lst h1, h2, fun p hp => x.lst (h3 p hp)⟩
end L2


set_option Elab.async false
set_option linter.all false
set_option maxRecDepth 100000
set_option maxHeartbeats 2000000
namespace L2
open PySem PySem.Spec PyProof.Rows Tw
/-! ### a dict whose keys are tuples: setdefault, len -/
section
variable {prog : Program} {w : World} {κ : Type} [DecidableEq κ] {knd : HeapKind prog w κ} {A : Around} {E : Value → Shared → Prop} {s : Shared}
theorem default_heap {d a : Addr} {xs : List (κ × Addr × Value)} {k : κ} {v : Value} {Q : Value → Shared → Prop} (hu : knd.room A) (hkey : knd.is s.heap k a) (hm : s.heap.DictOfH knd d xs) (hz : xs.length ≤ sizeLine)
    (h1 : ∀ p, atKey xs k = some p → Q p.2 { s with toks := s.toks + knd.draws k })
    (h2 : atKey xs k = none → ∀ h', h'.DictOfH knd d (storedH xs k a v) → Heap.SameBut d s.heap h' → Q v { s with heap := h', toks := s.toks + knd.draws k }) : wpAny (model prog w) A (dictSetDefault d (.ref a) v) Q E s := by
  obtain ⟨o, es, ep, ho, hc, hd, he, his, hn⟩ := id hm
  have hes : es.size ≤ sizeLine := by rw [size_of_entries he]; exact hz
  refine wpAny_holding (wpAny_bind (knd.pyHash hu hkey (wpAny_bind (wpAny_dictFind_heap (s := { s with toks := s.toks + knd.draws k }) hu hkey ho hd he his hn (fun no => ?_) fun j p hj => ?_))))
  · have none_ := atKey_none_of_get no
    have fresh := not_mem_keys_of_get no
    refine wpAny_bind (wpAny_rule (wpAny_bind (wpAny_updateDictKeys (hz := by omega) (s := { s with toks := s.toks + knd.draws k }) ho hd (wpAny_pure (h2 none_ _ ?_ (Heap.SameBut.update ..))))))
    rw [storedH_new none_]
    have kp : ∀ (f : Obj → Obj) {x : κ} {b : Addr}, knd.is s.heap x b → knd.is (s.heap.update d f) x b := fun f _ _ q => knd.keeps q ho hd (Heap.SameBut.update ..)
    refine ⟨_, _, ep + 1, Heap.get?_update_self _ ho (Obj.isFreed_of_dict (Obj.data_mapDictKeys hd _)), hc.mapDictKeys _, Obj.data_mapDictKeys hd _, by simp [he, entryOfKey], fun x hx => ?_, ?_⟩
    · rcases List.mem_append.mp hx with hx | hx
      · exact kp _ (his x hx)
      · cases List.mem_singleton.mp hx
        exact kp _ hkey
    · rw [List.map_append]
      refine List.nodup_append.mpr ⟨hn, by simp, fun x hx y hy e => fresh ?_⟩
      rw [List.map_singleton, List.mem_singleton] at hy
      rw [← show x = k from e.trans hy]
      exact hx
  · refine wpAny_bind (wpAny_dictEntries (s := { s with toks := s.toks + knd.draws k }) ho hd ?_)
    rw [entry_at he j, hj]
    exact wpAny_bind (wpAny_rule (wpAny_pure (h1 p (atKey_of_get hn hj))))
end
def tDSdT (td ty tx : TE) : TE := fun σ H Q => td σ H fun x H1 => ∃ a, x = .ref a ∧ IsD H1 a ∧ ty σ H1 fun y H2 => tx σ H2 fun z H3 => ∃ kvs k b, H3 a = some (.dT kvs) ∧ y = .ref b ∧ H3 b = some (.tup (k.map kV)) ∧
  (∀ v, valV kvs k = some v → Q v H3) ∧ (valV kvs k = none → kvs.length < sizeLine ∧ Q z (upd H3 a (.dT (putK kvs k z))))
section
variable {X : Cx} {o e f : Expr} {apos cpos : Pos} {td ty tx : TE}
theorem pe_dsdT (hu : X.A.units + 2 < cLine) (ho : PE X o td) (he : PE X e ty) (hf : PE X f tx) (m : M2 X o "setdefault" apos e f cpos) : PE X (.Call (.Attribute o "setdefault" apos) [e, f] [] cpos) (tDSdT td ty tx) := by
  intro pins s σ H Q I h
  refine wpAny_Call_method m.base m.few m.line PySem.F.plainAttrs_dict PySem.F.slot_dict_setdefault PySem.F.type_dict_setdefault (thn (ho pins s σ H _ I h) fun u s1 ⟨x, H1, I1, rx, a, ex, d, q1⟩ => ?_)
  subst ex
  obtain rfl : u = Value.ref a := rx
  obtain ⟨t1, t2, _⟩ := isD_at I1 d
  refine ⟨t1, t2, ?_⟩
  rw [m.trees]
  refine Calls.callWith_builtin rfl (Calls.evalArgs_plain (Calls.spliced_cons (thn (he pins s1 σ H1 _ I1 q1) fun iv s2 ⟨y, H2, I2, ry, q2⟩ =>
    Calls.spliced_cons (thn (hf pins s2 σ H2 _ I2 q2) fun fv s3 ⟨z, H3, I3, rz, kvs, k, b, ea, ey, eb, q3, q4⟩ => Calls.spliced_nil ?_))))
  subst ey
  obtain rfl : iv = Value.ref b := ry
  obtain ⟨hz, hd, xs, rel, dd⟩ := dt_of I3.hok ea
  have rv := rel.val k
  have lz : xs.length ≤ sizeLine := by rw [← Paired.length rel]; exact hz
  refine wpAny_call_entry PySem.F.slot_dict_setdefault dd.typeIs PySem.F.entry_dict_setdefault ?_ (PySem.F.args_dict_setdefault_3 _ _ _)
  refine wpAny_bind (wpAny_bind (wpAny_notOrdered_dict dd.typeIs (wpAny_pure ?_)))
  show wpAny _ _ (if (a == sysModules) = true then _ else (dictSetDefault a (.ref b) fv >>= _)) _ _ s3
  rw [if_neg (by rw [hd]; exact Bool.false_ne_true)]
  refine wpAny_bind (default_heap (knd := tupleKind (mixKind X.prog X.w)) (tupleKind_room_in1 (show X.A.units + 1 < cLine by omega)) (key_of I3.hok eb) dd lz (fun p hp => wpAny_pure ⟨_, rfl, ?_⟩) fun hp h' dd' hs => wpAny_pure ⟨_, rfl, ?_⟩)
  · cases l : valV kvs k with
    | none => rw [l, hp] at rv; exact rv.elim
    | some v => rw [l, hp] at rv; exact ⟨v, H3, I3.tok _, rv, q3 v l⟩
  · cases l : valV kvs k with
    | some v => rw [l, hp] at rv; exact rv.elim
    | none =>
      obtain ⟨hl, q5⟩ := q4 l
      have hl2 : (putK kvs k z).length ≤ sizeLine := by have := length_putK kvs k z; omega
      obtain ⟨q, es, ep, hq, h2, h3, h4, _, h5⟩ := dd'
      refine ⟨z, _, d_write (ob := .dT (putK kvs k z)) I3 (by rw [ea]; exact True.intro) hs ⟨q, hq⟩ ⟨hl2, hd, _, (rel.put k eb rz).keeps fun c ys ec => ?_, q, es, ep, hq, h2, h3, h4, h5⟩, rz, q5⟩
      rw [upd_ne (ne_of ec ea (fun z => nomatch z))]
      exact ec
theorem call_lenT : CallR X (.builtin "len") (fun xs H Q => ∃ a kvs, xs = [V.ref a] ∧ H a = some (.dT kvs) ∧ Q (.int kvs.length) H) := by
  intro pins s σ H xs us Q I r h
  obtain ⟨a, kvs, rfl, ha, q⟩ := h
  obtain ⟨u, rfl, ru⟩ := vals1 r
  cases ru
  obtain ⟨hz, hd, xs, rel, dd⟩ := dt_of I.hok ha
  have len : kvs.length = xs.length := Paired.length rel
  obtain ⟨o, es, ep, ho, hc, hdat, he, _⟩ := id dd
  refine call_len_slot (n := (kvs.length : Int)) dd.typeIs PySem.F.slot_dict_len (fun Q' hq => ?_) (by omega) (by rw [sizeLine_eq] at hz; omega) ⟨.int kvs.length, H, I.tok _, ⟨_, rfl⟩, q⟩
  refine wpAny_call_entry PySem.F.slot_dict_len dd.typeIs PySem.F.entry_dict_len ?_ (PySem.F.args_dict_len_1 _)
  show wpAny _ _ (dictSize a >>= _) _ _ s
  refine wpAny_bind (wpAny_bind (wpAny_dictEntries ho hdat (wpAny_pure ?_)))
  show wpAny _ _ (Builtin.Dict.pendingCount a >>= _) _ _ s
  refine wpAny_bind (wpAny_pendingCount_other hd (wpAny_ret_mkInt ?_))
  rw [Nat.add_zero, size_of_entries he, ← len]
  exact hq
end
/-! ### for x in d.values(), d empty -/
section
variable {X : Cx}
end
end L2


set_option Elab.async false
set_option linter.all false
set_option maxRecDepth 100000
set_option maxHeartbeats 2000000
namespace L2
open PySem PySem.Spec PyProof.Rows Tw
seal PSs PS PE PT PW PA PG PGs PI PC
theorem ixN_nat {n m : Nat} (h : m < n) : ixN n (m : Int) = some m := by
  unfold ixN
  rw [if_pos (by omega), if_pos (by omega)]
  simp
/-- the row of a word, from the mark on -/
def RowFrom (kvs : List (List Key × V)) (x : W) (ns : List Nat) (lo : Nat) : Prop := ns.length = x.length + 1 ∧ ∀ t, lo ≤ t → t ≤ x.length → ∃ n, ns[t]? = some n ∧ Nm kvs (x.drop t) n
theorem RowFrom.mono {kvs kvs' : List (List Key × V)} {x : W} {ns : List Nat} {lo : Nat} (h : RowFrom kvs x ns lo) (k : ∀ j u, valV kvs j = some u → valV kvs' j = some u) : RowFrom kvs' x ns lo :=
  ⟨h.1, fun t h1 h2 => let ⟨n, e, q⟩ := h.2 t h1 h2; ⟨n, e, q.mono k⟩⟩
theorem RowFrom.set {kvs : List (List Key × V)} {x : W} {ns : List Nat} {m n : Nat} (h : RowFrom kvs x ns (m + 1)) (hm : m < x.length) (q : Nm kvs (x.drop m) n) : RowFrom kvs x (ns.set m n) m := by
  refine ⟨by rw [List.length_set]; exact h.1, fun t h1 h2 => ?_⟩
  have := h.1
  by_cases e : t = m
  · subst e
    exact ⟨n, by rw [List.getElem?_set_self (by omega)], q⟩
  · obtain ⟨n', e1, e2⟩ := h.2 t (by omega) h2
    exact ⟨n', by rw [List.getElem?_set_ne (Ne.symm e)]; exact e1, e2⟩
section
variable {P : Program} {w : World} {K : PySem.W.Frag} {mg : Str → Option Value} {base : Heap}
def spRestNo1 : Sp := fun vs H Q _ => ∃ (a : Addr) (ws : List W), vs = [.ref a] ∧ CodeL H a ws ∧ ws.length < 64 ∧ (∀ x ∈ ws, x.length ≤ 100) ∧ ∀ D N H', H D = none → Ext H H' → RowsAt H' D ws N → NumFn ws N → Q (.ref D) H'
theorem ok_rest_numbers1 (D : Def K mg "rest_numbers" "rest_numbers" Pl.s_rest_numbers ["code"]) (B : Bare mg) (hE : ∃ t, mg "EMPTY" = some (.int 0 t)) : Cal P w K mg base CX0 1 "rest_numbers" ["code"] spRestNo1 := by
  have sc : FnScope ["code", "numbers", "rows", "word", "row", "mark"] ["code"] (defScope Pl.s_rest_numbers) := ⟨rfl, rfl, rfl, by decide +kernel, rfl, by decide +kernel, by decide +kernel⟩
  obtain ⟨tE, hE⟩ := hE
  refine D.cal fun f fd F => F.ok sc (fun vs H Q E h => ?_) (fun cdv A outer s H vs Q E hr h => ?_)
  · obtain ⟨_, _, rfl, _⟩ := h
    rfl
  · obtain ⟨a, ws, rfl, hC, h64, hsh, k⟩ := h
    have hu2 : _ + 2 < cLine := Nat.lt_of_le_of_lt (Nat.add_le_add_left (by decide : 2 ≤ 64) _) hr.units
    refine ⟨_, pss_cons (ps_set (i := 1) sc.nd rfl (Or.inl rfl) pe_dnewT)
      (pss_cons (ps_set (i := 2) sc.nd rfl (Or.inl rfl) (pe_lst pa_nil))
      (pss_cons (ps_for PassesOwn.never rfl (pi_list (pv 0)) (pg_name (i := 3) sc.nd rfl (Or.inl rfl))
        (pss_cons (ps_set (i := 4) sc.nd rfl (Or.inl rfl) (pe_op op_rep (pe_lst (pa_cons (pe_glob (v := .int 0) (by rfl) hE ⟨tE, rfl⟩) pa_nil)) (pe_op op_add (pe_callB call_len_str (by rfl) B.len PySem.boot_len (pa_cons (pv 3) pa_nil)) pe_int)))
        (pss_cons (ps_for PassesOwn.never rfl (pi_down (by rfl) B.range (pa_cons (pe_op op_sub (pe_callB call_len_str (by rfl) B.len PySem.boot_len (pa_cons (pv 3) pa_nil)) pe_int) (pa_cons (pe_un un_neg pe_int) (pa_cons (pe_un un_neg pe_int) pa_nil)))) (pg_name (i := 5) sc.nd rfl (Or.inl rfl))
          (pss_one (ps_asg (pe_dsdT hu2 (pv 1) (pe_tup (pa_cons (pe_ix (r := rIxL K) ix_list (pv 4) (pe_op op_add (pv 5) pe_int) (fun _ _ => rfl)) (pa_cons (pe_ix (r := rIxS) ix_str (pv 3) (pv 5) (fun _ _ => rfl)) pa_nil)))
            (pe_op op_add (pe_callB call_lenT (by rfl) B.len PySem.boot_len (pa_cons (pv 1) pa_nil)) pe_int) ⟨rfl, rfl, rfl, rfl⟩) (pg_sub (pv 4) (pv 5) set_list))))
        (pss_one (ps_expr (pe_bm PySem.F.plainAttrs_list PySem.F.slot_list_append PySem.F.type_list_append mt_append (pv 2) (pa_cons (pv 4) pa_nil)))))))
      (pss_one (ps_ret (pv 2))))), ?_⟩
    intro nm hnm
    have x1 : Ext H (upd H nm (.dT [])) := Ext.new hnm
    refine ⟨by show 0 ≤ sizeLine; exact Nat.zero_le _, fun rw_ hrw => ?_⟩
    have x2 : Ext H (upd (upd H nm (.dT [])) rw_ (.lst [])) := x1.newer hrw
    have hrw0 : H rw_ = none := x1.free hrw
    have nr : nm ≠ rw_ := ne_of_none upd_same hrw
    refine ⟨_, rfl, a, rfl, ⟨_, SqL.of (hC.ext x2).at_⟩, ?_⟩
    refine for_list (K := K) (a := a) (xs := ws.map sv) (fun i σ H2 => ∃ (kvs : List (List Key × V)) (ps : List Addr) (wd row mk : Option V), σ = [some (.ref a), some (.ref nm), some (.ref rw_), wd, row, mk] ∧ Ext H H2 ∧ H2 nm = some (.dT kvs) ∧ H2 rw_ = some (.lst (ps.map V.ref)) ∧ ps.length = i ∧ kvs.length ≤ 100 * i ∧ NumOk kvs ∧
        ∀ p q, ps[p]? = some q → q ≠ nm ∧ q ≠ rw_ ∧ H q = none ∧ ∃ ns : List Nat, H2 q = some (.lst (intsV ns)) ∧ RowFrom kvs (ws.getD p []) ns 0)
      ⟨[], [], none, none, none, rfl, x2, upd_keep upd_same hrw, upd_same, rfl, Nat.zero_le _, .nil, fun p q e => by simp at e⟩ (fun i σ H2 _ h => let ⟨_, _, _, _, _, _, x, _⟩ := h; SqL.of (hC.ext x).at_) ?_ ?_
    · rintro i y σ H2 hy ⟨kvs, ps, wd, row, mk, rfl, xH, hn2, hr2, hzl, hkl, hok, hrows⟩
      rw [List.getElem?_map] at hy
      obtain ⟨x, hx, rfl⟩ := Option.map_eq_some_iff.mp hy
      have hxm : x ∈ ws := List.mem_of_getElem? hx
      have hxl := hsh x hxm
      have hil : i < ws.length := (List.getElem?_eq_some_iff.mp hx).1
      have hxd : ws.getD i [] = x := by rw [List.getD_eq_getElem?_getD, hx]; rfl
      have hsz : (st x).length ≤ sizeLine := by rw [st_len]; exact small_line (by omega)
      refine ⟨by show 1 ≤ sizeLine; decide, fun l0 hl0 => ?_⟩
      have x3 := xH.newer (o := HO.lst [V.int 0]) hl0
      have hn3 := upd_keep (u := HO.lst [V.int 0]) hn2 hl0
      have hr3 := upd_keep (u := HO.lst [V.int 0]) hr2 hl0
      refine ⟨_, rfl, st x, rfl, hsz, _, _, rfl, rfl, l0, _, _, rfl, rfl, upd_same, by omega, by rw [st_len]; omega, ?_, fun rp hrp => ?_⟩
      · rw [st_len]
        refine small_line ?_
        show 1 * ((x.length : Int) + 1).toNat ≤ 1000000
        omega
      have erow : (List.replicate (((st x).length : Int) + 1).toNat [V.int 0]).flatten = intsV (List.replicate (x.length + 1) 0) := by
        rw [st_len, show ((x.length : Int) + 1).toNat = x.length + 1 by omega]
        generalize x.length + 1 = m
        induction m with
        | zero => rfl
        | succ m ih => rw [List.replicate_succ, List.flatten_cons, ih, List.replicate_succ]; rfl
      rw [erow] at *
      have x4 := x3.newer (o := HO.lst (intsV (List.replicate (x.length + 1) 0))) hrp
      have hn4 := upd_keep (u := HO.lst (intsV (List.replicate (x.length + 1) 0))) hn3 hrp
      have hr4 := upd_keep (u := HO.lst (intsV (List.replicate (x.length + 1) 0))) hr3 hrp
      have hrp0 : H rp = none := x3.free hrp
      have npr : nm ≠ rp := ne_of_none hn3 hrp
      have nrr : rw_ ≠ rp := ne_of_none hr3 hrp
      have rows4 : ∀ p q, ps[p]? = some q → q ≠ nm ∧ q ≠ rw_ ∧ q ≠ rp ∧ H q = none ∧ ∃ ns : List Nat, (upd (upd H2 l0 (HO.lst [V.int 0])) rp (HO.lst (intsV (List.replicate (x.length + 1) 0)))) q = some (.lst (intsV ns)) ∧ RowFrom kvs (ws.getD p []) ns 0 := fun p q e => by
        obtain ⟨a1, a2, a3, ns, a4, a5⟩ := hrows p q e
        have a6 := upd_keep (u := HO.lst [V.int 0]) a4 hl0
        exact ⟨a1, a2, ne_of_none a6 hrp, a3, ns, upd_keep a6 hrp, a5⟩
      refine ⟨_, rfl, st x, rfl, hsz, _, _, rfl, rfl, _, rfl, _, rfl, _, _, rfl, by rw [st_len]; omega, ?_⟩
      have en : ((((st x).length : Nat) : Int) - 1 - -1).toNat = x.length := by rw [st_len]; omega
      rw [en]
      refine for_down (fun j σ H4 => ∃ (kvs : List (List Key × V)) (ns : List Nat) (mk : Option V), σ = [some (.ref a), some (.ref nm), some (.ref rw_), some (sv x), some (.ref rp), mk] ∧ Ext H H4 ∧ H4 nm = some (.dT kvs) ∧ H4 rw_ = some (.lst (ps.map V.ref)) ∧ H4 rp = some (.lst (intsV ns)) ∧ kvs.length ≤ 100 * i + j ∧ NumOk kvs ∧ RowFrom kvs x ns (x.length - j) ∧
          ∀ p q, ps[p]? = some q → q ≠ nm ∧ q ≠ rw_ ∧ q ≠ rp ∧ H q = none ∧ ∃ ns : List Nat, H4 q = some (.lst (intsV ns)) ∧ RowFrom kvs (ws.getD p []) ns 0)
        ⟨kvs, _, _, rfl, x4, hn4, hr4, upd_same, by omega, hok, ⟨List.length_replicate .., fun t h1 h2 => ⟨0, by rw [List.getElem?_replicate, if_pos (by omega)], ?_⟩⟩, rows4⟩ ?_ ?_
      · rw [show t = x.length by omega, List.drop_length]
        exact .nil
      · rintro j σ H4 hj ⟨kvs, ns, mk, rfl, x5, hn5, hr5, hp5, hkl, hok, hrf, hrows⟩
        rw [st_len]
        have em : (x.length : Int) - 1 - (j : Int) = ((x.length - 1 - j : Nat) : Int) := by omega
        rw [em]
        generalize hm : x.length - 1 - j = m
        have lm : m < x.length := by omega
        obtain ⟨c, hc⟩ : ∃ c, x[m]? = some c := ⟨_, List.getElem?_eq_getElem lm⟩
        have hrf : RowFrom kvs x ns (m + 1) := by rw [show m + 1 = x.length - j by omega]; exact hrf
        obtain ⟨r, hr', hnm'⟩ := hrf.2 (m + 1) (Nat.le_refl _) (by omega)
        have hnl := hrf.1
        have xm : x.drop m = c :: x.drop (m + 1) := by
          obtain ⟨_, e⟩ := List.getElem?_eq_some_iff.mp hc
          rw [List.drop_eq_getElem_cons lm, e]
        refine ⟨_, rfl, nm, rfl, .inr ⟨_, .inl hn5⟩, ?_⟩
        refine ⟨_, rfl, _, rfl, _, _, rfl, rfl, rp, _, ((m + 1 : Nat) : Int), V.int (r : Int), rfl, by simp, SqL.of hp5, atI_nat (by rw [intsV, List.getElem?_map, hr']; rfl), ?_⟩
        refine ⟨_, rfl, _, rfl, st x, _, c, rfl, rfl, hsz, atI_nat hc, by show 2 ≤ sizeLine; decide, fun b hb => ?_⟩
        have x6 := x5.newer (o := HO.tup [V.int (r : Int), V.str ⟨#[c]⟩]) hb
        have hn6 := upd_keep (u := HO.tup [V.int (r : Int), V.str ⟨#[c]⟩]) hn5 hb
        have hr6 := upd_keep (u := HO.tup [V.int (r : Int), V.str ⟨#[c]⟩]) hr5 hb
        have hp6 := upd_keep (u := HO.tup [V.int (r : Int), V.str ⟨#[c]⟩]) hp5 hb
        have set_ : ∀ n : Nat, (intsV ns).set m (.int (n : Int)) = intsV (ns.set m n) := fun n => by rw [intsV, intsV, List.map_set]
        refine ⟨_, rfl, nm, kvs, rfl, hn6, _, _, rfl, rfl, kvs, rkey r c, b, hn6, rfl, upd_same, fun v hv => ?_, fun hv => ⟨small1000000 (by omega), ?_⟩⟩
        · obtain ⟨n, rfl, _⟩ := hok.val _ _ hv
          refine ⟨_, rfl, _, rfl, rp, _, _, m, rfl, rfl, hp6, ixN_nat (by rw [List.length_map]; omega), ⟨kvs, ns.set m n, _, rfl, x6.over hrp0, upd_k hn6 npr, upd_k hr6 nrr, by rw [upd_same, set_], by omega, hok, ?_, fun p q e => ?_⟩⟩
          · rw [show x.length - (j + 1) = m by omega]
            exact hrf.set lm (by rw [xm]; exact .cons hnm' hv)
          · obtain ⟨a1, a2, a3, a4, ns', a5, a6⟩ := hrows p q e
            exact ⟨a1, a2, a3, a4, ns', upd_k (upd_keep a5 hb) a3, a6⟩
        · have hp7 := upd_k (u := HO.dT (putK kvs (rkey r c) (.int ((kvs.length : Int) + 1)))) hp6 npr.symm
          have hr7 := upd_k (u := HO.dT (putK kvs (rkey r c) (.int ((kvs.length : Int) + 1)))) hr6 nr.symm
          have mono := put_mono (v := .int ((kvs.length : Int) + 1)) hv
          have sv_ : V.int ((kvs.length : Int) + 1) = V.int ((kvs.length + 1 : Nat) : Int) := by simp
          refine ⟨_, rfl, _, rfl, rp, _, _, m, rfl, rfl, hp7, ixN_nat (by rw [List.length_map]; omega), ⟨putK kvs (rkey r c) (.int ((kvs.length : Int) + 1)), ns.set m (kvs.length + 1), _, rfl, (x6.over hnm).over hrp0, upd_k upd_same npr, upd_k hr7 nrr, by rw [upd_same]; show some (HO.lst ((intsV ns).set m (V.int ((kvs.length : Int) + 1)))) = _; rw [sv_, set_], ?_, hok.put hv, ?_, fun p q e => ?_⟩⟩
          · rw [putK_len hv]
            omega
          · rw [show x.length - (j + 1) = m by omega]
            refine (hrf.mono mono).set lm ?_
            rw [xm]
            refine .cons (hnm'.mono mono) ?_
            rw [valV_put, if_pos rfl]
            simp
          · obtain ⟨a1, a2, a3, a4, ns', a5, a6⟩ := hrows p q e
            exact ⟨a1, a2, a3, a4, ns', upd_k (upd_k (upd_keep a5 hb) a1) a3, a6.mono mono⟩
      · rintro σ H4 ⟨kvs, ns, mk, rfl, x5, hn5, hr5, hp5, hkl, hok, hrf, hrows⟩
        refine ⟨_, rfl, .inl ⟨rfl, _, SqL.of hr5⟩, _, rfl, rw_, _, _, rfl, rfl, hr5, by rw [List.length_map, hzl]; exact small1000000 (by omega), ?_⟩
        refine ⟨kvs, ps ++ [rp], _, _, _, rfl, x5.over hrw0, upd_k hn5 nr, by rw [upd_same, List.map_append]; rfl, by rw [List.length_append, hzl]; rfl, by omega, hok, fun p q e => ?_⟩
        by_cases hp : p < ps.length
        · rw [List.getElem?_append_left hp] at e
          obtain ⟨a1, a2, a3, a4, ns', a5, a6⟩ := hrows p q e
          exact ⟨a1, a2, a4, ns', upd_k a5 a2, a6⟩
        · have hp2 : p = ps.length := by
            have := (List.getElem?_eq_some_iff.mp e).1
            rw [List.length_append, List.length_singleton] at this
            omega
          subst hp2
          rw [List.getElem?_append_right (Nat.le_refl _), Nat.sub_self] at e
          cases e
          refine ⟨npr.symm, nrr.symm, hrp0, ns, upd_k hp5 nrr.symm, ?_⟩
          rw [hzl, hxd]
          rw [Nat.sub_self] at hrf
          exact hrf
    · rintro σ H2 ⟨kvs, ps, wd, row, mk, rfl, xH, hn2, hr2, hzl, hkl, hok, hrows⟩
      rw [List.length_map] at hzl
      have row_ : ∀ p, p < ws.length → ∃ ns : List Nat, H2 (ps.getD p 0) = some (.lst (intsV ns)) ∧ RowFrom kvs (ws.getD p []) ns 0 := fun p hp => by
        have e : ps[p]? = some (ps.getD p 0) := by simp [show p < ps.length by omega]
        obtain ⟨_, _, _, ns, h1, h2⟩ := hrows p _ e
        exact ⟨ns, h1, h2⟩
      have nms : ∀ s, Suf ws s → Nm kvs s (numOf' kvs s) := fun s ⟨p, m, hp, hm, e⟩ => by
        obtain ⟨ns, _, h2⟩ := row_ p hp
        obtain ⟨n, _, q⟩ := h2.2 m (Nat.zero_le _) hm
        rw [← e] at q
        rw [numOf'_eq q]
        exact q
      refine ⟨_, rfl, k rw_ (numOf' kvs) H2 hrw0 xH ⟨ps, hr2, hzl, fun p hp => ?_⟩ ⟨numOf'_eq .nil, fun s t hs ht e => ?_⟩⟩
      · obtain ⟨ns, h1, h2⟩ := row_ p hp
        rw [h1, intsV]
        congr 2
        refine List.ext_getElem? fun t => ?_
        rw [List.getElem?_map, List.getElem?_map]
        by_cases ht : t ≤ (ws.getD p []).length
        · obtain ⟨n, e, q⟩ := h2.2 t (Nat.zero_le _) ht
          rw [e, List.getElem?_range (by omega), Option.map_some, Option.map_some, numOf'_eq q]
        · rw [List.getElem?_eq_none (by have := h2.1; omega), List.getElem?_eq_none (by rw [List.length_range]; omega)]
          rfl
      · have q1 := nms s hs
        rw [e] at q1
        exact q1.inj hok (nms t ht)
end
end L2


set_option Elab.async false
set_option linter.all false
set_option maxRecDepth 100000
set_option maxHeartbeats 2000000
namespace L2
open PySem PySem.Spec PyProof.Rows Tw
seal PSs PS PE PT PW PA PG PGs PI PC
/-- a chain: the last place first -/
def Ch (H : Hp) : V → List Nat → Prop
  | c, [] => c = .non
  | c, p :: r => ∃ a c', c = .ref a ∧ H a = some (.tup [.int (p : Int), c']) ∧ Ch H c' r
theorem Ch.keep {H H' : Hp} : ∀ {r : List Nat} {c : V}, Ch H c r → (∀ b xs, H b = some (.tup xs) → H' b = some (.tup xs)) → Ch H' c r
  | [], _, h, _ => h
  | _ :: _, _, ⟨a, c', e, h1, h2⟩, k => ⟨a, c', e, k a _ h1, h2.keep k⟩
theorem Ch.ext {H H' : Hp} {r : List Nat} {c : V} (h : Ch H c r) (x : Ext H H') : Ch H' c r := h.keep fun _ _ z => x.tup z
theorem tup_over {H : Hp} {l : Addr} {xs ys : List V} (h : H l = some (.lst xs)) : ∀ b zs, H b = some (.tup zs) → upd H l (.lst ys) b = some (.tup zs) := fun b zs z => upd_k z (ne_of z h (by simp))
section
variable {P : Program} {w : World} {K : PySem.W.Frag} {mg : Str → Option Value} {base : Heap}
def spUnrolled (K : PySem.W.Frag) : Sp := fun vs H Q _ => ∃ (c : V) (r : List Nat), vs = [c] ∧ Ch H c r ∧ r.length ≤ 100000 ∧ ∀ l H', H l = none → Ext H H' → H' l = some (.lst (intsV r.reverse)) → Q (.ref l) H'
theorem ok_unrolled (D : Def K mg "unrolled" "unrolled" Pl.s_unrolled ["chain"]) : Cal P w K mg base CX0 1 "unrolled" ["chain"] (spUnrolled K) := by
  have sc : FnScope ["chain", "places"] ["chain"] (defScope Pl.s_unrolled) := ⟨rfl, rfl, rfl, by decide +kernel, rfl, by decide +kernel, by decide +kernel⟩
  refine D.cal fun f fd F => F.ok sc (fun vs H Q E h => ?_) (fun cdv A outer s H vs Q E hr h => ?_)
  · obtain ⟨_, _, rfl, _⟩ := h
    rfl
  · obtain ⟨c, r, rfl, hc, hrl, k⟩ := h
    refine ⟨_, pss_cons (ps_set (i := 1) sc.nd rfl (Or.inl rfl) (pe_lst pa_nil))
      (pss_cons (ps_while PassesOwn.never (pt_cmp (pc_notN (pv 0)))
        (pss_cons (ps_expr (pe_bm PySem.F.plainAttrs_list PySem.F.slot_list_append PySem.F.type_list_append mt_append (pv 1) (pa_cons (pe_ix (r := rIxT K) ix_tup (pv 0) pe_int (fun _ _ => rfl)) pa_nil)))
        (pss_one (ps_set (i := 0) sc.nd rfl (Or.inl rfl) (pe_ix (r := rIxT K) ix_tup (pv 0) pe_int (fun _ _ => rfl))))))
      (pss_cons (ps_expr (pe_bm0 PySem.F.plainAttrs_list PySem.F.slot_list_reverse PySem.F.type_list_reverse mt_reverse (pv 1)))
      (pss_one (ps_ret (pv 1))))), ?_⟩
    refine ⟨by show 0 ≤ sizeLine; exact Nat.zero_le _, fun l hl => ?_⟩
    refine while_by (fun σ H2 => ∃ (c : V) (done left : List Nat), σ = [some c, some (.ref l)] ∧ Ext H H2 ∧ H2 l = some (.lst (intsV done)) ∧ Ch H2 c left ∧ r = done ++ left) (fun _ H2 => r.length - lstLen H2 l) ?_ ?_ ?_
    · exact ⟨c, [], r, rfl, Ext.new hl, upd_same, hc.ext (Ext.new hl), rfl⟩
    · rintro σ H2 ⟨c, done, left, rfl, x, hl2, hc2, rfl⟩
      cases left with
      | nil =>
        cases (show c = .non from hc2)
        refine ⟨_, rfl, _, rfl, iteF' (by decide) ?_⟩
        refine ⟨_, rfl, .inl ⟨rfl, _, SqL.of hl2⟩, l, _, rfl, rfl, hl2, _, rfl, k l _ hl (x.over hl) ?_⟩
        rw [upd_same, List.append_nil, intsV, intsV, List.map_reverse]
      | cons p left =>
        obtain ⟨b, c', rfl, hb, hc3⟩ := hc2
        refine ⟨_, rfl, _, rfl, iteT' (by simp) ?_⟩
        have ne : b ≠ l := ne_of hb hl2 (by simp)
        have hdl : done.length < 100000 := by simp at hrl; omega
        refine ⟨_, rfl, .inl ⟨rfl, _, SqL.of hl2⟩, _, rfl, b, _, 0, .int (p : Int), rfl, rfl, SqT.of hb, rfl, l, _, _, rfl, rfl, hl2, by rw [List.length_map]; exact small1000000 (by omega), ?_⟩
        have hb2 : upd H2 l (.lst (intsV done ++ [.int (p : Int)])) b = some (.tup [.int (p : Int), c']) := upd_k hb ne
        have x2 : Ext H (upd H2 l (.lst (intsV done ++ [.int (p : Int)]))) := x.over hl
        refine ⟨_, rfl, b, _, 1, c', rfl, rfl, SqT.of hb2, rfl, ⟨c', done ++ [p], left, rfl, x2, ?_, hc3.keep (tup_over hl2), by simp⟩, ?_⟩
        · rw [upd_same, intsV, intsV, List.map_append]
          rfl
        · rw [lstLen_of hl2, lstLen_of (upd_same (H := H2) (a := l)), List.length_append, List.length_append, List.length_map]
          simp only [List.length_cons, List.length_nil]
          omega
    · rintro σ H' Q1 Q2 hQ ⟨v, e1, c, e2, q⟩
      exact ⟨v, e1, c, e2, hQ _ _ q⟩
end
end L2


set_option Elab.async false
set_option linter.all false
set_option maxRecDepth 100000
set_option maxHeartbeats 2000000
namespace L2
open PySem PySem.Spec PyProof.Rows Tw
seal PSs PS PE PT PW PA PG PGs PI PC
/-! ### rests of two readings -/
structure RM where
  p : Nat
  m : Nat
  A : List Nat
  B : List Nat
/-- what is left -/
def RM.suf (ws : List W) (r : RM) : W := (ws.getD r.p []).drop r.m
structure RM.Ok (ws : List W) (r : RM) : Prop where
  hp : r.p < ws.length
  hm : r.m ≤ (ws.getD r.p []).length
  hA : ∀ i ∈ r.A, i < ws.length
  hB : ∀ i ∈ r.B, i < ws.length
  nA : r.A ≠ []
  nB : r.B ≠ []
  ne : r.A.getLast? ≠ r.B.getLast?
  tx : textOf ws r.A.reverse = textOf ws r.B.reverse ++ r.suf ws
theorem RM.Ok.isSuf {ws : List W} {r : RM} (h : r.Ok ws) : Suf ws (r.suf ws) := ⟨r.p, r.m, h.hp, h.hm, rfl⟩
/-- it stands at o -/
def RestAt (C : Addr) (H : Hp) (o : Addr) (r : RM) : Prop := ∃ dx va vb, H o = some (.ins C dx [("place", .int (r.p : Int)), ("mark", .int (r.m : Int)), ("ahead", va), ("behind", vb)]) ∧ Ch H va r.A ∧ Ch H vb r.B
theorem RestAt.ext {C : Addr} {H H' : Hp} {o : Addr} {r : RM} (h : RestAt C H o r) (x : Ext H H') : RestAt C H' o r := let ⟨dx, va, vb, h1, h2, h3⟩ := h; ⟨dx, va, vb, x.ins h1, h2.ext x, h3.ext x⟩
theorem RestAt.keep {C : Addr} {H H' : Hp} {o : Addr} {r : RM} (h : RestAt C H o r) (k1 : ∀ b C dx fs, H b = some (.ins C dx fs) → H' b = some (.ins C dx fs)) (k2 : ∀ b xs, H b = some (.tup xs) → H' b = some (.tup xs)) : RestAt C H' o r :=
  let ⟨dx, va, vb, h1, h2, h3⟩ := h; ⟨dx, va, vb, k1 _ _ _ _ h1, h2.keep k2, h3.keep k2⟩
/-- the class -/
structure RestC (P : Program) (w : World) (K : PySem.W.Frag) (mg : Str → Option Value) (base : Heap) (C : Addr) : Prop where
  there : mg "Rest" = some (.ref C)
  cls : Cls K C
  n1 : NoAttr K C "place"
  n2 : NoAttr K C "mark"
  n3 : NoAttr K C "ahead"
  n4 : NoAttr K C "behind"
section
variable {P : Program} {w : World} {K : PySem.W.Frag} {mg : Str → Option Value} {base : Heap} {C : Addr}
def spInitR (C : Addr) : Sp := fun vs H Q _ => ∃ (o dx : Addr) (p m va vb : V), vs = [.ref o, p, m, va, vb] ∧ H o = some (.ins C dx []) ∧ Q .non (upd H o (.ins C dx [("place", p), ("mark", m), ("ahead", va), ("behind", vb)]))
theorem ok_initRest {f : Addr} {fd : FuncData} (F : Fun K "__init__" "Rest.__init__" Pl.c_Rest_init f fd) (cl : Cls K C) (n1 : NoAttr K C "place") (n2 : NoAttr K C "mark") (n3 : NoAttr K C "ahead") (n4 : NoAttr K C "behind") :
    FnOk P w K mg base CX0 1 f fd ["self", "place", "mark", "ahead", "behind"] (spInitR C) := by
  have sc : FnScope ["self", "place", "mark", "ahead", "behind"] ["self", "place", "mark", "ahead", "behind"] (defScope Pl.c_Rest_init) := ⟨rfl, rfl, rfl, by decide +kernel, rfl, by decide +kernel, by decide +kernel⟩
  refine F.ok sc (fun vs H Q E h => ?_) (fun cdv A outer s H vs Q E hr h => ?_)
  · obtain ⟨_, _, _, _, _, _, rfl, _⟩ := h
    rfl
  · obtain ⟨o, dx, p, m, va, vb, rfl, ho, k⟩ := h
    refine ⟨_, pss_cons (ps_fld (pv 0) (pv 1) rfl) (pss_cons (ps_fld (pv 0) (pv 2) rfl) (pss_cons (ps_fld (pv 0) (pv 3) rfl) (pss_one (ps_fld (pv 0) (pv 4) rfl)))), ?_⟩
    refine ⟨_, rfl, _, rfl, o, C, dx, [], rfl, ho, cl, n1, by decide, _, rfl, _, rfl, o, C, dx, _, rfl, upd_same, cl, n2, (by show 1 < 1000; decide), ?_⟩
    rw [upd_upd]
    refine ⟨_, rfl, _, rfl, o, C, dx, _, rfl, upd_same, cl, n3, (by show 2 < 1000; decide), ?_⟩
    rw [upd_upd]
    refine ⟨_, rfl, _, rfl, o, C, dx, _, rfl, upd_same, cl, n4, (by show 3 < 1000; decide), ?_⟩
    rw [upd_upd]
    exact k
end
/-- rests found: a list of them -/
def FoundAt (C : Addr) (H : Hp) (D : Addr) (l : List (Addr × RM)) : Prop := H D = some (.lst (l.map fun x => V.ref x.1)) ∧ ∀ x ∈ l, RestAt C H x.1 x.2
theorem FoundAt.ext {C D : Addr} {H H' : Hp} {l : List (Addr × RM)} (h : FoundAt C H D l) (x : Ext H H') : FoundAt C H' D l := ⟨x.lst h.1, fun y hy => (h.2 y hy).ext x⟩
theorem textOf_one (ws : List W) (i : Nat) : textOf ws [i] = ws.getD i [] := by rw [textOf_cons, textOf_nil, List.append_nil]
theorem cut_app (t : W) (m n : Nat) : cut t m n ++ t.drop (m + n) = t.drop m := by
  rw [cut, ← List.drop_drop, List.take_append_drop]
/-- the first rests of a place: r of them are known to be there -/
theorem RM.Ok.first {ws : List W} {i j n : Nat} (hi : i < ws.length) (hj : j < ws.length) (e : ws.getD j [] = cut (ws.getD i []) 0 n) (hn : n ≤ (ws.getD i []).length) (ne : j ≠ i) : RM.Ok ws ⟨i, n, [i], [j]⟩ := by
  refine ⟨hi, hn, fun k hk => ?_, fun k hk => ?_, by simp, by simp, by simpa using fun z => ne z.symm, ?_⟩
  · rw [List.mem_singleton.mp hk]; exact hi
  · rw [List.mem_singleton.mp hk]; exact hj
  · show textOf ws [i] = textOf ws [j] ++ _
    rw [textOf_one, textOf_one, e]
    have := cut_app (ws.getD i []) 0 n
    rw [List.drop_zero, Nat.zero_add] at this
    exact this.symm
theorem RM.Ok.on {ws : List W} {r : RM} (h : r.Ok ws) {n j : Nat} (hj : j < ws.length) (e : ws.getD j [] = cut (ws.getD r.p []) r.m n) (hn : r.m + n ≤ (ws.getD r.p []).length) : RM.Ok ws ⟨r.p, r.m + n, r.A, j :: r.B⟩ := by
  refine ⟨h.hp, hn, h.hA, fun k hk => ?_, h.nA, by simp, ?_, ?_⟩
  · rcases List.mem_cons.mp hk with z | z
    · rw [z]; exact hj
    · exact h.hB k z
  · have : (j :: r.B).getLast? = r.B.getLast? := by
      rw [List.getLast?_cons]
      cases q : r.B.getLast? with
      | none => exact absurd (List.getLast?_eq_none_iff.mp q) h.nB
      | some v => rfl
    show r.A.getLast? ≠ (j :: r.B).getLast?
    rw [this]
    exact h.ne
  · show textOf ws r.A.reverse = textOf ws (j :: r.B).reverse ++ (ws.getD r.p []).drop (r.m + n)
    rw [h.tx, List.reverse_cons, textOf_append, textOf_one, e, List.append_assoc, cut_app]
    rfl
theorem RM.Ok.over {ws : List W} {r : RM} (h : r.Ok ws) {j : Nat} (hj : j < ws.length) {n : Nat} (hn : n = (r.suf ws).length) (e : (r.suf ws).isPrefixOf (ws.getD j []) = true) : RM.Ok ws ⟨j, n, j :: r.B, r.A⟩ := by
  obtain ⟨t, ht⟩ := List.isPrefixOf_iff_prefix.mp e
  subst hn
  have d : (ws.getD j []).drop (r.suf ws).length = t := by rw [← ht, List.drop_left]
  refine ⟨hj, by show (r.suf ws).length ≤ (ws.getD j []).length; rw [← ht, List.length_append]; omega, fun k hk => ?_, h.hA, by simp, h.nA, ?_, ?_⟩
  · rcases List.mem_cons.mp hk with z | z
    · rw [z]; exact hj
    · exact h.hB k z
  · have : (j :: r.B).getLast? = r.B.getLast? := by
      rw [List.getLast?_cons]
      cases q : r.B.getLast? with
      | none => exact absurd (List.getLast?_eq_none_iff.mp q) h.nB
      | some v => rfl
    show (j :: r.B).getLast? ≠ r.A.getLast?
    rw [this]
    exact h.ne.symm
  · show textOf ws (j :: r.B).reverse = textOf ws r.A.reverse ++ (ws.getD j []).drop (r.suf ws).length
    rw [d, h.tx, List.reverse_cons, textOf_append, textOf_one, List.append_assoc, ht]
end L2


set_option Elab.async false
set_option linter.all false
set_option maxRecDepth 100000
set_option maxHeartbeats 2000000
namespace L2
open PySem PySem.Spec PyProof.Rows Tw
seal PSs PS PE PT PW PA PG PGs PI PC
/-- how a rest is made -/
def RestMk (P : Program) (w : World) (K : PySem.W.Frag) (mg : Str → Option Value) (base : Heap) (C : Addr) : Prop := mg "Rest" = some (.ref C) ∧ ∃ f fd, Mk K C f ∧ FnOk P w K mg base CX0 1 f fd ["self", "place", "mark", "ahead", "behind"] (spInitR C) ∧ Binds K fd ["self", "place", "mark", "ahead", "behind"] []
theorem pe_rest {X : Cx} {C : Addr} {e : Expr} {es : List Expr} {t : TA} {p pos : Pos} (O : RestMk X.prog X.w X.K X.mg X.base C) (hr : Room 2 X.A) (ha : PA X (e :: es) t) (hg : Gl X "Rest" := by rfl)
    (he : starEach (e :: es) X.env = (false, eval e X.env) :: starEach es X.env := by rfl) (hpl : (backTo pos (starEach es X.env)).any (·.1) = false := by rfl) : PE X (.Call (.Name "Rest" p) (e :: es) [] pos) (tMake C (spInitR C) [] E0 t) := by
  obtain ⟨hm, f, fd, M, F, b⟩ := O
  exact pe_make M F hr hg hm b .nil pass0 ha (by decide) he hpl
/-- a new rest: what is there behind it -/
theorem made_rest {C x dx : Addr} {H1 : Hp} {p m va vb : V} (hx : H1 x = none) (hdx : H1 dx = none) (ne : dx ≠ x) : Ext H1 (upd (upd (upd H1 dx (.own x)) x (.ins C dx [])) x (.ins C dx [("place", p), ("mark", m), ("ahead", va), ("behind", vb)])) := by
  rw [upd_upd]
  exact (Ext.new hdx).newer (by rw [upd_ne ne.symm]; exact hx)
/-- all but g is as it was -/
def Kb (g : Addr) (H H' : Hp) : Prop := ∀ b o, b ≠ g → H b = some o → H' b = some o
section
variable {g D C x dx : Addr} {H H1 H2 H4 H5 : Hp} {o : HO} {l : List (Addr × RM)} {p m : Nat} {A B : List Nat} {va vb : V}
theorem Kb.refl : Kb g H H := fun _ _ _ z => z
theorem Kb.trans (a : Kb g H H1) (b : Kb g H1 H2) : Kb g H H2 := fun c o hc z => b c o hc (a c o hc z)
theorem Kb.newer (a : Kb g H H1) (h : H1 D = none) : Kb g H (upd H1 D o) := fun c o hc z => upd_keep (a c o hc z) h
theorem Kb.over (a : Kb g H H1) (h : H D = none) : Kb g H (upd H1 D o) := fun c o hc z => upd_k (a c o hc z) (ne_of_none z h)
theorem kb_made {p m va vb : V} (hx : H1 x = none) (hdx : H1 dx = none) (ne : dx ≠ x) : Kb g H1 (upd (upd (upd H1 dx (.own x)) x (.ins C dx [])) x (.ins C dx [("place", p), ("mark", m), ("ahead", va), ("behind", vb)])) := by
  rw [upd_upd]
  exact (Kb.refl.newer hdx).newer (by rw [upd_ne ne.symm]; exact hx)
theorem found_push (F : FoundAt C H4 D l) (x45 : Ext H4 H5) (hx : H5 x = none) (hdx : H5 dx = none) (ne : dx ≠ x) (ca : Ch H5 va A) (cb : Ch H5 vb B) :
    FoundAt C (upd (upd (upd (upd H5 dx (.own x)) x (.ins C dx [])) x (.ins C dx [("place", .int (p : Int)), ("mark", .int (m : Int)), ("ahead", va), ("behind", vb)])) D (.lst ((l.map fun y => V.ref y.1) ++ [.ref x]))) D (l ++ [(x, ⟨p, m, A, B⟩)]) := by
  have xm : Ext H5 _ := made_rest (C := C) (p := .int (p : Int)) (m := .int (m : Int)) (va := va) (vb := vb) hx hdx ne
  have hD := xm.lst (x45.lst F.1)
  have k1 : ∀ b C' dx' fs, upd (upd (upd H5 dx (.own x)) x (.ins C dx [])) x (.ins C dx [("place", .int (p : Int)), ("mark", .int (m : Int)), ("ahead", va), ("behind", vb)]) b = some (.ins C' dx' fs) → upd (upd (upd (upd H5 dx (.own x)) x (.ins C dx [])) x (.ins C dx [("place", .int (p : Int)), ("mark", .int (m : Int)), ("ahead", va), ("behind", vb)])) D (.lst ((l.map fun y => V.ref y.1) ++ [.ref x])) b = some (.ins C' dx' fs) := fun b C' dx' fs z => upd_k z (ne_of z hD (by simp))
  refine ⟨by rw [upd_same, List.map_append]; rfl, fun y hy => ?_⟩
  rcases List.mem_append.mp hy with z | z
  · exact ((F.2 y z).ext (x45.trans xm)).keep k1 (tup_over hD)
  · rw [List.mem_singleton.mp z]
    refine ⟨dx, va, vb, k1 _ _ _ _ upd_same, ?_, ?_⟩
    · exact (ca.ext xm).keep (tup_over hD)
    · exact (cb.ext xm).keep (tup_over hD)
end
section
variable {P : Program} {w : World} {K : PySem.W.Frag} {mg : Str → Option Value} {base : Heap} {C : Addr}
def spFirst1 (C : Addr) : Sp := fun vs H Q _ => ∃ (a g : Addr) (ws : List W) (d : Nat → Addr) (f : W → Addr) (i : Nat), vs = [.ref a, .ref g, .int (i : Int)] ∧ CodeL H a ws ∧ GR H g ws d f ∧ i < ws.length ∧
  ∀ D l H', H D = none → Ext H H' → Kb g H H' → FoundAt C H' D l → (∀ x ∈ l, x.2.Ok ws ∧ x.2.A.length ≤ 1 ∧ x.2.B.length ≤ 1) →
    (∀ n j, n ∈ standL ws (ws.getD i []) 0 → ws.getD j [] = cut (ws.getD i []) 0 n → j < i → ∃ x ∈ l, x.2.p = i ∧ x.2.m = n) → (∀ n, n ∈ standL ws (ws.getD i []) 0 → n < (ws.getD i []).length → ∃ x ∈ l, x.2.p = i ∧ x.2.m = n) → l.length ≤ 10000 → Q (.ref D) H'
theorem first_pl {ws : List W} {t : W} {m n : Nat} (hm : m ≤ t.length) (hn : n ∈ standL ws t m) : ∃ j rest, placesOf ws (cut t m n) = j :: rest ∧ j < ws.length ∧ ws.getD j [] = cut t m n ∧ m + n ≤ t.length ∧ ∀ j', j' < ws.length → ws.getD j' [] = cut t m n → j ≤ j' := by
  obtain ⟨h1, h2, h3⟩ := (mem_standL ws t m n hm).mp hn
  obtain ⟨j, hj⟩ := List.mem_iff_getElem?.mp h1
  have hm' : j ∈ placesOf ws (cut t m n) := (mem_placesOf ws _ j).mpr hj
  cases e : placesOf ws (cut t m n) with
  | nil => rw [e] at hm'; cases hm'
  | cons a rest =>
    have ha := (mem_placesOf ws _ a).mp (by rw [e]; exact List.mem_cons_self)
    refine ⟨a, rest, rfl, (List.getElem?_eq_some_iff.mp ha).1, by rw [List.getD_eq_getElem?_getD, ha]; rfl, by omega, fun j' hj' ej' => ?_⟩
    have : j' ∈ placesOf ws (cut t m n) := (mem_placesOf ws _ j').mpr (by rw [List.getElem?_eq_getElem hj', ← ej', List.getD_eq_getElem?_getD, List.getElem?_eq_getElem hj']; rfl)
    rw [e] at this
    rcases List.mem_cons.mp this with z | z
    · omega
    · have so := placesOf_up ws (cut t m n)
      rw [e] at so
      exact Nat.le_of_lt ((List.pairwise_cons.mp so).1 _ z)
theorem ok_first_rests1 (D : Def K mg "first_rests" "first_rests" Pl.s_first_rests ["code", "groups", "place"]) (CS : Cal P w K mg base CX0 1 "standing" ["groups", "text", "mark"] (spStanding K)) (O : RestMk P w K mg base C) : Cal P w K mg base CX0 3 "first_rests" ["code", "groups", "place"] (spFirst1 C) := by
  have sc : FnScope ["code", "groups", "place", "found", "mark", "places"] ["code", "groups", "place"] (defScope Pl.s_first_rests) := ⟨rfl, rfl, rfl, by decide +kernel, rfl, by decide +kernel, by decide +kernel⟩
  refine D.cal fun f fd F => F.ok sc (fun vs H Q E h => ?_) (fun cdv A outer s H vs Q E hr h => ?_)
  · obtain ⟨_, _, _, _, _, _, rfl, _⟩ := h
    rfl
  · obtain ⟨a, g, ws, d, f, i, rfl, hC, G, hi, k⟩ := h
    have hr1 : Room 1 _ := hr.mono (by decide)
    refine ⟨_, pss_cons (ps_set (i := 3) sc.nd rfl (Or.inl rfl) (pe_lst pa_nil))
      (pss_cons (ps_for PassesOwn.never rfl (pi_list (pe_callF CS hr1 (pa_cons (pv 1) (pa_cons (pe_ix (r := rIxL K) ix_list (pv 0) (pv 2) (fun _ _ => rfl)) (pa_cons pe_int pa_nil))) pass0))
        (pg_tupK (K := K) (n := 2) rfl rfl (pgs_cons (pg_name (i := 4) sc.nd rfl (Or.inl rfl)) (pgs_cons (pg_name (i := 5) sc.nd rfl (Or.inl rfl)) pgs_nil)))
        (pss_one (ps_if (pt_cmpR op_ne (pe_ix (r := rIxL K) ix_list (pv 5) pe_int (fun _ _ => rfl)) (pv 2) (nomark _))
          (pss_one (ps_expr (pe_bm PySem.F.plainAttrs_list PySem.F.slot_list_append PySem.F.type_list_append mt_append (pv 3) (pa_cons (pe_rest O hr (pa_cons (pv 2) (pa_cons (pv 4) (pa_cons (pe_tup (pa_cons (pv 2) (pa_cons pe_non pa_nil))) (pa_cons (pe_tup (pa_cons (pe_ix (r := rIxL K) ix_list (pv 5) pe_int (fun _ _ => rfl)) (pa_cons pe_non pa_nil))) pa_nil))))) pa_nil)))) pss_nil)))
      (pss_one (ps_ret (pv 3)))), ?_⟩
    refine ⟨by show 0 ≤ sizeLine; exact Nat.zero_le _, fun fo hfo => ?_⟩
    have x1 : Ext H (upd H fo (.lst [])) := Ext.new hfo
    have hfg : fo ≠ g := fun z => by
      rcases G.gd with q | ⟨_, q⟩ <;> rw [← z, hfo] at q <;> cases q
    have hxl : (ws.getD i []).length ≤ 10000 := hC.short _ (by rw [List.getD_eq_getElem?_getD, List.getElem?_eq_getElem hi]; simp)
    refine ⟨_, rfl, _, rfl, _, rfl, a, _, (i : Int), sv (ws.getD i []), rfl, rfl, SqL.of (hC.ext x1).at_, atI_nat (by rw [List.getElem?_map]; simp [hi]), ?_⟩
    refine ⟨g, ws, d, f, ws.getD i [], 0, rfl, x1.gr G, hC.few, by omega, Nat.zero_le _, fun D H3 ys hD x3 kb hys hpr => ⟨D, rfl, ⟨_, SqL.of hys⟩, ?_⟩⟩
    have hfo3 : H3 fo = some (.lst []) := kb fo _ hfg upd_same
    have hyl : ys.length ≤ 10000 := by
      rw [← hpr.length]
      have := standL_len ws (ws.getD i []) 0
      have := hC.few
      omega
    have hDfo : D ≠ fo := (ne_of_none upd_same hD).symm
    have x13 := x1.trans x3
    have kb1 : Kb g H H3 := (Kb.refl.newer hfo).trans kb
    refine for_list (K := K) (a := D) (xs := ys) (fun j σ H4 => (∃ mk pl : Option V, σ = [some (.ref a), some (.ref g), some (.int (i : Int)), some (.ref fo), mk, pl]) ∧ Ext H H4 ∧ Kb g H H4 ∧ Kb fo H3 H4 ∧
      ∃ l, FoundAt C H4 fo l ∧ (∀ x ∈ l, x.2.Ok ws ∧ x.2.A.length ≤ 1 ∧ x.2.B.length ≤ 1) ∧ l.length ≤ j ∧ ∀ n ∈ (standL ws (ws.getD i []) 0).take j, (placesOf ws (cut (ws.getD i []) 0 n)).head? ≠ some i → ∃ x ∈ l, x.2.p = i ∧ x.2.m = n)
      ⟨⟨_, _, rfl⟩, x13, kb1, fun b o _ z => z, [], ⟨hfo3, fun x hx => nomatch hx⟩, fun x hx => (nomatch hx), Nat.le_refl _, fun n hn => by simp at hn⟩ (fun j σ H4 _ h => SqL.of (h.2.2.2.1 D _ hDfo hys)) ?_ ?_
    · rintro j y σ H4 hy ⟨⟨mk, pl, rfl⟩, x4, kb4, k34, l, hl, hok, hll, hcl⟩
      have hj : j < ys.length := (List.getElem?_eq_some_iff.mp hy).1
      obtain ⟨n, hn, t, rfl, ht⟩ := paired_get hpr hy
      have hnm := List.mem_of_getElem? hn
      obtain ⟨q, rest, e, hq, hqe, hle, hmin⟩ := first_pl (Nat.zero_le _) hnm
      have hcw : cut (ws.getD i []) 0 n ∈ ws := ((mem_standL ws _ 0 n (Nat.zero_le _)).mp hnm).1
      have hpl := kb4 _ _ (fun z => by rcases G.gd with q' | ⟨_, q'⟩ <;> rw [← z, G.lst _ hcw] at q' <;> cases q') (G.lst _ hcw)
      rw [e] at hpl
      have ht4 := k34 t _ (ne_of ht hfo3 (by simp)) ht
      refine ⟨t, _, rfl, SqT.of ht4, rfl, _, _, rfl, _, _, rfl, rfl, ?_⟩
      refine ⟨_, rfl, _, _, 0, .int (q : Int), rfl, rfl, SqL.of hpl, atI_nat (j := 0) rfl, _, rfl, rfl, _, rfl, ?_⟩
      by_cases hqi : q = i
      · refine iteF' (by simp [hqi]) ⟨⟨_, _, rfl⟩, x4, kb4, k34, l, hl, hok, by omega, fun n' hn' hne => ?_⟩
        rw [take_snoc hn] at hn'
        rcases List.mem_append.mp hn' with z | z
        · exact hcl n' z hne
        · rw [List.mem_singleton.mp z, e, hqi] at hne
          exact absurd rfl hne
      · refine iteT' (by simp; omega) ?_
        refine ⟨_, rfl, .inl ⟨rfl, _, SqL.of hl.1⟩, _, rfl, _, rfl, _, rfl, by show 2 ≤ sizeLine; decide, fun t1 ht1 => ?_⟩
        have xa : Ext H4 (upd H4 t1 (.tup [.int (i : Int), .non])) := Ext.new ht1
        refine ⟨_, rfl, _, _, 0, .int (q : Int), rfl, rfl, SqL.of (xa.lst hpl), atI_nat (j := 0) rfl, by show 2 ≤ sizeLine; decide, fun t2 ht2 => ?_⟩
        have xb : Ext H4 (upd (upd H4 t1 (.tup [.int (i : Int), .non])) t2 (.tup [.int (q : Int), .non])) := xa.newer ht2
        have h1 : upd (upd H4 t1 (.tup [.int (i : Int), .non])) t2 (.tup [.int (q : Int), .non]) t1 = some (.tup [.int (i : Int), .non]) := upd_keep upd_same ht2
        intro x dx hx hdx ne
        refine ⟨x, dx, _, _, _, _, rfl, upd_same, rfl, ?_⟩
        have F := found_push (p := i) (m := n) (A := [i]) (B := [q]) hl xb hx hdx ne ⟨t1, .non, rfl, h1, rfl⟩ ⟨t2, .non, rfl, upd_same, rfl⟩
        have hD7 := (made_rest (C := C) (p := .int (i : Int)) (m := .int (n : Int)) (va := .ref t1) (vb := .ref t2) hx hdx ne).lst (xb.lst hl.1)
        rw [Int.natCast_zero, Int.zero_add]
        refine ⟨fo, _, _, rfl, rfl, hD7, by rw [List.length_map]; exact small1000000 (by omega), ⟨_, _, rfl⟩, ?_, ?_, ?_, l ++ [(x, ⟨i, n, [i], [q]⟩)], F, ?_, ?_, ?_⟩
        · exact (x4.trans (xb.trans (made_rest hx hdx ne))).over hfo
        · exact (((kb4.newer ht1).newer ht2).trans (kb_made hx hdx ne)).over hfo
        · intro b o hb z
          exact upd_k ((((Kb.refl (g := fo)).newer ht1 |>.newer ht2).trans (kb_made hx hdx ne)) b o hb (k34 b o hb z)) hb
        · intro y hy
          rcases List.mem_append.mp hy with z | z
          · exact hok y z
          · rw [List.mem_singleton.mp z]
            exact ⟨RM.Ok.first hi hq hqe (by omega) hqi, Nat.le_refl _, Nat.le_refl _⟩
        · rw [List.length_append]
          simp only [List.length_cons, List.length_nil]
          omega
        · intro n' hn' hne
          rw [take_snoc hn] at hn'
          rcases List.mem_append.mp hn' with z | z
          · obtain ⟨y, hy, h2⟩ := hcl n' z hne
            exact ⟨y, List.mem_append_left _ hy, h2⟩
          · rw [List.mem_singleton.mp z]
            exact ⟨_, List.mem_append_right _ (List.mem_singleton.mpr rfl), rfl, rfl⟩
    · rintro σ H4 ⟨⟨mk, pl, rfl⟩, x4, kb4, k34, l, hl, hok, hll, hcl⟩
      have tk : (standL ws (ws.getD i []) 0).take ys.length = standL ws (ws.getD i []) 0 := by rw [← hpr.length, List.take_length]
      rw [tk] at hcl
      refine ⟨_, rfl, k fo l _ hfo x4 kb4 hl hok (fun n j hn hj hji => hcl n hn ?_) (fun n hn hlt => hcl n hn ?_) (by omega)⟩
      · obtain ⟨q, rest, e, hq, hqe, hle, hmin⟩ := first_pl (Nat.zero_le _) hn
        rw [e]
        have := hmin j (by omega) hj
        simp only [List.head?_cons, ne_eq, Option.some.injEq]
        omega
      · obtain ⟨q, rest, e, hq, hqe, hle, hmin⟩ := first_pl (Nat.zero_le _) hn
        rw [e]
        simp only [List.head?_cons, ne_eq, Option.some.injEq]
        rintro rfl
        have := congrArg List.length hqe
        simp only [cut, List.drop_zero, List.length_take] at this
        omega
end
end L2


set_option Elab.async false
set_option linter.all false
set_option maxRecDepth 100000
set_option maxHeartbeats 2000000
namespace L2
open PySem PySem.Spec PyProof.Rows Tw
seal PSs PS PE PT PW PA PG PGs PI PC
/-! ### the order of texts -/
theorem w_le_lt {a b c : W} (h : ¬ b < a) (k : b < c) : a < c := List.lt_of_le_of_lt (List.not_lt.mp h) k
theorem pre_ge : ∀ {t v : W}, t <+: v → ¬ v < t
  | [], v, _ => List.not_lt_nil v
  | c :: t, v, h => by
    obtain ⟨r, rfl⟩ := h
    rw [List.cons_append, List.cons_lt_cons_iff]
    rintro (z | ⟨_, z⟩)
    · exact Nat.lt_irrefl _ z
    · exact pre_ge (List.prefix_append t r) z
theorem pre_mid : ∀ {t u v : W}, ¬ u < t → ¬ v < u → t <+: v → t <+: u
  | [], u, _, _, _, _ => List.nil_prefix
  | c :: t, u, v, h1, h2, h => by
    obtain ⟨r, rfl⟩ := h
    cases u with
    | nil => exact absurd (List.nil_lt_cons c t) h1
    | cons d u =>
      rw [List.cons_lt_cons_iff] at h1
      rw [List.cons_append, List.cons_lt_cons_iff] at h2
      have e : d = c := by
        have := fun z => h1 (.inl z)
        have := fun z => h2 (.inl z)
        omega
      subst e
      have h3 : ¬ u < t := fun z => h1 (.inr ⟨rfl, z⟩)
      have h4 : ¬ t ++ r < u := fun z => h2 (.inr ⟨rfl, z⟩)
      obtain ⟨r', e⟩ := pre_mid h3 h4 (List.prefix_append t r)
      exact ⟨r', by rw [List.cons_append, e]⟩
/-- in order -/
def Up (us : List W) : Prop := ∀ i j, i ≤ j → j < us.length → ¬ us.getD j [] < us.getD i []
theorem InOrd.up {ws : List W} {ms : List Nat} (h : InOrd ws ms) : Up (ms.map fun i => ws.getD i []) := fun i j hij hj => by
  rw [List.length_map] at hj
  rcases Nat.lt_or_ge i j with z | z
  · have := List.pairwise_iff_getElem.mp h.2 i j (by omega) hj z
    simpa [show i < ms.length by omega, hj] using this
  · cases Nat.le_antisymm hij z
    exact List.lt_irrefl _
/-- how many are below -/
def Below (us : List W) (t : W) (n : Nat) : Prop := n ≤ us.length ∧ (∀ i, i < n → us.getD i [] < t) ∧ ∀ i, n ≤ i → i < us.length → ¬ us.getD i [] < t
section
variable {P : Program} {w : World} {K : PySem.W.Frag} {mg : Str → Option Value} {base : Heap} {C : Addr}
def spBelow (K : PySem.W.Frag) : Sp := fun vs H Q _ => ∃ (a : Addr) (us : List W) (t : W), vs = [.ref a, sv t] ∧ SqL K H a (us.map sv) ∧ us.length ≤ 10000 ∧ Up us ∧ ∀ n, Below us t n → Q (.int (n : Int)) H
theorem ok_count_below (D : Def K mg "count_below" "count_below" Pl.s_count_below ["values", "value"]) (B : Bare mg) : Cal P w K mg base CX0 1 "count_below" ["values", "value"] (spBelow K) := by
  have sc : FnScope ["values", "value", "low", "high", "middle"] ["values", "value"] (defScope Pl.s_count_below) := ⟨rfl, rfl, rfl, by decide +kernel, rfl, by decide +kernel, by decide +kernel⟩
  refine D.cal fun f fd F => F.ok sc (fun vs H Q E h => ?_) (fun cdv A outer s H vs Q E hr h => ?_)
  · obtain ⟨_, _, _, rfl, _⟩ := h
    rfl
  · obtain ⟨a, us, t, rfl, hq, hl, up, k⟩ := h
    refine ⟨_, pss_cons (ps_set (i := 2) sc.nd rfl (Or.inl rfl) pe_int)
      (pss_cons (ps_set (i := 3) sc.nd rfl (Or.inl rfl) (pe_callB call_len_seq (by rfl) B.len PySem.boot_len (pa_cons (pv 0) pa_nil)))
      (pss_cons (ps_while PassesOwn.never (pt_cmpR op_lt (pv 2) (pv 3) (nomark _))
        (pss_cons (ps_set (i := 4) sc.nd rfl (Or.inl rfl) (pe_op op_fdiv (pe_op op_add (pv 2) (pv 3)) pe_int))
        (pss_one (ps_if (pt_cmpR op_lt_str (pe_ix (r := rIxL K) ix_list (pv 0) (pv 4) (fun _ _ => rfl)) (pv 1) (nomark _))
          (pss_one (ps_set (i := 2) sc.nd rfl (Or.inl rfl) (pe_op op_add (pv 4) pe_int)))
          (pss_one (ps_set (i := 3) sc.nd rfl (Or.inl rfl) (pv 4)))))))
      (pss_one (ps_ret (pv 2))))), ?_⟩
    refine ⟨_, rfl, a, _, rfl, .inl hq, ?_⟩
    rw [List.length_map]
    refine while_by (fun σ H2 => ∃ (lo hi : Nat) (mi : Option V), σ = [some (.ref a), some (sv t), some (.int (lo : Int)), some (.int (hi : Int)), mi] ∧ H2 = H ∧ lo ≤ hi ∧ hi ≤ us.length ∧ (∀ i, i < lo → us.getD i [] < t) ∧ ∀ i, hi ≤ i → i < us.length → ¬ us.getD i [] < t)
      (fun σ _ => match σ with | [_, _, some (.int lo), some (.int hi), _] => (hi - lo).toNat | _ => 0) ⟨0, us.length, none, rfl, rfl, Nat.zero_le _, Nat.le_refl _, fun i hi => absurd hi (Nat.not_lt_zero _), fun i h1 h2 => absurd h2 (by omega)⟩ ?_ ?_
    · rintro σ H2 ⟨lo, hi, mi, rfl, rfl, h1, h2, h3, h4⟩
      refine ⟨_, rfl, _, rfl, _, _, rfl, rfl, _, rfl, ?_⟩
      by_cases hlt : lo < hi
      · refine iteT' (by simpa using hlt) ?_
        have em : ((lo : Int) + (hi : Int)) / 2 = (((lo + hi) / 2 : Nat) : Int) := by omega
        have hmid : (lo + hi) / 2 < us.length := by omega
        refine ⟨_, rfl, _, rfl, _, _, rfl, rfl, _, _, rfl, rfl, ⟨by decide, by decide⟩, ?_⟩
        have e4 : (some (some (V.int (((lo : Int) + (hi : Int)) / 2))) : Option (Option V)) = some (some (.int (((lo + hi) / 2 : Nat) : Int))) := by rw [em]
        refine ⟨_, rfl, _, e4, a, _, _, sv (us.getD ((lo + hi) / 2) []), rfl, rfl, hq, atI_nat (by rw [List.getElem?_map]; simp [hmid]), _, rfl, _, _, rfl, rfl, _, rfl, ?_⟩
        have es : ((st (us.getD ((lo + hi) / 2) [])).cps.toList < (st t).cps.toList) = (us.getD ((lo + hi) / 2) [] < t) := rfl
        by_cases hs : us.getD ((lo + hi) / 2) [] < t
        · refine iteT' (by rw [decide_eq_true_iff, es]; exact hs) ?_
          refine ⟨_, e4, _, _, rfl, rfl, ⟨(lo + hi) / 2 + 1, hi, _, rfl, rfl, by omega, h2, fun i hi' => ?_, h4⟩, ?_⟩
          · exact w_le_lt (up i ((lo + hi) / 2) (by omega) hmid) hs
          · show ((hi : Int) - _).toNat < ((hi : Int) - (lo : Int)).toNat
            omega
        · refine iteF' (by rw [decide_eq_true_iff, es]; exact hs) ?_
          refine ⟨_, e4, ⟨lo, (lo + hi) / 2, _, rfl, rfl, by omega, by omega, h3, fun i h5 h6 z => ?_⟩, ?_⟩
          · exact hs (w_le_lt (up _ i h5 h6) z)
          · show ((((lo + hi) / 2 : Nat) : Int) - (lo : Int)).toNat < ((hi : Int) - (lo : Int)).toNat
            omega
      · refine iteF' (by simpa using hlt) ⟨_, rfl, k lo ⟨by omega, h3, fun i h5 h6 => h4 i (by omega) h6⟩⟩
    · rintro σ H' Q1 Q2 hQ ⟨v, e1, v2, e2, i, j, e3, e4, b, e5, q⟩
      exact ⟨v, e1, v2, e2, i, j, e3, e4, b, e5, hQ _ _ q⟩
end
end L2


set_option Elab.async false
set_option linter.all false
set_option maxRecDepth 100000
set_option maxHeartbeats 2000000
namespace L2
open PySem PySem.Spec PyProof.Rows Tw
seal PSs PS PE PT PW PA PG PGs PI PC
section
variable {P : Program} {w : World} {K : PySem.W.Frag} {mg : Str → Option Value} {base : Heap} {C : Addr}
theorem begun_all {ws : List W} {ms : List Nat} {t : W} {c n : Nat} (ho : InOrd ws ms) (hb : Below (ms.map fun i => ws.getD i []) t c) (hn : c + n ≤ ms.length) (h1 : ∀ i, c ≤ i → i < c + n → t <+: ws.getD (ms.getD i 0) []) (h2 : c + n < ms.length → ¬ t <+: ws.getD (ms.getD (c + n) 0) []) (j : Nat) :
    j ∈ (ms.drop c).take n ↔ j < ws.length ∧ t <+: ws.getD j [] := by
  have us : ∀ i, i < ms.length → (ms.map fun i => ws.getD i []).getD i [] = ws.getD (ms.getD i 0) [] := fun i hi => by simp [hi]
  constructor
  · intro h
    obtain ⟨i, hi, e⟩ := List.mem_iff_getElem.mp h
    rw [List.length_take, List.length_drop] at hi
    have e' : ms.getD (c + i) 0 = j := by
      rw [← e, List.getElem_take, List.getElem_drop, List.getD_eq_getElem?_getD, List.getElem?_eq_getElem (by omega)]
      rfl
    have := h1 (c + i) (by omega) (by omega)
    rw [e'] at this
    exact ⟨List.mem_range.mp (ho.1.mem_iff.mp (List.mem_of_mem_drop (List.mem_of_mem_take h))), this⟩
  · rintro ⟨hj, hp⟩
    obtain ⟨i, hi, e⟩ := List.mem_iff_getElem.mp (ho.1.mem_iff.mpr (List.mem_range.mpr hj))
    have e' : ms.getD i 0 = j := by rw [List.getD_eq_getElem?_getD, List.getElem?_eq_getElem hi]; exact e
    have ui := us i hi
    rw [e'] at ui
    have hc : c ≤ i := by
      rcases Nat.lt_or_ge i c with z | z
      · have := hb.2.1 i z
        rw [ui] at this
        exact absurd this (pre_ge hp)
      · exact z
    have hl : i < c + n := by
      rcases Nat.lt_or_ge i (c + n) with z | z
      · exact z
      · exfalso
        refine h2 (by omega) ?_
        rw [← us (c + n) (by omega)]
        refine pre_mid (hb.2.2 _ (by omega) (by rw [List.length_map]; omega)) (ho.up (c + n) i z (by rw [List.length_map]; exact hi)) ?_
        rw [ui]
        exact hp
    refine List.mem_iff_getElem.mpr ⟨i - c, by rw [List.length_take, List.length_drop]; omega, ?_⟩
    rw [List.getElem_take, List.getElem_drop, ← e]
    congr 1
    omega
def spBegun (K : PySem.W.Frag) : Sp := fun vs H Q _ => ∃ (a b : Addr) (ws : List W) (ms : List Nat) (t : W), vs = [.ref a, .ref b, sv t] ∧ SqL K H a ((ms.map fun i => ws.getD i []).map sv) ∧ SqL K H b (intsV ms) ∧ InOrd ws ms ∧ ws.length ≤ 10000 ∧
  ∀ D ps, H D = none → ps.length ≤ ws.length → (∀ j, j ∈ ps ↔ j < ws.length ∧ t <+: ws.getD j []) → Q (.ref D) (upd H D (.lst (intsV ps)))
theorem ok_places_begun (D : Def K mg "places_begun" "places_begun" Pl.s_places_begun ["words", "order", "tail"]) (B : Bare mg) (CB : Cal P w K mg base CX0 1 "count_below" ["values", "value"] (spBelow K)) : Cal P w K mg base CX0 2 "places_begun" ["words", "order", "tail"] (spBegun K) := by
  have sc : FnScope ["words", "order", "tail", "turn", "found"] ["words", "order", "tail"] (defScope Pl.s_places_begun) := ⟨rfl, rfl, rfl, by decide +kernel, rfl, by decide +kernel, by decide +kernel⟩
  refine D.cal fun f fd F => F.ok sc (fun vs H Q E h => ?_) (fun cdv A outer s H vs Q E hr h => ?_)
  · obtain ⟨_, _, _, _, _, rfl, _⟩ := h
    rfl
  · obtain ⟨a, b, ws, ms, t, rfl, ha, hb, ho, hl, k⟩ := h
    have len : ms.length = ws.length := by rw [ho.1.length_eq, List.length_range]
    refine ⟨_, pss_cons (ps_set (i := 3) sc.nd rfl (Or.inl rfl) (pe_callF CB hr (pa_cons (pv 0) (pa_cons (pv 2) pa_nil)) pass0))
      (pss_cons (ps_set (i := 4) sc.nd rfl (Or.inl rfl) (pe_lst pa_nil))
      (pss_cons (ps_while PassesOwn.never (PW.pt (pw_and (pt_cmpR op_lt (pv 3) (pe_callB call_len_seq (by rfl) B.len PySem.boot_len (pa_cons (pv 0) pa_nil)) (nomark _)) (pw_and1 (pt_val (pe_bm PySem.F.plainAttrs_str PySem.F.slot_str_startswith PySem.F.type_str_startswith mt_starts (pe_ix (r := rIxL K) ix_list (pv 0) (pv 3) (fun _ _ => rfl)) (pa_cons (pv 2) pa_nil))))))
        (pss_cons (ps_expr (pe_bm PySem.F.plainAttrs_list PySem.F.slot_list_append PySem.F.type_list_append mt_append (pv 4) (pa_cons (pe_ix (r := rIxL K) ix_list (pv 1) (pv 3) (fun _ _ => rfl)) pa_nil)))
        (pss_one (ps_set (i := 3) sc.nd rfl (Or.inl rfl) (pe_op op_add (pv 3) pe_int)))))
      (pss_one (ps_ret (pv 4))))), ?_⟩
    refine ⟨_, rfl, _, rfl, a, _, t, rfl, ha, by rw [List.length_map, len]; exact hl, ho.up, fun c hc => ?_⟩
    refine ⟨by show 0 ≤ sizeLine; exact Nat.zero_le _, fun fo hfo => ?_⟩
    have hcl : c ≤ ms.length := by have := hc.1; rwa [List.length_map] at this
    refine ⟨fun m σ H2 => ∃ n : Nat, m = ms.length - (c + n) ∧ c + n ≤ ms.length ∧ σ = [some (.ref a), some (.ref b), some (sv t), some (.int ((c + n : Nat) : Int)), some (.ref fo)] ∧ H2 = upd H fo (.lst (intsV ((ms.drop c).take n))) ∧ ∀ i, c ≤ i → i < c + n → t <+: ws.getD (ms.getD i 0) [],
      ⟨_, 0, rfl, hcl, rfl, rfl, fun i h1 h2 => absurd h2 (by omega)⟩, ?_⟩
    rintro m σ H2 ⟨n, rfl, hn, rfl, rfl, hall⟩
    have x2 : Ext H (upd H fo (.lst (intsV ((ms.drop c).take n)))) := Ext.new hfo
    have ha2 := x2.sqL ha
    have hb2 := x2.sqL hb
    have pl : ((ms.drop c).take n).length ≤ ws.length := by rw [List.length_take, List.length_drop]; omega
    refine ⟨_, rfl, _, rfl, a, _, rfl, .inl ha2, _, _, rfl, rfl, _, rfl, ?_⟩
    rw [List.length_map, List.length_map]
    by_cases hlt : c + n < ms.length
    · refine iteT' (by rw [decide_eq_true_iff]; omega) ?_
      have hg : ws.getD (ms.getD (c + n) 0) [] = ws.getD (ms.getD (c + n) 0) [] := rfl
      refine ⟨_, rfl, _, rfl, a, _, _, sv (ws.getD (ms.getD (c + n) 0) []), rfl, rfl, ha2, atI_nat (by rw [List.getElem?_map, List.getElem?_map]; simp [hlt]), rfl, _, rfl, _, _, rfl, rfl, _, rfl, ?_⟩
      by_cases hp : t.isPrefixOf (ws.getD (ms.getD (c + n) 0) []) = true
      · rw [hp]
        refine iteT ⟨fun σ H3 => ∃ n' : Nat, n' = n + 1 ∧ σ = [some (.ref a), some (.ref b), some (sv t), some (.int ((c + n' : Nat) : Int)), some (.ref fo)] ∧ H3 = upd H fo (.lst (intsV ((ms.drop c).take n'))), ?_, ?_⟩
        · rintro σ H3 ⟨_, rfl, rfl, rfl⟩
          refine ⟨_, (by omega : ms.length - (c + (n + 1)) < ms.length - (c + n)), n + 1, rfl, by omega, rfl, rfl, fun i h1 h2 => ?_⟩
          rcases Nat.lt_or_ge i (c + n) with z | z
          · exact hall i h1 z
          · cases (show i = c + n by omega)
            exact List.isPrefixOf_iff_prefix.mp hp
        · refine ⟨_, rfl, .inl ⟨rfl, _, SqL.of upd_same⟩, _, rfl, _, rfl, b, _, _, .int ((ms.getD (c + n) 0 : Nat) : Int), rfl, rfl, hb2, atI_nat (by rw [List.getElem?_map]; simp [hlt]), fo, _, _, rfl, rfl, upd_same, by rw [List.length_map]; exact small1000000 (by omega), ?_⟩
          refine ⟨_, rfl, _, _, rfl, rfl, n + 1, rfl, rfl, ?_⟩
          rw [upd_upd]
          congr 2
          rw [take_snoc (show (ms.drop c)[n]? = some (ms.getD (c + n) 0) by rw [List.getElem?_drop, List.getD_eq_getElem?_getD, List.getElem?_eq_getElem hlt]; rfl), intsV, intsV, List.map_append]
          rfl
      · rw [Bool.not_eq_true _ |>.mp hp]
        refine iteF ⟨_, rfl, k fo _ hfo pl (begun_all ho hc hn hall fun _ z => hp (List.isPrefixOf_iff_prefix.mpr z))⟩
    · refine iteF' (by rw [decide_eq_true_iff]; omega) (iteF ⟨_, rfl, k fo _ hfo pl (begun_all ho hc hn hall fun z => absurd z hlt)⟩)
end
end L2


set_option Elab.async false
set_option linter.all false
set_option maxRecDepth 100000
set_option maxHeartbeats 2000000
namespace L2
open PySem PySem.Spec PyProof.Rows Tw
seal PSs PS PE PT PW PA PG PGs PI PC
theorem cutL_tail' (t : W) (m : Nat) (h : m ≤ t.length) : cutL t (some (m : Int)) none = t.drop m := by
  unfold cutL
  rw [HT.sIx_nat, Nat.min_eq_left h]
  exact List.take_of_length_le (by rw [List.length_drop]; exact Nat.le_refl _)
section
variable {P : Program} {w : World} {K : PySem.W.Frag} {mg : Str → Option Value} {base : Heap} {C : Addr}
/-- the words and places in order -/
def OrdAt (K : PySem.W.Frag) (H : Hp) (a b : Addr) (ws : List W) (ms : List Nat) : Prop := SqL K H a ((ms.map fun i => ws.getD i []).map sv) ∧ SqL K H b (intsV ms) ∧ InOrd ws ms
theorem OrdAt.ext {H H' : Hp} {a b : Addr} {ws : List W} {ms : List Nat} (h : OrdAt K H a b ws ms) (x : Ext H H') : OrdAt K H' a b ws ms := ⟨x.sqL h.1, x.sqL h.2.1, h.2.2⟩
def spBehind (K : PySem.W.Frag) (C : Addr) : Sp := fun vs H Q _ => ∃ (a g wa oa o : Addr) (ws : List W) (d : Nat → Addr) (f : W → Addr) (ms : List Nat) (r : RM), vs = [.ref a, .ref g, .ref wa, .ref oa, .ref o] ∧ CodeL H a ws ∧ GR H g ws d f ∧ OrdAt K H wa oa ws ms ∧ RestAt C H o r ∧ r.Ok ws ∧
  ∀ D l H', H D = none → Ext H H' → Kb g H H' → FoundAt C H' D l → (∀ x ∈ l, x.2.Ok ws ∧ x.2.A.length ≤ max r.A.length r.B.length + 1 ∧ x.2.B.length ≤ max r.A.length r.B.length + 1) →
    (∀ n, n ∈ standL ws (ws.getD r.p []) r.m → ∃ x ∈ l, x.2.p = r.p ∧ x.2.m = r.m + n) → (∀ j, j < ws.length → r.suf ws <+: ws.getD j [] → ∃ x ∈ l, x.2.p = j ∧ x.2.m = (r.suf ws).length) → l.length ≤ 20000 → Q (.ref D) H'
theorem ok_rests_behind (D : Def K mg "rests_behind" "rests_behind" Pl.s_rests_behind ["code", "groups", "words", "order", "rest"]) (B : Bare mg) (CS : Cal P w K mg base CX0 1 "standing" ["groups", "text", "mark"] (spStanding K))
    (CB : Cal P w K mg base CX0 2 "places_begun" ["words", "order", "tail"] (spBegun K)) (O : RestMk P w K mg base C) (RC : RestC P w K mg base C) : Cal P w K mg base CX0 3 "rests_behind" ["code", "groups", "words", "order", "rest"] (spBehind K C) := by
  have sc : FnScope ["code", "groups", "words", "order", "rest", "word", "found", "mark", "places", "tail", "place"] ["code", "groups", "words", "order", "rest"] (defScope Pl.s_rests_behind) := ⟨rfl, rfl, rfl, by decide +kernel, rfl, by decide +kernel, by decide +kernel⟩
  refine D.cal fun f fd F => F.ok sc (fun vs H Q E h => ?_) (fun cdv A outer s H vs Q E hr h => ?_)
  · obtain ⟨_, _, _, _, _, _, _, _, _, _, rfl, _⟩ := h
    rfl
  · obtain ⟨a, g, wa, oa, o, ws, d, f, ms, r, rfl, hC, G, hO, hR, hok, k⟩ := h
    have hr1 : Room 1 _ := hr.mono (by decide)
    refine ⟨_, pss_cons (ps_set (i := 5) sc.nd rfl (Or.inl rfl) (pe_ix (r := rIxL K) ix_list (pv 0) (pe_fld (pv 4) rfl) (fun _ _ => rfl)))
      (pss_cons (ps_set (i := 6) sc.nd rfl (Or.inl rfl) (pe_lst pa_nil))
      (pss_cons (ps_for PassesOwn.never rfl (pi_list (pe_callF CS hr1 (pa_cons (pv 1) (pa_cons (pv 5) (pa_cons (pe_fld (pv 4) rfl) pa_nil))) pass0))
        (pg_tupK (K := K) (n := 2) rfl rfl (pgs_cons (pg_name (i := 7) sc.nd rfl (Or.inl rfl)) (pgs_cons (pg_name (i := 8) sc.nd rfl (Or.inl rfl)) pgs_nil)))
        (pss_one (ps_expr (pe_bm PySem.F.plainAttrs_list PySem.F.slot_list_append PySem.F.type_list_append mt_append (pv 6) (pa_cons (pe_rest O hr (pa_cons (pe_fld (pv 4) rfl) (pa_cons (pv 7) (pa_cons (pe_fld (pv 4) rfl) (pa_cons (pe_tup (pa_cons (pe_ix (r := rIxL K) ix_list (pv 8) pe_int (fun _ _ => rfl)) (pa_cons (pe_fld (pv 4) rfl) pa_nil))) pa_nil))))) pa_nil)))))
      (pss_cons (ps_set (i := 9) sc.nd rfl (Or.inl rfl) (pe_slice (r := rSlS) sl_str (pv 5) (po_some (pe_fld (pv 4) rfl)) po_none))
      (pss_cons (ps_for PassesOwn.never rfl (pi_list (pe_callF CB hr (pa_cons (pv 2) (pa_cons (pv 3) (pa_cons (pv 9) pa_nil))) pass0)) (pg_name (i := 10) sc.nd rfl (Or.inl rfl))
        (pss_one (ps_expr (pe_bm PySem.F.plainAttrs_list PySem.F.slot_list_append PySem.F.type_list_append mt_append (pv 6) (pa_cons (pe_rest O hr (pa_cons (pv 10) (pa_cons (pe_callB call_len_str (by rfl) B.len PySem.boot_len (pa_cons (pv 9) pa_nil)) (pa_cons (pe_tup (pa_cons (pv 10) (pa_cons (pe_fld (pv 4) rfl) pa_nil))) (pa_cons (pe_fld (pv 4) rfl) pa_nil))))) pa_nil)))))
      (pss_one (ps_ret (pv 6))))))), ?_⟩
    obtain ⟨dx, va, vb, hR, cA, cB⟩ := hR
    have hxl : (ws.getD r.p []).length ≤ 10000 := hC.short _ (by rw [List.getD_eq_getElem?_getD, List.getElem?_eq_getElem hok.hp]; simp)
    refine ⟨_, rfl, _, rfl, o, C, dx, _, .int (r.p : Int), rfl, hR, RC.cls, RC.n1, rfl, a, _, (r.p : Int), sv (ws.getD r.p []), rfl, rfl, SqL.of hC.at_, atI_nat (by rw [List.getElem?_map]; simp [hok.hp]), ?_⟩
    refine ⟨by show 0 ≤ sizeLine; exact Nat.zero_le _, fun fo hfo => ?_⟩
    have x1 : Ext H (upd H fo (.lst [])) := Ext.new hfo
    have hfg : fo ≠ g := fun z => by
      rcases G.gd with q | ⟨_, q⟩ <;> rw [← z, hfo] at q <;> cases q
    refine ⟨_, rfl, _, rfl, _, rfl, o, C, dx, _, .int (r.m : Int), rfl, x1.ins hR, RC.cls, RC.n2, rfl, ?_⟩
    refine ⟨g, ws, d, f, ws.getD r.p [], r.m, rfl, x1.gr G, hC.few, by omega, hok.hm, fun D H3 ys hD x3 kb hys hpr => ⟨D, rfl, ⟨_, SqL.of hys⟩, ?_⟩⟩
    have hfo3 : H3 fo = some (.lst []) := kb fo _ hfg upd_same
    have hyl : ys.length ≤ 10000 := by
      rw [← hpr.length]
      have := standL_len ws (ws.getD r.p []) r.m
      have := hC.few
      omega
    have hDfo : D ≠ fo := (ne_of_none upd_same hD).symm
    have x13 := x1.trans x3
    have kb1 : Kb g H H3 := (Kb.refl.newer hfo).trans kb
    refine for_list (K := K) (a := D) (xs := ys) (fun j σ H4 => (∃ mk pl : Option V, σ = [some (.ref a), some (.ref g), some (.ref wa), some (.ref oa), some (.ref o), some (sv (ws.getD r.p [])), some (.ref fo), mk, pl, none, none]) ∧ Ext H H4 ∧ Kb g H H4 ∧ Kb fo H3 H4 ∧
      ∃ l, FoundAt C H4 fo l ∧ (∀ x ∈ l, x.2.Ok ws ∧ x.2.A.length ≤ max r.A.length r.B.length + 1 ∧ x.2.B.length ≤ max r.A.length r.B.length + 1) ∧ l.length = j ∧ ∀ n ∈ (standL ws (ws.getD r.p []) r.m).take j, ∃ x ∈ l, x.2.p = r.p ∧ x.2.m = r.m + n)
      ⟨⟨_, _, rfl⟩, x13, kb1, Kb.refl, [], ⟨hfo3, fun x hx => nomatch hx⟩, fun x hx => (nomatch hx), rfl, fun n hn => by simp at hn⟩ (fun j σ H4 _ h => SqL.of (h.2.2.2.1 D _ hDfo hys)) ?_ ?_
    · rintro j y σ H4 hy ⟨⟨mk, pl, rfl⟩, x4, kb4, k34, l, hl, hlo, hll, hcl⟩
      have hj : j < ys.length := (List.getElem?_eq_some_iff.mp hy).1
      obtain ⟨n, hn, t, rfl, ht⟩ := paired_get hpr hy
      have hnm := List.mem_of_getElem? hn
      obtain ⟨q, rest, e, hq, hqe, hle, hmin⟩ := first_pl hok.hm hnm
      have hcw : cut (ws.getD r.p []) r.m n ∈ ws := ((mem_standL ws _ r.m n hok.hm).mp hnm).1
      have hpl := kb4 _ _ (fun z => by rcases G.gd with q' | ⟨_, q'⟩ <;> rw [← z, G.lst _ hcw] at q' <;> cases q') (G.lst _ hcw)
      rw [e] at hpl
      have ht4 := k34 t _ (ne_of ht hfo3 (by simp)) ht
      have hR4 := x4.ins hR
      refine ⟨t, _, rfl, SqT.of ht4, rfl, _, _, rfl, _, _, rfl, rfl, ?_⟩
      refine ⟨_, rfl, .inl ⟨rfl, _, SqL.of hl.1⟩, _, rfl, o, C, dx, _, .int (r.p : Int), rfl, hR4, RC.cls, RC.n1, rfl, _, rfl, _, rfl, o, C, dx, _, va, rfl, hR4, RC.cls, RC.n3, rfl, ?_⟩
      refine ⟨_, rfl, _, _, 0, .int (q : Int), rfl, rfl, SqL.of hpl, atI_nat (j := 0) rfl, _, rfl, o, C, dx, _, vb, rfl, hR4, RC.cls, RC.n4, rfl, by show 2 ≤ sizeLine; decide, fun t1 ht1 => ?_⟩
      have xa : Ext H4 (upd H4 t1 (.tup [.int (q : Int), vb])) := Ext.new ht1
      intro x dx' hx hdx ne
      refine ⟨x, dx', _, _, _, _, rfl, upd_same, rfl, ?_⟩
      have F := found_push (p := r.p) (m := r.m + n) (A := r.A) (B := q :: r.B) hl xa hx hdx ne ((cA.ext x4).ext xa) ⟨t1, vb, rfl, upd_same, (cB.ext x4).ext xa⟩
      have hD7 := (made_rest (C := C) (p := .int (r.p : Int)) (m := .int ((r.m + n : Nat) : Int)) (va := va) (vb := .ref t1) hx hdx ne).lst (xa.lst hl.1)
      rw [← Int.natCast_add]
      refine ⟨fo, _, _, rfl, rfl, hD7, by rw [List.length_map]; exact small1000000 (by omega), ⟨_, _, rfl⟩, ?_, ?_, ?_, l ++ [(x, ⟨r.p, r.m + n, r.A, q :: r.B⟩)], F, ?_, ?_, ?_⟩
      · exact (x4.trans (xa.trans (made_rest hx hdx ne))).over hfo
      · exact ((kb4.newer ht1).trans (kb_made hx hdx ne)).over hfo
      · intro b o hb z
        exact upd_k (((Kb.refl (g := fo)).newer ht1 |>.trans (kb_made hx hdx ne)) b o hb (k34 b o hb z)) hb
      · intro y hy
        rcases List.mem_append.mp hy with z | z
        · exact hlo y z
        · rw [List.mem_singleton.mp z]
          refine ⟨hok.on hq hqe hle, by show r.A.length ≤ _; omega, by show r.B.length + 1 ≤ _; omega⟩
      · rw [List.length_append, hll]
        rfl
      · intro n' hn'
        rw [take_snoc hn] at hn'
        rcases List.mem_append.mp hn' with z | z
        · obtain ⟨y, hy, h2⟩ := hcl n' z
          exact ⟨y, List.mem_append_left _ hy, h2⟩
        · rw [List.mem_singleton.mp z]
          exact ⟨_, List.mem_append_right _ (List.mem_singleton.mpr rfl), rfl, rfl⟩
    · rintro σ H4 ⟨⟨mk, pl, rfl⟩, x4, kb4, k34, l, hl, hlo, hll, hcl⟩
      have tk : (standL ws (ws.getD r.p []) r.m).take ys.length = standL ws (ws.getD r.p []) r.m := by rw [← hpr.length, List.take_length]
      rw [tk] at hcl
      have hR4 := x4.ins hR
      refine ⟨_, rfl, _, rfl, o, C, dx, _, .int (r.m : Int), rfl, hR4, RC.cls, RC.n2, rfl, _, rfl, ws.getD r.p [], rfl, small_line (by omega), ?_⟩
      rw [cutL_tail' _ _ hok.hm]
      have hO4 := hO.ext x4
      have hsl : (r.suf ws).length ≤ 10000 := by rw [RM.suf, List.length_drop]; omega
      refine ⟨_, rfl, _, rfl, _, rfl, wa, oa, ws, ms, r.suf ws, rfl, hO4.1, hO4.2.1, hO4.2.2, hC.few, fun D2 ps hD2 hpl hps => ⟨D2, rfl, ⟨_, SqL.of upd_same⟩, ?_⟩⟩
      have hfD2 : D2 ≠ fo := (ne_of_none hl.1 hD2).symm
      have x5 : Ext H4 (upd H4 D2 (.lst (intsV ps))) := Ext.new hD2
      refine for_list (K := K) (a := D2) (xs := intsV ps) (fun j σ H6 => (∃ pp : Option V, σ = [some (.ref a), some (.ref g), some (.ref wa), some (.ref oa), some (.ref o), some (sv (ws.getD r.p [])), some (.ref fo), mk, pl, some (sv (r.suf ws)), pp]) ∧ Ext H H6 ∧ Kb g H H6 ∧ H6 D2 = some (.lst (intsV ps)) ∧
        ∃ l2, FoundAt C H6 fo (l ++ l2) ∧ (∀ x ∈ l2, x.2.Ok ws ∧ x.2.A.length ≤ max r.A.length r.B.length + 1 ∧ x.2.B.length ≤ max r.A.length r.B.length + 1) ∧ l2.length = j ∧ ∀ p ∈ ps.take j, ∃ x ∈ l2, x.2.p = p ∧ x.2.m = (r.suf ws).length)
        ⟨⟨_, rfl⟩, x4.trans x5, kb4.newer hD2, upd_same, [], by rw [List.append_nil]; exact hl.ext x5, fun x hx => (nomatch hx), rfl, fun n hn => by simp at hn⟩ (fun j σ H6 _ h => SqL.of h.2.2.2.1) ?_ ?_
      · rintro j y σ H6 hy ⟨⟨pp, rfl⟩, x6, kb6, hd6, l2, hl2, hlo2, hll2, hcl2⟩
        rw [intsV, List.getElem?_map] at hy
        obtain ⟨p, hp, rfl⟩ := Option.map_eq_some_iff.mp hy
        have hj : j < ps.length := (List.getElem?_eq_some_iff.mp hp).1
        obtain ⟨hpw, hpre⟩ := (hps p).mp (List.mem_of_getElem? hp)
        have hR6 := x6.ins hR
        have hfew := hC.few
        refine ⟨_, rfl, .inl ⟨rfl, _, SqL.of hl2.1⟩, _, rfl, _, rfl, st (r.suf ws), rfl, by rw [st_len]; exact small_line (by omega), ?_⟩
        rw [st_len]
        refine ⟨_, rfl, _, rfl, o, C, dx, _, vb, rfl, hR6, RC.cls, RC.n4, rfl, by show 2 ≤ sizeLine; decide, fun t1 ht1 => ?_⟩
        have xa : Ext H6 (upd H6 t1 (.tup [.int (p : Int), vb])) := Ext.new ht1
        refine ⟨_, rfl, o, C, dx, _, va, rfl, xa.ins hR6, RC.cls, RC.n3, rfl, ?_⟩
        intro x dx' hx hdx ne
        refine ⟨x, dx', _, _, _, _, rfl, upd_same, rfl, ?_⟩
        have F := found_push (p := p) (m := (r.suf ws).length) (A := p :: r.B) (B := r.A) hl2 xa hx hdx ne ⟨t1, vb, rfl, upd_same, (cB.ext x6).ext xa⟩ ((cA.ext x6).ext xa)
        have hD7 := (made_rest (C := C) (p := .int (p : Int)) (m := .int (((r.suf ws).length : Nat) : Int)) (va := .ref t1) (vb := va) hx hdx ne).lst (xa.lst hl2.1)
        refine ⟨fo, _, _, rfl, rfl, hD7, by rw [List.length_map, List.length_append]; exact small1000000 (by omega), ⟨_, rfl⟩, ?_, ?_, ?_, l2 ++ [(x, ⟨p, (r.suf ws).length, p :: r.B, r.A⟩)], ?_, ?_, ?_, ?_⟩
        · exact (x6.trans (xa.trans (made_rest hx hdx ne))).over hfo
        · exact ((kb6.newer ht1).trans (kb_made hx hdx ne)).over hfo
        · exact upd_k ((made_rest hx hdx ne).lst (xa.lst hd6)) hfD2
        · rw [← List.append_assoc]
          exact F
        · intro y hy
          rcases List.mem_append.mp hy with z | z
          · exact hlo2 y z
          · rw [List.mem_singleton.mp z]
            refine ⟨hok.over hpw rfl (List.isPrefixOf_iff_prefix.mpr hpre), by show r.B.length + 1 ≤ _; omega, by show r.A.length ≤ _; omega⟩
        · rw [List.length_append, hll2]
          rfl
        · intro n' hn'
          rw [take_snoc hp] at hn'
          rcases List.mem_append.mp hn' with z | z
          · obtain ⟨y, hy, h2⟩ := hcl2 n' z
            exact ⟨y, List.mem_append_left _ hy, h2⟩
          · rw [List.mem_singleton.mp z]
            exact ⟨_, List.mem_append_right _ (List.mem_singleton.mpr rfl), rfl, rfl⟩
      · rintro σ H6 ⟨⟨pp, rfl⟩, x6, kb6, hd6, l2, hl2, hlo2, hll2, hcl2⟩
        have hfew := hC.few
        have il : (intsV ps).length = ps.length := List.length_map ..
        refine ⟨_, rfl, k fo (l ++ l2) _ hfo x6 kb6 hl2 (fun x hx => ?_) (fun n hn => ?_) (fun j hj hpre => ?_) (by rw [List.length_append]; omega)⟩
        · rcases List.mem_append.mp hx with z | z
          · exact hlo x z
          · exact hlo2 x z
        · obtain ⟨x, hx, h1⟩ := hcl n hn
          exact ⟨x, List.mem_append_left _ hx, h1⟩
        · obtain ⟨x, hx, h1⟩ := hcl2 j (by rw [il, List.take_length]; exact (hps j).mpr ⟨hj, hpre⟩)
          exact ⟨x, List.mem_append_right _ hx, h1⟩
end
end L2


set_option Elab.async false
set_option linter.all false
set_option maxRecDepth 100000
set_option maxHeartbeats 2000000
namespace L2
open PySem PySem.Spec PyProof.Rows Tw
seal PSs PS PE PT PW PA PG PGs PI PC
theorem valV_some {α : Type} {κ : α → Key} {v : α → V} {k : Key} {u : V} : ∀ {l : List α}, valV (l.map fun a => (κ a, v a)) k = some u → ∃ a ∈ l, κ a = k ∧ v a = u
  | [], h => by simp [valV] at h
  | b :: l, h => by
    rw [List.map_cons] at h
    by_cases e : κ b = k
    · rw [valV_pos (p := (κ b, v b)) e] at h
      exact ⟨b, List.mem_cons_self, e, Option.some.inj h⟩
    · rw [valV_neg (p := (κ b, v b)) e] at h
      obtain ⟨a, ha, h1⟩ := valV_some h
      exact ⟨a, List.mem_cons_of_mem _ ha, h1⟩
theorem valV_of' {α : Type} {κ : α → Key} {v : α → V} : ∀ {l : List α} {a : α}, a ∈ l → (valV (l.map fun a => (κ a, v a)) (κ a)).isSome = true
  | b :: l, a, h => by
    rw [List.map_cons]
    by_cases e : κ b = κ a
    · rw [valV_pos (p := (κ b, v b)) e]; rfl
    · rw [valV_neg (p := (κ b, v b)) e]
      rcases List.mem_cons.mp h with z | z
      · exact absurd (by rw [z]) e
      · exact valV_of' z
section
variable {P : Program} {w : World} {K : PySem.W.Frag} {mg : Str → Option Value} {base : Heap} {C : Addr}
/-- what is known, by numbers -/
abbrev knV (ws : List W) (N : W → Nat) (kl : List (Addr × RM)) : List (Key × V) := kl.map fun x => ((.inl (N (x.2.suf ws) : Int) : Key), V.ref x.1)
abbrev refsV (kl : List (Addr × RM)) : List V := kl.map fun x => V.ref x.1
def spTake1 (C : Addr) : Sp := fun vs H Q _ => ∃ (kn nu fr : Addr) (ws : List W) (N : W → Nat) (kl l : List (Addr × RM)), vs = [.ref kn, .ref nu, .ref fr] ∧ RowsAt H nu ws N ∧ NumFn ws N ∧ H kn = some (.dK (knV ws N kl)) ∧ FoundAt C H fr l ∧ (∀ x ∈ kl, x.2.Ok ws) ∧ (∀ x ∈ l, x.2.Ok ws) ∧ (kl.map fun x => x.2.suf ws).Nodup ∧ kl.length + l.length ≤ 100000 ∧
  ∀ D nw H', H D = none → H' D = some (.lst (refsV nw)) → H' kn = some (.dK (knV ws N (kl ++ nw))) → Kb kn H H' → (∀ x ∈ nw, x ∈ l) → ((kl ++ nw).map fun x => x.2.suf ws).Nodup → (∀ x ∈ l, ∃ y ∈ kl ++ nw, y.2.suf ws = x.2.suf ws) → Q (.ref D) H'
theorem ok_take_new1 (D : Def K mg "take_new" "take_new" Pl.s_take_new ["known", "numbers", "rests"]) (RC : RestC P w K mg base C) : Cal P w K mg base CX0 1 "take_new" ["known", "numbers", "rests"] (spTake1 C) := by
  have sc : FnScope ["known", "numbers", "rests", "fresh", "rest", "number"] ["known", "numbers", "rests"] (defScope Pl.s_take_new) := ⟨rfl, rfl, rfl, by decide +kernel, rfl, by decide +kernel, by decide +kernel⟩
  refine D.cal fun f fd F => F.ok sc (fun vs H Q E h => ?_) (fun cdv A outer s H vs Q E hr h => ?_)
  · obtain ⟨_, _, _, _, _, _, _, rfl, _⟩ := h
    rfl
  · obtain ⟨kn, nu, fr, ws, N, kl, l, rfl, ⟨ps, hnu, hpl, hrow⟩, hN, hkn, hF, hk, hlok, hnd, hsz, k⟩ := h
    have hu := hu_of hr
    refine ⟨_, pss_cons (ps_set (i := 3) sc.nd rfl (Or.inl rfl) (pe_lst pa_nil))
      (pss_cons (ps_for PassesOwn.never rfl (pi_list (pv 2)) (pg_name (i := 4) sc.nd rfl (Or.inl rfl))
        (pss_cons (ps_set (i := 5) sc.nd rfl (Or.inl rfl) (pe_ix (r := rIxL K) ix_list (pe_ix (r := rIxL K) ix_list (pv 1) (pe_fld (pv 4) rfl) (fun _ _ => rfl)) (pe_fld (pv 4) rfl) (fun _ _ => rfl)))
        (pss_one (ps_if (pt_cmp (pc_dnotin hu (pv 5) (pv 0)))
          (pss_cons (ps_dput hu (pv 0) (pv 5) (pv 4) rfl)
          (pss_one (ps_expr (pe_bm PySem.F.plainAttrs_list PySem.F.slot_list_append PySem.F.type_list_append mt_append (pv 3) (pa_cons (pv 4) pa_nil))))) pss_nil))))
      (pss_one (ps_ret (pv 3)))), ?_⟩
    refine ⟨by show 0 ≤ sizeLine; exact Nat.zero_le _, fun fo hfo => ?_⟩
    have x1 : Ext H (upd H fo (.lst [])) := Ext.new hfo
    have knfo : kn ≠ fo := ne_of_none hkn hfo
    have frfo : fr ≠ fo := ne_of_none hF.1 hfo
    refine ⟨_, rfl, fr, rfl, ⟨_, SqL.of (x1.lst hF.1)⟩, ?_⟩
    refine for_list (K := K) (a := fr) (xs := l.map fun x => V.ref x.1) (fun j σ H4 => (∃ o1 o2 : Option V, σ = [some (.ref kn), some (.ref nu), some (.ref fr), some (.ref fo), o1, o2]) ∧ Kb kn H H4 ∧ ∃ nw, H4 fo = some (.lst (refsV nw)) ∧ H4 kn = some (.dK (knV ws N (kl ++ nw))) ∧ nw.length ≤ j ∧ (∀ x ∈ nw, x ∈ l) ∧ ((kl ++ nw).map fun x => x.2.suf ws).Nodup ∧ ∀ x ∈ l.take j, ∃ y ∈ kl ++ nw, y.2.suf ws = x.2.suf ws)
      ⟨⟨_, _, rfl⟩, Kb.refl.newer hfo, [], upd_same, by rw [List.append_nil]; exact upd_keep hkn hfo, Nat.le_refl _, fun x hx => (nomatch hx), by rw [List.append_nil]; exact hnd, fun x hx => by simp at hx⟩ (fun j σ H4 _ h => SqL.of (h.2.1 fr _ (ne_of hF.1 hkn (by simp)) hF.1)) ?_ ?_
    · rintro j y σ H4 hy ⟨⟨o1, o2, rfl⟩, kb, nw, hfo4, hkn4, hnl, hin, hnd4, hcl⟩
      rw [List.getElem?_map] at hy
      obtain ⟨⟨x, r⟩, hx, rfl⟩ := Option.map_eq_some_iff.mp hy
      have hj : j < l.length := (List.getElem?_eq_some_iff.mp hx).1
      have hxm := List.mem_of_getElem? hx
      have rok : r.Ok ws := hlok _ hxm
      obtain ⟨dx, va, vb, hR, cA, cB⟩ := hF.2 _ hxm
      have hR4 := kb _ _ (ne_of hR hkn (by simp)) hR
      have hnu4 := kb _ _ (ne_of hnu hkn (by simp)) hnu
      have hrow4 := kb _ _ (ne_of (hrow r.p rok.hp) hkn (by simp)) (hrow r.p rok.hp)
      have hmm := rok.hm
      refine ⟨_, rfl, _, rfl, x, C, dx, _, .int (r.p : Int), rfl, hR4, RC.cls, RC.n1, rfl, nu, _, (r.p : Int), .ref (ps.getD r.p 0), rfl, rfl, SqL.of hnu4, atI_nat (by rw [List.getElem?_map]; simp [show r.p < ps.length by rw [hpl]; exact rok.hp]), ?_⟩
      refine ⟨_, rfl, x, C, dx, _, .int (r.m : Int), rfl, hR4, RC.cls, RC.n2, rfl, _, _, (r.m : Int), .int ((N (r.suf ws) : Nat) : Int), rfl, rfl, SqL.of hrow4, atI_nat (by rw [List.getElem?_map, List.getElem?_range (by omega)]; rfl), ?_⟩
      refine ⟨_, rfl, _, rfl, kn, _, rfl, .inl ⟨_, (.inl (N (r.suf ws) : Int) : Key), .inl hkn4, rfl, rfl⟩, _, rfl, ?_⟩
      have same : ∀ y ∈ kl ++ nw, N (y.2.suf ws) = N (r.suf ws) → y.2.suf ws = r.suf ws := fun y hy e => by
        refine hN.inj _ _ ?_ rok.isSuf e
        rcases List.mem_append.mp hy with z | z
        · exact (hk y z).isSuf
        · exact (hlok y (hin y z)).isSuf
      cases ev : valV (knV ws N (kl ++ nw)) (.inl (N (r.suf ws) : Int)) with
      | some u =>
        refine iteF' (by simp) ⟨⟨_, _, rfl⟩, kb, nw, hfo4, hkn4, by omega, hin, hnd4, fun z hz => ?_⟩
        rw [take_snoc hx] at hz
        rcases List.mem_append.mp hz with z' | z'
        · exact hcl z z'
        · rw [List.mem_singleton.mp z']
          obtain ⟨y, hy, e1, _⟩ := valV_some ev
          exact ⟨y, hy, same y hy (lenK_inj e1)⟩
      | none =>
        refine iteT' (by simp) ?_
        have hlt : (kl ++ nw).length < 1000000 := by rw [List.length_append]; omega
        refine ⟨_, rfl, _, rfl, _, rfl, kn, _, rfl, .inl ⟨_, (.inl (N (r.suf ws) : Int) : Key), hkn4, rfl, by rw [List.length_map]; exact small1000000 (by omega), rfl⟩, ?_⟩
        rw [putK_new _ ev]
        have hfo5 : ∀ o, upd H4 kn o fo = some (.lst (refsV nw)) := fun o => upd_k hfo4 knfo.symm
        refine ⟨_, rfl, .inl ⟨rfl, _, SqL.of (hfo5 _)⟩, _, rfl, fo, _, _, rfl, rfl, hfo5 _, by rw [List.length_map]; exact small1000000 (by omega), ⟨_, _, rfl⟩, ?_, nw ++ [(x, r)], ?_, ?_, ?_, ?_, ?_, ?_⟩
        · intro b o hb z
          exact upd_k (upd_k (kb b o hb z) hb) (ne_of_none z hfo)
        · rw [upd_same, refsV, refsV, List.map_append]
          rfl
        · rw [upd_ne knfo, upd_same, ← List.append_assoc]
          simp only [knV, List.map_append]
          rfl
        · rw [List.length_append]
          simp only [List.length_cons, List.length_nil]
          omega
        · intro z hz
          rcases List.mem_append.mp hz with z' | z'
          · exact hin z z'
          · rw [List.mem_singleton.mp z']; exact hxm
        · rw [← List.append_assoc, List.map_append, List.nodup_append]
          refine ⟨hnd4, by simp, fun u hu' v hv e => ?_⟩
          obtain ⟨y, hy, rfl⟩ := List.mem_map.mp hu'
          simp only [List.map_cons, List.map_nil, List.mem_singleton] at hv
          subst hv
          have ey : N (y.2.suf ws) = N (r.suf ws) := by rw [e]
          have := valV_of' (κ := fun x : Addr × RM => (.inl (N (x.2.suf ws) : Int) : Key)) (v := fun x => V.ref x.1) hy
          rw [ey] at this
          rw [ev] at this
          cases this
        · intro z hz
          rw [take_snoc hx] at hz
          rw [← List.append_assoc]
          rcases List.mem_append.mp hz with z' | z'
          · obtain ⟨y, hy, e⟩ := hcl z z'
            exact ⟨y, List.mem_append_left _ hy, e⟩
          · rw [List.mem_singleton.mp z']
            exact ⟨_, List.mem_append_right _ (List.mem_singleton.mpr rfl), rfl⟩
    · rintro σ H4 ⟨⟨o1, o2, rfl⟩, kb, nw, hfo4, hkn4, hnl, hin, hnd4, hcl⟩
      rw [List.length_map, List.take_length] at hcl
      exact ⟨_, rfl, k fo nw _ hfo hfo4 hkn4 kb hin hnd4 hcl⟩
end
end L2


set_option linter.all false
namespace Tw
/-- tails, as the document says it -/
structure TailsOk (c : Code) (ts : List W) : Prop where
  ne : [] ∉ ts
  ww : ∀ i j, i < c.length → j < c.length → i ≠ j → ∀ r, c.getD j [] = c.getD i [] ++ r → r ∈ ts
  tw : ∀ t ∈ ts, ∀ i, i < c.length → ∀ r, c.getD i [] = t ++ r → r ∈ ts
  wt : ∀ t ∈ ts, ∀ i, i < c.length → ∀ r, t = c.getD i [] ++ r → r ∈ ts
theorem split_two {a b c d : W} (h : a ++ b = c ++ d) : (∃ r, c = a ++ r ∧ b = r ++ d) ∨ (∃ r, a = c ++ r ∧ d = r ++ b) := by
  rcases List.append_eq_append_iff.mp h with ⟨r, h1, h2⟩ | ⟨r, h1, h2⟩
  · exact .inl ⟨r, h1, h2⟩
  · exact .inr ⟨r, h1, h2⟩
theorem no_tail {c : Code} {ts : List W} (T : TailsOk c ts) : ∀ (n : Nat) (t : W) (P Q : List Nat), P.length + Q.length ≤ n → t ∈ ts → IsReading c P → IsReading c Q → t ++ textOf c P ≠ textOf c Q := by
  intro n
  induction n with
  | zero =>
    intro t P Q hl ht hP hQ e
    have hp : P = [] := List.eq_nil_of_length_eq_zero (by omega)
    have hq : Q = [] := List.eq_nil_of_length_eq_zero (by omega)
    subst hp hq
    rw [textOf_nil, List.append_nil] at e
    exact T.ne (e ▸ ht)
  | succ n ih =>
    intro t P Q hl ht hP hQ e
    cases Q with
    | nil =>
      rw [textOf_nil] at e
      have := (List.append_eq_nil_iff.mp e).1
      exact T.ne (this ▸ ht)
    | cons j Q =>
      have hj : j < c.length := hQ j List.mem_cons_self
      have hQ' : IsReading c Q := fun i hi => hQ i (List.mem_cons_of_mem _ hi)
      rw [textOf_cons] at e
      rcases split_two e with ⟨r, h1, h2⟩ | ⟨r, h1, h2⟩
      · -- t begins the word
        have hr := T.tw t ht j hj r h1
        exact ih r Q P (by simp at hl; omega) hr hQ' hP h2.symm
      · have hr := T.wt t ht j hj r h1
        exact ih r P Q (by simp at hl; omega) hr hP hQ' h2.symm
/-- so no text has two readings -/
theorem one_reading {c : Code} {ts : List W} (T : TailsOk c ts) (hne : ∀ w ∈ c, w ≠ []) : ∀ (P Q : List Nat), IsReading c P → IsReading c Q → textOf c P = textOf c Q → P = Q := by
  intro P
  have wne : ∀ i, i < c.length → c.getD i [] ≠ [] := fun i hi => by
    have : c.getD i [] = c[i] := by simp [hi]
    rw [this]; exact hne _ (List.getElem_mem hi)
  induction P with
  | nil =>
    intro Q _ hQ e
    cases Q with
    | nil => rfl
    | cons j Q =>
      rw [textOf_nil, textOf_cons] at e
      exact absurd (List.append_eq_nil_iff.mp e.symm).1 (wne j (hQ j List.mem_cons_self))
  | cons i P ih =>
    intro Q hP hQ e
    cases Q with
    | nil =>
      rw [textOf_nil, textOf_cons] at e
      exact absurd (List.append_eq_nil_iff.mp e).1 (wne i (hP i List.mem_cons_self))
    | cons j Q =>
      have hi := hP i List.mem_cons_self
      have hj := hQ j List.mem_cons_self
      have hP' : IsReading c P := fun i hi => hP i (List.mem_cons_of_mem _ hi)
      have hQ' : IsReading c Q := fun i hi => hQ i (List.mem_cons_of_mem _ hi)
      rw [textOf_cons, textOf_cons] at e
      by_cases hij : i = j
      · subst hij
        rw [ih Q hP' hQ' (List.append_cancel_left e)]
      · exfalso
        rcases split_two e with ⟨r, h1, h2⟩ | ⟨r, h1, h2⟩
        · exact no_tail T _ r Q P (Nat.le_refl _) (T.ww i j hi hj hij r h1) hQ' hP' h2.symm
        · exact no_tail T _ r P Q (Nat.le_refl _) (T.ww j i hj hi (Ne.symm hij) r h1) hP' hQ' h2.symm

/-! Kraft and McMillan -/
theorem nodup_le {α : Type} [DecidableEq α] : ∀ {l m : List α}, l.Nodup → (∀ x ∈ l, x ∈ m) → l.length ≤ m.length
  | [], _, _, _ => Nat.zero_le _
  | x :: l, m, h, hs => by
    have hx : x ∈ m := hs x List.mem_cons_self
    obtain ⟨h1, h2⟩ := List.nodup_cons.mp h
    have := nodup_le (l := l) (m := m.erase x) h2 fun y hy => by
      have hne : y ≠ x := fun e => h1 (e ▸ hy)
      exact (List.mem_erase_of_ne hne).mpr (hs y (List.mem_cons_of_mem _ hy))
    rw [List.length_erase_of_mem hx] at this
    have : 0 < m.length := List.length_pos_of_mem hx
    simp only [List.length_cons]
    omega
/-- all texts of m letters -/
def allTexts (A : List Nat) : Nat → List W
  | 0 => [[]]
  | m + 1 => (allTexts A m).flatMap fun t => A.map fun a => a :: t
theorem mem_allTexts (A : List Nat) : ∀ (m : Nat) (t : W), t.length = m → (∀ x ∈ t, x ∈ A) → t ∈ allTexts A m
  | 0, t, h, _ => by rw [List.eq_nil_of_length_eq_zero h]; exact List.mem_singleton.mpr rfl
  | m + 1, t, h, ha => by
    cases t with
    | nil => simp at h
    | cons a t =>
      refine List.mem_flatMap.mpr ⟨t, mem_allTexts A m t (by simpa using h) fun x hx => ha x (List.mem_cons_of_mem _ hx), ?_⟩
      exact List.mem_map.mpr ⟨a, ha a List.mem_cons_self, rfl⟩
theorem length_allTexts (A : List Nat) : ∀ m : Nat, (allTexts A m).length = A.length ^ m
  | 0 => rfl
  | m + 1 => by
    rw [allTexts, List.length_flatMap]
    have : ∀ l : List W, (l.map fun t => (A.map fun a => a :: t).length).sum = l.length * A.length := by
      intro l
      induction l with
      | nil => simp
      | cons t l ih => rw [List.map_cons, List.sum_cons, ih, List.length_map, List.length_cons, Nat.succ_mul]; omega
    rw [this, length_allTexts A m, Nat.pow_succ]
/-- all readings of n words -/
def allReadings (k : Nat) : Nat → List (List Nat)
  | 0 => [[]]
  | n + 1 => (List.range k).flatMap fun i => (allReadings k n).map fun r => i :: r
theorem allReadings_mem (k : Nat) : ∀ (n : Nat) (r : List Nat), r ∈ allReadings k n → r.length = n ∧ ∀ i ∈ r, i < k
  | 0, r, h => by
    have : r = [] := by simpa [allReadings] using h
    subst this
    exact ⟨rfl, fun _ h => nomatch h⟩
  | n + 1, r, h => by
    obtain ⟨i, hi, h⟩ := List.mem_flatMap.mp h
    obtain ⟨q, hq, rfl⟩ := List.mem_map.mp h
    obtain ⟨h1, h2⟩ := allReadings_mem k n q hq
    refine ⟨by simp [h1], fun j hj => ?_⟩
    rcases List.mem_cons.mp hj with rfl | hj
    · simpa using hi
    · exact h2 j hj
theorem allReadings_nodup (k : Nat) : ∀ n : Nat, (allReadings k n).Nodup
  | 0 => by simp [allReadings]
  | n + 1 => by
    have h1 := allReadings_nodup k n
    unfold List.Nodup at h1 ⊢
    rw [allReadings, List.pairwise_flatMap]
    refine ⟨fun i _ => ?_, ?_⟩
    · rw [List.pairwise_map]
      exact h1.imp fun h e => h (by simpa using e)
    · refine List.Pairwise.imp ?_ (List.nodup_range (n := k))
      intro i j hij r hr q hq e
      obtain ⟨r', _, rfl⟩ := List.mem_map.mp hr
      obtain ⟨q', _, rfl⟩ := List.mem_map.mp hq
      exact hij (by simpa using congrArg List.head? e)
def sumOf {α : Type} (f : α → Nat) (l : List α) : Nat := (l.map f).sum
theorem sumOf_cons {α : Type} (f : α → Nat) (a : α) (l : List α) : sumOf f (a :: l) = f a + sumOf f l := by simp [sumOf]
theorem sumOf_append {α : Type} (f : α → Nat) (l m : List α) : sumOf f (l ++ m) = sumOf f l + sumOf f m := by simp [sumOf]
theorem sumOf_congr {α : Type} {f g : α → Nat} : ∀ {l : List α}, (∀ a ∈ l, f a = g a) → sumOf f l = sumOf g l
  | [], _ => rfl
  | a :: l, h => by rw [sumOf_cons, sumOf_cons, h a List.mem_cons_self, sumOf_congr fun b hb => h b (List.mem_cons_of_mem _ hb)]
theorem sumOf_mul {α : Type} (f : α → Nat) (k : Nat) (l : List α) : sumOf (fun a => k * f a) l = k * sumOf f l := by
  induction l with
  | nil => rfl
  | cons a l ih => rw [sumOf_cons, sumOf_cons, ih, Nat.mul_add]
theorem sumOf_flatMap {α β : Type} (f : β → Nat) (g : α → List β) (l : List α) : sumOf f (l.flatMap g) = sumOf (fun a => sumOf f (g a)) l := by
  induction l with
  | nil => rfl
  | cons a l ih => rw [List.flatMap_cons, sumOf_append, ih, sumOf_cons]
theorem sumOf_map {α β : Type} (f : β → Nat) (g : α → β) (l : List α) : sumOf f (l.map g) = sumOf (fun a => f (g a)) l := by simp [sumOf, Function.comp_def]
theorem sumOf_split {α : Type} (f : α → Nat) (p : α → Bool) (l : List α) : sumOf f l = sumOf f (l.filter p) + sumOf f (l.filter fun a => !p a) := by
  induction l with
  | nil => rfl
  | cons a l ih =>
    rw [sumOf_cons, ih]
    cases h : p a <;> simp [h, sumOf_cons] <;> omega
theorem sumOf_const {α : Type} {f : α → Nat} {k : Nat} : ∀ {l : List α}, (∀ a ∈ l, f a = k) → sumOf f l = l.length * k
  | [], _ => by simp [sumOf]
  | a :: l, h => by rw [sumOf_cons, h a List.mem_cons_self, sumOf_const fun b hb => h b (List.mem_cons_of_mem _ hb), List.length_cons, Nat.succ_mul]; omega
theorem textOf_len_le {c : Code} {L : Nat} (hL : ∀ w ∈ c, w.length ≤ L) : ∀ (r : List Nat), (textOf c r).length ≤ r.length * L
  | [] => by simp [textOf]
  | i :: r => by
    have h := textOf_len_le hL r
    have hi : (c.getD i []).length ≤ L := by
      by_cases hi : i < c.length
      · have : c.getD i [] = c[i] := by simp [hi]
        rw [this]; exact hL _ (List.getElem_mem hi)
      · have : c.getD i [] = [] := by simp [Nat.le_of_not_lt hi]
        rw [this]; exact Nat.zero_le _
    rw [textOf_cons, List.length_append, List.length_cons, Nat.succ_mul]
    omega
def kraft (q L : Nat) (c : Code) : Nat := sumOf (fun w => q ^ (L - w.length)) c
theorem kraft_range (q L : Nat) (c : Code) : kraft q L c = sumOf (fun i => q ^ (L - (c.getD i []).length)) (List.range c.length) := by
  have e : c = (List.range c.length).map fun i => c.getD i [] := by
    apply List.ext_getElem
    · simp
    · intro i h1 h2
      simp [List.getElem?_eq_getElem h1]
  unfold kraft
  conv => lhs; rw [e]
  rw [sumOf_map]
theorem kraft_pow {q L : Nat} {c : Code} (hL : ∀ w ∈ c, w.length ≤ L) : ∀ n : Nat, kraft q L c ^ n = sumOf (fun r => q ^ (n * L - (textOf c r).length)) (allReadings c.length n)
  | 0 => by simp [allReadings, sumOf, textOf]
  | n + 1 => by
    rw [Nat.pow_succ, Nat.mul_comm, kraft_pow hL n, allReadings, sumOf_flatMap, kraft_range]
    have : ∀ (l : List Nat), (∀ i ∈ l, i < c.length) → sumOf (fun i => q ^ (L - (c.getD i []).length)) l * sumOf (fun r => q ^ (n * L - (textOf c r).length)) (allReadings c.length n) =
        sumOf (fun i => sumOf (fun r => q ^ ((n + 1) * L - (textOf c r).length)) ((allReadings c.length n).map fun r => i :: r)) l := by
      intro l
      induction l with
      | nil => intro _; simp [sumOf]
      | cons i l ih =>
        intro h
        rw [sumOf_cons, sumOf_cons, Nat.add_mul, ih fun j hj => h j (List.mem_cons_of_mem _ hj), sumOf_map, ← sumOf_mul]
        congr 1
        apply sumOf_congr
        intro r hr
        obtain ⟨h1, _⟩ := allReadings_mem c.length n r hr
        have h2 := textOf_len_le hL r
        have h3 : (c.getD i []).length ≤ L := by
          have hi := h i List.mem_cons_self
          have : c.getD i [] = c[i] := by simp [hi]
          rw [this]; exact hL _ (List.getElem_mem hi)
        rw [h1] at h2
        rw [← Nat.pow_add, textOf_cons, List.length_append, Nat.succ_mul]
        congr 1
        omega
    exact this (List.range c.length) fun i hi => by simpa using hi
theorem texts_sum {A : List Nat} {M : Nat} : ∀ (N : Nat) (T : List W), N ≤ M + 1 → T.Nodup → (∀ t ∈ T, t.length < N ∧ ∀ x ∈ t, x ∈ A) → sumOf (fun t => A.length ^ (M - t.length)) T ≤ N * A.length ^ M
  | 0, T, _, _, h => by
    cases T with
    | nil => simp [sumOf]
    | cons t T => exact absurd (h t List.mem_cons_self).1 (Nat.not_lt_zero _)
  | N + 1, T, hN, hd, h => by
    rw [sumOf_split _ (fun t => decide (t.length = N))]
    have h2 := texts_sum (M := M) N (T.filter fun t => !decide (t.length = N)) (by omega) (hd.filter _) fun t ht => by
      obtain ⟨h1, h2⟩ := List.mem_filter.mp ht
      have h3 := h t h1
      have h4 : ¬ t.length = N := by simpa using h2
      exact ⟨by omega, h3.2⟩
    have h1 : sumOf (fun t => A.length ^ (M - t.length)) (T.filter fun t => decide (t.length = N)) ≤ A.length ^ M := by
      rw [sumOf_const (k := A.length ^ (M - N)) fun t ht => by rw [show t.length = N by simpa using (List.mem_filter.mp ht).2]]
      have hle : (T.filter fun t => decide (t.length = N)).length ≤ A.length ^ N := by
        rw [← length_allTexts A N]
        exact nodup_le (hd.filter _) fun t ht => mem_allTexts A N t (by simpa using (List.mem_filter.mp ht).2) (h t (List.mem_filter.mp ht).1).2
      calc _ ≤ A.length ^ N * A.length ^ (M - N) := Nat.mul_le_mul_right _ hle
        _ = A.length ^ M := by rw [← Nat.pow_add]; congr 1; omega
    rw [Nat.succ_mul]
    omega
theorem nodup_map_of {α β : Type} {f : α → β} : ∀ {l : List α}, l.Nodup → (∀ a ∈ l, ∀ b ∈ l, f a = f b → a = b) → (l.map f).Nodup
  | [], _, _ => by simp
  | a :: l, h, hi => by
    obtain ⟨h1, h2⟩ := List.nodup_cons.mp h
    rw [List.map_cons, List.nodup_cons]
    refine ⟨fun hm => ?_, nodup_map_of h2 fun x hx y hy e => hi x (List.mem_cons_of_mem _ hx) y (List.mem_cons_of_mem _ hy) e⟩
    obtain ⟨b, hb, e⟩ := List.mem_map.mp hm
    have := hi b (List.mem_cons_of_mem _ hb) a List.mem_cons_self e
    exact h1 (this ▸ hb)
theorem textOf_letters {c : Code} {A : List Nat} (hA : ∀ w ∈ c, ∀ x ∈ w, x ∈ A) {r : List Nat} : ∀ x ∈ textOf c r, x ∈ A := by
  induction r with
  | nil => intro x h; nomatch h
  | cons i r ih =>
    intro x h
    rw [textOf_cons] at h
    rcases List.mem_append.mp h with h | h
    · by_cases hi : i < c.length
      · have : c.getD i [] = c[i] := by simp [hi]
        rw [this] at h
        exact hA _ (List.getElem_mem hi) x h
      · have : c.getD i [] = [] := by simp [Nat.le_of_not_lt hi]
        rw [this] at h
        nomatch h
    · exact ih x h
theorem kraft_bound {c : Code} {A : List Nat} {L : Nat} (hL : ∀ w ∈ c, w.length ≤ L) (hA : ∀ w ∈ c, ∀ x ∈ w, x ∈ A) (hu : ∀ P Q, IsReading c P → IsReading c Q → textOf c P = textOf c Q → P = Q) (n : Nat) :
    kraft A.length L c ^ n ≤ (n * L + 1) * A.length ^ (n * L) := by
  rw [kraft_pow hL n]
  have e : sumOf (fun r => A.length ^ (n * L - (textOf c r).length)) (allReadings c.length n) = sumOf (fun t => A.length ^ (n * L - t.length)) ((allReadings c.length n).map (textOf c)) := by rw [sumOf_map]
  rw [e]
  refine texts_sum (n * L + 1) _ (Nat.le_refl _) (nodup_map_of (allReadings_nodup _ _) fun P hP Q hQ h => hu P Q (allReadings_mem _ _ _ hP).2 (allReadings_mem _ _ _ hQ).2 h) fun t ht => ?_
  obtain ⟨r, hr, rfl⟩ := List.mem_map.mp ht
  have := textOf_len_le hL r
  rw [(allReadings_mem _ _ _ hr).1] at this
  exact ⟨by omega, textOf_letters hA⟩
theorem bern (Q : Nat) : ∀ m : Nat, Q ^ m + m * Q ^ (m - 1) ≤ (Q + 1) ^ m
  | 0 => by simp
  | m + 1 => by
    have h := bern Q m
    rw [Nat.pow_succ (Q + 1), Nat.mul_add, Nat.mul_one, Nat.add_sub_cancel, Nat.succ_mul, Nat.pow_succ]
    have h1 : (Q ^ m + m * Q ^ (m - 1)) * Q ≤ (Q + 1) ^ m * Q := Nat.mul_le_mul_right _ h
    have h2 : Q ^ m ≤ (Q + 1) ^ m := Nat.pow_le_pow_left (Nat.le_succ _) _
    have h3 : m * Q ^ (m - 1) * Q = m * Q ^ m := by
      cases m with
      | zero => simp
      | succ m => rw [Nat.add_sub_cancel, Nat.pow_succ, Nat.mul_assoc]
    rw [Nat.add_mul, h3] at h1
    omega
theorem twice (Q : Nat) (h0 : 0 < Q) : 2 * Q ^ Q ≤ (Q + 1) ^ Q := by
  have h := bern Q Q
  cases Q with
  | zero => exact absurd h0 (Nat.lt_irrefl _)
  | succ Q =>
    rw [Nat.add_sub_cancel] at h
    have : (Q + 1) * (Q + 1) ^ Q = (Q + 1) ^ (Q + 1) := by rw [Nat.pow_succ, Nat.mul_comm]
    omega
theorem lt_two_pow' : ∀ j : Nat, j + 1 ≤ 2 ^ j
  | 0 => by decide
  | j + 1 => by have := lt_two_pow' j; rw [Nat.pow_succ]; omega
/-- McMillan: read in one way at the most, the words take no more than there is -/
theorem mcmillan {c : Code} {A : List Nat} {L : Nat} (hL : ∀ w ∈ c, w.length ≤ L) (hA : ∀ w ∈ c, ∀ x ∈ w, x ∈ A) (hA0 : 0 < A.length) (hu : ∀ P Q, IsReading c P → IsReading c Q → textOf c P = textOf c Q → P = Q) :
    kraft A.length L c ≤ A.length ^ L := by
  refine Nat.le_of_not_lt fun hlt => ?_
  generalize hQ : A.length ^ L = Q at hlt
  have hQ0 : 0 < Q := by rw [← hQ]; exact Nat.pow_pos hA0
  have key : ∀ k, 2 ^ k * Q ^ (Q * k) ≤ (Q * k * L + 1) * Q ^ (Q * k) := fun k => by
    have h1 := kraft_bound hL hA hu (Q * k)
    have h2 : (Q + 1) ^ (Q * k) ≤ kraft A.length L c ^ (Q * k) := Nat.pow_le_pow_left hlt _
    have h3 : 2 ^ k * Q ^ (Q * k) ≤ (Q + 1) ^ (Q * k) := by
      rw [Nat.pow_mul, Nat.pow_mul, ← Nat.mul_pow]
      exact Nat.pow_le_pow_left (twice Q hQ0) k
    have h4 : A.length ^ (Q * k * L) = Q ^ (Q * k) := by rw [← hQ, ← Nat.pow_mul]; congr 1; rw [Nat.mul_comm]
    rw [h4] at h1
    omega
  have hle : ∀ k, 2 ^ k ≤ Q * k * L + 1 := fun k => Nat.le_of_mul_le_mul_right (key k) (Nat.pow_pos hQ0)
  -- k = 2 j, j = 2 Q L + 1
  have hj := hle (2 * (2 * (Q * L) + 1))
  generalize hp : Q * L = p at hj
  have e1 : Q * (2 * (2 * p + 1)) * L = 2 * (2 * p + 1) * p := by rw [Nat.mul_comm Q, Nat.mul_assoc, hp]
  rw [e1] at hj
  have h5 := lt_two_pow' (2 * p + 1)
  have h6 : 2 ^ (2 * (2 * p + 1)) = 2 ^ (2 * p + 1) * 2 ^ (2 * p + 1) := by rw [Nat.two_mul, Nat.pow_add]
  have h7 : (2 * p + 1 + 1) * (2 * p + 1 + 1) ≤ 2 ^ (2 * p + 1) * 2 ^ (2 * p + 1) := Nat.mul_le_mul h5 h5
  have h8 : (2 * p + 1 + 1) * (2 * p + 1 + 1) = 2 * (2 * p + 1) * p + (6 * p + 4) := by
    simp only [Nat.add_mul, Nat.mul_add, Nat.mul_one, Nat.one_mul]
    have : 2 * p * (2 * p) = 2 * (2 * p) * p := by rw [Nat.mul_comm 2 (2 * p), Nat.mul_assoc, Nat.mul_assoc, Nat.mul_assoc]
    have e : 2 * (2 * p) * p = 4 * (p * p) := by rw [← Nat.mul_assoc, ← Nat.mul_assoc]
    have e' : 2 * p * (2 * p) = 4 * (p * p) := by rw [this, e]
    omega
  omega
end Tw


set_option Elab.async false
set_option linter.all false
set_option maxRecDepth 100000
set_option maxHeartbeats 2000000
namespace L2
open PySem PySem.Spec PyProof.Rows Tw
seal PSs PS PE PT PW PA PG PGs PI PC
theorem Ext.kb {H H1 H2 : Hp} {k : Addr} (x : Ext H H1) (y : Kb k H1 H2) (h : H k = none) : Ext H H2 := fun b o e => by
  rcases x b o e with z | ⟨he, ob, z⟩
  · exact .inl (y b _ (ne_of_none e h) z)
  · exact .inr ⟨he, ob, y b _ (ne_of_none e h) z⟩
theorem XP.rdK {P a : Addr} {H H1 : Hp} {kvs : List (Key × V)} (x : XP P H H1) (h : Rd H a (.dK kvs)) : Rd H1 a (.dK kvs) := by
  rcases h with h | ⟨ob, h⟩
  · rcases x.ext a _ (x.ne h (fun _ z => nomatch z)) h with h1 | ⟨_, ob, h1⟩
    · exact .inl h1
    · exact .inr ⟨ob, h1⟩
  · exact .inr ⟨ob, x.keep h (fun _ e => nomatch e) fun _ e => nomatch e⟩
theorem XP.gr {P g : Addr} {H H1 : Hp} {ws : List W} {d : Nat → Addr} {f : W → Addr} (x : XP P H H1) (G : GR H g ws d f) : GR H1 g ws d f := ⟨x.rdK G.gd, fun n hn => x.rdK (G.inn n hn), fun y hy => x.lst (G.lst y hy)⟩
/-- all rests of words -/
def sufsAll (ws : List W) : List W := ws.flatMap fun x => (List.range (x.length + 1)).map fun m => x.drop m
theorem mem_sufsAll {ws : List W} {s : W} (h : Suf ws s) : s ∈ sufsAll ws := by
  obtain ⟨p, m, hp, hm, rfl⟩ := h
  refine List.mem_flatMap.mpr ⟨ws.getD p [], ?_, List.mem_map.mpr ⟨m, List.mem_range.mpr (by omega), rfl⟩⟩
  rw [List.getD_eq_getElem?_getD, List.getElem?_eq_getElem hp]
  exact List.getElem_mem hp
theorem sufsAll_len : ∀ {ws : List W}, (∀ x ∈ ws, x.length ≤ 100) → (sufsAll ws).length ≤ ws.length * 101
  | [], _ => Nat.zero_le _
  | x :: ws, h => by
    have := sufsAll_len (ws := ws) fun y hy => h y (List.mem_cons_of_mem _ hy)
    have hx := h x List.mem_cons_self
    unfold sufsAll at this ⊢
    rw [List.flatMap_cons, List.length_append, List.length_map, List.length_range, List.length_cons]
    omega
theorem kl_len {ws : List W} {kl : List (Addr × RM)} (h64 : ws.length < 64) (hs : ∀ x ∈ ws, x.length ≤ 100) (nd : (kl.map fun x => x.2.suf ws).Nodup) (ok : ∀ x ∈ kl, x.2.Ok ws) : kl.length ≤ 6464 := by
  have h1 := nodup_le nd fun s hs' => by
    obtain ⟨x, hx, rfl⟩ := List.mem_map.mp hs'
    exact mem_sufsAll (ok x hx).isSuf
  have h2 := sufsAll_len hs
  rw [List.length_map] at h1
  omega
/-- it is known -/
def InK (ws : List W) (kl : List (Addr × RM)) (s : W) : Prop := ∃ y ∈ kl, y.2.suf ws = s
theorem InK.more {ws : List W} {kl nw : List (Addr × RM)} {s : W} (h : InK ws kl s) : InK ws (kl ++ nw) s := let ⟨y, hy, e⟩ := h; ⟨y, List.mem_append_left _ hy, e⟩
/-- the rests of place i are known -/
def First (ws : List W) (kl : List (Addr × RM)) (i : Nat) : Prop := (∀ n j, n ∈ standL ws (ws.getD i []) 0 → ws.getD j [] = cut (ws.getD i []) 0 n → j < i → InK ws kl ((ws.getD i []).drop n)) ∧ ∀ n, n ∈ standL ws (ws.getD i []) 0 → n < (ws.getD i []).length → InK ws kl ((ws.getD i []).drop n)
theorem First.more {ws : List W} {kl nw : List (Addr × RM)} {i : Nat} (h : First ws kl i) : First ws (kl ++ nw) i := ⟨fun n j a b c => (h.1 n j a b c).more, fun n a b => (h.2 n a b).more⟩
/-- the rests behind r are known -/
def Went (ws : List W) (kl : List (Addr × RM)) (r : RM) : Prop := (∀ n, n ∈ standL ws (ws.getD r.p []) r.m → InK ws kl ((ws.getD r.p []).drop (r.m + n))) ∧ ∀ j, j < ws.length → r.suf ws <+: ws.getD j [] → InK ws kl ((ws.getD j []).drop (r.suf ws).length)
theorem Went.more {ws : List W} {kl nw : List (Addr × RM)} {r : RM} (h : Went ws kl r) : Went ws (kl ++ nw) r := ⟨fun n a => (h.1 n a).more, fun j a b => (h.2 j a b).more⟩
theorem stand_of {ws : List W} {t x s : W} {m : Nat} (hx : x ∈ ws) (hm : m ≤ t.length) (e : t.drop m = x ++ s) : x.length ∈ standL ws t m ∧ cut t m x.length = x ∧ t.drop (m + x.length) = s := by
  have hc : cut t m x.length = x := by unfold cut; rw [e, List.take_left]
  have hl : x.length ≤ t.length - m := by
    have := congrArg List.length e
    rw [List.length_drop, List.length_append] at this
    omega
  refine ⟨(mem_standL ws t m _ hm).mpr ⟨by rw [hc]; exact hx, hl, by rw [hc]⟩, hc, ?_⟩
  rw [← List.drop_drop, e, List.drop_left]
theorem closed_tails {ws : List W} {kl : List (Addr × RM)} (ok : ∀ x ∈ kl, x.2.Ok ws) (h1 : ∀ i, i < ws.length → First ws kl i) (h2 : ∀ x ∈ kl, Went ws kl x.2) (ne : ∀ x ∈ kl, x.2.suf ws ≠ []) : TailsOk ws (kl.map fun x => x.2.suf ws) := by
  have mem : ∀ s, InK ws kl s → s ∈ kl.map fun x => x.2.suf ws := fun s ⟨y, hy, e⟩ => List.mem_map.mpr ⟨y, hy, e⟩
  have inw : ∀ i, i < ws.length → ws.getD i [] ∈ ws := fun i hi => by rw [List.getD_eq_getElem?_getD, List.getElem?_eq_getElem hi]; exact List.getElem_mem hi
  refine ⟨fun z => ?_, fun i j hi hj hij r e => ?_, fun t ht i hi r e => ?_, fun t ht i hi r e => ?_⟩
  · obtain ⟨x, hx, e⟩ := List.mem_map.mp z
    exact ne x hx e
  · obtain ⟨a1, a2, a3⟩ := stand_of (m := 0) (inw i hi) (Nat.zero_le _) (show (ws.getD j []).drop 0 = _ from e)
    rw [Nat.zero_add] at a3
    rcases Nat.lt_or_ge (ws.getD i []).length (ws.getD j []).length with z | z
    · have := (h1 j hj).2 _ a1 z
      rw [a3] at this
      exact mem _ this
    · have er : r = [] := by
        have := congrArg List.length e
        rw [List.length_append] at this
        exact List.eq_nil_of_length_eq_zero (by omega)
      subst er
      rw [List.append_nil] at e
      rcases Nat.lt_or_ge i j with q | q
      · have := (h1 j hj).1 _ i a1 a2.symm q
        rw [a3] at this
        exact mem _ this
      · obtain ⟨b1, b2, b3⟩ := stand_of (s := []) (m := 0) (inw j hj) (Nat.zero_le _) (show (ws.getD i []).drop 0 = ws.getD j [] ++ [] by rw [List.append_nil, e]; rfl)
        rw [Nat.zero_add] at b3
        have := (h1 i hi).1 _ j b1 b2.symm (by omega)
        rw [b3] at this
        exact mem _ this
  · obtain ⟨x, hx, rfl⟩ := List.mem_map.mp ht
    have := (h2 x hx).2 i hi ⟨r, e.symm⟩
    rw [e, List.drop_left] at this
    exact mem _ this
  · obtain ⟨x, hx, rfl⟩ := List.mem_map.mp ht
    obtain ⟨b1, b2, b3⟩ := stand_of (inw i hi) (ok x hx).hm e
    have := (h2 x hx).1 _ b1
    rw [b3] at this
    exact mem _ this
section
variable {P : Program} {w : World} {K : PySem.W.Frag} {mg : Str → Option Value} {base : Heap} {C T : Addr}
structure KnSt (C : Addr) (ws : List W) (N : W → Nat) (kn wt : Addr) (H : Hp) (kl : List (Addr × RM)) (c : Nat) : Prop where
  kn : H kn = some (.dK (knV ws N kl))
  wt : H wt = some (.lst (refsV kl))
  at_ : ∀ x ∈ kl, RestAt C H x.1 x.2
  ok : ∀ x ∈ kl, x.2.Ok ws
  le : ∀ x ∈ kl, x.2.A.length ≤ c ∧ x.2.B.length ≤ c
  nd : (kl.map fun x => x.2.suf ws).Nodup
theorem KnSt.step {ws : List W} {N : W → Nat} {kn wt g D8 : Addr} {H7 H8 H9 : Hp} {kl l nw : List (Addr × RM)} {c c' : Nat} (S : KnSt C ws N kn wt H7 kl c) (hc : c ≤ c') (x8 : Ext H7 H8) (k8 : Kb g H7 H8) (gk : kn ≠ g) (gw : wt ≠ g) (F : FoundAt C H8 D8 l)
    (lok : ∀ x ∈ l, x.2.Ok ws ∧ x.2.A.length ≤ c' ∧ x.2.B.length ≤ c') (h1 : H9 kn = some (.dK (knV ws N (kl ++ nw)))) (kb : Kb kn H8 H9) (hin : ∀ x ∈ nw, x ∈ l) (hnd : ((kl ++ nw).map fun x => x.2.suf ws).Nodup) :
    H9 wt = some (.lst (refsV kl)) ∧ KnSt C ws N kn wt (upd H9 wt (.lst (refsV kl ++ refsV nw))) (kl ++ nw) c' := by
  have kw : kn ≠ wt := ne_of S.kn S.wt (by simp)
  have hk8 := k8 kn _ gk S.kn
  have hw8 := k8 wt _ gw S.wt
  have hw9 := kb wt _ kw.symm hw8
  have keep : ∀ {x : Addr} {r : RM}, RestAt C H8 x r → RestAt C (upd H9 wt (.lst (refsV kl ++ refsV nw))) x r := fun h =>
    (h.keep (fun b _ _ _ z => kb b _ (ne_of z hk8 (by simp)) z) fun b _ z => kb b _ (ne_of z hk8 (by simp)) z).keep (fun b _ _ _ z => upd_k z (ne_of z hw9 (by simp))) (tup_over hw9)
  refine ⟨hw9, upd_k h1 kw, by rw [upd_same, refsV, refsV, refsV, List.map_append], fun x hx => ?_, fun x hx => ?_, fun x hx => ?_, hnd⟩
  · rcases List.mem_append.mp hx with z | z
    · exact keep ((S.at_ x z).ext x8)
    · exact keep (F.2 x (hin x z))
  · rcases List.mem_append.mp hx with z | z
    · exact S.ok x z
    · exact (lok x (hin x z)).1
  · rcases List.mem_append.mp hx with z | z
    · have := S.le x z
      exact ⟨by omega, by omega⟩
    · exact (lok x (hin x z)).2
def spAll1 (K : PySem.W.Frag) (T C : Addr) : Sp := fun vs H Q _ => ∃ (a : Addr) (ws : List W), vs = [.ref a] ∧ CodeL H a ws ∧ ws.length < 64 ∧ (∀ x ∈ ws, x.length ≤ 100) ∧ PkL T H ∧
  ∀ kn N kl H', XP T H H' → H kn = none → H' kn = some (.dK (knV ws N kl)) → NumFn ws N → (∀ x ∈ kl, RestAt C H' x.1 x.2) → (∀ x ∈ kl, x.2.Ok ws) → (∀ x ∈ kl, x.2.A.length ≤ 10000 ∧ x.2.B.length ≤ 10000) → kl.length ≤ 6464 → ((∀ x ∈ kl, x.2.suf ws ≠ []) → TailsOk ws (kl.map fun x => x.2.suf ws)) → Q (.ref kn) H'
theorem ok_all_rests1 (D : Def K mg "all_rests" "all_rests" Pl.s_all_rests ["code"]) (B : Bare mg) (hE : ∃ t, mg "EMPTY" = some (.int 0 t)) (CG : Cal P w K mg base CX0 1 "grouped" ["words"] (spGrouped K)) (CI : Cal P w K mg base CX0 1 "in_order" ["values"] (spInOrder K T))
    (CW : Cal P w K mg base CX0 1 "words_at" ["code", "places"] (spWordsAt K)) (CN : Cal P w K mg base CX0 1 "rest_numbers" ["code"] spRestNo1) (CF : Cal P w K mg base CX0 3 "first_rests" ["code", "groups", "place"] (spFirst1 C))
    (CT : Cal P w K mg base CX0 1 "take_new" ["known", "numbers", "rests"] (spTake1 C)) (CB : Cal P w K mg base CX0 3 "rests_behind" ["code", "groups", "words", "order", "rest"] (spBehind K C)) : Cal P w K mg base CX0 4 "all_rests" ["code"] (spAll1 K T C) := by
  have sc : FnScope ["code", "groups", "order", "words", "numbers", "known", "waiting", "place", "turn", "rests"] ["code"] (defScope Pl.s_all_rests) := ⟨rfl, rfl, rfl, by decide +kernel, rfl, by decide +kernel, by decide +kernel⟩
  obtain ⟨tE, hE⟩ := hE
  refine D.cal fun f fd F => F.ok sc (fun vs H Q E h => ?_) (fun cdv A outer s H vs Q E hr h => ?_)
  · obtain ⟨_, _, rfl, _⟩ := h
    rfl
  · obtain ⟨a, ws, rfl, hC, h64, hsh, pk, k⟩ := h
    have hu := hu_of hr
    have hr1 : Room 1 _ := hr.mono (by decide)
    refine ⟨_, pss_cons (ps_set (i := 1) sc.nd rfl (Or.inl rfl) (pe_callF CG hr1 (pa_cons (pv 0) pa_nil) pass0))
      (pss_cons (ps_set (i := 2) sc.nd rfl (Or.inl rfl) (pe_callF CI hr1 (pa_cons (pv 0) pa_nil) pass0))
      (pss_cons (ps_set (i := 3) sc.nd rfl (Or.inl rfl) (pe_callF CW hr1 (pa_cons (pv 0) (pa_cons (pv 2) pa_nil)) pass0))
      (pss_cons (ps_set (i := 4) sc.nd rfl (Or.inl rfl) (pe_callF CN hr1 (pa_cons (pv 0) pa_nil) pass0))
      (pss_cons (ps_set (i := 5) sc.nd rfl (Or.inl rfl) pe_dnewK)
      (pss_cons (ps_set (i := 6) sc.nd rfl (Or.inl rfl) (pe_lst pa_nil))
      (pss_cons (ps_for PassesOwn.never rfl (pi_range1 (by rfl) B.range (pa_cons (pe_callB call_len_seq (by rfl) B.len PySem.boot_len (pa_cons (pv 0) pa_nil)) pa_nil)) (pg_name (i := 7) sc.nd rfl (Or.inl rfl))
        (pss_one (ps_expr (pe_bm PySem.F.plainAttrs_list PySem.F.slot_list_extend PySem.F.type_list_extend mt_extend (pv 6) (pa_cons (pe_callF CT hr1 (pa_cons (pv 5) (pa_cons (pv 4) (pa_cons (pe_callF CF hr (pa_cons (pv 0) (pa_cons (pv 1) (pa_cons (pv 7) pa_nil))) pass0) pa_nil))) pass0) pa_nil)))))
      (pss_cons (ps_set (i := 8) sc.nd rfl (Or.inl rfl) pe_int)
      (pss_cons (ps_while PassesOwn.never (PW.pt (pw_and (pt_cmpR op_lt (pv 8) (pe_callB call_len_seq (by rfl) B.len PySem.boot_len (pa_cons (pv 6) pa_nil)) (nomark _)) (pw_and1 (pt_cmp (pc_dnotin hu (pe_glob (v := .int 0) (by rfl) hE ⟨tE, rfl⟩) (pv 5))))))
        (pss_cons (ps_set (i := 9) sc.nd rfl (Or.inl rfl) (pe_callF CB hr (pa_cons (pv 0) (pa_cons (pv 1) (pa_cons (pv 3) (pa_cons (pv 2) (pa_cons (pe_ix (r := rIxL K) ix_list (pv 6) (pv 8) (fun _ _ => rfl)) pa_nil))))) pass0))
        (pss_cons (ps_expr (pe_bm PySem.F.plainAttrs_list PySem.F.slot_list_extend PySem.F.type_list_extend mt_extend (pv 6) (pa_cons (pe_callF CT hr1 (pa_cons (pv 5) (pa_cons (pv 4) (pa_cons (pv 9) pa_nil))) pass0) pa_nil)))
        (pss_one (ps_set (i := 8) sc.nd rfl (Or.inl rfl) (pe_op op_add (pv 8) pe_int))))))
      (pss_one (ps_ret (pv 5))))))))))), ?_⟩
    refine ⟨_, rfl, a, ws, rfl, hC.code, fun g d f H1 hg x1 G => ?_⟩
    have hC1 := hC.ext x1
    refine ⟨_, rfl, a, ws.map sv, InOrd ws, rfl, SqL.of hC1.at_, by rw [List.length_map]; exact h64, srt_words h64, PkL.ext pk x1, fun D ms H2 x2 hD hD2 ho => ?_⟩
    have x12 : XP T H H2 := (XP.of pk x1).trans x2
    have len : ms.length = ws.length := by rw [ho.1.length_eq, List.length_range]
    have G2 := x2.gr G.rd
    have hC2 := x12.codeL hC
    refine ⟨_, rfl, _, rfl, a, D, ws, ms, rfl, hC2.code, ⟨SqL.of hD2, by omega⟩, fun i hi => List.mem_range.mp (ho.1.mem_iff.mp hi), fun D3 H3 hD3 x3 hD4 => ?_⟩
    refine ⟨_, rfl, a, ws, rfl, hC2.ext x3, h64, hsh, fun D4 N H4 hD4' x4 hz4 hN => ?_⟩
    have x24 := x3.trans x4
    have x14 : XP T H H4 := x12.then x24
    have hC4 := hC2.ext x24
    have G4 := x24.gr G2
    have hO4 : OrdAt K H4 D3 D ws ms := ⟨SqL.of (x4.lst hD4), SqL.of (x24.lst hD2), ho⟩
    intro kn hkn
    have x5 : Ext H4 (upd H4 kn (.dK [])) := Ext.new hkn
    refine ⟨by show 0 ≤ sizeLine; exact Nat.zero_le _, fun wt hwt => ?_⟩
    have x6 := x5.newer (o := HO.lst []) hwt
    have hkn6 : upd (upd H4 kn (.dK [])) wt (.lst []) kn = some (.dK []) := upd_keep upd_same hwt
    have hwt0 : H4 wt = none := x5.free hwt
    have gk : kn ≠ g := fun z => by rcases G4.gd with q | ⟨_, q⟩ <;> rw [← z, hkn] at q <;> cases q
    have gw : wt ≠ g := fun z => by rcases G4.gd with q | ⟨_, q⟩ <;> rw [← z, hwt0] at q <;> cases q
    have S0 : KnSt C ws N kn wt (upd (upd H4 kn (.dK [])) wt (.lst [])) [] 1 := ⟨hkn6, upd_same, fun x hx => (nomatch hx), fun x hx => (nomatch hx), fun x hx => (nomatch hx), by simp⟩
    refine ⟨_, rfl, a, _, rfl, .inl (SqL.of (hC4.ext x6).at_), _, rfl, by omega, by rw [List.length_map]; have := hC.few; omega, ?_⟩
    have en : (((ws.map sv).length : Nat) : Int).toNat = ws.length := by rw [List.length_map]; omega
    rw [en]
    refine for_range (fun i σ H7 => (∃ pl : Option V, σ = [some (.ref a), some (.ref g), some (.ref D), some (.ref D3), some (.ref D4), some (.ref kn), some (.ref wt), pl, none, none]) ∧ Ext H4 H7 ∧ ∃ kl, KnSt C ws N kn wt H7 kl 1 ∧ ∀ i', i' < i → First ws kl i') ⟨⟨_, rfl⟩, x6, [], S0, fun i' hi' => absurd hi' (Nat.not_lt_zero _)⟩ ?_ ?_
    · rintro i σ H7 hi ⟨⟨pl, rfl⟩, x7, kl, S, hfi⟩
      rw [Int.zero_add]
      have kll := kl_len h64 hsh S.nd S.ok
      refine ⟨_, rfl, .inl ⟨rfl, _, SqL.of S.wt⟩, _, rfl, _, rfl, _, rfl, _, rfl, _, rfl, a, g, ws, d, f, i, rfl, hC4.ext x7, x7.gr G4, hi, fun D8 l H8 hD8 x8 kb8 hF lok hc1 hc2 hll => ?_⟩
      refine ⟨kn, D4, D8, ws, N, kl, l, rfl, (hz4.ext x7).ext x8, hN, kb8 kn _ gk S.kn, hF, S.ok, fun x hx => (lok x hx).1, S.nd, by omega, fun D9 nw H9 hD9 h9 hk9 kb9 hin hnd hcl => ?_⟩
      obtain ⟨hw9, S9⟩ := S.step (Nat.le_refl 1) x8 kb8 gk gw hF lok hk9 kb9 hin hnd
      have kl9 := kl_len h64 hsh S9.nd S9.ok
      have x9 : Ext H4 H9 := (x7.trans x8).kb kb9 hkn
      refine ⟨wt, D9, _, _, rfl, rfl, hw9, h9, by rw [List.length_append] at kl9; rw [List.length_map, List.length_map]; exact small_line (by omega), ⟨_, rfl⟩, x9.over hwt0, kl ++ nw, S9, fun i' hi' => ?_⟩
      rcases Nat.lt_or_ge i' i with z | z
      · exact (hfi i' z).more
      · cases (show i' = i by omega)
        have get : ∀ n, (∃ x ∈ l, x.2.p = i ∧ x.2.m = n) → InK ws (kl ++ nw) ((ws.getD i []).drop n) := fun n ⟨x, hx, e1, e2⟩ => by
          obtain ⟨y, hy, e⟩ := hcl x hx
          exact ⟨y, hy, by rw [e, RM.suf, e1, e2]⟩
        exact ⟨fun n j h1 h2 h3 => get n (hc1 n j h1 h2 h3), fun n h1 h2 => get n (hc2 n h1 h2)⟩
    · rintro σ H7 ⟨⟨pl, rfl⟩, x7, kl, S, hfi⟩
      refine ⟨fun m σ H' => ∃ (t : Nat) (kl : List (Addr × RM)) (rs : Option V), m = 10000 - t ∧ σ = [some (.ref a), some (.ref g), some (.ref D), some (.ref D3), some (.ref D4), some (.ref kn), some (.ref wt), pl, some (.int (t : Int)), rs] ∧ Ext H4 H' ∧ KnSt C ws N kn wt H' kl (t + 1) ∧ t ≤ kl.length ∧ (∀ i', i' < ws.length → First ws kl i') ∧ ∀ j x, j < t → kl[j]? = some x → Went ws kl x.2, ⟨_, 0, kl, none, rfl, rfl, x7, S, Nat.zero_le _, hfi, fun j x hj => absurd hj (Nat.not_lt_zero _)⟩, ?_⟩
      rintro m σ H' ⟨t, kl, rs, rfl, rfl, x', S, htl, hfi, hwe⟩
      have kll := kl_len h64 hsh S.nd S.ok
      have fin : (∀ x ∈ kl, x.2.suf ws ≠ []) → t = kl.length → TailsOk ws (kl.map fun x => x.2.suf ws) := fun ne et => closed_tails S.ok hfi (fun x hx => by
        obtain ⟨j, hj⟩ := List.mem_iff_getElem?.mp hx
        exact hwe j x (by have := (List.getElem?_eq_some_iff.mp hj).1; omega) hj) ne
      refine ⟨_, rfl, _, rfl, wt, _, rfl, .inl (SqL.of S.wt), _, _, rfl, rfl, _, rfl, ?_⟩
      rw [List.length_map]
      by_cases hlt : t < kl.length
      · refine iteT' (by rw [decide_eq_true_iff]; omega) ?_
        refine ⟨_, rfl, kn, _, rfl, .inl ⟨_, (.inl 0 : Key), .inl S.kn, rfl, rfl⟩, _, rfl, ?_⟩
        have sle : ∀ x ∈ kl, x.2.A.length ≤ 10000 ∧ x.2.B.length ≤ 10000 := fun x hx => by
          have := S.le x hx
          exact ⟨by omega, by omega⟩
        cases ev : valV (knV ws N kl) (.inl 0) with
        | some u =>
          refine iteF' (by simp) ⟨_, rfl, k kn N kl _ (x14.then x') (x14.free hkn) S.kn hN S.at_ S.ok sle kll fun ne => ?_⟩
          obtain ⟨y, hy, e1, _⟩ := valV_some ev
          have e0 : N (y.2.suf ws) = 0 := lenK_inj (b := 0) e1
          have yo := S.ok y hy
          refine absurd (hN.inj _ [] yo.isSuf ⟨y.2.p, _, yo.hp, Nat.le_refl _, by rw [List.drop_length]⟩ (by rw [e0, hN.nil])) (ne y hy)
        | none =>
          refine iteT' (by simp) ⟨fun σ H' => ∃ (kl : List (Addr × RM)) (rs : Option V), σ = [some (.ref a), some (.ref g), some (.ref D), some (.ref D3), some (.ref D4), some (.ref kn), some (.ref wt), pl, some (.int ((t + 1 : Nat) : Int)), rs] ∧ Ext H4 H' ∧ KnSt C ws N kn wt H' kl (t + 1 + 1) ∧ t + 1 ≤ kl.length ∧ (∀ i', i' < ws.length → First ws kl i') ∧ ∀ j x, j < t + 1 → kl[j]? = some x → Went ws kl x.2, ?_, ?_⟩
          · rintro σ H'' ⟨kl', rs', rfl, q1, q2, q3, q4, q5⟩
            exact ⟨10000 - (t + 1), by omega, t + 1, kl', rs', rfl, rfl, q1, q2, q3, q4, q5⟩
          · obtain ⟨⟨o, r⟩, ho'⟩ : ∃ x, kl[t]? = some x := ⟨_, List.getElem?_eq_getElem hlt⟩
            have hom := List.mem_of_getElem? ho'
            have rl := S.le _ hom
            refine ⟨_, rfl, _, rfl, _, rfl, _, rfl, _, rfl, _, rfl, wt, _, (t : Int), .ref o, rfl, rfl, SqL.of S.wt, atI_nat (by rw [List.getElem?_map, ho']; rfl), ?_⟩
            refine ⟨a, g, D3, D, o, ws, d, f, ms, r, rfl, hC4.ext x', x'.gr G4, hO4.ext x', S.at_ _ hom, S.ok _ hom, fun D8 l H8 hD8 x8 kb8 hF lok hc1 hc2 hll => ?_⟩
            have lok' : ∀ x ∈ l, x.2.Ok ws ∧ x.2.A.length ≤ t + 1 + 1 ∧ x.2.B.length ≤ t + 1 + 1 := fun x hx => by
              have h1 := lok x hx
              have h2 : r.A.length ≤ t + 1 := rl.1
              have h3 : r.B.length ≤ t + 1 := rl.2
              exact ⟨h1.1, by omega, by omega⟩
            refine ⟨_, rfl, .inl ⟨rfl, _, SqL.of (kb8 wt _ gw S.wt)⟩, _, rfl, _, rfl, _, rfl, ?_⟩
            refine ⟨kn, D4, D8, ws, N, kl, l, rfl, (hz4.ext x').ext x8, hN, kb8 kn _ gk S.kn, hF, S.ok, fun x hx => (lok x hx).1, S.nd, by omega, fun D9 nw H9 hD9 h9 hk9 kb9 hin hnd hcl => ?_⟩
            obtain ⟨hw9, S9⟩ := S.step (Nat.le_succ _) x8 kb8 gk gw hF lok' hk9 kb9 hin hnd
            have kl9 := kl_len h64 hsh S9.nd S9.ok
            have x9 : Ext H4 H9 := (x'.trans x8).kb kb9 hkn
            refine ⟨wt, D9, _, _, rfl, rfl, hw9, h9, by rw [List.length_append] at kl9; rw [List.length_map, List.length_map]; exact small_line (by omega), ?_⟩
            refine ⟨_, rfl, _, _, rfl, rfl, kl ++ nw, _, rfl, x9.over hwt0, S9, by rw [List.length_append]; omega, fun i' hi' => (hfi i' hi').more, fun j x hj hx => ?_⟩
            rcases Nat.lt_or_ge j t with z | z
            · rw [List.getElem?_append_left (by omega)] at hx
              exact (hwe j x z hx).more
            · cases (show j = t by omega)
              rw [List.getElem?_append_left hlt, ho'] at hx
              cases hx
              have get : ∀ p n, (∃ x ∈ l, x.2.p = p ∧ x.2.m = n) → InK ws (kl ++ nw) ((ws.getD p []).drop n) := fun p n ⟨x, hx, e1, e2⟩ => by
                obtain ⟨y, hy, e⟩ := hcl x hx
                exact ⟨y, hy, by rw [e, RM.suf, e1, e2]⟩
              exact ⟨fun n hn => get _ _ (hc1 n hn), fun j hj hp => get _ _ (hc2 j hj hp)⟩
      · refine iteF' (by rw [decide_eq_true_iff]; omega) (iteF ⟨_, rfl, k kn N kl _ (x14.then x') (x14.free hkn) S.kn hN S.at_ S.ok (fun x hx => ?_) kll fun ne => fin ne (by omega)⟩)
        have := S.le x hx
        exact ⟨by omega, by omega⟩
end
end L2


set_option Elab.async false
set_option linter.all false
set_option maxRecDepth 100000
set_option maxHeartbeats 2000000
namespace L2
open PySem PySem.Spec PyProof.Rows Tw
/-! ### a walk over a dict's values -/
section
variable {X : Cx} {kvs : List (Key × V)} {a : Addr} {o : Obj} {σ : St}
def Itv (a : Addr) (o : Obj) (kvs : List (Key × V)) : It :=
  ⟨fun i H => i < kvs.length ∧ H a = some (.frz o (.dK kvs)), fun i H x H' => H' = H ∧ ∃ p, kvs[i]? = some p ∧ x = p.2, fun i H => kvs.length ≤ i ∧ H a = some (.frz o (.dK kvs))⟩
theorem turn_vals {P : Program} {w : World} {K : PySem.W.Frag} {tg : Expr} {es : Array DictEntry} {ep : Nat} (a it : Addr) (ho : o.data = .dict es ep) :
    Turn P w K tg (Itv a o kvs) [it] it (fun i h => h.IsValIter it a i kvs.length ep) where
  mem := by simp
  obj := fun i h st b hb => by
    cases List.mem_singleton.mp hb
    obtain ⟨ob, e, c, d⟩ := st
    exact ⟨ob, e, fun v z => by rw [d] at z; cases z⟩
  keep := fun i h h' st k => st.at fun o e => k it (by simp) o e
  item := by
    intro X hP hw hK hc i pins s σ H E I hf st hg
    subst hP hw hK
    obtain ⟨hi, hH⟩ := hg
    obtain ⟨eo, hz, hs, vs, kv, od⟩ := I.hok a _ hH
    have hl : kvs.length = vs.length := Paired.length kv
    obtain ⟨ob, es', ep', e', ex, d', r⟩ := id od
    rw [eo] at e'; cases e'
    rw [ho] at d'; cases d'
    have at' : s.heap.DictAt (mixKind X.prog X.w) a vs ep := ⟨o, es, eo, ex, ho, r⟩
    obtain ⟨p, hp⟩ : ∃ p, kvs[i]? = some p := ⟨kvs[i], by simp [hi]⟩
    obtain ⟨u, hu, ru⟩ := KV.get kv hp
    obtain ⟨f0, f1, f2, f3, f4, f5⟩ := hf it (by simp)
    refine wpAny_pyNext_values_item (hl ▸ st) at' hu fun h' st' sb => ?_
    have I1 : Inv X pins σ H { s with heap := h' } := I.turned (t' := s.toks) (fun b o hb e => (sb.2 b hb).trans e) f0 f1 f3 f4 f5
    obtain ⟨ob, e, c, d⟩ := id st'
    exact ⟨u, rfl, go_of (s := { s with heap := h' }) e c d (by decide) ⟨p.2, H, I1, ru, ⟨rfl, p, hp, rfl⟩, hl ▸ st', fun b hb => (hf b hb).1⟩⟩
  done := by
    intro X hP hw hK hc i pins s σ H E I hf st hg
    subst hP hw hK
    obtain ⟨hi, hH⟩ := hg
    obtain ⟨eo, hz, hs, vs, kv, od⟩ := I.hok a _ hH
    have hl : kvs.length = vs.length := Paired.length kv
    obtain ⟨ob, es', ep', e', ex, d', r⟩ := id od
    rw [eo] at e'; cases e'
    rw [ho] at d'; cases d'
    have at' : s.heap.DictAt (mixKind X.prog X.w) a vs ep := ⟨o, es, eo, ex, ho, r⟩
    obtain ⟨f0, f1, f2, f3, f4, f5⟩ := hf it (by simp)
    exact wpAny_pyNext_values_end (I.ok.hd hc) (hl ▸ st) at' (by simp; omega) fun h' eb => ⟨rfl, I.turned (t' := s.toks) (fun b o hb e => eb b o hb e) f0 f1 f3 f4 f5⟩
  self := fun _ _ _ _ _ st h => wpAny_pyIter_valiter st h
def iVals (td : TE) : TI := fun σ H R => td σ H fun x H1 => ∃ a kvs, x = .ref a ∧ H1 a = some (.dK kvs) ∧ ∀ o H2, Ext H1 H2 → H2 a = some (.frz o (.dK kvs)) → R (Itv a o kvs) H2
theorem pi_vals {l tg : Expr} {td : TE} {apos cpos : Pos} (hl : PE X l td) (hbase : attributeBase l "values" X.env (eval l X.env) = eval l X.env := by rfl) (hline : (apos.endLine == cpos.line) = true := by rfl) : PI X tg (.Call (.Attribute l "values" apos) [] [] cpos) (iVals td) := by
  intro pins s σ H R I h
  refine wpAny_Call_method0_late hbase hline (thn (hl pins s σ H _ I h) fun v s1 ⟨x, H1, I1, r1, a, kvs, ex, hH, q⟩ => ?_)
  subst ex
  cases r1
  obtain ⟨_, hd, vs, kv, od⟩ := I1.hok a _ hH
  have hll : kvs.length = vs.length := Paired.length kv
  obtain ⟨o, es, ep, eo, hc, hdat, r⟩ := id od
  have x2 : Ext H1 (upd H1 a (.frz o (.dK kvs))) := fun b u z => by
    by_cases hb : b = a
    · subst hb
      rw [hH] at z
      cases z
      exact .inr ⟨⟨_, rfl⟩, o, upd_same⟩
    · exact .inl (by rw [upd_ne hb]; exact z)
  have I2 := I1.shut hH eo
  refine ⟨"dict", _, PySem.F.plainAttrs_dict, PySem.F.slot_dict_values, PySem.F.type_dict_values, od.typeIs, fun b z => ?_, Calls.callWith_builtin rfl (PySem.evalArgs_none ?_)⟩
  · cases z
    exact ⟨o, eo, hc.2.1⟩
  · refine call_meetsIn PySem.F.slot_dict_values od.typeIs PySem.F.entry_dict_values (PySem.F.args_dict_values_1 _) (meets_dict_values (mixKind X.prog X.w) a hd) ⟨⟨vs, od⟩, ?_⟩
    have at1 : (s1.heap.push { cls := .type "dict_values", data := .fields #[.ref a] }).DictAt (mixKind X.prog X.w) a vs ep := ⟨o, es, Heap.get?_push_of_some _ eo, hc, hdat, r⟩
    refine wpAny_pyIter_values (s := { s1 with heap := s1.heap.push { cls := .type "dict_values", data := .fields #[.ref a] } }) (d := a) ⟨_, Heap.get?_push_size _ rfl, rfl, rfl⟩ at1 ?_
    have le : s1.heap.objs.size ≤ (s1.heap.push { cls := .type "dict_values", data := .fields #[.ref a] }).objs.size := by rw [Heap.size_push]; exact Nat.le_succ _
    refine ⟨_, [(s1.heap.push { cls := .type "dict_values", data := .fields #[.ref a] }).objs.size], _, _, upd H1 a (.frz o (.dK kvs)), rfl, I2.kept (t' := s1.toks) fun b o e => Heap.get?_push_of_some _ (Heap.get?_push_of_some _ e), turn_vals (kvs := kvs) (es := es) (ep := ep) a _ hdat, ?_, fun b hb => ?_, q o _ x2 upd_same⟩
    · rw [hll]
      exact ⟨_, Heap.get?_push_size _ rfl, rfl, rfl⟩
    cases List.mem_singleton.mp hb
    exact I2.fpOk le (I2.hok.fresh le)
/-- .. a block over it: what is told of each -/
theorem block_vals {tt : TT} {te : TE} {H1 : Hp} {Q : VK} {j0 : Option Nat} {jr : List (Option Nat)} {α : Type} {l : List α} {κ : α → Key} {ν : α → V} (hS : H1 a = some (.frz o (.dK (l.map fun x => (κ x, ν x))))) (hn : l.length ≤ sizeLine) (d0 : α)
    (f : α → V) (htt : ∀ x H', x ∈ l → Ext H1 H' → PureT tt (some (ν x) :: subSt jr σ) H' true)
    (hte : ∀ x H', x ∈ l → Ext H1 H' → PureE te (some (ν x) :: subSt jr σ) H' (fun v _ => v = f x))
    (hQ : ∀ D H', H1 D = none → Ext H1 H' → H' D = some (.lst (l.map f)) → Q (.ref D) H') :
    tBlock (Itv a o (l.map fun x => (κ x, ν x))) (j0 :: jr) (gName 0) tt te σ H1 Q := by
  have kp : ∀ {H'}, Ext H1 H' → H' a = some (.frz o (.dK (l.map fun x => (κ x, ν x)))) := fun x => x.keep hS fun _ z => nomatch z
  have len : (l.map fun x => (κ x, ν x)).length = l.length := List.length_map ..
  have get : ∀ i, i < l.length → ∃ x, l[i]? = some x ∧ x ∈ l ∧ l.getD i d0 = x := fun i hi => ⟨l[i], List.getElem?_eq_getElem hi, List.getElem_mem hi, by rw [List.getD_eq_getElem?_getD, List.getElem?_eq_getElem hi]; rfl⟩
  refine block_pure (n := l.length) (f := fun i => ν (l.getD i d0)) hn (fun i H' x hi => ⟨by rw [len]; exact hi, kp x⟩) (fun i H' v H2 x hi hy => ?_) (fun H' x => ⟨by rw [len]; exact Nat.le_refl _, kp x⟩) (fun _ => true) (fun i v _ => v = f (l.getD i d0))
    (fun _ _ _ _ _ h => h) (fun i H' x hi => ?_) (fun i H' x hi _ => ?_) (fun D H' ys h1 h2 h3 h4 => hQ D H' h1 h2 ?_)
  · obtain ⟨h1, q, e, hv⟩ := hy
    obtain ⟨y, e1, _, e2⟩ := get i hi
    rw [List.getElem?_map, e1] at e
    cases e
    exact ⟨by rw [hv, e2], h1⟩
  · obtain ⟨y, e1, hy, e2⟩ := get i hi
    rw [e2]
    exact htt y H' hy x
  · obtain ⟨y, e1, hy, e2⟩ := get i hi
    rw [e2]
    exact hte y H' hy x
  · have ef : (List.range l.length).filter (fun _ => true) = List.range l.length := List.filter_eq_self.mpr fun _ _ => rfl
    rw [ef] at h4
    have : ∀ {is : List Nat} {ys : List V}, Paired (fun i y => y = f (l.getD i d0)) is ys → ys = is.map fun i => f (l.getD i d0) := by
      intro is ys h
      induction h with
      | nil => rfl
      | cons r _ ih => rw [r, ih]; rfl
    rw [h3, this h4]
    congr 2
    apply List.ext_getElem
    · simp
    · intro i h1 h2
      simp at h1
      simp [h1]
end
end L2


set_option Elab.async false
set_option linter.all false
set_option maxRecDepth 100000
set_option maxHeartbeats 2000000
namespace L2
open PySem PySem.Spec PyProof.Rows Tw
seal PSs PS PE PT PW PA PG PGs PI PC
theorem no_list_str (K : PySem.W.Frag) : PySem.W.kitOne K (.type "str") (.type "list") = some false := by kernel_rfl
section
variable {P : Program} {w : World} {K : PySem.W.Frag} {mg : Str → Option Value} {base : Heap}
def spCopiedG : Sp := fun vs H Q _ => ∃ (a : Addr) (xs : List V), vs = [.ref a] ∧ H a = some (.lst xs) ∧ xs.length ≤ 100000 ∧ (∀ v ∈ xs, (∃ i, v = .int i) ∨ ∃ z, v = .str z) ∧ ∀ l H', H l = none → Ext H H' → H' l = some (.lst xs) → Q (.ref l) H'
theorem ok_copiedG (D : Def K mg "copied" "copied" Pl.s_copied ["value"]) (B : Bare mg) : Cal P w K mg base CX0 1 "copied" ["value"] spCopiedG := by
  have sc : FnScope ["value", "told", "waiting", "members", "place"] ["value"] (defScope Pl.s_copied) := ⟨rfl, rfl, rfl, by decide +kernel, rfl, by decide +kernel, by decide +kernel⟩
  refine D.cal fun f fd F => F.ok sc (fun vs H Q E h => ?_) (fun cdv A outer s H vs Q E hr h => ?_)
  · obtain ⟨_, _, rfl, _⟩ := h
    rfl
  · obtain ⟨a, xs, rfl, ha, hrl, hpl, k⟩ := h
    refine ⟨_, pss_cons (ps_if (pt_not (pt_val (pe_isi_list B (pv 0)))) (pss_one (ps_ret (pv 0))) pss_nil)
      (pss_cons (ps_set (i := 1) sc.nd rfl (Or.inl rfl) (pe_callTy call_list_of (by rfl) B.list boot_list (pa_cons (pv 0) pa_nil)))
      (pss_cons (ps_set (i := 2) sc.nd rfl (Or.inl rfl) (pe_lst (pa_cons (pv 1) pa_nil)))
      (pss_cons (ps_while PassesOwn.never (pt_truth (pv 2) (fun _ => rfl))
        (pss_cons (ps_set (i := 3) sc.nd rfl (Or.inl rfl) (pe_bm0 PySem.F.plainAttrs_list PySem.F.slot_list_pop PySem.F.type_list_pop mt_pop (pv 2)))
        (pss_one (ps_for PassesOwn.never rfl (pi_range1 (by rfl) B.range (pa_cons (pe_callB call_len_seq (by rfl) B.len PySem.boot_len (pa_cons (pv 3) pa_nil)) pa_nil)) (pg_name (i := 4) sc.nd rfl (Or.inl rfl))
          (pss_one (ps_if (pt_val (pe_isi_list B (pe_ix (r := rIxL K) ix_list (pv 3) (pv 4) (fun _ _ => rfl)))) pss_never pss_nil))))))
      (pss_one (ps_ret (pv 1)))))), ?_⟩
    refine ⟨_, rfl, _, _, _, _, rfl, trivial, .lst ha, yes_list K, _, rfl, iteF' (by decide) ?_⟩
    refine ⟨_, rfl, a, _, rfl, .inl (SqL.of ha), fun l hl => ?_⟩
    have x1 : Ext H (upd H l (.lst (xs))) := Ext.new hl
    refine ⟨_, rfl, by show 1 ≤ sizeLine; decide, fun q hq => ?_⟩
    have nql : l ≠ q := ne_of_none upd_same hq
    dsimp only [gName, tSeq]
    refine while_by (fun σ H2 => ∃ (ws : List V) (mb pl : Option V), σ = [some (.ref a), some (.ref l), some (.ref q), mb, pl] ∧ Ext H H2 ∧ H2 l = some (.lst (xs)) ∧ H2 q = some (.lst ws) ∧ (ws = [.ref l] ∨ ws = [])) (fun _ H2 => lstLen H2 q) ?_ ?_ ?_
    · exact ⟨[.ref l], none, none, rfl, x1.newer hq, upd_keep upd_same hq, upd_same, .inl rfl⟩
    · rintro σ H2 ⟨ws, mb, pl, rfl, x2, hl2, hq2, rfl | rfl⟩
      · refine ⟨_, rfl, true, .inl ⟨_, SqL.of hq2, rfl⟩, iteT ?_⟩
        refine ⟨_, rfl, .inl ⟨rfl, _, SqL.of hq2⟩, q, _, .ref l, rfl, rfl, hq2, rfl, ?_⟩
        have hl3 : upd H2 q (.lst ([V.ref l].dropLast)) l = some (.lst (xs)) := upd_k hl2 nql
        have x3 : Ext H (upd H2 q (.lst ([V.ref l].dropLast))) := x2.over (x1.free hq)
        refine ⟨_, rfl, l, _, rfl, .inl (SqL.of hl3), _, rfl, by omega, by omega, ?_⟩
        have en : ((xs.length : Nat) : Int).toNat = xs.length := by omega
        rw [en]
        refine for_range (fun i σ H4 => (∃ pl : Option V, σ = [some (.ref a), some (.ref l), some (.ref q), some (.ref l), pl]) ∧ H4 = upd H2 q (.lst ([V.ref l].dropLast))) ⟨⟨_, rfl⟩, rfl⟩ ?_ ?_
        · rintro i σ H4 hi ⟨⟨pl, rfl⟩, rfl⟩
          have hm : xs[i]? = some xs[i] := List.getElem?_eq_getElem hi
          rcases hpl _ (List.getElem_mem hi) with ⟨z, e⟩ | ⟨z, e⟩
          · refine ⟨_, rfl, _, rfl, l, _, _, .int z, rfl, rfl, SqL.of hl3, ?_, _, _, _, _, rfl, trivial, .int _, no_list K, _, rfl, iteF ⟨⟨_, rfl⟩, rfl⟩⟩
            rw [Int.zero_add]
            exact atI_nat (by rw [hm, e])
          · refine ⟨_, rfl, _, rfl, l, _, _, .str z, rfl, rfl, SqL.of hl3, ?_, _, _, _, _, rfl, trivial, .str _, no_list_str K, _, rfl, iteF ⟨⟨_, rfl⟩, rfl⟩⟩
            rw [Int.zero_add]
            exact atI_nat (by rw [hm, e])
        · rintro σ H4 ⟨⟨pl, rfl⟩, rfl⟩
          refine ⟨⟨[], _, _, rfl, x3, hl3, upd_same, .inr rfl⟩, ?_⟩
          rw [lstLen_of hq2, lstLen_of (upd_same (H := H2) (a := q))]
          simp
      · refine ⟨_, rfl, false, .inl ⟨_, SqL.of hq2, rfl⟩, iteF ?_⟩
        exact ⟨_, rfl, k l H2 hl x2 hl2⟩
    · rintro σ H' Q1 Q2 hQ ⟨v, e1, b, e2, q⟩
      exact ⟨v, e1, b, e2, hQ _ _ q⟩
end
theorem ints_plain (r : List Nat) : ∀ v ∈ intsV r, (∃ i, v = .int i) ∨ ∃ z, v = V.str z := fun v hv => by
  obtain ⟨i, _, rfl⟩ := List.mem_map.mp hv
  exact .inl ⟨_, rfl⟩
theorem txts_plain (r : List W) : ∀ v ∈ r.map sv, (∃ i, v = .int i) ∨ ∃ z, v = V.str z := fun v hv => by
  obtain ⟨i, _, rfl⟩ := List.mem_map.mp hv
  exact .inr ⟨_, rfl⟩
section
variable {P : Program} {w : World} {K : PySem.W.Frag} {mg : Str → Option Value} {base : Heap}
def spInitC (C : Addr) : Sp := fun vs H Q _ => ∃ (o p q dx : Addr) (r1 r2 : List Nat), vs = [.ref o, .ref p, .ref q] ∧ H o = some (.ins C dx []) ∧ H p = some (.lst (intsV r1)) ∧ H q = some (.lst (intsV r2)) ∧ r1.length ≤ 100000 ∧ r2.length ≤ 100000 ∧
  ∀ l1 l2 H1, H l1 = none → H l2 = none → l1 ≠ l2 → Ext (upd H o (.ins C dx [("one", .ref l1)])) H1 → H1 l1 = some (.lst (intsV r1)) → H1 l2 = some (.lst (intsV r2)) → Q .non (upd H1 o (.ins C dx [("one", .ref l1), ("other", .ref l2)]))
theorem Ext.upd {H H1 : Hp} {o : Addr} {u v v' : HO} (x : Ext H H1) (h : H o = some u) (nk : ∀ kvs, u ≠ .dK kvs) : Ext (upd H o v) (L2.upd H1 o v) := fun b z e => by
  by_cases hb : b = o
  · subst hb
    rw [upd_same] at e
    exact .inl (by rw [upd_same]; exact e)
  · rw [upd_ne hb] at e
    rw [upd_ne hb]
    exact x b z e
theorem ok_initClash {C f : Addr} {fd : FuncData} (F : Fun K "__init__" "Clash.__init__" Pl.c_Clash_init f fd) (cl : Cls K C) (na : NoAttr K C "one") (nb : NoAttr K C "other") (CC : Cal P w K mg base CX0 1 "copied" ["value"] spCopiedG) :
    FnOk P w K mg base CX0 2 f fd ["self", "one", "other"] (spInitC C) := by
  have sc : FnScope ["self", "one", "other"] ["self", "one", "other"] (defScope Pl.c_Clash_init) := ⟨rfl, rfl, rfl, by decide +kernel, rfl, by decide +kernel, by decide +kernel⟩
  refine F.ok sc (fun vs H Q E h => ?_) (fun cdv A outer s H vs Q E hr h => ?_)
  · obtain ⟨_, _, _, _, _, _, rfl, _⟩ := h
    rfl
  · obtain ⟨o, p, q, dx, r1, r2, rfl, ho, hp, hq, h1, h2, k⟩ := h
    refine ⟨_, pss_cons (ps_fld (pv 0) (pe_callF CC hr (pa_cons (pv 1) pa_nil) pass0) rfl) (pss_one (ps_fld (pv 0) (pe_callF CC hr (pa_cons (pv 2) pa_nil) pass0) rfl)), ?_⟩
    refine ⟨_, rfl, p, _, rfl, hp, by rw [List.length_map]; exact h1, ints_plain _, fun l1 H1 hl1 x1 hv1 => ?_⟩
    refine ⟨_, rfl, o, C, dx, [], rfl, x1.ins ho, cl, na, by decide, ?_⟩
    have x1u : Ext (upd H o (.ins C dx [("one", .ref l1)])) (upd H1 o (.ins C dx [("one", .ref l1)])) := x1.upd (v' := .lst []) ho (fun _ z => nomatch z)
    have oq : q ≠ o := ne_of hq ho (by simp)
    have ol1 : l1 ≠ o := (ne_of_none ho hl1).symm
    refine ⟨_, rfl, q, intsV r2, rfl, upd_k (x1.lst hq) oq, by rw [List.length_map]; exact h2, ints_plain _, fun l2 H2 hl2 x2 hv2 => ?_⟩
    refine ⟨_, rfl, o, C, dx, _, rfl, x2.ins upd_same, cl, nb, (by show 1 < 1000; decide), ?_⟩
    have hl2' : l2 ≠ o := (ne_of_none upd_same hl2).symm
    have f2 : H l2 = none := x1.free (by rw [upd_ne hl2'] at hl2; exact hl2)
    exact k l1 l2 H2 hl1 f2 (ne_of_none (upd_k hv1 ol1) hl2) (x1u.trans x2) (x2.lst (upd_k hv1 ol1)) hv2
def spInitT (C : Addr) : Sp := fun vs H Q _ => ∃ (o p dx : Addr) (ts : List W), vs = [.ref o, .ref p] ∧ H o = some (.ins C dx []) ∧ H p = some (.lst (ts.map sv)) ∧ ts.length ≤ 100000 ∧
  ∀ l H1, H l = none → Ext H H1 → H1 l = some (.lst (ts.map sv)) → Q .non (upd H1 o (.ins C dx [("tails", .ref l)]))
theorem ok_initTails1 {C f : Addr} {fd : FuncData} (F : Fun K "__init__" "Tails.__init__" Pl.c_Tails_init f fd) (cl : Cls K C) (na : NoAttr K C "tails") (CC : Cal P w K mg base CX0 1 "copied" ["value"] spCopiedG) :
    FnOk P w K mg base CX0 2 f fd ["self", "tails"] (spInitT C) := by
  have sc : FnScope ["self", "tails"] ["self", "tails"] (defScope Pl.c_Tails_init) := ⟨rfl, rfl, rfl, by decide +kernel, rfl, by decide +kernel, by decide +kernel⟩
  refine F.ok sc (fun vs H Q E h => ?_) (fun cdv A outer s H vs Q E hr h => ?_)
  · obtain ⟨_, _, _, _, rfl, _⟩ := h
    rfl
  · obtain ⟨o, p, dx, ts, rfl, ho, hp, hl, k⟩ := h
    refine ⟨_, pss_one (ps_fld (pv 0) (pe_callF CC hr (pa_cons (pv 1) pa_nil) pass0) rfl), ?_⟩
    refine ⟨_, rfl, p, _, rfl, hp, by rw [List.length_map]; exact hl, txts_plain _, fun l1 H1 hl1 x1 hv1 => ?_⟩
    exact ⟨_, rfl, o, C, dx, [], rfl, x1.ins ho, cl, na, by decide, k l1 H1 hl1 x1 hv1⟩
end
end L2


set_option Elab.async false
set_option linter.all false
set_option maxRecDepth 100000
set_option maxHeartbeats 2000000
namespace L2
open PySem PySem.Spec PyProof.Rows Tw
seal PSs PS PE PT PW PA PG PGs PI PC
/-- two readings of one text -/
structure ClashOk (ws : List W) (r1 r2 : List Nat) : Prop where
  ne : r1 ≠ r2
  h1 : ∀ i ∈ r1, i < ws.length
  h2 : ∀ i ∈ r2, i < ws.length
  tx : textOf ws r1 = textOf ws r2
theorem RM.Ok.clash {ws : List W} {r : RM} (h : r.Ok ws) (e : r.suf ws = []) : ClashOk ws r.B.reverse r.A.reverse := by
  refine ⟨fun z => h.ne ?_, fun i hi => h.hB i (List.mem_reverse.mp hi), fun i hi => h.hA i (List.mem_reverse.mp hi), ?_⟩
  · rw [List.reverse_inj.mp z]
  · rw [h.tx, e, List.append_nil]
section
variable {P : Program} {w : World} {K : PySem.W.Frag} {mg : Str → Option Value} {base : Heap} {C T cC cT cCode : Addr} {shC shT : Sp}
def spOnce1 (T cC cT : Addr) : Sp := fun vs H Q _ => ∃ (a : Addr) (ws : List W), vs = [.ref a] ∧ CodeL H a ws ∧ ws.length < 64 ∧ (∀ x ∈ ws, x.length ≤ 100) ∧ PkL T H ∧
  (∀ o dx p q r1 r2 H', XP T H H' → H o = none → H p = none → H q = none → p ≠ q → H' o = some (.ins cC dx [("one", .ref p), ("other", .ref q)]) → H' p = some (.lst (intsV r1)) → H' q = some (.lst (intsV r2)) → r1.length ≤ 10000 → r2.length ≤ 10000 → ClashOk ws r1 r2 → Q (.ref o) H') ∧
  ∀ o dx p ts H', XP T H H' → H o = none → H p = none → H' o = some (.ins cT dx [("tails", .ref p)]) → H' p = some (.lst (ts.map sv)) → ts.length ≤ 6464 → (∀ t ∈ ts, Suf ws t) → TailsOk ws ts → Q (.ref o) H'
theorem ok_once1 (D : Def K mg "once" "once" Pl.s_once ["code"]) (hE : ∃ t, mg "EMPTY" = some (.int 0 t)) (CC : Cal P w K mg base (CX1 P w) 4 "check_code" ["value"] (spCheckCode K cCode)) (CA : Cal P w K mg base CX0 4 "all_rests" ["code"] (spAll1 K T C)) (CU : Cal P w K mg base CX0 1 "unrolled" ["chain"] (spUnrolled K)) (RC : RestC P w K mg base C)
    (OC : Kls P w K mg base "Clash" cC ["one", "other"] (spInitC cC) ["code"] shC) (OT : Kls P w K mg base "Tails" cT ["tails"] (spInitT cT) ["code"] shT) : Cal P w K mg base CX0 5 "once" ["code"] (spOnce1 T cC cT) := by
  have sc : FnScope ["code", "rests"] ["code"] (defScope Pl.s_once) := ⟨rfl, rfl, rfl, by decide +kernel, rfl, by decide +kernel, by decide +kernel⟩
  obtain ⟨tE, hE⟩ := hE
  refine D.cal fun f fd F => F.ok sc (fun vs H Q E h => ?_) (fun cdv A outer s H vs Q E hr h => ?_)
  · obtain ⟨_, _, rfl, _⟩ := h
    rfl
  · obtain ⟨a, ws, rfl, hC, h64, hsh, pk, kC, kT⟩ := h
    have hu := hu_of hr
    have hr1 : Room 1 _ := hr.mono (by decide)
    have hr3 : Room 3 _ := hr.mono (by decide)
    have nd : (["rest", "code"] : List Str).Nodup := by decide +kernel
    refine ⟨_, pss_cons (ps_expr (pe_callF CC hr (pa_cons (pv 0) pa_nil) passF))
      (pss_cons (ps_set (i := 1) sc.nd rfl (Or.inl rfl) (pe_callF CA hr (pa_cons (pv 0) pa_nil) pass0))
      (pss_cons (ps_if (pt_cmp (pc_din hu (pe_glob (v := .int 0) (by rfl) hE ⟨tE, rfl⟩) (pv 1)))
        (pss_one (ps_ret (pe_kls OC hr3 (pa_cons (pe_callF CU hr1 (pa_cons (pe_fld (pe_dget hu (pv 1) (pe_glob (v := .int 0) (by rfl) hE ⟨tE, rfl⟩) (fun _ _ => rfl)) rfl) pa_nil) pass0) (pa_cons (pe_callF CU hr1 (pa_cons (pe_fld (pe_dget hu (pv 1) (pe_glob (v := .int 0) (by rfl) hE ⟨tE, rfl⟩) (fun _ _ => rfl)) rfl) pa_nil) pass0) pa_nil))))) pss_nil)
      (pss_one (ps_ret (pe_kls OT hr3 (pa_cons
        (pe_comp (N' := ["rest", "code"]) (js := [none, some 0]) (.of (by kernel_rfl)) rfl (pi_vals (pv 1)) fun C fp s₀ H₀ => ⟨pg_name (i := 0) nd rfl (Or.inl rfl), pts_nil, pe_slice (r := rSlS) sl_str (pe_ix (r := rIxL K) ix_list (pv 1) (pe_fld_s (K := K) rfl (pv 0) rfl) (fun _ _ => rfl)) (po_some (pe_fld_s (K := K) rfl (pv 0) rfl)) po_none⟩) pa_nil)))))), ?_⟩
    refine ⟨_, rfl, .ref a, rfl, hC.arg, hC.sz, fun b H1 x1 hA => ⟨fun _ => ?_, fun hb => absurd (hC.all hA) (by rw [hb]; decide)⟩⟩
    refine ⟨_, rfl, a, ws, rfl, hC.ext x1, h64, hsh, PkL.ext pk x1, fun kn N kl H2 x2 hkn hkn2 hN hRA hok hle hkl hTl => ?_⟩
    have x12 : XP T H H2 := (XP.of pk x1).trans x2
    refine ⟨_, rfl, kn, _, rfl, .inl ⟨_, (.inl 0 : Key), .inl hkn2, rfl, rfl⟩, _, rfl, ?_⟩
    cases ev : valV (knV ws N kl) (.inl 0) with
    | some u =>
      obtain ⟨⟨o, r⟩, hy, e1, rfl⟩ := valV_some ev
      have e0 : N (r.suf ws) = 0 := lenK_inj (b := 0) e1
      have yo := hok _ hy
      have es : r.suf ws = [] := hN.inj _ [] yo.isSuf ⟨r.p, _, yo.hp, Nat.le_refl _, by rw [List.drop_length]⟩ (by rw [e0, hN.nil])
      obtain ⟨dx, va, vb, hR, cA, cB⟩ := hRA _ hy
      have hl := hle _ hy
      have hlA : r.A.length ≤ 10000 := hl.1
      have hlB : r.B.length ≤ 10000 := hl.2
      refine iteT' (by simp) ?_
      refine ⟨_, rfl, kn, .ref o, rfl, .inl ⟨_, (.inl 0 : Key), .inl hkn2, rfl, ev.symm⟩, o, C, dx, _, vb, rfl, hR, RC.cls, RC.n4, rfl, vb, r.B, rfl, cB, by omega, fun l1 H3 hl1 x3 hv1 => ?_⟩
      refine ⟨_, rfl, kn, .ref o, rfl, .inl ⟨_, (.inl 0 : Key), x3.rdK (.inl hkn2), rfl, ev.symm⟩, o, C, dx, _, va, rfl, x3.ins hR, RC.cls, RC.n3, rfl, va, r.A, rfl, cA.ext x3, by omega, fun l2 H4 hl2 x4 hv2 => ?_⟩
      intro x dx' hx hdx ne
      have hx' : upd H4 dx' (.own x) x = none := by rw [upd_ne ne.symm]; exact hx
      have x5 : Ext H4 (upd (upd H4 dx' (.own x)) x (.ins cC dx' [])) := (Ext.new hdx).newer hx'
      have x34 := x3.trans x4
      have x15 : XP T H (upd (upd H4 dx' (.own x)) x (.ins cC dx' [])) := x12.then (x34.trans x5)
      refine ⟨x, l1, l2, dx', r.B.reverse, r.A.reverse, rfl, upd_same, x5.lst (x4.lst hv1), x5.lst hv2, by rw [List.length_reverse]; omega, by rw [List.length_reverse]; omega, fun p q H6 hp hq hpq x6 hp6 hq6 => ⟨rfl, ?_⟩⟩
      have fx : H x = none := x12.free (x34.free hx)
      have x16 : XP T H (upd (upd (upd H4 dx' (.own x)) x (.ins cC dx' [])) x (.ins cC dx' [("one", .ref p)])) := x15.over fx upd_same (fun _ z => nomatch z) fun _ z => nomatch z
      have hp' : p ≠ x := (ne_of_none upd_same hp).symm
      have hq' : q ≠ x := (ne_of_none upd_same hq).symm
      refine kC x dx' p q _ _ _ ?_ fx (x15.free hp) (x15.free hq) hpq upd_same (upd_k hp6 hp') (upd_k hq6 hq') (by rw [List.length_reverse]; omega) (by rw [List.length_reverse]; omega) (yo.clash es)
      exact (x16.then x6).over fx (x6.ins upd_same) (fun _ z => nomatch z) fun _ z => nomatch z
    | none =>
      refine iteF' (by simp) ?_
      refine ⟨_, rfl, kn, _, rfl, hkn2, fun o H3 x3 hkn3 => ?_⟩
      have hne : ∀ x ∈ kl, x.2.suf ws ≠ [] := fun x hx e => by
        have := valV_of' (κ := fun x : Addr × RM => (.inl (N (x.2.suf ws) : Int) : Key)) (v := fun x => V.ref x.1) hx
        rw [e, hN.nil] at this
        rw [show (.inl ((0 : Nat) : Int) : Key) = .inl 0 from rfl, ev] at this
        cases this
      have hC2 := x12.codeL hC
      refine block_vals (l := kl) (κ := fun x : Addr × RM => (.inl (N (x.2.suf ws) : Int) : Key)) (ν := fun x => V.ref x.1) hkn3 (small_line (by omega)) (0, ⟨0, 0, [], []⟩) (fun x => sv (x.2.suf ws)) (fun x H' _ _ Q' k' => k' H' (Ext.refl _)) (fun x H' hx x4 Q' k' => ?_) (fun D H4 hD x4 hD4 => ?_)
      · obtain ⟨dx, va, vb, hR, cA, cB⟩ := hRA _ hx
        have xo := hok _ hx
        have hR' := x4.ins (x3.ins hR)
        have hxl : (ws.getD x.2.p []).length ≤ 100 := hsh _ (by rw [List.getD_eq_getElem?_getD, List.getElem?_eq_getElem xo.hp]; exact List.getElem_mem xo.hp)
        refine ⟨_, rfl, _, rfl, x.1, C, dx, _, .int (x.2.p : Int), rfl, hR', RC.cls, RC.n1, rfl, a, _, (x.2.p : Int), sv (ws.getD x.2.p []), rfl, rfl, SqL.of ((hC2.ext x3).ext x4).at_, atI_nat (by rw [List.getElem?_map]; simp [xo.hp]), ?_⟩
        refine ⟨_, rfl, x.1, C, dx, _, .int (x.2.m : Int), rfl, hR', RC.cls, RC.n2, rfl, _, rfl, ws.getD x.2.p [], rfl, small_line (by omega), ?_⟩
        rw [cutL_tail' _ _ xo.hm]
        exact k' _ _ (Ext.refl _) rfl
      · intro x dx hx hdx ne
        have hx' : upd H4 dx (.own x) x = none := by rw [upd_ne ne.symm]; exact hx
        have x5 : Ext H4 (upd (upd H4 dx (.own x)) x (.ins cT dx [])) := (Ext.new hdx).newer hx'
        have x34 := x3.trans x4
        have hD5 : upd (upd H4 dx (.own x)) x (.ins cT dx []) D = some (.lst ((kl.map fun x => x.2.suf ws).map sv)) := by
          rw [List.map_map]
          exact x5.lst hD4
        refine ⟨x, D, dx, kl.map fun x => x.2.suf ws, rfl, upd_same, hD5, by rw [List.length_map]; omega, fun l H6 hl x6 hl6 => ⟨rfl, ?_⟩⟩
        have fx : H x = none := x12.free (x34.free hx)
        have x15 : XP T H (upd (upd H4 dx (.own x)) x (.ins cT dx [])) := x12.then (x34.trans x5)
        refine kT x dx l _ _ ?_ fx (x15.free hl) upd_same (upd_k hl6 (ne_of_none upd_same hl).symm) (by rw [List.length_map]; exact hkl) (fun t ht => ?_) (hTl hne)
        · exact (x15.then x6).over fx (x6.ins upd_same) (fun _ z => nomatch z) fun _ z => nomatch z
        · obtain ⟨y, hy, rfl⟩ := List.mem_map.mp ht
          exact (hok y hy).isSuf
end
end L2


set_option Elab.async false
set_option linter.all false
set_option maxRecDepth 100000
set_option maxHeartbeats 2000000
namespace L2
open PySem PySem.Spec PyProof.Rows Tw
seal PSs PS PE PT PW PA PG PGs PI PC
section
variable {P : Program} {w : World} {K : PySem.W.Frag} {mg : Str → Option Value} {base : Heap}
def spShowsC (C : Addr) : Sp := fun vs H Q _ => ∃ (o a p q dx : Addr) (ws : List W) (r1 r2 : List Nat), vs = [.ref o, .ref a] ∧ H o = some (.ins C dx [("one", .ref p), ("other", .ref q)]) ∧ IntsL H p r1 ∧ IntsL H q r2 ∧ r1.length ≤ 10001 ∧ r2.length ≤ 10001 ∧ CodeL H a ws ∧ (∀ x ∈ ws, x.length ≤ 90) ∧
  ∀ b H', Ext H H' → (b = true ↔ ClashOk ws r1 r2) → Q (.bl b) H'
theorem ints_inj : ∀ {r q : List Nat}, (r.map fun (i : Nat) => (i : Int)) = (q.map fun (i : Nat) => (i : Int)) ↔ r = q := fun {r q} => ⟨fun h => by
  have : ∀ {r q : List Nat}, (r.map fun (i : Nat) => (i : Int)) = (q.map fun (i : Nat) => (i : Int)) → r = q := by
    intro r
    induction r with
    | nil => intro q h; cases q with
      | nil => rfl
      | cons _ _ => simp at h
    | cons a r ih => intro q h; cases q with
      | nil => simp at h
      | cons b q =>
        simp only [List.map_cons, List.cons.injEq] at h
        rw [ih h.2, show a = b by omega]
  exact this h, fun h => by rw [h]⟩
theorem ints_int (r : List Nat) : intsV r = (r.map fun (i : Nat) => (i : Int)).map V.int := by rw [List.map_map]; rfl
theorem ok_showsC {C f : Addr} {fd : FuncData} (F : Fun K "shows" "Clash.shows" Pl.c_Clash_shows f fd) (B : Bare mg) (cl : Cls K C) (na : NoAttr K C "one") (nb : NoAttr K C "other") (C1 : Cal P w K mg base CX0 3 "is_code" ["value"] (spIsCode K))
    (C2 : Cal P w K mg base CX0 3 "are_places" ["values", "count"] (spArePlaces K)) (C3 : Cal P w K mg base CX0 2 "joined" ["code", "places"] (spJoined K)) : FnOk P w K mg base CX0 5 f fd ["self", "code"] (spShowsC C) := by
  have sc : FnScope ["self", "code"] ["self", "code"] (defScope Pl.c_Clash_shows) := ⟨rfl, rfl, rfl, by decide +kernel, rfl, by decide +kernel, by decide +kernel⟩
  refine F.ok sc (fun vs H Q E h => ?_) (fun cdv A outer s H vs Q E hr h => ?_)
  · obtain ⟨_, _, _, _, _, _, _, _, rfl, _⟩ := h
    rfl
  · obtain ⟨o, a, p, q, dx, ws, r1, r2, rfl, ho, hP, hQ', hl1, hl2, hC, hsh, k⟩ := h
    have hr2 : Room 2 _ := hr.mono (by decide)
    have hr3 : Room 3 _ := hr.mono (by decide)
    have hu : _ + 64 < cLine := hr.units
    refine ⟨_, pss_cons (ps_if (pt_not (pt_val (pe_callF C1 hr3 (pa_cons (pv 1) pa_nil) pass0))) (pss_one (ps_ret pe_bl)) pss_nil)
      (pss_cons (ps_if (PW.pt (pw_or (pt_not (pt_val (pe_callF C2 hr3 (pa_cons (pe_fld (pv 0) rfl) (pa_cons (pe_callB call_len_seq (by rfl) B.len PySem.boot_len (pa_cons (pv 1) pa_nil)) pa_nil)) pass0)))
          (pw_or1 (pt_not (pt_val (pe_callF C2 hr3 (pa_cons (pe_fld (pv 0) rfl) (pa_cons (pe_callB call_len_seq (by rfl) B.len PySem.boot_len (pa_cons (pv 1) pa_nil)) pa_nil)) pass0)))))) (pss_one (ps_ret pe_bl)) pss_nil)
      (pss_one (ps_ret (pe_and (pe_cmpR (op_neLI hu) (pe_fld (pv 0) rfl) (pe_fld (pv 0) rfl) (nomark _))
        (pe_one (pe_cmpR op_eq (pe_callF C3 hr2 (pa_cons (pv 1) (pa_cons (pe_fld (pv 0) rfl) pa_nil)) pass0) (pe_callF C3 hr2 (pa_cons (pv 1) (pa_cons (pe_fld (pv 0) rfl) pa_nil)) pass0) (nomark _))))))), ?_⟩
    refine ⟨_, rfl, .ref a, rfl, hC.arg, hC.sz, fun b H1 x1 hb => ⟨_, rfl, ?_⟩⟩
    rw [hC.all hb]
    refine iteF ?_
    have hC1 := hC.ext x1
    have no : ∀ {H' : Hp}, Ext H H' → ¬ ClashOk ws r1 r2 → Q (.bl false) H' := fun {H'} x z => k false H' x ⟨fun e => (nomatch e), fun e => absurd e z⟩
    refine ⟨_, rfl, o, C, dx, _, .ref p, rfl, x1.ins ho, cl, na, rfl, _, rfl, a, _, rfl, .inl (SqL.of hC1.at_), _, _, rfl, (hP.ext x1).arg, fun b2 H2 x2 hb2 => ⟨_, rfl, ?_⟩⟩
    have e2 : b2 = decide (∀ i ∈ r1, i < ws.length) := by
      rw [AllSo.eq (.inl (hP.ext x1).1) hb2, List.length_map]
      exact places_all
    have x12 := x1.trans x2
    by_cases hin : ∀ i ∈ r1, i < ws.length
    · rw [e2, decide_eq_true hin]
      refine iteF ?_
      have hC2 := hC1.ext x2
      refine ⟨_, rfl, o, C, dx, _, .ref q, rfl, x12.ins ho, cl, nb, rfl, _, rfl, a, _, rfl, .inl (SqL.of hC2.at_), _, _, rfl, (hQ'.ext x12).arg, fun b3 H3 x3 hb3 => ⟨_, rfl, ?_⟩⟩
      have e3 : b3 = decide (∀ i ∈ r2, i < ws.length) := by
        rw [AllSo.eq (.inl (hQ'.ext x12).1) hb3, List.length_map]
        exact places_all
      have x13 := x12.trans x3
      by_cases hin2 : ∀ i ∈ r2, i < ws.length
      · rw [e3, decide_eq_true hin2]
        refine iteF ?_
        have hC3 := hC2.ext x3
        have hP3 := hP.ext x13
        have hQ3 := hQ'.ext x13
        have ho3 := x13.ins ho
        refine ⟨_, rfl, o, C, dx, _, .ref p, rfl, ho3, cl, na, rfl, _, rfl, o, C, dx, _, .ref q, rfl, ho3, cl, nb, rfl, p, q, _, _, rfl, rfl, by have := hP3.1; rw [ints_int] at this; exact SqL.of this, by have := hQ3.1; rw [ints_int] at this; exact SqL.of this, _, rfl, ?_⟩
        have tl : ∀ r : List Nat, r.length ≤ 10001 → (textOf ws r).length ≤ 1000000 := fun r hr => by
          have := textOf_len_le hsh r
          have : r.length * 90 ≤ 10001 * 90 := Nat.mul_le_mul_right _ hr
          omega
        by_cases he : r1 = r2
        · refine iteF' ?_ (no x13 fun z => z.ne he)
          simp [he]
        · refine iteT' ?_ ?_
          · simpa [ints_inj] using he
          refine ⟨_, rfl, _, rfl, o, C, dx, _, .ref p, rfl, ho3, cl, na, rfl, a, p, ws, r1, rfl, hC3.code, hP3.places, hin, tl r1 hl1, fun H4 x4 => ?_⟩
          have ho4 := x4.ins ho3
          refine ⟨_, rfl, _, rfl, o, C, dx, _, .ref q, rfl, ho4, cl, nb, rfl, a, q, ws, r2, rfl, (hC3.ext x4).code, (hQ3.ext x4).places, hin2, tl r2 hl2, fun H5 x5 => ?_⟩
          refine ⟨rfl, k _ H5 ((x13.trans x4).trans x5) ?_⟩
          rw [decide_eq_true_iff]
          exact ⟨fun z => ⟨he, hin, hin2, st_inj (V.str.inj z)⟩, fun z => by rw [z.tx]⟩
      · rw [e3, decide_eq_false hin2]
        exact iteT (no x13 fun z => hin2 z.h2)
    · rw [e2, decide_eq_false hin]
      exact iteT (iteT (no x12 fun z => hin z.h1))
end
end L2


set_option Elab.async false
set_option linter.all false
set_option maxRecDepth 100000
set_option maxHeartbeats 4000000
namespace L2
open PySem PySem.Spec PyProof.Rows Tw
instance keyMem (k : Key) (ks : List Key) : Decidable (k ∈ ks) := decidable_of_iff ((ks.any fun j => decide (j = k)) = true) (by
  rw [List.any_eq_true]
  exact ⟨fun ⟨j, hj, e⟩ => by rw [← of_decide_eq_true e]; exact hj, fun h => ⟨k, h, decide_eq_true rfl⟩⟩)
/-! ### a dict of True -/
def notedK (ks : List Key) : List (Key × V) := mergeK [] (ks.map fun k => (k, V.bl true))
theorem putK_keys (kvs : List (Key × V)) (k : Key) (v : V) : (putK kvs k v).map (·.1) = if k ∈ kvs.map (·.1) then kvs.map (·.1) else kvs.map (·.1) ++ [k] := by
  unfold putK
  have e : (kvs.any fun kv => decide (kv.1 = k)) = true ↔ k ∈ kvs.map (·.1) := by
    rw [List.any_eq_true, List.mem_map]
    constructor
    · rintro ⟨p, hp, hk⟩; exact ⟨p, hp, by simpa using hk⟩
    · rintro ⟨p, hp, hk⟩; exact ⟨p, hp, by simpa using hk⟩
  by_cases h : k ∈ kvs.map (·.1)
  · rw [if_pos (e.mpr h), if_pos h, List.map_map]
    apply List.map_congr_left
    intro p _
    simp only [Function.comp_apply]
    split <;> rfl
  · rw [if_neg (fun z => h (e.mp z)), if_neg h, List.map_append]
    rfl
/-- the keys of a table that grows, each once -/
def addKey (ks : List Key) (k : Key) : List Key := if k ∈ ks then ks else ks ++ [k]
def distinct (ks : List Key) : List Key := ks.foldl addKey []
theorem merge_keys : ∀ (more kvs : List (Key × V)), (mergeK kvs more).map (·.1) = (more.map (·.1)).foldl addKey (kvs.map (·.1))
  | [], _ => rfl
  | p :: more, kvs => by
    show (mergeK (putK kvs p.1 p.2) more).map (·.1) = _
    rw [merge_keys more, putK_keys]
    rfl
theorem notedK_keys (ks : List Key) : (notedK ks).map (·.1) = distinct ks := by
  unfold notedK distinct
  rw [merge_keys, List.map_map]
  congr 1
  exact List.map_id ks
theorem addKey_nd {ks : List Key} {k : Key} (h : ks.Nodup) : (addKey ks k).Nodup := by
  unfold addKey
  split
  · exact h
  · rename_i hk
    rw [List.nodup_append]
    exact ⟨h, by simp, fun a ha b hb => by rw [List.mem_singleton.mp hb]; intro e; exact hk (e ▸ ha)⟩
theorem mem_addKey {ks : List Key} {k j : Key} : j ∈ addKey ks k ↔ j ∈ ks ∨ j = k := by
  unfold addKey
  split
  · rename_i hk
    exact ⟨.inl, fun h => h.elim id fun e => e ▸ hk⟩
  · simp
theorem mem_foldl : ∀ (ks acc : List Key) (j : Key), j ∈ ks.foldl addKey acc ↔ j ∈ acc ∨ j ∈ ks
  | [], acc, j => by simp
  | k :: ks, acc, j => by
    rw [List.foldl_cons, mem_foldl ks, mem_addKey, List.mem_cons]
    constructor
    · rintro ((h | h) | h)
      · exact .inl h
      · exact .inr (.inl h)
      · exact .inr (.inr h)
    · rintro (h | h | h)
      · exact .inl (.inl h)
      · exact .inl (.inr h)
      · exact .inr h
theorem mem_distinct (ks : List Key) (j : Key) : j ∈ distinct ks ↔ j ∈ ks := by unfold distinct; rw [mem_foldl]; simp
theorem addKey_len (ks : List Key) (k : Key) : (addKey ks k).length ≤ ks.length + 1 := by unfold addKey; split <;> simp
theorem foldl_len : ∀ (ks acc : List Key), (ks.foldl addKey acc).length ≤ acc.length + ks.length
  | [], _ => Nat.le_refl _
  | k :: ks, acc => by
    have h1 := foldl_len ks (addKey acc k)
    have h2 := addKey_len acc k
    rw [List.foldl_cons, List.length_cons]
    omega
/-- as many keys as there were things: no two alike -/
theorem distinct_all (ks : List Key) : (distinct ks).length = ks.length ↔ ks.Nodup := by
  have key : ∀ (ks acc : List Key), acc.Nodup → ((ks.foldl addKey acc).length = acc.length + ks.length ↔ ks.Nodup ∧ ∀ k ∈ ks, k ∉ acc) := by
    intro ks
    induction ks with
    | nil => intro acc _; simp
    | cons k ks ih =>
      intro acc hacc
      rw [List.foldl_cons, List.length_cons, List.nodup_cons]
      by_cases h : k ∈ acc
      · have e : addKey acc k = acc := by unfold addKey; rw [if_pos h]
        rw [e]
        have := foldl_len ks acc
        constructor
        · intro z; omega
        · rintro ⟨_, z⟩; exact absurd h (z k List.mem_cons_self)
      · have e : addKey acc k = acc ++ [k] := by unfold addKey; rw [if_neg h]
        have hn : (acc ++ [k]).Nodup := by rw [← e]; exact addKey_nd hacc
        rw [e, show acc.length + (ks.length + 1) = (acc ++ [k]).length + ks.length by simp; omega, ih _ hn]
        constructor
        · rintro ⟨h1, h2⟩
          refine ⟨⟨fun z => h2 k z (by simp), h1⟩, fun j hj => ?_⟩
          rcases List.mem_cons.mp hj with rfl | hj
          · exact h
          · exact fun z => h2 j hj (by simp [z])
        · rintro ⟨⟨h1, h2⟩, h3⟩
          refine ⟨h2, fun j hj z => ?_⟩
          rcases List.mem_append.mp z with z | z
          · exact h3 j (List.mem_cons_of_mem _ hj) z
          · rw [List.mem_singleton.mp z] at hj; exact h1 hj
  have := key ks [] List.nodup_nil
  simpa [distinct] using this
theorem valV_mem {kvs : List (Key × V)} {k : Key} : (valV kvs k).isSome = decide (k ∈ kvs.map (·.1)) := by
  rw [← valV_any, Bool.eq_iff_iff, List.any_eq_true, decide_eq_true_iff, List.mem_map]
  constructor
  · rintro ⟨p, hp, hk⟩; exact ⟨p, hp, by simpa using hk⟩
  · rintro ⟨p, hp, hk⟩; exact ⟨p, hp, by simpa using hk⟩
theorem noted_has (ks : List Key) (k : Key) : (valV (notedK ks) k).isSome = decide (k ∈ ks) := by
  rw [valV_mem, notedK_keys]
  rw [decide_eq_decide]
  exact mem_distinct ks k
theorem noted_len (ks : List Key) : (notedK ks).length = (distinct ks).length := by rw [← notedK_keys, List.length_map]
section
variable {P : Program} {w : World} {K : PySem.W.Frag} {mg : Str → Option Value} {base : Heap}
def spNoted (K : PySem.W.Frag) : Sp := fun vs H Q _ => ∃ (a : Addr) (ks : List Key), vs = [.ref a] ∧ SqL K H a (ks.map kV) ∧ ks.length ≤ 1000000 ∧
  ∀ D H', H D = none → Ext H H' → H' D = some (.dK (notedK ks)) → Q (.ref D) H'
theorem ok_noted (D : Def K mg "noted" "noted" Pl.s_noted ["values"]) (B : Bare mg) : Cal P w K mg base CX0 1 "noted" ["values"] (spNoted K) := by
  have sc : FnScope ["values"] ["values"] (defScope Pl.s_noted) := ⟨rfl, rfl, rfl, by decide +kernel, rfl, by decide +kernel, by decide +kernel⟩
  refine D.cal fun f fd F => F.ok sc (fun vs H Q E h => ?_) (fun cdv A outer s H vs Q E hr h => ?_)
  · obtain ⟨_, _, rfl, _⟩ := h
    rfl
  · obtain ⟨a, ks, rfl, hq, hz, k⟩ := h
    have nd : (["value"] : List Str).Nodup := by decide +kernel
    refine ⟨_, pss_one (ps_ret (pe_callTy (call_dict_pairs rfl) (by rfl) B.dict boot_dict (pa_cons
      (pe_comp (N' := ["value"]) (js := [none]) (.of (by kernel_rfl)) rfl (pi_list (pv 0)) fun C fp s₀ H₀ => ⟨pg_name (i := 0) nd rfl (Or.inl rfl), pts_nil, pe_tup (pa_cons (pv 0) (pa_cons pe_bl pa_nil))⟩) pa_nil))), ?_⟩
    refine ⟨_, rfl, a, rfl, ⟨_, hq⟩, ?_⟩
    refine block_list hq (by rw [List.length_map]; exact small_line hz) (fun _ => true) (fun x v H => ∃ t, v = .ref t ∧ H t = some (.tup [x, .bl true])) ?_ (fun x H' _ _ Q' k' => k' H' (Ext.refl _)) ?_ ?_
    · rintro x v H' H2 hk ⟨t, rfl, ht⟩
      exact ⟨t, rfl, hk t _ ht (fun _ => by simp) fun _ => by simp⟩
    · intro x H' hx x1 _ Q' k'
      exact ⟨_, rfl, by show 2 ≤ sizeLine; decide, fun p hp => k' _ _ (Ext.new hp) ⟨p, rfl, upd_same⟩⟩
    · intro D H' ys h1 x1 hD hp
      have ef : (ks.map kV).filter (fun _ => true) = ks.map kV := List.filter_eq_self.mpr fun _ _ => rfl
      rw [ef] at hp
      have : ∀ {ks : List Key} {ys : List V}, Paired (fun x y => ∃ t, y = .ref t ∧ H' t = some (.tup [x, .bl true])) (ks.map kV) ys → ∃ ts : List Addr, ys = ts.map V.ref ∧ Paired (fun t (kv : Key × V) => SqT K H' t [kV kv.1, kv.2]) ts (ks.map fun k => (k, V.bl true)) := by
        intro ks
        induction ks with
        | nil => intro ys h; cases h; exact ⟨[], rfl, .nil⟩
        | cons k ks ih =>
          intro ys h
          cases h with
          | cons r1 r2 =>
            obtain ⟨ts, rfl, ht⟩ := ih r2
            obtain ⟨t, rfl, e⟩ := r1
            exact ⟨t :: ts, rfl, .cons (SqT.of e) ht⟩
      obtain ⟨ts, rfl, ht⟩ := this hp
      refine ⟨D, ts, _, rfl, SqL.of hD, ht, fun d hd => ?_⟩
      exact k d _ (x1.free hd) (x1.newer hd) upd_same
end
end L2


set_option Elab.async false
set_option linter.all false
set_option maxRecDepth 100000
set_option maxHeartbeats 2000000
namespace L2
open PySem PySem.Spec PyProof.Rows Tw
seal PSs PS PE PT PW PA PG PGs PI PC
theorem range_getD (l : List Nat) (f : Nat → V) : (List.range l.length).map (fun i => f (l.getD i 0)) = l.map f := by
  refine List.ext_getElem? fun i => ?_
  by_cases h : i < l.length <;> simp [h]
section
variable {P : Program} {w : World} {K : PySem.W.Frag} {mg : Str → Option Value} {base : Heap}
def spMarks (K : PySem.W.Frag) : Sp := fun vs H Q _ => ∃ (g : Addr) (ws : List W) (d : Nat → Addr) (f : W → Addr) (t : W) (m : Nat), vs = [.ref g, sv t, .int (m : Int)] ∧ GR H g ws d f ∧ ws.length ≤ 10000 ∧ t.length ≤ 1000000 ∧ m ≤ t.length ∧
  ∀ D H', H D = none → Ext H H' → H' D = some (.lst (intsV ((standL ws t m).map fun n => m + n))) → Q (.ref D) H'
theorem ok_marks_behind (D : Def K mg "marks_behind" "marks_behind" Pl.s_marks_behind ["groups", "text", "mark"]) (C1 : Cal P w K mg base CX0 1 "standing" ["groups", "text", "mark"] (spStanding K)) :
    Cal P w K mg base CX0 2 "marks_behind" ["groups", "text", "mark"] (spMarks K) := by
  have sc : FnScope ["groups", "text", "mark"] ["groups", "text", "mark"] (defScope Pl.s_marks_behind) := ⟨rfl, rfl, rfl, by decide +kernel, rfl, by decide +kernel, by decide +kernel⟩
  refine D.cal fun f fd F => F.ok sc (fun vs H Q E h => ?_) (fun cdv A outer s H vs Q E hr h => ?_)
  · obtain ⟨_, _, _, _, _, _, rfl, _⟩ := h
    rfl
  · obtain ⟨g, ws, d, f, t, m, rfl, G, hwl, htl, hmt, k⟩ := h
    have nd : (["behind", "places"] : List Str).Nodup := by decide +kernel
    refine ⟨_, pss_one (ps_ret (pe_comp (N' := ["behind", "places"]) (js := [none, none]) (.of (by kernel_rfl)) rfl (pi_list (pe_callF C1 hr (pa_cons (pv 0) (pa_cons (pv 1) (pa_cons (pv 2) pa_nil))) pass0)) fun C fp s₀ H₀ =>
        ⟨pg_tupK (K := K) (n := 2) rfl rfl (pgs_cons (pg_name (i := 0) nd rfl (Or.inl rfl)) (pgs_cons (pg_name (i := 1) nd rfl (Or.inl rfl)) pgs_nil)), pts_nil, pv 0⟩)), ?_⟩
    refine ⟨_, rfl, _, rfl, _, rfl, g, ws, d, f, t, m, rfl, G, hwl, htl, hmt, fun D H3 ys hD x3 kb hys hpr => ⟨D, rfl, ⟨_, SqL.of hys⟩, ?_⟩⟩
    have hlen := hpr.length
    have hsl := standL_len ws t m
    refine block_pairs (SqL.of hys) (by rw [← hlen]; exact small_line (by omega)) (fun i => .int ((m : Int) + (((standL ws t m).getD i 0 : Nat) : Int))) (fun i => .ref (f (cut t m ((standL ws t m).getD i 0))))
      (fun i => .int ((m : Int) + (((standL ws t m).getD i 0 : Nat) : Int))) (fun i v e => ?_) (fun i H' R hi2 kp hR => ⟨_, rfl, hR⟩) (fun E hE => k E _ (x3.free hE) (x3.newer hE) ?_)
    · obtain ⟨n, e1, t', rfl, e2⟩ := paired_get hpr e
      have : (standL ws t m).getD i 0 = n := by simp [e1]
      rw [this]
      exact ⟨t', rfl, e2⟩
    · rw [upd_same, ← hlen]
      rw [range_getD (standL ws t m) fun n => .int ((m : Int) + (n : Int)), intsV, List.map_map]
      rfl

abbrev tk (us : List W) : List Key := us.map fun x => (.inr (st x) : Key)
theorem mem_tk {us : List W} {x : W} : (.inr (st x) : Key) ∈ tk us ↔ x ∈ us := by
  constructor
  · intro h
    obtain ⟨y, hy, e⟩ := List.mem_map.mp h
    rw [← wK_inj (a := y) (b := x) e]
    exact hy
  · intro h
    exact List.mem_map.mpr ⟨x, h, rfl⟩
/-- whatever the heads leave of the texts is among these -/
def Left (hs ts us : List W) : Prop := ∀ x ∈ ts, ∀ y ∈ hs, ∀ r, x = y ++ r → r ∈ us
def spKnown (K : PySem.W.Frag) : Sp := fun vs H Q _ => ∃ (h t d : Addr) (hs ts us : List W), vs = [.ref h, .ref t, .ref d] ∧ CodeAt K H h hs ∧ CodeAt K H t ts ∧ Rd H d (.dK (notedK (tk us))) ∧ ∀ b H', Ext H H' → (b = true ↔ Left hs ts us) → Q (.bl b) H'
theorem left_one {hs us : List W} {x : W} : (∀ n ∈ standL hs x 0, x.drop n ∈ us) ↔ ∀ y ∈ hs, ∀ r, x = y ++ r → r ∈ us := by
  constructor
  · intro h y hy r e
    obtain ⟨a1, _, a3⟩ := stand_of (m := 0) hy (Nat.zero_le _) (show x.drop 0 = _ from e)
    have := h _ a1
    rw [Nat.zero_add] at a3
    rw [a3] at this
    exact this
  · intro h n hn
    obtain ⟨h1, h2, h3⟩ := (mem_standL hs x 0 n (Nat.zero_le _)).mp hn
    refine h _ h1 _ ?_
    have := cut_app x 0 n
    rw [Nat.zero_add, List.drop_zero] at this
    exact this.symm
theorem ok_rests_known (D : Def K mg "rests_known" "rests_known" Pl.s_rests_known ["heads", "texts", "known"]) (CG : Cal P w K mg base CX0 1 "grouped" ["words"] (spGrouped K)) (CM : Cal P w K mg base CX0 2 "marks_behind" ["groups", "text", "mark"] (spMarks K)) :
    Cal P w K mg base CX0 3 "rests_known" ["heads", "texts", "known"] (spKnown K) := by
  have sc : FnScope ["heads", "texts", "known", "groups", "text", "mark"] ["heads", "texts", "known"] (defScope Pl.s_rests_known) := ⟨rfl, rfl, rfl, by decide +kernel, rfl, by decide +kernel, by decide +kernel⟩
  refine D.cal fun f fd F => F.ok sc (fun vs H Q E h => ?_) (fun cdv A outer s H vs Q E hr h => ?_)
  · obtain ⟨_, _, _, _, _, _, rfl, _⟩ := h
    rfl
  · obtain ⟨ha, ta, d, hs, ts, us, rfl, hH, hT, hd, k⟩ := h
    have hu := hu_of hr
    have hr1 : Room 1 _ := hr.mono (by decide)
    refine ⟨_, pss_cons (ps_set (i := 3) sc.nd rfl (Or.inl rfl) (pe_callF CG hr1 (pa_cons (pv 0) pa_nil) pass0))
      (pss_cons (ps_for PassesOwn.never rfl (pi_list (pv 1)) (pg_name (i := 4) sc.nd rfl (Or.inl rfl))
        (pss_one (ps_for PassesOwn.never rfl (pi_list (pe_callF CM hr (pa_cons (pv 3) (pa_cons (pv 4) (pa_cons pe_int pa_nil))) pass0)) (pg_name (i := 5) sc.nd rfl (Or.inl rfl))
          (pss_one (ps_if (pt_cmp (pc_dnotin hu (pe_slice (r := rSlS) sl_str (pv 4) (po_some (pv 5)) po_none) (pv 2))) (pss_one (ps_ret pe_bl)) pss_nil)))))
      (pss_one (ps_ret pe_bl))), ?_⟩
    refine ⟨_, rfl, ha, hs, rfl, hH, fun g dd ff H1 hg x1 G => ?_⟩
    refine ⟨_, rfl, ta, rfl, ⟨_, (x1.code hT).1⟩, ?_⟩
    refine for_list (K := K) (a := ta) (xs := ts.map sv) (fun i σ H3 => (∃ o1 o2 : Option V, σ = [some (.ref ha), some (.ref ta), some (.ref d), some (.ref g), o1, o2]) ∧ Ext H1 H3 ∧ ∀ x ∈ ts.take i, ∀ y ∈ hs, ∀ r, x = y ++ r → r ∈ us) ⟨⟨_, _, rfl⟩, Ext.refl _, fun x hx => by simp at hx⟩ (fun i σ H3 _ h => (h.2.1.code (x1.code hT)).1) ?_ ?_
    · rintro i v σ H3 hv ⟨⟨o1, o2, rfl⟩, x3, hok⟩
      rw [List.getElem?_map] at hv
      obtain ⟨x, hx, rfl⟩ := Option.map_eq_some_iff.mp hv
      have hxm := List.mem_of_getElem? hx
      have hxl := hT.2.2 x hxm
      refine ⟨_, rfl, _, rfl, g, hs, dd, ff, x, 0, rfl, x3.gr G.rd, hH.2.1, by omega, Nat.zero_le _, fun D H4 hD x4 hD4 => ⟨D, rfl, ⟨_, SqL.of hD4⟩, ?_⟩⟩
      have x14 := x1.trans (x3.trans x4)
      have hd4 := x14.rdK hd
      refine for_list (K := K) (a := D) (xs := intsV ((standL hs x 0).map fun n => 0 + n)) (fun j σ H5 => (∃ o2 : Option V, σ = [some (.ref ha), some (.ref ta), some (.ref d), some (.ref g), some (sv x), o2]) ∧ H5 = H4 ∧ ∀ n ∈ (standL hs x 0).take j, x.drop n ∈ us) ⟨⟨_, rfl⟩, rfl, fun n hn => by simp at hn⟩ (fun j σ H5 _ h => by rw [h.2.1]; exact SqL.of hD4) ?_ ?_
      · rintro j v σ H5 hv ⟨⟨o2, rfl⟩, rfl, hin⟩
        rw [intsV, List.map_map, List.getElem?_map] at hv
        obtain ⟨n, hn, rfl⟩ := Option.map_eq_some_iff.mp hv
        have hle : n ≤ x.length := by
          have := ((mem_standL hs x 0 n (Nat.zero_le _)).mp (List.mem_of_getElem? hn)).2.1
          omega
        simp only [Function.comp, Nat.zero_add]
        refine ⟨_, rfl, _, rfl, _, rfl, x, rfl, small_line (by omega), ?_⟩
        rw [cutL_tail' _ _ hle]
        refine ⟨_, rfl, d, _, rfl, .inl ⟨_, (.inr (st (x.drop n)) : Key), hd4, rfl, rfl⟩, _, rfl, ?_⟩
        rw [noted_has]
        by_cases q : x.drop n ∈ us
        · refine iteF' (by simp only [mem_tk, q, decide_true, Bool.not_true]; decide) ⟨⟨_, rfl⟩, rfl, fun m hm => ?_⟩
          rw [take_snoc hn] at hm
          rcases List.mem_append.mp hm with z | z
          · exact hin m z
          · rw [List.mem_singleton.mp z]; exact q
        · refine iteT' (by simp only [mem_tk, q, decide_false, Bool.not_false]) ?_
          refine k false _ x14 ⟨fun e => (nomatch e), fun e => absurd (left_one.mpr (e x hxm) n (List.mem_of_getElem? hn)) q⟩
      · rintro σ H5 ⟨⟨o2, rfl⟩, rfl, hin⟩
        refine ⟨⟨_, _, rfl⟩, x3.trans x4, fun y hy => ?_⟩
        rw [take_snoc hx] at hy
        rcases List.mem_append.mp hy with z | z
        · exact hok y z
        · rw [List.mem_singleton.mp z]
          rw [intsV, List.length_map, List.length_map, List.take_length] at hin
          exact left_one.mp hin
    · rintro σ H3 ⟨⟨o1, o2, rfl⟩, x3, hok⟩
      rw [List.length_map, List.take_length] at hok
      exact k true _ (x1.trans x3) ⟨fun _ => hok, fun _ => rfl⟩
end
end L2


set_option Elab.async false
set_option linter.all false
set_option maxRecDepth 100000
set_option maxHeartbeats 2000000
namespace L2
open PySem PySem.Spec PyProof.Rows Tw
seal PSs PS PE PT PW PA PG PGs PI PC
theorem getD_mem {ws : List W} {x : W} (h : x ∈ ws) : ∃ i, i < ws.length ∧ ws.getD i [] = x := by
  obtain ⟨i, hi, e⟩ := List.mem_iff_getElem.mp h
  exact ⟨i, hi, by rw [List.getD_eq_getElem?_getD, List.getElem?_eq_getElem hi]; exact e⟩
theorem mem_getD {ws : List W} {i : Nat} (h : i < ws.length) : ws.getD i [] ∈ ws := by
  rw [List.getD_eq_getElem?_getD, List.getElem?_eq_getElem h]
  exact List.getElem_mem h
theorem tk_nodup {ws : List W} : (tk ws).Nodup ↔ ws.Nodup := by
  constructor
  · intro h
    induction ws with
    | nil => exact List.nodup_nil
    | cons x ws ih =>
      rw [tk, List.map_cons, List.nodup_cons] at h
      exact List.nodup_cons.mpr ⟨fun z => h.1 (mem_tk.mpr z), ih h.2⟩
  · intro h
    exact nodup_map_of h fun a _ b _ e => wK_inj e
theorem tails_iff {ws ts : List W} (hne : [] ∉ ts) : TailsOk ws ts ↔ ws.Nodup ∧ Left ws ws (ts ++ [[]]) ∧ Left ws ts ts ∧ Left ts ws ts := by
  constructor
  · intro h
    refine ⟨?_, fun x hx y hy r e => ?_, fun x hx y hy r e => ?_, fun x hx y hy r e => ?_⟩
    · refine List.pairwise_iff_getElem.mpr fun i j hi hj hij e => ?_
      have := h.ww i j hi hj (by omega) [] (by rw [List.getD_eq_getElem?_getD, List.getD_eq_getElem?_getD, List.getElem?_eq_getElem hi, List.getElem?_eq_getElem hj, List.append_nil]; exact e.symm)
      exact hne this
    · obtain ⟨j, hj, rfl⟩ := getD_mem hx
      obtain ⟨i, hi, rfl⟩ := getD_mem hy
      by_cases q : i = j
      · subst q
        have : r = [] := by
          have := congrArg List.length e
          rw [List.length_append] at this
          exact List.eq_nil_of_length_eq_zero (by omega)
        rw [this]
        exact List.mem_append_right _ (List.mem_singleton.mpr rfl)
      · exact List.mem_append_left _ (h.ww i j hi hj q r e)
    · obtain ⟨i, hi, rfl⟩ := getD_mem hy
      exact h.wt x hx i hi r e
    · obtain ⟨i, hi, rfl⟩ := getD_mem hx
      exact h.tw y hy i hi r e
  · rintro ⟨h1, h2, h3, h4⟩
    refine ⟨hne, fun i j hi hj hij r e => ?_, fun t ht i hi r e => h4 _ (mem_getD hi) t ht r e, fun t ht i hi r e => h3 t ht _ (mem_getD hi) r e⟩
    rcases List.mem_append.mp (h2 _ (mem_getD hj) _ (mem_getD hi) r e) with z | z
    · exact z
    · exfalso
      rw [List.mem_singleton.mp z, List.append_nil, List.getD_eq_getElem?_getD, List.getD_eq_getElem?_getD, List.getElem?_eq_getElem hi, List.getElem?_eq_getElem hj] at e
      have pw := List.pairwise_iff_getElem.mp h1
      rcases Nat.lt_or_ge i j with q | q
      · exact pw i j hi hj q e.symm
      · exact pw j i hj hi (by omega) e
section
variable {P : Program} {w : World} {K : PySem.W.Frag} {mg : Str → Option Value} {base : Heap}
/-- texts at p -/
structure TxtsL (H : Hp) (p : Addr) (ts : List W) : Prop where
  at_ : H p = some (.lst (ts.map sv))
  few : ts.length ≤ 9000
  short : ∀ x ∈ ts, x.length ≤ 9000
theorem TxtsL.ext {H H' : Hp} {p : Addr} {ts : List W} (h : TxtsL H p ts) (x : Ext H H') : TxtsL H' p ts := ⟨x.lst h.at_, h.few, h.short⟩
theorem TxtsL.code {H : Hp} {p : Addr} {ts : List W} (h : TxtsL H p ts) : CodeAt K H p ts := ⟨SqL.of h.at_, by have := h.few; omega, fun x hx => by have := h.short x hx; omega⟩
def spAreTails : Sp := fun vs H Q _ => ∃ (p : Addr) (ts : List W), vs = [.ref p] ∧ TxtsL H p ts ∧ ∀ H', Ext H H' → Q (.bl (decide ([] ∉ ts))) H'
theorem ok_are_tails (D : Def K mg "are_tails" "are_tails" Pl.s_are_tails ["values"]) (B : Bare mg) : Cal P w K mg base CX0 1 "are_tails" ["values"] spAreTails := by
  have sc : FnScope ["values"] ["values"] (defScope Pl.s_are_tails) := ⟨rfl, rfl, rfl, by decide +kernel, rfl, by decide +kernel, by decide +kernel⟩
  refine D.cal fun f fd F => F.ok sc (fun vs H Q E h => ?_) (fun cdv A outer s H vs Q E hr h => ?_)
  · obtain ⟨_, _, rfl, _⟩ := h
    rfl
  · obtain ⟨p, ts, rfl, hp, k⟩ := h
    have nd : (["value"] : List Str).Nodup := by decide +kernel
    refine ⟨_, pss_one (ps_ret (pe_and (pe_isi_list B (pv 0)) (pe_one (pe_callB (call_all_bl rfl) (by rfl) B.all Boot.«all» (pa_cons
      (pe_comp (N' := ["value"]) (js := [none]) (.of (by kernel_rfl)) rfl (pi_list (pv 0)) fun C fp s₀ H₀ => ⟨pg_name (i := 0) nd rfl (Or.inl rfl), pts_nil,
        pe_and (pe_callB (r := rIsi K) (call_isi_s rfl) (by rfl) B.isi boot_isinstance (pa_cons (pv 0) (pa_cons (pe_bltn (v := .ty "str") (by rfl) B.str boot_str rfl) pa_nil))) (pe_one (pe_cmpR op_ne (pv 0) pe_str (nomark _)))⟩) pa_nil))))), ?_⟩
    refine ⟨_, rfl, _, _, _, _, rfl, trivial, .lst hp.at_, yes_list K, _, rfl, iteT ?_⟩
    have hq : SqL K H p (ts.map sv) := SqL.of hp.at_
    refine ⟨_, rfl, p, rfl, ⟨_, hq⟩, ?_⟩
    refine block_map1 hq (by rw [List.length_map]; exact small_line (by have := hp.few; omega)) (fun y => .bl (!decide (y = V.str (st [])))) (fun y H' hy x1 Q' k' => ?_) (fun D H' _ x1 hD => ?_)
    · obtain ⟨x, hx, rfl⟩ := List.mem_map.mp hy
      obtain ⟨t, ty, e⟩ := isi_str (K := K) (H := H') (v := sv x) ⟨_, .str _⟩
      refine ⟨_, rfl, _, _, t, _, rfl, trivial, ty, e, _, rfl, iteT ?_⟩
      exact ⟨_, rfl, rfl, k' _ H' (Ext.refl _) rfl⟩
    · refine ⟨D, (ts.map sv).map fun y => !decide (y = V.str (st [])), rfl, SqL.of (by rw [hD, List.map_map, List.map_map, List.map_map]; rfl), ?_⟩
      have e : ((ts.map sv).map fun y => !decide (y = V.str (st []))).all id = decide ([] ∉ ts) := by
        rw [Bool.eq_iff_iff, List.all_eq_true, decide_eq_true_iff]
        constructor
        · intro h z
          have := h _ (List.mem_map.mpr ⟨_, List.mem_map.mpr ⟨_, z, rfl⟩, rfl⟩)
          simp at this
        · intro h b hb
          obtain ⟨y, hy, rfl⟩ := List.mem_map.mp hb
          obtain ⟨x, hx, rfl⟩ := List.mem_map.mp hy
          simp only [id, Bool.not_eq_true', decide_eq_false_iff_not]
          intro z
          exact h (by rw [← st_inj (V.str.inj z)]; exact hx)
      rw [e]
      exact k H' x1
def spClosedT (K : PySem.W.Frag) : Sp := fun vs H Q _ => ∃ (c p : Addr) (ws ts : List W), vs = [.ref c, .ref p] ∧ CodeL H c ws ∧ TxtsL H p ts ∧ [] ∉ ts ∧ ∀ b H', Ext H H' → (b = true ↔ TailsOk ws ts) → Q (.bl b) H'
theorem ok_tails_closed (D : Def K mg "tails_closed" "tails_closed" Pl.s_tails_closed ["code", "tails"]) (B : Bare mg) (CN : Cal P w K mg base CX0 1 "noted" ["values"] (spNoted K)) (CK : Cal P w K mg base CX0 3 "rests_known" ["heads", "texts", "known"] (spKnown K)) :
    Cal P w K mg base CX0 4 "tails_closed" ["code", "tails"] (spClosedT K) := by
  have sc : FnScope ["code", "tails", "words", "known"] ["code", "tails"] (defScope Pl.s_tails_closed) := ⟨rfl, rfl, rfl, by decide +kernel, rfl, by decide +kernel, by decide +kernel⟩
  refine D.cal fun f fd F => F.ok sc (fun vs H Q E h => ?_) (fun cdv A outer s H vs Q E hr h => ?_)
  · obtain ⟨_, _, _, _, rfl, _⟩ := h
    rfl
  · obtain ⟨c, p, ws, ts, rfl, hC, hp, hne, k⟩ := h
    have hr1 : Room 1 _ := hr.mono (by decide)
    refine ⟨_, pss_cons (ps_set (i := 2) sc.nd rfl (Or.inl rfl) (pe_callF CN hr1 (pa_cons (pv 0) pa_nil) pass0))
      (pss_cons (ps_if (pt_cmpR op_ne (pe_callB call_lenD (by rfl) B.len PySem.boot_len (pa_cons (pv 2) pa_nil)) (pe_callB call_len_seq (by rfl) B.len PySem.boot_len (pa_cons (pv 0) pa_nil)) (nomark _)) (pss_one (ps_ret pe_bl)) pss_nil)
      (pss_cons (ps_set (i := 3) sc.nd rfl (Or.inl rfl) (pe_callF CN hr1 (pa_cons (pv 1) pa_nil) pass0))
      (pss_cons (ps_if (pt_not (pt_val (pe_callF CK hr (pa_cons (pv 0) (pa_cons (pv 0) (pa_cons (pe_callF CN hr1 (pa_cons (pe_op op_cat (pv 1) (pe_lst (pa_cons pe_str pa_nil))) pa_nil) pass0) pa_nil))) pass0))) (pss_one (ps_ret pe_bl)) pss_nil)
      (pss_one (ps_ret (pe_and (pe_callF CK hr (pa_cons (pv 0) (pa_cons (pv 1) (pa_cons (pv 3) pa_nil))) pass0) (pe_one (pe_callF CK hr (pa_cons (pv 1) (pa_cons (pv 0) (pa_cons (pv 3) pa_nil))) pass0)))))))), ?_⟩
    have kt : ∀ us : List W, (tk us).map kV = us.map sv := fun us => by rw [tk, List.map_map]; rfl
    have hfew := hC.few
    have tfew := hp.few
    refine ⟨_, rfl, c, tk ws, rfl, by rw [kt]; exact SqL.of hC.at_, by rw [List.length_map]; omega, fun d1 H1 hd1 x1 e1 => ?_⟩
    have hC1 := hC.ext x1
    refine ⟨_, rfl, d1, _, rfl, e1, _, rfl, c, _, rfl, .inl (SqL.of hC1.at_), rfl, _, rfl, ?_⟩
    have no : ∀ {H' : Hp}, Ext H H' → ¬ TailsOk ws ts → Q (.bl false) H' := fun {H'} x z => k false H' x ⟨fun e => (nomatch e), fun e => absurd e z⟩
    have el : (notedK (tk ws)).length = (ws.map sv).length ↔ ws.Nodup := by
      rw [noted_len, List.length_map, ← tk_nodup, ← distinct_all, tk, List.length_map]
    by_cases hnd : ws.Nodup
    · refine iteF' (by rw [el.mpr hnd]; simp) ?_
      refine ⟨_, rfl, p, tk ts, rfl, by rw [kt]; exact SqL.of (x1.lst hp.at_), by rw [List.length_map]; omega, fun d2 H2 hd2 x2 e2 => ?_⟩
      have x12 := x1.trans x2
      refine ⟨_, rfl, _, rfl, _, rfl, by show 1 ≤ sizeLine; decide, fun l1 hl1 => ?_⟩
      have x3 : Ext H2 (upd H2 l1 (.lst [V.str ""])) := Ext.new hl1
      refine ⟨p, l1, _, _, rfl, rfl, x3.lst (x12.lst hp.at_), upd_same, by rw [List.length_map]; exact small_line (by show ts.length + 1 ≤ _; omega), fun l2 hl2 => ?_⟩
      have x4 := x3.newer (o := HO.lst (ts.map sv ++ [V.str ""])) hl2
      refine ⟨l2, tk (ts ++ [[]]), rfl, by rw [kt, List.map_append]; exact SqL.of upd_same, by rw [List.length_map, List.length_append]; show ts.length + 1 ≤ _; omega, fun d3 H5 hd3 x5 e3 => ?_⟩
      have x25 := x4.trans x5
      have x15 := x12.trans x25
      refine ⟨c, c, d3, ws, ws, ts ++ [[]], rfl, (hC.ext x15).code, (hC.ext x15).code, .inl e3, fun b H6 x6 hb => ⟨_, rfl, ?_⟩⟩
      have x16 := x15.trans x6
      by_cases h1 : Left ws ws (ts ++ [[]])
      · rw [hb.mpr h1]
        refine iteF ?_
        refine ⟨_, rfl, _, rfl, _, rfl, c, p, d2, ws, ts, ts, rfl, (hC.ext x16).code, (hp.ext x16).code, (x25.trans x6).rdK (.inl e2), fun b2 H7 x7 hb2 => ⟨_, rfl, ?_⟩⟩
        have x17 := x16.trans x7
        by_cases h2 : Left ws ts ts
        · rw [hb2.mpr h2]
          refine iteT ?_
          refine ⟨_, rfl, _, rfl, _, rfl, p, c, d2, ts, ws, ts, rfl, (hp.ext x17).code, (hC.ext x17).code, ((x25.trans x6).trans x7).rdK (.inl e2), fun b3 H8 x8 hb3 => ?_⟩
          refine k b3 H8 (x17.trans x8) ?_
          rw [hb3, tails_iff hne]
          exact ⟨fun z => ⟨hnd, h1, h2, z⟩, fun z => z.2.2.2⟩
        · have eb : b2 = false := by
            cases b2 with
            | false => rfl
            | true => exact absurd (hb2.mp rfl) h2
          rw [eb]
          exact iteF (no x17 fun z => h2 ((tails_iff hne).mp z).2.2.1)
      · have eb : b = false := by
          cases b with
          | false => rfl
          | true => exact absurd (hb.mp rfl) h1
        rw [eb]
        exact iteT (no x16 fun z => h1 ((tails_iff hne).mp z).2.1)
    · refine iteT' ?_ (no x1 fun z => hnd ((tails_iff hne).mp z).1)
      rw [Bool.not_eq_true', decide_eq_false_iff_not]
      intro z
      have := V.int.inj z
      exact hnd (el.mp (by omega))
def spShowsT (C : Addr) : Sp := fun vs H Q _ => ∃ (o a p dx : Addr) (ws ts : List W), vs = [.ref o, .ref a] ∧ H o = some (.ins C dx [("tails", .ref p)]) ∧ CodeL H a ws ∧ TxtsL H p ts ∧ ∀ b H', Ext H H' → (b = true ↔ TailsOk ws ts) → Q (.bl b) H'
theorem ok_showsT {C f : Addr} {fd : FuncData} (F : Fun K "shows" "Tails.shows" Pl.c_Tails_shows f fd) (cl : Cls K C) (na : NoAttr K C "tails") (C1 : Cal P w K mg base CX0 3 "is_code" ["value"] (spIsCode K))
    (C2 : Cal P w K mg base CX0 1 "are_tails" ["values"] spAreTails) (C3 : Cal P w K mg base CX0 4 "tails_closed" ["code", "tails"] (spClosedT K)) : FnOk P w K mg base CX0 5 f fd ["self", "code"] (spShowsT C) := by
  have sc : FnScope ["self", "code"] ["self", "code"] (defScope Pl.c_Tails_shows) := ⟨rfl, rfl, rfl, by decide +kernel, rfl, by decide +kernel, by decide +kernel⟩
  refine F.ok sc (fun vs H Q E h => ?_) (fun cdv A outer s H vs Q E hr h => ?_)
  · obtain ⟨_, _, _, _, _, _, rfl, _⟩ := h
    rfl
  · obtain ⟨o, a, p, dx, ws, ts, rfl, ho, hC, hp, k⟩ := h
    have hr1 : Room 1 _ := hr.mono (by decide)
    have hr3 : Room 3 _ := hr.mono (by decide)
    refine ⟨_, pss_one (ps_ret (pe_and (pe_callF C1 hr3 (pa_cons (pv 1) pa_nil) pass0) (pe_and (pe_callF C2 hr1 (pa_cons (pe_fld (pv 0) rfl) pa_nil) pass0) (pe_one (pe_callF C3 hr (pa_cons (pv 1) (pa_cons (pe_fld (pv 0) rfl) pa_nil)) pass0))))), ?_⟩
    refine ⟨_, rfl, .ref a, rfl, hC.arg, hC.sz, fun b H1 x1 hb => ⟨_, rfl, ?_⟩⟩
    rw [hC.all hb]
    refine iteT ?_
    refine ⟨_, rfl, o, C, dx, _, .ref p, rfl, x1.ins ho, cl, na, rfl, p, ts, rfl, hp.ext x1, fun H2 x2 => ⟨_, rfl, ?_⟩⟩
    have x12 := x1.trans x2
    by_cases hne : [] ∈ ts
    · refine iteF' (by simpa using hne) (k false _ x12 ⟨fun e => (nomatch e), fun e => absurd hne e.ne⟩)
    · refine iteT' (by simpa using hne) ?_
      refine ⟨_, rfl, _, rfl, o, C, dx, _, .ref p, rfl, x12.ins ho, cl, na, rfl, a, p, ws, ts, rfl, hC.ext x12, hp.ext x12, hne, fun b3 H3 x3 hb3 => k b3 H3 (x12.trans x3) hb3⟩
end
end L2


set_option Elab.async false
set_option linter.all false
set_option maxRecDepth 100000
set_option maxHeartbeats 2000000
namespace L2
open PySem PySem.Spec PyProof.Rows Tw
/-! ### x > y of texts; l[::-1]; a comprehension over a range -/
theorem pick_rev (its : List Value) : slicePick its.toArray none none (some (-1)) = its.reverse.toArray := by
  unfold slicePick
  have e : sliceRange (sliceBounds none none (some (-1)) its.toArray.size).1 (sliceBounds none none (some (-1)) its.toArray.size).2.1 (sliceBounds none none (some (-1)) its.toArray.size).2.2 = Builtin.Str.strSliceIndices none none (-1) its.length := by
    rw [List.size_toArray]
    rfl
  rw [e, revIdx, rev_range, List.filterMap_reverse]
  have : (fun i : Nat => its.toArray[i]?) = fun i : Nat => its[i]? := by funext i; simp
  rw [this, List.filterMap_getElem?_range_length]
theorem pe_revL {X : Cx} {K : PySem.W.Frag} {e es : Expr} {te ts : TE} {p2 pos : Pos} (hK : X.K = K) (he : PE X e te) (hs : PE X es ts) : PE X (.Subscript e (.Slice none none (some es) p2) pos)
    (fun σ H Q => te σ H fun x H1 => ts σ H1 fun i H2 => ∃ a xs, x = .ref a ∧ i = .int (-1) ∧ SqL K H2 a xs ∧ ∀ l, H2 l = none → Q (.ref l) (upd H2 l (.lst xs.reverse))) := by
  subst hK
  intro pins s σ H Q I h
  refine Subscript_ (thn (he pins s σ H _ I h) fun v s1 ⟨x, H1, I1, r1, q1⟩ => ?_)
  refine wpAny_Slice ?_
  rw [evalPart_none]
  refine wpAny_pure ?_
  rw [evalPart_some]
  refine wpAny_pure ?_
  refine thn (hs pins s1 σ H1 _ I1 q1) fun u s2 ⟨y, H2, I2, r2, q2⟩ => ?_
  obtain ⟨a, xs, rfl, rfl, hq, q⟩ := q2
  cases r1
  obtain ⟨tu, rfl⟩ := r2
  have I4 : Inv X pins σ H2 { s2 with heap := s2.heap.push { cls := .type "slice", data := .fields #[.none, .none, .int (-1) tu] } } := I2.kept (t' := s2.toks) fun b ob q => Heap.get?_push_of_some _ q
  obtain ⟨its, rv, pl, hz⟩ := I4.list hq
  have len := rv.length
  refine tail_any (ops := [.ref a, .ref s2.heap.objs.size]) pl.isList.typeIs slot_list_getitem.lookup ?_ (by with_unfolding_all rfl)
  refine wpAny_getItem_list_slice (lo := none) (hi := none) (st := some (-1)) pl.isList ⟨_, Heap.get?_push_size _ rfl, rfl, rfl⟩ .none .none (.int _ _) (by simp) ?_ (by rw [List.size_toArray]; omega)
  rw [pick_rev]
  refine ⟨.ref _, _, I4.laid (o := .lst xs.reverse) (fun b ob q => Heap.get?_push_of_some _ q) (Nat.le_refl _) ⟨by rw [List.length_reverse]; exact hz, its.reverse, 0, rv.reverse, Heap.get?_push_size _ rfl⟩, rfl, q _ (I4.hok.fresh (Nat.le_refl _))⟩
end L2


set_option Elab.async false
set_option linter.all false
set_option maxRecDepth 100000
set_option maxHeartbeats 2000000
namespace L2
open PySem PySem.Spec PyProof.Rows Tw
seal PSs PS PE PT PW PA PG PGs PI PC
/-! ### list.count of ints -/
def rCount (K : PySem.W.Frag) : V → List V → Hp → VK → Prop := fun x xs H Q => ∃ (l : Addr) (ns : List Int) (k : Int), x = .ref l ∧ xs = [.int k] ∧ SqL K H l (ns.map V.int) ∧ Q (.int (ns.count k : Nat)) H
theorem mt_count {X : Cx} {K : PySem.W.Frag} (h : X.K = K) : MtR X "list.count" (rCount K) := by
  subst h
  intro pins s σ H x xs v us Q I rx rs h
  obtain ⟨l, ns, k, rfl, rfl, hq, q⟩ := h
  cases rx
  obtain ⟨u, rfl, t, rfl⟩ := vals1 rs
  obtain ⟨its, r, pl, _⟩ := I.list hq
  exact count_list_ints pl.isList (intsAre_of r) ⟨.int _, H, I.tok _, ⟨_, rfl⟩, q⟩
theorem mxOf_fold : ∀ (ns : List Int) (b : Option Int), (∀ n ∈ ns, ∃ m, ns.foldl mxStep b = some m ∧ n ≤ m) ∧ (∀ m0, b = some m0 → ∃ m, ns.foldl mxStep b = some m ∧ m0 ≤ m) ∧ ∀ m, ns.foldl mxStep b = some m → m ∈ ns ∨ b = some m
  | [], b => ⟨fun n hn => by simp at hn, fun m0 e => ⟨m0, e, Int.le_refl _⟩, fun m e => .inr e⟩
  | n :: ns, b => by
    obtain ⟨h1, h2, h3⟩ := mxOf_fold ns (mxStep b n)
    have big : ∃ m1, mxStep b n = some m1 ∧ n ≤ m1 ∧ (∀ m0, b = some m0 → m0 ≤ m1) ∧ (m1 = n ∨ b = some m1) := by
      cases b with
      | none => exact ⟨n, rfl, Int.le_refl _, fun _ e => (nomatch e), .inl rfl⟩
      | some m0 =>
        unfold mxStep
        by_cases z : m0 < n
        · exact ⟨n, by simp [z], Int.le_refl _, fun m e => by cases e; omega, .inl rfl⟩
        · exact ⟨m0, by simp [z], by omega, fun m e => by cases e; omega, .inr rfl⟩
    obtain ⟨m1, e1, hn, hb, hw⟩ := big
    refine ⟨fun k hk => ?_, fun m0 e => ?_, fun m e => ?_⟩
    · rcases List.mem_cons.mp hk with z | z
      · obtain ⟨m, e, l⟩ := h2 m1 e1
        exact ⟨m, e, by omega⟩
      · exact h1 k z
    · obtain ⟨m, e', l⟩ := h2 m1 e1
      have := hb m0 e
      exact ⟨m, e', by omega⟩
    · rcases h3 m e with z | z
      · exact .inl (List.mem_cons_of_mem _ z)
      · rw [e1] at z
        cases z
        rcases hw with q | q
        · exact .inl (by rw [q]; exact List.mem_cons_self)
        · exact .inr q
/-- the greatest length -/
theorem mx_lens (ls : List Nat) : ∃ L : Nat, mxV (ls.map fun (n : Nat) => (n : Int)) (.int 0) = .int (L : Int) ∧ (∀ n ∈ ls, n ≤ L) ∧ (L = 0 ∨ L ∈ ls) := by
  obtain ⟨h1, _, h3⟩ := mxOf_fold (ls.map fun (n : Nat) => (n : Int)) none
  unfold mxV
  cases e : mxOf (ls.map fun (n : Nat) => (n : Int)) with
  | none =>
    refine ⟨0, rfl, fun n hn => ?_, .inl rfl⟩
    obtain ⟨m, e', _⟩ := h1 n (List.mem_map.mpr ⟨n, hn, rfl⟩)
    unfold mxOf at e
    rw [e] at e'
    cases e'
  | some m =>
    unfold mxOf at e
    rcases h3 m e with z | z
    · obtain ⟨L, hL, rfl⟩ := List.mem_map.mp z
      refine ⟨L, rfl, fun n hn => ?_, .inr hL⟩
      obtain ⟨m', e', l⟩ := h1 n (List.mem_map.mpr ⟨n, hn, rfl⟩)
      rw [e] at e'
      cases e'
      omega
    · cases z
/-! ### what the words take -/
def took (ws : List W) (i : Nat) : Nat := sumOf (fun x => if x.length ≤ i then 3 ^ (i - x.length) else 0) ws
theorem took_zero {ws : List W} (h : ∀ x ∈ ws, x ≠ []) : took ws 0 = 0 := by
  unfold took
  induction ws with
  | nil => rfl
  | cons x ws ih =>
    rw [sumOf_cons, ih fun y hy => h y (List.mem_cons_of_mem _ hy), if_neg]
    intro z
    exact h x List.mem_cons_self (List.eq_nil_of_length_eq_zero (by omega))
theorem took_step (ws : List W) (i : Nat) : took ws (i + 1) = 3 * took ws i + (ws.map List.length).count (i + 1) := by
  unfold took
  induction ws with
  | nil => rfl
  | cons x ws ih =>
    rw [sumOf_cons, sumOf_cons, ih, List.map_cons, List.count_cons]
    by_cases h : x.length ≤ i
    · rw [if_pos (show x.length ≤ i + 1 by omega), if_pos h, show i + 1 - x.length = i - x.length + 1 by omega, Nat.pow_succ, if_neg (by simp; omega)]
      omega
    · by_cases h' : x.length = i + 1
      · rw [if_pos (show x.length ≤ i + 1 by omega), if_neg h, show i + 1 - x.length = 0 by omega, if_pos (by simp [h'])]
        omega
      · rw [if_neg (show ¬ x.length ≤ i + 1 by omega), if_neg h, if_neg (by simp; omega)]
        omega
theorem took_all {ws : List W} {L : Nat} (h : ∀ x ∈ ws, x.length ≤ L) : took ws L = kraft 3 L ws := by
  unfold took kraft
  exact sumOf_congr fun x hx => by rw [if_pos (h x hx)]
theorem count_int (ls : List Nat) (n : Nat) : (ls.map fun (k : Nat) => (k : Int)).count (n : Int) = ls.count n := by
  induction ls with
  | nil => rfl
  | cons a ls ih =>
    rw [List.map_cons, List.count_cons, List.count_cons, ih]
    congr 1
    by_cases h : a = n
    · subst h; simp
    · rw [if_neg (by simp; omega), if_neg (by simp; omega)]
section
variable {P : Program} {w : World} {K : PySem.W.Frag} {mg : Str → Option Value} {base : Heap}
theorem pe_maxL_s {X : Cx} {K : PySem.W.Frag} (hK : X.K = K) {e d : Expr} {te : TA} {td : TE} {p pos kpos : Pos} (hc : X.calm = true) (hm : X.mg "max" = none) (he : PA X [e] te) (hd : PE X d td) (hg : Gl X "max" := by rfl)
    (hb : backTo pos (starEach [e] X.env) = (false, eval e X.env) :: backTo pos (starEach [] X.env) := by rfl) (hpl : (backTo pos (starEach [e] X.env)).any (·.1) = false := by rfl) : PE X (.Call (.Name "max" p) [e] [⟨some "default", d, kpos⟩] pos) (tMaxL K te td) := by
  subst hK
  exact pe_maxL hc hm he hd hg hb hpl
def spTooMany : Sp := fun vs H Q _ => ∃ (a : Addr) (ws : List W), vs = [.ref a] ∧ CodeL H a ws ∧ (∀ L, (∀ x ∈ ws, x.length ≤ L) → kraft 3 L ws ≤ 3 ^ L) ∧ ∀ H', Ext H H' → Q (.bl false) H'
theorem ok_too_many (D : Def K mg "_law_too_many" "_law_too_many" Pl.s_law_too_many ["_law_code_here"]) (B : Bare mg) : Cal P w K mg base CX0 1 "_law_too_many" ["_law_code_here"] spTooMany := by
  have sc : FnScope ["_law_code_here", "_law_lengths", "_law_taken", "_law_whole", "_law_length"] ["_law_code_here"] (defScope Pl.s_law_too_many) := ⟨rfl, rfl, rfl, by decide +kernel, rfl, by decide +kernel, by decide +kernel⟩
  refine D.cal fun f fd F => F.ok sc (fun vs H Q E h => ?_) (fun cdv A outer s H vs Q E hr h => ?_)
  · obtain ⟨_, _, rfl, _⟩ := h
    rfl
  · obtain ⟨a, ws, rfl, hC, hkr, k⟩ := h
    have nd : (["_law_word"] : List Str).Nodup := by decide +kernel
    refine ⟨_, pss_cons (ps_setC (N' := ["_law_word"]) (js := [none]) (i := 1) (.of (by kernel_rfl)) rfl (pi_list (pv 0)) (fun C fp s₀ H₀ => ⟨pg_name (i := 0) nd rfl (Or.inl rfl), pts_nil, pe_callB call_len_str (by rfl) B.len PySem.boot_len (pa_cons (pv 0) pa_nil)⟩) sc.nd rfl (Or.inl rfl))
      (pss_cons (ps_set (i := 2) sc.nd rfl (Or.inl rfl) pe_int)
      (pss_cons (ps_set (i := 3) sc.nd rfl (Or.inl rfl) pe_int)
      (pss_cons (ps_for PassesOwn.never rfl (pi_range2 (by rfl) B.range (pa_cons pe_int (pa_cons (pe_op op_add (pe_maxL_s (K := K) rfl rfl B.max (pa_cons (pv 1) pa_nil) pe_int) pe_int) pa_nil))) (pg_name (i := 4) sc.nd rfl (Or.inl rfl))
        (pss_cons (ps_set (i := 2) sc.nd rfl (Or.inl rfl) (pe_op op_add (pe_op op_mul pe_int (pv 2)) (pe_bm PySem.F.plainAttrs_list PySem.F.slot_list_count PySem.F.type_list_count (mt_count (K := K) rfl) (pv 1) (pa_cons (pv 4) pa_nil))))
        (pss_one (ps_set (i := 3) sc.nd rfl (Or.inl rfl) (pe_op op_mul pe_int (pv 3))))))
      (pss_one (ps_ret (pe_cmpR op_gt (pv 2) (pv 3) (nomark _))))))), ?_⟩
    have hq : SqL K H a (ws.map sv) := SqL.of hC.at_
    have hfew := hC.few
    refine ⟨_, rfl, a, rfl, ⟨_, hq⟩, ?_⟩
    refine block_map1 hq (by rw [List.length_map]; exact small_line (by omega)) (fun y => match y with | .str z => .int (z.length : Nat) | _ => .non) (fun y H' hy x1 Q' k' => ?_) (fun D H1 hD x1 hD1 => ?_)
    · obtain ⟨x, hx, rfl⟩ := List.mem_map.mp hy
      have := hC.short x hx
      exact ⟨_, rfl, st x, rfl, by rw [st_len]; exact small_line (by omega), k' _ H' (Ext.refl _) rfl⟩
    · have hl : SqL K H1 D (((ws.map List.length).map fun (n : Nat) => (n : Int)).map V.int) := SqL.of (by
        rw [hD1, List.map_map, List.map_map, List.map_map]
        congr 2)
      obtain ⟨L, eL, hall, hin⟩ := mx_lens (ws.map List.length)
      have hLs : L ≤ 10000 := by
        rcases hin with z | z
        · omega
        · obtain ⟨x, hx, rfl⟩ := List.mem_map.mp z
          exact hC.short x hx
      refine ⟨_, rfl, D, _, rfl, hl, ?_⟩
      rw [eL]
      refine ⟨_, _, rfl, rfl, _, _, rfl, ⟨by decide, by omega, by omega, by omega⟩, ?_⟩
      rw [show ((L : Int) + 1 - 1).toNat = L by omega]
      refine for_range (fun i σ H2 => (∃ ln : Option V, σ = [some (.ref a), some (.ref D), some (.int (took ws i : Nat)), some (.int ((3 ^ i : Nat) : Int)), ln]) ∧ H2 = H1) ⟨⟨none, by rw [took_zero hC.full]; rfl⟩, rfl⟩ ?_ ?_
      · rintro i σ H2 hi ⟨⟨ln, rfl⟩, rfl⟩
        rw [show (1 + (i : Int)) = ((i + 1 : Nat) : Int) by omega]
        refine ⟨_, rfl, _, _, rfl, rfl, .inl ⟨by decide, by decide⟩, _, rfl, .inl ⟨rfl, _, hl⟩, _, rfl, D, _, _, rfl, rfl, hl, _, _, rfl, rfl, ?_⟩
        have e1 : (3 * ((took ws i : Nat) : Int) + (((ws.map List.length).map fun (n : Nat) => (n : Int)).count ((i + 1 : Nat) : Int) : Nat)) = ((took ws (i + 1) : Nat) : Int) := by
          rw [count_int, took_step]
          omega
        have e2 : 3 * ((3 ^ i : Nat) : Int) = ((3 ^ (i + 1) : Nat) : Int) := by
          rw [Nat.pow_succ]
          omega
        refine ⟨_, rfl, _, _, rfl, rfl, .inl ⟨by decide, by decide⟩, ⟨some (.int ((i + 1 : Nat) : Int)), ?_⟩, rfl⟩
        rw [← e1, ← e2]
        rfl
      · rintro σ H2 ⟨⟨ln, rfl⟩, rfl⟩
        refine ⟨_, rfl, _, rfl, _, _, rfl, rfl, ?_⟩
        have hk := hkr L fun x hx => hall _ (List.mem_map.mpr ⟨x, hx, rfl⟩)
        rw [← took_all fun x hx => hall _ (List.mem_map.mpr ⟨x, hx, rfl⟩)] at hk
        have := k _ x1
        rw [← show decide (((3 ^ L : Nat) : Int) < ((took ws L : Nat) : Int)) = false from decide_eq_false (by omega)] at this
        exact this
end
end L2


set_option Elab.async false
set_option linter.all false
set_option maxRecDepth 100000
set_option maxHeartbeats 2000000
namespace L2
open PySem PySem.Spec PyProof.Rows Tw
seal PSs PS PE PT PW PA PG PGs PI PC
theorem inV_txt (x : W) (ts : List W) : inV (sv x) (ts.map sv) = decide (x ∈ ts) := by
  rw [Bool.eq_iff_iff, inV, List.any_eq_true, decide_eq_true_iff]
  constructor
  · rintro ⟨v, hv, q⟩
    obtain ⟨y, hy, rfl⟩ := List.mem_map.mp hv
    have : st y = st x := by simpa [eqV] using q
    rw [← st_inj this]
    exact hy
  · intro h
    exact ⟨sv x, List.mem_map.mpr ⟨x, h, rfl⟩, by simp [eqV]⟩
theorem txts_flat (ts : List W) : (ts.map sv).all flatV = true := by
  rw [List.all_eq_true]
  intro v hv
  obtain ⟨y, _, rfl⟩ := List.mem_map.mp hv
  rfl
/-- it stands at the beginning -/
theorem stands_app {x t : W} : cut t 0 x.length = x ↔ t = x ++ t.drop x.length := by
  constructor
  · intro h
    have := cut_app t 0 x.length
    rw [h, Nat.zero_add, List.drop_zero] at this
    exact this.symm
  · intro h
    unfold cut
    rw [List.drop_zero]
    conv => lhs; rw [h]
    exact List.take_left
theorem stands_le {x t : W} (h : cut t 0 x.length = x) : x.length ≤ t.length := by
  have := congrArg List.length (stands_app.mp h)
  rw [List.length_append] at this
  omega
/-- x leaves of t what is among ts, if it stands there -/
def Lv (ts : List W) (x t : W) : Prop := ∀ r, t = x ++ r → r ∈ ts
theorem lv_iff {ts : List W} {x t : W} : (decide (cut t 0 x.length = x) && !decide (t.drop x.length ∈ ts)) = true ↔ ¬ Lv ts x t := by
  rw [Bool.and_eq_true, decide_eq_true_iff, Bool.not_eq_true', decide_eq_false_iff_not]
  constructor
  · rintro ⟨h1, h2⟩ z
    exact h2 (z _ (stands_app.mp h1))
  · intro h
    refine Classical.byContradiction fun no => h fun r e => ?_
    have h1 : cut t 0 x.length = x := stands_app.mpr (by rw [e, List.drop_left])
    refine Classical.byContradiction fun hr => no ⟨h1, ?_⟩
    rw [e, List.drop_left]
    exact hr
theorem others_mem {ws : List W} {i : Nat} {x : W} : x ∈ ws.take i ++ ws.drop (i + 1) ↔ ∃ j, j < ws.length ∧ j ≠ i ∧ ws.getD j [] = x := by
  constructor
  · intro h
    rcases List.mem_append.mp h with z | z
    · obtain ⟨j, hj, e⟩ := List.mem_iff_getElem.mp z
      rw [List.length_take] at hj
      refine ⟨j, by omega, by omega, ?_⟩
      rw [List.getD_eq_getElem?_getD, List.getElem?_eq_getElem (show j < ws.length by omega), ← e, List.getElem_take]
      rfl
    · obtain ⟨j, hj, e⟩ := List.mem_iff_getElem.mp z
      rw [List.length_drop] at hj
      refine ⟨i + 1 + j, by omega, by omega, ?_⟩
      rw [List.getD_eq_getElem?_getD, List.getElem?_eq_getElem (show i + 1 + j < ws.length by omega), ← e, List.getElem_drop]
      rfl
  · rintro ⟨j, hj, hne, rfl⟩
    rw [List.getD_eq_getElem?_getD, List.getElem?_eq_getElem hj]
    rcases Nat.lt_or_ge j i with z | z
    · exact List.mem_append_left _ (List.mem_iff_getElem.mpr ⟨j, by rw [List.length_take]; omega, by rw [List.getElem_take]; rfl⟩)
    · refine List.mem_append_right _ (List.mem_iff_getElem.mpr ⟨j - (i + 1), by rw [List.length_drop]; omega, ?_⟩)
      rw [List.getElem_drop]
      congr 1
      omega
/-- what a word and the tails leave of one another -/
structure PartOk (ws ts : List W) (i : Nat) : Prop where
  ww : ∀ x ∈ ws.take i ++ ws.drop (i + 1), Lv ts (ws.getD i []) x
  tt : ∀ t ∈ ts, Lv ts t (ws.getD i []) ∧ Lv ts (ws.getD i []) t
theorem parts_iff {ws ts : List W} : TailsOk ws ts ↔ [] ∉ ts ∧ ∀ i, i < ws.length → PartOk ws ts i := by
  constructor
  · intro h
    refine ⟨h.ne, fun i hi => ⟨fun x hx r e => ?_, fun t ht => ⟨fun r e => h.tw t ht i hi r e, fun r e => h.wt t ht i hi r e⟩⟩⟩
    obtain ⟨j, hj, hne, rfl⟩ := others_mem.mp hx
    exact h.ww i j hi hj (Ne.symm hne) r e
  · rintro ⟨h1, h2⟩
    refine ⟨h1, fun i j hi hj hij r e => (h2 i hi).ww _ (others_mem.mpr ⟨j, hj, Ne.symm hij, rfl⟩) r e, fun t ht i hi r e => ((h2 i hi).tt t ht).1 r e, fun t ht i hi r e => ((h2 i hi).tt t ht).2 r e⟩
section
variable {P : Program} {w : World} {K : PySem.W.Frag} {mg : Str → Option Value} {base : Heap}
def spLawClash : Sp := fun vs H Q _ => ∃ (a p q : Addr) (ws : List W) (r1 r2 : List Nat), vs = [.ref a, .ref p, .ref q] ∧ CodeL H a ws ∧ (∀ x ∈ ws, x.length ≤ 90) ∧ IntsL H p r1 ∧ IntsL H q r2 ∧ r1.length ≤ 10001 ∧ r2.length ≤ 10001 ∧ ∀ b H', Ext H H' → (b = true ↔ ClashOk ws r1 r2) → Q (.bl b) H'
theorem ok_law_clash (D : Def K mg "_law_clash" "_law_clash" Pl.s_law_clash ["_law_code_here", "_law_one", "_law_other"]) (B : Bare mg) : Cal P w K mg base CX0 1 "_law_clash" ["_law_code_here", "_law_one", "_law_other"] spLawClash := by
  have sc : FnScope ["_law_code_here", "_law_one", "_law_other"] ["_law_code_here", "_law_one", "_law_other"] (defScope Pl.s_law_clash) := ⟨rfl, rfl, rfl, by decide +kernel, rfl, by decide +kernel, by decide +kernel⟩
  refine D.cal fun f fd F => F.ok sc (fun vs H Q E h => ?_) (fun cdv A outer s H vs Q E hr h => ?_)
  · obtain ⟨_, _, _, _, _, _, rfl, _⟩ := h
    rfl
  · obtain ⟨a, p, q, ws, r1, r2, rfl, hC, hsh, hP, hQ', hl1, hl2, k⟩ := h
    have hu : _ + 64 < cLine := hr.units
    have nd : (["_law_place", "_law_code_here"] : List Str).Nodup := by decide +kernel
    refine ⟨_, pss_cons (ps_if (PW.pt (pw_or (pt_cmpR (op_eqLI hu) (pv 1) (pv 2) (nomark _)) (pw_or1 (pt_not (pt_val (pe_callB (call_all_bl rfl) (by rfl) B.all Boot.«all» (pa_cons
          (pe_comp (N' := ["_law_place", "_law_code_here"]) (js := [none, some 0]) (.of (by kernel_rfl)) rfl (pi_list (pe_op op_cat (pv 1) (pv 2))) fun C fp s₀ H₀ => ⟨pg_name (i := 0) nd rfl (Or.inl rfl), pts_nil,
            pe_chain op_le op_lt pe_int (pv 0) (pe_callB (r := rLenS K) (call_len_s rfl) (by rfl) B.len PySem.boot_len (pa_cons (pv 1) pa_nil))⟩) pa_nil))))))) (pss_one (ps_ret pe_bl)) pss_nil)
      (pss_one (ps_ret (pe_cmpR op_eq
        (pe_bm PySem.F.plainAttrs_str PySem.F.slot_str_join PySem.F.type_str_join mt_join pe_str (pa_cons (pe_comp (N' := ["_law_place", "_law_code_here"]) (js := [none, some 0]) (.of (by kernel_rfl)) rfl (pi_list (pv 1)) fun C fp s₀ H₀ => ⟨pg_name (i := 0) nd rfl (Or.inl rfl), pts_nil, pe_ix (r := rIxL K) ix_list (pv 1) (pv 0) (fun _ _ => rfl)⟩) pa_nil))
        (pe_bm PySem.F.plainAttrs_str PySem.F.slot_str_join PySem.F.type_str_join mt_join pe_str (pa_cons (pe_comp (N' := ["_law_place", "_law_code_here"]) (js := [none, some 0]) (.of (by kernel_rfl)) rfl (pi_list (pv 2)) fun C fp s₀ H₀ => ⟨pg_name (i := 0) nd rfl (Or.inl rfl), pts_nil, pe_ix (r := rIxL K) ix_list (pv 1) (pv 0) (fun _ _ => rfl)⟩) pa_nil)) (nomark _)))), ?_⟩
    have no : ∀ {H' : Hp}, Ext H H' → ¬ ClashOk ws r1 r2 → Q (.bl false) H' := fun {H'} x z => k false H' x ⟨fun e => (nomatch e), fun e => absurd e z⟩
    refine ⟨_, rfl, _, rfl, p, q, _, _, rfl, rfl, by have := hP.1; rw [ints_int] at this; exact SqL.of this, by have := hQ'.1; rw [ints_int] at this; exact SqL.of this, _, rfl, ?_⟩
    by_cases he : r1 = r2
    · refine iteT' (by simp [he]) (iteT (no (Ext.refl _) fun z => z.ne he))
    · refine iteF' (by simpa [ints_inj] using he) ?_
      refine ⟨_, rfl, _, rfl, p, q, _, _, rfl, rfl, hP.1, hQ'.1, by rw [List.length_map, List.length_map]; exact small_line (by omega), fun l hl => ⟨l, rfl, ⟨_, SqL.of upd_same⟩, ?_⟩⟩
      have x1 : Ext H (upd H l (.lst (intsV r1 ++ intsV r2))) := Ext.new hl
      have ea : intsV r1 ++ intsV r2 = intsV (r1 ++ r2) := by rw [intsV, intsV, intsV, List.map_append]
      refine block_map1 (K := K) (xs := intsV (r1 ++ r2)) (SqL.of (by rw [upd_same, ea])) (by rw [List.length_map, List.length_append]; exact small_line (by omega)) (fun y => .bl (isPlaceV (ws.length : Int) y)) (fun y H' hy x2 Q' k' => ?_) (fun D H2 hD x2 hD2 => ?_)
      · obtain ⟨i, hi, rfl⟩ := List.mem_map.mp hy
        refine ⟨_, rfl, _, _, rfl, rfl, _, rfl, iteT' (by rw [decide_eq_true_iff]; omega) ?_⟩
        refine ⟨_, rfl, a, _, rfl, .inl (SqL.of (hC.ext (x1.trans x2)).at_), _, _, rfl, rfl, ?_⟩
        rw [List.length_map]
        refine k' _ H' (Ext.refl _) ?_
        show V.bl _ = V.bl (decide (0 ≤ (i : Int)) && decide ((i : Int) < (ws.length : Int)))
        rw [decide_eq_true (show 0 ≤ (i : Int) by omega), Bool.true_and]
      · refine ⟨D, (intsV (r1 ++ r2)).map (isPlaceV (ws.length : Int)), rfl, SqL.of (by rw [hD2]; simp [Function.comp_def]), _, rfl, ?_⟩
        have e2 : ((intsV (r1 ++ r2)).map (isPlaceV (ws.length : Int))).all id = decide (∀ i ∈ r1 ++ r2, i < ws.length) := by
          rw [List.all_map]
          exact places_all
        rw [e2]
        have x12 := x1.trans x2
        by_cases hin : ∀ i ∈ r1 ++ r2, i < ws.length
        · rw [decide_eq_true hin]
          refine iteF ?_
          have in1 : ∀ i ∈ r1, i < ws.length := fun i hi => hin i (List.mem_append_left _ hi)
          have in2 : ∀ i ∈ r2, i < ws.length := fun i hi => hin i (List.mem_append_right _ hi)
          have tl : ∀ r : List Nat, r.length ≤ 10001 → (textOf ws r).length ≤ 1000000 := fun r hr => by
            have := textOf_len_le hsh r
            have : r.length * 90 ≤ 10001 * 90 := Nat.mul_le_mul_right _ hr
            omega
          have js : ∀ r : List Nat, r.length ≤ 10001 → ((r.map fun i => ws.getD i []).map List.length).sum ≤ 1000000 := fun r hr => by
            have e : ((r.map fun i => ws.getD i []).map List.length).sum = (textOf ws r).length := by rw [textOf, List.length_flatten]
            rw [e]
            exact tl r hr
          have pl : ∀ r : List Nat, r.length ≤ 10001 → (intsV r).length ≤ sizeLine := fun r hr => by rw [List.length_map]; exact small_line (by omega)
          have hP2 := hP.ext x12
          refine ⟨rfl, _, rfl, p, rfl, ⟨_, SqL.of hP2.1⟩, block_map1 (SqL.of hP2.1) (pl r1 hl1) (fun y => match y with | .int i => sv (ws.getD i.toNat []) | _ => .non) (fun y H' hy x3 Q' k' => ?_) (fun D3 H3 hD3 x3 hD4 => ?_)⟩
          · obtain ⟨i, hi, rfl⟩ := List.mem_map.mp hy
            have hlt := in1 i hi
            exact ⟨_, rfl, _, rfl, a, _, (i : Int), sv (ws.getD i []), rfl, rfl, SqL.of (hC.ext (x12.trans x3)).at_, atI_nat (by rw [List.getElem?_map]; simp [hlt]), k' _ H' (Ext.refl _) rfl⟩
          · have x13 := x12.trans x3
            refine ⟨D3, r1.map fun i => ws.getD i [], rfl, rfl, SqL.of (by rw [hD4, List.map_map, List.map_map]; rfl), by have := js r1 hl1; exact small_line this, ?_⟩
            have hQ3 := hQ'.ext x13
            refine ⟨rfl, _, rfl, q, rfl, ⟨_, SqL.of hQ3.1⟩, block_map1 (SqL.of hQ3.1) (pl r2 hl2) (fun y => match y with | .int i => sv (ws.getD i.toNat []) | _ => .non) (fun y H' hy x4 Q' k' => ?_) (fun D5 H5 hD5 x5 hD6 => ?_)⟩
            · obtain ⟨i, hi, rfl⟩ := List.mem_map.mp hy
              have hlt := in2 i hi
              exact ⟨_, rfl, _, rfl, a, _, (i : Int), sv (ws.getD i []), rfl, rfl, SqL.of (hC.ext (x13.trans x4)).at_, atI_nat (by rw [List.getElem?_map]; simp [hlt]), k' _ H' (Ext.refl _) rfl⟩
            · refine ⟨D5, r2.map fun i => ws.getD i [], rfl, rfl, SqL.of (by rw [hD6, List.map_map, List.map_map]; rfl), by have := js r2 hl2; exact small_line this, rfl, k _ H5 (x13.trans x5) ?_⟩
              rw [decide_eq_true_iff]
              exact ⟨fun z => ⟨he, in1, in2, st_inj (V.str.inj z)⟩, fun z => congrArg sv z.tx⟩
        · rw [decide_eq_false hin]
          refine iteT (no x12 fun z => hin fun i hi => ?_)
          rcases List.mem_append.mp hi with y | y
          · exact z.h1 i y
          · exact z.h2 i y
end
end L2


set_option Elab.async false
set_option linter.all false
set_option maxRecDepth 100000
set_option maxHeartbeats 2000000
namespace L2
open PySem PySem.Spec PyProof.Rows Tw
seal PSs PS PE PT PW PA PG PGs PI PC
theorem cutV_head (ws : List W) {i : Nat} (h : i ≤ ws.length) : cutV (ws.map sv) none (some (i : Int)) = (ws.take i).map sv := by
  unfold cutV
  rw [HT.sIx_nat, List.length_map, Nat.min_eq_left h]
  simp [HT.sIx, List.map_take]
theorem cutV_rest (ws : List W) {i : Nat} (h : i ≤ ws.length) : cutV (ws.map sv) (some (i : Int)) none = (ws.drop i).map sv := by
  unfold cutV
  rw [HT.sIx_nat, List.length_map, Nat.min_eq_left h]
  rw [List.take_of_length_le, List.map_drop]
  rw [List.length_drop, List.length_map]
  exact Nat.le_refl _
theorem and_lv {K : PySem.W.Frag} {rl : List V → Hp → VK → Prop} {σ : St} {H : Hp} {R : Bool → Hp → Prop} {E : XK} {u v w : Nat} {x y : W} {p : Addr} {ts : List W} (hrl : ∀ (z : Str) (H : Hp) (Q : VK), z.length ≤ sizeLine → Q (.int (z.length : Nat)) H → rl [.str z] H Q)
    (hy : σ[u]? = some (some (sv y))) (hx : σ[v]? = some (some (sv x))) (hp : σ[w]? = some (some (.ref p))) (hxl : x.length ≤ 10000) (hyl : y.length ≤ 10000) (hq : SqL K H p (ts.map sv)) (k : R (decide (cut x 0 y.length = y) && !decide (x.drop y.length ∈ ts)) H) :
    tAnd (tB (tCall spStands [] E (tCons (tVar u) (tCons (tVar v) (tCons (tC (.int 0)) tNil))))) (tTest (tOp (rIn K true) (tSl rSlS (tVar v) (tPart (tCB rl (tCons (tVar u) tNil))) tNoPart) (tVar w))) σ H R := by
  refine ⟨_, hy, _, hx, y, x, 0, rfl, hyl, by omega, Nat.zero_le _, _, rfl, ?_⟩
  by_cases hs : cut x 0 y.length = y
  · refine iteT' (by simpa using hs) ?_
    refine ⟨_, hx, _, hy, hrl _ _ _ (by rw [st_len]; exact small_line (by omega)) ⟨_, rfl, x, rfl, small_line (by omega), ?_⟩⟩
    rw [st_len, cutL_tail' _ _ (stands_le hs)]
    refine ⟨_, hp, p, _, rfl, .inl hq, rfl, txts_flat ts, _, rfl, ?_⟩
    rw [if_pos rfl, inV_txt]
    rw [decide_eq_true hs, Bool.true_and] at k
    exact k
  · refine iteF' (by simpa using hs) ?_
    rw [decide_eq_false hs, Bool.false_and] at k
    exact k
section
variable {P : Program} {w : World} {K : PySem.W.Frag} {mg : Str → Option Value} {base : Heap}
def spLawTails : Sp := fun vs H Q _ => ∃ (a p : Addr) (ws ts : List W), vs = [.ref a, .ref p] ∧ CodeL H a ws ∧ TxtsL H p ts ∧ ∀ b H', Ext H H' → (b = true ↔ TailsOk ws ts) → Q (.bl b) H'
theorem ok_law_tails (D : Def K mg "_law_tails" "_law_tails" Pl.s_law_tails ["_law_code_here", "_law_tails_here"]) (B : Bare mg) (CS : Cal P w K mg base CX0 1 "_law_stands" ["_law_word", "_law_text", "_law_at"] spStands) : Cal P w K mg base CX0 2 "_law_tails" ["_law_code_here", "_law_tails_here"] spLawTails := by
  have sc : FnScope ["_law_code_here", "_law_tails_here", "_law_place", "_law_word", "_law_others", "_law_tail"] ["_law_code_here", "_law_tails_here"] (defScope Pl.s_law_tails) := ⟨rfl, rfl, rfl, by decide +kernel, rfl, by decide +kernel, by decide +kernel⟩
  refine D.cal fun f fd F => F.ok sc (fun vs H Q E h => ?_) (fun cdv A outer s H vs Q E hr h => ?_)
  · obtain ⟨_, _, _, _, rfl, _⟩ := h
    rfl
  · obtain ⟨a, p, ws, ts, rfl, hC, hp, k⟩ := h
    have nd : (["_law_other", "_law_word", "_law_tails_here"] : List Str).Nodup := by decide +kernel
    refine ⟨_, pss_cons (ps_if (pt_cmpR (op_in_s (K := K) rfl) pe_str (pv 1) rfl) (pss_one (ps_ret pe_bl)) pss_nil)
      (pss_cons (ps_for PassesOwn.never rfl (pi_enum (by rfl) B.enumerate (pa_cons (pv 0) pa_nil)) (pg_tupK (K := K) (n := 2) rfl rfl (pgs_cons (pg_name (i := 2) sc.nd rfl (Or.inl rfl)) (pgs_cons (pg_name (i := 3) sc.nd rfl (Or.inr rfl)) pgs_nil)))
        (pss_cons (ps_set (i := 4) sc.nd rfl (Or.inl rfl) (pe_op op_cat (pe_slice sl_list (pv 0) po_none (po_some (pv 2))) (pe_slice sl_list (pv 0) (po_some (pe_op op_add (pv 2) pe_int)) po_none)))
        (pss_cons (ps_if (pt_val (pe_callB (call_any_bl rfl) (by rfl) B.any Boot.«any» (pa_cons
            (pe_comp (N' := ["_law_other", "_law_word", "_law_tails_here"]) (js := [none, some 3, some 1]) (.of (by kernel_rfl)) rfl (pi_list (pv 4)) fun C fp s₀ H₀ => ⟨pg_name (i := 0) nd rfl (Or.inl rfl), pts_nil,
              pe_and (pe_callF CS hr (pa_cons (pv 1) (pa_cons (pv 0) (pa_cons pe_int pa_nil))) pass0)
                (pe_one (pe_cmpR (op_notIn_s (K := K) rfl) (pe_slice (r := rSlS) sl_str (pv 0) (po_some (pe_callB call_len_str (by rfl) B.len PySem.boot_len (pa_cons (pv 1) pa_nil))) po_none) (pv 2) rfl))⟩) pa_nil))) (pss_one (ps_ret pe_bl)) pss_nil)
        (pss_one (ps_for PassesOwn.never rfl (pi_list (pv 1)) (pg_name (i := 5) sc.nd rfl (Or.inl rfl))
          (pss_cons (ps_if (PW.pt (pw_and (pt_val (pe_callF CS hr (pa_cons (pv 5) (pa_cons (pv 3) (pa_cons pe_int pa_nil))) pass0)) (pw_and1 (pt_cmpR (op_notIn_s (K := K) rfl) (pe_slice (r := rSlS) sl_str (pv 3) (po_some (pe_callB call_len_str (by rfl) B.len PySem.boot_len (pa_cons (pv 5) pa_nil))) po_none) (pv 1) rfl)))) (pss_one (ps_ret pe_bl)) pss_nil)
          (pss_one (ps_if (PW.pt (pw_and (pt_val (pe_callF CS hr (pa_cons (pv 3) (pa_cons (pv 5) (pa_cons pe_int pa_nil))) pass0)) (pw_and1 (pt_cmpR (op_notIn_s (K := K) rfl) (pe_slice (r := rSlS) sl_str (pv 5) (po_some (pe_callB call_len_str (by rfl) B.len PySem.boot_len (pa_cons (pv 3) pa_nil))) po_none) (pv 1) rfl)))) (pss_one (ps_ret pe_bl)) pss_nil))))))))
      (pss_one (ps_ret pe_bl))), ?_⟩
    have no : ∀ {H' : Hp}, Ext H H' → ¬ TailsOk ws ts → Q (.bl false) H' := fun {H'} x z => k false H' x ⟨fun e => (nomatch e), fun e => absurd e z⟩
    refine ⟨_, rfl, p, _, rfl, .inl (SqL.of hp.at_), rfl, txts_flat ts, _, rfl, ?_⟩
    have e0 : (if false = true then !inV (.str "") (ts.map sv) else inV (.str "") (ts.map sv)) = decide ([] ∈ ts) := by
      rw [if_neg Bool.false_ne_true]
      exact inV_txt [] ts
    rw [e0]
    by_cases hne : [] ∈ ts
    · refine iteT' (by simpa using hne) (no (Ext.refl _) fun z => z.ne hne)
    · refine iteF' (by simpa using hne) ?_
      have hfew := hC.few
      have tfew := hp.few
      refine ⟨_, rfl, a, rfl, ⟨_, SqL.of hC.at_⟩, for_enum (K := K) (a := a) (xs := ws.map sv) (fun i σ H2 => (∃ o1 o2 o3 o4 : Option V, σ = [some (.ref a), some (.ref p), o1, o2, o3, o4]) ∧ Ext H H2 ∧ ∀ i', i' < i → PartOk ws ts i') ⟨⟨_, _, _, _, rfl⟩, Ext.refl _, fun i' hi' => absurd hi' (Nat.not_lt_zero _)⟩ ?_ ?_ ?_⟩
      · rintro i σ H2 hi ⟨_, x2, _⟩
        exact SqL.of (hC.ext x2).at_
      · rintro i y t σ H2 hy ⟨⟨o1, o2, o3, o4, rfl⟩, x2, hok⟩ ht
        rw [List.getElem?_map] at hy
        obtain ⟨x, hx, rfl⟩ := Option.map_eq_some_iff.mp hy
        have hlt : i < ws.length := (List.getElem?_eq_some_iff.mp hx).1
        have hxi : ws.getD i [] = x := by rw [List.getD_eq_getElem?_getD, hx]; rfl
        have hxl := hC.short x (List.mem_of_getElem? hx)
        refine ⟨t, _, rfl, SqT.of upd_same, rfl, _, _, rfl, _, _, rfl, rfl, ?_⟩
        have x3 := x2.newer (o := .tup [.int i, sv x]) ht
        generalize upd H2 t (.tup [.int i, sv x]) = H3 at x3
        have hC3 := hC.ext x3
        have hp3 := hp.ext x3
        refine ⟨_, rfl, _, rfl, (i : Int), rfl, a, _, rfl, SqL.of hC3.at_, fun q1 hq1 => ?_⟩
        rw [cutV_head ws (by omega)]
        have x4 : Ext H3 (upd H3 q1 (.lst ((ws.take i).map sv))) := Ext.new hq1
        refine ⟨_, rfl, _, rfl, _, _, rfl, rfl, ((i : Int) + 1), rfl, a, _, rfl, SqL.of (hC3.ext x4).at_, fun q2 hq2 => ?_⟩
        rw [show ((i : Int) + 1) = ((i + 1 : Nat) : Int) from rfl, cutV_rest ws (by omega)]
        have x5 := x4.newer (o := .lst ((ws.drop (i + 1)).map sv)) hq2
        refine ⟨q1, q2, _, _, rfl, rfl, upd_keep upd_same hq2, upd_same, by rw [List.length_map, List.length_map, List.length_take, List.length_drop]; exact small_line (by omega), fun q3 hq3 => ?_⟩
        rw [← List.map_append]
        have x6 := x5.newer (o := .lst ((ws.take i ++ ws.drop (i + 1)).map sv)) hq3
        generalize eo : ws.take i ++ ws.drop (i + 1) = os at x6
        have hos : ∀ y ∈ os, y.length ≤ 10000 := fun y hy => by
          rw [← eo] at hy
          obtain ⟨j, hj, _, rfl⟩ := others_mem.mp hy
          exact hC.short _ (mem_getD hj)
        have x36 := x3.trans x6
        refine ⟨_, rfl, q3, rfl, ⟨_, SqL.of upd_same⟩, ?_⟩
        have nin : ∀ z : W, (if true = true then !inV (sv z) (ts.map sv) else inV (sv z) (ts.map sv)) = !decide (z ∈ ts) := fun z => by
          rw [if_pos rfl, inV_txt]
        have slen : ∀ z : W, z.length ≤ 10000 → (st z).length ≤ sizeLine := fun z hz => by rw [st_len]; exact small_line (by omega)
        have il : ∀ z : W, (((st z).length : Nat) : Int) = ((z.length : Nat) : Int) := fun z => by rw [st_len]
        refine block_map1 (K := K) (SqL.of upd_same) (by rw [List.length_map, ← eo, List.length_append, List.length_take, List.length_drop]; exact small_line (by omega)) (fun y => match y with | .str z => .bl (decide (cut z.cps.toList 0 x.length = x) && !decide (z.cps.toList.drop x.length ∈ ts)) | _ => .non) (fun y H' hy x7 Q' k' => ?_) (fun D7 H7 hD7 x7 hD8 => ?_)
        · obtain ⟨o, ho, rfl⟩ := List.mem_map.mp hy
          have hol := hos o ho
          refine ⟨_, rfl, _, rfl, x, o, 0, rfl, hxl, by omega, Nat.zero_le _, _, rfl, ?_⟩
          by_cases hs : cut o 0 x.length = x
          · refine iteT' (by simpa using hs) ?_
            refine ⟨_, rfl, _, rfl, st x, rfl, slen x hxl, _, rfl, o, rfl, small_line (by omega), ?_⟩
            rw [il, cutL_tail' _ _ (stands_le hs)]
            refine ⟨_, rfl, p, _, rfl, .inl (SqL.of (hp3.ext (x6.trans x7)).at_), rfl, txts_flat ts, ?_⟩
            rw [nin]
            refine k' _ H' (Ext.refl _) ?_
            show V.bl _ = V.bl (decide (cut o 0 x.length = x) && !decide (o.drop x.length ∈ ts))
            rw [decide_eq_true hs, Bool.true_and]
          · refine iteF' (by simpa using hs) (k' _ H' (Ext.refl _) ?_)
            show V.bl _ = V.bl (decide (cut o 0 x.length = x) && !decide (o.drop x.length ∈ ts))
            rw [decide_eq_false hs, Bool.false_and]
        · refine ⟨D7, os.map fun o => decide (cut o 0 x.length = x) && !decide (o.drop x.length ∈ ts), rfl, SqL.of (by rw [hD8, List.map_map, List.map_map]; rfl), _, rfl, ?_⟩
          have x37 := x36.trans x7
          have hC7 := hC.ext x37
          have hp7 := hp.ext x37
          by_cases hw : ∀ o ∈ os, Lv ts x o
          · refine iteF' ?_ ?_
            · rw [List.any_eq_true]
              rintro ⟨b, hb, hb2⟩
              obtain ⟨o, ho, rfl⟩ := List.mem_map.mp hb
              exact lv_iff.mp hb2 (hw o ho)
            · refine ⟨_, rfl, p, rfl, ⟨_, SqL.of hp7.at_⟩, ?_⟩
              refine for_list (K := K) (a := p) (xs := ts.map sv) (fun j σ H8 => (∃ o4 : Option V, σ = [some (.ref a), some (.ref p), some (.int (i : Int)), some (sv x), some (.ref q3), o4]) ∧ H8 = H7 ∧ ∀ y ∈ ts.take j, Lv ts y x ∧ Lv ts x y) ⟨⟨_, rfl⟩, rfl, fun y hy => by simp at hy⟩ (fun j σ H8 _ h => by rw [h.2.1]; exact SqL.of hp7.at_) ?_ ?_
              · rintro j v σ H8 hv ⟨⟨o4, rfl⟩, rfl, hin⟩
                rw [List.getElem?_map] at hv
                obtain ⟨y, hy, rfl⟩ := Option.map_eq_some_iff.mp hv
                have hym := List.mem_of_getElem? hy
                have hyl := hp.short y hym
                have nope : ¬ (Lv ts y x ∧ Lv ts x y) → Q (.bl false) H8 := fun z => no x37 fun q => z (by
                  have := (parts_iff.mp q).2 i hlt
                  have := this.tt y hym
                  rw [hxi] at this
                  exact this)
                refine and_lv (K := K) (x := x) (y := y) (p := p) (ts := ts) (fun z H Q h1 h2 => ⟨z, rfl, h1, h2⟩) rfl rfl rfl hxl (by omega) (SqL.of hp7.at_) ?_
                by_cases h1 : Lv ts y x
                · rw [show (decide (cut x 0 y.length = y) && !decide (x.drop y.length ∈ ts)) = false from Bool.eq_false_iff.mpr fun z => lv_iff.mp z h1]
                  refine iteF ?_
                  refine and_lv (K := K) (x := y) (y := x) (p := p) (ts := ts) (fun z H Q h1 h2 => ⟨z, rfl, h1, h2⟩) rfl rfl rfl (by omega) hxl (SqL.of hp7.at_) ?_
                  by_cases h2 : Lv ts x y
                  · rw [show (decide (cut y 0 x.length = x) && !decide (y.drop x.length ∈ ts)) = false from Bool.eq_false_iff.mpr fun z => lv_iff.mp z h2]
                    refine iteF ⟨⟨_, rfl⟩, rfl, fun z hz => ?_⟩
                    rw [take_snoc hy] at hz
                    rcases List.mem_append.mp hz with q | q
                    · exact hin z q
                    · rw [List.mem_singleton.mp q]; exact ⟨h1, h2⟩
                  · rw [lv_iff.mpr h2]
                    exact iteT (nope fun z => h2 z.2)
                · rw [lv_iff.mpr h1]
                  exact iteT (nope fun z => h1 z.1)
              · rintro σ H8 ⟨⟨o4, rfl⟩, rfl, hin⟩
                rw [List.length_map, List.take_length] at hin
                refine ⟨⟨_, _, _, _, rfl⟩, x37, fun i' hi' => ?_⟩
                rcases Nat.lt_or_ge i' i with z | z
                · exact hok i' z
                · cases (show i' = i by omega)
                  exact ⟨by rw [eo, hxi]; exact hw, by rw [hxi]; exact hin⟩
          · refine iteT' ?_ (no x37 fun z => hw fun o ho => ?_)
            · rw [List.any_eq_true]
              refine Classical.byContradiction fun q => hw fun o ho => ?_
              refine Classical.byContradiction fun q2 => q ⟨_, List.mem_map.mpr ⟨o, ho, rfl⟩, lv_iff.mpr q2⟩
            · have := (parts_iff.mp z).2 i hlt
              have := this.ww o (by rw [eo]; exact ho)
              rw [hxi] at this
              exact this
      · rintro σ H2 ⟨_, x2, hok⟩
        rw [List.length_map] at hok
        exact k true _ x2 ⟨fun _ => parts_iff.mpr ⟨hne, hok⟩, fun _ => rfl⟩
end
end L2


set_option Elab.async false
set_option linter.all false
set_option maxRecDepth 100000
set_option maxHeartbeats 4000000
namespace L2
open PySem PySem.Spec PyProof.Rows Tw
seal PSs PS PE PT PW PA PG PGs PI PC
theorem cutV_init (ws : List W) : cutV (ws.map sv) none (some (-1)) = ws.dropLast.map sv := by
  have e : HT.sIx ws.length ws.length (some (-1)) = ws.length - 1 := by
    show (if (-1 : Int) < 0 then ((-1 : Int) + (ws.length : Int)).toNat else min (-1 : Int).toNat ws.length) = _
    rw [if_pos (by decide)]
    omega
  unfold cutV
  rw [List.length_map, e, List.dropLast_eq_take, List.map_take]
  rfl
theorem CodeL.sub {H H0 : Hp} {q l : Addr} {ws us : List W} (h : CodeL H0 q ws) (hl : H l = some (.lst (us.map sv))) (hs : ∀ x ∈ us, x ∈ ws) (hn : us.length ≤ ws.length) : CodeL H l us :=
  ⟨hl, fun x hx => h.ok x (hs x hx), by have := h.few; omega, fun x hx => h.short x (hs x hx)⟩
/-- read in one way at the most: the words take no more than there is -/
theorem tails_kraft {ws ts : List W} {ls : W} (T : TailsOk ws ts) (hne : ∀ x ∈ ws, x ≠ []) (h3 : ls.length = 3) (hl : ∀ x ∈ ws, ∀ z ∈ x, z ∈ ls) (L : Nat) (hL : ∀ x ∈ ws, x.length ≤ L) : kraft 3 L ws ≤ 3 ^ L := by
  have := mcmillan hL hl (by omega) (one_reading T hne)
  rw [h3] at this
  exact this
section
variable {P : Program} {w : World} {K : PySem.W.Frag} {mg : Str → Option Value} {base : Heap} {cN cC cT cA cB cR T : Addr}
/-- an answer of once, as it stands: ok of which codes -/
def AnsAt (cC cT : Addr) (H : Hp) (o : Addr) (R : List W → Prop) : Prop := ∃ dx : Addr,
  (∃ (p q : Addr) (r1 r2 : List Nat), H o = some (.ins cC dx [("one", .ref p), ("other", .ref q)]) ∧ IntsL H p r1 ∧ IntsL H q r2 ∧ r1.length ≤ 10001 ∧ r2.length ≤ 10001 ∧ R = fun ws => ClashOk ws r1 r2) ∨
  (∃ (p : Addr) (ts : List W), H o = some (.ins cT dx [("tails", .ref p)]) ∧ TxtsL H p ts ∧ R = fun ws => TailsOk ws ts)
theorem AnsAt.ext {H H' : Hp} {o : Addr} {R : List W → Prop} (h : AnsAt cC cT H o R) (x : Ext H H') : AnsAt cC cT H' o R := by
  obtain ⟨dx, h | h⟩ := h
  · obtain ⟨p, q, r1, r2, h1, h2, h3, h4⟩ := h
    exact ⟨dx, .inl ⟨p, q, r1, r2, x.ins h1, h2.ext x, h3.ext x, h4⟩⟩
  · obtain ⟨p, ts, h1, h2, h3⟩ := h
    exact ⟨dx, .inr ⟨p, ts, x.ins h1, h2.ext x, h3⟩⟩
def spDue1 (cC cT : Addr) : Sp := fun vs H Q _ => ∃ (a o : Addr) (ws : List W) (R : List W → Prop), vs = [.ref a, .ref o] ∧ CodeL H a ws ∧ (∀ x ∈ ws, x.length ≤ 90) ∧ AnsAt cC cT H o R ∧ ∀ b H', Ext H H' → (b = true ↔ R ws) → Q (.bl b) H'
theorem ok_due1 (D : Def K mg "_law_due" "_law_due" Pl.s_law_due ["_law_code_here", "_law_found"]) (B : Bare mg) (hC : mg "Clash" = some (.ref cC)) (IC : InsTy K cC) (IT : InsTy K cT) (n1 : NoAttr K cC "one") (n2 : NoAttr K cC "other") (n3 : NoAttr K cT "tails")
    (kC : PySem.W.kitOne K (.ref cC) (.ref cC) = some true) (kT : PySem.W.kitOne K (.ref cT) (.ref cC) = some false) (CC : Cal P w K mg base CX0 1 "_law_clash" ["_law_code_here", "_law_one", "_law_other"] spLawClash) (CT : Cal P w K mg base CX0 2 "_law_tails" ["_law_code_here", "_law_tails_here"] spLawTails) :
    Cal P w K mg base CX0 3 "_law_due" ["_law_code_here", "_law_found"] (spDue1 cC cT) := by
  have sc : FnScope ["_law_code_here", "_law_found"] ["_law_code_here", "_law_found"] (defScope Pl.s_law_due) := ⟨rfl, rfl, rfl, by decide +kernel, rfl, by decide +kernel, by decide +kernel⟩
  refine D.cal fun f fd F => F.ok sc (fun vs H Q E h => ?_) (fun cdv A outer s H vs Q E hr h => ?_)
  · obtain ⟨_, _, _, _, rfl, _⟩ := h
    rfl
  · obtain ⟨a, o, ws, R, rfl, hC', hsh, hA, k⟩ := h
    have hr1 : Room 1 _ := hr.mono (by decide)
    refine ⟨_, pss_cons (ps_if (pt_val (pe_callB (r := rIsi K) (call_isi_s rfl) (by rfl) B.isi boot_isinstance (pa_cons (pv 1) (pa_cons (pe_glob (v := .ref cC) (by rfl) hC rfl) pa_nil))))
        (pss_one (ps_ret (pe_callF CC hr1 (pa_cons (pv 0) (pa_cons (pe_fld (pv 1) rfl) (pa_cons (pe_fld (pv 1) rfl) pa_nil))) pass0))) pss_nil)
      (pss_one (ps_ret (pe_callF CT hr (pa_cons (pv 0) (pa_cons (pe_fld (pv 1) rfl) pa_nil)) pass0))), ?_⟩
    obtain ⟨dx, ⟨p, q, r1, r2, ho, hp, hq, l1, l2, rfl⟩ | ⟨p, ts, ho, hp, rfl⟩⟩ := hA
    · refine ⟨_, rfl, _, _, _, _, rfl, trivial, IC.ty ho, kC, _, rfl, iteT ?_⟩
      exact ⟨_, rfl, _, rfl, o, cC, dx, _, .ref p, rfl, ho, IC.cls, n1, rfl, _, rfl, o, cC, dx, _, .ref q, rfl, ho, IC.cls, n2, rfl, a, p, q, ws, r1, r2, rfl, hC', hsh, hp, hq, l1, l2, k⟩
    · refine ⟨_, rfl, _, _, _, _, rfl, trivial, IT.ty ho, kT, _, rfl, iteF ?_⟩
      exact ⟨_, rfl, _, rfl, o, cT, dx, _, .ref p, rfl, ho, IT.cls, n3, rfl, a, p, ws, ts, rfl, hC', hp, k⟩
theorem show_ans {σ : St} {H : Hp} {Q : VK} {E E' : XK} {i j : Nat} {o a : Addr} {ws : List W} {R : List W → Prop} (hf : σ[i]? = some (some (.ref o))) (ha : σ[j]? = some (some (.ref a))) (hC : CodeL H a ws) (hsh : ∀ x ∈ ws, x.length ≤ 90) (hA : AnsAt cC cT H o R)
    (k : ∀ b H', Ext H H' → (b = true ↔ R ws) → Q (.bl b) H') : tMeth cC "shows" (spShowsC cC) [] E (tVar i) (tCons (tVar j) tNil) σ H Q ∨ tMeth cT "shows" (spShowsT cT) [] E' (tVar i) (tCons (tVar j) tNil) σ H Q := by
  obtain ⟨dx, ⟨p, q, r1, r2, ho, hp, hq, l1, l2, rfl⟩ | ⟨p, ts, ho, hp, rfl⟩⟩ := hA
  · exact .inl ⟨_, hf, o, dx, _, rfl, ho, rfl, _, ha, o, a, p, q, dx, ws, r1, r2, rfl, ho, hp, hq, l1, l2, hC, hsh, k⟩
  · exact .inr ⟨_, hf, o, dx, _, rfl, ho, rfl, _, ha, o, a, p, dx, ws, ts, rfl, ho, hC, hp, k⟩
end
end L2


set_option Elab.async false
set_option linter.all false
set_option maxRecDepth 100000
set_option maxHeartbeats 4000000
namespace L2
open PySem PySem.Spec PyProof.Rows Tw
seal PSs PS PE PT PW PA PG PGs PI PC
/-- the classes of answers, as the law meets them -/
structure Clss1 (P : Program) (w : World) (K : PySem.W.Frag) (mg : Str → Option Value) (base : Heap) (cN cC cT cA cB cR : Addr) : Prop where
  OC : Kls P w K mg base "Clash" cC ["one", "other"] (spInitC cC) ["code"] (spShowsC cC)
  OT : Kls P w K mg base "Tails" cT ["tails"] (spInitT cT) ["code"] (spShowsT cT)
  n1 : NoAttr K cC "one"
  n2 : NoAttr K cC "other"
  n3 : NoAttr K cT "tails"
  IC : InsTy K cC
  IT : InsTy K cT
  tN : mg "Answer" = some (.ref cN)
  tA : mg "Apart" = some (.ref cA)
  tB : mg "Begins" = some (.ref cB)
  tR : mg "Reading" = some (.ref cR)
  cN_ : PySem.W.kitOne K (.ref cC) (.ref cN) = some true
  cC_ : PySem.W.kitOne K (.ref cC) (.ref cC) = some true
  cT_ : PySem.W.kitOne K (.ref cC) (.ref cT) = some false
  cA_ : PySem.W.kitOne K (.ref cC) (.ref cA) = some false
  cB_ : PySem.W.kitOne K (.ref cC) (.ref cB) = some false
  cR_ : PySem.W.kitOne K (.ref cC) (.ref cR) = some false
  tN_ : PySem.W.kitOne K (.ref cT) (.ref cN) = some true
  tC_ : PySem.W.kitOne K (.ref cT) (.ref cC) = some false
  tT_ : PySem.W.kitOne K (.ref cT) (.ref cT) = some true
  tA_ : PySem.W.kitOne K (.ref cT) (.ref cA) = some false
  tB_ : PySem.W.kitOne K (.ref cT) (.ref cB) = some false
  tR_ : PySem.W.kitOne K (.ref cT) (.ref cR) = some false
def spLaw (K : PySem.W.Frag) (T : Addr) : Sp := fun vs H Q _ => ∃ (a : Addr) (ns : List Int), vs = [.ref a] ∧ SqL K H a (ns.map V.int) ∧ ns.length ≤ 63 ∧ PkL T H ∧ ∀ H', Q (.bl true) H'
section
variable {P : Program} {w : World} {K : PySem.W.Frag} {mg : Str → Option Value} {base : Heap} {cN cC cT cA cB cR T : Addr}
theorem ok_law1 {f : Addr} {fd : FuncData} (F : Fun K "law" "law" Pl.s_law f fd) (B : Bare mg) (L : Clss1 P w K mg base cN cC cT cA cB cR)
    (C1 : Cal P w K mg base CX0 1 "_law_code" ["_law_script"] (spLawCode K)) (CO : Cal P w K mg base CX0 5 "once" ["code"] (spOnce1 T cC cT)) (CD : Cal P w K mg base CX0 3 "_law_due" ["_law_code_here", "_law_found"] (spDue1 cC cT))
    (CN : Cal P w K mg base CX0 1 "_law_numbers" ["_law_found"] (spNumbers K)) (CM : Cal P w K mg base CX0 1 "_law_too_many" ["_law_code_here"] spTooMany) : FnOk P w K mg base CX0 6 f fd ["_law_script"] (spLaw K T) := by
  have sc : FnScope ["_law_script", "_law_code_here", "_law_handed", "_law_again", "_law_found", "_law_other"] ["_law_script"] (defScope Pl.s_law) := ⟨rfl, rfl, rfl, by decide +kernel, rfl, by decide +kernel, by decide +kernel⟩
  obtain ⟨fC, fdC, mC, FC, bC⟩ := L.OC.sh
  obtain ⟨fT, fdT, mT, FT, bT⟩ := L.OT.sh
  refine F.ok sc (fun vs H Q E h => ?_) (fun cdv A outer s H vs Q E hr h => ?_)
  · obtain ⟨_, _, rfl, _⟩ := h
    rfl
  · obtain ⟨a, ns, rfl, hS, hlen, pk, k⟩ := h
    have hr1 : Room 1 _ := hr.mono (by decide)
    have hr3 : Room 3 _ := hr.mono (by decide)
    have hu64 : _ + 64 < cLine := hr.units
    have nd : (["_law_tail"] : List Str).Nodup := by decide +kernel
    refine ⟨_, pss_cons (ps_set (i := 1) sc.nd rfl (Or.inl rfl) (pe_callF C1 hr1 (pa_cons (pv 0) pa_nil) pass0))
      (pss_cons (ps_set (i := 2) sc.nd rfl (Or.inl rfl) (pe_callTy call_list_of (by rfl) B.list boot_list (pa_cons (pv 1) pa_nil)))
      (pss_cons (ps_for PassesOwn.never rfl (pi_range1 (by rfl) B.range (pa_cons pe_int pa_nil)) (pg_name (i := 3) sc.nd rfl (Or.inl rfl))
        (pss_cons (ps_set (i := 4) sc.nd rfl (Or.inl rfl) (pe_callF CO hr (pa_cons (pv 2) pa_nil) pass0))
        (pss_cons (ps_if (PW.pt (pw_or (pt_not (pt_val (pe_callB (r := rIsi K) (call_isi_s rfl) (by rfl) B.isi boot_isinstance (pa_cons (pv 4) (pa_cons (pe_glob (v := .ref cN) (by rfl) L.tN rfl) pa_nil)))))
            (pw_or (pt_cmpR op_eq (pe_callB (r := rIsi K) (call_isi_s rfl) (by rfl) B.isi boot_isinstance (pa_cons (pv 4) (pa_cons (pe_glob (v := .ref cC) (by rfl) L.OC.there rfl) pa_nil))) (pe_callB (r := rIsi K) (call_isi_s rfl) (by rfl) B.isi boot_isinstance (pa_cons (pv 4) (pa_cons (pe_glob (v := .ref cT) (by rfl) L.OT.there rfl) pa_nil))) (nomark _))
            (pw_or1 (pt_cmpR (op_neLT (K := K) rfl hu64) (pv 2) (pv 1) (nomark _)))))) (pss_one (ps_ret pe_bl)) pss_nil)
        (pss_cons (ps_if (PW.pt (pw_or (pt_val (pe_callB (r := rIsi K) (call_isi_s rfl) (by rfl) B.isi boot_isinstance (pa_cons (pv 4) (pa_cons (pe_glob (v := .ref cA) (by rfl) L.tA rfl) pa_nil))))
            (pw_or (pt_val (pe_callB (r := rIsi K) (call_isi_s rfl) (by rfl) B.isi boot_isinstance (pa_cons (pv 4) (pa_cons (pe_glob (v := .ref cB) (by rfl) L.tB rfl) pa_nil))))
            (pw_or1 (pt_val (pe_callB (r := rIsi K) (call_isi_s rfl) (by rfl) B.isi boot_isinstance (pa_cons (pv 4) (pa_cons (pe_glob (v := .ref cR) (by rfl) L.tR rfl) pa_nil)))))))) (pss_one (ps_ret pe_bl)) pss_nil)
        (pss_cons (ps_if (PW.pt (pw_or (pt_not (pt_val (pe_callF CD hr3 (pa_cons (pv 1) (pa_cons (pv 4) pa_nil)) pass0)))
            (pw_or1 (pt_cmpR op_isNotB (pe_either (pe_meth (pv 4) L.OC.cls mC FC hr bC .nil pass0 (pa_cons (pv 1) pa_nil)) (pe_meth (pv 4) L.OT.cls mT FT hr bT .nil pass0 (pa_cons (pv 1) pa_nil))) pe_bl (nomark _))))) (pss_one (ps_ret pe_bl)) pss_nil)
        (pss_cons (ps_for PassesOwn.never rfl (pi_list (pe_lst (pa_cons (pe_slice sl_list (pv 1) po_none (po_some (pe_un un_neg pe_int))) (pa_cons (pe_revL (K := K) rfl (pv 1) (pe_un un_neg pe_int)) pa_nil)))) (pg_name (i := 5) sc.nd rfl (Or.inl rfl))
          (pss_one (ps_if (pt_cmpR op_ne (pe_either (pe_meth (pv 4) L.OC.cls mC FC hr bC .nil pass0 (pa_cons (pv 5) pa_nil)) (pe_meth (pv 4) L.OT.cls mT FT hr bT .nil pass0 (pa_cons (pv 5) pa_nil))) (pe_callF CD hr3 (pa_cons (pv 5) (pa_cons (pv 4) pa_nil)) pass0) (nomark _)) (pss_one (ps_ret pe_bl)) pss_nil)))
        (pss_cons (ps_if (pt_val (pe_callB (r := rIsi K) (call_isi_s rfl) (by rfl) B.isi boot_isinstance (pa_cons (pv 4) (pa_cons (pe_glob (v := .ref cC) (by rfl) L.OC.there rfl) pa_nil))))
          (pss_cons (ps_if (PW.pt (pw_or (pt_not (pt_val (pe_callF CN hr1 (pa_cons (pe_fld (pv 4) rfl) pa_nil) pass0))) (pw_or1 (pt_not (pt_val (pe_callF CN hr1 (pa_cons (pe_fld (pv 4) rfl) pa_nil) pass0)))))) (pss_one (ps_ret pe_bl)) pss_nil)
          (pss_one (ps_expr (pe_bm PySem.F.plainAttrs_list PySem.F.slot_list_append PySem.F.type_list_append mt_append (pe_fld (pv 4) rfl) (pa_cons (pe_callB call_len_seq (by rfl) B.len PySem.boot_len (pa_cons (pv 1) pa_nil)) pa_nil)))))
          (pss_cons (ps_if (PW.pt (pw_or (pt_not (pt_val (pe_isi_list B (pe_fld (pv 4) rfl)))) (pw_or1 (pt_not (pt_val (pe_callB (call_all_bl rfl) (by rfl) B.all Boot.«all» (pa_cons
              (pe_comp (N' := ["_law_tail"]) (js := [none]) (.of (by kernel_rfl)) rfl (pi_list (pe_fld (pv 4) rfl)) fun C fp s₀ H₀ => ⟨pg_name (i := 0) nd rfl (Or.inl rfl), pts_nil, pe_callB (r := rIsi K) (call_isi_s rfl) (by rfl) B.isi boot_isinstance (pa_cons (pv 0) (pa_cons (pe_bltn (v := .ty "str") (by rfl) B.str boot_str rfl) pa_nil))⟩) pa_nil))))))) (pss_one (ps_ret pe_bl)) pss_nil)
          (pss_cons (ps_if (pt_val (pe_callF CM hr1 (pa_cons (pv 1) pa_nil) pass0)) (pss_one (ps_ret pe_bl)) pss_nil)
          (pss_one (ps_expr (pe_bm PySem.F.plainAttrs_list PySem.F.slot_list_append PySem.F.type_list_append mt_append (pe_fld (pv 4) rfl) (pa_cons pe_str pa_nil)))))))
        (pss_one (ps_if (pt_cmpR op_isNotB (pe_either (pe_meth (pv 4) L.OC.cls mC FC hr bC .nil pass0 (pa_cons (pv 1) pa_nil)) (pe_meth (pv 4) L.OT.cls mT FT hr bT .nil pass0 (pa_cons (pv 1) pa_nil))) pe_bl (nomark _)) (pss_one (ps_ret pe_bl)) pss_nil)))))))))
      (pss_one (ps_ret (pe_callB (r := rIsi K) (call_isi_s rfl) (by rfl) B.isi boot_isinstance (pa_cons (pe_callF CO hr (pa_cons (pe_lst pa_nil) pa_nil) pass0) (pa_cons (pe_glob (v := .ref cT) (by rfl) L.OT.there rfl) pa_nil))))))), ?_⟩
    refine ⟨_, rfl, a, ns, rfl, hS, hlen, fun c ws ls H1 hc x1 hc1 hwl hl3 hlz hG => ?_⟩
    have C1c : CodeL H1 c ws := good_code hc1 (by omega) hlz hG
    have h90 : ∀ x ∈ ws, x.length ≤ 90 := fun x hx => by have := (hG x hx).len; omega
    have haz : ∀ x ∈ ws, ∀ z ∈ x, z ∈ az := fun x hx z hz => hlz z ((hG x hx).az_ z hz)
    have hl3w := hl3
    refine ⟨_, rfl, c, _, rfl, .inl (SqL.of C1c.at_), fun hd hhd => ?_⟩
    have x2 : Ext H1 (upd H1 hd (.lst (ws.map sv))) := Ext.new hhd
    have hd2 : upd H1 hd (.lst (ws.map sv)) hd = some (.lst (ws.map sv)) := upd_same
    generalize upd H1 hd (.lst (ws.map sv)) = H2 at x2 hd2
    have Cc2 := C1c.ext x2
    have Ch2 : CodeL H2 hd ws := ⟨hd2, C1c.ok, C1c.few, C1c.short⟩
    have pk2 : PkL T H2 := PkL.ext (PkL.ext pk x1) x2
    refine ⟨_, rfl, by decide, by decide, ?_⟩
    refine for_range (fun i σ H3 => (∃ ag fo ot : Option V, σ = [some (.ref a), some (.ref c), some (.ref hd), ag, fo, ot]) ∧ XP T H2 H3) ⟨⟨_, _, _, rfl⟩, XP.refl pk2⟩ ?_ ?_
    · rintro i σ H3 hi ⟨⟨ag, fo, ot, rfl⟩, x3⟩
      refine ⟨_, rfl, hd, ws, rfl, x3.codeL Ch2, by omega, fun x hx => by have := h90 x hx; omega, x3.pk', fun o dx p q r1 r2 H4 x4 ho hp hq hpq ho4 hp4 hq4 l1 l2 hok => ?_, fun o dx p ts H4 x4 ho hp ho4 hp4 hl4 hsuf hok => ?_⟩
      · have x24 := x3.trans x4
        have c4 := x24.codeL Cc2
        have hd4 : H4 hd = some (.lst (ws.map sv)) := x24.lst hd2
        have A4 : AnsAt cC cT H4 o (fun ws => ClashOk ws r1 r2) := ⟨dx, .inl ⟨p, q, r1, r2, ho4, ⟨hp4, by omega⟩, ⟨hq4, by omega⟩, by omega, by omega, rfl⟩⟩
        refine ⟨_, rfl, _, _, _, _, rfl, trivial, L.IC.ty ho4, L.cN_, _, rfl, iteF ⟨_, rfl, _, _, _, _, rfl, trivial, L.IC.ty ho4, L.cC_, _, rfl, _, _, _, _, rfl, trivial, L.IC.ty ho4, L.cT_, rfl, _, rfl, iteF' (by decide) ⟨_, rfl, _, rfl, hd, c, ws, rfl, rfl, SqL.of hd4, SqL.of c4.at_, haz, _, rfl, iteF ?_⟩⟩⟩
        refine ⟨_, rfl, _, _, _, _, rfl, trivial, L.IC.ty ho4, L.cA_, _, rfl, iteF ⟨_, rfl, _, _, _, _, rfl, trivial, L.IC.ty ho4, L.cB_, _, rfl, iteF ⟨_, rfl, _, _, _, _, rfl, trivial, L.IC.ty ho4, L.cR_, _, rfl, iteF ?_⟩⟩⟩
        refine ⟨_, rfl, _, rfl, c, o, ws, _, rfl, c4, h90, A4, fun b H5 x5 hb => ⟨_, rfl, ?_⟩⟩
        rw [hb.mpr hok]
        refine iteF ?_
        have A5 := A4.ext x5
        refine show_ans rfl rfl (c4.ext x5) h90 A5 fun b2 H6 x6 hb2 => ⟨_, _, rfl, rfl, _, rfl, ?_⟩
        rw [hb2.mpr hok]
        refine iteF ?_
        have x46 := x5.trans x6
        have c6 := c4.ext x46
        refine ⟨_, rfl, _, rfl, _, rfl, c, _, rfl, SqL.of c6.at_, fun l1 hl1 => ?_⟩
        rw [cutV_init]
        have x7 : Ext H6 (upd H6 l1 (.lst (ws.dropLast.map sv))) := Ext.new hl1
        refine ⟨_, rfl, 1, rfl, c, _, rfl, rfl, SqL.of (c6.ext x7).at_, fun l2 hl2 => ?_⟩
        have x8 := x7.newer (o := HO.lst (ws.map sv).reverse) hl2
        refine ⟨by show 2 ≤ sizeLine; decide, fun l3 hl3 => ⟨l3, rfl, ⟨_, SqL.of upd_same⟩, ?_⟩⟩
        have x9 := x8.newer (o := HO.lst [.ref l1, .ref l2]) hl3
        have cl1 : CodeL (upd (upd (upd H6 l1 (.lst (ws.dropLast.map sv))) l2 (.lst (ws.map sv).reverse)) l3 (.lst [.ref l1, .ref l2])) l1 ws.dropLast := c4.sub (upd_keep (upd_keep upd_same hl2) hl3) (fun x hx => List.dropLast_subset ws hx) (by rw [List.length_dropLast]; omega)
        have cl2 : CodeL (upd (upd (upd H6 l1 (.lst (ws.dropLast.map sv))) l2 (.lst (ws.map sv).reverse)) l3 (.lst [.ref l1, .ref l2])) l2 ws.reverse := c4.sub (by rw [List.map_reverse]; exact upd_keep upd_same hl3) (fun x hx => List.mem_reverse.mp hx) (by rw [List.length_reverse]; omega)
        have hl3' : upd (upd (upd H6 l1 (.lst (ws.dropLast.map sv))) l2 (.lst (ws.map sv).reverse)) l3 (.lst [.ref l1, .ref l2]) l3 = some (.lst [.ref l1, .ref l2]) := upd_same
        generalize upd (upd (upd H6 l1 (.lst (ws.dropLast.map sv))) l2 (.lst (ws.map sv).reverse)) l3 (.lst [.ref l1, .ref l2]) = H9 at x9 cl1 cl2 hl3'
        have x49 := x46.trans x9
        refine for_list (K := K) (a := l3) (xs := [.ref l1, .ref l2]) (fun j σ H10 => (∃ ot : Option V, σ = [some (.ref a), some (.ref c), some (.ref hd), some (.int (0 + (i : Int))), some (.ref o), ot]) ∧ Ext H9 H10) ⟨⟨_, rfl⟩, Ext.refl _⟩ (fun j σ H10 _ h => SqL.of (h.2.lst hl3')) ?_ ?_
        · rintro j y σ H10 hy ⟨⟨ot, rfl⟩, x10⟩
          obtain ⟨qq, us, rfl, hqq, h90u⟩ : ∃ qq us, y = .ref qq ∧ CodeL H9 qq us ∧ ∀ x ∈ us, x.length ≤ 90 := by
            have := List.mem_of_getElem? hy
            simp only [List.mem_cons, List.not_mem_nil, or_false] at this
            rcases this with rfl | rfl
            · exact ⟨l1, _, rfl, cl1, fun x hx => h90 x (List.dropLast_subset ws hx)⟩
            · exact ⟨l2, _, rfl, cl2, fun x hx => h90 x (List.mem_reverse.mp hx)⟩
          have A10 := (A4.ext x49).ext x10
          refine show_ans rfl rfl (hqq.ext x10) h90u A10 fun b3 H11 x11 hb3 => ?_
          refine ⟨_, rfl, _, rfl, qq, o, us, _, rfl, (hqq.ext x10).ext x11, h90u, A10.ext x11, fun b4 H12 x12 hb4 => ⟨rfl, _, rfl, ?_⟩⟩
          have e : b3 = b4 := by rw [Bool.eq_iff_iff, hb3, hb4]
          subst e
          exact iteF' (by simp) ⟨⟨_, rfl⟩, (x10.trans x11).trans x12⟩
        · rintro σ H10 ⟨⟨ot, rfl⟩, x10⟩
          have x4a := x49.trans x10
          have ho10 := x4a.ins ho4
          have c10 := c4.ext x4a
          have hp10 := x4a.lst hp4
          have hq10 := x4a.lst hq4
          refine ⟨_, rfl, _, _, _, _, rfl, trivial, L.IC.ty ho10, L.cC_, _, rfl, iteT ?_⟩
          refine ⟨_, rfl, o, cC, dx, _, .ref p, rfl, ho10, L.OC.cls, L.n1, rfl, p, r1, rfl, hp10, by omega, fun H11 x11 => ⟨_, rfl, iteF ?_⟩⟩
          refine ⟨_, rfl, o, cC, dx, _, .ref q, rfl, x11.ins ho10, L.OC.cls, L.n2, rfl, q, r2, rfl, x11.lst hq10, by omega, fun H12 x12 => ⟨_, rfl, iteF ?_⟩⟩
          have xab := x11.trans x12
          have ho12 := xab.ins ho10
          have hp12 := xab.lst hp10
          have hq12 := xab.lst hq10
          have c12 := c10.ext xab
          refine ⟨_, rfl, o, cC, dx, _, .ref p, rfl, ho12, L.OC.cls, L.n1, rfl, .inl ⟨rfl, _, SqL.of hp12⟩, _, rfl, c, _, rfl, .inl (SqL.of c12.at_), p, _, _, rfl, rfl, hp12, by rw [List.length_map]; exact small1000000 (by omega), ?_⟩
          rw [List.length_map]
          have x2c : XP T H2 H12 := x24.then (x4a.trans xab)
          have x2d : XP T H2 (upd H12 p (.lst (intsV r1 ++ [.int (ws.length : Nat)]))) := x2c.over (x3.free hp) hp12 (fun _ z => nomatch z) fun _ z => nomatch z
          have A13 : AnsAt cC cT (upd H12 p (.lst (intsV r1 ++ [.int (ws.length : Nat)]))) o (fun us => ClashOk us (r1 ++ [ws.length]) r2) := ⟨dx, .inl ⟨p, q, r1 ++ [ws.length], r2, upd_k ho12 (ne_of ho12 hp12 (by simp)), ⟨by rw [upd_same, intsV, intsV, List.map_append]; rfl, by rw [List.length_append, List.length_singleton]; omega⟩, ⟨upd_k hq12 hpq.symm, by omega⟩, by rw [List.length_append, List.length_singleton]; omega, by omega, rfl⟩⟩
          refine show_ans rfl rfl (x2d.codeL Cc2) h90 A13 fun b5 H14 x14 hb5 => ⟨_, _, rfl, rfl, _, rfl, ?_⟩
          have e5 : b5 = false := by
            cases b5 with
            | false => rfl
            | true => exact absurd ((hb5.mp rfl).h1 ws.length (List.mem_append_right _ (List.mem_singleton.mpr rfl))) (Nat.lt_irrefl _)
          rw [e5]
          exact iteF ⟨⟨_, _, _, rfl⟩, x2d.then x14⟩
      · have x24 := x3.trans x4
        have c4 := x24.codeL Cc2
        have hd4 : H4 hd = some (.lst (ws.map sv)) := x24.lst hd2
        have short : ∀ t ∈ ts, t.length ≤ 65 := fun t ht => by
          obtain ⟨p', m', hp', hm', rfl⟩ := hsuf t ht
          have := (hG _ (mem_getD hp')).len
          rw [List.length_drop]
          omega
        have T4 : TxtsL H4 p ts := ⟨hp4, by omega, fun t ht => by have := short t ht; omega⟩
        have A4 : AnsAt cC cT H4 o (fun ws => TailsOk ws ts) := ⟨dx, .inr ⟨p, ts, ho4, T4, rfl⟩⟩
        refine ⟨_, rfl, _, _, _, _, rfl, trivial, L.IT.ty ho4, L.tN_, _, rfl, iteF ⟨_, rfl, _, _, _, _, rfl, trivial, L.IT.ty ho4, L.tC_, _, rfl, _, _, _, _, rfl, trivial, L.IT.ty ho4, L.tT_, rfl, _, rfl, iteF' (by decide) ⟨_, rfl, _, rfl, hd, c, ws, rfl, rfl, SqL.of hd4, SqL.of c4.at_, haz, _, rfl, iteF ?_⟩⟩⟩
        refine ⟨_, rfl, _, _, _, _, rfl, trivial, L.IT.ty ho4, L.tA_, _, rfl, iteF ⟨_, rfl, _, _, _, _, rfl, trivial, L.IT.ty ho4, L.tB_, _, rfl, iteF ⟨_, rfl, _, _, _, _, rfl, trivial, L.IT.ty ho4, L.tR_, _, rfl, iteF ?_⟩⟩⟩
        refine ⟨_, rfl, _, rfl, c, o, ws, _, rfl, c4, h90, A4, fun b H5 x5 hb => ⟨_, rfl, ?_⟩⟩
        rw [hb.mpr hok]
        refine iteF ?_
        have A5 := A4.ext x5
        refine show_ans rfl rfl (c4.ext x5) h90 A5 fun b2 H6 x6 hb2 => ⟨_, _, rfl, rfl, _, rfl, ?_⟩
        rw [hb2.mpr hok]
        refine iteF ?_
        have x46 := x5.trans x6
        have c6 := c4.ext x46
        refine ⟨_, rfl, _, rfl, _, rfl, c, _, rfl, SqL.of c6.at_, fun l1 hl1 => ?_⟩
        rw [cutV_init]
        have x7 : Ext H6 (upd H6 l1 (.lst (ws.dropLast.map sv))) := Ext.new hl1
        refine ⟨_, rfl, 1, rfl, c, _, rfl, rfl, SqL.of (c6.ext x7).at_, fun l2 hl2 => ?_⟩
        have x8 := x7.newer (o := HO.lst (ws.map sv).reverse) hl2
        refine ⟨by show 2 ≤ sizeLine; decide, fun l3 hl3 => ⟨l3, rfl, ⟨_, SqL.of upd_same⟩, ?_⟩⟩
        have x9 := x8.newer (o := HO.lst [.ref l1, .ref l2]) hl3
        have cl1 : CodeL (upd (upd (upd H6 l1 (.lst (ws.dropLast.map sv))) l2 (.lst (ws.map sv).reverse)) l3 (.lst [.ref l1, .ref l2])) l1 ws.dropLast := c4.sub (upd_keep (upd_keep upd_same hl2) hl3) (fun x hx => List.dropLast_subset ws hx) (by rw [List.length_dropLast]; omega)
        have cl2 : CodeL (upd (upd (upd H6 l1 (.lst (ws.dropLast.map sv))) l2 (.lst (ws.map sv).reverse)) l3 (.lst [.ref l1, .ref l2])) l2 ws.reverse := c4.sub (by rw [List.map_reverse]; exact upd_keep upd_same hl3) (fun x hx => List.mem_reverse.mp hx) (by rw [List.length_reverse]; omega)
        have hl3' : upd (upd (upd H6 l1 (.lst (ws.dropLast.map sv))) l2 (.lst (ws.map sv).reverse)) l3 (.lst [.ref l1, .ref l2]) l3 = some (.lst [.ref l1, .ref l2]) := upd_same
        generalize upd (upd (upd H6 l1 (.lst (ws.dropLast.map sv))) l2 (.lst (ws.map sv).reverse)) l3 (.lst [.ref l1, .ref l2]) = H9 at x9 cl1 cl2 hl3'
        have x49 := x46.trans x9
        refine for_list (K := K) (a := l3) (xs := [.ref l1, .ref l2]) (fun j σ H10 => (∃ ot : Option V, σ = [some (.ref a), some (.ref c), some (.ref hd), some (.int (0 + (i : Int))), some (.ref o), ot]) ∧ Ext H9 H10) ⟨⟨_, rfl⟩, Ext.refl _⟩ (fun j σ H10 _ h => SqL.of (h.2.lst hl3')) ?_ ?_
        · rintro j y σ H10 hy ⟨⟨ot, rfl⟩, x10⟩
          obtain ⟨qq, us, rfl, hqq, h90u⟩ : ∃ qq us, y = .ref qq ∧ CodeL H9 qq us ∧ ∀ x ∈ us, x.length ≤ 90 := by
            have := List.mem_of_getElem? hy
            simp only [List.mem_cons, List.not_mem_nil, or_false] at this
            rcases this with rfl | rfl
            · exact ⟨l1, _, rfl, cl1, fun x hx => h90 x (List.dropLast_subset ws hx)⟩
            · exact ⟨l2, _, rfl, cl2, fun x hx => h90 x (List.mem_reverse.mp hx)⟩
          have A10 := (A4.ext x49).ext x10
          refine show_ans rfl rfl (hqq.ext x10) h90u A10 fun b3 H11 x11 hb3 => ?_
          refine ⟨_, rfl, _, rfl, qq, o, us, _, rfl, (hqq.ext x10).ext x11, h90u, A10.ext x11, fun b4 H12 x12 hb4 => ⟨rfl, _, rfl, ?_⟩⟩
          have e : b3 = b4 := by rw [Bool.eq_iff_iff, hb3, hb4]
          subst e
          exact iteF' (by simp) ⟨⟨_, rfl⟩, (x10.trans x11).trans x12⟩
        · rintro σ H10 ⟨⟨ot, rfl⟩, x10⟩
          have x4a := x49.trans x10
          have ho10 := x4a.ins ho4
          have c10 := c4.ext x4a
          have T10 := T4.ext x4a
          refine ⟨_, rfl, _, _, _, _, rfl, trivial, L.IT.ty ho10, L.tC_, _, rfl, iteF ?_⟩
          refine ⟨_, rfl, o, cT, dx, _, .ref p, rfl, ho10, L.OT.cls, L.n3, rfl, _, _, _, _, rfl, trivial, .lst T10.at_, yes_list K, _, rfl, iteF ?_⟩
          refine ⟨_, rfl, o, cT, dx, _, .ref p, rfl, ho10, L.OT.cls, L.n3, rfl, p, rfl, ⟨_, SqL.of T10.at_⟩, block_map1 (K := K) (SqL.of T10.at_) (by rw [List.length_map]; exact small_line (by omega)) (fun y => .bl true) (fun y H' hy x11 Q' k' => ?_) (fun D11 H11 hD11 x11 hD12 => ?_)⟩
          · obtain ⟨tx, _, rfl⟩ := List.mem_map.mp hy
            obtain ⟨t, ty, e⟩ := isi_str (K := K) (H := H') (v := sv tx) ⟨_, .str _⟩
            exact ⟨_, rfl, _, _, t, _, rfl, trivial, ty, e, k' _ H' (Ext.refl _) rfl⟩
          · refine ⟨D11, (ts.map sv).map fun _ => true, rfl, SqL.of (by rw [hD12]; simp [Function.comp_def]), _, rfl, ?_⟩
            have e : ((ts.map sv).map fun _ => true).all id = true := by simp
            rw [e]
            refine iteF ?_
            have c11 := c10.ext x11
            refine ⟨_, rfl, c, ws, rfl, c11, fun L' hL => tails_kraft hok (fun x hx => (hG x hx).ne) hl3w (fun x hx => (hG x hx).az_) L' hL, fun H12 x12 => ⟨_, rfl, iteF ?_⟩⟩
            have xab := x11.trans x12
            have ho12 := xab.ins ho10
            have T12 := T10.ext xab
            refine ⟨_, rfl, o, cT, dx, _, .ref p, rfl, ho12, L.OT.cls, L.n3, rfl, .inl ⟨rfl, _, SqL.of T12.at_⟩, p, _, _, rfl, rfl, T12.at_, by rw [List.length_map]; exact small1000000 (by omega), ?_⟩
            have x2c : XP T H2 H12 := x24.then (x4a.trans xab)
            have x2d : XP T H2 (upd H12 p (.lst (ts.map sv ++ [.str ""]))) := x2c.over (x3.free hp) T12.at_ (fun _ z => nomatch z) fun _ z => nomatch z
            have A13 : AnsAt cC cT (upd H12 p (.lst (ts.map sv ++ [.str ""]))) o (fun us => TailsOk us (ts ++ [[]])) := ⟨dx, .inr ⟨p, ts ++ [[]], upd_k ho12 (ne_of ho12 T12.at_ (by simp)), ⟨by rw [upd_same, List.map_append, sE]; rfl, by rw [List.length_append, List.length_singleton]; omega, fun t ht => by
              rcases List.mem_append.mp ht with z | z
              · have := short t z; omega
              · rw [List.mem_singleton.mp z]; exact Nat.zero_le _⟩, rfl⟩⟩
            refine show_ans rfl rfl (x2d.codeL Cc2) h90 A13 fun b5 H14 x14 hb5 => ⟨_, _, rfl, rfl, _, rfl, ?_⟩
            have e5 : b5 = false := by
              cases b5 with
              | false => rfl
              | true => exact absurd (List.mem_append_right _ (List.mem_singleton.mpr rfl)) (hb5.mp rfl).ne
            rw [e5]
            exact iteF ⟨⟨_, _, _, rfl⟩, x2d.then x14⟩
    · rintro σ H3 ⟨⟨ag, fo, ot, rfl⟩, x3⟩
      refine ⟨by show 0 ≤ sizeLine; exact Nat.zero_le _, fun e he => ?_⟩
      have Ce : CodeL (upd H3 e (.lst [])) e [] := ⟨upd_same, (fun x hx => nomatch hx), by simp, fun x hx => nomatch hx⟩
      refine ⟨e, [], rfl, Ce, by simp, (fun x hx => nomatch hx), PkL.ext x3.pk' (Ext.new he), fun o dx p q r1 r2 H4 x4 ho hp hq hpq ho4 hp4 hq4 l1 l2 hok => ?_, fun o dx p ts H4 x4 ho hp ho4 hp4 hl4 hsuf hok => ⟨_, _, _, _, rfl, trivial, L.IT.ty ho4, L.tT_, k H4⟩⟩
      have e1 : r1 = [] := List.eq_nil_iff_forall_not_mem.mpr fun z hz => absurd (hok.h1 z hz) (Nat.not_lt_zero _)
      have e2 : r2 = [] := List.eq_nil_iff_forall_not_mem.mpr fun z hz => absurd (hok.h2 z hz) (Nat.not_lt_zero _)
      exact absurd (by rw [e1, e2]) hok.ne
end
end L2


set_option Elab.async false
set_option linter.all false
set_option maxRecDepth 100000
set_option maxHeartbeats 2000000
namespace L2
open PySem PySem.Spec PyProof.Rows
/-! ### the law's call, where a table of code is written -/
theorem law_callT {P : Program} {w : World} {K : PySem.W.Frag} {mg mb : Str → Option Value} {CX : CXT} {k : Nat} {fa a T : Addr} {fd : FuncData} {x : Str} {sp : Sp} {s₁ : Shared} {vs : List Value} {ns : List Int}
    (KX : K.In s₁.heap) (hns : s₁.heap.Ns mainGlobals mg) (hb : s₁.heap.Ns builtinsNs mb) (hbb : ∀ x : Str, x ≠ "__name__" → mb x = bootBuiltins x) (hlim : s₁.heap.NoLimit) (hg : s₁.gens = #[])
    (ha : s₁.heap.get? a = some { cls := .type "list", data := .seq vs.toArray }) (hi : IntsAre vs ns) (hl : ns.length ≤ sizeLine) (hr : Room k callerA)
    (KT : K.lookup T = none) (hT : s₁.heap.get? T = some { cls := .none, data := .fields #[] }) (tab : isCodeTable s₁.heap T) (M : BM mg s₁.heap)
    (F : ∀ base : Heap, K.In base → base.Ns mainGlobals mg → BM mg base → FnOk P w K mg base CX k fa fd [x] sp) (hbind : ∀ (s : Shared) (u : Value), BindsTo s fd ⟨[u], []⟩ [(x, u)])
    (hsp : ∀ H : Hp, H T = some (.tbl #[]) → SqL K H a (ns.map V.int) → sp [.ref a] H (fun v _ => v = .bl true) fun _ _ _ => False)
    (hCX : ∀ H e s', CX [] H s₁ (fun _ _ _ => False) e s' → False) :
    codeAny (model P w) callerA (.call (.ref fa) ⟨[.ref a], []⟩) (fun r s' => r = .ok (.ret (.bool true)) ∧ OldK s₁.heap s'.heap ∧ s'.os = s₁.os ∧ AllBare s'.gens) s₁ := by
  have rv := vals_ints hi
  have len := hi.length
  have aT : a ≠ T := fun z => by rw [z, hT] at ha; cases ha
  generalize eo : ({ cls := .type "list", data := .seq vs.toArray } : Obj) = oa at ha
  /- what is tracked at the entry: the table, and the script where it is no thing of the module -/
  let H : Hp := fun b => if b = T then some (.tbl #[]) else if b = a then (match K.lookup a with | none => some (.frz oa (.lst (ns.map V.int))) | some _ => none) else none
  have HT : H T = some (.tbl #[]) := if_pos rfl
  have Ha : H a = (match K.lookup a with | none => some (.frz oa (.lst (ns.map V.int))) | some _ => none) := by
    show (if a = T then _ else if a = a then _ else _) = _
    rw [if_neg aT, if_pos rfl]
  have Hn : ∀ b, b ≠ T → b ≠ a → H b = none := fun b h1 h2 => by
    show (if b = T then _ else if b = a then _ else _) = _
    rw [if_neg h1, if_neg h2]
  have lstA : ∀ {H' : Hp}, ObjOk P w H' s₁.heap a (.lst (ns.map V.int)) := by
    subst eo
    exact ⟨by rw [List.length_map]; exact hl, vs, _, rv, ha⟩
  have hok : HOk P w H s₁.heap := fun b u e => by
    by_cases z : b = T
    · subst z
      rw [HT] at e
      cases e
      exact hT
    · by_cases y : b = a
      · subst y
        rw [Ha] at e
        cases q : K.lookup b with
        | none =>
          rw [q] at e
          cases e
          exact ⟨ha, lstA⟩
        | some o =>
          rw [q] at e
          cases e
      · rw [Hn b z y] at e
        cases e
  have sq : SqL K H a (ns.map V.int) := by
    cases q : K.lookup a with
    | none => exact .inl (.inr ⟨oa, by rw [Ha, q]⟩)
    | some o =>
      have e := KX a o q
      rw [ha] at e
      cases e
      subst eo
      exact .inr ⟨_, vs.toArray, _, q, rfl, rfl, rfl, by rw [List.size_toArray, len]; exact hl, by simpa using rv⟩
  have noD : ∀ {b : Addr} {o : Obj}, s₁.heap.get? b = some o → (∀ fs, o.data ≠ .fields fs) → (∀ es n, o.data ≠ .seq es n) → H b = none := fun {b o} e n1 n2 => by
    refine Hn b (fun z => ?_) fun z => ?_
    · rw [z, hT] at e
      cases e
      exact n1 _ rfl
    · rw [z, ha, ← eo] at e
      cases e
      exact n2 _ _ rfl
  have nsK : ∀ {b : Addr} {m : Str → Option Value}, s₁.heap.Ns b m → (hidT s₁.heap H).Ns b m := fun {b m} ⟨o, es, ep, e, d, r⟩ => ⟨o, es, ep, hidT_get e (noD e (fun _ z => by rw [d] at z; cases z) fun _ _ z => by rw [d] at z; cases z), d, r⟩
  have kb : K.In (hidT s₁.heap H) := fun b o e => hidT_get (KX b o e) (by
    by_cases z : b = T
    · subst z
      rw [KT] at e
      cases e
    · by_cases y : b = a
      · subst y
        rw [Ha, e]
      · exact Hn b z y)
  have M' : BM mg (hidT s₁.heap H) := let ⟨bm, o, b1, b2, b3, b4, b5, b6⟩ := M; ⟨bm, o, b1, b2, hidT_get b3 (noD b3 (fun _ z => by rw [b6] at z; cases z) fun _ _ z => by rw [b6] at z; cases z), b4, b5, b6⟩
  have hM : Mod K mg (hidT s₁.heap H) := ⟨kb, nsK hns, ⟨mb, nsK hb, hbb⟩, let ⟨mc, h1, h2⟩ := hlim; ⟨mc, nsK h1, h2⟩⟩
  have e0 : Env0 P w K mg (hidT s₁.heap H) callerA [] s₁ H := ⟨rfl, hM, fun b o e => of_hidT e, Nat.le_of_eq (hidT_size _ _), trivial, fun b z => absurd (show b ∈ ([] : List Addr) from z) (by simp), hok, .of_eq hg⟩
  refine codeAny_mono ((F _ kb (nsK hns) M').run callerA [] s₁ H ⟨[.ref a], []⟩ [.ref a] [.ref a] _ _ hr e0 (hbind s₁ (.ref a)) (.cons rfl .nil) (hsp H HT sq)) fun r s' h => ?_
  cases r with
  | error e => exact (hCX H e s' h).elim
  | ok fl =>
    cases fl with
    | next => exact False.elim h
    | brk => exact False.elim h
    | cont => exact False.elim h
    | ret u =>
      obtain ⟨v, H', os, bare, un, hok', r', q⟩ := h
      cases (show v = .bl true from q)
      cases (show u = Value.bool true from r')
      refine ⟨rfl, ⟨fun b o e => ?_, fun b o e => un.there b o e (by simp)⟩, os, bare⟩
      by_cases z : b = T
      · subst z
        obtain ⟨more, e2⟩ := un.tbls b _ HT
        have e3 : s'.heap.get? b = some { cls := .none, data := .fields (#[] ++ more) } := hok' b _ e2
        rw [hT] at e
        cases e
        exact .inr (.inl ⟨tab, rfl, #[], more, rfl, e3⟩)
      · cases q : H b with
        | none => exact .inl (un.keep b o e q (fun z => absurd (show b ∈ ([] : List Addr) from z) (by simp)) (by simp))
        | some u =>
          have y : b = a := Classical.byContradiction fun y => by rw [Hn b z y] at q; cases q
          subst y
          rw [ha] at e
          cases e
          rw [Ha] at q
          cases q2 : K.lookup b with
          | none =>
            rw [q2] at q
            cases q
            obtain ⟨e2, _⟩ := hok' b _ (un.frzs b _ _ (by rw [Ha, q2]))
            exact .inl e2
          | some o =>
            rw [q2] at q
            cases q
end L2


set_option Elab.async false
set_option linter.all false
set_option maxRecDepth 100000
set_option maxHeartbeats 4000000
namespace L2
open PySem PySem.Spec PyProof.Rows Tw
/-! ### what the top has written -/
/-- a def stands in the part that is written out -/
def DefIn (K : PySem.W.Frag) (x : Str) (st : Stmt) (f : Addr) : Prop := PySem.W.nsIn K mainGlobals x = some (some (.ref f)) ∧
  ∃ (oc : Value) (od : Option Addr) (kV doc pm : Value) (an : Option Addr) (cdv ct : Value) (osl : Array (Option Value)), K.lookup f = some ⟨oc, od, .func (PySem.W.fnOf x x (defArgs st) (defBody st) (defScope st) .none kV doc pm an cdv ct), osl⟩ ∧
    PySem.W.codeIn K cdv x = true ∧ PySem.W.keepIn K (.ref f) = true
theorem DefIn.is {K : PySem.W.Frag} {h : Heap} {mg : Str → Option Value} {x : Str} {st : Stmt} {ps : List Str} (X : K.In h) (G : h.Ns mainGlobals mg) (d : ∃ f, DefIn K x st f)
    (hb : ∀ (kV doc pm : Value) (an : Option Addr) (cdv ct : Value) (us : List Value), us.length = ps.length → bindArgs (PySem.W.fnOf x x (defArgs st) (defBody st) (defScope st) .none kV doc pm an cdv ct) ⟨us, []⟩ = pure (ps.zip us)) : Def K mg x x st ps := by
  obtain ⟨f, a, oc, od, kV, doc, pm, an, cdv, ct, osl, l, c, k⟩ := d
  have F := fun_mk (x := x) (qual := x) (st := st) l c k
  exact ⟨f, _, F, PySem.W.mg_of X G a, k, F.binds hb⟩
theorem DefIn.mk {K : PySem.W.Frag} {x : Str} {st : Stmt} {f : Addr} {oc : Value} {od : Option Addr} {kV doc pm : Value} {an : Option Addr} {cdv ct : Value} {osl : Array (Option Value)} (a : PySem.W.nsIn K mainGlobals x = some (some (.ref f)))
    (l : K.lookup f = some ⟨oc, od, .func (PySem.W.fnOf x x (defArgs st) (defBody st) (defScope st) .none kV doc pm an cdv ct), osl⟩) (c : PySem.W.codeIn K cdv x = true) (k : PySem.W.keepIn K (.ref f) = true) : ∃ f, DefIn K x st f :=
  ⟨f, a, oc, od, kV, doc, pm, an, cdv, ct, osl, l, c, k⟩
theorem letters_mk {K : PySem.W.Frag} {x : Str} {t : Tok} (a : PySem.W.nsIn K mainGlobals "LETTERS" = some (some (.str x t))) (e : x = Str.ofString "abcdefghijklmnopqrstuvwxyz") :
    ∃ x t, PySem.W.nsIn K mainGlobals "LETTERS" = some (some (.str x t)) ∧ x = Str.ofString "abcdefghijklmnopqrstuvwxyz" := ⟨x, t, a, e⟩
theorem longest_mk {K : PySem.W.Frag} {x : Int} {t : Tok} (a : PySem.W.nsIn K mainGlobals "LONGEST" = some (some (.int x t))) (e : x = 100) : ∃ x t, PySem.W.nsIn K mainGlobals "LONGEST" = some (some (.int x t)) ∧ x = 100 := ⟨x, t, a, e⟩
/-- a class of refusals stands there -/
structure RefIn (K : PySem.W.Frag) (x : Str) (C : Addr) : Prop where
  a : PySem.W.nsIn K mainGlobals x = some (some (.ref C))
  ok : PySem.W.excIn K C bmVE "ValueError.__new__" = true
/-- a method of the class at C -/
def MthIn (K : PySem.W.Frag) (C : Addr) (m qual : Str) (st : Stmt) (f : Addr) (fd : FuncData) : Prop := PySem.W.findIn K (.ref C) m = some (some (.ref f)) ∧ PySem.W.isFn K (.ref f) = true ∧ Fun K m qual st f fd
/-- what an answer's class shows -/
structure AnsIn (K : PySem.W.Frag) (C : Addr) (fld : Str) (cN cC cT cA cB cR : Addr) (bN bC bT bA bB bR : Bool) : Prop where
  cl : Cls K C
  mak : PySem.W.makesIn K C = true
  kp : PySem.W.keepIn K (.ref C) = true
  na : NoAttr K C fld
  ty : InsTy K C
  kN : PySem.W.kitOne K (.ref C) (.ref cN) = some bN
  kC : PySem.W.kitOne K (.ref C) (.ref cC) = some bC
  kT : PySem.W.kitOne K (.ref C) (.ref cT) = some bT
  kA : PySem.W.kitOne K (.ref C) (.ref cA) = some bA
  kB : PySem.W.kitOne K (.ref C) (.ref cB) = some bB
  kR : PySem.W.kitOne K (.ref C) (.ref cR) = some bR
/-- the code of in_order, and its table -/
def codeOf (K : PySem.W.Frag) (x : Str) : Option Addr := match PySem.W.nsIn K mainGlobals x with
  | some (some (.ref f)) => match K.lookup f with
    | some ⟨_, _, .func fd, _⟩ => match fd.code with
      | .ref c => some c
      | _ => none
    | _ => none
  | _ => none
def tabP (K : PySem.W.Frag) : Addr := match codeOf K "in_order" with
  | some c => match K.lookup c with
    | some ⟨_, _, .fields vs, _⟩ => match (vs[11]? : Option Value) with
      | some (.ref p) => p
      | _ => 0
    | _ => 0
  | none => 0
def HdIn (K : PySem.W.Frag) (c P : Addr) : Prop := ∀ h : Heap, K.In h → PySem.W.CodeHd h c P
theorem HdIn.hd {K : PySem.W.Frag} {c P : Addr} {h : Heap} (x : HdIn K c P) (X : K.In h) : PySem.W.CodeHd h c P := x h X
theorem DefIn.table {K : PySem.W.Frag} {h : Heap} {mg : Str → Option Value} {T c : Addr} (X : K.In h) (G : h.Ns mainGlobals mg) (d : ∃ f, DefIn K "in_order" Pl.s_in_order f) (hc : codeOf K "in_order" = some c) (hh : HdIn K c T)
    (hb : ∀ (kV doc pm : Value) (an : Option Addr) (cdv ct : Value) (us : List Value), us.length = ["values"].length → bindArgs (PySem.W.fnOf "in_order" "in_order" (defArgs Pl.s_in_order) (defBody Pl.s_in_order) (defScope Pl.s_in_order) .none kV doc pm an cdv ct) ⟨us, []⟩ = pure ((["values"] : List Str).zip us)) :
    ∀ base : Heap, K.In base → DefT K mg base T := by
  obtain ⟨f, a, oc, od, kV, doc, pm, an, cdv, ct, osl, l, cd, k⟩ := d
  have F := fun_mk (x := "in_order") (qual := "in_order") (st := Pl.s_in_order) l cd k
  refine fun base XB => ⟨f, _, c, F, PySem.W.mg_of X G a, k, F.binds hb, ?_, hh.hd XB⟩
  unfold codeOf at hc
  rw [a] at hc
  dsimp only at hc
  rw [l] at hc
  dsimp only at hc
  split at hc
  next c' =>
    cases hc
    rfl
  next => cases hc
theorem all_mk {l : PySem.W.OpenLaw} {w : World} {K : PySem.W.Frag} {h : Heap} {mg : Str → Option Value} {fa T ci : Addr} (X : K.In h) (G : h.Ns mainGlobals mg) (hfa : mg "law" = some (.ref fa)) (hci : codeOf K "in_order" = some ci) (hhd : HdIn K ci T)
    (d0 : ∃ f, DefIn K "is_whole" Pl.s_is_whole f)
    (d1 : ∃ f, DefIn K "is_word" Pl.s_is_word f)
    (d2 : ∃ f, DefIn K "are_words" Pl.s_are_words f)
    (d3 : ∃ f, DefIn K "is_code" Pl.s_is_code f)
    (d4 : ∃ f, DefIn K "is_place" Pl.s_is_place f)
    (d5 : ∃ f, DefIn K "are_places" Pl.s_are_places f)
    (d6 : ∃ f, DefIn K "words_at" Pl.s_words_at f)
    (d7 : ∃ f, DefIn K "joined" Pl.s_joined f)
    (d8 : ∃ f, DefIn K "check_code" Pl.s_check_code f)
    (d9 : ∃ f, DefIn K "noted" Pl.s_noted f)
    (d10 : ∃ f, DefIn K "count_below" Pl.s_count_below f)
    (d11 : ∃ f, DefIn K "grouped" Pl.s_grouped f)
    (d12 : ∃ f, DefIn K "standing" Pl.s_standing f)
    (d13 : ∃ f, DefIn K "marks_behind" Pl.s_marks_behind f)
    (d14 : ∃ f, DefIn K "unrolled" Pl.s_unrolled f)
    (d15 : ∃ f, DefIn K "copied" Pl.s_copied f)
    (d16 : ∃ f, DefIn K "are_tails" Pl.s_are_tails f)
    (d17 : ∃ f, DefIn K "rests_known" Pl.s_rests_known f)
    (d18 : ∃ f, DefIn K "tails_closed" Pl.s_tails_closed f)
    (d19 : ∃ f, DefIn K "rest_numbers" Pl.s_rest_numbers f)
    (d20 : ∃ f, DefIn K "first_rests" Pl.s_first_rests f)
    (d21 : ∃ f, DefIn K "places_begun" Pl.s_places_begun f)
    (d22 : ∃ f, DefIn K "rests_behind" Pl.s_rests_behind f)
    (d23 : ∃ f, DefIn K "take_new" Pl.s_take_new f)
    (d24 : ∃ f, DefIn K "all_rests" Pl.s_all_rests f)
    (d25 : ∃ f, DefIn K "once" Pl.s_once f)
    (d26 : ∃ f, DefIn K "_law_code" Pl.s_law_code f)
    (d27 : ∃ f, DefIn K "_law_stands" Pl.s_law_stands f)
    (d28 : ∃ f, DefIn K "_law_numbers" Pl.s_law_numbers f)
    (d29 : ∃ f, DefIn K "_law_clash" Pl.s_law_clash f)
    (d30 : ∃ f, DefIn K "_law_tails" Pl.s_law_tails f)
    (d31 : ∃ f, DefIn K "_law_too_many" Pl.s_law_too_many f)
    (d32 : ∃ f, DefIn K "_law_due" Pl.s_law_due f)
    (d33 : ∃ f, DefIn K "in_order" Pl.s_in_order f)
    (d34 : ∃ f, DefIn K "law" Pl.s_law f)
    (b0 : PySem.W.nsIn K mainGlobals "isinstance" = some none)
    (b1 : PySem.W.nsIn K mainGlobals "int" = some none)
    (b2 : PySem.W.nsIn K mainGlobals "bool" = some none)
    (b3 : PySem.W.nsIn K mainGlobals "str" = some none)
    (b4 : PySem.W.nsIn K mainGlobals "list" = some none)
    (b5 : PySem.W.nsIn K mainGlobals "dict" = some none)
    (b6 : PySem.W.nsIn K mainGlobals "all" = some none)
    (b7 : PySem.W.nsIn K mainGlobals "any" = some none)
    (b8 : PySem.W.nsIn K mainGlobals "len" = some none)
    (b9 : PySem.W.nsIn K mainGlobals "range" = some none)
    (b10 : PySem.W.nsIn K mainGlobals "sorted" = some none)
    (b11 : PySem.W.nsIn K mainGlobals "sum" = some none)
    (b12 : PySem.W.nsIn K mainGlobals "enumerate" = some none)
    (b13 : PySem.W.nsIn K mainGlobals "max" = some none)
    (b14 : PySem.W.nsIn K mainGlobals "ValueError" = some none)
    (gL : ∃ x t, PySem.W.nsIn K mainGlobals "LETTERS" = some (some (.str x t)) ∧ x = Str.ofString "abcdefghijklmnopqrstuvwxyz") (gE : ∃ x t, PySem.W.nsIn K mainGlobals "EMPTY" = some (some (.int x t)) ∧ x = 0) {c0 cN cC cT cA cB cR cS : Addr}
    (r0 : RefIn K "BadCode" c0)
    (tN : PySem.W.nsIn K mainGlobals "Answer" = some (some (.ref cN)))
    (tC : PySem.W.nsIn K mainGlobals "Clash" = some (some (.ref cC)))
    (tT : PySem.W.nsIn K mainGlobals "Tails" = some (some (.ref cT)))
    (tA : PySem.W.nsIn K mainGlobals "Apart" = some (some (.ref cA)))
    (tB : PySem.W.nsIn K mainGlobals "Begins" = some (some (.ref cB)))
    (tR : PySem.W.nsIn K mainGlobals "Reading" = some (some (.ref cR)))
    (tS : PySem.W.nsIn K mainGlobals "Rest" = some (some (.ref cS)))
    (aC1 : AnsIn K cC "one" cN cC cT cA cB cR true true false false false false)
    (aC2 : AnsIn K cC "other" cN cC cT cA cB cR true true false false false false)
    (aT : AnsIn K cT "tails" cN cC cT cA cB cR true false true false false false)
    (aS1 : AnsIn K cS "place" cN cC cT cA cB cR false false false false false false)
    (aS2 : AnsIn K cS "mark" cN cC cT cA cB cR false false false false false false)
    (aS3 : AnsIn K cS "ahead" cN cC cT cA cB cR false false false false false false)
    (aS4 : AnsIn K cS "behind" cN cC cT cA cB cR false false false false false false)
    (m0 : ∃ f fd, MthIn K cC "__init__" "Clash.__init__" Pl.c_Clash_init f fd)
    (m1 : ∃ f fd, MthIn K cC "shows" "Clash.shows" Pl.c_Clash_shows f fd)
    (m2 : ∃ f fd, MthIn K cT "__init__" "Tails.__init__" Pl.c_Tails_init f fd)
    (m3 : ∃ f fd, MthIn K cT "shows" "Tails.shows" Pl.c_Tails_shows f fd)
    (m4 : ∃ f fd, MthIn K cS "__init__" "Rest.__init__" Pl.c_Rest_init f fd)
    : ∃ fd : FuncData, (∀ (s : Shared) (v : Value), BindsTo s fd ⟨[v], []⟩ [("_law_script", v)]) ∧ ∀ base : Heap, K.In base → base.Ns mainGlobals mg → BM mg base → FnOk l.prog w K mg base CX0 6 fa fd ["_law_script"] (spLaw K T) := by
  have B : Bare mg := ⟨PySem.W.mg_none_of X G b0, PySem.W.mg_none_of X G b1, PySem.W.mg_none_of X G b2, PySem.W.mg_none_of X G b3, PySem.W.mg_none_of X G b4, PySem.W.mg_none_of X G b5, PySem.W.mg_none_of X G b6, PySem.W.mg_none_of X G b7, PySem.W.mg_none_of X G b8, PySem.W.mg_none_of X G b9, PySem.W.mg_none_of X G b10, PySem.W.mg_none_of X G b11, PySem.W.mg_none_of X G b12, PySem.W.mg_none_of X G b13, PySem.W.mg_none_of X G b14⟩
  have L : ∃ t, mg "LETTERS" = some (.str "abcdefghijklmnopqrstuvwxyz" t) := by
    obtain ⟨x, t, e, rfl⟩ := gL
    exact ⟨t, PySem.W.mg_of X G e⟩
  have hE : ∃ t, mg "EMPTY" = some (.int 0 t) := by
    obtain ⟨x, t, e, rfl⟩ := gE
    exact ⟨t, PySem.W.mg_of X G e⟩
  have Z0 : Exc K mg "BadCode" c0 := ⟨PySem.W.mg_of X G r0.a, r0.ok⟩
  have D_is_whole := DefIn.is (ps := ["value"]) X G d0 fun _ _ _ _ _ _ us hl => match us, hl with | [_], _ => rfl
  have D_is_word := DefIn.is (ps := ["value", "letters"]) X G d1 fun _ _ _ _ _ _ us hl => match us, hl with | [_, _], _ => rfl
  have D_are_words := DefIn.is (ps := ["values", "letters"]) X G d2 fun _ _ _ _ _ _ us hl => match us, hl with | [_, _], _ => rfl
  have D_is_code := DefIn.is (ps := ["value"]) X G d3 fun _ _ _ _ _ _ us hl => match us, hl with | [_], _ => rfl
  have D_is_place := DefIn.is (ps := ["value", "count"]) X G d4 fun _ _ _ _ _ _ us hl => match us, hl with | [_, _], _ => rfl
  have D_are_places := DefIn.is (ps := ["values", "count"]) X G d5 fun _ _ _ _ _ _ us hl => match us, hl with | [_, _], _ => rfl
  have D_words_at := DefIn.is (ps := ["code", "places"]) X G d6 fun _ _ _ _ _ _ us hl => match us, hl with | [_, _], _ => rfl
  have D_joined := DefIn.is (ps := ["code", "places"]) X G d7 fun _ _ _ _ _ _ us hl => match us, hl with | [_, _], _ => rfl
  have D_check_code := DefIn.is (ps := ["value"]) X G d8 fun _ _ _ _ _ _ us hl => match us, hl with | [_], _ => rfl
  have D_noted := DefIn.is (ps := ["values"]) X G d9 fun _ _ _ _ _ _ us hl => match us, hl with | [_], _ => rfl
  have D_count_below := DefIn.is (ps := ["values", "value"]) X G d10 fun _ _ _ _ _ _ us hl => match us, hl with | [_, _], _ => rfl
  have D_grouped := DefIn.is (ps := ["words"]) X G d11 fun _ _ _ _ _ _ us hl => match us, hl with | [_], _ => rfl
  have D_standing := DefIn.is (ps := ["groups", "text", "mark"]) X G d12 fun _ _ _ _ _ _ us hl => match us, hl with | [_, _, _], _ => rfl
  have D_marks_behind := DefIn.is (ps := ["groups", "text", "mark"]) X G d13 fun _ _ _ _ _ _ us hl => match us, hl with | [_, _, _], _ => rfl
  have D_unrolled := DefIn.is (ps := ["chain"]) X G d14 fun _ _ _ _ _ _ us hl => match us, hl with | [_], _ => rfl
  have D_copied := DefIn.is (ps := ["value"]) X G d15 fun _ _ _ _ _ _ us hl => match us, hl with | [_], _ => rfl
  have D_are_tails := DefIn.is (ps := ["values"]) X G d16 fun _ _ _ _ _ _ us hl => match us, hl with | [_], _ => rfl
  have D_rests_known := DefIn.is (ps := ["heads", "texts", "known"]) X G d17 fun _ _ _ _ _ _ us hl => match us, hl with | [_, _, _], _ => rfl
  have D_tails_closed := DefIn.is (ps := ["code", "tails"]) X G d18 fun _ _ _ _ _ _ us hl => match us, hl with | [_, _], _ => rfl
  have D_rest_numbers := DefIn.is (ps := ["code"]) X G d19 fun _ _ _ _ _ _ us hl => match us, hl with | [_], _ => rfl
  have D_first_rests := DefIn.is (ps := ["code", "groups", "place"]) X G d20 fun _ _ _ _ _ _ us hl => match us, hl with | [_, _, _], _ => rfl
  have D_places_begun := DefIn.is (ps := ["words", "order", "tail"]) X G d21 fun _ _ _ _ _ _ us hl => match us, hl with | [_, _, _], _ => rfl
  have D_rests_behind := DefIn.is (ps := ["code", "groups", "words", "order", "rest"]) X G d22 fun _ _ _ _ _ _ us hl => match us, hl with | [_, _, _, _, _], _ => rfl
  have D_take_new := DefIn.is (ps := ["known", "numbers", "rests"]) X G d23 fun _ _ _ _ _ _ us hl => match us, hl with | [_, _, _], _ => rfl
  have D_all_rests := DefIn.is (ps := ["code"]) X G d24 fun _ _ _ _ _ _ us hl => match us, hl with | [_], _ => rfl
  have D_once := DefIn.is (ps := ["code"]) X G d25 fun _ _ _ _ _ _ us hl => match us, hl with | [_], _ => rfl
  have D_law_code := DefIn.is (ps := ["_law_script"]) X G d26 fun _ _ _ _ _ _ us hl => match us, hl with | [_], _ => rfl
  have D_law_stands := DefIn.is (ps := ["_law_word", "_law_text", "_law_at"]) X G d27 fun _ _ _ _ _ _ us hl => match us, hl with | [_, _, _], _ => rfl
  have D_law_numbers := DefIn.is (ps := ["_law_found"]) X G d28 fun _ _ _ _ _ _ us hl => match us, hl with | [_], _ => rfl
  have D_law_clash := DefIn.is (ps := ["_law_code_here", "_law_one", "_law_other"]) X G d29 fun _ _ _ _ _ _ us hl => match us, hl with | [_, _, _], _ => rfl
  have D_law_tails := DefIn.is (ps := ["_law_code_here", "_law_tails_here"]) X G d30 fun _ _ _ _ _ _ us hl => match us, hl with | [_, _], _ => rfl
  have D_law_too_many := DefIn.is (ps := ["_law_code_here"]) X G d31 fun _ _ _ _ _ _ us hl => match us, hl with | [_], _ => rfl
  have D_law_due := DefIn.is (ps := ["_law_code_here", "_law_found"]) X G d32 fun _ _ _ _ _ _ us hl => match us, hl with | [_, _], _ => rfl
  have DT := DefIn.table X G d33 hci hhd fun _ _ _ _ _ _ us hl => match us, hl with | [_], _ => rfl
  obtain ⟨g0, gd0, ga0, gf0, F0⟩ := m0
  have B0 := F0.binds (ps := ["self", "one", "other"]) fun _ _ _ _ _ _ us hl => match us, hl with | [_, _, _], _ => rfl
  obtain ⟨g1, gd1, ga1, gf1, F1⟩ := m1
  have B1 := F1.binds (ps := ["self", "code"]) fun _ _ _ _ _ _ us hl => match us, hl with | [_, _], _ => rfl
  obtain ⟨g2, gd2, ga2, gf2, F2⟩ := m2
  have B2 := F2.binds (ps := ["self", "tails"]) fun _ _ _ _ _ _ us hl => match us, hl with | [_, _], _ => rfl
  obtain ⟨g3, gd3, ga3, gf3, F3⟩ := m3
  have B3 := F3.binds (ps := ["self", "code"]) fun _ _ _ _ _ _ us hl => match us, hl with | [_, _], _ => rfl
  obtain ⟨g4, gd4, ga4, gf4, F4⟩ := m4
  have B4 := F4.binds (ps := ["self", "place", "mark", "ahead", "behind"]) fun _ _ _ _ _ _ us hl => match us, hl with | [_, _, _, _, _], _ => rfl
  obtain ⟨f, a, oc, od, kV, doc, pm, an, cdv, ct, osl, lk, c, k⟩ := d34
  have e := hfa.symm.trans (PySem.W.mg_of X G a)
  cases e
  have FL := fun_mk (x := "law") (qual := "law") (st := Pl.s_law) lk c k
  refine ⟨PySem.W.fnOf "law" "law" (defArgs Pl.s_law) (defBody Pl.s_law) (defScope Pl.s_law) .none kV doc pm an cdv ct, fun s v => .of_eq rfl, fun base XB _ M => ?_⟩
  have Cwhole := ok_is_whole (P := l.prog) (w := w) (base := base) D_is_whole B
  have Cword := ok_is_word (P := l.prog) (w := w) (base := base) D_is_word B
  have Cwords := ok_are_words D_are_words B Cword
  have Ccode := ok_is_code D_is_code L Cwords
  have Cplace := ok_is_place D_is_place Cwhole
  have Cplaces := ok_are_places D_are_places B Cplace
  have Cwat := ok_words_at (P := l.prog) (w := w) (base := base) D_words_at
  have Cchk := ok_check_code D_check_code Z0 Ccode
  have Cgrp := ok_grouped (P := l.prog) (w := w) (base := base) D_grouped B
  have Cstd := ok_standing (P := l.prog) (w := w) (base := base) D_standing B
  have Cjoi := ok_joined (P := l.prog) (w := w) (base := base) D_joined Cwat
  have Cnot := ok_noted (P := l.prog) (w := w) (base := base) D_noted B
  have Cbel := ok_count_below (P := l.prog) (w := w) (base := base) D_count_below B
  have Cmar := ok_marks_behind D_marks_behind Cstd
  have Cunr := ok_unrolled (P := l.prog) (w := w) (base := base) D_unrolled
  have CcoG := ok_copiedG (P := l.prog) (w := w) (base := base) D_copied B
  have Ctls := ok_are_tails (P := l.prog) (w := w) (base := base) D_are_tails B
  have Ckno := ok_rests_known D_rests_known Cgrp Cmar
  have Cclo := ok_tails_closed D_tails_closed B Cnot Ckno
  have Cord := ok_in_order (P := l.prog) (w := w) (DT base XB) B M
  have Crno := ok_rest_numbers1 (P := l.prog) (w := w) (base := base) D_rest_numbers B hE
  have RC : RestC l.prog w K mg base cS := ⟨PySem.W.mg_of X G tS, aS1.cl, aS1.na, aS2.na, aS3.na, aS4.na⟩
  have O : RestMk l.prog w K mg base cS := ⟨PySem.W.mg_of X G tS, g4, gd4, ⟨aS1.mak, ga4, gf4, aS1.kp⟩, ok_initRest F4 aS1.cl aS1.na aS2.na aS3.na aS4.na, B4⟩
  have Cfst := ok_first_rests1 D_first_rests Cstd O
  have Cpbe := ok_places_begun D_places_begun B Cbel
  have Crbe := ok_rests_behind D_rests_behind B Cstd Cpbe O RC
  have Ctak := ok_take_new1 (P := l.prog) (w := w) (base := base) D_take_new RC
  have Call := ok_all_rests1 D_all_rests B hE Cgrp Cord Cwat Crno Cfst Ctak Crbe
  have OC : Kls l.prog w K mg base "Clash" cC ["one", "other"] (spInitC cC) ["code"] (spShowsC cC) := ⟨PySem.W.mg_of X G tC, aC1.cl, ⟨g0, gd0, ⟨aC1.mak, ga0, gf0, aC1.kp⟩, ok_initClash F0 aC1.cl aC1.na aC2.na CcoG, B0⟩, ⟨g1, gd1, ⟨ga1, gf1, F1.kp⟩, ok_showsC F1 B aC1.cl aC1.na aC2.na Ccode Cplaces Cjoi, B1⟩⟩
  have OT : Kls l.prog w K mg base "Tails" cT ["tails"] (spInitT cT) ["code"] (spShowsT cT) := ⟨PySem.W.mg_of X G tT, aT.cl, ⟨g2, gd2, ⟨aT.mak, ga2, gf2, aT.kp⟩, ok_initTails1 F2 aT.cl aT.na CcoG, B2⟩, ⟨g3, gd3, ⟨ga3, gf3, F3.kp⟩, ok_showsT F3 aT.cl aT.na Ccode Ctls Cclo, B3⟩⟩
  have CL : Clss1 l.prog w K mg base cN cC cT cA cB cR := ⟨OC, OT, aC1.na, aC2.na, aT.na, aC1.ty, aT.ty, PySem.W.mg_of X G tN, PySem.W.mg_of X G tA, PySem.W.mg_of X G tB, PySem.W.mg_of X G tR, aC1.kN, aC1.kC, aC1.kT, aC1.kA, aC1.kB, aC1.kR, aT.kN, aT.kC, aT.kT, aT.kA, aT.kB, aT.kR⟩
  have Conc := ok_once1 D_once hE Cchk Call Cunr RC OC OT
  have Lst := ok_stands (P := l.prog) (w := w) (base := base) D_law_stands B
  have Lnu := ok_numbers (P := l.prog) (w := w) (base := base) D_law_numbers B
  have Llc := ok_law_code (P := l.prog) (w := w) (base := base) D_law_code B
  have Lcl := ok_law_clash (P := l.prog) (w := w) (base := base) D_law_clash B
  have Lta := ok_law_tails D_law_tails B Lst
  have Ltm := ok_too_many (P := l.prog) (w := w) (base := base) D_law_too_many B
  have Ldu := ok_due1 D_law_due B OC.there aC1.ty aT.ty aC1.na aC2.na aT.na aC1.kC aT.kC Lcl Lta
  exact ok_law1 FL B CL Llc Conc Ldu Lnu Ltm
end L2


set_option Elab.async false
set_option linter.all false
set_option maxRecDepth 100000
set_option maxHeartbeats 0
namespace L2
open PySem PySem.Spec PySem.W PyProof.Rows Tw
/-! ### the top's run, over trees: one look of the kernel's, no part of the heap is written out -/
/-- a step that is let by -/
def letT (tb : String → Option Builtin) (p : Program) (w : World) (m : Nat) (ann : Option Value) (x : SharedT × Thread) : Option (SharedT × Thread) := bif stepOk m ann x.2 then stepT (denote tb) p w x.1 x.2 else none
/-- steps until the top is through, k at the most -/
def runT (tb : String → Option Builtin) (p : Program) (w : World) (m : Nat) (ann : Option Value) (k : Nat) : SharedT × Thread → Option SharedT :=
  Nat.rec (fun _ => none) (fun _ more x => bif through x.2 then some x.1 else (letT tb p w m ann x).bind more) k
theorem letT_let {tb : String → Option Builtin} {p : Program} {w : World} {m : Nat} {ann : Option Value} {x y : SharedT × Thread} (h : letT tb p w m ann x = some y) : stepOk m ann x.2 = true ∧ step (denote tb) p w x.1.abs x.2 = .go y.1.abs y.2 := by
  unfold letT at h
  cases q : stepOk m ann x.2 <;> rw [q] at h
  · exact nomatch h
  · exact ⟨rfl, stepT_spec h⟩
theorem runT_spec {tb : String → Option Builtin} {p : Program} {w : World} {m : Nat} {ann : Option Value} {r : SharedT} (k : Nat) : ∀ x : SharedT × Thread, runT tb p w m ann k x = some r → topRun tb p w m ann k x.1.abs x.2 = some r.abs := by
  induction k with
  | zero => exact fun x h => nomatch h
  | succ k ih =>
    intro x h
    have h : (bif through x.2 then some x.1 else (letT tb p w m ann x).bind (runT tb p w m ann k)) = some r := h
    rw [topRun]
    cases q : through x.2 <;> rw [q] at h
    · obtain ⟨y, e1, e2⟩ := Option.bind_eq_some_iff.mp h
      obtain ⟨o1, o2⟩ := letT_let e1
      rw [o1, o2]
      exact ih y e2
    · exact congrArg some (congrArg SharedT.abs (Option.some.inj h))
noncomputable def bootT (P : Params) : BT := (.node (boot_o_0 P) (.node (boot_o_1 P) (.node (boot_o_3 P) (.node (boot_o_7 P) .nil .nil) .nil) (.node (boot_o_5 P) (.node (boot_o_9 P) .nil .nil) .nil)) (.node (boot_o_2 P) (.node (boot_o_4 P) (.node (boot_o_8 P) .nil .nil) .nil) (.node (boot_o_6 P) (.node (boot_o_10 P) .nil .nil) .nil)))
noncomputable def S0T (w : World) (os : OsState) : SharedT := ⟨bootT w.params, 11, {}, #[], boot_drawn, boot_toks, os⟩
theorem S0T_abs (w : World) (os : OsState) : (S0T w os).abs = ⟨boot_heap w.params, Array.mk [], boot_drawn, boot_toks, os⟩ := by kernel_rfl
noncomputable def topT (p : Program) (w : World) (os : OsState) : Option SharedT := runT treeTable p w 11 (some (.ref 6)) 20000 (S0T w os, topStub p)
noncomputable def okT (p : Program) (w : World) (s : Shared) : Bool := staticsOk (importedModules p.main.body) (boot_heap w.params) s.heap && namesBound p s.heap && gensDone s && laidKept (boot_heap w.params) s.heap
theorem shared_eq {a : Shared} {h : Heap} {g : Array GenState} {d : Drawn} {t : Nat} (e1 : h = a.heap) (e2 : g = a.gens) (e3 : d = a.drawn) (e4 : t = a.toks) : (⟨h, g, d, t, a.os⟩ : Shared) = a := by
  cases a
  subst e1 e2 e3 e4
  rfl
theorem ends_of {tb : String → Option Builtin} {p : Program} {w : World} {N m : Nat} {ann : Option Value} {a r : Shared} (ha : fencedOpening tb p w N = some a) (h1 : (a.heap.isNs mainGlobals && a.gens.size == 0) = true) (h2 : a.heap.objs.size = m) (h3 : a.heap.nsMap mainGlobals "__annotations__" = ann)
    (run : topRun tb p w m ann N a (topStub p) = some r) (ok : (staticsOk (importedModules p.main.body) a.heap r.heap && namesBound p r.heap && gensDone r && laidKept a.heap r.heap) = true) : openEnds tb p w N = some r := by
  subst h2 h3
  rw [openEnds, ha, Option.bind_some, topFrom, h1]
  dsimp only
  rw [run, Option.bind_some, ok]
theorem left_of {p q : Program} {Xt : Shared → Bool} {α : Type} {Yf : Shared → α} {Ya : World → α}
    (open_ : ∀ w : World, (fencedOpening treeTable p w 20000).map (fun s => (s.heap, s.gens, s.drawn, s.toks)) = some (boot_heap w.params, Array.mk [], boot_drawn, boot_toks))
    (size : ∀ w : World, ((boot_heap w.params).isNs mainGlobals && (Array.mk [] : Array GenState).size == 0, (boot_heap w.params).objs.size, (boot_heap w.params).nsMap mainGlobals "__annotations__") = (true, 11, some (.ref 6)))
    (h : ∀ w os, ∃ s, topT p w os = some s ∧ okT p w s.abs = true ∧ openSeen q [] (importedModules p.main.body) Xt true s.abs = openGood q [] ∧ Yf s.abs = Ya w) : LeftO p q [] Xt Yf Ya 20000 true := fun w => by
  obtain ⟨a, ea, eb⟩ := Option.map_eq_some_iff.mp (open_ w)
  have u1 : a.heap = boot_heap w.params := congrArg (·.1) eb
  have u2 : a.gens = Array.mk [] := congrArg (·.2.1) eb
  obtain ⟨s, r, l1, l2, l3⟩ := h w a.os
  have top := runT_spec _ _ r
  have e0 : (S0T w a.os).abs = a := (S0T_abs w a.os).trans (shared_eq u1.symm u2.symm (congrArg (·.2.2.1) eb).symm (congrArg (·.2.2.2) eb).symm)
  rw [show (S0T w a.os, topStub p).1.abs = a from e0] at top
  have ends := ends_of ea (by rw [u1, u2]; exact congrArg (·.1) (size w)) (by rw [u1]; exact congrArg (·.2.1) (size w)) (by rw [u1]; exact congrArg (·.2.2) (size w)) top (by rw [u1]; exact l1)
  rw [ends, Option.map_some, l2, l3]
theorem map_some {α β : Type} {x : Option α} {f : α → β} {b : β} (h : x.map f = some b) {s : α} (e : x = some s) : f s = b := by
  rw [e] at h
  exact Option.some.inj h
/-! ### all that stands in the heap -/
/-- a table of code: left out of what is known -/
def bareTab (o : Obj) : Bool := match o.cls with
  | .none => match o.data with
    | .fields _ => true
    | _ => false
  | _ => false
def fragL : Nat → List Obj → List (Addr × Obj)
  | _, [] => []
  | a, o :: os => match alive o with
    | some o' => bif bareTab o' then fragL (a + 1) os else (a, o') :: fragL (a + 1) os
    | none => fragL (a + 1) os
def fragH (h : Heap) : PySem.W.Frag := fragL 0 h.objs.toList
theorem fragL_at {a : Nat} {o : Obj} : ∀ {os : List Obj} {n : Nat}, (fragL n os).lookup a = some o → bareTab o = false ∧ ∃ o', n ≤ a ∧ os[a - n]? = some o' ∧ alive o' = some o
  | [], _, h => nomatch h
  | u :: os, n, h => by
    have go : (fragL (n + 1) os).lookup a = some o → bareTab o = false ∧ ∃ o', n ≤ a ∧ (u :: os)[a - n]? = some o' ∧ alive o' = some o := fun q => by
      obtain ⟨h0, o', h1, h2, h3⟩ := fragL_at q
      refine ⟨h0, o', by omega, ?_, h3⟩
      rw [show a - n = (a - (n + 1)) + 1 by omega]
      exact h2
    unfold fragL at h
    cases q : alive u with
    | none => rw [q] at h; exact go h
    | some u' =>
      rw [q] at h
      dsimp only at h
      cases y : bareTab u' with
      | true => rw [y] at h; exact go h
      | false =>
        rw [y, cond_false, List.lookup_cons] at h
        by_cases e : a = n
        · subst e
          rw [show (a == a) = true from beq_self_eq_true a] at h
          cases h
          exact ⟨y, u, Nat.le_refl _, by simp, q⟩
        · rw [show (a == n) = false from beq_false_of_ne e] at h
          exact go h
theorem fragH_no (h : Heap) {a : Addr} {o : Obj} (e : (fragH h).lookup a = some o) : bareTab o = false := (fragL_at e).1
theorem fragH_in (h : Heap) : (fragH h).In h := fun a o e => by
  obtain ⟨_, o', _, h2, h3⟩ := fragL_at e
  rw [Nat.sub_zero] at h2
  unfold Heap.get?
  rw [← Array.getElem?_toList, h2]
  show (match some o' with | some ⟨_, _, .freed, _⟩ => none | o => o) = some o
  rw [← h3]
  obtain ⟨c, d, dt, sl⟩ := o'
  cases dt <;> rfl
/-- the head of in_order's code -/
def hdSeen (K : PySem.W.Frag) : Bool := match codeOf K "in_order" with
  | some c => match K.lookup c with
    | some ⟨.type n, _, .fields vs, _⟩ => n == "code" && (match (vs[11]? : Option Value) with
      | some (.ref p) => c != p && (match vs.getD 11 .none with
        | .ref p' => p' == p
        | _ => false) && (match vs.getD 18 .none with
        | .str _ _ => true
        | _ => false) && (match vs.getD 7 .none with
        | .int _ _ => true
        | _ => false) && (match vs.getD 9 .none with
        | .bool _ => true
        | _ => false) && (match vs.getD 10 .none with
        | .int _ _ => true
        | _ => false)
      | _ => false)
    | _ => false
  | none => false
theorem hd_of {K : PySem.W.Frag} (h : hdSeen K = true) : ∃ c, codeOf K "in_order" = some c ∧ HdIn K c (tabP K) := by
  unfold hdSeen at h
  split at h
  next c ec =>
    refine ⟨c, ec, ?_⟩
    split at h
    next n od vs sl el =>
      rw [Bool.and_eq_true, beq_iff_eq] at h
      obtain ⟨rfl, h⟩ := h
      split at h
      next p ep =>
        have tp : tabP K = p := by
          unfold tabP
          rw [ec]
          dsimp only
          rw [el]
          dsimp only
          rw [ep]
        rw [tp]
        simp only [Bool.and_eq_true, bne_iff_ne, ne_eq] at h
        obtain ⟨⟨⟨⟨⟨h0, h1⟩, h2⟩, h3⟩, h4⟩, h5⟩ := h
        split at h1
        next p' e1 =>
          rw [beq_iff_eq] at h1
          subst h1
          split at h2
          next x2 t2 e2 =>
            split at h3
            next x3 t3 e3 =>
              split at h4
              next x4 e4 =>
                split at h5
                next x5 t5 e5 => exact fun h X => ⟨_, vs, x2, t2, x3, t3, x4, x5, t5, X _ _ el, rfl, rfl, ep, e1, e2, e3, e4, e5, h0⟩
                next => cases h5
              next => cases h4
            next => cases h3
          next => cases h2
        next => cases h1
      next => cases h
    next => cases h
  next => cases h
def tabNil (h : Heap) (a : Addr) : Bool := match h.get? a with
  | some ⟨.none, none, .fields vs, sl⟩ => vs.isEmpty && sl.isEmpty
  | _ => false
theorem tab_of {h : Heap} {a : Addr} (e : tabNil h a = true) : h.get? a = some { cls := .none, data := .fields #[] } := by
  unfold tabNil at e
  split at e
  next vs sl q =>
    rw [Bool.and_eq_true, Array.isEmpty_iff, Array.isEmpty_iff] at e
    rw [q, e.1, e.2]
  next => cases e
def bareFd (fd : FuncData) : FuncData := { fd with kwdefaults := .none, doc := .none, pyModule := .none, annotations := none, code := .none, closureTuple := .none }
def defSeen (K : PySem.W.Frag) (x : Str) : Option (FuncData × Bool) := match PySem.W.nsIn K mainGlobals x with
  | some (some (.ref f)) => match K.lookup f with
    | some ⟨_, _, .func fd, _⟩ => some (bareFd fd, PySem.W.codeIn K fd.code x && PySem.W.keepIn K (.ref f))
    | _ => none
  | _ => none
def defDue (x : Str) (st : Stmt) : Option (FuncData × Bool) := some (PySem.W.fnOf x x (defArgs st) (defBody st) (defScope st) .none .none .none .none none .none .none, true)
theorem DefIn.of_seen {K : PySem.W.Frag} {x : Str} {st : Stmt} (h : defSeen K x = defDue x st) : ∃ f, DefIn K x st f := by
  unfold defSeen defDue at h
  split at h
  next f e =>
    split at h
    next oc od fd osl l =>
      obtain ⟨e1, e2⟩ := Prod.mk.inj (Option.some.inj h)
      rw [Bool.and_eq_true] at e2
      obtain ⟨nm, qn, ps, bd, sc, gl, cl, df, kd, dc, pm, an, cd, ct, bl⟩ := fd
      unfold bareFd PySem.W.fnOf at e1
      simp only [FuncData.mk.injEq] at e1
      obtain ⟨rfl, rfl, rfl, rfl, rfl, rfl, rfl, rfl, _, _, _, _, _, _, rfl⟩ := e1
      exact ⟨f, e, oc, od, kd, dc, pm, an, cd, ct, osl, l, e2.1, e2.2⟩
    next => cases h
  next => cases h
def loneIn (K : PySem.W.Frag) (x : Str) : Bool := match PySem.W.nsIn K mainGlobals x with
  | some none => true
  | _ => false
theorem lone_of {K : PySem.W.Frag} {x : Str} (h : loneIn K x = true) : PySem.W.nsIn K mainGlobals x = some none := by
  unfold loneIn at h
  split at h
  · assumption
  · cases h
def adr (K : PySem.W.Frag) (x : Str) : Addr := match PySem.W.nsIn K mainGlobals x with
  | some (some (.ref a)) => a
  | _ => 0
def adrIn (K : PySem.W.Frag) (x : Str) : Bool := match PySem.W.nsIn K mainGlobals x with
  | some (some (.ref _)) => true
  | _ => false
theorem adr_of {K : PySem.W.Frag} {x : Str} (h : adrIn K x = true) : PySem.W.nsIn K mainGlobals x = some (some (.ref (adr K x))) := by
  unfold adrIn at h
  unfold adr
  split at h
  next a e => rw [e]
  next => cases h
def strIn (K : PySem.W.Frag) (x : Str) : Option Str := match PySem.W.nsIn K mainGlobals x with
  | some (some (.str y _)) => some y
  | _ => none
def intIn (K : PySem.W.Frag) (x : Str) : Option Int := match PySem.W.nsIn K mainGlobals x with
  | some (some (.int y _)) => some y
  | _ => none
theorem str_of {K : PySem.W.Frag} {x y : Str} (h : strIn K x = some y) : ∃ z t, PySem.W.nsIn K mainGlobals x = some (some (.str z t)) ∧ z = y := by
  unfold strIn at h
  split at h
  next z t e => exact ⟨z, t, e, Option.some.inj h⟩
  next => cases h
theorem int_of {K : PySem.W.Frag} {x : Str} {y : Int} (h : intIn K x = some y) : ∃ z t, PySem.W.nsIn K mainGlobals x = some (some (.int z t)) ∧ z = y := by
  unfold intIn at h
  split at h
  next z t e => exact ⟨z, t, e, Option.some.inj h⟩
  next => cases h
theorem at_ {α : Type} {l l' : List α} (h : l = l') (i : Nat) {a b : α} (ea : l[i]? = some a) (eb : l'[i]? = some b) : a = b := by
  rw [h, eb] at ea
  exact (Option.some.inj ea).symm
abbrev AS := List Bool × List (Option (Option Value)) × List (Option Bool)
def ansSeen (K : PySem.W.Frag) (x fld : Str) : AS :=
  ([PySem.W.plainGet K (adr K x) Str.empty, PySem.W.hasDictIn K (adr K x), PySem.W.plainOver K (adr K x), PySem.W.makesIn K (adr K x), PySem.W.keepIn K (.ref (adr K x))],
   [PySem.W.findIn K (.ref (adr K x)) "__setattr__", PySem.W.findIn K (.ref (adr K x)) fld, PySem.W.findIn K (.ref (adr K x)) "__class__", PySem.W.specialIn K (.builtin "object.__class__") "__get__"],
   [PySem.W.takesIn K (.builtin "object.__class__"), PySem.W.mroIn K (adr K x) (.type "object"), PySem.W.kitOne K (.ref (adr K x)) (.ref (adr K "Answer")), PySem.W.kitOne K (.ref (adr K x)) (.ref (adr K "Clash")), PySem.W.kitOne K (.ref (adr K x)) (.ref (adr K "Tails")), PySem.W.kitOne K (.ref (adr K x)) (.ref (adr K "Apart")), PySem.W.kitOne K (.ref (adr K x)) (.ref (adr K "Begins")), PySem.W.kitOne K (.ref (adr K x)) (.ref (adr K "Reading"))])
def ansDue (bN bC bT bA bB bR : Bool) : AS :=
  ([true, true, true, true, true], [some (some (.builtin "object.__setattr__")), some none, some (some (.builtin "object.__class__")), some (some (.builtin "getset_descriptor.__get__"))], [some true, some true, some bN, some bC, some bT, some bA, some bB, some bR])
theorem ans_of {K : PySem.W.Frag} {x fld : Str} {bN bC bT bA bB bR : Bool} (h : ansSeen K x fld = ansDue bN bC bT bA bB bR) : AnsIn K (adr K x) fld (adr K "Answer") (adr K "Clash") (adr K "Tails") (adr K "Apart") (adr K "Begins") (adr K "Reading") bN bC bT bA bB bR := by
  obtain ⟨h1, h23⟩ := Prod.mk.inj h
  obtain ⟨h2, h3⟩ := Prod.mk.inj h23
  have cl : Cls K (adr K x) := ⟨at_ h1 0 rfl rfl, at_ h1 1 rfl rfl, at_ h1 2 rfl rfl, at_ h2 0 rfl rfl⟩
  exact ⟨cl, at_ h1 3 rfl rfl, at_ h1 4 rfl rfl, at_ h2 1 rfl rfl, ⟨cl, at_ h2 2 rfl rfl, at_ h2 3 rfl rfl, at_ h3 0 rfl rfl, at_ h3 1 rfl rfl⟩, at_ h3 2 rfl rfl, at_ h3 3 rfl rfl, at_ h3 4 rfl rfl, at_ h3 5 rfl rfl, at_ h3 6 rfl rfl, at_ h3 7 rfl rfl⟩
def mthSeen (K : PySem.W.Frag) (x m qual : Str) : Option (FuncData × Bool) := match PySem.W.findIn K (.ref (adr K x)) m with
  | some (some (.ref f)) => match K.lookup f with
    | some ⟨_, _, .func fd, _⟩ => some (bareFd fd, PySem.W.codeIn K fd.code qual && PySem.W.keepIn K (.ref f) && PySem.W.isFn K (.ref f))
    | _ => none
  | _ => none
def mthDue (m qual : Str) (st : Stmt) : Option (FuncData × Bool) := some (PySem.W.fnOf m qual (defArgs st) (defBody st) (defScope st) .none .none .none .none none .none .none, true)
theorem mth_of {K : PySem.W.Frag} {x m qual : Str} {st : Stmt} (h : mthSeen K x m qual = mthDue m qual st) : ∃ f fd, MthIn K (adr K x) m qual st f fd := by
  unfold mthSeen mthDue at h
  split at h
  next f e =>
    split at h
    next oc od fd osl l =>
      obtain ⟨e1, e2⟩ := Prod.mk.inj (Option.some.inj h)
      rw [Bool.and_eq_true, Bool.and_eq_true] at e2
      obtain ⟨nm, qn, ps, bd, sc, gl, cl, df, kd, dc, pm, an, cd, ct, bl⟩ := fd
      unfold bareFd PySem.W.fnOf at e1
      simp only [FuncData.mk.injEq] at e1
      obtain ⟨rfl, rfl, rfl, rfl, rfl, rfl, rfl, rfl, _, _, _, _, _, _, rfl⟩ := e1
      exact ⟨f, _, e, e2.2, fun_mk l e2.1.1 e2.1.2⟩
    next => cases h
  next => cases h
abbrev SeenT := List (Option (FuncData × Bool)) × List Bool × Option Str × Option Int × List AS × List (Option (FuncData × Bool)) × Bool
def seenK (K : PySem.W.Frag) : SeenT :=
  ([defSeen K "is_whole",
    defSeen K "is_word",
    defSeen K "are_words",
    defSeen K "is_code",
    defSeen K "is_place",
    defSeen K "are_places",
    defSeen K "words_at",
    defSeen K "joined",
    defSeen K "check_code",
    defSeen K "noted",
    defSeen K "count_below",
    defSeen K "grouped",
    defSeen K "standing",
    defSeen K "marks_behind",
    defSeen K "unrolled",
    defSeen K "copied",
    defSeen K "are_tails",
    defSeen K "rests_known",
    defSeen K "tails_closed",
    defSeen K "rest_numbers",
    defSeen K "first_rests",
    defSeen K "places_begun",
    defSeen K "rests_behind",
    defSeen K "take_new",
    defSeen K "all_rests",
    defSeen K "once",
    defSeen K "_law_code",
    defSeen K "_law_stands",
    defSeen K "_law_numbers",
    defSeen K "_law_clash",
    defSeen K "_law_tails",
    defSeen K "_law_too_many",
    defSeen K "_law_due",
    defSeen K "in_order",
    defSeen K "law"],
   [loneIn K "isinstance", loneIn K "int", loneIn K "bool", loneIn K "str", loneIn K "list", loneIn K "dict", loneIn K "all", loneIn K "any", loneIn K "len", loneIn K "range", loneIn K "sorted", loneIn K "sum", loneIn K "enumerate", loneIn K "max", loneIn K "ValueError", adrIn K "Answer", adrIn K "Clash", adrIn K "Tails", adrIn K "Apart", adrIn K "Begins", adrIn K "Reading", adrIn K "Rest", adrIn K "BadCode", PySem.W.excIn K (adr K "BadCode") bmVE "ValueError.__new__"],
   strIn K "LETTERS", intIn K "EMPTY", [ansSeen K "Clash" "one", ansSeen K "Clash" "other", ansSeen K "Tails" "tails", ansSeen K "Rest" "place", ansSeen K "Rest" "mark", ansSeen K "Rest" "ahead", ansSeen K "Rest" "behind"], [mthSeen K "Clash" "__init__" "Clash.__init__", mthSeen K "Clash" "shows" "Clash.shows", mthSeen K "Tails" "__init__" "Tails.__init__", mthSeen K "Tails" "shows" "Tails.shows", mthSeen K "Rest" "__init__" "Rest.__init__"], hdSeen K)
def seenDue : SeenT :=
  ([defDue "is_whole" Pl.s_is_whole,
    defDue "is_word" Pl.s_is_word,
    defDue "are_words" Pl.s_are_words,
    defDue "is_code" Pl.s_is_code,
    defDue "is_place" Pl.s_is_place,
    defDue "are_places" Pl.s_are_places,
    defDue "words_at" Pl.s_words_at,
    defDue "joined" Pl.s_joined,
    defDue "check_code" Pl.s_check_code,
    defDue "noted" Pl.s_noted,
    defDue "count_below" Pl.s_count_below,
    defDue "grouped" Pl.s_grouped,
    defDue "standing" Pl.s_standing,
    defDue "marks_behind" Pl.s_marks_behind,
    defDue "unrolled" Pl.s_unrolled,
    defDue "copied" Pl.s_copied,
    defDue "are_tails" Pl.s_are_tails,
    defDue "rests_known" Pl.s_rests_known,
    defDue "tails_closed" Pl.s_tails_closed,
    defDue "rest_numbers" Pl.s_rest_numbers,
    defDue "first_rests" Pl.s_first_rests,
    defDue "places_begun" Pl.s_places_begun,
    defDue "rests_behind" Pl.s_rests_behind,
    defDue "take_new" Pl.s_take_new,
    defDue "all_rests" Pl.s_all_rests,
    defDue "once" Pl.s_once,
    defDue "_law_code" Pl.s_law_code,
    defDue "_law_stands" Pl.s_law_stands,
    defDue "_law_numbers" Pl.s_law_numbers,
    defDue "_law_clash" Pl.s_law_clash,
    defDue "_law_tails" Pl.s_law_tails,
    defDue "_law_too_many" Pl.s_law_too_many,
    defDue "_law_due" Pl.s_law_due,
    defDue "in_order" Pl.s_in_order,
    defDue "law" Pl.s_law],
   [true, true, true, true, true, true, true, true, true, true, true, true, true, true, true, true, true, true, true, true, true, true, true, true],
   some (Str.ofString "abcdefghijklmnopqrstuvwxyz"), some 0, [ansDue true true false false false false, ansDue true true false false false false, ansDue true false true false false false, ansDue false false false false false false, ansDue false false false false false false, ansDue false false false false false false, ansDue false false false false false false], [mthDue "__init__" "Clash.__init__" Pl.c_Clash_init, mthDue "shows" "Clash.shows" Pl.c_Clash_shows, mthDue "__init__" "Tails.__init__" Pl.c_Tails_init, mthDue "shows" "Tails.shows" Pl.c_Tails_shows, mthDue "__init__" "Rest.__init__" Pl.c_Rest_init], true)
theorem seen_mk {l : PySem.W.OpenLaw} {w : World} {K : PySem.W.Frag} {h : Heap} {mg : Str → Option Value} {fa : Addr} (X : K.In h) (G : h.Ns mainGlobals mg) (hfa : mg "law" = some (.ref fa)) (S : seenK K = seenDue) :
    ∃ fd : FuncData, (∀ (s : Shared) (v : Value), BindsTo s fd ⟨[v], []⟩ [("_law_script", v)]) ∧ ∀ base : Heap, K.In base → base.Ns mainGlobals mg → BM mg base → FnOk l.prog w K mg base CX0 6 fa fd ["_law_script"] (spLaw K (tabP K)) := by
  obtain ⟨S1, S⟩ := Prod.mk.inj S
  obtain ⟨S2, S⟩ := Prod.mk.inj S
  obtain ⟨S3, S⟩ := Prod.mk.inj S
  obtain ⟨S4, S⟩ := Prod.mk.inj S
  obtain ⟨S5, S⟩ := Prod.mk.inj S
  obtain ⟨S6, S7⟩ := Prod.mk.inj S
  obtain ⟨ci, hci, hhd⟩ := hd_of S7
  exact all_mk X G hfa hci hhd (DefIn.of_seen (at_ S1 0 rfl rfl)) (DefIn.of_seen (at_ S1 1 rfl rfl)) (DefIn.of_seen (at_ S1 2 rfl rfl)) (DefIn.of_seen (at_ S1 3 rfl rfl)) (DefIn.of_seen (at_ S1 4 rfl rfl)) (DefIn.of_seen (at_ S1 5 rfl rfl)) (DefIn.of_seen (at_ S1 6 rfl rfl)) (DefIn.of_seen (at_ S1 7 rfl rfl)) (DefIn.of_seen (at_ S1 8 rfl rfl)) (DefIn.of_seen (at_ S1 9 rfl rfl)) (DefIn.of_seen (at_ S1 10 rfl rfl)) (DefIn.of_seen (at_ S1 11 rfl rfl)) (DefIn.of_seen (at_ S1 12 rfl rfl)) (DefIn.of_seen (at_ S1 13 rfl rfl)) (DefIn.of_seen (at_ S1 14 rfl rfl)) (DefIn.of_seen (at_ S1 15 rfl rfl)) (DefIn.of_seen (at_ S1 16 rfl rfl)) (DefIn.of_seen (at_ S1 17 rfl rfl)) (DefIn.of_seen (at_ S1 18 rfl rfl)) (DefIn.of_seen (at_ S1 19 rfl rfl)) (DefIn.of_seen (at_ S1 20 rfl rfl)) (DefIn.of_seen (at_ S1 21 rfl rfl)) (DefIn.of_seen (at_ S1 22 rfl rfl)) (DefIn.of_seen (at_ S1 23 rfl rfl)) (DefIn.of_seen (at_ S1 24 rfl rfl)) (DefIn.of_seen (at_ S1 25 rfl rfl)) (DefIn.of_seen (at_ S1 26 rfl rfl)) (DefIn.of_seen (at_ S1 27 rfl rfl)) (DefIn.of_seen (at_ S1 28 rfl rfl)) (DefIn.of_seen (at_ S1 29 rfl rfl)) (DefIn.of_seen (at_ S1 30 rfl rfl)) (DefIn.of_seen (at_ S1 31 rfl rfl)) (DefIn.of_seen (at_ S1 32 rfl rfl)) (DefIn.of_seen (at_ S1 33 rfl rfl)) (DefIn.of_seen (at_ S1 34 rfl rfl))
    (lone_of (at_ S2 0 rfl rfl)) (lone_of (at_ S2 1 rfl rfl)) (lone_of (at_ S2 2 rfl rfl)) (lone_of (at_ S2 3 rfl rfl)) (lone_of (at_ S2 4 rfl rfl)) (lone_of (at_ S2 5 rfl rfl)) (lone_of (at_ S2 6 rfl rfl)) (lone_of (at_ S2 7 rfl rfl)) (lone_of (at_ S2 8 rfl rfl)) (lone_of (at_ S2 9 rfl rfl)) (lone_of (at_ S2 10 rfl rfl)) (lone_of (at_ S2 11 rfl rfl)) (lone_of (at_ S2 12 rfl rfl)) (lone_of (at_ S2 13 rfl rfl)) (lone_of (at_ S2 14 rfl rfl))
    (str_of S3) (int_of S4) ⟨adr_of (at_ S2 22 rfl rfl), at_ S2 23 rfl rfl⟩
    (adr_of (at_ S2 15 rfl rfl)) (adr_of (at_ S2 16 rfl rfl)) (adr_of (at_ S2 17 rfl rfl)) (adr_of (at_ S2 18 rfl rfl)) (adr_of (at_ S2 19 rfl rfl)) (adr_of (at_ S2 20 rfl rfl)) (adr_of (at_ S2 21 rfl rfl)) (ans_of (at_ S5 0 rfl rfl)) (ans_of (at_ S5 1 rfl rfl)) (ans_of (at_ S5 2 rfl rfl)) (ans_of (at_ S5 3 rfl rfl)) (ans_of (at_ S5 4 rfl rfl)) (ans_of (at_ S5 5 rfl rfl)) (ans_of (at_ S5 6 rfl rfl))
    (mth_of (at_ S6 0 rfl rfl)) (mth_of (at_ S6 1 rfl rfl)) (mth_of (at_ S6 2 rfl rfl)) (mth_of (at_ S6 3 rfl rfl)) (mth_of (at_ S6 4 rfl rfl))
def seenH (h : Heap) : SeenT × Bool := (seenK (fragH h), tabNil h (tabP (fragH h)))
noncomputable def hook : Hook where
  α := SeenT × Bool
  obs := fun s => seenH s.heap
  val := fun _ => (seenDue, true)
  says := fun _ h => ∃ K : PySem.W.Frag, K.In h ∧ (∀ a o, K.lookup a = some o → bareTab o = false) ∧ seenK K = seenDue ∧ h.get? (tabP K) = some { cls := .none, data := .fields #[] }
  of := fun _ s e => ⟨fragH s.heap, fragH_in _, fun _ _ q => fragH_no _ q, (Prod.mk.inj e).1, tab_of (Prod.mk.inj e).2⟩
  keeps := fun _ _ _ ⟨K, x, n, e, t⟩ k => ⟨K, x.keeps k, n, e, k _ _ t⟩
theorem walk2 {l : PySem.W.OpenLaw} {q : Program} {loose : List Str} {XP : (Str → Option Value) → Heap → Prop} {d : DefRec} (hn : l.most = some 63) (hdf : d.params.defaults = []) (hnm : d.name = "law") :
    PySem.W.WalkO q loose XP hook.says l.row.toRowW d [] (fun f vs => PySem.call f vs) := by
  refine Att.attach_call hn hdf fun w s₀ s₁ mg mb fa o pm cd doc a vs ns G Y ho hd hcd hmg hobj hints hlen hg => ?_
  obtain ⟨K, KX, KN, S, hT⟩ := Y
  rw [hnm] at hmg
  obtain ⟨fd, hb, hF⟩ := seen_mk (l := l) (w := w) KX G.T.g hmg S
  obtain ⟨ci, _, hhd⟩ := hd_of (K := K) (Prod.mk.inj (Prod.mk.inj (Prod.mk.inj (Prod.mk.inj (Prod.mk.inj (Prod.mk.inj S).2).2).2).2).2).2
  have C := hhd.hd KX
  have KT : K.lookup (tabP K) = none := by
    cases z : K.lookup (tabP K) with
    | none => rfl
    | some u =>
      have e := KX _ _ z
      rw [hT] at e
      cases e
      exact nomatch KN _ _ z
  have tab : isCodeTable s₁.heap (tabP K) := let ⟨o, vs, _, _, _, _, _, _, _, e1, e2, e3, e4, _⟩ := C; ⟨ci, o, vs, e1, e2, e3, e4⟩
  exact law_callT (sp := spLaw K (tabP K)) (CX := CX0) (k := 6) KX G.T.g G.T.b G.T.builtins G.T.nolimit hg hobj hints (Nat.le_trans hlen (by decide)) ⟨rfl, by decide, by decide⟩ KT hT tab G.T.bmain hF hb (fun H hP hS => ⟨a, ns, rfl, hS, hlen, .inl hP, fun _ => rfl⟩) fun _ _ _ z => z
noncomputable def look0 (p q : Program) (R : WRecords) (w : World) (os : OsState) := (topT p w os).map fun s => (okT p w s.abs, s.abs.heap.bltView)
theorem look0_r : look0 = look0 := rfl
name_quick look0Q for L2.look0 by L2.look0_r
noncomputable def look1 (p q : Program) (R : WRecords) (w : World) (os : OsState) := (topT p w os).map fun s => seen ((recsOf q).map (·.name)) (ownsOf q) [] { s.abs with gens := #[] }
theorem look1_r : look1 = look1 := rfl
name_quick look1Q for L2.look1 by L2.look1_r
noncomputable def look2 (p q : Program) (R : WRecords) (w : World) (os : OsState) := (topT p w os).map fun s => (openSeen q [] (importedModules p.main.body) (fun s => xlAt q [] s && recOk R s) true s.abs).2.2.1
theorem look2_r : look2 = look2 := rfl
name_quick look2Q for L2.look2 by L2.look2_r
noncomputable def look3 (p q : Program) (R : WRecords) (w : World) (os : OsState) := (topT p w os).map fun s => tabsOk q s.abs
theorem look3_r : look3 = look3 := rfl
name_quick look3Q for L2.look3 by L2.look3_r
noncomputable def look4 (p q : Program) (R : WRecords) (w : World) (os : OsState) := (topT p w os).map fun s => (pinSeenD q (drecsOf q) s.abs, plainSeenD q [] s.abs, clsSeenW q [] s.abs)
theorem look4_r : look4 = look4 := rfl
name_quick look4Q for L2.look4 by L2.look4_r
noncomputable def look5 (p q : Program) (R : WRecords) (w : World) (os : OsState) := (topT p w os).map fun s => plainSeenE q (looseW q []) s.abs
theorem look5_r : look5 = look5 := rfl
name_quick look5Q for L2.look5 by L2.look5_r
noncomputable def look6 (p q : Program) (R : WRecords) (w : World) (os : OsState) := (topT p w os).map fun s => wideSeen q s.abs
theorem look6_r : look6 = look6 := rfl
name_quick look6Q for L2.look6 by L2.look6_r
noncomputable def look7 (p q : Program) (R : WRecords) (w : World) (os : OsState) := (topT p w os).map fun s => seenH s.abs.heap
theorem look7_r : look7 = look7 := rfl
name_quick look7Q for L2.look7 by L2.look7_r
end L2


set_option Elab.async false
set_option linter.all false
set_option maxRecDepth 100000
set_option maxHeartbeats 0
namespace L2
open PySem PySem.Spec PySem.W PyProof.Rows Tw
def vw : Program := view PySem.Challenge.pw_tworeadings_k01_whole_once [1, 2, 4, 5, 6, 7, 8, 9, 10, 11, 12, 13, 14, 15, 16, 17, 18, 19, 20, 22, 23, 24, 25, 26, 27, 28, 29, 30, 31, 32, 34, 35, 36, 37, 38, 39, 40, 41, 42, 44, 45, 46, 47, 48, 49, 50, 51]
def XtL : Shared → Bool := fun s => xlAt vw [] s && recOk (RowW.records PySem.Challenge.rw_tworeadings_k01_whole_once.row.toRowW) s
theorem hop (w : World) : (fencedOpening treeTable PySem.Challenge.pw_tworeadings_k01_whole_once w 20000).map (fun s => (s.heap, s.gens, s.drawn, s.toks)) = some (boot_heap w.params, Array.mk [], boot_drawn, boot_toks) := boot_open (by kernel_rfl) (by decide) (fun s => by kernel_rfl) w
theorem hsz (w : World) : ((boot_heap w.params).isNs mainGlobals && (Array.mk [] : Array GenState).size == 0, (boot_heap w.params).objs.size, (boot_heap w.params).nsMap mainGlobals "__annotations__") = (true, 11, some (.ref 6)) := by kernel_rfl
theorem look0_q (w : World) (os : OsState) : PySem.W.Fast.look0Q PySem.Challenge.pw_tworeadings_k01_whole_once vw (RowW.records PySem.Challenge.rw_tworeadings_k01_whole_once.row.toRowW) w os = some ((true, bltViewBooted)) := by kernel_rfl
theorem look1_q (w : World) (os : OsState) : PySem.W.Fast.look1Q PySem.Challenge.pw_tworeadings_k01_whole_once vw (RowW.records PySem.Challenge.rw_tworeadings_k01_whole_once.row.toRowW) w os = some (expectedOf vw) := by kernel_rfl
theorem look2_q (w : World) (os : OsState) : PySem.W.Fast.look2Q PySem.Challenge.pw_tworeadings_k01_whole_once vw (RowW.records PySem.Challenge.rw_tworeadings_k01_whole_once.row.toRowW) w os = some (true) := by kernel_rfl
theorem look3_q (w : World) (os : OsState) : PySem.W.Fast.look3Q PySem.Challenge.pw_tworeadings_k01_whole_once vw (RowW.records PySem.Challenge.rw_tworeadings_k01_whole_once.row.toRowW) w os = some (true) := by kernel_rfl
theorem look4_q (w : World) (os : OsState) : PySem.W.Fast.look4Q PySem.Challenge.pw_tworeadings_k01_whole_once vw (RowW.records PySem.Challenge.rw_tworeadings_k01_whole_once.row.toRowW) w os = some ((pinGoodD (drecsOf vw), plainGoodD vw [], clsGoodW vw [])) := by kernel_rfl
theorem look5_q (w : World) (os : OsState) : PySem.W.Fast.look5Q PySem.Challenge.pw_tworeadings_k01_whole_once vw (RowW.records PySem.Challenge.rw_tworeadings_k01_whole_once.row.toRowW) w os = some (plainGoodE vw (looseW vw [])) := by kernel_rfl
theorem look6_q (w : World) (os : OsState) : PySem.W.Fast.look6Q PySem.Challenge.pw_tworeadings_k01_whole_once vw (RowW.records PySem.Challenge.rw_tworeadings_k01_whole_once.row.toRowW) w os = some (wideGood vw) := by kernel_rfl
theorem look7_q (w : World) (os : OsState) : PySem.W.Fast.look7Q PySem.Challenge.pw_tworeadings_k01_whole_once vw (RowW.records PySem.Challenge.rw_tworeadings_k01_whole_once.row.toRowW) w os = some ((seenDue, true)) := by kernel_rfl
theorem left : LeftO PySem.Challenge.pw_tworeadings_k01_whole_once vw [] XtL hook.obs hook.val 20000 true := left_of hop hsz fun w os => by
  have h0 := look0_q w os
  rw [← PySem.W.Fast.look0Q_eq] at h0
  have h1 := look1_q w os
  rw [← PySem.W.Fast.look1Q_eq] at h1
  have h2 := look2_q w os
  rw [← PySem.W.Fast.look2Q_eq] at h2
  have h3 := look3_q w os
  rw [← PySem.W.Fast.look3Q_eq] at h3
  have h4 := look4_q w os
  rw [← PySem.W.Fast.look4Q_eq] at h4
  have h5 := look5_q w os
  rw [← PySem.W.Fast.look5Q_eq] at h5
  have h6 := look6_q w os
  rw [← PySem.W.Fast.look6Q_eq] at h6
  have h7 := look7_q w os
  rw [← PySem.W.Fast.look7Q_eq] at h7
  obtain ⟨s, e, l0⟩ := Option.map_eq_some_iff.mp h0
  obtain ⟨a0, a1⟩ := Prod.mk.inj l0
  obtain ⟨b0, b1⟩ := Prod.mk.inj (map_some h4 e)
  obtain ⟨b1, b2⟩ := Prod.mk.inj b1
  exact ⟨s, e, a0, Prod.ext (map_some h1 e) (Prod.ext a1 (Prod.ext (map_some h2 e) (Prod.ext (map_some h3 e) (Prod.ext b0 (Prod.ext (map_some h5 e) (Prod.ext b1 (Prod.ext (map_some h6 e) b2))))))), map_some h7 e⟩
end L2
open PySem PySem.W PyProof.Rows
theorem PySem.Challenge.cw_tworeadings_k01_whole_once_holds : PySem.Challenge.rw_tworeadings_k01_whole_once.Holds := by
  w_on; o_law
  refine holds_open (q := L2.vw) (loose := []) (Xt := L2.XtL) (XP := XL L2.vw []) (Yf := Hook.obs L2.hook) (Ya := Hook.val L2.hook) (YP := Hook.says L2.hook) (N := 20000) L2.left (Hook.of L2.hook) (Hook.keeps L2.hook) (fun s e => xl_of s (Bool.and_eq_true_iff.mp e).1) XL.keeps (by rfl) (by rfl) (by rfl)
    (fun s e => recFacts_of (Bool.and_eq_true_iff.mp e).2) (by rfl) (by first | assumption | decide +kernel) (by decide +kernel) ⟨rfl, rfl, rfl, rfl, rfl, by decide +kernel⟩ ?hw ?hc
  case hw => w_witness2
  case hc => exact L2.walk2 (l := PySem.Challenge.rw_tworeadings_k01_whole_once) rfl rfl rfl

