import PyProof.Rows.All
import Wide.All
import OpenK.AllK
import Wide.FinOn
import Lean
import PyProof.EqAt
import PyProof.EqKinds
import PyProof.TupleCall
import PyProof.StrBlockL
import PyProof.StationsW
import PyProof.Rows.SortRuns
import PyProof.CollectWalk
import PySem.Challenge.RW_tworeadings_k02_whole_read
set_option Elab.async false
set_option linter.all false
set_option maxRecDepth 100000
/-! THE HAND LAYER, for ints, bools, texts, own classes, DICTS (int and text keys), calls, loops. Paste it whole ahead of your own text; what your proof does not reach may be deleted. -/
namespace L2
open PySem PySem.Spec PyProof.Rows

/-- a key: an int or a str -/
abbrev Key := Sum Int Str
def keyIs : Key → Value → Bool
  | .inl k, v => Value.isInt k v
  | .inr x, v => Value.isStrOf x v
def keyH (w : World) : Key → Int
  | .inl k => hashInt k
  | .inr x => hashStr w x
theorem keyIs_shape : ∀ {k : Key} {v : Value}, keyIs k v = true → (∃ i t, k = Sum.inl i ∧ v = Value.int i t) ∨ (∃ x t, k = Sum.inr x ∧ v = Value.str x t)
  | .inl i, v, h => by
    obtain ⟨t, e⟩ := Value.isInt_shape (k := i) (v := v) h
    exact .inl ⟨i, t, rfl, e⟩
  | .inr x, v, h => by
    obtain ⟨t, e⟩ := Value.isStrOf_shape (x := x) (v := v) h
    exact .inr ⟨x, t, rfl, e⟩
theorem keyIs_int (i : Int) (t : Tok) : keyIs (.inl i) (.int i t) = true := by simp [keyIs, Value.isInt]
theorem keyIs_str (x : Str) (t : Tok) : keyIs (.inr x) (.str x t) = true := by simp [keyIs, Value.isStrOf]
theorem key_ll (a b : Int) : decide ((Sum.inl a : Key) = Sum.inl b) = (a == b) := by
  by_cases e : a = b
  · subst e; simp
  · have h : ¬ (Sum.inl a : Key) = Sum.inl b := fun q => e (Sum.inl.inj q)
    rw [decide_eq_false h]
    exact (beq_eq_false_iff_ne.mpr e).symm
theorem key_rr (a b : Str) : decide ((Sum.inr a : Key) = Sum.inr b) = decide (a = b) := by
  by_cases e : a = b
  · subst e; simp
  · have h : ¬ (Sum.inr a : Key) = Sum.inr b := fun q => e (Sum.inr.inj q)
    rw [decide_eq_false h, decide_eq_false e]
theorem key_lr (a : Int) (b : Str) : decide ((Sum.inl a : Key) = Sum.inr b) = false := decide_eq_false (fun q => nomatch q)
theorem key_rl (a : Str) (b : Int) : decide ((Sum.inr a : Key) = Sum.inl b) = false := decide_eq_false (fun q => nomatch q)

def mixKind (prog : Program) (w : World) : PySem.KeyKind prog w Key where
  is := keyIs
  hash := keyH w
  inj := fun v a b ha hb => by
    rcases keyIs_shape ha with ⟨i, t, rfl, rfl⟩ | ⟨x, t, rfl, rfl⟩
    · rcases keyIs_shape hb with ⟨j, u, rfl, e⟩ | ⟨y, u, rfl, e⟩
      · injection e with e1 _; rw [e1]
      · exact nomatch e
    · rcases keyIs_shape hb with ⟨j, u, rfl, e⟩ | ⟨y, u, rfl, e⟩
      · exact nomatch e
      · injection e with e1 _; rw [e1]
  byValue := fun k v h => by
    rcases keyIs_shape h with ⟨i, t, rfl, rfl⟩ | ⟨x, t, rfl, rfl⟩ <;> rfl
  pyHash := fun hv h => by
    rcases keyIs_shape hv with ⟨i, t, rfl, rfl⟩ | ⟨x, t, rfl, rfl⟩
    · exact wpAny_pyHash_int h
    · exact wpAny_pyHash_str h
  eqBool := fun hu hv h => by
    rcases keyIs_shape hu with ⟨i, t, rfl, rfl⟩ | ⟨x, t, rfl, rfl⟩
    · rcases keyIs_shape hv with ⟨j, u, rfl, rfl⟩ | ⟨y, u, rfl, rfl⟩
      · rw [key_ll] at h; exact wpAny_eqBool_int h
      · rw [key_lr] at h; exact SeqAt.EqAt.int_str i t y u _ _ _ _ h
    · rcases keyIs_shape hv with ⟨j, u, rfl, rfl⟩ | ⟨y, u, rfl, rfl⟩
      · rw [key_rl] at h; exact SeqAt.EqAt.str_int x t j u _ _ _ _ h
      · rw [key_rr] at h; exact wpAny_eqBool_str h
  «strs» := fun k x t v h => by
    rcases keyIs_shape h with ⟨i, u, rfl, e⟩ | ⟨y, u, rfl, e⟩
    · exact nomatch e
    · injection e with e1 _
      subst e1
      cases v <;> rfl

theorem mixKind_is (prog : Program) (w : World) (k : Key) (v : Value) : (mixKind prog w).is k v = keyIs k v := rfl
theorem mixKind_int (prog : Program) (w : World) (i : Int) (t : Tok) : (mixKind prog w).is (.inl i) (.int i t) = true := keyIs_int i t
theorem mixKind_str (prog : Program) (w : World) (x : Str) (t : Tok) : (mixKind prog w).is (.inr x) (.str x t) = true := keyIs_str x t
end L2

namespace L2
open PySem PySem.Spec PyProof.Rows

/-- a value, without the heap -/
inductive V where
  | non | bl (b : Bool) | int (i : Int) | str (x : Str) | byt (b : Array UInt8) | flt (b : UInt64) | ref (a : Addr) | ty (n : String)
  deriving DecidableEq

def RelV : V → Value → Prop
  | .non, u => u = Value.none
  | .bl b, u => u = Value.bool b
  | .int i, u => ∃ t, u = Value.int i t
  | .str x, u => ∃ t, u = Value.str x t
  | .byt b, u => ∃ t, u = Value.bytes b t
  | .flt b, u => ∃ t, u = Value.float b t
  | .ref a, u => u = Value.ref a
  | .ty n, u => u = Value.type n

abbrev Vals : List V → List Value → Prop := Paired RelV
theorem Vals.length {xs : List V} {us : List Value} (r : Vals xs us) : xs.length = us.length := Paired.length r
theorem Vals.get : ∀ {xs : List V} {us : List Value} {i : Nat} {x : V}, Vals xs us → xs[i]? = some x → ∃ u, us[i]? = some u ∧ RelV x u
  | _, _, _, _, .nil, e => by simp at e
  | _, _, 0, _, .cons r _, e => by simp at e; subst e; exact ⟨_, rfl, r⟩
  | _, _, i + 1, x, .cons _ t, e => by
    obtain ⟨u, h1, h2⟩ := Vals.get (i := i) (x := x) t (by simpa using e)
    exact ⟨u, by simpa using h1, h2⟩
theorem Vals.set {x : V} {u : Value} (r : RelV x u) : ∀ {xs : List V} {us : List Value} (i : Nat), Vals xs us → Vals (xs.set i x) (us.set i u)
  | _, _, _, .nil => .nil
  | _, _, 0, .cons _ t => .cons r t
  | _, _, i + 1, .cons q t => .cons q (Vals.set r i t)
theorem Vals.append : ∀ {xs ys : List V} {us ws : List Value}, Vals xs us → Vals ys ws → Vals (xs ++ ys) (us ++ ws)
  | _, _, _, _, .nil, s => s
  | _, _, _, _, .cons r t, s => .cons r (Vals.append t s)
theorem Vals.take : ∀ {xs : List V} {us : List Value} (n : Nat), Vals xs us → Vals (xs.take n) (us.take n)
  | _, _, 0, _ => .nil
  | _, _, _ + 1, .nil => .nil
  | _, _, n + 1, .cons r t => .cons r (Vals.take n t)
theorem Vals.drop : ∀ {xs : List V} {us : List Value} (n : Nat), Vals xs us → Vals (xs.drop n) (us.drop n)
  | _, _, 0, r => r
  | _, _, _ + 1, .nil => .nil
  | _, _, n + 1, .cons _ t => Vals.drop n t
theorem Vals.none_of : ∀ {xs : List V} {us : List Value} {i : Nat}, Vals xs us → xs[i]? = none → us[i]? = none := fun {xs us i} r e => by
  have h1 := r.length
  have h2 : xs.length ≤ i := List.getElem?_eq_none_iff.mp e
  exact List.getElem?_eq_none_iff.mpr (by omega)

def RelO : Option V → Option Value → Prop
  | some v, some u => RelV v u
  | none, none => True
  | _, _ => False
def KV {κ : Type} : List (κ × V) → List (κ × Value) → Prop := Paired fun (p : κ × V) (q : κ × Value) => p.1 = q.1 ∧ RelV p.2 q.2

/-- a key of a dict (00_mix): an int or a text -/
def kV : Key → V
  | .inl i => .int i
  | .inr x => .str x

/-- what stands at a tracked address -/
inductive HO where
  /-- a list -/
  | lst (xs : List V)
  /-- a tuple (never changes) -/
  | tup (xs : List V)
  /-- a dict whose keys are ints and texts; one whose keys are tuples of ints and texts (the empty one is both) -/
  | dK (kvs : List (Key × V)) | dT (kvs : List (List Key × V))
  /-- a set of ints: its members, its size -/
  | set (S : Int → Bool) (n : Nat)
  /-- an instance of the class at C, its dict at dx, its attributes -/
  | ins (C dx : Addr) (fs : List (Str × V))
  /-- the dict of the instance at x -/
  | own (x : Addr)
  /-- the dict of an exception -/
  | xd (fs : List (Str × V))
  /-- a bound method, f of x -/
  | met (f x : Addr)
  /-- a range object lo, lo + 1, .. below hi -/
  | rng (lo hi : Int)
  /-- a thing that is known to the object (the script; a dict while a loop walks it): read, never written while it is so -/
  | frz (o : Obj) (u : HO)
  /-- a code object's table -/
  | tbl (ps : Array Value)
  /-- any other thing, by what is true of its one object (a def of one's own: SetO a S n := HO.ext fun h => ..) -/
  | ext (φ : Heap → Prop)

abbrev Hp := Addr → Option HO
def upd (H : Hp) (a : Addr) (o : HO) : Hp := fun b => if b = a then some o else H b
theorem upd_same {H : Hp} {a : Addr} {o : HO} : upd H a o a = some o := by unfold upd; rw [if_pos rfl]
theorem upd_ne {H : Hp} {a b : Addr} {o : HO} (h : b ≠ a) : upd H a o b = H b := by unfold upd; rw [if_neg h]
theorem upd_upd {H : Hp} {a : Addr} {o u : HO} : upd (upd H a o) a u = upd H a u := by
  funext b; unfold upd; split <;> rfl
/-- two objects of different content stand apart -/
theorem ne_of {H : Hp} {a b : Addr} {o u : HO} (h : H a = some o) (h' : H b = some u) (d : o ≠ u) : a ≠ b := by
  intro e; subst e; rw [h] at h'; exact d (Option.some.inj h')
theorem ne_of_none {H : Hp} {a b : Addr} {o : HO} (h : H a = some o) (h' : H b = none) : a ≠ b := by
  intro e; subst e; rw [h] at h'; cases h'

section
variable (P : Program) (w : World)
def ObjOk (H : Hp) (h : Heap) (a : Addr) : HO → Prop
  | .lst xs => xs.length ≤ sizeLine ∧ ∃ (its : List Value) (n : Nat), Vals xs its ∧ h.get? a = some { cls := .type "list", data := .seq its.toArray n }
  | .tup xs => xs.length ≤ sizeLine ∧ ∃ its : List Value, Vals xs its ∧ IsTup h a its.toArray
  | .dK kvs => kvs.length ≤ sizeLine ∧ (a == sysModules) = false ∧ ∃ vs, KV kvs vs ∧ h.DictOf (mixKind P w) a vs
  | .dT kvs => kvs.length ≤ sizeLine ∧ (a == sysModules) = false ∧ ∃ xs : List (List Key × Addr × Value),
      Paired (fun (p : List Key × V) (q : List Key × Addr × Value) => p.1 = q.1 ∧ H q.2.1 = some (.tup (p.1.map kV)) ∧ RelV p.2 q.2.2) kvs xs ∧
      ∃ o es ep, h.get? a = some o ∧ o.ExactDict ∧ o.data = .dict es ep ∧ es.toList = xs.map (entryOfKey (tupleKind (mixKind P w))) ∧ (xs.map (·.1)).Nodup
  | .set S n => h.SetOf (intKind P w) a S n
  | .ins C dx fs => H dx = some (.own a) ∧ fs.length ≤ 1000 ∧ dx ≠ a ∧ h.get? a = some (PySem.W.instObj C dx) ∧
      ∃ mA, h.Ns1 dx mA ∧ (∀ f, RelO (fs.lookup f) (mA f)) ∧ PySem.Within mA (fs.map (·.1))
  | .own _ => ∃ o, h.get? a = some o
  | .xd fs => ∃ mA, h.Ns1 a mA ∧ ∀ f, RelO (fs.lookup f) (mA f)
  | .rng lo hi => ∃ t u v, h.get? a = some { cls := .type "range", data := .fields #[.int lo t, .int hi u, .int 1 v] }
  | .frz o u => h.get? a = some o ∧ ObjOk H h a u
  | .tbl ps => h.get? a = some { cls := .none, data := .fields ps }
  | .met f x => h.get? a = some (PySem.W.methodObj (.ref f) (.ref x))
  | .ext φ => φ h ∧ (∃ o, h.get? a = some o) ∧ ∀ h1 h2 : Heap, φ h1 → (∀ o, h1.get? a = some o → h2.get? a = some o) → φ h2
/-- the abstract heap is held -/
def HOk (H : Hp) (h : Heap) : Prop := ∀ a o, H a = some o → ObjOk P w H h a o
end

section
variable {P : Program} {w : World} {H H' : Hp} {h h' : Heap} {a : Addr} {o : HO}
theorem ObjOk.lt (x : ObjOk P w H h a o) : a < h.objs.size := by
  cases o with
  | lst xs => obtain ⟨_, _, _, _, e⟩ := x; exact Heap.lt_size e
  | tup xs => obtain ⟨_, _, _, p⟩ := x; exact p.lt
  | dK kvs => obtain ⟨_, _, _, _, o, _, _, e, _⟩ := x; exact Heap.lt_size e
  | dT kvs => obtain ⟨_, _, _, _, o, _, _, e, _⟩ := x; exact Heap.lt_size e
  | set S n => obtain ⟨o, _, _, _, e, _⟩ := x; exact Heap.lt_size e
  | ins C dx fs => obtain ⟨_, _, _, e, _⟩ := x; exact Heap.lt_size e
  | own y => obtain ⟨_, e⟩ := x; exact Heap.lt_size e
  | xd fs => obtain ⟨_, ⟨_, _, _, e, _⟩, _⟩ := x; exact Heap.lt_size e
  | rng lo hi => obtain ⟨_, _, _, e⟩ := x; exact Heap.lt_size e
  | frz ob u => obtain ⟨e, _⟩ := x; exact Heap.lt_size e
  | tbl ps => exact Heap.lt_size (show h.get? a = some _ from x)
  | met f y => exact Heap.lt_size (show h.get? a = some _ from x)
  | ext φ => obtain ⟨_, ⟨_, e⟩, _⟩ := x; exact Heap.lt_size e
theorem Paired.mapP {α β : Type} {F G : α → β → Prop} : ∀ {l₁ : List α} {l₂ : List β}, Paired F l₁ l₂ → (∀ a b, F a b → G a b) → Paired G l₁ l₂
  | _, _, .nil, _ => .nil
  | _, _, .cons r t, f => .cons (f _ _ r) (Paired.mapP t f)
theorem Paired.imp' {α β : Type} {F G : α → β → Prop} (f : ∀ a b, F a b → G a b) {l₁ : List α} {l₂ : List β} (r : Paired F l₁ l₂) : Paired G l₁ l₂ := Paired.mapP r f
/-- what an object's description leans on: its own object, its own dict, the tuples -/
theorem ObjOk.stay (x : ObjOk P w H h a o) (k : ∀ b u, (b = a ∨ H b = some (.own a)) → h.get? b = some u → h'.get? b = some u)
    (ho : ∀ b, H b = some (.own a) → H' b = some (.own a)) (ht : ∀ b xs, H b = some (.tup xs) → H' b = some (.tup xs)) : ObjOk P w H' h' a o := by
  induction o with
  | lst xs => obtain ⟨z, its, n, r, e⟩ := x; exact ⟨z, its, n, r, k _ _ (.inl rfl) e⟩
  | tup xs => obtain ⟨z, its, r, ob, e, c⟩ := x; exact ⟨z, its, r, ob, k _ _ (.inl rfl) e, c⟩
  | dK kvs => obtain ⟨z, y, vs, r, ob, es, ep, e, c⟩ := x; exact ⟨z, y, vs, r, ob, es, ep, k _ _ (.inl rfl) e, c⟩
  | dT kvs =>
    obtain ⟨z, y, xs, r, ob, es, ep, e, c⟩ := x
    exact ⟨z, y, xs, Paired.mapP r fun p q z => ⟨z.1, ht _ _ z.2.1, z.2.2⟩, ob, es, ep, k _ _ (.inl rfl) e, c⟩
  | set S n => obtain ⟨ob, es, ep, t, e, c⟩ := x; exact ⟨ob, es, ep, t, k _ _ (.inl rfl) e, c⟩
  | ins C dx fs =>
    obtain ⟨d, z, ne, e, mA, ⟨od, es, ep, e2, c⟩, r⟩ := x
    exact ⟨ho _ d, z, ne, k _ _ (.inl rfl) e, mA, ⟨od, es, ep, k _ _ (.inr d) e2, c⟩, r⟩
  | own y => obtain ⟨ob, e⟩ := x; exact ⟨ob, k _ _ (.inl rfl) e⟩
  | xd fs => obtain ⟨mA, ⟨od, es, ep, e, c⟩, r⟩ := x; exact ⟨mA, ⟨od, es, ep, k _ _ (.inl rfl) e, c⟩, r⟩
  | rng lo hi => obtain ⟨t, u, v, e⟩ := x; exact ⟨t, u, v, k _ _ (.inl rfl) e⟩
  | frz ob u ih => obtain ⟨e, q⟩ := x; exact ⟨k _ _ (.inl rfl) e, ih q⟩
  | tbl ps =>
    have e : h.get? a = some { cls := .none, data := .fields ps } := x
    show h'.get? a = some { cls := .none, data := .fields ps }
    exact k a _ (.inl rfl) e
  | met f y =>
    have e : h.get? a = some (PySem.W.methodObj (.ref f) (.ref y)) := x
    show h'.get? a = some (PySem.W.methodObj (.ref f) (.ref y))
    exact k a _ (.inl rfl) e
  | ext φ => obtain ⟨p, ⟨o, e⟩, st⟩ := x; exact ⟨st _ _ p fun o q => k _ _ (.inl rfl) q, ⟨o, k _ _ (.inl rfl) e⟩, st⟩
theorem HOk.lt (x : HOk P w H h) (e : H a = some o) : a < h.objs.size := (x a o e).lt
theorem HOk.fresh (x : HOk P w H h) (e : h.objs.size ≤ a) : H a = none := by
  cases q : H a with
  | none => rfl
  | some u => exact absurd (Nat.lt_of_lt_of_le (x.lt q) e) (Nat.lt_irrefl _)
/-- every object of the heap is kept -/
theorem HOk.kept (x : HOk P w H h) (k : ∀ b u, h.get? b = some u → h'.get? b = some u) : HOk P w H h' := fun a o e =>
  (x a o e).stay (fun b u _ q => k b u q) (fun _ q => q) fun _ _ q => q
/-- a new object is laid and tracked -/
theorem HOk.laid (x : HOk P w H h) (k : ∀ b u, h.get? b = some u → h'.get? b = some u) (hp : h.objs.size ≤ a) (new : ObjOk P w (upd H a o) h' a o) : HOk P w (upd H a o) h' := fun b u e => by
  have hn := x.fresh hp
  by_cases hb : b = a
  · subst hb; rw [upd_same] at e; cases e; exact new
  · rw [upd_ne hb] at e
    exact (x b u e).stay (fun c v _ q => k c v q) (fun c q => by rw [upd_ne (ne_of_none q hn)]; exact q) fun c xs q => by rw [upd_ne (ne_of_none q hn)]; exact q
end

/-- what may be read as u: it is u, or a known u -/
def Rd (H : Hp) (a : Addr) (u : HO) : Prop := H a = some u ∨ ∃ o, H a = some (.frz o u)
theorem Rd.of {H : Hp} {a : Addr} {u : HO} (h : H a = some u) : Rd H a u := .inl h
theorem Rd.ok {P : Program} {w : World} {H : Hp} {h : Heap} {a : Addr} {u : HO} (r : Rd H a u) (x : HOk P w H h) : ObjOk P w H h a u := by
  rcases r with r | ⟨o, r⟩
  · exact x a u r
  · obtain ⟨_, q⟩ := x a _ r
    exact q
/-- what may be written -/
def Mut : Option HO → Prop
  | some (.lst _) => True
  | some (.dK _) => True
  | some (.dT _) => True
  | some (.set _ _) => True
  | some (.ins _ _ _) => True
  | some (.ext _) => True
  | _ => False
section
variable {P : Program} {w : World} {H : Hp} {h h' : Heap} {x e : Addr} {o' : HO}
/-- the object at e is changed: x itself, or the dict of the instance x -/
theorem HOk.write (ok : HOk P w H h) (mu : Mut (H x)) (he : e = x ∨ H e = some (.own x)) (k : ∀ b u, b ≠ e → h.get? b = some u → h'.get? b = some u) (heo : ∃ u, h'.get? e = some u)
    (new : ObjOk P w (upd H x o') h' x o') : HOk P w (upd H x o') h' := fun b u q => by
  have nown : ∀ c y, H c = some (.own y) → c ≠ x := fun c y r z => by subst z; rw [r] at mu; exact mu
  have ntup : ∀ c xs, H c = some (.tup xs) → c ≠ x := fun c xs r z => by subst z; rw [r] at mu; exact mu
  by_cases hb : b = x
  · subst hb; rw [upd_same] at q; cases q; exact new
  · rw [upd_ne hb] at q
    by_cases hbe : b = e
    · have q' : H b = some (.own x) := by
        rcases he with z | z
        · exact absurd (hbe.trans z) hb
        · rw [hbe]; exact z
      rw [q] at q'; cases q'
      obtain ⟨v, hv⟩ := heo
      exact ⟨v, by rw [hbe]; exact hv⟩
    · refine (ok b u q).stay (fun c v hc r => k c v ?_ r) (fun c r => by rw [upd_ne (nown c b r)]; exact r) fun c xs r => by rw [upd_ne (ntup c xs r)]; exact r
      rcases hc with rfl | hc
      · exact hbe
      · rintro rfl
        rcases he with z | z
        · exact nown c b hc z
        · rw [hc] at z; cases z; exact hb rfl
end

/-! ### kept unless tracked; of the frames at fs (the callers') the slots may change (an exception that passes writes there); of the records at ex (iterators) nothing is said -/
structure Un (fs ex : List Addr) (H H' : Hp) (h h' : Heap) : Prop where
  keep : ∀ b o, h.get? b = some o → H b = none → b ∉ fs → b ∉ ex → h'.get? b = some o
  slot : ∀ b o, h.get? b = some o → H b = none → b ∈ fs → b ∉ ex → ∃ sl, h'.get? b = some { o with slots := sl }
  free : ∀ b o, h.get? b = some o → H b = none → b ∉ ex → H' b = none
  there : ∀ b o, h.get? b = some o → b ∉ ex → ∃ o', h'.get? b = some o'
  tups : ∀ b xs, H b = some (.tup xs) → H' b = some (.tup xs)
  frzs : ∀ b o u, H b = some (.frz o u) → H' b = some (.frz o u)
  tbls : ∀ b ps, H b = some (.tbl ps) → ∃ more, H' b = some (.tbl (ps ++ more))
section
variable {fs fs' ex ex' : List Addr} {H H1 H2 : Hp} {h h1 h2 h' : Heap} {a x e : Addr} {o : HO}
theorem Un.any (u : Un fs ex H H1 h h1) {b : Addr} {ob : Obj} (q : h.get? b = some ob) (n : H b = none) (hx : b ∉ ex) : ∃ sl, h1.get? b = some { ob with slots := sl } := by
  by_cases hb : b ∈ fs
  · exact u.slot b ob q n hb hx
  · exact ⟨ob.slots, u.keep b ob q n hb hx⟩
theorem Un.trans (a : Un fs ex H H1 h h1) (b : Un fs ex H1 H2 h1 h2) : Un fs ex H H2 h h2 where
  keep := fun c ob q n hc hx => b.keep c ob (a.keep c ob q n hc hx) (a.free c ob q n hx) hc hx
  slot := fun c ob q n hc hx => by
    obtain ⟨sl, e1⟩ := a.slot c ob q n hc hx
    obtain ⟨sl', e2⟩ := b.slot c _ e1 (a.free c ob q n hx) hc hx
    exact ⟨sl', e2⟩
  free := fun c ob q n hx => by
    obtain ⟨o', e1⟩ := a.there c ob q hx
    exact b.free c o' e1 (a.free c ob q n hx) hx
  there := fun c ob q hx => by
    obtain ⟨o', e1⟩ := a.there c ob q hx
    exact b.there c o' e1 hx
  tups := fun c xs q => b.tups c xs (a.tups c xs q)
  frzs := fun c ob xs q => b.frzs c ob xs (a.frzs c ob xs q)
  tbls := fun c ps q => by
    obtain ⟨m1, e1⟩ := a.tbls c ps q
    obtain ⟨m2, e2⟩ := b.tbls c _ e1
    exact ⟨m1 ++ m2, by rw [e2, Array.append_assoc]⟩
theorem Un.kept (k : ∀ b u, h.get? b = some u → h'.get? b = some u) : Un fs ex H H h h' :=
  ⟨fun b ob q _ _ _ => k b ob q, fun b ob q _ _ _ => ⟨ob.slots, k b ob q⟩, fun _ _ _ n _ => n, fun b ob q _ => ⟨ob, k b ob q⟩, fun _ _ q => q, fun _ _ _ q => q, fun _ ps q => ⟨#[], by rw [q]; simp⟩⟩
theorem Un.refl : Un fs ex H H h h := Un.kept fun _ _ q => q
theorem Un.laid (k : ∀ b u, h.get? b = some u → h'.get? b = some u) (hp : h.objs.size ≤ a) (hn : H a = none) : Un fs ex H (upd H a o) h h' where
  keep := fun b u q _ _ _ => k b u q
  slot := fun b u q _ _ _ => ⟨u.slots, k b u q⟩
  free := fun b u q n _ => by rw [upd_ne (Nat.ne_of_lt (Nat.lt_of_lt_of_le (Heap.lt_size q) hp))]; exact n
  there := fun b u q _ => ⟨u, k b u q⟩
  tups := fun b xs q => by rw [upd_ne (ne_of_none q hn)]; exact q
  frzs := fun b u xs q => by rw [upd_ne (ne_of_none q hn)]; exact q
  tbls := fun b ps q => ⟨#[], by rw [upd_ne (ne_of_none q hn), q]; simp⟩
theorem Un.write (mu : Mut (H x)) (he : e = x ∨ H e = some (.own x)) (k : ∀ b u, b ≠ e → h.get? b = some u → h'.get? b = some u) (heo : ∃ u, h'.get? e = some u) : Un fs ex H (upd H x o) h h' := by
  have hx : ∀ b, H b = none → b ≠ x := fun b n z => by subst z; rw [n] at mu; exact mu
  have hb : ∀ b, H b = none → b ≠ e := fun b n z => by
    subst z
    rcases he with r | r
    · exact hx b n r
    · rw [n] at r; cases r
  have hm : ∀ b u, H b = some u → ¬ Mut (some u) → b ≠ x := fun b u q nm z => by subst z; rw [q] at mu; exact nm mu
  refine ⟨fun b u q n _ _ => k b u (hb b n) q, fun b u q n _ _ => ⟨u.slots, k b u (hb b n) q⟩, fun b u q n _ => by rw [upd_ne (hx b n)]; exact n, fun b u q _ => ?_,
    fun b xs q => by rw [upd_ne (hm b _ q fun z => z)]; exact q, fun b u xs q => by rw [upd_ne (hm b _ q fun z => z)]; exact q, fun b ps q => ⟨#[], by rw [upd_ne (hm b _ q fun z => z), q]; simp⟩⟩
  by_cases hbe : b = e
  · subst hbe; exact heo
  · exact ⟨u, k b u hbe q⟩
theorem Un.mono (u : Un fs ex H H1 h h1) (hs : ∀ b ∈ fs, b ∈ fs') (hx : ∀ b ∈ ex, b ∈ ex') : Un fs' ex' H H1 h h1 :=
  ⟨fun b ob q n hb he => u.keep b ob q n (fun z => hb (hs b z)) fun z => he (hx b z), fun _ _ q n _ he => u.any q n fun z => he (hx _ z), fun b ob q n he => u.free b ob q n fun z => he (hx b z), fun b ob q he => u.there b ob q fun z => he (hx b z), u.tups, u.frzs, u.tbls⟩
end

/-! ### the heap without what is tracked -/
def trk (h : Heap) (H : Hp) : List Addr := (List.range h.objs.size).filter fun a => (H a).isSome
def hidT (h : Heap) (H : Hp) : Heap := PySem.W.hideAll h (trk h H)
theorem hidT_size (h : Heap) (H : Hp) : (hidT h H).objs.size = h.objs.size := PySem.W.hideAll_size _ _
theorem hidT_get {h : Heap} {H : Hp} {b : Addr} {o : Obj} (e : h.get? b = some o) (n : H b = none) : (hidT h H).get? b = some o :=
  PySem.W.hideAll_get _ e fun hm => by
    have q : (H b).isSome = true := (List.mem_filter.mp hm).2
    rw [n] at q; simp at q
theorem of_hidT {h : Heap} {H : Hp} {b : Addr} {o : Obj} (e : (hidT h H).get? b = some o) : h.get? b = some o ∧ H b = none := by
  have e' : h.get? b = some o := PySem.W.of_hideAll (trk h H) e
  refine ⟨e', ?_⟩
  cases q : H b with
  | none => rfl
  | some x =>
    have hm : b ∈ trk h H := List.mem_filter.mpr ⟨List.mem_range.mpr (Heap.lt_size e'), by simp [q]⟩
    have z : (hidT h H).get? b = none := PySem.W.hideAll_none (trk h H) hm
    rw [z] at e; cases e

/-! ### OpenK's ledger, filled with every new object but one -/
def allNews (g h : Heap) (L : Addr) : List (Addr × Obj) := (List.range h.objs.size).filterMap fun a => if a = L ∨ (g.get? a).isSome = true then none else (h.get? a).map fun o => (a, o)
theorem mem_allNews {g h : Heap} {L a : Addr} {o : Obj} (h1 : a ≠ L) (h2 : g.get? a = none) (h3 : h.get? a = some o) : (a, o) ∈ allNews g h L :=
  List.mem_filterMap.mpr ⟨a, List.mem_range.mpr (Heap.lt_size h3), by simp [h1, h2, h3]⟩
theorem of_mem_allNews {g h : Heap} {L : Addr} {p : Addr × Obj} (hp : p ∈ allNews g h L) : p.1 ≠ L ∧ g.get? p.1 = none ∧ h.get? p.1 = some p.2 := by
  obtain ⟨b, _, e⟩ := List.mem_filterMap.mp hp
  split at e
  · cases e
  · rename_i hn
    cases q : h.get? b with
    | none => rw [q] at e; simp at e
    | some u =>
      rw [q] at e
      simp only [Option.map_some, Option.some.injEq] at e
      subst e
      refine ⟨fun z => hn (.inl z), ?_, q⟩
      show g.get? b = none
      cases r : g.get? b with
      | none => rfl
      | some v => exact (hn (.inr (by simp [r]))).elim
def rest (g h : Heap) (L d : Addr) : List (Addr × Obj) := (allNews g h L).filter fun p => decide (p.1 ≠ d)
theorem rest_ne {g h : Heap} {L d : Addr} : ∀ p ∈ rest g h L d, p.1 ≠ d := fun p hp => of_decide_eq_true (List.mem_filter.mp hp).2
theorem mem_rest {g h : Heap} {L d a : Addr} {o : Obj} (h1 : a ≠ L) (h2 : g.get? a = none) (h3 : h.get? a = some o) (h4 : a ≠ d) : (a, o) ∈ rest g h L d :=
  List.mem_filter.mpr ⟨mem_allNews h1 h2 h3, decide_eq_true h4⟩
theorem news_all {g h : Heap} {L : Addr} : News g L h (allNews g h L) := fun p hp => let ⟨a, b, c⟩ := of_mem_allNews hp; ⟨c, a, b⟩
theorem news_at {g h : Heap} {L d : Addr} {o : Obj} (h1 : d ≠ L) (h2 : g.get? d = none) (h3 : h.get? d = some o) : News g L h ((d, o) :: rest g h L d) := fun p hp => by
  rcases List.mem_cons.mp hp with rfl | hp
  · exact ⟨h3, h1, h2⟩
  · exact news_all p (List.mem_filter.mp hp).1
/-- behind a rule that changed d alone: all else but the frame is kept -/
theorem kept_of_news {g h h' : Heap} {L d : Addr} {m : Str → Option Value} (k : ∀ b o, g.get? b = some o → h.get? b = some o) (F : Fr g L h' m) (N : News g L h' (rest g h L d)) :
    ∀ b o, b ≠ L → b ≠ d → h.get? b = some o → h'.get? b = some o := fun b o h1 h2 e => by
  cases q : g.get? b with
  | some u =>
    have := k b u q
    rw [e] at this; cases this
    exact F.keep b _ q
  | none => exact (N (b, o) (mem_rest h1 q e h2)).1
end L2

namespace L2
open PySem PySem.Spec PyProof.Rows

/-- the module's facts, over the base: the heap at the law's entry without what is tracked there -/
structure Mod (K : PySem.W.Frag) (mg : Str → Option Value) (base : Heap) : Prop where
  kin : K.In base
  glob : base.Ns mainGlobals mg
  blt : ∃ mb, base.Ns builtinsNs mb ∧ ∀ x : Str, x ≠ "__name__" → mb x = bootBuiltins x
  nolimit : base.NoLimit

/-- the context: a def's body (or a comprehension's block) running. base: fixed through the whole law; s₀, H₀: the entry; outer: the frames whose slots others may change (a def's callers); stack: all frames that run;
   ex: iterators that were made ahead of the entry and are walked here (a comprehension's); fn: the names whose cells were made at the entry (a def: all; a comprehension's block: its own); calm: not within an except suite; pn: pins that every state bears; xe: what is wanted of an exception that leaves the code -/
structure Cx where
  prog : Program
  w : World
  K : PySem.W.Frag
  mg : Str → Option Value
  base : Heap
  A : Around
  N : List Str
  s₀ : Shared
  H₀ : Hp
  env : Env
  outer : List Env
  stack : List Env
  ex : List Addr
  fn : Str → Bool
  calm : Bool
  pn : List (Addr × Obj)
  xe : Value → Shared → Prop
/-- the callers' frames -/
def frs (l : List Env) : List Addr := l.filterMap (·.frame)
abbrev Cx.fs (X : Cx) : List Addr := frs X.outer

def Vis (sc : Scope) (x : Str) : Prop := sc.names.lookup x = some .local ∨ sc.names.lookup x = some .cell ∨ sc.names.lookup x = some .free
def Loc (sc : Scope) (x : Str) : Prop := sc.names.lookup x = some .local ∨ sc.names.lookup x = some .cell
def Look (env : Env) (h : Heap) (m : Str → Option Value) (x : Str) (u : Value) : Prop :=
  (env.kindOf x = some .local ∧ m x = some u) ∨ ((env.kindOf x = some .cell ∨ env.kindOf x = some .free) ∧ ∃ c, env.cells.lookup x = some c ∧ h.IsCell c (some u))

structure Cx.Ok (X : Cx) : Prop where
  mod : Mod X.K X.mg X.base
  kind : X.env.scope.kind = .function
  glob : X.env.globals = mainGlobals
  blt : X.env.builtins = builtinsNs
  above : X.s₀.heap.objs.size ≤ X.env.locals
  inj : ∀ x y c, X.env.cells.lookup x = some c → X.env.cells.lookup y = some c → x = y
  has : ∀ x, (X.env.kindOf x = some .cell ∨ X.env.kindOf x = some .free) → ∃ c, X.env.cells.lookup x = some c
  cab : ∀ x c, X.fn x = true → X.env.cells.lookup x = some c → X.s₀.heap.objs.size ≤ c
  hd : X.calm = true → X.A.handled = none
  frames : X.A.frames = some X.stack
  stk : X.stack = X.outer ∨ (X.stack = X.env :: X.outer ∧ X.env.frame = some X.env.locals)
  exf : ∀ b ∈ X.ex, b ≠ X.env.locals ∧ ∀ x c, X.env.cells.lookup x = some c → c ≠ b
  bs : ∀ b o, X.base.get? b = some o → X.s₀.heap.get? b = some o ∧ X.H₀ b = none
  bsz : X.base.objs.size ≤ X.s₀.heap.objs.size
  noex : ∀ b o, X.base.get? b = some o → b ∉ X.ex
  exfs : ∀ b ∈ X.ex, b ∉ X.fs
  funs : X.s₀.heap.FunFrames X.base X.outer
  frf : ∀ b ∈ X.fs, X.H₀ b = none

structure Inv (X : Cx) (pins : List (Addr × Obj)) (σ : List (Option V)) (H : Hp) (s : Shared) : Prop where
  ok : X.Ok
  os : s.os = X.s₀.os
  bare : AllBare s.gens
  base : Un X.fs X.ex X.H₀ H X.s₀.heap s.heap
  loc : ∃ m, s.heap.Ns X.env.locals m ∧ ∀ (i : Nat) (x : Str) (v : V), X.N[i]? = some x → σ[i]? = some (some v) → Vis X.env.scope x → ∃ u, RelV v u ∧ Look X.env s.heap m x u
  cell : ∀ x c, X.env.cells.lookup x = some c → ∃ v, s.heap.IsCell c v
  free : H X.env.locals = none
  freeC : ∀ x c, X.env.cells.lookup x = some c → H c = none
  pin : ∀ p ∈ X.pn ++ pins, s.heap.get? p.1 = some p.2 ∧ H p.1 = none ∧ p.1 ≠ X.env.locals ∧ p.1 ∉ X.fs ∧ ∀ v, p.2.data ≠ .cell v
  hok : HOk X.prog X.w H s.heap
  len : σ.length = X.N.length

section
variable {X : Cx} {pins : List (Addr × Obj)} {σ : List (Option V)} {H H' : Hp} {s : Shared} {h' : Heap}

theorem Cx.Ok.nofr (ok : X.Ok) {b : Addr} {o : Obj} (e : X.base.get? b = some o) : b ∉ X.fs := fun hb => by
  have := (ok.funs.mem hb).1
  rw [e] at this; cases this
theorem Inv.bs (I : Inv X pins σ H s) : ∀ b o, X.base.get? b = some o → s.heap.get? b = some o ∧ H b = none := fun b o e =>
  ⟨I.base.keep b o (I.ok.bs b o e).1 (I.ok.bs b o e).2 (I.ok.nofr e) (I.ok.noex b o e), I.base.free b o (I.ok.bs b o e).1 (I.ok.bs b o e).2 (I.ok.noex b o e)⟩
theorem Inv.bk (I : Inv X pins σ H s) : ∀ b o, X.base.get? b = some o → s.heap.get? b = some o := fun b o e => (I.bs b o e).1
theorem Inv.mod (I : Inv X pins σ H s) : Mod X.K X.mg X.base := I.ok.mod
theorem Inv.kIn (I : Inv X pins σ H s) : X.K.In s.heap := I.ok.mod.kin.keeps I.bk
theorem Inv.nolimit (I : Inv X pins σ H s) : s.heap.NoLimit := I.ok.mod.nolimit.keeps I.bk
/-- the frame over the base: for OpenK's rules (K.In X.base is I.mod.kin) -/
theorem Inv.fr (I : Inv X pins σ H s) : ∃ m, Fr X.base X.env.locals s.heap m :=
  let ⟨m, hn, _⟩ := I.loc
  ⟨m, hn, I.bk, Nat.le_trans I.ok.bsz I.ok.above⟩
theorem Inv.lt (I : Inv X pins σ H s) : X.env.locals < s.heap.objs.size := let ⟨_, hn, _⟩ := I.loc; hn.lt
theorem Inv.sz (I : Inv X pins σ H s) : X.s₀.heap.objs.size ≤ s.heap.objs.size := Nat.le_trans I.ok.above (Nat.le_of_lt I.lt)
theorem Inv.nofs (I : Inv X pins σ H s) {a : Addr} (h : s.heap.objs.size ≤ a) : a ∉ X.fs := fun hb => by
  obtain ⟨_, o, ho, _⟩ := I.ok.funs.mem hb
  exact absurd (Nat.lt_of_lt_of_le (Heap.lt_size ho) (Nat.le_trans I.sz h)) (Nat.lt_irrefl _)
theorem Inv.cne (I : Inv X pins σ H s) : ∀ x c, X.env.cells.lookup x = some c → c ≠ X.env.locals := fun x c e z => by
  obtain ⟨v, o, ho, hd⟩ := I.cell x c e
  obtain ⟨m, ⟨o', es, ep, ho', hd', _⟩, _⟩ := I.loc
  rw [z, ho'] at ho; cases ho; rw [hd'] at hd; cases hd
theorem Inv.funs (I : Inv X pins σ H s) : s.heap.FunFrames X.base X.outer := by
  have all : ∀ (l : List Env), (∀ b ∈ frs l, b ∈ X.fs) → X.s₀.heap.FunFrames X.base l → s.heap.FunFrames X.base l := by
    intro l
    induction l with
    | nil => intro _ _; trivial
    | cons env r ih =>
      intro hs hl
      obtain ⟨hk, ⟨L, o, hf, hn, ho, hd⟩, hr⟩ := hl
      have hL : L ∈ X.fs := hs L (by unfold frs; rw [List.filterMap_cons, hf]; exact List.mem_cons_self)
      obtain ⟨sl, e⟩ := I.base.slot L o ho (I.ok.frf L hL) hL fun z => I.ok.exfs L z hL
      exact ⟨hk, ⟨L, _, hf, hn, e, hd⟩, ih (fun b hb => hs b (by unfold frs; rw [List.filterMap_cons, hf]; exact List.mem_cons_of_mem _ hb)) hr⟩
  exact all X.outer (fun _ hb => hb) I.ok.funs

/-- the frames that run, for a call -/
theorem Inv.stack (I : Inv X pins σ H s) : s.heap.FunFrames X.base X.stack := by
  rcases I.ok.stk with e | ⟨e, hf⟩
  · rw [e]; exact I.funs
  · rw [e]
    obtain ⟨m, hn, _⟩ := I.loc
    refine .cons (by rw [I.ok.kind]; decide) hf hn ?_ I.funs
    exact Heap.get?_none_of_le (Nat.le_trans I.ok.bsz I.ok.above)
theorem Inv.stkSub (I : Inv X pins σ H s) : ∀ b ∈ frs X.stack, b ∈ X.env.locals :: X.fs := fun b hb => by
  rcases I.ok.stk with e | ⟨e, hf⟩
  · rw [e] at hb; exact List.mem_cons_of_mem _ hb
  · rw [e] at hb
    unfold frs at hb
    rw [List.filterMap_cons, hf] at hb
    exact hb
theorem Inv.stkFree (I : Inv X pins σ H s) : ∀ b ∈ frs X.stack, H b = none := fun b hb => by
  rcases List.mem_cons.mp (I.stkSub b hb) with e | hb
  · rw [e]; exact I.free
  · obtain ⟨_, o, ho, _⟩ := I.ok.funs.mem hb
    exact I.base.free b o ho (I.ok.frf b hb) fun z => I.ok.exfs b z hb

/-- THE STEP: the untracked objects but the frame and the records at ch are kept (the callers' frames up to slots), the frame's map is kept, the new abstract heap is held -/
theorem Inv.step {g' : Array GenState} {t' : Nat} {d' : Drawn} {ch : List Addr} (I : Inv X pins σ H s)
    (hch : ∀ b ∈ ch, (b ∈ X.ex ∨ X.s₀.heap.objs.size ≤ b) ∧ b ≠ X.env.locals ∧ (∀ x c, X.env.cells.lookup x = some c → c ≠ b) ∧ ∀ p ∈ X.pn ++ pins, p.1 ≠ b)
    (keep : ∀ b o, b ≠ X.env.locals → b ∉ X.fs → b ∉ ch → s.heap.get? b = some o → H b = none → h'.get? b = some o)
    (slot : ∀ b o, b ≠ X.env.locals → b ∈ X.fs → b ∉ ch → s.heap.get? b = some o → H b = none → ∃ sl, h'.get? b = some { o with slots := sl }) (free : ∀ b o, b ∉ ch → s.heap.get? b = some o → H b = none → H' b = none)
    (there : ∀ b o, b ∉ ch → s.heap.get? b = some o → ∃ o', h'.get? b = some o')
    (tups : ∀ b xs, H b = some (.tup xs) → H' b = some (.tup xs)) (frzs : ∀ b o u, H b = some (.frz o u) → H' b = some (.frz o u)) (tbls : ∀ b ps, H b = some (.tbl ps) → ∃ more, H' b = some (.tbl (ps ++ more)))
    (ns : ∀ m, s.heap.Ns X.env.locals m → h'.Ns X.env.locals m) (hok : HOk X.prog X.w H' h') (hg : AllBare g') :
    Inv X pins σ H' { s with heap := h', gens := g', drawn := d', toks := t' } := by
  have neL : ∀ b o, X.s₀.heap.get? b = some o → b ≠ X.env.locals := fun b o e => Nat.ne_of_lt (Nat.lt_of_lt_of_le (Heap.lt_size e) I.ok.above)
  have neC : ∀ b o, X.s₀.heap.get? b = some o → b ∉ X.ex → b ∉ ch := fun b o e hx hb => by
    rcases (hch b hb).1 with z | z
    · exact hx z
    · exact absurd (Nat.lt_of_lt_of_le (Heap.lt_size e) z) (Nat.lt_irrefl _)
  have cellK : ∀ x c, X.env.cells.lookup x = some c → ∀ v, s.heap.IsCell c v → h'.IsCell c v := fun x c e v ⟨o, ho, hd⟩ => by
    have nch : c ∉ ch := fun z => (hch c z).2.2.1 x c e rfl
    by_cases hc : c ∈ X.fs
    · obtain ⟨sl, q⟩ := slot c o (I.cne x c e) hc nch ho (I.freeC x c e)
      exact ⟨_, q, hd⟩
    · exact ⟨o, keep c o (I.cne x c e) hc nch ho (I.freeC x c e), hd⟩
  refine ⟨I.ok, I.os, hg, ⟨fun b o e n hb hx => ?_, fun b o e n hb hx => ?_, fun b o e n hx => ?_, fun b o e hx => ?_, fun b xs e => tups b xs (I.base.tups b xs e), fun b o xs e => frzs b o xs (I.base.frzs b o xs e), fun b ps e => ?_⟩, ?_, fun x c e => ?_, ?_, fun x c e => ?_, fun p hp => ?_, hok, I.len⟩
  · exact keep b o (neL b o e) hb (neC b o e hx) (I.base.keep b o e n hb hx) (I.base.free b o e n hx)
  · obtain ⟨sl, e1⟩ := I.base.slot b o e n hb hx
    obtain ⟨sl', e2⟩ := slot b _ (neL b o e) hb (neC b o e hx) e1 (I.base.free b o e n hx)
    exact ⟨sl', e2⟩
  · obtain ⟨o', e1⟩ := I.base.there b o e hx
    exact free b o' (neC b o e hx) e1 (I.base.free b o e n hx)
  · obtain ⟨o', e1⟩ := I.base.there b o e hx
    exact there b o' (neC b o e hx) e1
  · obtain ⟨m1, e1⟩ := I.base.tbls b ps e
    obtain ⟨m2, e2⟩ := tbls b _ e1
    exact ⟨m1 ++ m2, by rw [e2, Array.append_assoc]⟩
  · obtain ⟨m, hn, hl⟩ := I.loc
    refine ⟨m, ns m hn, fun i x v e1 e2 e3 => ?_⟩
    obtain ⟨u, r, l⟩ := hl i x v e1 e2 e3
    refine ⟨u, r, ?_⟩
    rcases l with l | ⟨k, c, e, z⟩
    · exact .inl l
    · exact .inr ⟨k, c, e, cellK x c e _ z⟩
  · obtain ⟨v, z⟩ := I.cell x c e
    exact ⟨v, cellK x c e v z⟩
  · obtain ⟨m, ⟨o, _, _, ho, _⟩, _⟩ := I.loc
    exact free _ o (fun z => (hch _ z).2.1 rfl) ho I.free
  · obtain ⟨v, o, ho, hd⟩ := I.cell x c e
    exact free c o (fun z => (hch c z).2.2.1 x c e rfl) ho (I.freeC x c e)
  · obtain ⟨e, n, ne, nf, d⟩ := I.pin p hp
    have nch : p.1 ∉ ch := fun z => (hch p.1 z).2.2.2 p hp rfl
    exact ⟨keep p.1 p.2 ne nf nch e n, free p.1 p.2 nch e n, ne, nf, d⟩
/-- .. where the frame's own object is kept too -/
theorem Inv.un {t' : Nat} (I : Inv X pins σ H s) (u : Un X.fs [] H H' s.heap h') (hok : HOk X.prog X.w H' h') : Inv X pins σ H' { s with heap := h', toks := t' } := by
  obtain ⟨m, ⟨o, es, ep, ho, r⟩, _⟩ := id I.loc
  obtain ⟨sl, hL⟩ := u.any ho I.free (by simp)
  exact I.step (g' := s.gens) (d' := s.drawn) (ch := []) (fun _ z => nomatch z) (fun b o _ hb _ e n => u.keep b o e n hb (by simp)) (fun b o _ hb _ e n => u.slot b o e n hb (by simp)) (fun b o _ e n => u.free b o e n (by simp)) (fun b o _ e => u.there b o e (by simp)) u.tups u.frzs u.tbls (fun m' hm => by
    obtain ⟨o', es', ep', ho', r'⟩ := hm
    rw [ho] at ho'; cases ho'
    exact ⟨_, es', ep', hL, r'⟩) hok I.bare
/-- behind a call (or a comprehension's block): the slots of this frame may have changed too, the records at ch may have turned -/
theorem Inv.call {g' : Array GenState} {t' : Nat} {d' : Drawn} {ch : List Addr} (I : Inv X pins σ H s) (u : Un (frs X.stack) ch H H' s.heap h') (hok : HOk X.prog X.w H' h') (hg : AllBare g')
    (hch : ∀ b ∈ ch, (b ∈ X.ex ∨ X.s₀.heap.objs.size ≤ b) ∧ b ≠ X.env.locals ∧ (∀ x c, X.env.cells.lookup x = some c → c ≠ b) ∧ ∀ p ∈ X.pn ++ pins, p.1 ≠ b) :
    Inv X pins σ H' { s with heap := h', gens := g', drawn := d', toks := t' } := by
  obtain ⟨m, ⟨o, es, ep, ho, r⟩, _⟩ := id I.loc
  obtain ⟨sl, hL⟩ := u.any ho I.free fun z => (hch _ z).2.1 rfl
  exact I.step (ch := ch) hch (fun b o hL hb hc e n => u.keep b o e n (fun z => (List.mem_cons.mp (I.stkSub b z)).elim hL hb) hc) (fun b o _ _ hc e n => u.any e n hc) (fun b o hc e n => u.free b o e n hc) (fun b o hc e => u.there b o e hc) u.tups u.frzs u.tbls (fun m' hm => by
    obtain ⟨o', es', ep', ho', r'⟩ := hm
    rw [ho] at ho'; cases ho'
    exact ⟨_, es', ep', hL, r'⟩) hok hg
/-- an untracked record of ours (an iterator) has turned -/
theorem Inv.turned {t' : Nat} {it : Addr} (I : Inv X pins σ H s) (k : ∀ b o, b ≠ it → s.heap.get? b = some o → h'.get? b = some o) (hn : H it = none) (hL : it ≠ X.env.locals)
    (h1 : it ∈ X.ex ∨ X.s₀.heap.objs.size ≤ it) (h2 : ∀ x c, X.env.cells.lookup x = some c → c ≠ it) (h3 : ∀ p ∈ X.pn ++ pins, p.1 ≠ it) : Inv X pins σ H { s with heap := h', toks := t' } := by
  have nit : ∀ b u, H b = some u → b ≠ it := fun b u e z => by rw [z, hn] at e; cases e
  refine I.step (g' := s.gens) (d' := s.drawn) (ch := [it]) (fun b hb => ?_) (fun b o _ _ hc e _ => k b o (fun z => hc (by simp [z])) e) (fun b o _ _ hc e _ => ⟨o.slots, k b o (fun z => hc (by simp [z])) e⟩) (fun _ _ _ _ n => n)
    (fun b o hc e => ⟨o, k b o (fun z => hc (by simp [z])) e⟩) (fun _ _ e => e) (fun _ _ _ e => e) (fun b ps e => ⟨#[], by rw [e]; simp⟩) (fun m hm => ?_) (fun b u e => ?_) I.bare
  · have e : b = it := by simpa using hb
    subst e
    exact ⟨h1, hL, h2, h3⟩
  · obtain ⟨o, es, ep, ho, r⟩ := hm
    exact ⟨o, es, ep, k _ o (Ne.symm hL) ho, r⟩
  · refine (I.hok b u e).stay (fun c v hc q => k c v ?_ q) (fun _ q => q) fun _ _ q => q
    rcases hc with z | z
    · rw [z]; exact nit b u e
    · exact nit c _ z
theorem Inv.tok (I : Inv X pins σ H s) (t : Nat) : Inv X pins σ H { s with toks := t } := I.un (h' := s.heap) (t' := t) Un.refl I.hok
/-- all objects kept -/
theorem Inv.kept {t' : Nat} (I : Inv X pins σ H s) (k : ∀ b u, s.heap.get? b = some u → h'.get? b = some u) : Inv X pins σ H { s with heap := h', toks := t' } := I.un (Un.kept k) (I.hok.kept k)
/-- a new object laid and tracked -/
theorem Inv.laid {a : Addr} {o : HO} {t' : Nat} (I : Inv X pins σ H s) (k : ∀ b u, s.heap.get? b = some u → h'.get? b = some u) (hp : s.heap.objs.size ≤ a) (new : ObjOk X.prog X.w (upd H a o) h' a o) :
    Inv X pins σ (upd H a o) { s with heap := h', toks := t' } := I.un (Un.laid k hp (I.hok.fresh hp)) (I.hok.laid k hp new)
/-- an object written -/
theorem Inv.write {x e : Addr} {o : HO} {t' : Nat} (I : Inv X pins σ H s) (mu : Mut (H x)) (he : e = x ∨ H e = some (.own x)) (k : ∀ b u, b ≠ e → s.heap.get? b = some u → h'.get? b = some u) (heo : ∃ u, h'.get? e = some u)
    (new : ObjOk X.prog X.w (upd H x o) h' x o) : Inv X pins σ (upd H x o) { s with heap := h', toks := t' } := I.un (Un.write mu he k heo) (I.hok.write mu he k heo new)
/-- forgetting slots, pins -/
theorem Inv.weak {σ' : List (Option V)} (I : Inv X pins σ H s) (hl : σ'.length = σ.length) (w : ∀ (i : Nat) v, σ'[i]? = some (some v) → σ[i]? = some (some v)) : Inv X pins σ' H s :=
  ⟨I.ok, I.os, I.bare, I.base, let ⟨m, hn, hl'⟩ := I.loc; ⟨m, hn, fun i x v e1 e2 e3 => hl' i x v e1 (w i v e2) e3⟩, I.cell, I.free, I.freeC, I.pin, I.hok, hl.trans I.len⟩
theorem Inv.pins_of {pins' : List (Addr × Obj)} (I : Inv X pins σ H s) (h : ∀ p ∈ pins', s.heap.get? p.1 = some p.2 ∧ H p.1 = none ∧ p.1 ≠ X.env.locals ∧ p.1 ∉ X.fs ∧ ∀ v, p.2.data ≠ .cell v) : Inv X pins' σ H s :=
  ⟨I.ok, I.os, I.bare, I.base, I.loc, I.cell, I.free, I.freeC, fun p hp => (List.mem_append.mp hp).elim (fun z => I.pin p (List.mem_append_left _ z)) (h p), I.hok, I.len⟩

theorem nodup_ix {N : List Str} (hN : N.Nodup) {i j : Nat} {x : Str} (a : N[i]? = some x) (b : N[j]? = some x) : i = j := by
  obtain ⟨h1, e1⟩ := List.getElem?_eq_some_iff.mp a
  obtain ⟨h2, e2⟩ := List.getElem?_eq_some_iff.mp b
  exact (List.getElem_inj hN).mp (e1.trans e2.symm)

/-- a name is stored; what changed -/
theorem store_ok2 {M : Model} {A : Around} {E : Value → Shared → Prop} {i : Nat} {x : Str} {v : V} {u : Value} {Q : Unit → Shared → Prop} (I : Inv X pins σ H s) (hN : X.N.Nodup) (hi : X.N[i]? = some x) (hx : Loc X.env.scope x) (r : RelV v u)
    (h : ∀ s', Inv X pins (σ.set i (some v)) H s' → (∃ a, Heap.SameBut a s.heap s'.heap ∧ (a = X.env.locals ∨ X.env.cells.lookup x = some a)) → Q () s') (hf : X.fn x = true ∨ X.env.scope.names.lookup x = some .local := by first | exact .inl rfl | exact .inr rfl | assumption) : wpAny M A (storeName X.env x u) Q E s := by
  obtain ⟨m, hn, hl⟩ := id I.loc
  have hcls : (X.env.scope.kind == .class || (X.env.scope.kind == .module && X.env.locals != X.env.globals)) = false := by rw [I.ok.kind]; rfl
  have hiσ : i < σ.length := by rw [I.len]; exact (List.getElem?_eq_some_iff.mp hi).1
  have cne := I.cne
  have tracked : ∀ {a : Addr} {h' : Heap}, (∃ o, s.heap.get? a = some o ∧ H a = none) → Heap.SameBut a s.heap h' → HOk X.prog X.w H h' := fun {a h'} ha hs b ob e => by
    obtain ⟨_, _, hfree⟩ := ha
    refine (I.hok b ob e).stay (fun c w' hc q => (hs.2 c ?_).trans q) (fun _ q => q) fun _ _ q => q
    rintro rfl
    rcases hc with rfl | hc
    · rw [hfree] at e; cases e
    · rw [hfree] at hc; cases hc
  rcases hx with hk | hk
  · refine wpAny_storeName_local hk hn (fun h' hn' hs => ?_) hcls
    obtain ⟨oL, _, _, hoL, _⟩ := id hn
    refine h _ ⟨I.ok, I.os, I.bare, ⟨fun b o e n hb hx => ?_, fun b o e n hb hx => ?_, I.base.free, fun b o e hx => ?_, I.base.tups, I.base.frzs, I.base.tbls⟩, ⟨_, hn', fun j y v' e1 e2 e3 => ?_⟩, fun y c e => ?_, I.free, I.freeC, fun p hp => ?_, tracked ⟨oL, hoL, I.free⟩ hs, by simpa using I.len⟩ ⟨_, hs, .inl rfl⟩
    · exact (hs.2 b (Nat.ne_of_lt (Nat.lt_of_lt_of_le (Heap.lt_size e) I.ok.above))).trans (I.base.keep b o e n hb hx)
    · obtain ⟨sl, e1⟩ := I.base.slot b o e n hb hx
      exact ⟨sl, (hs.2 b (Nat.ne_of_lt (Nat.lt_of_lt_of_le (Heap.lt_size e) I.ok.above))).trans e1⟩
    · obtain ⟨o', e1⟩ := I.base.there b o e hx
      exact ⟨o', (hs.2 b (Nat.ne_of_lt (Nat.lt_of_lt_of_le (Heap.lt_size e) I.ok.above))).trans e1⟩
    · by_cases hj : j = i
      · subst hj
        rw [hi] at e1; cases e1
        rw [List.getElem?_set_self hiσ] at e2
        cases e2
        exact ⟨u, r, .inl ⟨hk, by simp⟩⟩
      · rw [List.getElem?_set_ne (Ne.symm hj)] at e2
        obtain ⟨u', r', q⟩ := hl j y v' e1 e2 e3
        refine ⟨u', r', ?_⟩
        rcases q with ⟨k, e⟩ | ⟨k, c, e, z⟩
        · refine .inl ⟨k, ?_⟩
          have : y ≠ x := fun e => hj (nodup_ix hN e1 (e ▸ hi))
          simp [this, e]
        · exact .inr ⟨k, c, e, z.sameBut hs (cne y c e)⟩
    · obtain ⟨w', z⟩ := I.cell y c e
      exact ⟨w', z.sameBut hs (cne y c e)⟩
    · obtain ⟨e, n, ne, nf, d⟩ := I.pin p hp
      exact ⟨(hs.2 p.1 ne).trans e, n, ne, nf, d⟩
  · have hfn : X.fn x = true := by
      rcases hf with z | z
      · exact z
      · rw [z] at hk; cases hk
    obtain ⟨c, hc⟩ := I.ok.has x (.inl hk)
    obtain ⟨w', z⟩ := I.cell x c hc
    refine wpAny_storeName_cell I.ok.kind hk hc z (fun h' hc' hs => ?_)
    obtain ⟨oc, hoc, hocd⟩ := id z
    refine h { s with heap := h' } ⟨I.ok, I.os, I.bare, ⟨fun b o e n hb hx => ?_, fun b o e n hb hx => ?_, I.base.free, fun b o e hx => ?_, I.base.tups, I.base.frzs, I.base.tbls⟩, ⟨m, hn.sameBut hs (Ne.symm (cne x c hc)), fun j y v' e1 e2 e3 => ?_⟩, fun y c' e => ?_, I.free, I.freeC, fun p hp => ?_, tracked ⟨oc, hoc, I.freeC x c hc⟩ hs, by simpa using I.len⟩ ⟨c, hs, .inr hc⟩
    · exact (hs.2 b (Nat.ne_of_lt (Nat.lt_of_lt_of_le (Heap.lt_size e) (I.ok.cab x c hfn hc)))).trans (I.base.keep b o e n hb hx)
    · obtain ⟨sl, e1⟩ := I.base.slot b o e n hb hx
      exact ⟨sl, (hs.2 b (Nat.ne_of_lt (Nat.lt_of_lt_of_le (Heap.lt_size e) (I.ok.cab x c hfn hc)))).trans e1⟩
    · obtain ⟨o', e1⟩ := I.base.there b o e hx
      exact ⟨o', (hs.2 b (Nat.ne_of_lt (Nat.lt_of_lt_of_le (Heap.lt_size e) (I.ok.cab x c hfn hc)))).trans e1⟩
    · by_cases hj : j = i
      · subst hj
        rw [hi] at e1; cases e1
        rw [List.getElem?_set_self hiσ] at e2
        cases e2
        exact ⟨u, r, .inr ⟨.inl hk, c, hc, hc'⟩⟩
      · rw [List.getElem?_set_ne (Ne.symm hj)] at e2
        obtain ⟨u', r', q⟩ := hl j y v' e1 e2 e3
        refine ⟨u', r', ?_⟩
        rcases q with q | ⟨k, c', e, z'⟩
        · exact .inl q
        · refine .inr ⟨k, c', e, z'.sameBut hs ?_⟩
          rintro rfl
          exact hj (nodup_ix hN e1 (I.ok.inj _ _ _ e hc ▸ hi))
    · by_cases hcc : c' = c
      · subst hcc; exact ⟨_, hc'⟩
      · obtain ⟨w2, z2⟩ := I.cell y c' e
        exact ⟨w2, z2.sameBut hs hcc⟩
    · obtain ⟨e, n, ne, nf, d⟩ := I.pin p hp
      refine ⟨(hs.2 p.1 ?_).trans e, n, ne, nf, d⟩
      intro q
      rw [q, hoc] at e
      have q' : oc = p.2 := Option.some.inj e
      exact d w' (by rw [← q']; exact hocd)
theorem store_ok {M : Model} {A : Around} {E : Value → Shared → Prop} {i : Nat} {x : Str} {v : V} {u : Value} {Q : Unit → Shared → Prop} (I : Inv X pins σ H s) (hN : X.N.Nodup) (hi : X.N[i]? = some x) (hx : Loc X.env.scope x) (r : RelV v u)
    (h : ∀ s', Inv X pins (σ.set i (some v)) H s' → Q () s') (hf : X.fn x = true ∨ X.env.scope.names.lookup x = some .local := by first | exact .inl rfl | exact .inr rfl | assumption) : wpAny M A (storeName X.env x u) Q E s :=
  store_ok2 I hN hi hx r (fun s' I' _ => h s' I') hf
/-- behind a call or a block, the state as it is -/
theorem Inv.call' {s' : Shared} {ch : List Addr} (I : Inv X pins σ H s) (ho : s'.os = s.os) (u : Un (frs X.stack) ch H H' s.heap s'.heap) (hok : HOk X.prog X.w H' s'.heap) (hg : AllBare s'.gens)
    (hch : ∀ b ∈ ch, (b ∈ X.ex ∨ X.s₀.heap.objs.size ≤ b) ∧ b ≠ X.env.locals ∧ (∀ x c, X.env.cells.lookup x = some c → c ≠ b) ∧ ∀ p ∈ X.pn ++ pins, p.1 ≠ b) : Inv X pins σ H' s' := by
  obtain ⟨h', g', d', t', o'⟩ := s'
  have e : o' = s.os := ho
  subst e
  exact I.call (g' := g') (t' := t') (d' := d') u hok hg hch
end

/-! ### the judgements -/
/-- an exception: its class, its own dict's address (where it has one), the abstract heap behind it -/
abbrev XK := Value → Option Addr → Hp → Prop
abbrev St := List (Option V)
abbrev VK := V → Hp → Prop
/-- an expression's reading; a test's; an argument list's -/
abbrev TE := St → Hp → VK → Prop
abbrev TT := St → Hp → (Bool → Hp → Prop) → Prop
abbrev TA := St → Hp → (List V → Hp → Prop) → Prop
/-- what is wanted behind a statement -/
structure Ends where
  nx : St → Hp → Prop
  rt : VK
  bk : St → Hp → Prop := fun _ _ => False
  ct : St → Hp → Prop := fun _ _ => False
abbrev TS := Ends → St → Hp → Prop

def EP (X : Cx) (pins : List (Addr × Obj)) (σ : St) (Q : VK) (u : Value) (s' : Shared) : Prop := ∃ v H', Inv X pins σ H' s' ∧ RelV v u ∧ Q v H'
def TP (X : Cx) (pins : List (Addr × Obj)) (σ : St) (Q : Bool → Hp → Prop) (b : Bool) (s' : Shared) : Prop := ∃ H', Inv X pins σ H' s' ∧ Q b H'
def AP (X : Cx) (pins : List (Addr × Obj)) (σ : St) (Q : List V → Hp → Prop) (us : List Value) (s' : Shared) : Prop := ∃ vs H', Inv X pins σ H' s' ∧ Vals vs us ∧ Q vs H'
def SP (X : Cx) (pins : List (Addr × Obj)) (D : Ends) (f : Flow) (s' : Shared) : Prop :=
  match f with
  | .next => ∃ σ' H', Inv X pins σ' H' s' ∧ D.nx σ' H'
  | .brk => ∃ σ' H', Inv X pins σ' H' s' ∧ D.bk σ' H'
  | .cont => ∃ σ' H', Inv X pins σ' H' s' ∧ D.ct σ' H'
  | .ret u => ∃ v σ' H', Inv X pins σ' H' s' ∧ RelV v u ∧ D.rt v H'

def PE (X : Cx) (e : Expr) (t : TE) : Prop :=
  ∀ (pins : List (Addr × Obj)) (s : Shared) (σ : St) (H : Hp) (Q : VK), Inv X pins σ H s → t σ H Q → wpAny (model X.prog X.w) X.A (eval e X.env) (EP X pins σ Q) X.xe s
def PT (X : Cx) (e : Expr) (t : TT) : Prop :=
  ∀ (pins : List (Addr × Obj)) (s : Shared) (σ : St) (H : Hp) (Q : Bool → Hp → Prop), Inv X pins σ H s → t σ H Q → wpAny (model X.prog X.w) X.A (isTrue e X.env (eval e X.env)) (TP X pins σ Q) X.xe s
/-- a test whatever its 'whole' is (and, or) -/
def PW (X : Cx) (e : Expr) (t : TT) : Prop :=
  ∀ (whole : Sem Value) (pins : List (Addr × Obj)) (s : Shared) (σ : St) (H : Hp) (Q : Bool → Hp → Prop), Inv X pins σ H s → t σ H Q → wpAny (model X.prog X.w) X.A (isTrue e X.env whole) (TP X pins σ Q) X.xe s
theorem PW.pt {X : Cx} {e : Expr} {t : TT} (h : PW X e t) : PT X e t := h _
/-- an argument list (no star), from the left -/
def PA (X : Cx) (es : List Expr) (t : TA) : Prop :=
  ∀ (pos : Pos) (pins : List (Addr × Obj)) (s : Shared) (σ : St) (H : Hp) (Q : List V → Hp → Prop), Inv X pins σ H s → t σ H Q → wpAny (model X.prog X.w) X.A (spliced (backTo pos (starEach es X.env))) (AP X pins σ Q) X.xe s
def PS (X : Cx) (st : Stmt) (t : TS) : Prop :=
  ∀ (pins : List (Addr × Obj)) (s : Shared) (σ : St) (H : Hp) (D : Ends), Inv X pins σ H s → t D σ H → wpAny (model X.prog X.w) X.A (exec st X.env) (SP X pins D) X.xe s
def PSs (X : Cx) (st : List Stmt) (t : TS) : Prop :=
  ∀ (pins : List (Addr × Obj)) (s : Shared) (σ : St) (H : Hp) (D : Ends), Inv X pins σ H s → t D σ H → wpAny (model X.prog X.w) X.A (execs st X.env) (SP X pins D) X.xe s
/-- weaken the end -/
theorem thn {α : Type} {t : Sem α} {Q Q' : α → Shared → Prop} {M : Model} {A : Around} {E : Value → Shared → Prop} {s : Shared} (h : wpAny M A t Q E s) (hQ : ∀ a s, Q a s → Q' a s) : wpAny M A t Q' E s := wpAny_mono h hQ fun _ _ x => x
end L2

namespace L2
open PySem PySem.Spec PyProof.Rows
section
variable {X : Cx}

/-- two expressions in a row -/
theorem bin {a b : Expr} {ta tb : TE} (ha : PE X a ta) (hb : PE X b tb) {pins : List (Addr × Obj)} {s : Shared} {σ : St} {H : Hp} {R : V → V → Hp → Prop} (I : Inv X pins σ H s) (h : ta σ H fun x H1 => tb σ H1 fun y H2 => R x y H2)
    {α : Type} {Q : α → Shared → Prop} {f : Value → Value → Sem α}
    (hf : ∀ v u s2 x y H2, Inv X pins σ H2 s2 → RelV x v → RelV y u → R x y H2 → wpAny (model X.prog X.w) X.A (f v u) Q X.xe s2) :
    wpAny (model X.prog X.w) X.A (eval a X.env) (fun v s₁ => wpAny (model X.prog X.w) X.A (eval b X.env) (fun u s₂ => wpAny (model X.prog X.w) X.A (f v u) Q X.xe s₂) X.xe s₁) X.xe s := by
  refine thn (ha pins s σ H _ I h) fun v s1 ⟨x, H1, I1, r1, q1⟩ => ?_
  refine thn (hb pins s1 σ H1 _ I1 q1) fun u s2 ⟨y, H2, I2, r2, q2⟩ => ?_
  exact hf v u s2 x y H2 I2 r1 r2 q2

/-! ### names and constants -/
def tVar (i : Nat) : TE := fun σ H Q => ∃ v, σ[i]? = some (some v) ∧ Q v H
def tC (v : V) : TE := fun _ H Q => Q v H
theorem pe_var {i : Nat} {x : Str} {pos : Pos} (hN : X.N[i]? = some x) (hv : Vis X.env.scope x) (hd : (x == ("__debug__" : Str)) = false := by decide) (hcd : (x == ("__classdict__" : Str)) = false := by decide) : PE X (.Name x pos) (tVar i) := by
  intro pins s σ H Q I h
  obtain ⟨v, e, h⟩ := h
  obtain ⟨m, hn, hl⟩ := I.loc
  obtain ⟨u, r, l⟩ := hl i x v hN e hv
  have fin : EP X pins σ Q u s := ⟨v, H, I, r, h⟩
  rcases l with ⟨hk, hm⟩ | ⟨hk, c, hc, hcell⟩
  · exact wpAny_Name (wpAny_loadName_local I.ok.kind hk hn hm fin) hd
  · rcases hk with hk | hk
    · exact wpAny_Name (wpAny_loadName_cell I.ok.kind hk hc hcell fin) hd
    · exact wpAny_Name (wpAny_loadName_free I.ok.kind hk hc hcell fin hcd) hd
theorem pe_int {i j pos} : PE X (.Constant (.int i) j pos) (tC (.int i)) := fun _ _ _ H _ I h => wpAny_Constant_int ⟨.int i, H, I.tok _, ⟨_, rfl⟩, h⟩
theorem pe_bl {b j pos} : PE X (.Constant (.bool b) j pos) (tC (.bl b)) := fun _ _ _ H _ I h => Constant_bool ⟨.bl b, H, I, rfl, h⟩
theorem pe_non {j pos} : PE X (.Constant .none j pos) (tC .non) := fun _ _ _ H _ I h => Constant_none ⟨.non, H, I, rfl, h⟩
theorem pe_str {x j pos} : PE X (.Constant (.str x) j pos) (tC (.str x)) := fun _ _ _ H _ I h => Calls.Constant_str ⟨.str x, H, I.tok _, ⟨_, rfl⟩, h⟩

/-- a global name of the def -/
def Gl (X : Cx) (x : Str) : Prop := X.env.kindOf x = some .globalImplicit
theorem ld_glob {E : Value → Shared → Prop} {pins : List (Addr × Obj)} {s : Shared} {σ : St} {H : Hp} {x : Str} {u : Value} {pos : Pos} {Q : Value → Shared → Prop} (I : Inv X pins σ H s) (hg : Gl X x) (hm : X.mg x = some u) (h : Q u s)
    (hd : (x == ("__debug__" : Str)) = false := by decide) : wpAny (model X.prog X.w) X.A (eval (.Name x pos) X.env) Q E s :=
  Calls.Name_function_global I.ok.kind hg (Calls.loadGlobal_global (by rw [I.ok.glob]; exact I.mod.glob.keeps I.bk) hm h) hd
theorem ld_blt {E : Value → Shared → Prop} {pins : List (Addr × Obj)} {s : Shared} {σ : St} {H : Hp} {x : Str} {u : Value} {pos : Pos} {Q : Value → Shared → Prop} (I : Inv X pins σ H s) (hg : Gl X x) (hm : X.mg x = none) (hv : bootBuiltins x = some u) (h : Q u s)
    (hn : x ≠ "__name__" := by decide) (hd : (x == ("__debug__" : Str)) = false := by decide) : wpAny (model X.prog X.w) X.A (eval (.Name x pos) X.env) Q E s := by
  obtain ⟨mb, h1, h2⟩ := I.mod.blt
  exact Calls.Name_function_global I.ok.kind hg (Calls.loadGlobal_builtin (by rw [I.ok.glob]; exact I.mod.glob.keeps I.bk) hm (by rw [I.ok.blt]; exact h1.keeps I.bk) ((h2 x hn).trans hv) h) hd
/-- a module's constant, a class, a function, as a value -/
theorem pe_glob {x : Str} {v : V} {u : Value} {pos : Pos} (hg : Gl X x) (hm : X.mg x = some u) (r : RelV v u) (hd : (x == ("__debug__" : Str)) = false := by decide) : PE X (.Name x pos) (tC v) :=
  fun _ _ _ H _ I h => ld_glob I hg hm ⟨v, H, I, r, h⟩ hd
theorem pe_bltn {x : Str} {v : V} {u : Value} {pos : Pos} (hg : Gl X x) (hm : X.mg x = none) (hv : bootBuiltins x = some u) (r : RelV v u) (hn : x ≠ "__name__" := by decide) (hd : (x == ("__debug__" : Str)) = false := by decide) : PE X (.Name x pos) (tC v) :=
  fun _ _ _ H _ I h => ld_blt I hg hm hv ⟨v, H, I, r, h⟩ hn hd

/-! ### arithmetic -/
/-- two ints -/
def t2I (ta tb : TE) (k : Int → Int → Hp → Prop) : St → Hp → Prop := fun σ H => ta σ H fun x H1 => tb σ H1 fun y H2 => ∃ i j, x = .int i ∧ y = .int j ∧ k i j H2
def tAdd (ta tb : TE) : TE := fun σ H Q => t2I ta tb (fun i j H2 => Q (.int (i + j)) H2) σ H
def tSub (ta tb : TE) : TE := fun σ H Q => t2I ta tb (fun i j H2 => Q (.int (i - j)) H2) σ H
/-- the left factor below 2^64 -/
def tMul (ta tb : TE) : TE := fun σ H Q => t2I ta tb (fun i j H2 => (-(2 ^ 64) < i ∧ i < 2 ^ 64) ∧ Q (.int (i * j)) H2) σ H
variable {a b : Expr} {ta tb : TE} {pos : Pos}
theorem pe_add (ha : PE X a ta) (hb : PE X b tb) : PE X (.BinOp a .Add b pos) (tAdd ta tb) := by
  intro pins s σ H Q I h
  refine wpAny_BinOp (bin ha hb I h fun v u s2 x y H2 I2 rx ry q => ?_)
  obtain ⟨i, j, rfl, rfl, q⟩ := q
  obtain ⟨t, rfl⟩ := rx
  obtain ⟨t', rfl⟩ := ry
  exact add_int ⟨.int _, H2, I2.tok _, ⟨_, rfl⟩, q⟩
theorem pe_sub (ha : PE X a ta) (hb : PE X b tb) : PE X (.BinOp a .Sub b pos) (tSub ta tb) := by
  intro pins s σ H Q I h
  refine wpAny_BinOp (bin ha hb I h fun v u s2 x y H2 I2 rx ry q => ?_)
  obtain ⟨i, j, rfl, rfl, q⟩ := q
  obtain ⟨t, rfl⟩ := rx
  obtain ⟨t', rfl⟩ := ry
  exact sub_int ⟨.int _, H2, I2.tok _, ⟨_, rfl⟩, q⟩
theorem pe_mul (ha : PE X a ta) (hb : PE X b tb) : PE X (.BinOp a .Mult b pos) (tMul ta tb) := by
  intro pins s σ H Q I h
  refine wpAny_BinOp (bin ha hb I h fun v u s2 x y H2 I2 rx ry q => ?_)
  obtain ⟨i, j, rfl, rfl, ⟨q1, q2⟩, q⟩ := q
  obtain ⟨t, rfl⟩ := rx
  obtain ⟨t', rfl⟩ := ry
  exact mul_int ⟨.int _, H2, I2.tok _, ⟨_, rfl⟩, q⟩ (.of_left (intBits_le_64 q1 q2))

/-! ### comparisons -/
def PC (X : Cx) (op : CmpOp) (a b : Expr) (t : TE) : Prop :=
  ∀ (pins : List (Addr × Obj)) (s : Shared) (σ : St) (H : Hp) (Q : VK), Inv X pins σ H s → t σ H Q →
    wpAny (model X.prog X.w) X.A (eval a X.env) (fun v s₁ => wpAny (model X.prog X.w) X.A (eval b X.env) (fun u s₂ => wpAny (model X.prog X.w) X.A (compareOp op v u) (EP X pins σ Q) X.xe s₂) X.xe s₁) X.xe s
theorem nobehind (b : Expr) {op : CmpOp} (h : op ≠ .In) (h2 : op ≠ .NotIn) : behindInMarks op b = false := by
  have e1 : (op == CmpOp.In) = false := by cases op <;> first | rfl | exact absurd rfl h
  have e2 : (op == CmpOp.NotIn) = false := by cases op <;> first | rfl | exact absurd rfl h2
  cases b <;> simp [behindInMarks, e1, e2]
def tCmp (p : Int → Int → Bool) (ta tb : TE) : TE := fun σ H Q => t2I ta tb (fun i j H2 => Q (.bl (p i j)) H2) σ H
abbrev tLt : TE → TE → TE := tCmp fun i j => decide (i < j)
abbrev tLe : TE → TE → TE := tCmp fun i j => decide (i ≤ j)
abbrev tGt : TE → TE → TE := tCmp fun i j => decide (j < i)
abbrev tGe : TE → TE → TE := tCmp fun i j => decide (j ≤ i)
abbrev tEqI : TE → TE → TE := tCmp fun i j => decide (i = j)
abbrev tNeI : TE → TE → TE := tCmp fun i j => !decide (i = j)
/-- a comparison of two ints, by its rule -/
theorem pc_int {op : CmpOp} {p : Int → Int → Bool} (ha : PE X a ta) (hb : PE X b tb)
    (rule : ∀ (i j : Int) (t u : Tok) (Q : Value → Shared → Prop) (s : Shared), Q (.bool (p i j)) s → wpAny (model X.prog X.w) X.A (compareOp op (.int i t) (.int j u)) Q X.xe s) : PC X op a b (tCmp p ta tb) := by
  intro pins s σ H Q I h
  refine bin ha hb I h fun v u s2 x y H2 I2 rx ry q => ?_
  obtain ⟨i, j, rfl, rfl, q⟩ := q
  obtain ⟨t, rfl⟩ := rx
  obtain ⟨t', rfl⟩ := ry
  exact rule i j t t' _ s2 ⟨.bl _, H2, I2, rfl, q⟩
theorem pc_lt (ha : PE X a ta) (hb : PE X b tb) : PC X .Lt a b (tLt ta tb) := pc_int ha hb fun _ _ _ _ _ _ h => lt_int h
theorem pc_le (ha : PE X a ta) (hb : PE X b tb) : PC X .LtE a b (tLe ta tb) := pc_int ha hb fun _ _ _ _ _ _ h => le_int h
theorem pc_gt (ha : PE X a ta) (hb : PE X b tb) : PC X .Gt a b (tGt ta tb) := pc_int ha hb fun _ _ _ _ _ _ h => gt_int h
theorem pc_ge (ha : PE X a ta) (hb : PE X b tb) : PC X .GtE a b (tGe ta tb) := pc_int ha hb fun _ _ _ _ _ _ h => ge_int h
theorem pc_eqI (ha : PE X a ta) (hb : PE X b tb) : PC X .Eq a b (tEqI ta tb) := pc_int ha hb fun _ _ _ _ _ _ h => eq_int (by rw [Bool.beq_eq_decide_eq]; exact h)
theorem pc_neI (ha : PE X a ta) (hb : PE X b tb) : PC X .NotEq a b (tNeI ta tb) := pc_int ha hb fun _ _ _ _ _ _ h => ne_int (by rw [bne, Bool.beq_eq_decide_eq]; exact h)
/-- is None -/
def tIsN (ta : TE) : TE := fun σ H Q => ta σ H fun x H1 => Q (.bl (decide (x = .non))) H1
def tNotN (ta : TE) : TE := fun σ H Q => ta σ H fun x H1 => Q (.bl (!decide (x = .non))) H1
theorem RelV.none_iff {x : V} {v : Value} (r : RelV x v) : (v == Value.none) = decide (x = .non) := by
  cases x with
  | non => cases r; rfl
  | bl _ => cases r; rfl
  | int _ => obtain ⟨t, rfl⟩ := r; rfl
  | str _ => obtain ⟨t, rfl⟩ := r; rfl
  | byt _ => obtain ⟨t, rfl⟩ := r; rfl
  | flt _ => obtain ⟨t, rfl⟩ := r; rfl
  | ref _ => cases r; rfl
  | ty _ => cases r; rfl
theorem pc_isN {j pos'} (ha : PE X a ta) : PC X .Is a (.Constant .none j pos') (tIsN ta) := by
  intro pins s σ H Q I h
  refine thn (ha pins s σ H _ I h) fun v s1 ⟨x, H1, I1, r1, q1⟩ => ?_
  exact Constant_none (is_none_gen ⟨.bl _, H1, I1, by rw [r1.none_iff]; rfl, q1⟩)
theorem pc_notN {j pos'} (ha : PE X a ta) : PC X .IsNot a (.Constant .none j pos') (tNotN ta) := by
  intro pins s σ H Q I h
  refine thn (ha pins s σ H _ I h) fun v s1 ⟨x, H1, I1, r1, q1⟩ => ?_
  exact Constant_none (isnot_none_gen ⟨.bl _, H1, I1, by rw [r1.none_iff]; rfl, q1⟩)
/-- a comparison as a value, as a test -/
def tB (t : TE) : TT := fun σ H Q => t σ H fun x H1 => ∃ c, x = .bl c ∧ Q c H1
theorem pe_cmp {op : CmpOp} {t : TE} (h : PC X op a b t) (h1 : behindInMarks op b = false := by first | exact nobehind _ (by decide) (by decide) | rfl) : PE X (.Compare a [op] [b] pos) t := fun pins s σ H Q I hw => wpAny_Compare1 (h pins s σ H Q I hw) h1
theorem pt_cmp {op : CmpOp} {t : TE} (h : PC X op a b t) (h1 : behindInMarks op b = false := by first | exact nobehind _ (by decide) (by decide) | rfl) : PT X (.Compare a [op] [b] pos) (tB t) := by
  intro pins s σ H Q I hw
  refine wpAny_isTrue_Compare1 (thn (h pins s σ H _ I hw) fun v s1 h1 => thn h1 fun u s2 h2 => thn h2 fun c s3 ⟨x, H1, I1, r1, q1⟩ => ?_) h1
  obtain ⟨d, rfl, q⟩ := q1
  cases r1
  exact wpAny_truthy_bool ⟨H1, I1, q⟩
/-- an expression whose value is a bool, as a test -/
theorem pt_val {e : Expr} {t : TE} (h : PE X e t) (he : ∀ whole, isTrue e X.env whole = (do let v ← whole; standAt e.pos; holding [v] (truthy v)) := by intro _; rfl) : PT X e (tB t) := by
  intro pins s σ H Q I hw
  refine isTrue_plain (thn (h pins s σ H _ I hw) fun v s1 ⟨x, H1, I1, r1, q1⟩ => ?_) (he _)
  obtain ⟨d, rfl, q⟩ := q1
  cases r1
  exact wpAny_truthy_bool ⟨H1, I1, q⟩

/-! ### and, or, not -/
variable {tA tB' : TT} {rest : List Expr}
def tAnd (t u : TT) : TT := fun σ H Q => t σ H fun c H1 => if c = true then u σ H1 Q else Q false H1
def tOr (t u : TT) : TT := fun σ H Q => t σ H fun c H1 => if c = true then Q true H1 else u σ H1 Q
def tNot (t : TT) : TT := fun σ H Q => t σ H fun c H1 => Q (!c) H1
theorem pw_and1 (ha : PT X a tA) : PW X (.BoolOp .And [a] pos) tA := by
  intro wh pins s σ H Q I h
  refine isTrue_and (thn (ha pins s σ H Q I h) fun c s1 e => ?_)
  cases c with
  | true => exact isTrue_and_nil e
  | false => exact e
theorem pw_or1 (ha : PT X a tA) : PW X (.BoolOp .Or [a] pos) tA := by
  intro wh pins s σ H Q I h
  refine isTrue_or (thn (ha pins s σ H Q I h) fun c s1 e => ?_)
  cases c with
  | false => exact isTrue_or_nil e
  | true => exact e
theorem pw_and (ha : PT X a tA) (hb : PW X (.BoolOp .And (b :: rest) pos) tB') : PW X (.BoolOp .And (a :: b :: rest) pos) (tAnd tA tB') := by
  intro wh pins s σ H Q I h
  refine isTrue_and (thn (ha pins s σ H _ I h) fun c s1 ⟨H1, I1, q1⟩ => ?_)
  cases c with
  | true => exact hb wh pins s1 σ H1 Q I1 q1
  | false => exact ⟨H1, I1, q1⟩
theorem pw_or (ha : PT X a tA) (hb : PW X (.BoolOp .Or (b :: rest) pos) tB') : PW X (.BoolOp .Or (a :: b :: rest) pos) (tOr tA tB') := by
  intro wh pins s σ H Q I h
  refine isTrue_or (thn (ha pins s σ H _ I h) fun c s1 ⟨H1, I1, q1⟩ => ?_)
  cases c with
  | true => exact ⟨H1, I1, q1⟩
  | false => exact hb wh pins s1 σ H1 Q I1 q1
theorem pt_not (ha : PT X a tA) : PT X (.UnaryOp .Not a pos) (tNot tA) := by
  intro pins s σ H Q I h
  exact isTrue_not (ha pins s σ H (fun c H1 => Q (!c) H1) I h)
/-- .. as values (bools) -/
def tAndV (ta tb : TE) : TE := fun σ H Q => ta σ H fun x H1 => ∃ c, x = .bl c ∧ if c = true then tb σ H1 Q else Q (.bl false) H1
def tOrV (ta tb : TE) : TE := fun σ H Q => ta σ H fun x H1 => ∃ c, x = .bl c ∧ if c = true then Q (.bl true) H1 else tb σ H1 Q
def tNotV (ta : TE) : TE := fun σ H Q => ta σ H fun x H1 => ∃ c, x = .bl c ∧ Q (.bl (!c)) H1
theorem pe_one {op} {t : TE} (h : PE X a t) : PE X (.BoolOp op [a] pos) t := fun pins s σ H Q I hw => BoolOp_one (h pins s σ H Q I hw)
theorem pe_and (ha : PE X a ta) (hb : PE X (.BoolOp .And (b :: rest) pos) tb) : PE X (.BoolOp .And (a :: b :: rest) pos) (tAndV ta tb) := by
  intro pins s σ H Q I h
  refine BoolOp_and (thn (ha pins s σ H _ I h) fun v s1 ⟨x, H1, I1, r1, q1⟩ => ?_)
  obtain ⟨c, rfl, q1⟩ := q1
  cases r1
  refine wpAny_truthy_bool ?_
  cases c with
  | true => exact hb pins s1 σ H1 Q I1 q1
  | false => exact ⟨.bl false, H1, I1, rfl, q1⟩
theorem pe_or (ha : PE X a ta) (hb : PE X (.BoolOp .Or (b :: rest) pos) tb) : PE X (.BoolOp .Or (a :: b :: rest) pos) (tOrV ta tb) := by
  intro pins s σ H Q I h
  refine BoolOp_or (thn (ha pins s σ H _ I h) fun v s1 ⟨x, H1, I1, r1, q1⟩ => ?_)
  obtain ⟨c, rfl, q1⟩ := q1
  cases r1
  refine wpAny_truthy_bool ?_
  cases c with
  | false => exact hb pins s1 σ H1 Q I1 q1
  | true => exact ⟨.bl true, H1, I1, rfl, q1⟩
theorem pe_not (ha : PE X a ta) : PE X (.UnaryOp .Not a pos) (tNotV ta) := by
  intro pins s σ H Q I h
  refine UnaryOp_ (thn (ha pins s σ H _ I h) fun v s1 ⟨x, H1, I1, r1, q1⟩ => ?_)
  obtain ⟨c, rfl, q1⟩ := q1
  cases r1
  exact not_of (wpAny_truthy_bool ⟨.bl (!c), H1, I1, rfl, q1⟩)
/-- a if t else b -/
def tIf (t : TT) (ta tb : TE) : TE := fun σ H Q => t σ H fun c H1 => if c = true then ta σ H1 Q else tb σ H1 Q
theorem pe_ifExp {c : Expr} (hc : PT X c tA) (ha : PE X a ta) (hb : PE X b tb) : PE X (.IfExp c a b pos) (tIf tA ta tb) := by
  intro pins s σ H Q I h
  refine wpAny_IfExp (thn (hc pins s σ H _ I h) fun d s1 ⟨H1, I1, q1⟩ => ?_)
  cases d with
  | true => exact ha pins s1 σ H1 Q I1 q1
  | false => exact hb pins s1 σ H1 Q I1 q1
end
end L2

namespace L2
open PySem PySem.Spec PyProof.Rows

/-! ### a list, a tuple that is read: tracked, frozen, or an object of the module -/
def SqL (K : PySem.W.Frag) (H : Hp) (a : Addr) (xs : List V) : Prop :=
  Rd H a (.lst xs) ∨
    ∃ (o : Obj) (its : Array Value) (n : Nat), K.lookup a = some o ∧ o.cls = .type "list" ∧ o.dict = none ∧ o.data = .seq its n ∧ its.size ≤ sizeLine ∧ Vals xs its.toList
def SqT (K : PySem.W.Frag) (H : Hp) (a : Addr) (xs : List V) : Prop :=
  Rd H a (.tup xs) ∨
    ∃ (o : Obj) (its : Array Value) (n : Nat), K.lookup a = some o ∧ o.cls = .type "tuple" ∧ o.data = .seq its n ∧ its.size ≤ sizeLine ∧ Vals xs its.toList
def absV : Value → Option V
  | .none => some .non
  | .bool b => some (.bl b)
  | .int i _ => some (.int i)
  | .str x _ => some (.str x)
  | .bytes b _ => some (.byt b)
  | .float b _ => some (.flt b)
  | .ref a => some (.ref a)
  | .type n => some (.ty n)
  | _ => none
theorem RelV.abs {x : V} {u : Value} (r : RelV x u) : absV u = some x := by
  cases x with
  | non => cases r; rfl
  | bl _ => cases r; rfl
  | int _ => obtain ⟨t, rfl⟩ := r; rfl
  | str _ => obtain ⟨t, rfl⟩ := r; rfl
  | byt _ => obtain ⟨t, rfl⟩ := r; rfl
  | flt _ => obtain ⟨t, rfl⟩ := r; rfl
  | ref _ => cases r; rfl
  | ty _ => cases r; rfl
theorem RelV.inj {x y : V} {u : Value} (r : RelV x u) (q : RelV y u) : x = y := Option.some.inj (r.abs.symm.trans q.abs)
theorem Vals.inj : ∀ {xs ys : List V} {us : List Value}, Vals xs us → Vals ys us → xs = ys
  | _, _, _, .nil, .nil => rfl
  | _, _, _, .cons r t, .cons r' t' => by rw [r.inj r', Vals.inj t t']
section
variable {X : Cx} {pins : List (Addr × Obj)} {σ : St} {H : Hp} {s : Shared} {a : Addr} {xs ys : List V}
theorem SqL.of {K : PySem.W.Frag} (h : H a = some (.lst xs)) : SqL K H a xs := .inl (.inl h)
theorem SqT.of {K : PySem.W.Frag} (h : H a = some (.tup xs)) : SqT K H a xs := .inl (.inl h)
theorem Inv.list (I : Inv X pins σ H s) (h : SqL X.K H a xs) : ∃ its : List Value, Vals xs its ∧ PlainL s.heap a its.toArray ∧ xs.length ≤ sizeLine := by
  rcases h with h | ⟨o, its, n, hk, hc, hd, hs, hz, r⟩
  · obtain ⟨z, its, n, r, e⟩ := h.ok I.hok
    exact ⟨its, r, ⟨_, n, e, rfl, rfl, rfl⟩, z⟩
  · refine ⟨its.toList, r, ⟨o, n, I.kIn a o hk, hc, hd, by simpa using hs⟩, ?_⟩
    have e := r.length
    simp only [Array.length_toList] at e
    omega
theorem Inv.tuple (I : Inv X pins σ H s) (h : SqT X.K H a xs) : ∃ its : List Value, Vals xs its ∧ IsTup s.heap a its.toArray ∧ xs.length ≤ sizeLine := by
  rcases h with h | ⟨o, its, n, hk, hc, hs, hz, r⟩
  · obtain ⟨z, its, r, p⟩ := h.ok I.hok
    exact ⟨its, r, p, z⟩
  · refine ⟨its.toList, r, ⟨o, I.kIn a o hk, hc, n, by simpa using hs⟩, ?_⟩
    have e := r.length
    simp only [Array.length_toList] at e
    omega
theorem Inv.list_inj (I : Inv X pins σ H s) (h : SqL X.K H a xs) (h' : SqL X.K H a ys) : xs = ys := by
  obtain ⟨its, r, ⟨o, n, e, _, _, d⟩, _⟩ := I.list h
  obtain ⟨its', r', ⟨o', n', e', _, _, d'⟩, _⟩ := I.list h'
  rw [e] at e'; cases e'
  rw [d] at d'
  injection d' with d1 _
  have : its = its' := by simpa using congrArg Array.toList d1
  subst this
  exact r.inj r'
theorem Inv.tuple_inj (I : Inv X pins σ H s) (h : SqT X.K H a xs) (h' : SqT X.K H a ys) : xs = ys := by
  obtain ⟨its, r, ⟨o, e, _, n, d⟩, _⟩ := I.tuple h
  obtain ⟨its', r', ⟨o', e', _, n', d'⟩, _⟩ := I.tuple h'
  rw [e] at e'; cases e'
  rw [d] at d'
  injection d' with d1 _
  have : its = its' := by simpa using congrArg Array.toList d1
  subst this
  exact r.inj r'
end

/-! ### another wish about exceptions -/
abbrev Cx.wish (X : Cx) (E : Value → Shared → Prop) : Cx := { X with xe := E }
/-- no exception leaves -/
abbrev Cx.nox (X : Cx) : Cx := X.wish fun _ _ => False
theorem Cx.Ok.wish {X : Cx} (ok : X.Ok) (E : Value → Shared → Prop) : (X.wish E).Ok :=
  ⟨ok.mod, ok.kind, ok.glob, ok.blt, ok.above, ok.inj, ok.has, ok.cab, ok.hd, ok.frames, ok.stk, ok.exf, ok.bs, ok.bsz, ok.noex, ok.exfs, ok.funs, ok.frf⟩
theorem Cx.Ok.unwish {X : Cx} {E : Value → Shared → Prop} (ok : (X.wish E).Ok) : X.Ok :=
  ⟨ok.mod, ok.kind, ok.glob, ok.blt, ok.above, ok.inj, ok.has, ok.cab, ok.hd, ok.frames, ok.stk, ok.exf, ok.bs, ok.bsz, ok.noex, ok.exfs, ok.funs, ok.frf⟩
section
variable {X : Cx} {pins : List (Addr × Obj)} {σ : St} {H : Hp} {s : Shared} {E : Value → Shared → Prop}
theorem Inv.wish (I : Inv X pins σ H s) (E : Value → Shared → Prop) : Inv (X.wish E) pins σ H s := ⟨I.ok.wish E, I.os, I.bare, I.base, I.loc, I.cell, I.free, I.freeC, I.pin, I.hok, I.len⟩
theorem Inv.unwish (I : Inv (X.wish E) pins σ H s) : Inv X pins σ H s := ⟨I.ok.unwish, I.os, I.bare, I.base, I.loc, I.cell, I.free, I.freeC, I.pin, I.hok, I.len⟩
theorem SP.unwish {D : Ends} {f : Flow} {s' : Shared} (h : SP (X.wish E) pins D f s') : SP X pins D f s' := by
  cases f with
  | next => obtain ⟨σ', H', I, q⟩ := h; exact ⟨σ', H', I.unwish, q⟩
  | brk => obtain ⟨σ', H', I, q⟩ := h; exact ⟨σ', H', I.unwish, q⟩
  | cont => obtain ⟨σ', H', I, q⟩ := h; exact ⟨σ', H', I.unwish, q⟩
  | ret u => obtain ⟨v, σ', H', I, r, q⟩ := h; exact ⟨v, σ', H', I.unwish, r, q⟩
theorem PE.nox {e : Expr} {t : TE} (h : PE X.nox e t) : PE X e t := fun pins s σ H Q I hw =>
  wpAny_mono (h pins s σ H Q (I.wish _) hw) (fun _ _ ⟨v, H', I', r, q⟩ => ⟨v, H', I'.unwish, r, q⟩) fun _ _ z => False.elim z
theorem PT.nox {e : Expr} {t : TT} (h : PT X.nox e t) : PT X e t := fun pins s σ H Q I hw =>
  wpAny_mono (h pins s σ H Q (I.wish _) hw) (fun _ _ ⟨H', I', q⟩ => ⟨H', I'.unwish, q⟩) fun _ _ z => False.elim z
theorem PSs.nox {st : List Stmt} {t : TS} (h : PSs X.nox st t) : PSs X st t := fun pins s σ H D I hw =>
  wpAny_mono (h pins s σ H D (I.wish _) hw) (fun _ _ q => q.unwish) fun _ _ z => False.elim z
end

/-! ### blocks and small statements -/
section
variable {X : Cx} {st : Stmt} {rest : List Stmt} {t u : TS} {e : Expr} {te : TE} {pos : Pos}
def tNext : TS := fun D σ H => D.nx σ H
def tSeq (t u : TS) : TS := fun D σ H => t { D with nx := u D } σ H
theorem pss_nil : PSs X [] tNext := fun _ _ σ H _ I h => wpAny_execs_nil ⟨σ, H, I, h⟩
theorem pss_cons (h1 : PS X st t) (h2 : PSs X rest u) : PSs X (st :: rest) (tSeq t u) := by
  intro pins s σ H D I h
  refine wpAny_execs_cons (thn (h1 pins s σ H { D with nx := u D } I h) fun f s1 q => ?_)
  cases f with
  | next =>
    obtain ⟨σ', H', I', q⟩ := q
    exact h2 pins s1 σ' H' D I' q
  | ret v => exact q
  | brk => exact q
  | cont => exact q
theorem pss_one (h1 : PS X st t) : PSs X [st] t := by
  intro pins s σ H D I h
  refine wpAny_execs_cons (thn (h1 pins s σ H D I h) fun f s1 q => ?_)
  cases f with
  | next => exact wpAny_execs_nil q
  | ret v => exact q
  | brk => exact q
  | cont => exact q
def tBreak : TS := fun D σ H => D.bk σ H
def tCont : TS := fun D σ H => D.ct σ H
theorem ps_pass : PS X (.Pass pos) tNext := fun _ _ σ H _ I h => wpAny_Pass ⟨σ, H, I, h⟩
theorem ps_break : PS X (.Break pos) tBreak := fun _ _ σ H _ I h => wpAny_Break ⟨σ, H, I, h⟩
theorem ps_continue : PS X (.Continue pos) tCont := fun _ _ σ H _ I h => wpAny_Continue ⟨σ, H, I, h⟩
/-- in a def's body nothing is shown -/
theorem Inv.quiet {pins : List (Addr × Obj)} {σ : St} {H : Hp} {s : Shared} (I : Inv X pins σ H s) : interactive X.env = false := by simp [interactive, I.ok.kind]
/-- a docstring -/
theorem ps_doc {x j pos pos'} : PS X (.Expr (.Constant (.str x) j pos) pos') tNext := fun _ s σ H _ I h => wpAny_Expr (Calls.Constant_str (show SP X _ _ .next { s with toks := s.toks + 1 } from ⟨σ, H, I.tok _, h⟩)) I.quiet
/-- an expression whose value is dropped -/
def tDrop (te : TE) : TS := fun D σ H => te σ H fun _ H1 => D.nx σ H1
theorem ps_expr (he : PE X e te) (hs : swapsWith e none pos.line X.env = pure false := by rfl) : PS X (.Expr e pos) (tDrop te) := by
  intro pins s σ H D I h
  exact wpAny_Expr_any (thn (he pins s σ H _ I h) fun v s1 ⟨x, H1, I1, r1, q1⟩ => ⟨σ, H1, I1, q1⟩) I.quiet hs
def tRet (te : TE) : TS := fun D σ H => te σ H D.rt
theorem ps_ret (he : PE X e te) : PS X (.Return (some e) pos) (tRet te) := by
  intro pins s σ H D I h
  exact wpAny_Return_some (thn (he pins s σ H _ I h) fun v s1 ⟨x, H1, I1, r1, q1⟩ => ⟨x, σ, H1, I1, r1, q1⟩)
def tRetN : TS := fun D _ H => D.rt .non H
theorem ps_retN : PS X (.Return none pos) tRetN := fun _ _ σ H _ I h => wpAny_Return_none ⟨.non, σ, H, I, rfl, h⟩
def tIfS (c : TT) (t u : TS) : TS := fun D σ H => c σ H fun b H1 => if b = true then t D σ H1 else u D σ H1
theorem ps_if {c : Expr} {a b : List Stmt} {tc : TT} (hc : PT X c tc) (ha : PSs X a t) (hb : PSs X b u) : PS X (.If c a b pos) (tIfS tc t u) := by
  intro pins s σ H D I h
  refine wpAny_If (thn (hc pins s σ H _ I h) fun d s1 ⟨H1, I1, q1⟩ => ?_)
  cases d with
  | true => exact ha pins s1 σ H1 D I1 q1
  | false => exact hb pins s1 σ H1 D I1 q1
/-- code that the proof never comes to -/
def tNever : TS := fun _ _ _ => False
theorem ps_never : PS X st tNever := fun _ _ _ _ _ _ h => h.elim
theorem pss_never {sts : List Stmt} : PSs X sts tNever := fun _ _ _ _ _ _ h => h.elim
end

/-! ### targets -/
abbrev TG := V → St → Hp → (St → Hp → Prop) → Prop
abbrev TGs := List V → St → Hp → (St → Hp → Prop) → Prop
def PG (X : Cx) (target : Expr) (t : TG) : Prop :=
  ∀ (pins : List (Addr × Obj)) (s : Shared) (σ : St) (H : Hp) (v : V) (u : Value) (Q : St → Hp → Prop), Inv X pins σ H s → RelV v u → t v σ H Q →
    wpAny (model X.prog X.w) X.A (assign target X.env u) (fun _ s' => ∃ σ' H', Inv X pins σ' H' s' ∧ Q σ' H') X.xe s
/-- several targets, one after another -/
def PGs (X : Cx) (ts : List Expr) (t : TGs) : Prop :=
  ∀ (pins : List (Addr × Obj)) (s : Shared) (σ : St) (H : Hp) (vs : List V) (us : List Value) (Q : St → Hp → Prop), Inv X pins σ H s → Vals vs us → t vs σ H Q →
    wpAny (model X.prog X.w) X.A (assignInOrder ((assignEach ts X.env).map (·.2)) us) (fun _ s' => ∃ σ' H', Inv X pins σ' H' s' ∧ Q σ' H') X.xe s
/-- o[i] = v, by values -/
abbrev TSet := V → V → V → Hp → (Hp → Prop) → Prop
def PSet (X : Cx) (t : TSet) : Prop :=
  ∀ (pins : List (Addr × Obj)) (s : Shared) (σ : St) (H : Hp) (o i v : V) (ov iv u : Value) (Q : Hp → Prop), Inv X pins σ H s → RelV o ov → RelV i iv → RelV v u → t o i v H Q →
    wpAny (model X.prog X.w) X.A (setItem ov iv u) (fun _ s' => ∃ H', Inv X pins σ H' s' ∧ Q H') X.xe s
/-- a op= b, by values -/
abbrev TIp := V → V → Hp → VK → Prop
def PIp (X : Cx) (op : Operator) (t : TIp) : Prop :=
  ∀ (pins : List (Addr × Obj)) (s : Shared) (σ : St) (H : Hp) (x y : V) (v u : Value) (Q : VK), Inv X pins σ H s → RelV x v → RelV y u → t x y H Q →
    wpAny (model X.prog X.w) X.A (inplaceOp op v u) (EP X pins σ Q) X.xe s
section
variable {X : Cx} {pos : Pos}
def gName (i : Nat) : TG := fun v σ H Q => Q (σ.set i (some v)) H
theorem pg_name {i : Nat} {x : Str} (hN : X.N.Nodup) (hi : X.N[i]? = some x) (hx : Loc X.env.scope x) (hf : X.fn x = true ∨ X.env.scope.names.lookup x = some .local := by first | exact .inl rfl | exact .inr rfl | assumption) : PG X (.Name x pos) (gName i) := by
  intro pins s σ H v u Q I r h
  exact wpAny_assign_Name (store_ok I hN hi hx r (fun s' I' => ⟨_, H, I', h⟩) hf)
def gNil : TGs := fun vs σ H Q => vs = [] ∧ Q σ H
def gCons (t : TG) (u : TGs) : TGs := fun vs σ H Q => ∃ v r, vs = v :: r ∧ t v σ H fun σ' H' => u r σ' H' Q
theorem pgs_nil : PGs X [] gNil := by
  intro pins s σ H vs us Q I r h
  obtain ⟨e, h⟩ := h
  subst e
  cases r
  exact assignInOrder_nil ⟨σ, H, I, h⟩
theorem pgs_cons {e : Expr} {es : List Expr} {t : TG} {u : TGs} (h1 : PG X e t) (h2 : PGs X es u)
    (hs : (assignEach (e :: es) X.env).map (·.2) = assign e X.env :: (assignEach es X.env).map (·.2) := by rfl) : PGs X (e :: es) (gCons t u) := by
  intro pins s σ H vs us Q I r h
  obtain ⟨v, vr, e1, h⟩ := h
  subst e1
  cases r with
  | cons r rr =>
    rw [hs]
    refine assignInOrder_cons (thn (h1 pins s σ H _ _ _ I r h) fun _ s1 ⟨σ1, H1, I1, q1⟩ => ?_)
    exact h2 pins s1 σ1 H1 _ _ Q I1 rr q1
/-- (a, b, ..) = a tuple of that length -/
def gTup (K : PySem.W.Frag) (n : Nat) (t : TGs) : TG := fun v σ H Q => ∃ a xs, v = .ref a ∧ SqT K H a xs ∧ xs.length = n ∧ t xs σ H Q
theorem pg_tup {es : List Expr} {k : Nat} {t : TGs} {n : Nat} (hc : X.calm = true) (h : PGs X es t)
    (hn : (assignEach es X.env).length = n := by rfl) (hst : (assignEach es X.env).findIdx? (·.1) = none := by rfl) : PG X (.Tuple es k pos) (gTup X.K n t) := by
  intro pins s σ H v u Q I r hw
  obtain ⟨a, xs, e1, hq, hl, hw⟩ := hw
  subst e1
  cases r
  obtain ⟨its, rv, ht, hz⟩ := I.tuple hq
  refine assign_Tuple_tuple (I.ok.hd hc) ht (by simp [hn, ← hl, rv.length]) hst fun h' hx => ?_
  have I1 : Inv X pins σ H { s with heap := h' } := I.kept (t' := s.toks) fun b o e => hx b o (Nat.ne_of_lt (Heap.lt_size e)) e
  exact h pins _ σ H xs _ Q I1 (by simpa using rv) hw
/-- o[i] = .. -/
def gSub (to ti : TE) (t : TSet) : TG := fun v σ H Q => to σ H fun o H1 => ti σ H1 fun i H2 => t o i v H2 fun H3 => Q σ H3
theorem pg_sub {o i : Expr} {to ti : TE} {t : TSet} (ho : PE X o to) (hi : PE X i ti) (hs : PSet X t)
    (ha : ∀ v, assign (.Subscript o i pos) X.env v = (do
      let ov ← holding [v] (eval o X.env)
      let iv ← holding [v, ov] (eval i X.env)
      standAt pos
      holding [v, ov, iv] (setItem ov iv v)
      release [v, ov, iv] []) := by intro _; rfl) : PG X (.Subscript o i pos) (gSub to ti t) := by
  intro pins s σ H v u Q I r h
  rw [ha]
  refine wpAny_bind (wpAny_holding (thn (ho pins s σ H _ I h) fun ov s1 ⟨x, H1, I1, r1, q1⟩ => ?_))
  refine wpAny_bind (wpAny_holding (thn (hi pins s1 σ H1 _ I1 q1) fun iv s2 ⟨y, H2, I2, r2, q2⟩ => ?_))
  refine wpAny_bind (wpAny_standAt (wpAny_bind (wpAny_holding (thn (hs pins s2 σ H2 x y v ov iv u _ I2 r1 r2 r q2) fun _ s3 ⟨H3, I3, q3⟩ => ?_))))
  exact wpAny_release ⟨σ, H3, I3, q3⟩
/-- target = value -/
def tAsg (te : TE) (g : TG) : TS := fun D σ H => te σ H fun x H1 => g x σ H1 D.nx
theorem ps_asg {tg e : Expr} {te : TE} {g : TG} (he : PE X e te) (hg : PG X tg g) (hs : swapsWithSole [tg] e pos.line X.env = pure false := by rfl) (hw : swappedStores [tg] e X.env = pure none := by rfl)
    (h1 : (assignEach [tg] X.env).map (·.2) = [assign tg X.env] := by rfl) : PS X (.Assign [tg] e pos) (tAsg te g) := by
  intro pins s σ H D I h
  refine wpAny_Assign_stores (thn (he pins s σ H _ I h) fun v s1 ⟨x, H1, I1, r1, q1⟩ => ?_) hs hw
  rw [h1]
  exact thn (hg pins s1 σ H1 x v _ I1 r1 q1) fun _ s2 q => q
/-- name = value -/
theorem ps_set {i : Nat} {x : Str} {e : Expr} {te : TE} {pos' : Pos} (hN : X.N.Nodup) (hi : X.N[i]? = some x) (hx : Loc X.env.scope x) (he : PE X e te) (hs : swapsWith e (some (.Name x pos')) pos.line X.env = pure false := by rfl) (hf : X.fn x = true ∨ X.env.scope.names.lookup x = some .local := by first | exact .inl rfl | exact .inr rfl | assumption) :
    PS X (.Assign [.Name x pos'] e pos) (tAsg te (gName i)) := by
  intro pins s σ H D I h
  refine wpAny_Assign_Name (thn (he pins s σ H _ I h) fun v s1 ⟨y, H1, I1, r1, q1⟩ => ?_) hs
  exact store_ok I1 hN hi hx r1 (fun s2 I2 => ⟨_, H1, I2, q1⟩) hf
/-- a, b = x, y with plain local names: stored from the right; the pair itself is not tracked (the opening rows as in PyProof/Rows/TupAssign.lean:23) -/
def tPar (i j : Nat) (ta : TA) : TS := fun D σ H => ta σ H fun vs H1 => ∃ v w, vs = [v, w] ∧ D.nx ((σ.set i (some v)).set j (some w)) H1
theorem ps_par {i j : Nat} {x y : Str} {a b : Expr} {ta : TA} {px py pt : Pos} {kt k2 pt2} (hc : X.calm = true) (hN : X.N.Nodup) (hi : X.N[i]? = some x) (hj : X.N[j]? = some y) (hij : i ≠ j)
    (hx : X.env.scope.names.lookup x = some .local) (hy : X.env.scope.names.lookup y = some .local) (ha : PA X [a, b] ta)
    (hw : swappedStores [.Tuple [.Name x px, .Name y py] kt pt] (.Tuple [a, b] k2 pt2) X.env = pure (some [x, y]))
    (hs : swapsWithSole [.Tuple [.Name x px, .Name y py] kt pt] (.Tuple [a, b] k2 pt2) pos.line X.env = pure false := by rfl) :
    PS X (.Assign [.Tuple [.Name x px, .Name y py] kt pt] (.Tuple [a, b] k2 pt2) pos) (tPar i j ta) := by
  intro pins s σ H D I h
  rw [exec_Assign_arm]
  refine wpAny_bind (wpAny_standAt ?_)
  rw [hs]
  refine wpAny_bind (wpAny_pure ?_)
  rw [if_neg (by decide)]
  refine wpAny_bind (Tuple_ (thn (ha _ pins s σ H _ I h) fun us s1 ⟨vs, H1, I1, r1, q1⟩ => ?_))
  obtain ⟨v, w, e1, q1⟩ := q1
  subst e1
  obtain ⟨u1, u2, rfl, rv, rw'⟩ : ∃ u1 u2, us = [u1, u2] ∧ RelV v u1 ∧ RelV w u2 := by
    cases r1 with
    | cons p q =>
      cases q with
      | cons p' q' =>
        cases q'
        exact ⟨_, _, rfl, p, p'⟩
  refine wpAny_newObj_type ?_ (by show 2 ≤ sizeLine; decide)
  have I2 : Inv X pins σ H1 { s1 with heap := s1.heap.push { cls := .type "tuple", data := .seq [u1, u2].toArray } } := I1.kept (t' := s1.toks) fun b o e => Heap.get?_push_of_some _ e
  rw [hw]
  refine wpAny_bind (wpAny_pure ?_)
  show wpAny (model X.prog X.w) X.A (do rule "assign.swapped-stores"; let items ← unpackItems (.ref s1.heap.objs.size) 2 none; assignInOrder [fun v => bindName X.env y v, fun v => bindName X.env x v] items.reverse; pure Flow.next) _ _ _
  refine wpAny_bind (wpAny_rule (wpAny_bind (unpackItems_tuple (items := #[u1, u2]) (I.ok.hd hc) (IsTup.new s1.heap _) fun h' hx' => ?_)))
  have I3 := I2.kept (h' := h') (t' := s1.toks) fun b o e => hx' b o (Nat.ne_of_lt (Heap.lt_size e)) e
  show wpAny _ _ (assignInOrder [fun v => bindName X.env y v, fun v => bindName X.env x v] [u2, u1] >>= fun _ => pure Flow.next) _ _ _
  refine wpAny_bind (assignInOrder_cons (wpAny_bindName (store_ok I3 hN hj (.inl hy) rw' (fun s2 I4 => ?_) (.inr hy))))
  refine assignInOrder_cons (wpAny_bindName (store_ok I4 hN hi (.inl hx) rv (fun s3 I5 => assignInOrder_nil (wpAny_pure ?_)) (.inr hx)))
  rw [List.set_comm _ _ (Ne.symm hij)] at I5
  exact ⟨_, H1, I5, q1⟩
/-- name op= e -/
def tAug (i : Nat) (te : TE) (ti : TIp) : TS := fun D σ H => ∃ x, σ[i]? = some (some x) ∧ te σ H fun y H1 => ti x y H1 fun z H2 => D.nx (σ.set i (some z)) H2
theorem ps_aug {i : Nat} {x : Str} {e : Expr} {te : TE} {op : Operator} {ti : TIp} {pos' : Pos} (hN : X.N.Nodup) (hi : X.N[i]? = some x) (hx : Loc X.env.scope x) (he : PE X e te) (ho : PIp X op ti) (hf : X.fn x = true ∨ X.env.scope.names.lookup x = some .local := by first | exact .inl rfl | exact .inr rfl | assumption) :
    PS X (.AugAssign (.Name x pos') op e pos) (tAug i te ti) := by
  intro pins s σ H D I h
  obtain ⟨v, e1, h⟩ := h
  obtain ⟨m, hn, hl⟩ := I.loc
  have vis : Vis X.env.scope x := by rcases hx with k | k; exact .inl k; exact .inr (.inl k)
  obtain ⟨u, r, l⟩ := hl i x v hi e1 vis
  refine wpAny_AugAssign_Name ?_
  have go : wpAny (model X.prog X.w) X.A (eval e X.env) (fun w s₂ => wpAny (model X.prog X.w) X.A (inplaceOp op u w) (fun r s₃ => wpAny (model X.prog X.w) X.A (storeName X.env x r) (fun _ => SP X pins D .next) X.xe s₃) X.xe s₂) X.xe s := by
    refine thn (he pins s σ H _ I h) fun w s1 ⟨y, H1, I1, r1, q1⟩ => ?_
    refine thn (ho pins s1 σ H1 v y u w _ I1 r r1 q1) fun z s2 ⟨zv, H2, I2, r2, q2⟩ => ?_
    exact store_ok I2 hN hi hx r2 (fun s3 I3 => ⟨_, H2, I3, q2⟩) hf
  rcases l with ⟨hk, hm⟩ | ⟨hk, c, hc, hcell⟩
  · exact wpAny_loadName_local I.ok.kind hk hn hm go
  · rcases hk with hk | hk
    · exact wpAny_loadName_cell I.ok.kind hk hc hcell go
    · rcases hx with k | k
      · have : X.env.scope.names.lookup x = some .free := hk
        rw [k] at this; cases this
      · have : X.env.scope.names.lookup x = some .free := hk
        rw [k] at this; cases this
/-- o[i] op= e -/
def tAugS (to ti te : TE) (tget : V → V → Hp → VK → Prop) (tip : TIp) (tset : TSet) : TS := fun D σ H => to σ H fun o H1 => ti σ H1 fun i H2 => tget o i H2 fun x H3 => te σ H3 fun y H4 => tip x y H4 fun z H5 => tset o i z H5 fun H6 => D.nx σ H6
/-- o[i], by values -/
def PGet (X : Cx) (t : V → V → Hp → VK → Prop) : Prop :=
  ∀ (pins : List (Addr × Obj)) (s : Shared) (σ : St) (H : Hp) (o i : V) (ov iv : Value) (Q : VK), Inv X pins σ H s → RelV o ov → RelV i iv → t o i H Q →
    wpAny (model X.prog X.w) X.A (getItem ov iv) (EP X pins σ Q) X.xe s
theorem ps_augS {o i e : Expr} {to ti te : TE} {tget : V → V → Hp → VK → Prop} {tip : TIp} {tset : TSet} {op : Operator} {tpos : Pos} (ho : PE X o to) (hi : PE X i ti) (hg : PGet X tget) (he : PE X e te) (hp : PIp X op tip) (hs : PSet X tset)
    (ha : ∀ ov iv new, augStore i ov iv new = (do holding [new, ov, iv] (setItem ov iv new); release [new, ov, iv] []; pure .next) := by intros; rfl) : PS X (.AugAssign (.Subscript o i tpos) op e pos) (tAugS to ti te tget tip tset) := by
  intro pins s σ H D I h
  refine wpAny_AugAssign_SubscriptAny (thn (ho pins s σ H _ I h) fun ov s1 ⟨x1, H1, I1, r1, q1⟩ => ?_) ha
  refine thn (hi pins s1 σ H1 _ I1 q1) fun iv s2 ⟨x2, H2, I2, r2, q2⟩ => ?_
  refine thn (hg pins s2 σ H2 x1 x2 ov iv _ I2 r1 r2 q2) fun old s3 ⟨x3, H3, I3, r3, q3⟩ => ?_
  refine thn (he pins s3 σ H3 _ I3 q3) fun v s4 ⟨x4, H4, I4, r4, q4⟩ => ?_
  refine thn (hp pins s4 σ H4 x3 x4 old v _ I4 r3 r4 q4) fun new s5 ⟨x5, H5, I5, r5, q5⟩ => ?_
  exact thn (hs pins s5 σ H5 x1 x2 x5 ov iv new _ I5 r1 r2 r5 q5) fun _ s6 ⟨H6, I6, q6⟩ => ⟨σ, H6, I6, q6⟩
/-- ints -/
def ipI (f : Int → Int → Int) : TIp := fun x y H Q => ∃ i j, x = .int i ∧ y = .int j ∧ Q (.int (f i j)) H
theorem ip_add : PIp X .Add (ipI fun i j => i + j) := by
  intro pins s σ H x y v u Q I r1 r2 h
  obtain ⟨i, j, e1, e2, q⟩ := h
  subst e1; subst e2
  obtain ⟨t, rfl⟩ := r1
  obtain ⟨t', rfl⟩ := r2
  exact iadd_int ⟨.int _, H, I.tok _, ⟨_, rfl⟩, q⟩
theorem ip_sub : PIp X .Sub (ipI fun i j => i - j) := by
  intro pins s σ H x y v u Q I r1 r2 h
  obtain ⟨i, j, e1, e2, q⟩ := h
  subst e1; subst e2
  obtain ⟨t, rfl⟩ := r1
  obtain ⟨t', rfl⟩ := r2
  exact isub_int ⟨.int _, H, I.tok _, ⟨_, rfl⟩, q⟩
end

/-! ### while -/
section
variable {X : Cx} {pos : Pos}
/-- the invariant W with its measure -/
def tWhile (c : TT) (tb : TS) : TS := fun D σ H => ∃ W : Nat → St → Hp → Prop, (∃ m, W m σ H) ∧ ∀ m σ H, W m σ H →
  c σ H fun b H1 => if b = true then ∃ N : St → Hp → Prop, (∀ σ' H', N σ' H' → ∃ m', m' < m ∧ W m' σ' H') ∧ tb { D with nx := N, ct := N, bk := D.nx } σ H1 else D.nx σ H1
theorem ps_while {c : Expr} {body : List Stmt} {tc : TT} {tb : TS} (hp : PassesOwn (model X.prog X.w) X.A X.env X.xe) (hc : PT X c tc) (hb : PSs X body tb) : PS X (.While c body [] pos) (tWhile tc tb) := by
  intro pins s σ H D I h
  obtain ⟨W, ⟨m0, w0⟩, turn⟩ := h
  refine wpAny_While (codeAny_whileLoop (fun n s' => ∃ σ' H', Inv X pins σ' H' s' ∧ W n σ' H') ?_ m0 ⟨σ, H, I, w0⟩)
  rintro n s1 ⟨σ1, H1, I1, w1⟩
  refine wpAny_passesOwn hp (thn (hc pins s1 σ1 H1 _ I1 (turn n σ1 H1 w1)) fun b s2 ⟨H2, I2, q2⟩ => ?_)
  cases b with
  | true =>
    obtain ⟨N, hN, q2⟩ := q2
    rw [if_pos rfl]
    refine wpAny_passesOwn hp (thn (hb pins s2 σ1 H2 _ I2 q2) fun f s3 q3 => ?_)
    cases f with
    | next =>
      obtain ⟨σ3, H3, I3, n3⟩ := q3
      obtain ⟨m', hm, w3⟩ := hN σ3 H3 n3
      exact ⟨m', hm, σ3, H3, I3, w3⟩
    | cont =>
      obtain ⟨σ3, H3, I3, n3⟩ := q3
      obtain ⟨m', hm, w3⟩ := hN σ3 H3 n3
      exact ⟨m', hm, σ3, H3, I3, w3⟩
    | brk => exact q3
    | ret v => exact q3
  | false =>
    rw [if_neg Bool.false_ne_true]
    exact wpAny_execs_nil ⟨σ1, H2, I2, q2⟩
end

/-! ### what a loop or a comprehension walks -/
/-- at turn i: it yields x (the heap may grow), or it stops -/
structure It where
  go : Nat → Hp → Prop
  yld : Nat → Hp → V → Hp → Prop
  stop : Nat → Hp → Prop
/-- the iterator's own objects may turn: they are not the frame's, not pinned, younger than the entry (or a comprehension's own) -/
def FpOk (X : Cx) (pins : List (Addr × Obj)) (H : Hp) (b : Addr) : Prop :=
  H b = none ∧ b ≠ X.env.locals ∧ b ∉ X.fs ∧ (b ∈ X.ex ∨ X.s₀.heap.objs.size ≤ b) ∧ (∀ x c, X.env.cells.lookup x = some c → c ≠ b) ∧ ∀ p ∈ X.pn ++ pins, p.1 ≠ b
theorem Inv.fpOk {X : Cx} {pins : List (Addr × Obj)} {σ : St} {H H' : Hp} {s : Shared} {b : Addr} (I : Inv X pins σ H s) (hb : s.heap.objs.size ≤ b) (hn : H' b = none) : FpOk X pins H' b := by
  refine ⟨hn, Nat.ne_of_gt (Nat.lt_of_lt_of_le I.lt hb), I.nofs hb, .inr (Nat.le_trans I.sz hb), fun x c e z => ?_, fun p hp z => ?_⟩
  · obtain ⟨v, q⟩ := I.cell x c e
    exact absurd (Nat.lt_of_lt_of_le q.lt (by rw [z]; exact hb)) (Nat.lt_irrefl _)
  · exact absurd (Nat.lt_of_lt_of_le (Heap.lt_size (I.pin p hp).1) (by rw [z]; exact hb)) (Nat.lt_irrefl _)
structure Turn (P : Program) (w : World) (K : PySem.W.Frag) (tg : Expr) (J : It) (fp : List Addr) (it : Addr) (tn : Nat → Heap → Prop) : Prop where
  mem : it ∈ fp
  obj : ∀ i h, tn i h → ∀ b ∈ fp, ∃ o, h.get? b = some o ∧ ∀ v, o.data ≠ .cell v
  keep : ∀ i h h', tn i h → (∀ b ∈ fp, ∀ o, h.get? b = some o → h'.get? b = some o) → tn i h'
  item : ∀ (X : Cx), X.prog = P → X.w = w → X.K = K → X.calm = true → ∀ (i : Nat) (pins : List (Addr × Obj)) (s : Shared) (σ : St) (H : Hp) (E : Value → Shared → Prop), Inv X pins σ H s → (∀ b ∈ fp, FpOk X pins H b) → tn i s.heap → J.go i H →
    wpAny (model P w) X.A (pyNext (.ref it)) (fun r s1 => ∃ u, r = some u ∧
      wpAny (model P w) X.A (letOwnedTupleGo tg (.ref it) u) (fun _ s2 => ∃ x H', Inv X pins σ H' s2 ∧ RelV x u ∧ J.yld i H x H' ∧ tn (i + 1) s2.heap ∧ ∀ b ∈ fp, H' b = none) E s1) E s
  done : ∀ (X : Cx), X.prog = P → X.w = w → X.K = K → X.calm = true → ∀ (i : Nat) (pins : List (Addr × Obj)) (s : Shared) (σ : St) (H : Hp) (E : Value → Shared → Prop), Inv X pins σ H s → (∀ b ∈ fp, FpOk X pins H b) → tn i s.heap → J.stop i H →
    wpAny (model P w) X.A (pyNext (.ref it)) (fun r s1 => r = none ∧ Inv X pins σ H s1) E s
  self : ∀ (A : Around) (i : Nat) (s : Shared) (Q : Value → Shared → Prop) (E : Value → Shared → Prop), tn i s.heap → Q (.ref it) s → wpAny (model P w) A (pyIter (.ref it)) Q E s
abbrev TI := St → Hp → (It → Hp → Prop) → Prop
/-- an iterator has come -/
def PIE (X : Cx) (pins : List (Addr × Obj)) (σ : St) (tg : Expr) (R : It → Hp → Prop) (itv : Value) (s2 : Shared) : Prop :=
  ∃ (it : Addr) (fp : List Addr) (tn : Nat → Heap → Prop) (J : It) (H' : Hp), itv = .ref it ∧ Inv X pins σ H' s2 ∧ Turn X.prog X.w X.K tg J fp it tn ∧ tn 0 s2.heap ∧ (∀ b ∈ fp, FpOk X pins H' b) ∧ R J H'
def PI (X : Cx) (tg iter : Expr) (wi : TI) : Prop :=
  ∀ (pins : List (Addr × Obj)) (s : Shared) (σ : St) (H : Hp) (R : It → Hp → Prop), Inv X pins σ H s → wi σ H R →
    wpAny (model X.prog X.w) X.A (eval iter X.env) (fun v s1 => wpAny (model X.prog X.w) X.A (pyIter v) (PIE X pins σ tg R) X.xe s1) X.xe s

/-- the step ahead of the store is nothing for an iterator that keeps no tuple -/
theorem go_of {M : Model} {A : Around} {E : Value → Shared → Prop} {s : Shared} {tg : Expr} {it : Addr} {u : Value} {o : Obj} {n : String} {vs : Array Value} {Q : Unit → Shared → Prop} (ho : s.heap.get? it = some o) (hc : o.cls = .type n) (hd : o.data = .fields vs)
    (hn : ["enumerate", "zip", "dict_itemiterator", "dict_reverseitemiterator", "odict_iterator", "itertools.zip_longest", "itertools.pairwise"].contains n = false) (hQ : Q () s) : wpAny M A (letOwnedTupleGo tg (.ref it) u) Q E s := by
  unfold letOwnedTupleGo
  cases tg <;> first
    | exact wpAny_pure hQ
    | (cases u <;> first
        | exact wpAny_pure hQ
        | (refine wpAny_bind (wpAny_load ho ?_)
           rw [hc, hd]
           show wpAny M A (if (["enumerate", "zip", "dict_itemiterator", "dict_reverseitemiterator", "odict_iterator", "itertools.zip_longest", "itertools.pairwise"].contains n && vs[0]? == some (rawInt _)) = true then _ else _) Q E s
           rw [if_neg (by intro h; rw [hn, Bool.false_and] at h; cases h)]
           exact wpAny_pure hQ))

/-- the list at a, as it stands at each turn (a loop may append to it) -/
def Itl (K : PySem.W.Frag) (a : Addr) : It :=
  ⟨fun i H => ∃ xs x, SqL K H a xs ∧ xs[i]? = some x, fun i H x H' => H' = H ∧ ∀ xs, SqL K H a xs → xs[i]? = some x, fun i H => ∃ xs, SqL K H a xs ∧ xs.length ≤ i⟩
def Itt (K : PySem.W.Frag) (a : Addr) : It :=
  ⟨fun i H => ∃ xs x, SqT K H a xs ∧ xs[i]? = some x, fun i H x H' => H' = H ∧ ∀ xs, SqT K H a xs → xs[i]? = some x, fun i H => ∃ xs, SqT K H a xs ∧ xs.length ≤ i⟩
/-- lo, lo + 1, .. (n of them) -/
def Itr (lo : Int) (n : Nat) : It := ⟨fun i _ => i < n, fun i H x H' => H' = H ∧ x = .int (lo + i), fun i _ => n ≤ i⟩
theorem turn_list {P : Program} {w : World} {K : PySem.W.Frag} {tg : Expr} (a it : Addr) : Turn P w K tg (Itl K a) [it] it (fun i h => h.IsListIter it a i) where
  mem := by simp
  obj := fun i h st b hb => by
    have e : b = it := by simpa using hb
    subst e
    obtain ⟨o, e, c, d⟩ := st
    exact ⟨o, e, fun v z => by rw [d] at z; cases z⟩
  keep := fun i h h' st k => st.at fun o e => k it (by simp) o e
  item := by
    intro X hP hw hK hc i pins s σ H E I hf st hg
    subst hP hw hK
    obtain ⟨xs, x, hq, hx⟩ := hg
    obtain ⟨its, rv, p, hz⟩ := I.list hq
    obtain ⟨u, hu, ru⟩ := rv.get hx
    obtain ⟨f0, f1, f2, f3, f4, f5⟩ := hf it (by simp)
    refine wpAny_pyNext_list_item st p.isList (x := u) (by simpa using hu) fun h' st' sb => ?_
    have I1 : Inv X pins σ H { s with heap := h' } := I.turned (t' := s.toks) (fun b o hb e => (sb.2 b hb).trans e) f0 f1 f3 f4 f5
    obtain ⟨o, e, c, d⟩ := id st'
    exact ⟨u, rfl, go_of (s := { s with heap := h' }) e c d (by decide) ⟨x, H, I1, ru, ⟨rfl, fun ys hy => by rw [I.list_inj hy hq]; exact hx⟩, st', fun b hb => (hf b hb).1⟩⟩
  done := by
    intro X hP hw hK hc i pins s σ H E I hf st hg
    subst hP hw hK
    obtain ⟨xs, hq, hx⟩ := hg
    obtain ⟨its, rv, p, hz⟩ := I.list hq
    obtain ⟨f0, f1, f2, f3, f4, f5⟩ := hf it (by simp)
    have hl := rv.length
    exact wpAny_pyNext_list_end (I.ok.hd hc) st p.isList (by simp; omega) fun h' eb => ⟨rfl, I.turned (t' := s.toks) (fun b o hb e => eb b o hb e) f0 f1 f3 f4 f5⟩
  self := fun _ _ _ _ _ st h => wpAny_pyIter_listiter st h
theorem turn_tuple {P : Program} {w : World} {K : PySem.W.Frag} {tg : Expr} (a it : Addr) : Turn P w K tg (Itt K a) [it] it (fun i h => h.IsTupleIter it a i) where
  mem := by simp
  obj := fun i h st b hb => by
    have e : b = it := by simpa using hb
    subst e
    obtain ⟨o, e, c, d⟩ := st
    exact ⟨o, e, fun v z => by rw [d] at z; cases z⟩
  keep := fun i h h' st k => st.at fun o e => k it (by simp) o e
  item := by
    intro X hP hw hK hc i pins s σ H E I hf st hg
    subst hP hw hK
    obtain ⟨xs, x, hq, hx⟩ := hg
    obtain ⟨its, rv, p, hz⟩ := I.tuple hq
    obtain ⟨u, hu, ru⟩ := rv.get hx
    obtain ⟨f0, f1, f2, f3, f4, f5⟩ := hf it (by simp)
    refine wpAny_pyNext_tuple_item st (show s.heap.IsTuple a its.toArray from p) (x := u) (by simpa using hu) fun h' st' sb => ?_
    have I1 : Inv X pins σ H { s with heap := h' } := I.turned (t' := s.toks) (fun b o hb e => (sb.2 b hb).trans e) f0 f1 f3 f4 f5
    obtain ⟨o, e, c, d⟩ := id st'
    exact ⟨u, rfl, go_of (s := { s with heap := h' }) e c d (by decide) ⟨x, H, I1, ru, ⟨rfl, fun ys hy => by rw [I.tuple_inj hy hq]; exact hx⟩, st', fun b hb => (hf b hb).1⟩⟩
  done := by
    intro X hP hw hK hc i pins s σ H E I hf st hg
    subst hP hw hK
    obtain ⟨xs, hq, hx⟩ := hg
    obtain ⟨its, rv, p, hz⟩ := I.tuple hq
    obtain ⟨f0, f1, f2, f3, f4, f5⟩ := hf it (by simp)
    have hl := rv.length
    exact wpAny_pyNext_tuple_end (I.ok.hd hc) st (show s.heap.IsTuple a its.toArray from p) (by simp; omega) fun h' eb => ⟨rfl, I.turned (t' := s.toks) (fun b o hb e => eb b o hb e) f0 f1 f3 f4 f5⟩
  self := fun _ _ _ _ _ st h => wpAny_pyIter_tupleiter st h
theorem turn_range {P : Program} {w : World} {K : PySem.W.Frag} {tg : Expr} (it : Addr) (lo : Int) (n : Nat) : Turn P w K tg (Itr lo n) [it] it (fun i h => IsRangeIter h it (lo + (i : Nat) * 1) ((n : Int) - (i : Nat)) 1) where
  mem := by simp
  obj := fun i h st b hb => by
    have e : b = it := by simpa using hb
    subst e
    exact ⟨_, st, fun v z => by
      have z' : Data.fields _ = Data.cell v := z
      cases z'⟩
  keep := fun i h h' st k => k it (by simp) _ st
  item := by
    intro X hP hw hK hc i pins s σ H E I hf st hg
    subst hP hw hK
    obtain ⟨f0, f1, f2, f3, f4, f5⟩ := hf it (by simp)
    have W := Walks.range (prog := X.prog) (w := X.w) (I.ok.hd hc) it lo 1 n
    refine W.item i s _ _ hg st fun v h' tk hv st' kk => ?_
    obtain ⟨t, rfl⟩ := hv
    have I1 : Inv X pins σ H { s with heap := h', toks := tk } := I.turned (fun b o hb e => kk b o (by simpa using hb) e) f0 f1 f3 f4 f5
    refine ⟨_, rfl, go_of (s := { s with heap := h', toks := tk }) (n := "range_iterator") st' rfl rfl (by decide) ⟨.int (lo + i), H, I1, ⟨t, ?_⟩, ⟨rfl, rfl⟩, st', fun b hb => (hf b hb).1⟩⟩
    rw [Int.mul_one]
  done := by
    intro X hP hw hK hc i pins s σ H E I hf st hg
    subst hP hw hK
    obtain ⟨f0, f1, f2, f3, f4, f5⟩ := hf it (by simp)
    exact wpAny_pyNext_range_end (I.ok.hd hc) st (by have : n ≤ i := hg; omega) fun h' eb => ⟨rfl, I.turned (t' := s.toks) (fun b o hb e => eb b o hb e) f0 f1 f3 f4 f5⟩
  self := fun _ _ _ _ _ st h => wpAny_pyIter_rangeiter st h
end L2

namespace L2
open PySem PySem.Spec PyProof.Rows
section
variable {X : Cx} {tg : Expr}
def iList (K : PySem.W.Frag) (tl : TE) : TI := fun σ H R => tl σ H fun x H1 => ∃ a, x = .ref a ∧ (∃ xs, SqL K H1 a xs) ∧ R (Itl K a) H1
def iTup (K : PySem.W.Frag) (tl : TE) : TI := fun σ H R => tl σ H fun x H1 => ∃ a, x = .ref a ∧ (∃ xs, SqT K H1 a xs) ∧ R (Itt K a) H1
theorem pi_list {l : Expr} {tl : TE} (hl : PE X l tl) : PI X tg l (iList X.K tl) := by
  intro pins s σ H R I h
  refine thn (hl pins s σ H _ I h) fun v s1 ⟨x, H1, I1, r1, q1⟩ => ?_
  obtain ⟨a, e, ⟨xs, hq⟩, q⟩ := q1
  subst e
  cases r1
  obtain ⟨its, rv, p, hz⟩ := I1.list hq
  refine wpAny_pyIter_list p.isList ?_
  refine ⟨s1.heap.objs.size, [s1.heap.objs.size], _, _, H1, rfl, I1.kept (t' := s1.toks) fun b o e => Heap.get?_push_of_some _ e, turn_list a _, ⟨_, Heap.get?_push_size _ rfl, rfl, rfl⟩, fun b hb => ?_, q⟩
  have e : b = s1.heap.objs.size := by simpa using hb
  subst e
  exact I1.fpOk (Nat.le_refl _) (I1.hok.fresh (Nat.le_refl _))
theorem pi_tup {l : Expr} {tl : TE} (hl : PE X l tl) : PI X tg l (iTup X.K tl) := by
  intro pins s σ H R I h
  refine thn (hl pins s σ H _ I h) fun v s1 ⟨x, H1, I1, r1, q1⟩ => ?_
  obtain ⟨a, e, ⟨xs, hq⟩, q⟩ := q1
  subst e
  cases r1
  obtain ⟨its, rv, p, hz⟩ := I1.tuple hq
  refine wpAny_pyIter_tuple (show s1.heap.IsTuple a its.toArray from p) ?_
  refine ⟨s1.heap.objs.size, [s1.heap.objs.size], _, _, H1, rfl, I1.kept (t' := s1.toks) fun b o e => Heap.get?_push_of_some _ e, turn_tuple a _, ⟨_, Heap.get?_push_size _ rfl, rfl, rfl⟩, fun b hb => ?_, q⟩
  have e : b = s1.heap.objs.size := by simpa using hb
  subst e
  exact I1.fpOk (Nat.le_refl _) (I1.hok.fresh (Nat.le_refl _))
/-- a range object just made, walked -/
theorem range_it {pins : List (Addr × Obj)} {σ : St} {H : Hp} {s : Shared} {R : It → Hp → Prop} {E : Value → Shared → Prop} {lo hi : Int} {t u v : Tok} {tk : Nat} (I : Inv X pins σ H s) (h1 : -(2 ^ 62) ≤ lo) (h2 : lo < 2 ^ 62) (h3 : -(2 ^ 62) ≤ hi) (h4 : hi < 2 ^ 62)
    (q : R (Itr lo (hi - lo).toNat) H) : wpAny (model X.prog X.w) X.A (pyIter (.ref s.heap.objs.size)) (PIE X pins σ tg R) E { s with heap := s.heap.push { cls := .type "range", data := .fields #[.int lo t, .int hi u, .int 1 v] }, toks := tk } := by
  refine wpAny_pyIter_range (IsRange.new ..) (small_one h1 h2 h3 h4) ?_
  have I1 : Inv X pins σ H { s with heap := s.heap.push { cls := .type "range", data := .fields #[.int lo t, .int hi u, .int 1 v] }, toks := tk } := I.kept fun b o e => Heap.get?_push_of_some _ e
  refine ⟨(s.heap.push { cls := .type "range", data := .fields #[.int lo t, .int hi u, .int 1 v] }).objs.size, [(s.heap.push { cls := .type "range", data := .fields #[.int lo t, .int hi u, .int 1 v] }).objs.size], _, _, H, rfl,
    I1.kept (t' := tk) fun b o e => Heap.get?_push_of_some _ e, turn_range _ lo (hi - lo).toNat, ?_, fun b hb => ?_, q⟩
  · have e1 : lo + ((0 : Nat) : Int) * 1 = lo := by simp
    have e2 : (((hi - lo).toNat : Nat) : Int) - ((0 : Nat) : Int) = Builtin.Range.rangeSize lo hi 1 := by rw [rangeSize_one]; split <;> omega
    show IsRangeIter _ _ (lo + ((0 : Nat) : Int) * 1) ((((hi - lo).toNat : Nat) : Int) - ((0 : Nat) : Int)) 1
    rw [e1, e2]
    exact Heap.get?_push_size _ rfl
  · have e : b = (s.heap.push { cls := .type "range", data := .fields #[.int lo t, .int hi u, .int 1 v] }).objs.size := by simpa using hb
    subst e
    exact I1.fpOk (Nat.le_refl _) (I1.hok.fresh (Nat.le_refl _))
def iRng1 (ta : TA) : TI := fun σ H R => ta σ H fun vs H1 => ∃ j : Int, vs = [.int j] ∧ -(2 ^ 62) ≤ j ∧ j < 2 ^ 62 ∧ R (Itr 0 j.toNat) H1
def iRng2 (ta : TA) : TI := fun σ H R => ta σ H fun vs H1 => ∃ i j : Int, vs = [.int i, .int j] ∧ (-(2 ^ 62) ≤ i ∧ i < 2 ^ 62 ∧ -(2 ^ 62) ≤ j ∧ j < 2 ^ 62) ∧ R (Itr i (j - i).toNat) H1
theorem pi_range1 {a : Expr} {ta : TA} {p pos : Pos} (hg : Gl X "range") (hm : X.mg "range" = none) (ha : PA X [a] ta) (hs : starEach [a] X.env = [(false, eval a X.env)] := by rfl) : PI X tg (.Call (.Name "range" p) [a] [] pos) (iRng1 ta) := by
  intro pins s σ H R I h
  refine Call_ (ld_blt I hg hm boot_range (PyProof.Rows.callWith_type1 (thn (ha pos pins s σ H _ I h) fun us s1 ⟨vs, H1, I1, r1, q1⟩ => ?_) hs rfl))
  obtain ⟨j, e, q1, q2, q⟩ := q1
  subst e
  cases r1 with
  | cons r rr =>
    cases rr
    obtain ⟨t, rfl⟩ := r
    exact call_range_1 (range_it I1 (by omega) (by omega) q1 q2 (by simpa using q))
theorem pi_range2 {a b : Expr} {ta : TA} {p pos : Pos} (hg : Gl X "range") (hm : X.mg "range" = none) (ha : PA X [a, b] ta) (hs : starEach [a, b] X.env = [(false, eval a X.env), (false, eval b X.env)] := by rfl) (hs2 : starEach [b] X.env = [(false, eval b X.env)] := by rfl) :
    PI X tg (.Call (.Name "range" p) [a, b] [] pos) (iRng2 ta) := by
  intro pins s σ H R I h
  refine Call_ (ld_blt I hg hm boot_range (PyProof.Rows.callWith_type1 (thn (ha pos pins s σ H _ I h) fun us s1 ⟨vs, H1, I1, r1, q1⟩ => ?_) (by rw [hs, hs2]) (by rw [hs2]; rfl)))
  obtain ⟨i, j, e, ⟨q1, q2, q3, q4⟩, q⟩ := q1
  subst e
  cases r1 with
  | cons r rr =>
    cases rr with
    | cons r' rr =>
      cases rr
      obtain ⟨t, rfl⟩ := r
      obtain ⟨t', rfl⟩ := r'
      exact call_range_2 (range_it I1 q1 q2 q3 q4 q)

/-! ### for -/
/-- W: the invariant by the turn and a measure; N: what the body is to reach -/
def tFor (wi : TI) (g : TG) (tb : TS) : TS := fun D σ H => wi σ H fun J H1 => ∃ W : Nat → Nat → St → Hp → Prop, (∃ m, W 0 m σ H1) ∧ ∀ i m σ H, W i m σ H →
  (J.stop i H ∧ D.nx σ H) ∨ (J.go i H ∧ ∃ N : St → Hp → Prop, (∀ σ' H', N σ' H' → ∃ m', m' < m ∧ W (i + 1) m' σ' H') ∧ ∀ x H', J.yld i H x H' → g x σ H' fun σ2 H2 => tb { D with nx := N, ct := N, bk := D.nx } σ2 H2)
/-- the records at fp as they stand -/
def pinsAt (fp : List Addr) (h : Heap) : List (Addr × Obj) := fp.filterMap fun b => (h.get? b).map fun o => (b, o)
theorem mem_pinsAt {fp : List Addr} {h : Heap} {b : Addr} {o : Obj} (hb : b ∈ fp) (e : h.get? b = some o) : (b, o) ∈ pinsAt fp h := List.mem_filterMap.mpr ⟨b, hb, by rw [e]; rfl⟩
theorem of_pinsAt {fp : List Addr} {h : Heap} {p : Addr × Obj} (hp : p ∈ pinsAt fp h) : p.1 ∈ fp ∧ h.get? p.1 = some p.2 := by
  obtain ⟨b, hb, e⟩ := List.mem_filterMap.mp hp
  cases q : h.get? b with
  | none => rw [q] at e; cases e
  | some o =>
    rw [q] at e
    have e' : (b, o) = p := Option.some.inj e
    subst e'
    exact ⟨hb, q⟩
theorem Inv.pinned {pins : List (Addr × Obj)} {σ : St} {H : Hp} {s : Shared} {fp : List Addr} (I : Inv X pins σ H s) (hf : ∀ b ∈ fp, FpOk X pins H b) (ho : ∀ b ∈ fp, ∃ o, s.heap.get? b = some o ∧ ∀ v, o.data ≠ .cell v) : Inv X (pins ++ pinsAt fp s.heap) σ H s :=
  I.pins_of fun p hp => (List.mem_append.mp hp).elim (fun z => I.pin p (List.mem_append_right _ z)) fun z => by
    obtain ⟨hb, e⟩ := of_pinsAt z
    obtain ⟨f0, f1, f2, _⟩ := hf p.1 hb
    obtain ⟨o, e', d⟩ := ho p.1 hb
    rw [e] at e'; cases e'
    exact ⟨e, f0, f1, f2, d⟩
theorem Inv.unpinned {pins pl : List (Addr × Obj)} {σ : St} {H : Hp} {s : Shared} (I : Inv X (pins ++ pl) σ H s) : Inv X pins σ H s := I.pins_of fun p hp => I.pin p (List.mem_append_right _ (List.mem_append_left _ hp))
theorem ps_for {iter : Expr} {body : List Stmt} {wi : TI} {g : TG} {tb : TS} {pos : Pos} (hp : PassesOwn (model X.prog X.w) X.A X.env X.xe) (hc : X.calm = true) (hi : PI X tg iter wi) (hg : PG X tg g) (hb : PSs X body tb)
    (hs : ∀ x, foldedSetIterable iter X.env x = pure x := by intro _; rfl) : PS X (.For tg iter body [] pos) (tFor wi g tb) := by
  intro pins s σ H D I h
  refine wpAny_For (thn (hi pins s σ H _ I h) fun v s1 h1 => thn h1 fun itv s2 h2 => ?_) hs
  obtain ⟨it, fp, tn, J, H2, e, I2, T, st2, f2, W, ⟨m0, w0⟩, turn⟩ := h2
  subst e
  -- what stays true of the iterator's objects through the loop
  have stat : ∀ {H' : Hp}, (∀ b ∈ fp, H' b = none) → ∀ b ∈ fp, FpOk X pins H' b := fun hn b hb => ⟨hn b hb, (f2 b hb).2⟩
  refine codeAny_forLoop_any (fun n s' => ∃ i σ' H', Inv X pins σ' H' s' ∧ tn i s'.heap ∧ (∀ b ∈ fp, H' b = none) ∧ W i n σ' H') ?_ m0 ⟨0, σ, H2, I2, st2, fun b hb => (f2 b hb).1, w0⟩
  rintro n s3 ⟨i, σ3, H3, I3, st3, fr3, w3⟩
  rcases turn i n σ3 H3 w3 with ⟨stop, qn⟩ | ⟨go, N, hN, step⟩
  · refine wpAny_passesOwn hp (thn (T.done X rfl rfl rfl hc i pins s3 σ3 H3 X.xe I3 (stat fr3) st3 stop) fun r s4 ⟨hr, I4⟩ => ?_)
    subst hr
    exact wpAny_execs_nil ⟨σ3, H3, I4, qn⟩
  · refine wpAny_passesOwn hp (thn (T.item X rfl rfl rfl hc i pins s3 σ3 H3 X.xe I3 (stat fr3) st3 go) fun r s4 ⟨u, hr, h4⟩ => ?_)
    subst hr
    refine wpAny_passesOwn hp (thn h4 fun _ s5 ⟨x, H5, I5, r5, y5, st5, fr5⟩ => ?_)
    have I5' := I5.pinned (stat fr5) (T.obj _ _ st5)
    refine wpAny_passesOwn hp (thn (hg _ s5 σ3 H5 x u _ I5' r5 (step x H5 y5)) fun _ s6 ⟨σ6, H6, I6, q6⟩ => ?_)
    refine wpAny_passesOwn hp (thn (hb _ s6 σ6 H6 _ I6 q6) fun f s7 q7 => ?_)
    have again : ∀ {σ7 : St} {H7 : Hp}, Inv X (pins ++ pinsAt fp s5.heap) σ7 H7 s7 → N σ7 H7 → ∃ m, m < n ∧ ∃ i σ' H', Inv X pins σ' H' s7 ∧ tn i s7.heap ∧ (∀ b ∈ fp, H' b = none) ∧ W i m σ' H' := fun {σ7 H7} I7 n7 => by
      obtain ⟨m', hm, w7⟩ := hN σ7 H7 n7
      refine ⟨m', hm, i + 1, σ7, H7, I7.unpinned, T.keep _ _ _ st5 fun b hb o e => (I7.pin (b, o) (List.mem_append_right _ (List.mem_append_right _ (mem_pinsAt hb e)))).1, fun b hb => ?_, w7⟩
      obtain ⟨o, e, d⟩ := T.obj _ _ st5 b hb
      exact (I7.pin (b, o) (List.mem_append_right _ (List.mem_append_right _ (mem_pinsAt hb e)))).2.1
    cases f with
    | next => obtain ⟨σ7, H7, I7, n7⟩ := q7; exact again I7 n7
    | cont => obtain ⟨σ7, H7, I7, n7⟩ := q7; exact again I7 n7
    | brk => obtain ⟨σ7, H7, I7, q7⟩ := q7; exact ⟨σ7, H7, I7.unpinned, q7⟩
    | ret v => obtain ⟨x7, σ7, H7, I7, r7, q7⟩ := q7; exact ⟨x7, σ7, H7, I7.unpinned, r7, q7⟩
end

/-! ### the forms one uses -/
/-- over a list that the body leaves as it is -/
theorem for_list {K : PySem.W.Frag} {a : Addr} {xs : List V} {g : TG} {tb : TS} {D : Ends} {σ : St} {H : Hp} (Pv : Nat → St → Hp → Prop) (h0 : Pv 0 σ H) (hl : ∀ i σ H, i ≤ xs.length → Pv i σ H → SqL K H a xs)
    (hs : ∀ i x σ H, xs[i]? = some x → Pv i σ H → g x σ H fun σ2 H2 => tb { D with nx := Pv (i + 1), ct := Pv (i + 1), bk := D.nx } σ2 H2) (hd : ∀ σ H, Pv xs.length σ H → D.nx σ H) :
    ∃ W : Nat → Nat → St → Hp → Prop, (∃ m, W 0 m σ H) ∧ ∀ i m σ H, W i m σ H →
      ((Itl K a).stop i H ∧ D.nx σ H) ∨ ((Itl K a).go i H ∧ ∃ N : St → Hp → Prop, (∀ σ' H', N σ' H' → ∃ m', m' < m ∧ W (i + 1) m' σ' H') ∧ ∀ x H', (Itl K a).yld i H x H' → g x σ H' fun σ2 H2 => tb { D with nx := N, ct := N, bk := D.nx } σ2 H2) := by
  refine ⟨fun i m σ H => m = xs.length - i ∧ i ≤ xs.length ∧ Pv i σ H, ⟨xs.length, by simp, Nat.zero_le _, h0⟩, ?_⟩
  rintro i m σ H ⟨rfl, hi, p⟩
  have q := hl i σ H hi p
  by_cases hlt : i < xs.length
  · refine .inr ⟨⟨xs, xs[i], q, by simp [hlt]⟩, Pv (i + 1), fun σ' H' p' => ⟨xs.length - (i + 1), by omega, rfl, hlt, p'⟩, fun x H' y => ?_⟩
    obtain ⟨e, y⟩ := y
    subst e
    exact hs i x σ _ (y xs q) p
  · have e : i = xs.length := by omega
    subst e
    exact .inl ⟨⟨xs, q, Nat.le_refl _⟩, hd σ H p⟩
theorem for_tup {K : PySem.W.Frag} {a : Addr} {xs : List V} {g : TG} {tb : TS} {D : Ends} {σ : St} {H : Hp} (Pv : Nat → St → Hp → Prop) (h0 : Pv 0 σ H) (hl : ∀ i σ H, i ≤ xs.length → Pv i σ H → SqT K H a xs)
    (hs : ∀ i x σ H, xs[i]? = some x → Pv i σ H → g x σ H fun σ2 H2 => tb { D with nx := Pv (i + 1), ct := Pv (i + 1), bk := D.nx } σ2 H2) (hd : ∀ σ H, Pv xs.length σ H → D.nx σ H) :
    ∃ W : Nat → Nat → St → Hp → Prop, (∃ m, W 0 m σ H) ∧ ∀ i m σ H, W i m σ H →
      ((Itt K a).stop i H ∧ D.nx σ H) ∨ ((Itt K a).go i H ∧ ∃ N : St → Hp → Prop, (∀ σ' H', N σ' H' → ∃ m', m' < m ∧ W (i + 1) m' σ' H') ∧ ∀ x H', (Itt K a).yld i H x H' → g x σ H' fun σ2 H2 => tb { D with nx := N, ct := N, bk := D.nx } σ2 H2) := by
  refine ⟨fun i m σ H => m = xs.length - i ∧ i ≤ xs.length ∧ Pv i σ H, ⟨xs.length, by simp, Nat.zero_le _, h0⟩, ?_⟩
  rintro i m σ H ⟨rfl, hi, p⟩
  have q := hl i σ H hi p
  by_cases hlt : i < xs.length
  · refine .inr ⟨⟨xs, xs[i], q, by simp [hlt]⟩, Pv (i + 1), fun σ' H' p' => ⟨xs.length - (i + 1), by omega, rfl, hlt, p'⟩, fun x H' y => ?_⟩
    obtain ⟨e, y⟩ := y
    subst e
    exact hs i x σ _ (y xs q) p
  · have e : i = xs.length := by omega
    subst e
    exact .inl ⟨⟨xs, q, Nat.le_refl _⟩, hd σ H p⟩
theorem for_range {lo : Int} {n : Nat} {g : TG} {tb : TS} {D : Ends} {σ : St} {H : Hp} (Pv : Nat → St → Hp → Prop) (h0 : Pv 0 σ H)
    (hs : ∀ i σ H, i < n → Pv i σ H → g (.int (lo + i)) σ H fun σ2 H2 => tb { D with nx := Pv (i + 1), ct := Pv (i + 1), bk := D.nx } σ2 H2) (hd : ∀ σ H, Pv n σ H → D.nx σ H) :
    ∃ W : Nat → Nat → St → Hp → Prop, (∃ m, W 0 m σ H) ∧ ∀ i m σ H, W i m σ H →
      ((Itr lo n).stop i H ∧ D.nx σ H) ∨ ((Itr lo n).go i H ∧ ∃ N : St → Hp → Prop, (∀ σ' H', N σ' H' → ∃ m', m' < m ∧ W (i + 1) m' σ' H') ∧ ∀ x H', (Itr lo n).yld i H x H' → g x σ H' fun σ2 H2 => tb { D with nx := N, ct := N, bk := D.nx } σ2 H2) := by
  refine ⟨fun i m σ H => m = n - i ∧ i ≤ n ∧ Pv i σ H, ⟨n, by simp, Nat.zero_le _, h0⟩, ?_⟩
  rintro i m σ H ⟨rfl, hi, p⟩
  by_cases hlt : i < n
  · refine .inr ⟨hlt, Pv (i + 1), fun σ' H' p' => ⟨n - (i + 1), by omega, rfl, hlt, p'⟩, fun x H' y => ?_⟩
    obtain ⟨e, y⟩ := y
    subst e y
    exact hs i σ _ hlt p
  · have e : i = n := by omega
    subst e
    exact .inl ⟨Nat.le_refl _, hd σ H p⟩
/-- while, by a word and a measure of the state -/
theorem while_by {c : TT} {tb : TS} {D : Ends} {σ : St} {H : Hp} (Pv : St → Hp → Prop) (μ : St → Hp → Nat) (h0 : Pv σ H)
    (hs : ∀ σ H, Pv σ H → c σ H fun b H1 => if b = true then tb { D with nx := fun σ' H' => Pv σ' H' ∧ μ σ' H' < μ σ H, ct := fun σ' H' => Pv σ' H' ∧ μ σ' H' < μ σ H, bk := D.nx } σ H1 else D.nx σ H1)
    (mono : ∀ σ H Q Q', (∀ b H1, Q b H1 → Q' b H1) → c σ H Q → c σ H Q') : tWhile c tb D σ H := by
  refine ⟨fun m σ H => m = μ σ H ∧ Pv σ H, ⟨_, rfl, h0⟩, ?_⟩
  rintro m σ H ⟨rfl, p⟩
  refine mono σ H _ _ (fun b H1 q => ?_) (hs σ H p)
  cases b with
  | true => exact ⟨_, fun σ' H' ⟨p', l⟩ => ⟨_, l, rfl, p'⟩, q⟩
  | false => exact q
end L2

namespace L2
open PySem PySem.Spec PyProof.Rows

abbrev R2 := V → V → Hp → VK → Prop
/-- a two-place operation on values: f is binaryOp op, inplaceOp op or compareOp op -/
def OpR (X : Cx) (f : Value → Value → Sem Value) (r : R2) : Prop :=
  ∀ (pins : List (Addr × Obj)) (s : Shared) (σ : St) (H : Hp) (x y : V) (v u : Value) (Q : VK), Inv X pins σ H s → RelV x v → RelV y u → r x y H Q →
    wpAny (model X.prog X.w) X.A (f v u) (EP X pins σ Q) X.xe s
/-- a one-place operation -/
def UnR (X : Cx) (f : Value → Sem Value) (r : V → Hp → VK → Prop) : Prop :=
  ∀ (pins : List (Addr × Obj)) (s : Shared) (σ : St) (H : Hp) (x : V) (v : Value) (Q : VK), Inv X pins σ H s → RelV x v → r x H Q →
    wpAny (model X.prog X.w) X.A (f v) (EP X pins σ Q) X.xe s
/-- a call of a value that is known (a builtin, a type) with values -/
def CallR (X : Cx) (f : Value) (r : List V → Hp → VK → Prop) : Prop :=
  ∀ (pins : List (Addr × Obj)) (s : Shared) (σ : St) (H : Hp) (xs : List V) (us : List Value) (Q : VK), Inv X pins σ H s → Vals xs us → r xs H Q →
    wpAny (model X.prog X.w) X.A (call f us) (EP X pins σ Q) X.xe s
/-- a value's truth -/
def TruR (X : Cx) (r : V → Hp → (Bool → Hp → Prop) → Prop) : Prop :=
  ∀ (pins : List (Addr × Obj)) (s : Shared) (σ : St) (H : Hp) (x : V) (v : Value) (Q : Bool → Hp → Prop), Inv X pins σ H s → RelV x v → r x H Q →
    wpAny (model X.prog X.w) X.A (truthy v) (TP X pins σ Q) X.xe s

def tOp (r : R2) (ta tb : TE) : TE := fun σ H Q => ta σ H fun x H1 => tb σ H1 fun y H2 => r x y H2 Q
def tUn (r : V → Hp → VK → Prop) (ta : TE) : TE := fun σ H Q => ta σ H fun x H1 => r x H1 Q
/-- ints in, under C, and a value out -/
def rI (C : Int → Int → Prop) (g : Int → Int → V) : R2 := fun x y H Q => ∃ i j, x = .int i ∧ y = .int j ∧ C i j ∧ Q (g i j) H
def rI0 (g : Int → Int → V) : R2 := fun x y H Q => ∃ i j, x = .int i ∧ y = .int j ∧ Q (g i j) H
def rU (g : Int → V) : V → Hp → VK → Prop := fun x H Q => ∃ i, x = .int i ∧ Q (g i) H

section
variable {X : Cx} {a b c : Expr} {ta tb tc : TE} {pos : Pos}

theorem binT (ha : PE X a ta) (hb : PE X b tb) {pins : List (Addr × Obj)} {s : Shared} {σ : St} {H : Hp} {R : V → V → Hp → Prop} (I : Inv X pins σ H s)
    (h : ta σ H fun x H1 => tb σ H1 fun y H2 => R x y H2) {Q : Value → Shared → Prop} {f : Value → Value → Sem Value}
    (hf : ∀ v u s2 x y H2, Inv X pins σ H2 s2 → RelV x v → RelV y u → R x y H2 → wpAny (model X.prog X.w) X.A (f v u) Q X.xe s2) :
    wpAny (model X.prog X.w) X.A (eval a X.env) (fun v s₁ => wpAny (model X.prog X.w) X.A (eval b X.env) (fun u s₂ => wpAny (model X.prog X.w) X.A (f v u) Q X.xe s₂) X.xe s₁) X.xe s := by
  refine thn (ha pins s σ H _ I h) fun v s1 ⟨x, H1, I1, r1, q1⟩ => ?_
  refine thn (hb pins s1 σ H1 _ I1 q1) fun u s2 ⟨y, H2, I2, r2, q2⟩ => ?_
  exact hf v u s2 x y H2 I2 r1 r2 q2

theorem pe_op {op : Operator} {r : R2} (ho : OpR X (binaryOp op) r) (ha : PE X a ta) (hb : PE X b tb) : PE X (.BinOp a op b pos) (tOp r ta tb) := by
  intro pins s σ H Q I h
  exact wpAny_BinOp (binT ha hb I h fun v u s2 x y H2 I2 rx ry q => ho pins s2 σ H2 x y v u Q I2 rx ry q)
theorem pe_un {op : UnaryOp} {r : V → Hp → VK → Prop} (ho : UnR X (unaryOp op) r) (ha : PE X a ta) : PE X (.UnaryOp op a pos) (tUn r ta) := by
  intro pins s σ H Q I h
  exact UnaryOp_ (thn (ha pins s σ H _ I h) fun v s1 ⟨x, H1, I1, r1, q1⟩ => ho pins s1 σ H1 x v Q I1 r1 q1)
/-- a op= e at a name: the name's slot i -/
theorem augR {op : Operator} {r : R2} (ho : OpR X (inplaceOp op) r) {pins : List (Addr × Obj)} {s : Shared} {σ : St} {H : Hp} {x y : V} {v u : Value} {Q : VK} (I : Inv X pins σ H s)
    (rx : RelV x v) (ry : RelV y u) (q : r x y H Q) : wpAny (model X.prog X.w) X.A (inplaceOp op v u) (EP X pins σ Q) X.xe s := ho pins s σ H x y v u Q I rx ry q

/-! ### ints -/
theorem opI {f : Value → Value → Sem Value} {C : Int → Int → Prop} {g : Int → Int → Int}
    (rule : ∀ (i j : Int) (t u : Tok) (s : Shared) (Q : Value → Shared → Prop) (E : Value → Shared → Prop), C i j → Q (.int (g i j) s.toks) { s with toks := s.toks + 1 } → wpAny (model X.prog X.w) X.A (f (.int i t) (.int j u)) Q E s) :
    OpR X f (rI C fun i j => .int (g i j)) := by
  intro pins s σ H x y v u Q I rx ry h
  obtain ⟨i, j, rfl, rfl, hc, q⟩ := h
  obtain ⟨t, rfl⟩ := rx
  obtain ⟨t', rfl⟩ := ry
  exact rule i j t t' s _ _ hc ⟨.int (g i j), H, I.tok _, ⟨_, rfl⟩, q⟩
theorem opI0 {f : Value → Value → Sem Value} {g : Int → Int → Int}
    (rule : ∀ (i j : Int) (t u : Tok) (s : Shared) (Q : Value → Shared → Prop) (E : Value → Shared → Prop), Q (.int (g i j) s.toks) { s with toks := s.toks + 1 } → wpAny (model X.prog X.w) X.A (f (.int i t) (.int j u)) Q E s) :
    OpR X f (rI0 fun i j => .int (g i j)) := by
  intro pins s σ H x y v u Q I rx ry h
  obtain ⟨i, j, rfl, rfl, q⟩ := h
  obtain ⟨t, rfl⟩ := rx
  obtain ⟨t', rfl⟩ := ry
  exact rule i j t t' s _ _ ⟨.int (g i j), H, I.tok _, ⟨_, rfl⟩, q⟩
theorem opB0 {f : Value → Value → Sem Value} {g : Int → Int → Bool}
    (rule : ∀ (i j : Int) (t u : Tok) (s : Shared) (Q : Value → Shared → Prop) (E : Value → Shared → Prop), Q (.bool (g i j)) s → wpAny (model X.prog X.w) X.A (f (.int i t) (.int j u)) Q E s) :
    OpR X f (rI0 fun i j => .bl (g i j)) := by
  intro pins s σ H x y v u Q I rx ry h
  obtain ⟨i, j, rfl, rfl, q⟩ := h
  obtain ⟨t, rfl⟩ := rx
  obtain ⟨t', rfl⟩ := ry
  exact rule i j t t' s _ _ ⟨.bl (g i j), H, I, rfl, q⟩

def CDiv (i j : Int) : Prop := 0 < j ∧ j < 1073741824
def CDivN (i j : Int) : Prop := j ≠ 0 ∧ j.natAbs < 1073741824
def CPow (i j : Int) : Prop := 0 ≤ j ∧ j ≤ 1000000 ∧ i.natAbs < 2 ^ 64
def CMul (i j : Int) : Prop := (-(2 ^ 64) < i ∧ i < 2 ^ 64) ∨ (-(2 ^ 64) < j ∧ j < 2 ^ 64)
theorem CMul.ok {i j : Int} (h : CMul i j) : IntMulOk i j := by
  rcases h with ⟨h1, h2⟩ | ⟨h1, h2⟩
  · exact .of_left (intBits_le_64 h1 h2)
  · exact .of_right (intBits_le_64 h1 h2)
theorem two_pow_nn (k : Nat) : (0 : Int) ≤ 2 ^ k := by
  rw [two_pow_cast]
  exact Int.natCast_nonneg _

theorem op_add : OpR X (binaryOp .Add) (rI0 fun i j => .int (i + j)) := opI0 fun _ _ _ _ _ _ _ q => add_int q
theorem op_sub : OpR X (binaryOp .Sub) (rI0 fun i j => .int (i - j)) := opI0 fun _ _ _ _ _ _ _ q => sub_int q
theorem op_mul : OpR X (binaryOp .Mult) (rI CMul fun i j => .int (i * j)) := opI fun _ _ _ _ _ _ _ hc q => mul_int q hc.ok
/-- // by a positive divisor -/
theorem op_fdiv : OpR X (binaryOp .FloorDiv) (rI CDiv fun i j => .int (i / j)) := opI fun i j _ _ _ _ _ hc q => by
  have h1 : (0 : Int) < j := hc.1
  have h2 : j < 1073741824 := hc.2
  exact floordiv_int (by omega) (by rw [Int.fdiv_eq_ediv_of_nonneg i (by omega)]; exact q) (.inl (PyProof.noPylong_small (by omega)))
theorem op_fdivN : OpR X (binaryOp .FloorDiv) (rI CDivN fun i j => .int (i.fdiv j)) := opI fun _ _ _ _ _ _ _ hc q => floordiv_int hc.1 q (.inl (PyProof.noPylong_small hc.2))
/-- % by a positive divisor of any size -/
theorem op_mod : OpR X (binaryOp .Mod) (rI (fun _ j => 0 < j) fun i j => .int (i % j)) := opI fun i j _ _ _ _ _ hc q => by
  have h1 : (0 : Int) < j := hc
  exact mod_int' (by omega) (by rw [Int.fmod_eq_emod_of_nonneg i (by omega)]; exact q)
theorem op_modN : OpR X (binaryOp .Mod) (rI (fun _ j => j ≠ 0) fun i j => .int (i.fmod j)) := opI fun _ _ _ _ _ _ _ hc q => mod_int' hc q
theorem op_pow : OpR X (binaryOp .Pow) (rI CPow fun i j => .int (i ^ j.toNat)) := opI fun _ _ _ _ _ _ _ hc q => pow_int_small hc.1 hc.2.1 hc.2.2 q
theorem op_shl : OpR X (binaryOp .LShift) (rI CPow fun i j => .int (i * 2 ^ j.toNat)) := opI fun _ _ _ _ _ _ _ hc q => lshift_int_small hc.1 hc.2.1 hc.2.2 q
theorem op_shr : OpR X (binaryOp .RShift) (rI (fun _ j => 0 ≤ j) fun i j => .int (i / 2 ^ j.toNat)) := opI fun i j _ _ _ _ _ hc q =>
  rshift_int hc (by rw [Int.fdiv_eq_ediv_of_nonneg i (two_pow_nn _)]; exact q)
theorem op_and : OpR X (binaryOp .BitAnd) (rI0 fun i j => .int (Builtin.bitAnd i j)) := opI0 fun _ _ _ _ _ _ _ q => and_int q
theorem op_or : OpR X (binaryOp .BitOr) (rI0 fun i j => .int (Builtin.bitOr i j)) := opI0 fun _ _ _ _ _ _ _ q => or_int q
theorem op_xor : OpR X (binaryOp .BitXor) (rI0 fun i j => .int (Builtin.bitXor i j)) := opI0 fun _ _ _ _ _ _ _ q => xor_int q

theorem iop_add : OpR X (inplaceOp .Add) (rI0 fun i j => .int (i + j)) := opI0 fun _ _ _ _ _ _ _ q => iadd_int q
theorem iop_sub : OpR X (inplaceOp .Sub) (rI0 fun i j => .int (i - j)) := opI0 fun _ _ _ _ _ _ _ q => isub_int q
theorem iop_mul : OpR X (inplaceOp .Mult) (rI CMul fun i j => .int (i * j)) := opI fun _ _ _ _ _ _ _ hc q => imul_int q hc.ok
theorem iop_fdiv : OpR X (inplaceOp .FloorDiv) (rI CDiv fun i j => .int (i / j)) := opI fun i j _ _ _ _ _ hc q => by
  have h1 : (0 : Int) < j := hc.1
  have h2 : j < 1073741824 := hc.2
  exact ifloordiv_int (by omega) (by rw [Int.fdiv_eq_ediv_of_nonneg i (by omega)]; exact q) (.inl (PyProof.noPylong_small (by omega)))
theorem iop_mod : OpR X (inplaceOp .Mod) (rI (fun _ j => 0 < j) fun i j => .int (i % j)) := opI fun i j _ _ _ _ _ hc q => by
  have h1 : (0 : Int) < j := hc
  exact imod_int (by omega) (by rw [Int.fmod_eq_emod_of_nonneg i (by omega)]; exact q)
theorem iop_shl : OpR X (inplaceOp .LShift) (rI CPow fun i j => .int (i * 2 ^ j.toNat)) := opI fun _ _ _ _ _ _ _ hc q => ilshift_int_small hc.1 hc.2.1 hc.2.2 q
theorem iop_shr : OpR X (inplaceOp .RShift) (rI (fun _ j => 0 ≤ j) fun i j => .int (i / 2 ^ j.toNat)) := opI fun i j _ _ _ _ _ hc q =>
  irshift_int hc (by rw [Int.fdiv_eq_ediv_of_nonneg i (two_pow_nn _)]; exact q)
theorem iop_and : OpR X (inplaceOp .BitAnd) (rI0 fun i j => .int (Builtin.bitAnd i j)) := opI0 fun _ _ _ _ _ _ _ q => iand_int q
theorem iop_or : OpR X (inplaceOp .BitOr) (rI0 fun i j => .int (Builtin.bitOr i j)) := opI0 fun _ _ _ _ _ _ _ q => ior_int q
theorem iop_xor : OpR X (inplaceOp .BitXor) (rI0 fun i j => .int (Builtin.bitXor i j)) := opI0 fun _ _ _ _ _ _ _ q => ixor_int q

theorem unI {f : Value → Sem Value} {g : Int → Int}
    (rule : ∀ (i : Int) (t : Tok) (s : Shared) (Q : Value → Shared → Prop) (E : Value → Shared → Prop), Q (.int (g i) s.toks) { s with toks := s.toks + 1 } → wpAny (model X.prog X.w) X.A (f (.int i t)) Q E s) :
    UnR X f (rU fun i => .int (g i)) := by
  intro pins s σ H x v Q I rx h
  obtain ⟨i, rfl, q⟩ := h
  obtain ⟨t, rfl⟩ := rx
  exact rule i t s _ _ ⟨.int (g i), H, I.tok _, ⟨_, rfl⟩, q⟩
theorem un_neg : UnR X (unaryOp .USub) (rU fun i => .int (-i)) := unI fun _ _ _ _ _ q => neg_int q
theorem un_inv : UnR X (unaryOp .Invert) (rU fun i => .int (Builtin.bitNot i)) := unI fun _ _ _ _ _ q => invert_int q

/-! ### bools among ints: n += (a < b) -/
theorem op_add_ib : OpR X (binaryOp .Add) (fun x y H Q => ∃ i k, x = .int i ∧ y = .bl k ∧ Q (.int (i + b2i k)) H) := by
  intro pins s σ H x y v u Q I rx ry h
  obtain ⟨i, k, rfl, rfl, q⟩ := h
  obtain ⟨t, rfl⟩ := rx
  cases ry
  exact add_int_bool ⟨.int (i + b2i k), H, I.tok _, ⟨_, rfl⟩, q⟩
end

/-! ### comparisons -/
/-- the scalars that == tells apart as data does -/
def scal : V → V → Bool
  | .non, .non => true | .non, .int _ => true | .int _, .non => true | .non, .bl _ => true | .bl _, .non => true | .non, .str _ => true | .str _, .non => true
  | .int _, .int _ => true | .bl _, .bl _ => true | .str _, .str _ => true | .byt _, .byt _ => true
  | .int _, .str _ => true | .str _, .int _ => true | .bl _, .str _ => true | .str _, .bl _ => true
  | _, _ => false
def rEq : R2 := fun x y H Q => scal x y = true ∧ Q (.bl (decide (x = y))) H
def rNe : R2 := fun x y H Q => scal x y = true ∧ Q (.bl (!decide (x = y))) H

theorem dec_int {i j : Int} : decide (V.int i = V.int j) = (i == j) := by
  rw [Bool.eq_iff_iff]
  simp
theorem dec_bl {i j : Bool} : decide (V.bl i = V.bl j) = (i == j) := by
  rw [Bool.eq_iff_iff]
  simp
theorem dec_str {i j : Str} : decide (V.str i = V.str j) = (i == j) := by
  rw [Bool.eq_iff_iff]
  simp
theorem dec_byt {i j : Array UInt8} : decide (V.byt i = V.byt j) = (i.toList == j.toList) := by
  rw [Bool.eq_iff_iff]
  cases i
  cases j
  simp

section
variable {X : Cx} {a b c : Expr} {ta tb tc : TE} {pos : Pos}
theorem fin_bl {pins : List (Addr × Obj)} {σ : St} {H : Hp} {s : Shared} {Q : VK} {k k' : Bool} (I : Inv X pins σ H s) (q : Q (.bl k) H) (e : k = k') : EP X pins σ Q (.bool k') s := by
  subst e
  exact ⟨.bl k, H, I, rfl, q⟩
theorem op_eq : OpR X (compareOp .Eq) rEq := by
  intro pins s σ H x y v u Q I rx ry h
  obtain ⟨hs, q⟩ := h
  cases x with
  | non =>
    cases rx
    cases y with
    | non => cases ry; exact PySem.EqNone.eq_none_none (fin_bl I q (by simp))
    | bl j => cases ry; exact PySem.EqNone.eq_none_bool (fin_bl I q (by simp))
    | int j => obtain ⟨t', rfl⟩ := ry; exact PySem.EqNone.eq_none_int (fin_bl I q (by simp))
    | str j => obtain ⟨t', rfl⟩ := ry; exact PySem.EqNone.eq_none_str (fin_bl I q (by simp))
    | _ => exact absurd (show false = true from hs) Bool.false_ne_true
  | bl i =>
    cases rx
    cases y with
    | non => cases ry; exact PySem.EqNone.eq_bool_none (fin_bl I q (by simp))
    | bl j => cases ry; exact eq_bool (fin_bl I q dec_bl)
    | str j => obtain ⟨t', rfl⟩ := ry; exact PySem.EqMixed.eq_bool_str (fin_bl I q (by simp))
    | _ => exact absurd (show false = true from hs) Bool.false_ne_true
  | int i =>
    obtain ⟨t, rfl⟩ := rx
    cases y with
    | non => cases ry; exact PySem.EqNone.eq_int_none (fin_bl I q (by simp))
    | int j => obtain ⟨t', rfl⟩ := ry; exact eq_int (fin_bl I q dec_int)
    | str j => obtain ⟨t', rfl⟩ := ry; exact PySem.EqMixed.eq_int_str (fin_bl I q (by simp))
    | _ => exact absurd (show false = true from hs) Bool.false_ne_true
  | str i =>
    obtain ⟨t, rfl⟩ := rx
    cases y with
    | non => cases ry; exact PySem.EqNone.eq_str_none (fin_bl I q (by simp))
    | bl j => cases ry; exact PySem.EqMixed.eq_str_bool (fin_bl I q (by simp))
    | int j => obtain ⟨t', rfl⟩ := ry; exact PySem.EqMixed.eq_str_int (fin_bl I q (by simp))
    | str j => obtain ⟨t', rfl⟩ := ry; exact eq_str (fin_bl I q dec_str)
    | _ => exact absurd (show false = true from hs) Bool.false_ne_true
  | byt i =>
    obtain ⟨t, rfl⟩ := rx
    cases y with
    | byt j => obtain ⟨t', rfl⟩ := ry; exact PySem.W.eq_bytes (fin_bl I q dec_byt)
    | _ => exact absurd (show false = true from hs) Bool.false_ne_true
  | _ => cases y <;> exact absurd (show false = true from hs) Bool.false_ne_true
theorem op_ne : OpR X (compareOp .NotEq) rNe := by
  intro pins s σ H x y v u Q I rx ry h
  obtain ⟨hs, q⟩ := h
  cases x with
  | non =>
    cases rx
    cases y with
    | non => cases ry; exact PySem.EqNone.ne_none_none (fin_bl I q (by simp))
    | bl j => cases ry; exact PySem.EqNone.ne_none_bool (fin_bl I q (by simp))
    | int j => obtain ⟨t', rfl⟩ := ry; exact PySem.EqNone.ne_none_int (fin_bl I q (by simp))
    | str j => obtain ⟨t', rfl⟩ := ry; exact PySem.EqNone.ne_none_str (fin_bl I q (by simp))
    | _ => exact absurd (show false = true from hs) Bool.false_ne_true
  | bl i =>
    cases rx
    cases y with
    | non => cases ry; exact PySem.EqNone.ne_bool_none (fin_bl I q (by simp))
    | bl j => cases ry; exact ne_bool (fin_bl I q (congrArg not dec_bl))
    | str j => obtain ⟨t', rfl⟩ := ry; exact PySem.EqMixed.ne_bool_str (fin_bl I q (by simp))
    | _ => exact absurd (show false = true from hs) Bool.false_ne_true
  | int i =>
    obtain ⟨t, rfl⟩ := rx
    cases y with
    | non => cases ry; exact PySem.EqNone.ne_int_none (fin_bl I q (by simp))
    | int j => obtain ⟨t', rfl⟩ := ry; exact ne_int (fin_bl I q (congrArg not dec_int))
    | str j => obtain ⟨t', rfl⟩ := ry; exact PySem.EqMixed.ne_int_str (fin_bl I q (by simp))
    | _ => exact absurd (show false = true from hs) Bool.false_ne_true
  | str i =>
    obtain ⟨t, rfl⟩ := rx
    cases y with
    | non => cases ry; exact PySem.EqNone.ne_str_none (fin_bl I q (by simp))
    | bl j => cases ry; exact PySem.EqMixed.ne_str_bool (fin_bl I q (by simp))
    | int j => obtain ⟨t', rfl⟩ := ry; exact PySem.EqMixed.ne_str_int (fin_bl I q (by simp))
    | str j => obtain ⟨t', rfl⟩ := ry; exact ne_str (fin_bl I q (congrArg not dec_str))
    | _ => exact absurd (show false = true from hs) Bool.false_ne_true
  | byt i =>
    obtain ⟨t, rfl⟩ := rx
    cases y with
    | byt j => obtain ⟨t', rfl⟩ := ry; exact PySem.W.ne_bytes (fin_bl I q (congrArg not dec_byt))
    | _ => exact absurd (show false = true from hs) Bool.false_ne_true
  | _ => cases y <;> exact absurd (show false = true from hs) Bool.false_ne_true

theorem op_lt : OpR X (compareOp .Lt) (rI0 fun i j => .bl (decide (i < j))) := opB0 fun _ _ _ _ _ _ _ q => lt_int q
theorem op_le : OpR X (compareOp .LtE) (rI0 fun i j => .bl (decide (i ≤ j))) := opB0 fun _ _ _ _ _ _ _ q => le_int q
theorem op_gt : OpR X (compareOp .Gt) (rI0 fun i j => .bl (decide (j < i))) := opB0 fun _ _ _ _ _ _ _ q => gt_int q
theorem op_ge : OpR X (compareOp .GtE) (rI0 fun i j => .bl (decide (j ≤ i))) := opB0 fun _ _ _ _ _ _ _ q => ge_int q
theorem op_lt_str : OpR X (compareOp .Lt) (fun x y H Q => ∃ i j, x = .str i ∧ y = .str j ∧ Q (.bl (decide (i.cps.toList < j.cps.toList))) H) := by
  intro pins s σ H x y v u Q I rx ry h
  obtain ⟨i, j, rfl, rfl, q⟩ := h
  obtain ⟨t, rfl⟩ := rx
  obtain ⟨t', rfl⟩ := ry
  exact lt_str (fin_bl I q rfl)
/-- the one string within the other -/
theorem op_in_str : OpR X (compareOp .In) (fun x y H Q => ∃ i j, x = .str i ∧ y = .str j ∧ Q (.bl (!(Builtin.Str.occurrences j i 0 j.length 1).isEmpty)) H) := by
  intro pins s σ H x y v u Q I rx ry h
  obtain ⟨i, j, rfl, rfl, q⟩ := h
  obtain ⟨t, rfl⟩ := rx
  obtain ⟨t', rfl⟩ := ry
  exact in_str (fin_bl I q rfl)

/-- is None, is not None: the right side a value none -/
theorem op_isN : OpR X (compareOp .Is) (fun x y H Q => y = .non ∧ Q (.bl (decide (x = .non))) H) := by
  intro pins s σ H x y v u Q I rx ry h
  obtain ⟨rfl, q⟩ := h
  cases ry
  refine is_none_gen (fin_bl I q ?_)
  cases x <;> first
    | (cases rx; rfl)
    | (obtain ⟨t, rfl⟩ := rx; rfl)
theorem op_notN : OpR X (compareOp .IsNot) (fun x y H Q => y = .non ∧ Q (.bl (!decide (x = .non))) H) := by
  intro pins s σ H x y v u Q I rx ry h
  obtain ⟨rfl, q⟩ := h
  cases ry
  refine isnot_none_gen (fin_bl I q ?_)
  cases x <;> first
    | (cases rx; rfl)
    | (obtain ⟨t, rfl⟩ := rx; rfl)

theorem op_notin_str : OpR X (compareOp .NotIn) (fun x y H Q => ∃ i j, x = .str i ∧ y = .str j ∧ Q (.bl (!(!(Builtin.Str.occurrences j i 0 j.length 1).isEmpty))) H) := by
  intro pins s σ H x y v u Q I rx ry h
  obtain ⟨i, j, rfl, rfl, q⟩ := h
  obtain ⟨t, rfl⟩ := rx
  obtain ⟨t', rfl⟩ := ry
  exact notIn_str (fin_bl I q rfl)
/-- is, is not of two objects that are tracked lists or instances -/
def isObj : HO → Bool
  | .lst _ => true
  | .ins _ _ _ => true
  | _ => false
theorem obj_there {pins : List (Addr × Obj)} {s : Shared} {σ : St} {H : Hp} {a : Addr} {o : HO} (I : Inv X pins σ H s) (h : H a = some o) (p : isObj o = true) : ∃ ob, s.heap.get? a = some ob ∧ ob.cls ≠ .type "tuple" := by
  cases o with
  | lst xs =>
    obtain ⟨_, its, n, _, e⟩ : xs.length ≤ sizeLine ∧ ∃ (its : List Value) (n : Nat), Vals xs its ∧ s.heap.get? a = some { cls := .type "list", data := .seq its.toArray n } := I.hok a _ h
    exact ⟨_, e, (by show Value.type "list" ≠ .type "tuple"; decide +kernel)⟩
  | ins C dx fs =>
    have x := I.hok a _ h
    obtain ⟨_, _, _, e, _⟩ := x
    exact ⟨_, e, (by show Value.ref C ≠ .type "tuple"; exact fun z => by cases z)⟩
  | _ => exact absurd (show false = true from p) Bool.false_ne_true
theorem op_is_ref : OpR X (compareOp .Is) (fun x y H Q => ∃ a b oa ob, x = .ref a ∧ y = .ref b ∧ H a = some oa ∧ isObj oa = true ∧ H b = some ob ∧ isObj ob = true ∧ Q (.bl (decide (a = b))) H) := by
  intro pins s σ H x y v u Q I rx ry h
  obtain ⟨a, b, oa, ob, rfl, rfl, ha, pa, hb, pb, q⟩ := h
  cases rx
  cases ry
  obtain ⟨o1, e1, n1⟩ := obj_there I ha pa
  obtain ⟨o2, e2, _⟩ := obj_there I hb pb
  by_cases z : a = b
  · subst z
    exact wpAny_is_ref_self (fin_bl I q (by simp))
  · exact wpAny_is_ref_other z e1 e2 n1 (fin_bl I q (by simp [z]))
theorem op_isnot_ref : OpR X (compareOp .IsNot) (fun x y H Q => ∃ a b oa ob, x = .ref a ∧ y = .ref b ∧ H a = some oa ∧ isObj oa = true ∧ H b = some ob ∧ isObj ob = true ∧ Q (.bl (!decide (a = b))) H) := by
  intro pins s σ H x y v u Q I rx ry h
  obtain ⟨a, b, oa, ob, rfl, rfl, ha, pa, hb, pb, q⟩ := h
  cases rx
  cases ry
  obtain ⟨o1, e1, n1⟩ := obj_there I ha pa
  obtain ⟨o2, e2, _⟩ := obj_there I hb pb
  by_cases z : a = b
  · subst z
    exact wpAny_isNot_ref_self (fin_bl I q (by simp))
  · exact wpAny_isNot_ref_other z e1 e2 n1 (fin_bl I q (by simp [z]))

/-- two rules for one operation: by cases -/
theorem OpR.or {f : Value → Value → Sem Value} {r r' : R2} (h : OpR X f r) (h' : OpR X f r') : OpR X f (fun x y H Q => r x y H Q ∨ r' x y H Q) := by
  intro pins s σ H x y v u Q I rx ry q
  rcases q with q | q
  · exact h pins s σ H x y v u Q I rx ry q
  · exact h' pins s σ H x y v u Q I rx ry q

theorem nomark (b : Expr) {op : CmpOp} (h : op ≠ .In := by decide) (h2 : op ≠ .NotIn := by decide) : behindInMarks op b = false := by
  have e1 : (op == CmpOp.In) = false := by cases op <;> first | rfl | exact absurd rfl h
  have e2 : (op == CmpOp.NotIn) = false := by cases op <;> first | rfl | exact absurd rfl h2
  cases b <;> simp [behindInMarks, e1, e2]
/-- a comparison as a value; hm: nomark b, or (for in, not in) by with_unfolding_all rfl -/
theorem pe_cmpR {op : CmpOp} {r : R2} (ho : OpR X (compareOp op) r) (ha : PE X a ta) (hb : PE X b tb) (hm : behindInMarks op b = false) : PE X (.Compare a [op] [b] pos) (tOp r ta tb) := by
  intro pins s σ H Q I h
  exact wpAny_Compare1 (binT ha hb I h fun v u s2 x y H2 I2 rx ry q => ho pins s2 σ H2 x y v u Q I2 rx ry q) hm
/-- a reading of a value as a test -/
def tTest (t : TE) : TT := fun σ H Q => t σ H fun x H' => ∃ k, x = .bl k ∧ Q k H'
theorem pt_cmpR {op : CmpOp} {r : R2} (ho : OpR X (compareOp op) r) (ha : PE X a ta) (hb : PE X b tb) (hm : behindInMarks op b = false) : PT X (.Compare a [op] [b] pos) (tTest (tOp r ta tb)) := by
  intro pins s σ H Q I h
  refine wpAny_isTrue_Compare1 (thn (ha pins s σ H _ I h) fun v s1 ⟨x, H1, I1, r1, q1⟩ => thn (hb pins s1 σ H1 _ I1 q1) fun u s2 ⟨y, H2, I2, r2, q2⟩ =>
    thn (ho pins s2 σ H2 x y v u _ I2 r1 r2 q2) fun c s3 ⟨z, H3, I3, r3, k, e, q3⟩ => ?_) hm
  subst e
  cases r3
  exact wpAny_truthy_bool ⟨H3, I3, q3⟩
/-- a op1 b op2 c -/
def tChain (r r' : R2) (ta tb tc : TE) : TE := fun σ H Q => ta σ H fun x H1 => tb σ H1 fun y H2 => r x y H2 fun z H3 => ∃ k, z = .bl k ∧
  (if k = true then tc σ H3 fun w' H4 => r' y w' H4 Q else Q (.bl false) H3)
theorem pe_chain {op op' : CmpOp} {r r' : R2} (ho : OpR X (compareOp op) r) (ho' : OpR X (compareOp op') r') (ha : PE X a ta) (hb : PE X b tb) (hc : PE X c tc)
    (hm : lastMarks [op, op'] [b, c] = false := by with_unfolding_all rfl) : PE X (.Compare a [op, op'] [b, c] pos) (tChain r r' ta tb tc) := by
  intro pins s σ H Q I h
  refine Compare_chain (thn (ha pins s σ H _ I h) fun v s1 ⟨x, H1, I1, r1, q1⟩ => chain_link (thn (hb pins s1 σ H1 _ I1 q1) fun u s2 ⟨y, H2, I2, r2, q2⟩ =>
    thn (ho pins s2 σ H2 x y v u _ I2 r1 r2 q2) fun d s3 ⟨z, H3, I3, r3, k, e, q3⟩ => ?_)) hm
  subst e
  cases r3
  refine wpAny_truthy_bool ?_
  cases k with
  | false => exact ite_ff ⟨.bl false, H3, I3, rfl, q3⟩
  | true => exact ite_tt (chain_last (thn (hc pins s3 σ H3 _ I3 q3) fun w' s4 ⟨z', H4, I4, r4, q4⟩ => ho' pins s4 σ H4 y z' u w' Q I4 r2 r4 q4))
theorem pt_chain {op op' : CmpOp} {r r' : R2} (ho : OpR X (compareOp op) r) (ho' : OpR X (compareOp op') r') (ha : PE X a ta) (hb : PE X b tb) (hc : PE X c tc)
    (hm : lastMarks [op, op'] [b, c] = false := by with_unfolding_all rfl) : PT X (.Compare a [op, op'] [b, c] pos) (tTest (tChain r r' ta tb tc)) := by
  intro pins s σ H Q I h
  refine isTrue_chain (thn (ha pins s σ H _ I h) fun v s1 ⟨x, H1, I1, r1, q1⟩ => test_link (thn (hb pins s1 σ H1 _ I1 q1) fun u s2 ⟨y, H2, I2, r2, q2⟩ =>
    thn (ho pins s2 σ H2 x y v u _ I2 r1 r2 q2) fun d s3 ⟨z, H3, I3, r3, k, e, q3⟩ => ?_)) hm
  subst e
  cases r3
  refine wpAny_truthy_bool ?_
  cases k with
  | false =>
    obtain ⟨k', e', q'⟩ := q3
    cases e'
    exact ite_ff ⟨H3, I3, q'⟩
  | true =>
    refine ite_tt (test_last (thn (hc pins s3 σ H3 _ I3 q3) fun w' s4 ⟨z', H4, I4, r4, q4⟩ => thn (ho' pins s4 σ H4 y z' u w' _ I4 r2 r4 q4) fun d' s5 ⟨z2, H5, I5, r5, k2, e2, q5⟩ => ?_))
    subst e2
    cases r5
    exact wpAny_truthy_bool ⟨H5, I5, q5⟩

/-! ### truth -/
/-- a value's truth by the abstract heap -/
def TruV (K : PySem.W.Frag) (x : V) (H : Hp) (k : Bool) : Prop :=
  match x with
  | .non => k = false
  | .bl b => k = b
  | .int i => k = (i != 0)
  | .str y => y.length ≤ sizeLine ∧ k = ((y.length : Int) != 0)
  | .byt y => y.size ≤ sizeLine ∧ k = ((y.size : Int) != 0)
  | .ref p => (∃ xs, SqL K H p xs ∧ k = !xs.isEmpty) ∨ (∃ xs, SqT K H p xs ∧ k = !xs.isEmpty) ∨ ∃ kvs, H p = some (.dK kvs) ∧ k = !kvs.isEmpty
  | _ => False
theorem isEmpty_kv {κ : Type} {kvs : List (κ × V)} {vs : List (κ × Value)} (r : KV kvs vs) : (!vs.isEmpty) = !kvs.isEmpty := by
  cases r <;> rfl
theorem isEmpty_of {xs : List V} {its : List Value} (r : Vals xs its) : (!its.toArray.isEmpty) = !xs.isEmpty := by
  cases r <;> simp
theorem line63 : (sizeLine : Nat) < 2 ^ 63 := by rw [sizeLine_eq]; decide
theorem tru_ok : TruR X (fun x H Q => ∃ k, TruV X.K x H k ∧ Q k H) := by
  intro pins s σ H x v Q I rx h
  obtain ⟨k, e, q⟩ := h
  have hl := line63
  have hs : sizeLine = 16777216 := sizeLine_eq
  cases x with
  | non =>
    cases rx
    have e' : k = false := e
    subst e'
    exact truthy_none ⟨H, I, q⟩
  | bl b =>
    cases rx
    have e' : k = b := e
    subst e'
    exact wpAny_truthy_bool ⟨H, I, q⟩
  | int i =>
    obtain ⟨t, rfl⟩ := rx
    have e' : k = (i != 0) := e
    subst e'
    exact PySem.P.truthy_int ⟨H, I, q⟩
  | str y =>
    obtain ⟨t, rfl⟩ := rx
    obtain ⟨hy, e'⟩ : y.length ≤ sizeLine ∧ k = ((y.length : Int) != 0) := e
    subst e'
    exact PySem.P.truthy_str (by omega) ⟨H, I.tok _, q⟩
  | byt y =>
    obtain ⟨t, rfl⟩ := rx
    obtain ⟨hy, e'⟩ : y.size ≤ sizeLine ∧ k = ((y.size : Int) != 0) := e
    subst e'
    exact PySem.W.truthy_bytes (by omega) ⟨H, I.tok _, q⟩
  | ref p =>
    cases rx
    have e' : (∃ xs, SqL X.K H p xs ∧ k = !xs.isEmpty) ∨ (∃ xs, SqT X.K H p xs ∧ k = !xs.isEmpty) ∨ ∃ kvs, H p = some (.dK kvs) ∧ k = !kvs.isEmpty := e
    rcases e' with ⟨xs, hx, e'⟩ | ⟨xs, hx, e'⟩ | ⟨kvs, hx, e'⟩
    · subst e'
      obtain ⟨its, r, pl, hz⟩ := I.list hx
      have hlen := r.length
      exact wpAny_truthy_list pl.isList (by simp only [List.size_toArray]; omega) ⟨H, I.tok _, by rw [isEmpty_of r]; exact q⟩
    · subst e'
      obtain ⟨its, r, pl, hz⟩ := I.tuple hx
      have hlen := r.length
      exact truthy_tuple pl (by simp only [List.size_toArray]; omega) ⟨H, I.tok _, by rw [isEmpty_of r]; exact q⟩
    · subst e'
      obtain ⟨hz, hS, vs, r, m⟩ : kvs.length ≤ sizeLine ∧ (p == sysModules) = false ∧ ∃ vs, KV kvs vs ∧ s.heap.DictOf (mixKind X.prog X.w) p vs := I.hok p _ hx
      have hlen : kvs.length = vs.length := Paired.length r
      exact wpAny_truthy_dict hS m (by omega) ⟨H, I.tok _, by rw [isEmpty_kv r]; exact q⟩
  | _ => exact (show False from e).elim
/-- any expression whose test is its value's truth (a name, a call, a subscript, a field ..: he by fun _ => rfl) -/
theorem pt_truth (ha : PE X a ta) (he : ∀ whole, isTrue a X.env whole = (do let v ← whole; standAt a.pos; holding [v] (truthy v))) :
    PT X a (fun σ H Q => ta σ H fun x H' => ∃ k, TruV X.K x H' k ∧ Q k H') := by
  intro pins s σ H Q I h
  exact isTrue_plain (thn (ha pins s σ H _ I h) fun v s1 ⟨x, H1, I1, r1, q1⟩ => tru_ok pins s1 σ H1 x v Q I1 r1 q1) (he _)

/-! ### strs and bytes -/
theorem pe_byt {x : List UInt8} {k : Nat} : PE X (.Constant (.bytes x) k pos) (fun _ H Q => Q (.byt x.toArray) H) := fun _ _ _ H _ I h => PySem.W.Constant_bytes ⟨.byt x.toArray, H, I.tok _, ⟨_, rfl⟩, h⟩
theorem op_add_str : OpR X (binaryOp .Add) (fun x y H Q => ∃ i j, x = .str i ∧ y = .str j ∧ i.length + j.length ≤ sizeLine ∧ Q (.str (i ++ j)) H) := by
  intro pins s σ H x y v u Q I rx ry h
  obtain ⟨i, j, rfl, rfl, hz, q⟩ := h
  obtain ⟨t, rfl⟩ := rx
  obtain ⟨t', rfl⟩ := ry
  exact add_str (fun t' tk => ⟨.str (i ++ j), H, I.tok _, ⟨_, rfl⟩, q⟩) hz
theorem iop_add_str : OpR X (inplaceOp .Add) (fun x y H Q => ∃ i j, x = .str i ∧ y = .str j ∧ i.length + j.length ≤ sizeLine ∧ Q (.str (i ++ j)) H) := by
  intro pins s σ H x y v u Q I rx ry h
  obtain ⟨i, j, rfl, rfl, hz, q⟩ := h
  obtain ⟨t, rfl⟩ := rx
  obtain ⟨t', rfl⟩ := ry
  exact iadd_str (fun t' tk => ⟨.str (i ++ j), H, I.tok _, ⟨_, rfl⟩, q⟩) hz
theorem op_add_byt : OpR X (binaryOp .Add) (fun x y H Q => ∃ i j, x = .byt i ∧ y = .byt j ∧ i.size + j.size ≤ 16777216 ∧ Q (.byt (i ++ j)) H) := by
  intro pins s σ H x y v u Q I rx ry h
  obtain ⟨i, j, rfl, rfl, hz, q⟩ := h
  obtain ⟨t, rfl⟩ := rx
  obtain ⟨t', rfl⟩ := ry
  exact PySem.W.KBy.add_bytes hz (fun t' tk => ⟨.byt (i ++ j), H, I.tok _, ⟨_, rfl⟩, q⟩)

def PlainIxT (b : Expr) : Prop := ∀ o i, subscripted b false o i = operate [o, i] (getItem o i)
/-- s[i], 0 ≤ i < len -/
theorem pe_item_str (ha : PE X a ta) (hb : PE X b tb) (hs : PlainIxT b) :
    PE X (.Subscript a b pos) (tOp (fun x y H Q => ∃ z i c, x = .str z ∧ y = .int i ∧ 0 ≤ i ∧ i < 2 ^ 63 ∧ i < z.length ∧ z.cps[i.toNat]? = some c ∧ Q (.str ⟨#[c]⟩) H) ta tb) := by
  intro pins s σ H Q I h
  refine Subscript_ (binT ha hb I h fun v u s2 x y H2 I2 rx ry q => ?_)
  obtain ⟨z, i, c, rfl, rfl, h0, h63, h1, hc, q⟩ := q
  obtain ⟨t, rfl⟩ := rx
  obtain ⟨t', rfl⟩ := ry
  have e : seqIndex? i z.length = some i.toNat := PySem.StrLaws.seqIndex_nonneg h0 h1
  exact tail_any (typeIs_str s2 z t) slot_str_getitem.lookup (getItem_str (c := c) (by
    have e1 : decide (i < -(2 ^ 63 : Int)) = false := decide_eq_false (by omega)
    have e2 : decide (i ≥ 2 ^ 63) = false := decide_eq_false (by omega)
    rw [e1, e2] <;> rfl) (by rw [e]; exact hc) ⟨.str ⟨#[c]⟩, H2, I2.tok _, ⟨_, rfl⟩, q⟩) (hs _ _)
/-- b[i], 0 ≤ i < len -/
theorem pe_item_byt (ha : PE X a ta) (hb : PE X b tb) (hs : PlainIxT b) :
    PE X (.Subscript a b pos) (tOp (fun x y H Q => ∃ (z : List UInt8) (i : Int), x = .byt z.toArray ∧ y = .int i ∧ z.length ≤ sizeLine ∧ 0 ≤ i ∧ i < z.length ∧ Q (.int ((z.getD i.toNat 0).toNat : Nat)) H) ta tb) := by
  intro pins s σ H Q I h
  refine Subscript_ (binT ha hb I h fun v u s2 x y H2 I2 rx ry q => ?_)
  obtain ⟨z, i, rfl, rfl, hz, h0, h1, q⟩ := q
  obtain ⟨t, rfl⟩ := rx
  obtain ⟨t', rfl⟩ := ry
  have hl : sizeLine = 16777216 := sizeLine_eq
  exact tail_any (PySem.W.typeIs_bytes s2 z.toArray t) PySem.W.FB.slot_bytes_getitem.lookup (PySem.W.getItem_bytes (by omega) h0 h1 ⟨.int ((z.getD i.toNat 0).toNat : Nat), H2, I2.tok _, ⟨_, rfl⟩, q⟩) (hs _ _)

/-! ### scalar builtins, by CallR -/
theorem vals1 {x : V} {us : List Value} (r : Vals [x] us) : ∃ u, us = [u] ∧ RelV x u := by
  cases r with
  | cons r1 r2 => cases r2; exact ⟨_, rfl, r1⟩
theorem vals2 {x y : V} {us : List Value} (r : Vals [x, y] us) : ∃ u w', us = [u, w'] ∧ RelV x u ∧ RelV y w' := by
  cases r with
  | cons r1 r2 =>
    cases r2 with
    | cons r3 r4 => cases r4; exact ⟨_, _, rfl, r1, r3⟩
theorem call_abs : CallR X (.builtin "abs") (fun xs H Q => ∃ i, xs = [.int i] ∧ Q (.int (if i < 0 then -i else i)) H) := by
  intro pins s σ H xs us Q I r h
  obtain ⟨i, rfl, q⟩ := h
  obtain ⟨u, rfl, t, rfl⟩ := vals1 r
  exact call_abs_int fun u tk => ⟨.int (if i < 0 then -i else i), H, I.tok _, ⟨_, rfl⟩, q⟩
theorem call_max2 (hc : X.calm = true) : CallR X (.builtin "max") (fun xs H Q => ∃ i j, xs = [.int i, .int j] ∧ Q (.int (if j > i then j else i)) H) := by
  intro pins s σ H xs us Q I r h
  obtain ⟨i, j, rfl, q⟩ := h
  obtain ⟨u, w', rfl, ⟨t, rfl⟩, ⟨t', rfl⟩⟩ := vals2 r
  refine max_two_ints (I.ok.hd hc) fun h' tk k => ⟨_, H, I.kept k, ?_, q⟩
  by_cases hj : j > i
  · rw [if_pos hj, if_pos hj]; exact ⟨_, rfl⟩
  · rw [if_neg hj, if_neg hj]; exact ⟨_, rfl⟩
theorem call_min2 (hc : X.calm = true) : CallR X (.builtin "min") (fun xs H Q => ∃ i j, xs = [.int i, .int j] ∧ Q (.int (if j < i then j else i)) H) := by
  intro pins s σ H xs us Q I r h
  obtain ⟨i, j, rfl, q⟩ := h
  obtain ⟨u, w', rfl, ⟨t, rfl⟩, ⟨t', rfl⟩⟩ := vals2 r
  refine min_two_ints (I.ok.hd hc) fun h' tk k => ⟨_, H, I.kept k, ?_, q⟩
  by_cases hj : j < i
  · rw [if_pos hj, if_pos hj]; exact ⟨_, rfl⟩
  · rw [if_neg hj, if_neg hj]; exact ⟨_, rfl⟩
theorem call_int1 : CallR X (.type "int") (fun xs H Q => (∃ i, xs = [.int i] ∧ Q (.int i) H) ∨ ∃ k, xs = [.bl k] ∧ Q (.int (if k then 1 else 0)) H) := by
  intro pins s σ H xs us Q I r h
  rcases h with ⟨i, rfl, q⟩ | ⟨k, rfl, q⟩
  · obtain ⟨u, rfl, t, rfl⟩ := vals1 r
    exact call_int_int ⟨.int i, H, I, ⟨_, rfl⟩, q⟩
  · obtain ⟨u, rfl, r1⟩ := vals1 r
    cases r1
    exact call_int_bool ⟨.int (if k then 1 else 0), H, I.tok _, ⟨_, rfl⟩, q⟩
theorem call_bool1 : CallR X (.type "bool") (fun xs H Q => (∃ i, xs = [.int i] ∧ Q (.bl (i != 0)) H) ∨ ∃ k, xs = [.bl k] ∧ Q (.bl k) H) := by
  intro pins s σ H xs us Q I r h
  rcases h with ⟨i, rfl, q⟩ | ⟨k, rfl, q⟩
  · obtain ⟨u, rfl, t, rfl⟩ := vals1 r
    exact call_bool_int ⟨.bl (i != 0), H, I, rfl, q⟩
  · obtain ⟨u, rfl, r1⟩ := vals1 r
    cases r1
    exact call_bool_bool ⟨.bl k, H, I, rfl, q⟩
theorem call_str_int : CallR X (.type "str") (fun xs H Q => ∃ i, xs = [.int i] ∧ i.natAbs.log2 < 1920 ∧ Q (.str (toString i)) H) := by
  intro pins s σ H xs us Q I r h
  obtain ⟨i, rfl, hz, q⟩ := h
  obtain ⟨u, rfl, t, rfl⟩ := vals1 r
  exact PySem.P.str_of_int hz ⟨.str _, H, I.tok _, ⟨_, rfl⟩, q⟩
theorem call_ord : CallR X (.builtin "ord") (fun xs H Q => ∃ x, xs = [.str x] ∧ x.length = 1 ∧ Q (.int (x.cps.getD 0 0 : Nat)) H) := by
  intro pins s σ H xs us Q I r h
  obtain ⟨x, rfl, hz, q⟩ := h
  obtain ⟨u, rfl, t, rfl⟩ := vals1 r
  exact ord_of_one hz ⟨.int _, H, I.tok _, ⟨_, rfl⟩, q⟩
theorem call_chr : CallR X (.builtin "chr") (fun xs H Q => ∃ i, xs = [.int i] ∧ 0 ≤ i ∧ i ≤ 1114111 ∧ Q (.str ⟨#[i.toNat]⟩) H) := by
  intro pins s σ H xs us Q I r h
  obtain ⟨i, rfl, h0, h1, q⟩ := h
  obtain ⟨u, rfl, t, rfl⟩ := vals1 r
  exact chr_of_range h0 h1 ⟨.str _, H, I.tok _, ⟨_, rfl⟩, q⟩
/-- len of a str, a bytes, a list, a tuple -/
def LenV (K : PySem.W.Frag) (x : V) (H : Hp) (n : Nat) : Prop :=
  match x with
  | .str y => y.length ≤ sizeLine ∧ n = y.length
  | .byt y => y.size ≤ sizeLine ∧ n = y.size
  | .ref p => (∃ xs, SqL K H p xs ∧ n = xs.length) ∨ ∃ xs, SqT K H p xs ∧ n = xs.length
  | _ => False
theorem call_len : CallR X (.builtin "len") (fun xs H Q => ∃ x n, xs = [x] ∧ LenV X.K x H n ∧ Q (.int n) H) := by
  intro pins s σ H xs us Q I r h
  obtain ⟨x, n, rfl, e, q⟩ := h
  obtain ⟨u, rfl, rx⟩ := vals1 r
  have hl := line63
  have hs : sizeLine = 16777216 := sizeLine_eq
  cases x with
  | str y =>
    obtain ⟨t, rfl⟩ := rx
    obtain ⟨hy, e'⟩ : y.length ≤ sizeLine ∧ n = y.length := e
    subst e'
    exact len_str (by omega) ⟨.int _, H, I.tok _, ⟨_, rfl⟩, q⟩
  | byt y =>
    obtain ⟨t, rfl⟩ := rx
    obtain ⟨hy, e'⟩ : y.size ≤ sizeLine ∧ n = y.size := e
    subst e'
    exact PySem.W.len_bytes (by omega) ⟨.int _, H, I.tok _, ⟨_, rfl⟩, q⟩
  | ref p =>
    cases rx
    have e' : (∃ xs, SqL X.K H p xs ∧ n = xs.length) ∨ ∃ xs, SqT X.K H p xs ∧ n = xs.length := e
    rcases e' with ⟨xs, hx, e'⟩ | ⟨xs, hx, e'⟩
    · subst e'
      obtain ⟨its, r', pl, hz⟩ := I.list hx
      have hlen := r'.length
      exact Calls.call_len_list pl.isList (by simp only [List.size_toArray]; omega) ⟨.int xs.length, H, I.tok _, ⟨_, by simp only [List.size_toArray]; rw [hlen]⟩, q⟩
    · subst e'
      obtain ⟨its, r', pl, hz⟩ := I.tuple hx
      have hlen := r'.length
      exact len_tuple pl (by simp only [List.size_toArray]; omega) ⟨.int xs.length, H, I.tok _, ⟨_, by simp only [List.size_toArray]; rw [hlen]⟩, q⟩
  | _ => exact (show False from e).elim
/-- divmod: a new tuple -/
theorem call_divmod : CallR X (.builtin "divmod") (fun xs H Q => ∃ i j, xs = [.int i, .int j] ∧ CDiv i j ∧ ∀ p, H p = none → Q (.ref p) (upd H p (.tup [.int (i / j), .int (i % j)]))) := by
  intro pins s σ H xs us Q I r h
  obtain ⟨i, j, rfl, ⟨h1, h2⟩, q⟩ := h
  obtain ⟨u, w', rfl, ⟨t, rfl⟩, ⟨t', rfl⟩⟩ := vals2 r
  refine divmod_int (by omega) ?_ (.inl (PyProof.noPylong_small (by omega)))
  rw [Int.fdiv_eq_ediv_of_nonneg i (by omega), Int.fmod_eq_emod_of_nonneg i (by omega)]
  have hn : H s.heap.objs.size = none := I.hok.fresh (Nat.le_refl _)
  refine ⟨.ref s.heap.objs.size, _, ?_, rfl, q _ hn⟩
  refine I.laid (fun b o e => Heap.get?_push_of_some _ e) (Nat.le_refl _) ⟨by simp only [List.length_cons, List.length_nil]; rw [sizeLine_eq]; decide, [.int (i / j) s.toks, .int (i % j) (s.toks + 1)], .cons ⟨_, rfl⟩ (.cons ⟨_, rfl⟩ .nil), ?_⟩
  exact ⟨_, Heap.get?_push_size s.heap rfl, rfl, 0, rfl⟩
end
end L2

namespace L2
open PySem PySem.Spec PyProof.Rows

/-! ### an instance, its attributes a map -/
structure ObjM (h : Heap) (x dx C : Addr) (mA : Str → Option Value) : Prop where
  obj : h.get? x = some (PySem.W.instObj C dx)
  ns : h.Ns1 dx mA
  ne : dx ≠ x

theorem lookIn_ns {h : Heap} {dx : Addr} {mA : Str → Option Value} (n : h.Ns1 dx mA) : ∃ od, h.get? dx = some od ∧ ∀ name, PySem.W.lookIn name od = some (mA name) := by
  obtain ⟨o, es, ep, ho, hd, hk, _, hm⟩ := n
  refine ⟨o, ho, fun name => ?_⟩
  have e := hm name
  unfold nsFind findBy at e
  rw [← Array.find?_toList] at e
  unfold PySem.W.lookIn
  rw [hd]
  dsimp only
  split
  · rename_i y q
    rw [q] at e
    exact congrArg some e
  · rename_i q
    rw [q] at e
    have a : es.toList.any (·.refKey) = false := by
      rw [List.any_eq_false]
      intro y hy
      obtain ⟨z, t, hkey⟩ := hk y (Array.mem_toList_iff.mp hy)
      simp [DictEntry.refKey, hkey]
    have a' : ¬ es.toList.any (·.refKey) = true := by rw [a]; exact Bool.false_ne_true
    rw [if_neg a']
    exact congrArg some e

theorem ObjM.look {h : Heap} {x dx C : Addr} {mA : Str → Option Value} (I : ObjM h x dx C mA) : ∃ od, PySem.W.InstAt h x (PySem.W.instObj C dx) C (some od) ∧ ∀ name, PySem.W.lookIn name od = some (mA name) :=
  let ⟨od, ho, hl⟩ := lookIn_ns I.ns
  ⟨od, ⟨I.obj, rfl, rfl, ho⟩, hl⟩

section
variable {prog : Program} {w : World} {A : Around} {E : Value → Shared → Prop} {s : Shared} {K : PySem.W.Frag} {x dx C f : Addr} {mA : Str → Option Value} {name : Str} {v : Value}

theorem get_map {expr : Bool} {Q : Value → Shared → Prop} (X : K.In s.heap) (I : ObjM s.heap x dx C mA) (hg : PySem.W.plainGet K C name = true) (hh : PySem.W.hasDictIn K C = true)
    (ha : PySem.W.findIn K (.ref C) name = some none) (hv : mA name = some v) (hv' : PySem.W.handedIn v = true) (h : Q v { s with toks := s.toks + 1 }) :
    wpAny (model prog w) A (getAttr (.ref x) name expr) Q E s := by
  obtain ⟨od, J, hl⟩ := I.look
  exact PySem.W.get_value X J (PySem.W.plainGet_of hg).1 (PySem.W.findObj_own hh ha rfl (by rw [hl, hv])) hv' h

theorem get_const {expr : Bool} {a : Value} {Q : Value → Shared → Prop} (X : K.In s.heap) (I : ObjM s.heap x dx C mA) (hg : PySem.W.plainGet K C name = true) (hh : PySem.W.hasDictIn K C = true)
    (ha : PySem.W.findIn K (.ref C) name = some (some a)) (hn : PySem.W.specialIn K a "__get__" = some none) (hc : PySem.W.copiedNames.contains name = false) (hv : mA name = none) (hv' : PySem.W.handedIn a = true)
    (h : Q a { s with toks := s.toks + 1 }) : wpAny (model prog w) A (getAttr (.ref x) name expr) Q E s := by
  obtain ⟨od, J, hl⟩ := I.look
  exact PySem.W.get_value X J (PySem.W.plainGet_of hg).1 (PySem.W.findObj_cls hh ha hn hv' hc (by rw [hl, hv])) hv' h

theorem get_meth {pl : Sem Bool} {Q : Value × List Value → Shared → Prop} (X : K.In s.heap) (I : ObjM s.heap x dx C mA) (hg : PySem.W.plainGet K C name = true)
    (hf : PySem.W.findIn K (.ref C) name = some (some (.ref f))) (ht : PySem.W.isFn K (.ref f) = true) (hv : mA name = none) (h : Q (.ref f, [.ref x]) s) :
    wpAny (model prog w) A (getMethod (.ref x) name pl) Q E s := by
  obtain ⟨od, J, hl⟩ := I.look
  exact PySem.W.method_fn X J (PySem.W.plainGet_of hg).1 (PySem.W.plainGet_of hg).2 hf (beq_iff_eq.mp ht) (by show (PySem.W.lookIn name od).map (·.isSome) = some false; rw [hl, hv]; rfl) h

theorem set_map {ns : List Str} {Q : Unit → Shared → Prop} (X : K.In s.heap) (I : ObjM s.heap x dx C mA)
    (hs : PySem.W.findIn K (.ref C) "__setattr__" = some (some (.builtin "object.__setattr__"))) (hp : PySem.W.plainOver K C = true) (ht : PySem.W.takerIn K C name = some none) (hh : PySem.W.hasDictIn K C = true)
    (hw : PySem.Within mA ns) (hsz : ns.length ≤ sizeLine)
    (h : ∀ h', ObjM h' x dx C (fun y => if y = name then some v else mA y) → Heap.SameBut dx s.heap h' → Q () { s with heap := h', toks := s.toks + 2 }) :
    wpAny (model prog w) A (setAttr (.ref x) name v) Q E s := by
  obtain ⟨od, J, hl⟩ := I.look
  refine PySem.W.set_plain X J hs (PySem.W.osa_open (s := { s with toks := s.toks + 1 }) (r := none) X J hp ht fun b => ?_)
  obtain ⟨cd, hc, hd'⟩ := PySem.W.any_some hh
  have hx : s.heap.get? x = some ⟨.ref C, some dx, .plain, #[]⟩ := I.obj
  refine wpAny_bind (wpAny_pure (wpAny_bind (wpAny_bind (wpAny_loadPart hx (wpAny_bind (PySem.W.Looks.here (s := { s with toks := s.toks + 1 }) (PySem.W.looks_clsIn X hc) ?_))))))
  rw [hd']
  refine wpAny_pure (a := some dx) (wpAny_bind (wpAny_pure (wpAny_bind ?_)))
  refine wpAny_nsSet1 (s := { s with toks := s.toks + 1 }) I.ns fun h' hn2 hs2 => ?_
  obtain ⟨oD, esD, epD, hoD, hdD, hcD⟩ := hn2.count (PySem.Within.cons name v hw)
  refine wpAny_bind (wpAny_lookBehind hoD (by rw [hdD]; exact pastItsLine_dict (Nat.le_trans hcD (by rw [List.length_cons]; omega))) ?_)
  exact wpAny_pure (h _ ⟨(hs2.2 _ (Ne.symm I.ne)).trans I.obj, hn2, I.ne⟩ hs2)

/-- C(..): the dict at the heap's end, the instance behind it; then its __init__ -/
theorem make_map {R : Result → Shared → Prop} {vs : List Value} {kw : List (Str × Value)} (X : K.In s.heap) (hm : PySem.W.makesIn K C = true)
    (hi : PySem.W.findIn K (.ref C) "__init__" = some (some (.ref f))) (hf : PySem.W.typeIn K (.ref f) = some (.type "function"))
    (h : codeAny (model prog w) (A.under (.builtin "type.__call__" ⟨.ref C :: vs, kw⟩)) (.call (.ref f) ⟨.ref (s.heap.objs.size + 1) :: vs, kw⟩) (PySem.W.InitBack (s.heap.objs.size + 1) R)
      { s with heap := (s.heap.push PySem.W.emptyDict).push (PySem.W.instObj C s.heap.objs.size) }) :
    codeAny (model prog w) A (.call (.ref C) ⟨vs, kw⟩) R s := by
  obtain ⟨hh, g, d, t, os⟩ := s
  exact PySem.W.make_core (PySem.W.makes_of X hm) (PySem.W.looks_findIn X hi) (fun self => PySem.W.bind_fn X self hf) (.inl rfl) h
/-- C() where there is no __init__ but object's -/
theorem make_map0 {R : Result → Shared → Prop} (X : K.In s.heap) (hm : PySem.W.makesIn K C = true)
    (hi : PySem.W.findIn K (.ref C) "__init__" = some (some (.builtin "object.__init__")))
    (hb : ∀ self, PySem.W.Looks (model prog w) s.heap (bindSpecial (.builtin "object.__init__") self) (.builtin "object.__init__", [self]))
    (h : codeAny (model prog w) (A.under (.builtin "type.__call__" ⟨[.ref C], []⟩)) (.call (.builtin "object.__init__") ⟨[.ref (s.heap.objs.size + 1)], []⟩) (PySem.W.InitBack (s.heap.objs.size + 1) R)
      { s with heap := (s.heap.push PySem.W.emptyDict).push (PySem.W.instObj C s.heap.objs.size) }) :
    codeAny (model prog w) A (.call (.ref C) ⟨[], []⟩) R s := by
  obtain ⟨hh, g, d, t, os⟩ := s
  exact PySem.W.make_core (PySem.W.makes_of X hm) (PySem.W.looks_findIn X hi) hb (.inr ⟨rfl, rfl⟩) h
end

/-! ### the attributes as a list of pairs -/
def putF (f : Str) (v : V) : List (Str × V) → List (Str × V)
  | [] => [(f, v)]
  | (g, x) :: r => if g = f then (g, v) :: r else (g, x) :: putF f v r
theorem lookup_putF (f g : Str) (v : V) : ∀ fs : List (Str × V), (putF f v fs).lookup g = if g = f then some v else fs.lookup g
  | [] => by
    show List.lookup g [(f, v)] = _
    by_cases h : g = f
    · have hb : (g == f) = true := beq_iff_eq.mpr h
      simp only [List.lookup, hb, if_pos h]
    · have hb : (g == f) = false := beq_eq_false_iff_ne.mpr h
      simp only [List.lookup, hb, if_neg h]
  | (k, x) :: r => by
    have ih := lookup_putF f g v r
    rw [show putF f v ((k, x) :: r) = (if k = f then (k, v) :: r else (k, x) :: putF f v r) from rfl]
    by_cases hk : k = f
    · rw [if_pos hk]
      by_cases h : g = k
      · have hb : (g == k) = true := beq_iff_eq.mpr h
        simp only [List.lookup, hb, if_pos (h.trans hk)]
      · have hb : (g == k) = false := beq_eq_false_iff_ne.mpr h
        simp only [List.lookup, hb, if_neg (fun e : g = f => h (e.trans hk.symm))]
    · rw [if_neg hk]
      by_cases h : g = k
      · have hb : (g == k) = true := beq_iff_eq.mpr h
        simp only [List.lookup, hb, if_neg (fun e : g = f => hk (h.symm.trans e))]
      · have hb : (g == k) = false := beq_eq_false_iff_ne.mpr h
        simp only [List.lookup, hb]
        exact ih
theorem keys_putF (f : Str) (v : V) : ∀ fs : List (Str × V), f ∈ (putF f v fs).map (·.1) ∧ ∀ g, g ∈ fs.map (·.1) → g ∈ (putF f v fs).map (·.1)
  | [] => ⟨by simp [putF], fun g h => by simp at h⟩
  | (k, x) :: r => by
    obtain ⟨i1, i2⟩ := keys_putF f v r
    rw [show putF f v ((k, x) :: r) = (if k = f then (k, v) :: r else (k, x) :: putF f v r) from rfl]
    by_cases hk : k = f
    · rw [if_pos hk]
      subst hk
      exact ⟨by simp, fun g h => by simpa using h⟩
    · rw [if_neg hk]
      refine ⟨?_, fun g h => ?_⟩
      · rw [List.map_cons]
        exact List.mem_cons_of_mem _ i1
      · rw [List.map_cons] at h ⊢
        rcases List.mem_cons.mp h with e | e
        · exact List.mem_cons.mpr (.inl e)
        · exact List.mem_cons_of_mem _ (i2 g e)
theorem length_putF (f : Str) (v : V) : ∀ fs : List (Str × V), (putF f v fs).length ≤ fs.length + 1
  | [] => by simp [putF]
  | (k, x) :: r => by
    have ih := length_putF f v r
    rw [show putF f v ((k, x) :: r) = (if k = f then (k, v) :: r else (k, x) :: putF f v r) from rfl]
    by_cases hk : k = f
    · rw [if_pos hk, List.length_cons, List.length_cons]; omega
    · rw [if_neg hk, List.length_cons, List.length_cons]; omega

theorem RelO.some_of {v : V} {o : Option Value} (r : RelO (some v) o) : ∃ u, o = some u ∧ RelV v u := by
  cases o with
  | none => exact (show False from r).elim
  | some u => exact ⟨u, rfl, r⟩
theorem RelO.none_of {o : Option Value} (r : RelO none o) : o = none := by
  cases o with
  | none => rfl
  | some u => exact (show False from r).elim
theorem handed_of {v : V} {u : Value} (r : RelV v u) : PySem.W.handedIn u = true := by
  cases v with
  | non => cases (show u = Value.none from r); rfl
  | bl b => cases (show u = Value.bool b from r); rfl
  | int i => obtain ⟨t, e⟩ := (show ∃ t, u = Value.int i t from r); cases e; rfl
  | str x => obtain ⟨t, e⟩ := (show ∃ t, u = Value.str x t from r); cases e; rfl
  | byt b => obtain ⟨t, e⟩ := (show ∃ t, u = Value.bytes b t from r); cases e; rfl
  | flt b => obtain ⟨t, e⟩ := (show ∃ t, u = Value.float b t from r); cases e; rfl
  | ref a => cases (show u = Value.ref a from r); rfl
  | ty n => cases (show u = Value.type n from r); rfl

section
variable {P : Program} {w : World} {H H' : Hp} {h h' : Heap} {a C dx : Addr} {fs fs' : List (Str × V)}
theorem ins_get (hok : HOk P w H h) (e : H a = some (.ins C dx fs)) : ∃ mA, ObjM h a dx C mA ∧ (∀ f, RelO (fs.lookup f) (mA f)) ∧ PySem.Within mA (fs.map (·.1)) ∧ fs.length ≤ 1000 ∧ H dx = some (.own a) := by
  obtain ⟨d, z, ne, ob, mA, n, r, q⟩ := (show ObjOk P w H h a (.ins C dx fs) from hok a _ e)
  exact ⟨mA, ⟨ob, n, ne⟩, r, q, z, d⟩
end

/-! ### what of the text a class must have -/
structure Cls (K : PySem.W.Frag) (C : Addr) : Prop where
  pg : PySem.W.plainGet K C Str.empty = true
  hd : PySem.W.hasDictIn K C = true
  po : PySem.W.plainOver K C = true
  sa : PySem.W.findIn K (.ref C) "__setattr__" = some (some (.builtin "object.__setattr__"))
theorem Cls.get {K : PySem.W.Frag} {C : Addr} (c : Cls K C) (f : Str) : PySem.W.plainGet K C f = true := c.pg
/-- no class of it has the name -/
def NoAttr (K : PySem.W.Frag) (C : Addr) (f : Str) : Prop := PySem.W.findIn K (.ref C) f = some none
theorem NoAttr.taker {K : PySem.W.Frag} {C : Addr} {f : Str} (n : NoAttr K C f) : PySem.W.takerIn K C f = some none := by
  unfold PySem.W.takerIn
  rw [show PySem.W.findIn K (.ref C) f = some none from n]
  rfl
/-- a constant of the class -/
structure Con (K : PySem.W.Frag) (C : Addr) (f : Str) (v : V) (u : Value) : Prop where
  at_ : PySem.W.findIn K (.ref C) f = some (some u)
  rel : RelV v u
  get : PySem.W.specialIn K u "__get__" = some none
  cp : PySem.W.copiedNames.contains f = false
/-- a method: a plain def of the class or of one above it -/
structure Meth (K : PySem.W.Frag) (C : Addr) (m : Str) (f : Addr) : Prop where
  at_ : PySem.W.findIn K (.ref C) m = some (some (.ref f))
  fn : PySem.W.isFn K (.ref f) = true
  kp : PySem.W.keepIn K (.ref f) = true

section
variable {X : Cx} {pins : List (Addr × Obj)} {σ : St} {H : Hp} {s : Shared} {a C dx : Addr} {fs : List (Str × V)} {f : Str} {v : V} {A : Around} {E : Value → Shared → Prop}

theorem getattr_ok {b : Bool} {Q : Value → Shared → Prop} (I : Inv X pins σ H s) (e : H a = some (.ins C dx fs)) (c : Cls X.K C) (n : NoAttr X.K C f) (l : fs.lookup f = some v)
    (h : ∀ u s', Inv X pins σ H s' → RelV v u → Q u s') : wpAny (model X.prog X.w) A (getAttr (.ref a) f b) Q E s := by
  obtain ⟨mA, O, r, _, _, _⟩ := ins_get I.hok e
  obtain ⟨u, hu, ru⟩ := RelO.some_of (v := v) (o := mA f) (by rw [← l]; exact r f)
  exact get_map I.kIn O (c.get f) c.hd n hu (handed_of ru) (h u _ (I.tok _) ru)

theorem getcon_ok {b : Bool} {u : Value} {Q : Value → Shared → Prop} (I : Inv X pins σ H s) (e : H a = some (.ins C dx fs)) (c : Cls X.K C) (k : Con X.K C f v u) (l : fs.lookup f = none)
    (h : ∀ s', Inv X pins σ H s' → Q u s') : wpAny (model X.prog X.w) A (getAttr (.ref a) f b) Q E s := by
  obtain ⟨mA, O, r, _, _, _⟩ := ins_get I.hok e
  have hn : mA f = none := RelO.none_of (by rw [← l]; exact r f)
  exact get_const I.kIn O (c.get f) c.hd k.at_ k.get k.cp hn (handed_of k.rel) (h _ (I.tok _))

theorem getmeth_ok {m : Str} {g : Addr} {pl : Sem Bool} {Q : Value × List Value → Shared → Prop} (I : Inv X pins σ H s) (e : H a = some (.ins C dx fs)) (c : Cls X.K C) (k : Meth X.K C m g) (l : fs.lookup m = none)
    (h : Q (.ref g, [.ref a]) s) : wpAny (model X.prog X.w) A (getMethod (.ref a) m pl) Q E s := by
  obtain ⟨mA, O, r, _, _, _⟩ := ins_get I.hok e
  have hn : mA m = none := RelO.none_of (by rw [← l]; exact r m)
  exact get_meth I.kIn O (c.get m) k.at_ k.fn hn h

theorem setattr_ok {y : V} {u : Value} {Q : Unit → Shared → Prop} (I : Inv X pins σ H s) (e : H a = some (.ins C dx fs)) (c : Cls X.K C) (n : NoAttr X.K C f) (hl : fs.length < 1000) (ry : RelV y u)
    (h : ∀ s', Inv X pins σ (upd H a (.ins C dx (putF f y fs))) s' → Q () s') : wpAny (model X.prog X.w) A (setAttr (.ref a) f u) Q E s := by
  obtain ⟨mA, O, r, wi, _, ho⟩ := ins_get I.hok e
  have hz : (fs.map (·.1)).length ≤ sizeLine := by rw [List.length_map, sizeLine_eq]; omega
  refine set_map I.kIn O c.sa c.po n.taker c.hd wi hz fun h' O' sb => h _ ?_
  have hd : ∃ o, h'.get? dx = some o := let ⟨o, _, _, e', _⟩ := O'.ns; ⟨o, e'⟩
  refine I.write (x := a) (e := dx) (by rw [e]; exact True.intro) (.inr ho) (fun b q hb z => (sb.2 b hb).trans z) hd ?_
  refine ⟨by rw [upd_ne O.ne]; exact ho, ?_, O.ne, O'.obj, _, O'.ns, fun g => ?_, fun g hg => ?_⟩
  · have := length_putF f y fs; omega
  · show RelO ((putF f y fs).lookup g) (if g = f then some u else mA g)
    rw [lookup_putF]
    by_cases q : g = f
    · rw [if_pos q, if_pos q]; exact ry
    · rw [if_neg q, if_neg q]; exact r g
  · by_cases q : g = f
    · rw [q]; exact (keys_putF f y fs).1
    · refine (keys_putF f y fs).2 g (wi g fun z => hg ?_)
      show (if g = f then some u else mA g) = none
      rw [if_neg q]; exact z

/-- a new instance, tracked, without attributes -/
theorem Inv.made (I : Inv X pins σ H s) : Inv X pins σ (upd (upd H s.heap.objs.size (.own (s.heap.objs.size + 1))) (s.heap.objs.size + 1) (.ins C s.heap.objs.size []))
    { s with heap := (s.heap.push PySem.W.emptyDict).push (PySem.W.instObj C s.heap.objs.size) } := by
  have e1 : (s.heap.push PySem.W.emptyDict).get? s.heap.objs.size = some PySem.W.emptyDict := Heap.get?_push_size s.heap rfl
  have e2 : ((s.heap.push PySem.W.emptyDict).push (PySem.W.instObj C s.heap.objs.size)).get? (s.heap.objs.size + 1) = some (PySem.W.instObj C s.heap.objs.size) := by
    have := Heap.get?_push_size (s.heap.push PySem.W.emptyDict) (o := PySem.W.instObj C s.heap.objs.size) rfl
    rwa [Heap.size_push] at this
  have e3 : (s.heap.push PySem.W.emptyDict).Ns s.heap.objs.size (fun _ => none) := ⟨PySem.W.emptyDict, #[], _, e1, rfl, (fun e he => absurd he (by simp)), fun _ => rfl⟩
  have I1 := I.laid (a := s.heap.objs.size) (o := .own (s.heap.objs.size + 1)) (h' := s.heap.push PySem.W.emptyDict) (t' := s.toks) (fun b u q => Heap.get?_push_of_some _ q) (Nat.le_refl _) ⟨_, e1⟩
  refine I1.laid (a := s.heap.objs.size + 1) (o := .ins C s.heap.objs.size []) (t' := s.toks) (fun b u q => Heap.get?_push_of_some _ q) (Nat.le_of_eq (Heap.size_push _ _)) ?_
  have ne : s.heap.objs.size ≠ s.heap.objs.size + 1 := Nat.ne_of_lt (Nat.lt_succ_self _)
  refine ⟨by rw [upd_ne ne, upd_same], Nat.zero_le _, ne, e2, fun _ => none, (Heap.Ns1.of_empty e3).at fun o q => Heap.get?_push_of_some _ q, fun _ => True.intro, fun y hy => absurd rfl hy⟩

/-- e.f where nothing but the object is asked: through attributeBase (super) and the last hold -/
theorem attr_of {prog : Program} {w : World} {env : Env} {e : Expr} {f : Str} {pos : Pos} {s : Shared} {Q : Value → Shared → Prop} (hb : attributeBase e f env (eval e env) = eval e env)
    (h : wpAny (model prog w) A (eval e env) (fun o s₁ => wpAny (model prog w) A (getAttr o f true) Q E s₁) E s) : wpAny (model prog w) A (eval (.Attribute e f pos) env) Q E s :=
  Attribute_any_ h (by rw [arm_eval_Attribute, hb])
end

/-! ### readings and rules -/
/-- e.f, an attribute of the instance -/
def tFld (K : PySem.W.Frag) (ta : TE) (f : Str) : TE := fun σ H Q => ta σ H fun x H1 => ∃ a C dx fs v, x = .ref a ∧ H1 a = some (.ins C dx fs) ∧ Cls K C ∧ NoAttr K C f ∧ fs.lookup f = some v ∧ Q v H1
/-- e.f, a constant of the class -/
def tCon (K : PySem.W.Frag) (ta : TE) (f : Str) : TE := fun σ H Q => ta σ H fun x H1 => ∃ a C dx fs v u, x = .ref a ∧ H1 a = some (.ins C dx fs) ∧ Cls K C ∧ Con K C f v u ∧ fs.lookup f = none ∧ Q v H1
/-- e.f = value -/
def sFld (K : PySem.W.Frag) (ta tv : TE) (f : Str) : TS := fun D σ H => tv σ H fun y H1 => ta σ H1 fun x H2 => ∃ a C dx fs, x = .ref a ∧ H2 a = some (.ins C dx fs) ∧ Cls K C ∧ NoAttr K C f ∧ fs.length < 1000 ∧
  D.nx σ (upd H2 a (.ins C dx (putF f y fs)))
/-- an augmented operator on two values -/
def InOp (X : Cx) (op : Operator) (rd : V → V → Hp → VK → Prop) : Prop :=
  ∀ (pins : List (Addr × Obj)) (s : Shared) (σ : St) (H : Hp) (x y : V) (u v : Value) (Q : VK), Inv X pins σ H s → RelV x u → RelV y v → rd x y H Q → wpAny (model X.prog X.w) X.A (inplaceOp op u v) (EP X pins σ Q) X.xe s
/-- e.f op= value -/
def sFldAug (K : PySem.W.Frag) (ta tv : TE) (rd : V → V → Hp → VK → Prop) (f : Str) : TS := fun D σ H => ta σ H fun x H1 => ∃ a C dx fs v, x = .ref a ∧ H1 a = some (.ins C dx fs) ∧ Cls K C ∧ NoAttr K C f ∧ fs.lookup f = some v ∧
  tv σ H1 fun y H2 => rd v y H2 fun z H3 => ∃ dx' fs', H3 a = some (.ins C dx' fs') ∧ fs'.length < 1000 ∧ D.nx σ (upd H3 a (.ins C dx' (putF f z fs')))

section
variable {X : Cx} {o e value : Expr} {f : Str} {pos pos' tpos : Pos} {ta tv : TE}
theorem pe_fld (he : PE X e ta) (hb : attributeBase e f X.env (eval e X.env) = eval e X.env) : PE X (.Attribute e f pos) (tFld X.K ta f) := by
  intro pins s σ H Q I h
  refine attr_of hb (thn (he pins s σ H _ I h) fun u s1 ⟨x, H1, I1, rx, a, C, dx, fs, v, ex, ea, c, n, l, q⟩ => ?_)
  subst ex
  obtain rfl : u = Value.ref a := rx
  exact getattr_ok I1 ea c n l fun u' s2 I2 ru => ⟨v, H1, I2, ru, q⟩
theorem pe_con (he : PE X e ta) (hb : attributeBase e f X.env (eval e X.env) = eval e X.env) : PE X (.Attribute e f pos) (tCon X.K ta f) := by
  intro pins s σ H Q I h
  refine attr_of hb (thn (he pins s σ H _ I h) fun u s1 ⟨x, H1, I1, rx, a, C, dx, fs, v, u0, ex, ea, c, k, l, q⟩ => ?_)
  subst ex
  obtain rfl : u = Value.ref a := rx
  exact getcon_ok I1 ea c k l fun s2 I2 => ⟨v, H1, I2, k.rel, q⟩
theorem ps_fld (ha : PE X o ta) (hv : PE X value tv) (hs : swapsWith value (some (.Attribute o f pos')) pos.line X.env = pure false) : PS X (.Assign [.Attribute o f pos'] value pos) (sFld X.K ta tv f) := by
  intro pins s σ H D I h
  refine plainObj_wpAny_Assign_Attribute (thn (hv pins s σ H _ I h) fun u s1 ⟨y, H1, I1, ry, q⟩ => thn (ha pins s1 σ H1 _ I1 q) fun ov s2 ⟨x, H2, I2, rx, a, C, dx, fs, ex, ea, c, n, l, q2⟩ => ?_) hs
  subst ex
  obtain rfl : ov = Value.ref a := rx
  exact setattr_ok I2 ea c n l ry fun s3 I3 => ⟨σ, _, I3, q2⟩
theorem ps_fldaug {op : Operator} {rd : V → V → Hp → VK → Prop} (ha : PE X o ta) (hv : PE X value tv) (hop : InOp X op rd) : PS X (.AugAssign (.Attribute o f tpos) op value pos) (sFldAug X.K ta tv rd f) := by
  intro pins s σ H D I h
  refine wpAny_AugAssign_AttributeAny (thn (ha pins s σ H _ I h) fun ov s1 ⟨x, H1, I1, rx, a, C, dx, fs, v, ex, ea, c, n, l, q⟩ => ?_)
  subst ex
  obtain rfl : ov = Value.ref a := rx
  refine getattr_ok I1 ea c n l fun u s2 I2 ru => thn (hv pins s2 σ H1 _ I2 q) fun w3 s3 ⟨y, H2, I3, ry, q3⟩ => thn (hop pins s3 σ H2 v y u w3 _ I3 ru ry q3) fun w4 s4 ⟨z, H3, I4, rz, dx', fs', ea', l', q4⟩ => ?_
  exact setattr_ok I4 ea' c n l' rz fun s5 I5 => ⟨σ, _, I5, q4⟩
def rAdd : V → V → Hp → VK → Prop := fun x y H Q => ∃ i j, x = .int i ∧ y = .int j ∧ Q (.int (i + j)) H
def rSub : V → V → Hp → VK → Prop := fun x y H Q => ∃ i j, x = .int i ∧ y = .int j ∧ Q (.int (i - j)) H
theorem in_add : InOp X .Add rAdd := by
  rintro pins s σ H x y u v Q I rx ry ⟨i, j, rfl, rfl, q⟩
  obtain ⟨t, rfl⟩ := (show ∃ t, u = Value.int i t from rx)
  obtain ⟨t', rfl⟩ := (show ∃ t', v = Value.int j t' from ry)
  exact PyProof.Rows.iadd_int ⟨.int (i + j), H, I.tok _, ⟨_, rfl⟩, q⟩
theorem in_sub : InOp X .Sub rSub := by
  rintro pins s σ H x y u v Q I rx ry ⟨i, j, rfl, rfl, q⟩
  obtain ⟨t, rfl⟩ := (show ∃ t, u = Value.int i t from rx)
  obtain ⟨t', rfl⟩ := (show ∃ t', v = Value.int j t' from ry)
  exact PyProof.Rows.isub_int ⟨.int (i - j), H, I.tok _, ⟨_, rfl⟩, q⟩

/-- what is between an instance and its method: the tree of a method call -/
theorem methcall_of {pl : Sem Bool} {m : Str} {apos : Pos} {args : List Expr} {pins : List (Addr × Obj)} {s : Shared} {σ : St} {H : Hp} {Q : Value → Shared → Prop} {te : TE} (he : PE X e te) (I : Inv X pins σ H s)
    (h : te σ H fun x H1 => ∃ a C dx fs g, x = .ref a ∧ H1 a = some (.ins C dx fs) ∧ Cls X.K C ∧ Meth X.K C m g ∧ fs.lookup m = none ∧
      ∀ s1, Inv X pins σ H1 s1 → wpAny (model X.prog X.w) X.A (callWith pos (.ref g) [.ref a] (backTo pos (starEach args X.env)) (backToKw pos (keywordEach [] X.env))) Q X.xe s1)
    (ht : eval (.Call (.Attribute e m apos) args [] pos) X.env = (do
      let ov ← eval e X.env
      standAt apos.atName
      let (f, first) ← holding [ov] (getMethod ov m pl)
      callWith pos f first (backTo pos (starEach args X.env)) (backToKw pos (keywordEach [] X.env)))) :
    wpAny (model X.prog X.w) X.A (eval (.Call (.Attribute e m apos) args [] pos) X.env) Q X.xe s := by
  refine PySem.W.methodCall_KW (pl := pl) (thn (he pins s σ H _ I h) fun u s1 ⟨x, H1, I1, rx, a, C, dx, fs, g, ex, ea, c, k, l, q⟩ => ?_) ht
  subst ex
  obtain rfl : u = Value.ref a := rx
  exact getmeth_ok I1 ea c k l (q s1 I1)
end

/-! ### isinstance -/
section
variable {X : Cx} {pins : List (Addr × Obj)} {σ : St} {H : Hp} {s : Shared} {A : Around} {E : Value → Shared → Prop} {Q : Value → Shared → Prop} {c : Value} {b : Bool}
/-- the type of a value, as the fragment's deciders take it; for an instance its class -/
inductive TyOf (K : PySem.W.Frag) (H : Hp) : V → Value → Prop where
  | non : TyOf K H .non (.type "NoneType")
  | bl (x : Bool) : TyOf K H (.bl x) (.type "bool")
  | int (i : Int) : TyOf K H (.int i) (.type "int")
  | str (x : Str) : TyOf K H (.str x) (.type "str")
  | flt (x : UInt64) : TyOf K H (.flt x) (.type "float")
  | lst {a : Addr} {xs : List V} (e : H a = some (.lst xs)) : TyOf K H (.ref a) (.type "list")
  | frz {a : Addr} {o : Obj} {xs : List V} (e : H a = some (.frz o (.lst xs))) : TyOf K H (.ref a) (.type "list")
  | tup {a : Addr} {xs : List V} (e : H a = some (.tup xs)) : TyOf K H (.ref a) (.type "tuple")
  | dK {a : Addr} {kvs : List (Key × V)} (e : H a = some (.dK kvs)) : TyOf K H (.ref a) (.type "dict")
  | dT {a : Addr} {kvs : List (List Key × V)} (e : H a = some (.dT kvs)) : TyOf K H (.ref a) (.type "dict")
  | ins {a C dx : Addr} {fs : List (Str × V)} (e : H a = some (.ins C dx fs)) (cl : Cls K C) (ha : PySem.W.findIn K (.ref C) "__class__" = some (some (.builtin "object.__class__")))
      (hn : PySem.W.specialIn K (.builtin "object.__class__") "__get__" = some (some (.builtin "getset_descriptor.__get__"))) (htk : PySem.W.takesIn K (.builtin "object.__class__") = some true)
      (hm : PySem.W.mroIn K C (.type "object") = some true) : TyOf K H (.ref a) (.ref C)
/-- isinstance(x, c) for one class c, a built-in or an own one: kitOne's answer -/
theorem isinst_ok {x : V} {u t : Value} (I : Inv X pins σ H s) (rx : RelV x u) (ty : TyOf X.K H x t) (e : PySem.W.kitOne X.K t c = some b) (h : ∀ tk, Q (.bool b) { s with toks := tk }) :
    wpAny (model X.prog X.w) A (call (.builtin "isinstance") [u, c]) Q E s := by
  cases ty with
  | non => cases (show u = Value.none from rx); exact PySem.W.kia_one PySem.W.kitx_none I.kIn True.intro e (fun z => nomatch z) h
  | bl y => cases (show u = Value.bool y from rx); exact PySem.W.kia_one PySem.W.kitx_bool I.kIn True.intro e (fun z => nomatch z) h
  | int i => obtain ⟨t, q⟩ := (show ∃ t, u = Value.int i t from rx); cases q; exact PySem.W.kia_one PySem.W.kitx_int I.kIn True.intro e (fun z => nomatch z) h
  | str y => obtain ⟨t, q⟩ := (show ∃ t, u = Value.str y t from rx); cases q; exact PySem.W.kia_one PySem.W.kitx_str I.kIn True.intro e (fun z => nomatch z) h
  | flt y => obtain ⟨t, q⟩ := (show ∃ t, u = Value.float y t from rx); cases q; exact PySem.W.kia_one PySem.W.kitx_float I.kIn True.intro e (fun z => nomatch z) h
  | @lst a xs ea =>
    cases (show u = Value.ref a from rx)
    obtain ⟨_, _, n, _, h1⟩ := (show ObjOk X.prog X.w H s.heap a (.lst xs) from I.hok a _ ea)
    exact PySem.W.kia_one PySem.W.kitx_list I.kIn ⟨_, h1, rfl⟩ e (fun z => nomatch z) h
  | @frz a ob xs ea =>
    cases (show u = Value.ref a from rx)
    obtain ⟨_, _, _, n, _, h1⟩ := (show ObjOk X.prog X.w H s.heap a (.frz ob (.lst xs)) from I.hok a _ ea)
    exact PySem.W.kia_one PySem.W.kitx_list I.kIn ⟨_, h1, rfl⟩ e (fun z => nomatch z) h
  | @tup a xs ea =>
    cases (show u = Value.ref a from rx)
    obtain ⟨_, _, _, p⟩ := (show ObjOk X.prog X.w H s.heap a (.tup xs) from I.hok a _ ea)
    obtain ⟨o, h1, h2, _⟩ := p
    exact PySem.W.kia_one PySem.W.kitx_tuple I.kIn ⟨o, h1, h2⟩ e (fun z => nomatch z) h
  | @dK a kvs ea =>
    cases (show u = Value.ref a from rx)
    obtain ⟨_, _, vs, _, p⟩ := (show ObjOk X.prog X.w H s.heap a (.dK kvs) from I.hok a _ ea)
    obtain ⟨o, es, ep, h1, h2, _⟩ := p
    exact PySem.W.kia_one PySem.W.kitx_dict I.kIn ⟨o, h1, h2.1⟩ e (fun z => nomatch z) h
  | @dT a kvs ea =>
    cases (show u = Value.ref a from rx)
    obtain ⟨_, _, xs, _, o, es, ep, h1, h2, _⟩ := (show ObjOk X.prog X.w H s.heap a (.dT kvs) from I.hok a _ ea)
    exact PySem.W.kia_one PySem.W.kitx_dict I.kIn ⟨o, h1, h2.1⟩ e (fun z => nomatch z) h
  | @ins a C dx fs ea cl ha hn htk hm =>
    cases (show u = Value.ref a from rx)
    obtain ⟨mA, O, _⟩ := ins_get I.hok ea
    obtain ⟨od, J, _⟩ := O.look
    exact PySem.W.kia_one (PySem.W.kitx_own (cl.get _) cl.hd ha hn htk hm) I.kIn J e (fun z => nomatch z) h
end
end L2

namespace L2
open PySem PySem.Spec PyProof.Rows

/-! ### room -/
structure Room (k : Nat) (A : Around) : Prop where
  hd : A.handled = none
  dp : A.depth + 3 * k + 5 < recursionLimit
  un : A.units + 16 * k + 200 < cLine
theorem Room.mono {j k : Nat} {A : Around} (r : Room k A) (h : j ≤ k) : Room j A := ⟨r.hd, by have := r.dp; omega, by have := r.un; omega⟩
theorem Room.deeper {k : Nat} {A : Around} (r : Room (k + 1) A) (env : Env) : Room k (A.deeper env) :=
  ⟨r.hd, by have := r.dp; show A.depth + 1 + 3 * k + 5 < _; omega, by have := r.un; show A.units + 3 + 16 * k + 200 < _; omega⟩
theorem Room.in1 {k : Nat} {A : Around} (r : Room (k + 1) A) : Room k A.in1 :=
  ⟨r.hd, by have := r.dp; show A.depth + 3 * k + 5 < _; omega, by have := r.un; show A.units + 1 + 16 * k + 200 < _; omega⟩
theorem make_depth {A : Around} {C : Addr} {us : List Value} {kw : List (Str × Value)} : (A.under (.builtin "type.__call__" ⟨.ref C :: us, kw⟩)).depth = A.depth + 1 := by
  first | rfl | simp [Around.under, Code.weight, Code.isCreation, Code.isGuard, Code.isCaller, Code.frames, Code.isFrame, guardIds]
theorem make_units {A : Around} {C : Addr} {us : List Value} {kw : List (Str × Value)} : (A.under (.builtin "type.__call__" ⟨.ref C :: us, kw⟩)).units = A.units + 1 := by
  first | rfl | simp [Around.under, Code.cUnits, Code.frames, Code.isFrame]
theorem Room.make {k : Nat} {A : Around} (r : Room (k + 1) A) (C : Addr) (us : List Value) (kw : List (Str × Value)) : Room k (A.under (.builtin "type.__call__" ⟨.ref C :: us, kw⟩)) :=
  ⟨r.hd, by have := r.dp; rw [make_depth]; omega, by have := r.un; rw [make_units]; omega⟩
theorem Room.depth {k : Nat} {A : Around} (r : Room k A) : A.depth < recursionLimit := by have := r.dp; omega
theorem Room.units {k : Nat} {A : Around} (r : Room k A) : A.units + 64 < cLine := by have := r.un; omega
theorem Room.units0 {k : Nat} {A : Around} (r : Room k A) : A.units < cLine := by have := r.un; omega

/-! ### argument lists and displays -/
def tNil : TA := fun _ H Q => Q [] H
def tCons (ta : TE) (tr : TA) : TA := fun σ H Q => ta σ H fun x H1 => tr σ H1 fun xs H2 => Q (x :: xs) H2
section
variable {X : Cx} {e : Expr} {es : List Expr} {te : TE} {t : TA} {pos : Pos}
theorem pa_nil : PA X [] tNil := fun _ _ _ _ H Q I h => Calls.spliced_nil ⟨[], H, I, .nil, h⟩
theorem pa_cons (ha : PE X e te) (hr : PA X es t) (hs : starEach (e :: es) X.env = (false, eval e X.env) :: starEach es X.env := by rfl) : PA X (e :: es) (tCons te t) := by
  intro pos pins s σ H Q I h
  rw [hs]
  show wpAny _ _ (spliced ((false, eval e X.env) :: backTo pos (starEach es X.env))) _ _ s
  refine Calls.spliced_cons (thn (ha pins s σ H _ I h) fun u s1 ⟨x, H1, I1, r1, q1⟩ => ?_)
  exact thn (hr pos pins s1 σ H1 _ I1 q1) fun us s2 ⟨xs, H2, I2, r2, q2⟩ => ⟨x :: xs, H2, I2, .cons r1 r2, q2⟩

/-- a tuple, a list of written items -/
def tTup (t : TA) : TE := fun σ H Q => t σ H fun xs H1 => xs.length ≤ sizeLine ∧ ∀ p, H1 p = none → Q (.ref p) (upd H1 p (.tup xs))
def tLst (t : TA) : TE := fun σ H Q => t σ H fun xs H1 => xs.length ≤ sizeLine ∧ ∀ p, H1 p = none → Q (.ref p) (upd H1 p (.lst xs))
theorem pe_tup {x1} (h : PA X es t) : PE X (.Tuple es x1 pos) (tTup t) := by
  intro pins s σ H Q I hq
  refine wpAny_Tuple_spliced (thn (h pos pins s σ H _ I hq) fun us s1 ⟨xs, H1, I1, r, z, q⟩ => ⟨by rw [← r.length]; exact z, ?_⟩)
  have hf : H1 s1.heap.objs.size = none := I1.hok.fresh (Nat.le_refl _)
  refine ⟨.ref s1.heap.objs.size, upd H1 s1.heap.objs.size (.tup xs), I1.laid (t' := s1.toks) (fun b u e => Heap.get?_push_of_some _ e) (Nat.le_refl _) ?_, rfl, q _ hf⟩
  exact ⟨z, us, r, ⟨_, Heap.get?_push_size _ rfl, rfl, _, rfl⟩⟩
theorem pe_lst (h : PA X es t) : PE X (.List es pos) (tLst t) := by
  intro pins s σ H Q I hq
  refine wpAny_List_spliced (thn (h pos pins s σ H _ I hq) fun us s1 ⟨xs, H1, I1, r, z, q⟩ => ⟨by rw [← r.length]; exact z, ?_⟩)
  have hf : H1 s1.heap.objs.size = none := I1.hok.fresh (Nat.le_refl _)
  refine ⟨.ref s1.heap.objs.size, upd H1 s1.heap.objs.size (.lst xs), I1.laid (t' := s1.toks) (fun b u e => Heap.get?_push_of_some _ e) (Nat.le_refl _) ?_, rfl, q _ hf⟩
  exact ⟨z, us, 0, r, Heap.get?_push_size _ rfl⟩
end

/-! ### what a def promises -/
/-- a def's promise: the bound arguments in the parameters' order, the heap, the wanted end, the wanted exception -/
abbrev Sp := List V → Hp → VK → XK → Prop
/-- how an exception lies behind a call (file 08 gives it): the callers' frames, abstract heap and state ahead of the call, the wish, the exception, the state -/
abbrev CXT := List Env → Hp → Shared → XK → Value → Shared → Prop

/-- the state at a call -/
structure Env0 (P : Program) (w : World) (K : PySem.W.Frag) (mg : Str → Option Value) (base : Heap) (A : Around) (outer : List Env) (s : Shared) (H : Hp) : Prop where
  frames : A.frames = some outer
  mod : Mod K mg base
  bs : ∀ b o, base.get? b = some o → s.heap.get? b = some o ∧ H b = none
  bsz : base.objs.size ≤ s.heap.objs.size
  funs : s.heap.FunFrames base outer
  frf : ∀ b ∈ frs outer, H b = none
  hok : HOk P w H s.heap
  bare : AllBare s.gens
/-- a call's end -/
def CE (outer : List Env) (P : Program) (w : World) (H : Hp) (s : Shared) (Q : VK) (u : Value) (s' : Shared) : Prop :=
  ∃ v H', s'.os = s.os ∧ AllBare s'.gens ∧ Un (frs outer) [] H H' s.heap s'.heap ∧ HOk P w H' s'.heap ∧ RelV v u ∧ Q v H'
def CR (CX : CXT) (outer : List Env) (P : Program) (w : World) (H : Hp) (s : Shared) (Q : VK) (E : XK) (r : Result) (s' : Shared) : Prop :=
  match r with
  | .ok (.ret u) => CE outer P w H s Q u s'
  | .ok _ => False
  | .error e => CX outer H s E e s'
structure FnOk (P : Program) (w : World) (K : PySem.W.Frag) (mg : Str → Option Value) (base : Heap) (CX : CXT) (k : Nat) (f : Addr) (fd : FuncData) (ps : List Str) (sp : Sp) : Prop where
  len : ∀ vs H Q E, sp vs H Q E → vs.length = ps.length
  run : ∀ (A : Around) (outer : List Env) (s : Shared) (H : Hp) (args : Args) (us : List Value) (vs : List V) (Q : VK) (E : XK), Room k A → Env0 P w K mg base A outer s H → BindsTo s fd args (ps.zip us) → Vals vs us → sp vs H Q E →
    codeAny (model P w) A (.call (.ref f) args) (CR CX outer P w H s Q E) s
theorem FnOk.mono {P : Program} {w : World} {K : PySem.W.Frag} {mg : Str → Option Value} {base : Heap} {CX : CXT} {j k : Nat} {f : Addr} {fd : FuncData} {ps : List Str} {sp : Sp} (F : FnOk P w K mg base CX j f fd ps sp) (h : j ≤ k) :
    FnOk P w K mg base CX k f fd ps sp := ⟨F.len, fun A outer s H args us vs Q E hr => F.run A outer s H args us vs Q E (hr.mono h)⟩
/-- a weaker promise -/
theorem FnOk.imp {P : Program} {w : World} {K : PySem.W.Frag} {mg : Str → Option Value} {base : Heap} {CX : CXT} {k : Nat} {f : Addr} {fd : FuncData} {ps : List Str} {sp sp' : Sp} (F : FnOk P w K mg base CX k f fd ps sp)
    (h : ∀ vs H Q E, sp' vs H Q E → sp vs H Q E) : FnOk P w K mg base CX k f fd ps sp' :=
  ⟨fun vs H Q E q => F.len vs H Q E (h _ _ _ _ q), fun A outer s H args us vs Q E hr he hb hv hs => F.run A outer s H args us vs Q E hr he hb hv (h _ _ _ _ hs)⟩

theorem Env0.make {P : Program} {w : World} {K : PySem.W.Frag} {mg : Str → Option Value} {base : Heap} {A : Around} {outer : List Env} {s : Shared} {H : Hp} (e : Env0 P w K mg base A outer s H) (C : Addr) (us : List Value) (kw : List (Str × Value)) :
    Env0 P w K mg base (A.under (.builtin "type.__call__" ⟨.ref C :: us, kw⟩)) outer s H := ⟨by first | exact e.frames | (simpa [Around.under, Code.envs, Code.isFrame, pushEnvs] using e.frames), e.mod, e.bs, e.bsz, e.funs, e.frf, e.hok, e.bare⟩
theorem Env0.in1 {P : Program} {w : World} {K : PySem.W.Frag} {mg : Str → Option Value} {base : Heap} {A : Around} {outer : List Env} {s : Shared} {H : Hp} (e : Env0 P w K mg base A outer s H) :
    Env0 P w K mg base A.in1 outer s H := ⟨e.frames, e.mod, e.bs, e.bsz, e.funs, e.frf, e.hok, e.bare⟩

section
variable {X : Cx} {pins : List (Addr × Obj)} {σ : St} {H : Hp} {s s' : Shared}
/-- from a body: what a callee wants -/
theorem Inv.env0 (I : Inv X pins σ H s) : Env0 X.prog X.w X.K X.mg X.base X.A X.stack s H :=
  ⟨I.ok.frames, I.ok.mod, I.bs, Nat.le_trans I.ok.bsz I.sz, I.stack, I.stkFree, I.hok, I.bare⟩
/-- behind a call -/
theorem Inv.after {Q : VK} {u : Value} (I : Inv X pins σ H s) (h : CE X.stack X.prog X.w H s Q u s') : EP X pins σ Q u s' := by
  obtain ⟨v, H', os, bare, un, hok, r, q⟩ := h
  obtain ⟨hh, g, d, t, os'⟩ := s'
  obtain rfl : os' = s.os := os
  exact ⟨v, H', I.call (h' := hh) (g' := g) (d' := d) (t' := t) (ch := []) un hok bare (fun b z => absurd z (by simp)), r, q⟩
end

/-! ### calls -/
/-- f(..): the written arguments, then the defaults dvs; E: what is wanted of an exception -/
def tCall (sp : Sp) (dvs : List V) (E : XK) (t : TA) : TE := fun σ H Q => t σ H fun vs H1 => sp (vs ++ dvs) H1 Q E
/-- o.m(..) of an instance of the class at C -/
def tMeth (C : Addr) (m : Str) (sp : Sp) (dvs : List V) (E : XK) (ta : TE) (t : TA) : TE := fun σ H Q => ta σ H fun x H1 => ∃ a dx fs, x = .ref a ∧ H1 a = some (.ins C dx fs) ∧ fs.lookup m = none ∧
  t σ H1 fun vs H2 => sp (x :: (vs ++ dvs)) H2 Q E
/-- C(..): a new instance and its dict, then __init__ -/
def tMake (C : Addr) (sp : Sp) (dvs : List V) (E : XK) (t : TA) : TE := fun σ H Q => t σ H fun vs H1 => ∀ x dx, H1 x = none → H1 dx = none → dx ≠ x →
  sp (.ref x :: (vs ++ dvs)) (upd (upd H1 dx (.own x)) x (.ins C dx [])) (fun v H2 => v = .non ∧ Q (.ref x) H2) E

/-- how the parameters are bound: us the positional arguments, kw the keywords' values by name, ds the defaults that fill up -/
def Binds (K : PySem.W.Frag) (fd : FuncData) (ps : List Str) (ds : List Value) : Prop :=
  ∀ (s : Shared) (us : List Value), K.In s.heap → (us ++ ds).length = ps.length → BindsTo s fd ⟨us, []⟩ (ps.zip (us ++ ds))
/-- every parameter is given -/
theorem Binds.all {K : PySem.W.Frag} {fd : FuncData} {ps : List Str} (h : ∀ us : List Value, us.length = ps.length → bindArgs fd ⟨us, []⟩ = pure (ps.zip us)) : Binds K fd ps [] := fun s us _ hl => by
  rw [List.append_nil] at hl ⊢
  exact .of_eq (h us hl)

/-- an exception of a callee reaches what this body wants of exceptions -/
def Passes (CX : CXT) (X : Cx) (E : XK) : Prop := ∀ (pins : List (Addr × Obj)) (σ : St) (H : Hp) (s : Shared) (e : Value) (s' : Shared), Inv X pins σ H s → CX X.stack H s E e s' → X.xe e s'

section
variable {X : Cx} {CX : CXT} {k : Nat} {f C : Addr} {fd : FuncData} {ps : List Str} {sp : Sp} {dvs : List V} {ds : List Value} {E : XK} {x m : Str} {p pos apos : Pos} {e o : Expr} {es : List Expr} {ta : TE} {t : TA}

/-- the callee runs -/
theorem run_fn {pins : List (Addr × Obj)} {σ : St} {H : Hp} {s : Shared} {Q : VK} {us : List Value} {vs : List V} (F : FnOk X.prog X.w X.K X.mg X.base CX k f fd ps sp) (hr : Room k X.A) (hb : Binds X.K fd ps ds) (hd : Vals dvs ds) (hx : Passes CX X E)
    (I : Inv X pins σ H s) (r : Vals vs us) (h : sp (vs ++ dvs) H Q E) : wpAny (model X.prog X.w) X.A (call (.ref f) us) (EP X pins σ Q) X.xe s := by
  have r2 : Vals (vs ++ dvs) (us ++ ds) := r.append hd
  have hl : (us ++ ds).length = ps.length := by rw [← r2.length]; exact F.len _ _ _ _ h
  refine wpAny_call (codeAny_mono (F.run X.A X.stack s H ⟨us, []⟩ (us ++ ds) (vs ++ dvs) Q E hr I.env0 (hb s us I.kIn hl) r2 h) fun r s' hq => ?_)
  cases r with
  | error e => exact hx pins σ H s e s' I hq
  | ok fl =>
    cases fl with
    | ret u => exact I.after hq
    | next => exact False.elim hq
    | brk => exact False.elim hq
    | cont => exact False.elim hq

theorem pe_call (F : FnOk X.prog X.w X.K X.mg X.base CX k f fd ps sp) (hr : Room k X.A) (hg : Gl X x) (hm : X.mg x = some (.ref f)) (hk : PySem.W.keepIn X.K (.ref f) = true) (hb : Binds X.K fd ps ds) (hd : Vals dvs ds) (hx : Passes CX X E)
    (ha : PA X (e :: es) t) (hdb : (x == ("__debug__" : Str)) = false := by decide) (he : starEach (e :: es) X.env = (false, eval e X.env) :: starEach es X.env := by rfl) (hpl : (backTo pos (starEach es X.env)).any (·.1) = false := by rfl) :
    PE X (.Call (.Name x p) (e :: es) [] pos) (tCall sp dvs E t) := by
  intro pins s σ H Q I h
  refine wpAny_Call_Name_kw (ld_glob I hg hm ?_ hdb)
  refine PySem.W.callWith_K (h₀ := X.base) I.ok.mod.kin hk (thn (ha pos pins s σ H _ I h) fun us s1 ⟨vs, H1, I1, r, q⟩ => ⟨I1.kIn, ?_⟩) he hpl
  exact run_fn F hr hb hd hx I1 r q
theorem pe_call0 (F : FnOk X.prog X.w X.K X.mg X.base CX k f fd ps sp) (hr : Room k X.A) (hg : Gl X x) (hm : X.mg x = some (.ref f)) (hk : PySem.W.keepIn X.K (.ref f) = true) (hb : Binds X.K fd ps ds) (hd : Vals dvs ds) (hx : Passes CX X E)
    (hdb : (x == ("__debug__" : Str)) = false := by decide) : PE X (.Call (.Name x p) [] [] pos) (tCall sp dvs E tNil) := by
  intro pins s σ H Q I h
  refine wpAny_Call_Name_kw (ld_glob I hg hm ?_ hdb)
  exact PySem.W.callWith_K0 I.kIn hk (run_fn (us := []) F hr hb hd hx I .nil h)

/-- o.m(e, ..) -/
theorem pe_meth {pl : Sem Bool} (he : PE X o ta) (c : Cls X.K C) (hm : Meth X.K C m f) (F : FnOk X.prog X.w X.K X.mg X.base CX k f fd ps sp) (hr : Room k X.A) (hb : Binds X.K fd ps ds) (hd : Vals dvs ds) (hx : Passes CX X E) (ha : PA X (e :: es) t)
    (hst : starEach (e :: es) X.env = (false, eval e X.env) :: starEach es X.env := by rfl) (hpl : (backTo pos (starEach es X.env)).any (·.1) = false := by rfl)
    (ht : eval (.Call (.Attribute o m apos) (e :: es) [] pos) X.env = (do
      let ov ← eval o X.env
      standAt apos.atName
      let (f, first) ← holding [ov] (getMethod ov m pl)
      callWith pos f first (backTo pos (starEach (e :: es) X.env)) (backToKw pos (keywordEach [] X.env))) := by rfl) :
    PE X (.Call (.Attribute o m apos) (e :: es) [] pos) (tMeth C m sp dvs E ta t) := by
  intro pins s σ H Q I h
  refine PySem.W.methodCall_KW (pl := pl) (thn (he pins s σ H _ I h) fun u s1 ⟨x, H1, I1, rx, a, dx, fs, ex, ea, l, q⟩ => ?_) ht
  subst ex
  obtain rfl : u = Value.ref a := rx
  refine getmeth_ok I1 ea c hm l ?_
  refine PySem.W.callWith_K (first := [.ref a]) (h₀ := X.base) I.ok.mod.kin hm.kp (thn (ha pos pins s1 σ H1 _ I1 q) fun us s2 ⟨vs, H2, I2, r, q2⟩ => ⟨I2.kIn, ?_⟩) hst hpl
  exact run_fn (us := .ref a :: us) (vs := .ref a :: vs) F hr hb hd hx I2 (.cons rfl r) q2
/-- o.m() -/
theorem pe_meth0 {pl : Sem Bool} (he : PE X o ta) (c : Cls X.K C) (hm : Meth X.K C m f) (F : FnOk X.prog X.w X.K X.mg X.base CX k f fd ps sp) (hr : Room k X.A) (hb : Binds X.K fd ps ds) (hd : Vals dvs ds) (hx : Passes CX X E)
    (ht : eval (.Call (.Attribute o m apos) [] [] pos) X.env = (do
      let ov ← eval o X.env
      standAt apos.atName
      let (f, first) ← holding [ov] (getMethod ov m pl)
      callWith pos f first (backTo pos (starEach [] X.env)) (backToKw pos (keywordEach [] X.env))) := by rfl) :
    PE X (.Call (.Attribute o m apos) [] [] pos) (tMeth C m sp dvs E ta tNil) := by
  intro pins s σ H Q I h
  refine PySem.W.methodCall_KW (pl := pl) (thn (he pins s σ H _ I h) fun u s1 ⟨x, H1, I1, rx, a, dx, fs, ex, ea, l, q⟩ => ?_) ht
  subst ex
  obtain rfl : u = Value.ref a := rx
  refine getmeth_ok I1 ea c hm l ?_
  exact PySem.W.callWith_K0 (first := [.ref a]) I1.kIn hm.kp (run_fn (us := [.ref a]) (vs := [.ref a]) F hr hb hd hx I1 (.cons rfl .nil) q)

/-- what a class must have to be made -/
structure Mk (K : PySem.W.Frag) (C f : Addr) : Prop where
  makes : PySem.W.makesIn K C = true
  init : PySem.W.findIn K (.ref C) "__init__" = some (some (.ref f))
  fn : PySem.W.isFn K (.ref f) = true
  kp : PySem.W.keepIn K (.ref C) = true

theorem run_make {pins : List (Addr × Obj)} {σ : St} {H : Hp} {s : Shared} {Q : VK} {us : List Value} {vs : List V} (M : Mk X.K C f) (F : FnOk X.prog X.w X.K X.mg X.base CX k f fd ps sp) (hr : Room (k + 1) X.A) (hb : Binds X.K fd ps ds) (hd : Vals dvs ds)
    (hx : Passes CX X E) (I : Inv X pins σ H s) (r : Vals vs us)
    (h : ∀ x dx, H x = none → H dx = none → dx ≠ x → sp (.ref x :: (vs ++ dvs)) (upd (upd H dx (.own x)) x (.ins C dx [])) (fun v H2 => v = .non ∧ Q (.ref x) H2) E) :
    wpAny (model X.prog X.w) X.A (call (.ref C) us) (EP X pins σ Q) X.xe s := by
  have hq := h (s.heap.objs.size + 1) s.heap.objs.size (I.hok.fresh (Nat.le_succ _)) (I.hok.fresh (Nat.le_refl _)) (Nat.ne_of_lt (Nat.lt_succ_self _))
  have I2 := Inv.made (C := C) I
  have r2 : Vals (V.ref (s.heap.objs.size + 1) :: (vs ++ dvs)) (Value.ref (s.heap.objs.size + 1) :: (us ++ ds)) := .cons rfl (r.append hd)
  have hl : (Value.ref (s.heap.objs.size + 1) :: us ++ ds).length = ps.length := by
    have e := r2.length
    rw [F.len _ _ _ _ hq] at e
    exact e.symm
  refine wpAny_call (make_map (f := f) I.kIn M.makes M.init (beq_iff_eq.mp M.fn) (codeAny_mono (F.run _ X.stack _ _ ⟨Value.ref (s.heap.objs.size + 1) :: us, []⟩ (Value.ref (s.heap.objs.size + 1) :: (us ++ ds)) _ _ E (hr.make C us [])
    (I2.env0.make C us []) (hb _ (Value.ref (s.heap.objs.size + 1) :: us) I2.kIn hl) r2 hq) fun r s' hq' => ?_))
  cases r with
  | error e => exact hx pins σ _ _ e s' I2 hq'
  | ok fl =>
    cases fl with
    | ret u =>
      obtain ⟨v, H', I3, rv, ev, q3⟩ := I2.after hq'
      subst ev
      exact ⟨rv, ⟨V.ref (s.heap.objs.size + 1), H', I3, rfl, q3⟩⟩
    | next => exact False.elim hq'
    | brk => exact False.elim hq'
    | cont => exact False.elim hq'
theorem pe_make (M : Mk X.K C f) (F : FnOk X.prog X.w X.K X.mg X.base CX k f fd ps sp) (hr : Room (k + 1) X.A) (hg : Gl X x) (hm : X.mg x = some (.ref C)) (hb : Binds X.K fd ps ds) (hd : Vals dvs ds) (hx : Passes CX X E)
    (ha : PA X (e :: es) t) (hdb : (x == ("__debug__" : Str)) = false := by decide) (he : starEach (e :: es) X.env = (false, eval e X.env) :: starEach es X.env := by rfl) (hpl : (backTo pos (starEach es X.env)).any (·.1) = false := by rfl) :
    PE X (.Call (.Name x p) (e :: es) [] pos) (tMake C sp dvs E t) := by
  intro pins s σ H Q I h
  refine wpAny_Call_Name_kw (ld_glob I hg hm ?_ hdb)
  refine PySem.W.callWith_K (h₀ := X.base) I.ok.mod.kin M.kp (thn (ha pos pins s σ H _ I h) fun us s1 ⟨vs, H1, I1, r, q⟩ => ⟨I1.kIn, ?_⟩) he hpl
  exact run_make M F hr hb hd hx I1 r q
theorem pe_make0 (M : Mk X.K C f) (F : FnOk X.prog X.w X.K X.mg X.base CX k f fd ps sp) (hr : Room (k + 1) X.A) (hg : Gl X x) (hm : X.mg x = some (.ref C)) (hb : Binds X.K fd ps ds) (hd : Vals dvs ds) (hx : Passes CX X E)
    (hdb : (x == ("__debug__" : Str)) = false := by decide) : PE X (.Call (.Name x p) [] [] pos) (tMake C sp dvs E tNil) := by
  intro pins s σ H Q I h
  refine wpAny_Call_Name_kw (ld_glob I hg hm ?_ hdb)
  exact PySem.W.callWith_K0 I.kIn M.kp (run_make (us := []) M F hr hb hd hx I .nil h)
end

/-! ### keywords -/
/-- the values of the keywords, from the left -/
def PK (X : Cx) (kws : List Keyword) (t : TA) : Prop :=
  ∀ (pos : Pos) (pins : List (Addr × Obj)) (s : Shared) (σ : St) (H : Hp) (Q : List V → Hp → Prop), Inv X pins σ H s → t σ H Q → wpAny (model X.prog X.w) X.A (evalAll ((backToKw pos (keywordEach kws X.env)).map (·.2))) (AP X pins σ Q) X.xe s
section
variable {X : Cx} {CX : CXT} {k : Nat} {f C : Addr} {fd : FuncData} {ps ks : List Str} {sp : Sp} {E : XK} {x m : Str} {p pos apos kpos : Pos} {e o : Expr} {es : List Expr} {kws : List Keyword} {te ta : TE} {t tk : TA} {nm : Option Str}
theorem pk_nil : PK X [] tNil := fun _ _ _ _ H Q I h => wpAny_evalAll_nil ⟨[], H, I, .nil, h⟩
theorem pk_cons (ha : PE X e te) (hr : PK X kws t) : PK X (⟨nm, e, kpos⟩ :: kws) (tCons te t) := by
  intro pos pins s σ H Q I h
  show wpAny _ _ (evalAll ((do let v ← eval e X.env; standAt pos; pure v) :: (backToKw pos (keywordEach kws X.env)).map (·.2))) _ _ s
  refine wpAny_evalAll_cons (wpAny_bind (thn (ha pins s σ H _ I h) fun u s1 ⟨x, H1, I1, r1, q1⟩ => wpAny_bind (wpAny_standAt (wpAny_pure ?_))))
  exact thn (hr pos pins s1 σ H1 _ I1 q1) fun us s2 ⟨xs, H2, I2, r2, q2⟩ => ⟨x :: xs, H2, I2, .cons r1 r2, q2⟩

/-- how a call with keywords binds: g puts the positional values us and the keywords' values ws (names ks) in the parameters' order, defaults among them -/
structure KBinds (K : PySem.W.Frag) (fd : FuncData) (ps ks : List Str) (g : List Value → List Value → List Value) (gV : List V → List V → List V) : Prop where
  to : ∀ (s : Shared) (us ws : List Value), K.In s.heap → (g us ws).length = ps.length → BindsTo s fd ⟨us, ks.zip ws⟩ (ps.zip (g us ws))
  rel : ∀ {vs : List V} {us : List Value} {zs : List V} {ws : List Value}, Vals vs us → Vals zs ws → Vals (gV vs zs) (g us ws)
def tCallK (sp : Sp) (gV : List V → List V → List V) (E : XK) (t tk : TA) : TE := fun σ H Q => t σ H fun vs H1 => tk σ H1 fun zs H2 => sp (gV vs zs) H2 Q E
variable {g : List Value → List Value → List Value} {gV : List V → List V → List V}
theorem run_fnk {pins : List (Addr × Obj)} {σ : St} {H : Hp} {s : Shared} {Q : VK} {us ws : List Value} {vs zs : List V} (F : FnOk X.prog X.w X.K X.mg X.base CX k f fd ps sp) (hr : Room k X.A) (hb : KBinds X.K fd ps ks g gV) (hx : Passes CX X E)
    (I : Inv X pins σ H s) (r : Vals vs us) (rz : Vals zs ws) (h : sp (gV vs zs) H Q E) : wpAny (model X.prog X.w) X.A (call (.ref f) us (ks.zip ws)) (EP X pins σ Q) X.xe s := by
  have r2 := hb.rel r rz
  have hl : (g us ws).length = ps.length := by rw [← r2.length]; exact F.len _ _ _ _ h
  refine wpAny_call (codeAny_mono (F.run X.A X.stack s H ⟨us, ks.zip ws⟩ (g us ws) (gV vs zs) Q E hr I.env0 (hb.to s us ws I.kIn hl) r2 h) fun r s' hq => ?_)
  cases r with
  | error e => exact hx pins σ H s e s' I hq
  | ok fl =>
    cases fl with
    | ret u => exact I.after hq
    | next => exact False.elim hq
    | brk => exact False.elim hq
    | cont => exact False.elim hq
/-- f(e, .., k = v, ..) -/
theorem pe_callK (F : FnOk X.prog X.w X.K X.mg X.base CX k f fd ps sp) (hr : Room k X.A) (hg : Gl X x) (hm : X.mg x = some (.ref f)) (hk : PySem.W.keepIn X.K (.ref f) = true) (hb : KBinds X.K fd ps ks g gV) (hx : Passes CX X E)
    (ha : PA X (e :: es) t) (hkw : PK X kws tk) (hall : (backToKw pos (keywordEach kws X.env)).all (·.1.isSome) = true := by rfl) (hks : (backToKw pos (keywordEach kws X.env)).filterMap (·.1) = ks := by rfl)
    (hdb : (x == ("__debug__" : Str)) = false := by decide) (he : starEach (e :: es) X.env = (false, eval e X.env) :: starEach es X.env := by rfl)
    (hpl : ((backTo pos (starEach (e :: es) X.env)).any (·.1) || (backToKw pos (keywordEach kws X.env)).any (·.1.isNone)) = false := by rfl) :
    PE X (.Call (.Name x p) (e :: es) kws pos) (tCallK sp gV E t tk) := by
  intro pins s σ H Q I h
  refine wpAny_Call_Name_kw (ld_glob I hg hm ?_ hdb)
  refine PySem.W.callWith_KW (h₀ := X.base) I.ok.mod.kin hk hall (thn (ha pos pins s σ H _ I h) fun us s1 ⟨vs, H1, I1, r, q⟩ => ?_) hpl he
  refine thn (hkw pos pins s1 σ H1 _ I1 q) fun ws s2 ⟨zs, H2, I2, rz, q2⟩ => ⟨I2.kIn, ?_⟩
  rw [hks]
  exact run_fnk F hr hb hx I2 r rz q2
end

/-! ### a def's body keeps its promise -/
/-- names: the parameters first -/
structure FnScope (N P : List Str) (sc : Scope) : Prop where
  kind : sc.kind = .function
  co : sc.isCoroutine = false
  gen : sc.isGenerator = false
  nd : N.Nodup
  pre : N.take P.length = P
  par : ∀ x ∈ P, sc.names.lookup x = some .local ∨ sc.names.lookup x = some .cell
  nofree : ∀ y ∈ sc.names, y.2 ≠ .free

theorem bindL_out {kindOf : Str → Option NameKind} {x : Str} : ∀ {binds : List (Str × Value)} {m : Str → Option Value}, (∀ v, (x, v) ∉ binds) → bindL kindOf binds m x = m x
  | [], _, _ => rfl
  | (n, v) :: r, m, h => by
    unfold bindL
    rw [bindL_out fun w hw => h w (List.mem_cons_of_mem _ hw)]
    split
    · have : x ≠ n := by rintro rfl; exact h v List.mem_cons_self
      simp [this]
    · rfl
theorem bindC_out {kindOf : Str → Option NameKind} {x : Str} : ∀ {binds : List (Str × Value)} {m : Str → Option Value}, (∀ v, (x, v) ∉ binds) → bindC kindOf binds m x = m x
  | [], _, _ => rfl
  | (n, v) :: r, m, h => by
    unfold bindC
    rw [bindC_out fun w hw => h w (List.mem_cons_of_mem _ hw)]
    split
    · rfl
    · have : x ≠ n := by rintro rfl; exact h v List.mem_cons_self
      simp [this]
theorem bindL_get {kindOf : Str → Option NameKind} {x : Str} {v : Value} : ∀ {P : List Str} {vs : List Value} {i : Nat} {m : Str → Option Value}, P.Nodup → P[i]? = some x → vs[i]? = some v → kindOf x = some .local →
    bindL kindOf (P.zip vs) m x = some v
  | [], _, _, _, _, h, _, _ => by simp at h
  | _ :: _, [], _, _, _, _, h, _ => by simp at h
  | p :: P, w :: vs, 0, m, nd, h1, h2, hk => by
    simp at h1 h2; subst h1; subst h2
    show bindL kindOf ((p, w) :: P.zip vs) m p = _
    unfold bindL
    rw [bindL_out fun v hv => (List.nodup_cons.mp nd).1 (List.of_mem_zip hv).1, if_pos hk]
    simp
  | p :: P, w :: vs, i + 1, m, nd, h1, h2, hk => by
    show bindL kindOf ((p, w) :: P.zip vs) m x = _
    unfold bindL
    exact bindL_get (i := i) (List.nodup_cons.mp nd).2 (by simpa using h1) (by simpa using h2) hk
theorem bindC_get {kindOf : Str → Option NameKind} {x : Str} {v : Value} : ∀ {P : List Str} {vs : List Value} {i : Nat} {m : Str → Option Value}, P.Nodup → P[i]? = some x → vs[i]? = some v → kindOf x ≠ some .local →
    bindC kindOf (P.zip vs) m x = some v
  | [], _, _, _, _, h, _, _ => by simp at h
  | _ :: _, [], _, _, _, _, h, _ => by simp at h
  | p :: P, w :: vs, 0, m, nd, h1, h2, hk => by
    simp at h1 h2; subst h1; subst h2
    show bindC kindOf ((p, w) :: P.zip vs) m p = _
    unfold bindC
    rw [bindC_out fun v hv => (List.nodup_cons.mp nd).1 (List.of_mem_zip hv).1, if_neg hk]
    simp
  | p :: P, w :: vs, i + 1, m, nd, h1, h2, hk => by
    show bindC kindOf ((p, w) :: P.zip vs) m x = _
    unfold bindC
    exact bindC_get (i := i) (List.nodup_cons.mp nd).2 (by simpa using h1) (by simpa using h2) hk

/-- the names' values at the entry -/
def start (N : List Str) (vs : List V) : St := vs.map some ++ List.replicate (N.length - vs.length) none

/-- the context of a def's body, at its entry; an exception leaves the frame, then lies as CX says -/
def cxOf (CX : CXT) (P : Program) (w : World) (K : PySem.W.Frag) (mg : Str → Option Value) (base : Heap) (N : List Str) (qual : Str) (scope : Scope) (f : Addr) (cd : Value) (A : Around) (outer : List Env) (s : Shared) (H : Hp) (E : XK) : Cx where
  prog := P
  w := w
  K := K
  mg := mg
  base := base
  A := A.deeper (envOfC qual scope s.heap.objs.size f cd)
  N := N
  s₀ := s
  H₀ := H
  env := envOfC qual scope s.heap.objs.size f cd
  outer := outer
  stack := envOfC qual scope s.heap.objs.size f cd :: outer
  ex := []
  calm := true
  fn := fun _ => true
  pn := []
  xe := fun e s' => wpAny (model P w) (A.deeper (envOfC qual scope s.heap.objs.size f cd)) (leaving (envOfC qual scope s.heap.objs.size f cd) e) (fun _ s'' => CX outer H s E e s'') (fun e' s'' => CX outer H s E e' s'') s'

theorem cell_has {sc : Scope} {n : Nat} {x : Str} (h : sc.names.lookup x = some .cell) : ∃ c, (cellsFrom n sc.names []).lookup x = some c := by
  have q := PySem.W.cellsFrom_some sc.names n [] (.inl h)
  exact Option.isSome_iff_exists.mp q

theorem inv_start {CX : CXT} {P : Program} {w : World} {K : PySem.W.Frag} {mg : Str → Option Value} {base : Heap} {N ps : List Str} {qual : Str} {scope : Scope} {f : Addr} {cd : Value} {A : Around} {outer : List Env} {s s1 : Shared} {H : Hp} {E : XK} {us : List Value} {vs : List V}
    (S : FnScope N ps scope) (hd : A.handled = none) (e0 : Env0 P w K mg base A outer s H) (hl : vs.length = ps.length) (r : Vals vs us)
    (x : InCallC s s.heap.objs.size (bindL (envOfC qual scope s.heap.objs.size f cd).kindOf (ps.zip us) fun _ => none) (cellsFrom (s.heap.objs.size + 1) scope.names []) (bindC (envOfC qual scope s.heap.objs.size f cd).kindOf (ps.zip us) fun _ => none) s1) :
    Inv (cxOf CX P w K mg base N qual scope f cd A outer s H E) [] (start N vs) H s1 := by
  have hpl : ps.length ≤ N.length := by have := congrArg List.length S.pre; rw [List.length_take] at this; omega
  obtain ⟨h1, tk, rfl, hk⟩ := x.done
  have noA : ∀ b : Addr, b ∉ (cxOf CX P w K mg base N qual scope f cd A outer s H E).ex := fun b z => absurd (show b ∈ ([] : List Addr) from z) (by simp)
  refine ⟨⟨e0.mod, S.kind, rfl, rfl, Nat.le_refl _, fun y z c h1 h2 => ?_, fun y hy => ?_, fun y c _ h => ?_, fun _ => hd, Around.frames_deeper e0.frames, .inr ⟨rfl, rfl⟩, fun b z => absurd z (noA b), e0.bs, e0.bsz, fun b _ _ => noA b, fun b z => absurd z (noA b), e0.funs, e0.frf⟩,
    rfl, e0.bare, Un.kept hk, ⟨_, x.toInCall.ns, fun i y v h1 h2 h3 => ?_⟩, fun y c h => ⟨_, x.cell y c h⟩, e0.hok.fresh (Nat.le_refl _), fun y c h => ?_, fun p hp => absurd (show p ∈ ([] : List (Addr × Obj)) from hp) (by simp), e0.hok.kept hk, ?_⟩
  · exact name_of_addr x.apart (PySem.mem_of_lookup h1) (PySem.mem_of_lookup h2)
  · have hy : scope.names.lookup y = some .cell ∨ scope.names.lookup y = some .free := hy
    rcases hy with hy | hy
    · exact cell_has hy
    · exact absurd rfl (S.nofree _ (PySem.mem_of_lookup hy))
  · exact Nat.le_of_lt (x.above y c (PySem.mem_of_lookup h))
  · have hi : i < vs.length := by
      unfold start at h2
      by_cases hi : i < vs.length
      · exact hi
      · rw [List.getElem?_append_right (by simpa using hi)] at h2
        rw [List.getElem?_replicate] at h2
        split at h2 <;> cases h2
    have ha : vs[i]? = some v := by
      unfold start at h2
      rw [List.getElem?_append_left (by simpa using hi), List.getElem?_map] at h2
      cases e : vs[i]? with
      | none => rw [e] at h2; cases h2
      | some a => rw [e] at h2; cases h2; rfl
    obtain ⟨u, hu, rv⟩ := r.get ha
    have hp : ps[i]? = some y := by
      rw [← S.pre, List.getElem?_take_of_lt (by omega)]; exact h1
    have ndP : ps.Nodup := by rw [← S.pre]; exact S.nd.sublist (List.take_sublist _ _)
    refine ⟨u, rv, ?_⟩
    rcases S.par y (List.mem_of_getElem? hp) with k | k
    · exact .inl ⟨k, bindL_get ndP hp hu k⟩
    · obtain ⟨c, e⟩ := cell_has (n := s.heap.objs.size + 1) k
      refine .inr ⟨.inl k, c, e, ?_⟩
      have q := x.cell y c e
      rw [bindC_get ndP hp hu (by show scope.names.lookup y ≠ _; rw [k]; decide)] at q
      exact q
  · exact e0.hok.fresh (Nat.le_of_lt (x.above y c (PySem.mem_of_lookup h)))
  · unfold start
    show _ = N.length
    rw [List.length_append, List.length_map, List.length_replicate]
    omega

/-- THE RULE: a def (or a method) of the text, by its body. The body's reading t is chosen for each entry; it is run at the parameters' values -/
theorem fn_of {CX : CXT} {P : Program} {w : World} {K : PySem.W.Frag} {mg : Str → Option Value} {base : Heap} {k : Nat} {f : Addr} {name qual : Str} {params : Arguments} {body : List Stmt} {scope : Scope} {dV kV doc pm cdv ct oc : Value} {an od : Option Addr}
    {osl : Array (Option Value)} {N ps : List Str} {sp : Sp} (lk : K.lookup f = some ⟨oc, od, .func (PySem.W.fnOf name qual params body scope dV kV doc pm an cdv ct), osl⟩) (hcd : PySem.W.codeIn K cdv qual = true) (S : FnScope N ps scope)
    (len : ∀ vs H Q E, sp vs H Q E → vs.length = ps.length)
    (hbody : ∀ (A : Around) (outer : List Env) (s : Shared) (H : Hp) (vs : List V) (Q : VK) (E : XK), Room k (A.deeper (envOfC qual scope s.heap.objs.size f cdv)) → sp vs H Q E →
      ∃ t, PSs (cxOf CX P w K mg base N qual scope f cdv A outer s H E) body t ∧ t { nx := fun _ H' => Q .non H', rt := Q } (start N vs) H) :
    FnOk P w K mg base CX (k + 1) f (PySem.W.fnOf name qual params body scope dV kV doc pm an cdv ct) ps sp := by
  refine ⟨len, fun A outer s H args us vs Q E hr e0 hb r hsp => ?_⟩
  have hl := len _ _ _ _ hsp
  have KX : K.In s.heap := e0.mod.kin.keeps fun b o e => (e0.bs b o e).1
  have lim : s.heap.NoLimit := e0.mod.nolimit.keeps fun b o e => (e0.bs b o e).1
  have hkind : ∀ y ∈ ps.zip us, scope.names.lookup y.1 = some .local ∨ (scope.names.lookup y.1 = some .cell ∧ ((cellsFrom (s.heap.objs.size + 1) scope.names []).lookup y.1).isSome = true) := fun ⟨n, v⟩ hy => by
    rcases S.par n (List.of_mem_zip hy).1 with q | q
    · exact .inl q
    · exact .inr ⟨q, PySem.W.cellsFrom_some _ _ _ (.inl q)⟩
  refine codeAny_call_function hr.depth (KX _ _ lk) rfl S.co S.gen rfl (PySem.W.codeRec_of KX hcd) (hb _ _ _ _ ?_)
  refine wpAny_newFunctionEnv_cells S.kind hkind fun env he s1 x => ?_
  subst he
  refine ⟨lim.keeps x.toInCall.keep, codeAny_func ?_⟩
  obtain ⟨t, ht, hq⟩ := hbody A outer s H vs Q E (hr.deeper _) hsp
  have I : Inv (cxOf CX P w K mg base N qual scope f cdv A outer s H E) [] (start N vs) H s1 := inv_start S hr.hd e0 hl r x
  refine wpAny_mono (ht [] s1 (start N vs) H _ I hq) (fun fl s' hs => ?_) fun e s' hs => hs
  have fin : ∀ {σ' : St} {H' : Hp} {v : V} {u : Value}, Inv (cxOf CX P w K mg base N qual scope f cdv A outer s H E) [] σ' H' s' → RelV v u → Q v H' → CE outer P w H s Q u s' :=
    fun {σ' H' v u} J rv q => ⟨v, H', J.os, J.bare, J.base, J.hok, rv, q⟩
  cases fl with
  | ret u =>
    obtain ⟨v, σ', H', J, rv, q⟩ := hs
    exact fin J rv q
  | next =>
    obtain ⟨σ', H', J, q⟩ := hs
    exact fin (v := V.non) (u := Value.none) J rfl q
  | brk =>
    obtain ⟨_, _, _, q⟩ := hs
    exact False.elim q
  | cont =>
    obtain ⟨_, _, _, q⟩ := hs
    exact False.elim q
end L2

namespace L2
open PySem PySem.Spec PyProof.Rows
section
variable {X : Cx} {x : Str} {p pos : Pos} {e : Expr} {es : List Expr} {t : TA} {id T : String} {r : List V → Hp → VK → Prop}

def tCB (r : List V → Hp → VK → Prop) (t : TA) : TE := fun σ H Q => t σ H fun vs H1 => r vs H1 Q
/-- f(e, ..), f a built-in function -/
theorem pe_callB (hc : CallR X (.builtin id) r) (hg : Gl X x) (hm : X.mg x = none) (hv : bootBuiltins x = some (.builtin id)) (ha : PA X (e :: es) t) (hn : x ≠ "__name__" := by decide) (hdb : (x == ("__debug__" : Str)) = false := by decide)
    (he : starEach (e :: es) X.env = (false, eval e X.env) :: starEach es X.env := by rfl) (hpl : (backTo pos (starEach es X.env)).any (·.1) = false := by rfl) : PE X (.Call (.Name x p) (e :: es) [] pos) (tCB r t) := by
  intro pins s σ H Q I h
  refine wpAny_Call_Name_kw (ld_blt I hg hm hv ?_ hn hdb)
  exact PyProof.Rows.callWith_builtin1 (thn (ha pos pins s σ H _ I h) fun us s1 ⟨vs, H1, I1, r1, q1⟩ => hc pins s1 σ H1 vs us Q I1 r1 q1) he hpl
/-- T(e, ..), T a built-in type -/
theorem pe_callTy (hc : CallR X (.type T) r) (hg : Gl X x) (hm : X.mg x = none) (hv : bootBuiltins x = some (.type T)) (ha : PA X (e :: es) t) (hn : x ≠ "__name__" := by decide) (hdb : (x == ("__debug__" : Str)) = false := by decide)
    (he : starEach (e :: es) X.env = (false, eval e X.env) :: starEach es X.env := by rfl) (hpl : (backTo pos (starEach es X.env)).any (·.1) = false := by rfl) : PE X (.Call (.Name x p) (e :: es) [] pos) (tCB r t) := by
  intro pins s σ H Q I h
  refine wpAny_Call_Name_kw (ld_blt I hg hm hv ?_ hn hdb)
  exact PyProof.Rows.callWith_type1 (thn (ha pos pins s σ H _ I h) fun us s1 ⟨vs, H1, I1, r1, q1⟩ => hc pins s1 σ H1 vs us Q I1 r1 q1) he hpl
/-- T() -/
theorem pe_callTy0 (hc : CallR X (.type T) r) (hg : Gl X x) (hm : X.mg x = none) (hv : bootBuiltins x = some (.type T)) (hn : x ≠ "__name__" := by decide) (hdb : (x == ("__debug__" : Str)) = false := by decide) :
    PE X (.Call (.Name x p) [] [] pos) (tCB r tNil) := by
  intro pins s σ H Q I h
  refine wpAny_Call_Name_kw (ld_blt I hg hm hv ?_ hn hdb)
  exact PyProof.Rows.callWith_type0 (hc pins s σ H [] [] Q I .nil h)
end
end L2

namespace L2
open PySem PySem.Spec PyProof.Rows

/-! ### lists of pairs as tables -/
section
variable {κ : Type} [DecidableEq κ]
def valV (kvs : List (κ × V)) (k : κ) : Option V := (kvs.find? fun kv => decide (kv.1 = k)).map (·.2)
/-- in its place, or at the end -/
def putK (kvs : List (κ × V)) (k : κ) (v : V) : List (κ × V) :=
  if (kvs.any fun kv => decide (kv.1 = k)) = true then kvs.map (fun kv => if kv.1 = k then (kv.1, v) else kv) else kvs ++ [(k, v)]
def dropK (kvs : List (κ × V)) (k : κ) : List (κ × V) := kvs.filter fun kv => decide (kv.1 ≠ k)

theorem valV_nil {k : κ} : valV ([] : List (κ × V)) k = none := rfl
theorem valV_pos {p : κ × V} {r : List (κ × V)} {k : κ} (e : p.1 = k) : valV (p :: r) k = some p.2 := by simp [valV, List.find?_cons, e]
theorem valV_neg {p : κ × V} {r : List (κ × V)} {k : κ} (e : ¬ p.1 = k) : valV (p :: r) k = valV r k := by simp [valV, List.find?_cons, e]
theorem valV_any (k : κ) : ∀ kvs : List (κ × V), (kvs.any fun kv => decide (kv.1 = k)) = (valV kvs k).isSome
  | [] => rfl
  | p :: r => by
    rw [List.any_cons]
    by_cases e : p.1 = k
    · simp only [valV_pos e, decide_eq_true e, Bool.true_or, Option.isSome_some]
    · rw [valV_neg e, decide_eq_false e, Bool.false_or]; exact valV_any k r
theorem valV_map (k j : κ) (y : V) : ∀ kvs : List (κ × V), valV (kvs.map fun kv => if kv.1 = k then (kv.1, y) else kv) j = (valV kvs j).map fun x => if j = k then y else x
  | [] => rfl
  | p :: r => by
    have ih := valV_map k j y r
    rw [List.map_cons]
    by_cases h : p.1 = k
    · rw [if_pos h]
      by_cases e : p.1 = j
      · rw [valV_pos (p := (p.1, y)) e, valV_pos e, Option.map_some, if_pos (e.symm.trans h)]
      · rw [valV_neg (p := (p.1, y)) e, valV_neg e, ih]
    · rw [if_neg h]
      by_cases e : p.1 = j
      · rw [valV_pos (p := p) e, valV_pos e, Option.map_some, if_neg (fun z => h (e.trans z))]
      · rw [valV_neg (p := p) e, valV_neg e, ih]
theorem valV_snoc (k j : κ) (y : V) : ∀ kvs : List (κ × V), valV kvs k = none → valV (kvs ++ [(k, y)]) j = if j = k then some y else valV kvs j
  | [], _ => by
    by_cases e : k = j
    · rw [if_pos e.symm]; exact valV_pos (p := (k, y)) e
    · rw [if_neg (fun z => e z.symm)]; exact valV_neg (p := (k, y)) e
  | p :: r, hn => by
    rw [List.cons_append]
    have hk : ¬ p.1 = k := fun z => by rw [valV_pos z] at hn; cases hn
    rw [valV_neg hk] at hn
    have ih := valV_snoc k j y r hn
    by_cases e : p.1 = j
    · rw [valV_pos e, valV_pos e, if_neg (fun z => hk (e.trans z))]
    · rw [valV_neg e, valV_neg e, ih]
theorem valV_put (kvs : List (κ × V)) (k j : κ) (y : V) : valV (putK kvs k y) j = if j = k then some y else valV kvs j := by
  unfold putK
  by_cases a : (kvs.any fun kv => decide (kv.1 = k)) = true
  · rw [if_pos a, valV_map]
    rw [valV_any] at a
    by_cases e : j = k
    · obtain ⟨x, hx⟩ := Option.isSome_iff_exists.mp a
      rw [if_pos e, e, hx, Option.map_some, if_pos rfl]
    · rw [if_neg e]
      cases valV kvs j with
      | none => rfl
      | some x => rw [Option.map_some, if_neg e]
  · rw [if_neg a]
    refine valV_snoc k j y kvs ?_
    rw [valV_any] at a
    cases q : valV kvs k with
    | none => rfl
    | some x => rw [q] at a; exact (a rfl).elim
theorem length_putK (kvs : List (κ × V)) (k : κ) (v : V) : (putK kvs k v).length ≤ kvs.length + 1 := by
  unfold putK
  split
  · rw [List.length_map]; omega
  · rw [List.length_append, List.length_cons, List.length_nil]; omega
theorem putK_new {kvs : List (κ × V)} {k : κ} (v : V) (h : valV kvs k = none) : putK kvs k v = kvs ++ [(k, v)] := by
  unfold putK
  rw [valV_any, h]
  exact if_neg (by decide)

theorem RelO.isSome_eq {o : Option V} {u : Option Value} (r : RelO o u) : o.isSome = u.isSome := by
  cases o with
  | none => cases u with
    | none => rfl
    | some _ => exact (show False from r).elim
  | some _ => cases u with
    | none => exact (show False from r).elim
    | some _ => rfl
theorem RelO.getD {o : Option V} {u : Option Value} {d : V} {d' : Value} (r : RelO o u) (rd : RelV d d') : RelV (o.getD d) (u.getD d') := by
  cases o with
  | none => cases u with
    | none => exact rd
    | some _ => exact (show False from r).elim
  | some _ => cases u with
    | none => exact (show False from r).elim
    | some _ => exact r

/-- raw tables of the same keys -/
theorem KV.val {kvs : List (κ × V)} {vs : List (κ × Value)} (r : KV kvs vs) (k : κ) : RelO (valV kvs k) (valueAt vs k) := by
  unfold KV at r
  induction r with
  | nil => exact True.intro
  | @cons p q ps qs h t ih =>
    obtain ⟨h1, h2⟩ := h
    by_cases e : p.1 = k
    · have e' : q.1 = k := h1.symm.trans e
      have b : valueAt (q :: qs) k = some q.2 := by simp [valueAt, List.find?_cons, e']
      rw [valV_pos e, b]; exact h2
    · have e' : ¬ q.1 = k := fun z => e (h1.trans z)
      have b : valueAt (q :: qs) k = valueAt qs k := by simp [valueAt, List.find?_cons, e']
      rw [valV_neg e, b]; exact ih
theorem KV.any {kvs : List (κ × V)} {vs : List (κ × Value)} (r : KV kvs vs) (k : κ) : (kvs.any fun kv => decide (kv.1 = k)) = vs.any fun kv => decide (kv.1 = k) := by
  unfold KV at r
  induction r with
  | nil => rfl
  | cons h t ih => rw [List.any_cons, List.any_cons, ih, h.1]
theorem KV.repl {kvs : List (κ × V)} {vs : List (κ × Value)} (r : KV kvs vs) (k : κ) {y : V} {u : Value} (ry : RelV y u) :
    KV (kvs.map fun kv => if kv.1 = k then (kv.1, y) else kv) (vs.map fun kv => if kv.1 = k then (kv.1, u) else kv) := by
  unfold KV at r ⊢
  induction r with
  | nil => exact .nil
  | @cons p q ps qs h t ih =>
    rw [List.map_cons, List.map_cons]
    refine .cons ?_ ih
    obtain ⟨h1, h2⟩ := h
    by_cases e : p.1 = k
    · rw [if_pos e, if_pos (h1.symm.trans e)]; exact ⟨h1, ry⟩
    · rw [if_neg e, if_neg (fun z => e (h1.trans z))]; exact ⟨h1, h2⟩
theorem KV.put {kvs : List (κ × V)} {vs : List (κ × Value)} (r : KV kvs vs) (k : κ) {y : V} {u : Value} (ry : RelV y u) : KV (putK kvs k y) (stored vs k u) := by
  unfold putK stored
  rw [r.any k]
  by_cases e : (vs.any fun kv => decide (kv.1 = k)) = true
  · rw [if_pos e, if_pos e]; exact r.repl k ry
  · rw [if_neg e, if_neg e]; exact Paired.snoc r ⟨rfl, ry⟩
theorem KV.drop {kvs : List (κ × V)} {vs : List (κ × Value)} (r : KV kvs vs) (k : κ) : KV (dropK kvs k) (without vs k) := by
  unfold KV at r ⊢
  unfold dropK without
  induction r with
  | nil => exact .nil
  | @cons p q ps qs h t ih =>
    obtain ⟨h1, h2⟩ := h
    rw [List.filter_cons, List.filter_cons]
    by_cases e : p.1 = k
    · have a : ¬ decide (p.1 ≠ k) = true := by simp [e]
      have b : ¬ decide (q.1 ≠ k) = true := by simp [h1.symm.trans e]
      rw [if_neg a, if_neg b]; exact ih
    · have e' : ¬ q.1 = k := fun z => e (h1.trans z)
      have a : decide (p.1 ≠ k) = true := by simp [e]
      have b : decide (q.1 ≠ k) = true := by simp [e']
      rw [if_pos a, if_pos b]; exact .cons ⟨h1, h2⟩ ih
theorem KV.keys {kvs : List (κ × V)} {vs : List (κ × Value)} (r : KV kvs vs) : kvs.map (·.1) = vs.map (·.1) := by
  unfold KV at r
  induction r with
  | nil => rfl
  | cons h t ih => rw [List.map_cons, List.map_cons, ih, h.1]
theorem KV.length {kvs : List (κ × V)} {vs : List (κ × Value)} (r : KV kvs vs) : kvs.length = vs.length := Paired.length r
theorem dropK_le (kvs : List (κ × V)) (k : κ) : (dropK kvs k).length ≤ kvs.length := List.length_filter_le _ _
end


/-! ### a tracked dict, its keys ints and texts or tuples of these -/
theorem kV_is {P : Program} {w : World} {k : Key} {u : Value} (r : RelV (kV k) u) : (mixKind P w).is k u = true := by
  cases k with
  | inl i => obtain ⟨t, e⟩ := (show ∃ t, u = Value.int i t from r); subst e; exact mixKind_int P w i t
  | inr x => obtain ⟨t, e⟩ := (show ∃ t, u = Value.str x t from r); subst e; exact mixKind_str P w x t
theorem kV_inj {a b : Key} (e : kV a = kV b) : a = b := by
  cases a with
  | inl i => cases b with
    | inl j => have e' : V.int i = V.int j := e; injection e' with e'; rw [e']
    | inr y => exact nomatch (show V.int i = V.str y from e)
  | inr x => cases b with
    | inl j => exact nomatch (show V.str x = V.int j from e)
    | inr y => have e' : V.str x = V.str y := e; injection e' with e'; rw [e']
theorem kVs_inj : ∀ {a b : List Key}, a.map kV = b.map kV → a = b
  | [], [], _ => rfl
  | [], _ :: _, e => by simp at e
  | _ :: _, [], e => by simp at e
  | x :: xs, y :: ys, e => by
    rw [List.map_cons, List.map_cons] at e
    injection e with e1 e2
    rw [kV_inj e1, kVs_inj e2]
theorem items_are {P : Program} {w : World} : ∀ {ks : List Key} {us : List Value}, Vals (ks.map kV) us → ItemsAre (mixKind P w) ks us
  | [], _, r => by rw [List.map_nil] at r; cases r; exact .nil
  | k :: ks, _, r => by
    rw [List.map_cons] at r
    cases r with
    | cons h t => exact .cons (kV_is h) (items_are t)

/-- raw entries of a dict with tuple keys -/
abbrev KT (H : Hp) : List (List Key × V) → List (List Key × Addr × Value) → Prop := Paired fun p q => p.1 = q.1 ∧ H q.2.1 = some (.tup (p.1.map kV)) ∧ RelV p.2 q.2.2
theorem KT.val {H : Hp} {kvs : List (List Key × V)} {xs : List (List Key × Addr × Value)} (r : KT H kvs xs) (k : List Key) : RelO (valV kvs k) ((atKey xs k).map (·.2)) := by
  induction r with
  | nil => exact True.intro
  | @cons p q ps qs h t ih =>
    obtain ⟨h1, _, h2⟩ := h
    by_cases e : p.1 = k
    · have e' : q.1 = k := h1.symm.trans e
      have b : atKey (q :: qs) k = some q.2 := by simp [atKey, List.find?_cons, e']
      rw [valV_pos e, b]; exact h2
    · have e' : ¬ q.1 = k := fun z => e (h1.trans z)
      have b : atKey (q :: qs) k = atKey qs k := by simp [atKey, List.find?_cons, e']
      rw [valV_neg e, b]; exact ih
theorem KT.repl {H : Hp} {kvs : List (List Key × V)} {xs : List (List Key × Addr × Value)} (r : KT H kvs xs) (k : List Key) {y : V} {u : Value} (ry : RelV y u) :
    KT H (kvs.map fun kv => if kv.1 = k then (kv.1, y) else kv) (xs.map (putAt k u)) := by
  induction r with
  | nil => exact .nil
  | @cons p q ps qs h t ih =>
    rw [List.map_cons, List.map_cons]
    refine .cons ?_ ih
    obtain ⟨h1, h2, h3⟩ := h
    unfold putAt
    by_cases e : p.1 = k
    · rw [if_pos e, if_pos (h1.symm.trans e)]; exact ⟨h1, h2, ry⟩
    · rw [if_neg e, if_neg (fun z => e (h1.trans z))]; exact ⟨h1, h2, h3⟩
theorem KT.put {H : Hp} {kvs : List (List Key × V)} {xs : List (List Key × Addr × Value)} (r : KT H kvs xs) (k : List Key) {b : Addr} {y : V} {u : Value} (hb : H b = some (.tup (k.map kV))) (ry : RelV y u) :
    KT H (putK kvs k y) (storedH xs k b u) := by
  have e : (kvs.any fun kv => decide (kv.1 = k)) = (atKey xs k).isSome := by
    rw [valV_any, (r.val k).isSome_eq, Option.isSome_map]
  unfold putK storedH
  rw [e]
  by_cases q : (atKey xs k).isSome = true
  · rw [if_pos q, if_pos q]; exact r.repl k ry
  · rw [if_neg q, if_neg q]; exact Paired.snoc r ⟨rfl, hb, ry⟩
theorem KT.keeps {H H' : Hp} {kvs : List (List Key × V)} {xs : List (List Key × Addr × Value)} (r : KT H kvs xs) (ht : ∀ b ys, H b = some (.tup ys) → H' b = some (.tup ys)) : KT H' kvs xs :=
  Paired.mapP r fun _ _ z => ⟨z.1, ht _ _ z.2.1, z.2.2⟩

section
variable {P : Program} {w : World} {H : Hp} {h : Heap} {a : Addr}
theorem rd_of {u : HO} (ok : HOk P w H h) (e : Rd H a u) : ObjOk P w H h a u := e.ok ok
theorem dk_rd {kvs : List (Key × V)} (ok : HOk P w H h) (e : Rd H a (.dK kvs)) : kvs.length ≤ sizeLine ∧ (a == sysModules) = false ∧ ∃ vs, KV kvs vs ∧ h.DictOf (mixKind P w) a vs :=
  show ObjOk P w H h a (.dK kvs) from rd_of ok e
theorem dk_of {kvs : List (Key × V)} (ok : HOk P w H h) (e : H a = some (.dK kvs)) : kvs.length ≤ sizeLine ∧ (a == sysModules) = false ∧ ∃ vs, KV kvs vs ∧ h.DictOf (mixKind P w) a vs := dk_rd ok (.inl e)
/-- a tracked tuple of ints and texts is a key -/
theorem key_of {ks : List Key} (ok : HOk P w H h) (e : H a = some (.tup (ks.map kV))) : (tupleKind (mixKind P w)).is h ks a := by
  obtain ⟨_, its, r, o, h1, h2, n, h3⟩ := (show ObjOk P w H h a (.tup (ks.map kV)) from ok a _ e)
  exact ⟨o, its.toArray, n, h1, h2, h3, by simpa using items_are r⟩
theorem dt_rd {kvs : List (List Key × V)} (ok : HOk P w H h) (e : Rd H a (.dT kvs)) : kvs.length ≤ sizeLine ∧ (a == sysModules) = false ∧
    ∃ xs, KT H kvs xs ∧ h.DictOfH (tupleKind (mixKind P w)) a xs := by
  obtain ⟨z, y, xs, r, o, es, ep, h1, h2, h3, h4, h5⟩ := (show ObjOk P w H h a (.dT kvs) from rd_of ok e)
  refine ⟨z, y, xs, r, o, es, ep, h1, h2, h3, h4, fun x hx => ?_, h5⟩
  have all : ∀ {l : List (List Key × V)} {m : List (List Key × Addr × Value)}, KT H l m → ∀ x ∈ m, (tupleKind (mixKind P w)).is h x.1 x.2.1 := by
    intro l m q
    induction q with
    | nil => intro x hx; exact nomatch hx
    | @cons p q ps qs hq t ih =>
      intro x hx
      rcases List.mem_cons.mp hx with e | hx
      · subst e
        exact key_of ok (by rw [← hq.1]; exact hq.2.1)
      · exact ih x hx
  exact all r x hx
theorem dt_of {kvs : List (List Key × V)} (ok : HOk P w H h) (e : H a = some (.dT kvs)) : kvs.length ≤ sizeLine ∧ (a == sysModules) = false ∧
    ∃ xs, KT H kvs xs ∧ h.DictOfH (tupleKind (mixKind P w)) a xs := dt_rd ok (.inl e)
end

/-- what the dict at a holds at the key y -/
def DGet (H : Hp) (a : Addr) (y : V) (r : Option V) : Prop :=
  (∃ kvs k, Rd H a (.dK kvs) ∧ y = kV k ∧ r = valV kvs k) ∨ ∃ kvs k b, Rd H a (.dT kvs) ∧ y = .ref b ∧ H b = some (.tup (k.map kV)) ∧ r = valV kvs k
/-- the heap behind a[y] = v -/
def DPut (H : Hp) (a : Addr) (y v : V) (H' : Hp) : Prop :=
  (∃ kvs k, H a = some (.dK kvs) ∧ y = kV k ∧ kvs.length < sizeLine ∧ H' = upd H a (.dK (putK kvs k v))) ∨
  ∃ kvs k b, H a = some (.dT kvs) ∧ y = .ref b ∧ H b = some (.tup (k.map kV)) ∧ kvs.length < sizeLine ∧ H' = upd H a (.dT (putK kvs k v))
theorem DGet.k {H : Hp} {a : Addr} {kvs : List (Key × V)} {k : Key} (e : H a = some (.dK kvs)) : DGet H a (kV k) (valV kvs k) := .inl ⟨kvs, k, .inl e, rfl, rfl⟩
theorem DGet.t {H : Hp} {a b : Addr} {kvs : List (List Key × V)} {k : List Key} (e : H a = some (.dT kvs)) (eb : H b = some (.tup (k.map kV))) : DGet H a (.ref b) (valV kvs k) := .inr ⟨kvs, k, b, .inl e, rfl, eb, rfl⟩
theorem DPut.k {H : Hp} {a : Addr} {kvs : List (Key × V)} {k : Key} {v : V} (e : H a = some (.dK kvs)) (hl : kvs.length < sizeLine) : DPut H a (kV k) v (upd H a (.dK (putK kvs k v))) := .inl ⟨kvs, k, e, rfl, hl, rfl⟩
theorem DPut.t {H : Hp} {a b : Addr} {kvs : List (List Key × V)} {k : List Key} {v : V} (e : H a = some (.dT kvs)) (eb : H b = some (.tup (k.map kV))) (hl : kvs.length < sizeLine) :
    DPut H a (.ref b) v (upd H a (.dT (putK kvs k v))) := .inr ⟨kvs, k, b, e, rfl, eb, hl, rfl⟩


section
variable {X : Cx} {pins : List (Addr × Obj)} {σ : St} {H : Hp} {s : Shared} {a : Addr} {y v : V} {u r : Value} {o : Option V} {A : Around} {E : Value → Shared → Prop}

theorem Inv.big (I : Inv X pins σ H s) : sysModules < s.heap.objs.size := by
  have h : mainGlobals < s.heap.objs.size := (I.mod.glob.keeps I.bk).lt
  exact Nat.lt_trans (by decide) h

/-- d[y], there -/
theorem d_getItem {Q : Value → Shared → Prop} (hu : A.units + 1 < cLine) (I : Inv X pins σ H s) (g : DGet H a y (some v)) (ry : RelV y u) (h : ∀ w' s', Inv X pins σ H s' → RelV v w' → Q w' s') :
    wpAny (model X.prog X.w) A (getItem (.ref a) u) Q E s := by
  rcases g with ⟨kvs, k, e, ey, l⟩ | ⟨kvs, k, b, e, ey, eb, l⟩
  · subst ey
    obtain ⟨z, hd, vs, rel, dd⟩ := dk_rd I.hok e
    obtain ⟨w', hw, rw'⟩ := RelO.some_of (v := v) (o := valueAt vs k) (by rw [l]; exact rel.val k)
    exact wpAny_getItem_of (kV_is ry) dd.mapOf hw (h w' _ (I.tok _) rw')
  · subst ey
    cases (show u = Value.ref b from ry)
    obtain ⟨z, hd, xs, rel, dd⟩ := dt_rd I.hok e
    obtain ⟨w', hw, rw'⟩ := RelO.some_of (v := v) (o := (atKey xs k).map (·.2)) (by rw [l]; exact rel.val k)
    obtain ⟨p, hp, hp2⟩ := Option.map_eq_some_iff.mp hw
    refine wpAny_getItem_heap (tupleKind_room_in1 hu) (key_of I.hok eb) dd hp ?_
    rw [hp2]
    exact h w' _ (I.tok _) rw'
/-- y in d -/
theorem d_in {Q : Value → Shared → Prop} (hu : A.units + 1 < cLine) (I : Inv X pins σ H s) (g : DGet H a y o) (ry : RelV y u) (h : ∀ s', Inv X pins σ H s' → Q (.bool o.isSome) s') :
    wpAny (model X.prog X.w) A (compareOp .In u (.ref a)) Q E s := by
  rcases g with ⟨kvs, k, e, ey, l⟩ | ⟨kvs, k, b, e, ey, eb, l⟩
  · subst ey
    obtain ⟨z, hd, vs, rel, dd⟩ := dk_rd I.hok e
    refine wpAny_in_of (kV_is ry) hd dd.mapOf ?_
    rw [← (rel.val k).isSome_eq, ← l]
    exact h _ (I.tok _)
  · subst ey
    cases (show u = Value.ref b from ry)
    obtain ⟨z, hd, xs, rel, dd⟩ := dt_rd I.hok e
    refine wpAny_in_heap (tupleKind_room_in1 hu) (key_of I.hok eb) hd dd ?_
    have q := (rel.val k).isSome_eq
    rw [Option.isSome_map] at q
    rw [← q, ← l]
    exact h _ (I.tok _)
theorem d_notIn {Q : Value → Shared → Prop} (hu : A.units + 1 < cLine) (I : Inv X pins σ H s) (g : DGet H a y o) (ry : RelV y u) (h : ∀ s', Inv X pins σ H s' → Q (.bool (!o.isSome)) s') :
    wpAny (model X.prog X.w) A (compareOp .NotIn u (.ref a)) Q E s := by
  rcases g with ⟨kvs, k, e, ey, l⟩ | ⟨kvs, k, b, e, ey, eb, l⟩
  · subst ey
    obtain ⟨z, hd, vs, rel, dd⟩ := dk_rd I.hok e
    refine wpAny_notIn_of (kV_is ry) hd dd.mapOf ?_
    rw [← (rel.val k).isSome_eq, ← l]
    exact h _ (I.tok _)
  · subst ey
    cases (show u = Value.ref b from ry)
    obtain ⟨z, hd, xs, rel, dd⟩ := dt_rd I.hok e
    refine wpAny_notIn_heap (tupleKind_room_in1 hu) (key_of I.hok eb) hd dd ?_
    have q := (rel.val k).isSome_eq
    rw [Option.isSome_map] at q
    rw [← q, ← l]
    exact h _ (I.tok _)
/-- a dict's object is replaced -/
theorem d_write {h' : Heap} {t' : Nat} {ob : HO} (I : Inv X pins σ H s) (mu : Mut (H a)) (hs : Heap.SameBut a s.heap h') (he : ∃ q, h'.get? a = some q) (new : ObjOk X.prog X.w (upd H a ob) h' a ob) :
    Inv X pins σ (upd H a ob) { s with heap := h', toks := t' } :=
  I.write (x := a) (e := a) mu (.inl rfl) (fun b q hb z => (hs.2 b hb).trans z) he new
theorem dk_new {P : Program} {w : World} {H' : Hp} {h' : Heap} {kvs : List (Key × V)} {vs : List (Key × Value)} (z : kvs.length ≤ sizeLine) (hd : (a == sysModules) = false) (rel : KV kvs vs) (dd : h'.DictOf (mixKind P w) a vs) :
    ObjOk P w H' h' a (.dK kvs) := ⟨z, hd, vs, rel, dd⟩
/-- d[y] = v -/
theorem d_setItem {H' : Hp} {Q : Unit → Shared → Prop} (hu : A.units + 1 < cLine) (I : Inv X pins σ H s) (g : DPut H a y v H') (ry : RelV y u) (rv : RelV v r) (h : ∀ s', Inv X pins σ H' s' → Q () s') :
    wpAny (model X.prog X.w) A (setItem (.ref a) u r) Q E s := by
  rcases g with ⟨kvs, k, e, ey, l, eH⟩ | ⟨kvs, k, b, e, ey, eb, l, eH⟩
  · subst ey eH
    obtain ⟨z, hd, vs, rel, dd⟩ := dk_of I.hok e
    have hz : vs.length ≤ sizeLine := by rw [← rel.length]; exact z
    have hl : (putK kvs k v).length ≤ sizeLine := by have := length_putK kvs k v; omega
    refine wpAny_setItem_pairs (hsz := hz) (kV_is ry) dd fun h' dd' hs => h _ ?_
    have he : ∃ q, h'.get? a = some q := let ⟨q, _, _, hq, _⟩ := dd'; ⟨q, hq⟩
    exact d_write I (by rw [e]; exact True.intro) hs he (dk_new hl hd (rel.put k rv) dd')
  · subst ey eH
    cases (show u = Value.ref b from ry)
    obtain ⟨z, hd, xs, rel, dd⟩ := dt_of I.hok e
    have hz : xs.length ≤ sizeLine := by rw [← Paired.length rel]; exact z
    have hl : (putK kvs k v).length ≤ sizeLine := by have := length_putK kvs k v; omega
    refine wpAny_setItem_heap (hsz := hz) (tupleKind_room_in1 hu) (key_of I.hok eb) dd fun h' dd' hs => h _ ?_
    obtain ⟨q, es, ep, hq, h2, h3, h4, _, h5⟩ := dd'
    refine d_write I (by rw [e]; exact True.intro) hs ⟨q, hq⟩ ⟨hl, hd, _, (rel.put k eb rv).keeps fun c ys ec => ?_, q, es, ep, hq, h2, h3, h4, h5⟩
    rw [upd_ne (ne_of ec e (fun z => nomatch z))]
    exact ec
end

section
variable {X : Cx} {pins : List (Addr × Obj)} {σ : St} {H : Hp} {s : Shared} {a : Addr} {kvs : List (Key × V)} {k : Key} {u : Value} {A : Around} {E : Value → Shared → Prop}
/-- del d[k] -/
theorem d_delItem {Q : Unit → Shared → Prop} (I : Inv X pins σ H s) (e : H a = some (.dK kvs)) (ry : RelV (kV k) u) (l : (valV kvs k).isSome = true) (h : ∀ s', Inv X pins σ (upd H a (.dK (dropK kvs k))) s' → Q () s') :
    wpAny (model X.prog X.w) A (delItem (.ref a) u) Q E s := by
  obtain ⟨z, hd, vs, rel, dd⟩ := dk_of I.hok e
  refine wpAny_delItem_slot dd.typeIs (by decide) PySem.F.slot_dict_delitem
    (call_meetsIn PySem.F.slot_dict_delitem dd.typeIs PySem.F.entry_dict_delitem (PySem.F.args_dict_delitem_2 _ _) (meets_dict_delitem_pairs (mixKind X.prog X.w) a (kV_is ry)) ⟨vs, dd, by rw [← rel.length]; exact z, by rw [← (rel.val k).isSome_eq]; exact l, fun h' dd' hs => h _ ?_⟩)
  have he : ∃ q, h'.get? a = some q := let ⟨q, _, _, hq, _⟩ := dd'; ⟨q, hq⟩
  exact d_write I (by rw [e]; exact True.intro) hs he (dk_new (Nat.le_trans (dropK_le kvs k) z) hd (rel.drop k) dd')
/-- d.pop(k[, x]), there -/
theorem d_pop {v : V} {more : List Value} {Q : Value → Shared → Prop} (I : Inv X pins σ H s) (e : H a = some (.dK kvs)) (ry : RelV (kV k) u) (l : valV kvs k = some v) (hm : more = [] ∨ ∃ x, more = [x])
    (h : ∀ w' s', Inv X pins σ (upd H a (.dK (dropK kvs k))) s' → RelV v w' → Q w' s') : wpAny (model X.prog X.w) A (call (.builtin "dict.pop") (.ref a :: u :: more)) Q E s := by
  obtain ⟨z, hd, vs, rel, dd⟩ := dk_of I.hok e
  obtain ⟨w', hw, rw'⟩ := RelO.some_of (v := v) (o := valueAt vs k) (by rw [← l]; exact rel.val k)
  have hp : (keyPart u).isSome = true := by
    cases k with
    | inl i => obtain ⟨t, q⟩ := (show ∃ t, u = Value.int i t from ry); subst q; rfl
    | inr x => obtain ⟨t, q⟩ := (show ∃ t, u = Value.str x t from ry); subst q; rfl
  have ha : argsOk "dict.pop" ⟨.ref a :: u :: more, []⟩ := by
    rcases hm with q | ⟨x, q⟩
    · subst q; exact PySem.F.args_dict_pop_2 _ _
    · subst q; exact PySem.F.args_dict_pop_3 _ _ _
  refine call_meetsIn PySem.F.slot_dict_pop dd.typeIs PySem.F.entry_dict_pop ha (meets_dict_pop_there (mixKind X.prog X.w) a (kV_is ry) more hm hp)
    ⟨vs, w', dd, by rw [← rel.length]; exact z, hw, fun h' dd' hs => h w' _ ?_ rw'⟩
  have he : ∃ q, h'.get? a = some q := let ⟨q, _, _, hq, _⟩ := dd'; ⟨q, hq⟩
  exact d_write I (by rw [e]; exact True.intro) hs he (dk_new (Nat.le_trans (dropK_le kvs k) z) hd (rel.drop k) dd')
/-- d.pop(k, x), not there -/
theorem d_popD {r : Value} {Q : Value → Shared → Prop} (I : Inv X pins σ H s) (e : H a = some (.dK kvs)) (ry : RelV (kV k) u) (l : valV kvs k = none) (h : ∀ s', Inv X pins σ H s' → Q r s') :
    wpAny (model X.prog X.w) A (call (.builtin "dict.pop") [.ref a, u, r]) Q E s := by
  obtain ⟨z, hd, vs, rel, dd⟩ := dk_of I.hok e
  have hn : valueAt vs k = none := RelO.none_of (by rw [← l]; exact rel.val k)
  have hp : (keyPart u).isSome = true := by
    cases k with
    | inl i => obtain ⟨t, q⟩ := (show ∃ t, u = Value.int i t from ry); subst q; rfl
    | inr x => obtain ⟨t, q⟩ := (show ∃ t, u = Value.str x t from ry); subst q; rfl
  exact call_meetsIn PySem.F.slot_dict_pop dd.typeIs PySem.F.entry_dict_pop (PySem.F.args_dict_pop_3 _ _ _) (meets_dict_pop_default (mixKind X.prog X.w) a (kV_is ry) hd hp r) ⟨vs, dd, hn, h _ (I.tok _)⟩
/-- d.clear() -/
theorem d_clear {Q : Value → Shared → Prop} (I : Inv X pins σ H s) (e : H a = some (.dK kvs)) (h : ∀ s', Inv X pins σ (upd H a (.dK [])) s' → Q .none s') : wpAny (model X.prog X.w) A (call (.builtin "dict.clear") [.ref a]) Q E s := by
  obtain ⟨z, hd, vs, rel, dd⟩ := dk_of I.hok e
  refine call_meetsIn PySem.F.slot_dict_clear dd.typeIs PySem.F.entry_dict_clear (PySem.F.args_dict_clear_1 _) (meets_dict_clear (mixKind X.prog X.w) a) ⟨vs, dd, by rw [← rel.length]; exact z, fun h' dd' hs => h _ ?_⟩
  have he : ∃ q, h'.get? a = some q := let ⟨q, _, _, hq, _⟩ := dd'; ⟨q, hq⟩
  exact d_write (t' := s.toks) I (by rw [e]; exact True.intro) hs he (dk_new (Nat.zero_le _) hd .nil dd')
/-- len(d) -/
theorem d_len {Q : Value → Shared → Prop} (I : Inv X pins σ H s) (e : Rd H a (.dK kvs)) (h : ∀ t s', Inv X pins σ H s' → Q (.int kvs.length t) s') : wpAny (model X.prog X.w) A (call (.builtin "len") [.ref a]) Q E s := by
  obtain ⟨z, hd, vs, rel, dd⟩ := dk_rd I.hok e
  refine call_len_dict hd dd (by rw [← rel.length]; rw [sizeLine_eq] at z; omega) ?_
  rw [← rel.length]
  exact h _ _ (I.tok _)
/-- if d -/
theorem d_truth {Q : Bool → Shared → Prop} (I : Inv X pins σ H s) (e : Rd H a (.dK kvs)) (h : ∀ s', Inv X pins σ H s' → Q (!kvs.isEmpty) s') : wpAny (model X.prog X.w) A (truthy (.ref a)) Q E s := by
  obtain ⟨z, hd, vs, rel, dd⟩ := dk_rd I.hok e
  refine wpAny_truthy_dict hd dd (by rw [← rel.length]; rw [sizeLine_eq] at z; omega) ?_
  have q : kvs.isEmpty = vs.isEmpty := by cases rel <;> rfl
  rw [← q]
  exact h _ (I.tok _)
end


/-! ### readings and rules -/
/-- the element of a subscription, not a slice -/
def NoSl (i : Expr) : Prop := ∀ ov iv, subscripted i false ov iv = operate [ov, iv] (getItem ov iv)
theorem subD_of {prog : Program} {w : World} {A : Around} {E : Value → Shared → Prop} {s : Shared} {env : Env} {value slice : Expr} {pos : Pos} {T id : String} {Q : Value → Shared → Prop}
    (hl : typeLookup (.type T) "__getitem__" = pure (some (.builtin id))) (hs : NoSl slice)
    (h : wpAny (model prog w) A (eval value env) (fun o s₁ => wpAny (model prog w) A (eval slice env) (fun i s₂ => s₂.TypeIs o T ∧ wpAny (model prog w) A (getItem o i) Q E s₂) E s₁) E s) :
    wpAny (model prog w) A (eval (.Subscript value slice pos) env) Q E s := by
  refine Subscript_ (wpAny_mono h (fun o s₁ h₁ => wpAny_mono h₁ (fun i s₂ h₂ => ?_) fun _ _ x => x) fun _ _ x => x)
  obtain ⟨hT, h₂⟩ := h₂
  unfold subscriptTail
  refine wpAny_bind ?_
  rw [getitemInPython_of_ne hT.not_modules]
  refine wpAny_bind (wpAny_specialOf hT hl ?_)
  have fin : wpAny (model prog w) A (subscripted slice false o i) (fun r s₃ => wpAny (model prog w) A (letTemporaryGo value o r >>= fun _ => pure r) Q E s₃) E s₂ := by
    rw [hs o i]
    exact wpAny_operating (wpAny_mono h₂ (fun r s₃ h₃ => wpAny_bind (wpAny_letTemporaryGo (wpAny_pure h₃))) fun _ _ x => x)
  first
    | exact wpAny_pure (wpAny_bind fin)
    | exact wpAny_bind (wpAny_pure (wpAny_bind fin))
    | exact wpAny_bind fin

theorem dict_typeIs {X : Cx} {pins : List (Addr × Obj)} {σ : St} {H : Hp} {s : Shared} {a : Addr} {y : V} {o : Option V} (I : Inv X pins σ H s) (g : DGet H a y o) : s.TypeIs (.ref a) "dict" := by
  rcases g with ⟨kvs, k, e, _, _⟩ | ⟨kvs, k, b, e, _, _, _⟩
  · obtain ⟨_, _, vs, _, dd⟩ := dk_rd I.hok e
    exact dd.typeIs
  · obtain ⟨_, _, xs, _, dd⟩ := dt_rd I.hok e
    exact dd.typeIs
theorem dict_noDict {X : Cx} {pins : List (Addr × Obj)} {σ : St} {H : Hp} {s : Shared} {a : Addr} {y : V} {o : Option V} (I : Inv X pins σ H s) (g : DGet H a y o) :
    ∀ b, Value.ref a = .ref b → ∃ ob, s.heap.get? b = some ob ∧ ob.dict = none := fun b q => by
  cases q
  rcases g with ⟨kvs, k, e, _, _⟩ | ⟨kvs, k, b, e, _, _, _⟩
  · obtain ⟨_, _, vs, _, ob, _, _, h1, h2, _⟩ := dk_rd I.hok e
    exact ⟨ob, h1, h2.2.1⟩
  · obtain ⟨_, _, xs, _, ob, _, _, h1, h2, _⟩ := dt_rd I.hok e
    exact ⟨ob, h1, h2.2.1⟩

/-- d[y] -/
def tDGet (td ty : TE) : TE := fun σ H Q => td σ H fun x H1 => ty σ H1 fun y H2 => ∃ a v, x = .ref a ∧ DGet H2 a y (some v) ∧ Q v H2
/-- y in d, y not in d -/
def tDIn (ty td : TE) : TE := fun σ H Q => ty σ H fun y H1 => td σ H1 fun x H2 => ∃ a o, x = .ref a ∧ DGet H2 a y o ∧ Q (.bl o.isSome) H2
def tDNotIn (ty td : TE) : TE := fun σ H Q => ty σ H fun y H1 => td σ H1 fun x H2 => ∃ a o, x = .ref a ∧ DGet H2 a y o ∧ Q (.bl (!o.isSome)) H2
/-- d[y] = v -/
def sDPut (td ty tv : TE) : TS := fun D σ H => tv σ H fun v H1 => td σ H1 fun x H2 => ty σ H2 fun y H3 => ∃ a H4, x = .ref a ∧ DPut H3 a y v H4 ∧ D.nx σ H4
/-- d[y] op= v -/
def sDAug (td ty tv : TE) (rd : V → V → Hp → VK → Prop) : TS := fun D σ H => td σ H fun x H1 => ty σ H1 fun y H2 => ∃ a v, x = .ref a ∧ DGet H2 a y (some v) ∧
  tv σ H2 fun y2 H3 => rd v y2 H3 fun z H4 => ∃ H5, DPut H4 a y z H5 ∧ D.nx σ H5
/-- del d[y] -/
def sDDel (td ty : TE) : TS := fun D σ H => td σ H fun x H1 => ty σ H1 fun y H2 => ∃ a kvs k, x = .ref a ∧ H2 a = some (.dK kvs) ∧ y = kV k ∧ (valV kvs k).isSome = true ∧ D.nx σ (upd H2 a (.dK (dropK kvs k)))

section
variable {X : Cx} {o i e value : Expr} {pos pos' tpos : Pos} {td ty tv : TE}
theorem pe_dget (hu : X.A.units + 1 < cLine) (ho : PE X o td) (hi : PE X i ty) (hs : NoSl i) : PE X (.Subscript o i pos) (tDGet td ty) := by
  intro pins s σ H Q I h
  refine subD_of PySem.F.slot_dict_getitem.lookup hs (thn (ho pins s σ H _ I h) fun u s1 ⟨x, H1, I1, rx, q1⟩ => thn (hi pins s1 σ H1 _ I1 q1) fun iv s2 ⟨y, H2, I2, ry, a, v, ex, g, q2⟩ => ?_)
  subst ex
  obtain rfl : u = Value.ref a := rx
  exact ⟨dict_typeIs I2 g, d_getItem hu I2 g ry fun w' s3 I3 rw' => ⟨v, H2, I3, rw', q2⟩⟩
theorem pc_din (hu : X.A.units + 1 < cLine) (hi : PE X i ty) (ho : PE X o td) : PC X .In i o (tDIn ty td) := by
  intro pins s σ H Q I h
  refine thn (hi pins s σ H _ I h) fun iv s1 ⟨y, H1, I1, ry, q1⟩ => thn (ho pins s1 σ H1 _ I1 q1) fun u s2 ⟨x, H2, I2, rx, a, ov, ex, g, q2⟩ => ?_
  subst ex
  obtain rfl : u = Value.ref a := rx
  exact d_in hu I2 g ry fun s3 I3 => ⟨.bl ov.isSome, H2, I3, rfl, q2⟩
theorem pc_dnotin (hu : X.A.units + 1 < cLine) (hi : PE X i ty) (ho : PE X o td) : PC X .NotIn i o (tDNotIn ty td) := by
  intro pins s σ H Q I h
  refine thn (hi pins s σ H _ I h) fun iv s1 ⟨y, H1, I1, ry, q1⟩ => thn (ho pins s1 σ H1 _ I1 q1) fun u s2 ⟨x, H2, I2, rx, a, ov, ex, g, q2⟩ => ?_
  subst ex
  obtain rfl : u = Value.ref a := rx
  exact d_notIn hu I2 g ry fun s3 I3 => ⟨.bl (!ov.isSome), H2, I3, rfl, q2⟩
theorem ps_dput (hu : X.A.units + 1 < cLine) (ho : PE X o td) (hi : PE X i ty) (hv : PE X value tv) (hs : swapsWith value (some (.Subscript o i pos')) pos.line X.env = pure false) :
    PS X (.Assign [.Subscript o i pos'] value pos) (sDPut td ty tv) := by
  intro pins s σ H D I h
  refine wpAny_Assign_Subscript (thn (hv pins s σ H _ I h) fun r s1 ⟨v, H1, I1, rv, q1⟩ => thn (ho pins s1 σ H1 _ I1 q1) fun u s2 ⟨x, H2, I2, rx, q2⟩ => thn (hi pins s2 σ H2 _ I2 q2) fun iv s3 ⟨y, H3, I3, ry, a, H4, ex, g, q3⟩ => ?_) hs
  subst ex
  obtain rfl : u = Value.ref a := rx
  exact d_setItem hu I3 g ry rv fun s4 I4 => ⟨σ, H4, I4, q3⟩
theorem ps_daug {op : Operator} {rd : V → V → Hp → VK → Prop} (hu : X.A.units + 1 < cLine) (ho : PE X o td) (hi : PE X i ty) (hv : PE X value tv) (hop : InOp X op rd)
    (ha : ∀ ov iv new, augStore i ov iv new = (do holding [new, ov, iv] (setItem ov iv new); release [new, ov, iv] []; pure .next)) : PS X (.AugAssign (.Subscript o i tpos) op value pos) (sDAug td ty tv rd) := by
  intro pins s σ H D I h
  refine wpAny_AugAssign_SubscriptAny (thn (ho pins s σ H _ I h) fun u s1 ⟨x, H1, I1, rx, q1⟩ => thn (hi pins s1 σ H1 _ I1 q1) fun iv s2 ⟨y, H2, I2, ry, a, v, ex, g, q2⟩ => ?_) ha
  subst ex
  obtain rfl : u = Value.ref a := rx
  refine d_getItem hu I2 g ry fun w' s3 I3 rw' => thn (hv pins s3 σ H2 _ I3 q2) fun w2 s4 ⟨y2, H3, I4, ry2, q3⟩ => thn (hop pins s4 σ H3 v y2 w' w2 _ I4 rw' ry2 q3) fun w3 s5 ⟨z, H4, I5, rz, H5, g5, q4⟩ => ?_
  exact d_setItem hu I5 g5 ry rz fun s6 I6 => ⟨σ, H5, I6, q4⟩
theorem ps_ddel (ho : PE X o td) (hi : PE X i ty) : PS X (.Delete [.Subscript o i tpos] pos) (sDDel td ty) := by
  intro pins s σ H D I h
  refine wpAny_Delete (wpAny_deleteEach_cons (wpAny_delete_Subscript (thn (ho pins s σ H _ I h) fun u s1 ⟨x, H1, I1, rx, q1⟩ => thn (hi pins s1 σ H1 _ I1 q1) fun iv s2 ⟨y, H2, I2, ry, a, kvs, k, ex, e, ey, l, q2⟩ => ?_)))
  subst ex ey
  obtain rfl : u = Value.ref a := rx
  exact d_delItem I2 e ry l fun s3 I3 => wpAny_deleteEach_nil ⟨σ, _, I3, q2⟩
end


/-! ### displays -/
theorem dk_empty {P : Program} {w : World} {H : Hp} (h : Heap) (hb : sysModules < h.objs.size) : ObjOk P w H (h.push { cls := .type "dict", data := .dict #[] }) h.objs.size (.dK []) :=
  ⟨Nat.zero_le _, beq_eq_false_iff_ne.mpr (Ne.symm (Nat.ne_of_lt hb)), [], .nil, Heap.DictOf.new h⟩
theorem dt_empty {P : Program} {w : World} {H : Hp} (h : Heap) (hb : sysModules < h.objs.size) : ObjOk P w H (h.push { cls := .type "dict", data := .dict #[] }) h.objs.size (.dT []) :=
  ⟨Nat.zero_le _, beq_eq_false_iff_ne.mpr (Ne.symm (Nat.ne_of_lt hb)), [], .nil, _, #[], 0, Heap.get?_push_size _ rfl, ⟨rfl, rfl, rfl⟩, rfl, rfl, List.nodup_nil⟩
/-- {}, to be a dict of the kind that is wanted -/
def tDNewK : TE := fun _ H Q => ∀ p, H p = none → Q (.ref p) (upd H p (.dK []))
def tDNewT : TE := fun _ H Q => ∀ p, H p = none → Q (.ref p) (upd H p (.dT []))
section
variable {X : Cx} {pos : Pos}
theorem pe_dnewK : PE X (.Dict [] [] pos) tDNewK := fun pins s σ H Q I h =>
  wpAny_Dict_empty ⟨.ref s.heap.objs.size, _, I.laid (a := s.heap.objs.size) (o := .dK []) (t' := s.toks) (fun _ _ q => Heap.get?_push_of_some _ q) (Nat.le_refl _) (dk_empty s.heap I.big), rfl, h _ (I.hok.fresh (Nat.le_refl _))⟩
theorem pe_dnewT : PE X (.Dict [] [] pos) tDNewT := fun pins s σ H Q I h =>
  wpAny_Dict_empty ⟨.ref s.heap.objs.size, _, I.laid (a := s.heap.objs.size) (o := .dT []) (t' := s.toks) (fun _ _ q => Heap.get?_push_of_some _ q) (Nat.le_refl _) (dt_empty s.heap I.big), rfl, h _ (I.hok.fresh (Nat.le_refl _))⟩
end

/-- the pairs of a display, from the left -/
def tPairs : List (TE × TE) → St → Hp → (List (V × V) → Hp → Prop) → Prop
  | [], _, H, Q => Q [] H
  | (tk, tv) :: r, σ, H, Q => tk σ H fun x H1 => tv σ H1 fun y H2 => tPairs r σ H2 fun ps H3 => Q ((x, y) :: ps) H3
abbrev VV : List (V × V) → List (Value × Value) → Prop := Paired fun p q => RelV p.1 q.1 ∧ RelV p.2 q.2
def PPs (X : Cx) (pos : Pos) (keys : List (Option Expr)) (values : List Expr) (trs : List (TE × TE)) : Prop :=
  ∀ (pins : List (Addr × Obj)) (s : Shared) (σ : St) (H : Hp) (Q : List (V × V) → Hp → Prop), Inv X pins σ H s → tPairs trs σ H Q →
    wpAny (model X.prog X.w) X.A (evalPairs (pairTrees keys values X.env pos)) (fun vs s' => ∃ ps H', Inv X pins σ H' s' ∧ VV ps vs ∧ Q ps H') X.xe s
theorem pps_nil {X : Cx} {pos : Pos} : PPs X pos [] [] [] := fun pins s σ H Q I h => pairTrees_nil_walk ⟨[], H, I, .nil, h⟩
theorem pps_cons {X : Cx} {pos : Pos} {k v : Expr} {ks : List (Option Expr)} {vs : List Expr} {tk tv : TE} {trs : List (TE × TE)} (hk : PE X k tk) (hv : PE X v tv) (hr : PPs X pos ks vs trs) :
    PPs X pos (some k :: ks) (v :: vs) ((tk, tv) :: trs) := fun pins s σ H Q I h =>
  pairTrees_cons_walk (thn (hk pins s σ H _ I h) fun u s1 ⟨x, H1, I1, rx, q1⟩ => thn (hv pins s1 σ H1 _ I1 q1) fun w2 s2 ⟨y, H2, I2, ry, q2⟩ =>
    thn (hr pins s2 σ H2 _ I2 q2) fun ws s3 ⟨ps, H3, I3, rel, q3⟩ => ⟨(x, y) :: ps, H3, I3, .cons ⟨rx, ry⟩ rel, q3⟩)

def mergeK (kvs more : List (Key × V)) : List (Key × V) := more.foldl (fun acc kv => putK acc kv.1 kv.2) kvs
theorem KV.merge : ∀ {more : List (Key × V)} {rs : List (Key × Value)} {kvs : List (Key × V)} {vs : List (Key × Value)}, KV more rs → KV kvs vs → KV (mergeK kvs more) (merged vs rs) := by
  intro more rs kvs vs r
  unfold KV at r
  induction r generalizing kvs vs with
  | nil => intro q; exact q
  | @cons p q ps qs h t ih =>
    intro r0
    have e : KV (putK kvs p.1 p.2) (stored vs q.1 q.2) := by
      have := r0.put p.1 h.2
      rw [← h.1]; exact this
    exact ih e
theorem length_mergeK : ∀ (more kvs : List (Key × V)), (mergeK kvs more).length ≤ kvs.length + more.length
  | [], kvs => by show kvs.length ≤ kvs.length + 0; omega
  | p :: r, kvs => by
    have h1 := length_mergeK r (putK kvs p.1 p.2)
    have h2 := length_putK kvs p.1 p.2
    show (mergeK (putK kvs p.1 p.2) r).length ≤ _
    rw [List.length_cons]; omega
theorem carries_of {P : Program} {w : World} : ∀ {kvs : List (Key × V)} {ws : List (Value × Value)}, VV (kvs.map fun kv => (kV kv.1, kv.2)) ws → ∃ rs, Carries (mixKind P w) ws rs ∧ KV kvs rs
  | [], _, r => by rw [List.map_nil] at r; cases r; exact ⟨[], True.intro, .nil⟩
  | p :: kvs, _, r => by
    rw [List.map_cons] at r
    cases r with
    | @cons a b as bs h t =>
      obtain ⟨rs, c, q⟩ := carries_of (P := P) (w := w) t
      obtain ⟨b1, b2⟩ := b
      exact ⟨(p.1, b2) :: rs, ⟨kV_is h.1, rfl, c⟩, .cons ⟨rfl, h.2⟩ q⟩
/-- {k: v, ..} with keys ints and texts; the new dict stands empty while the pairs are made -/
def tDisp (trs : List (TE × TE)) : TE := fun σ H Q => ∀ p, H p = none → tPairs trs σ (upd H p (.dK [])) fun ps H2 => H2 p = some (.dK []) ∧ ∃ kvs : List (Key × V), ps = kvs.map (fun kv => (kV kv.1, kv.2)) ∧ kvs.length ≤ 15 ∧ Q (.ref p) (upd H2 p (.dK (mergeK [] kvs)))
theorem pe_disp {X : Cx} {pos : Pos} {keys : List (Option Expr)} {values : List Expr} {trs : List (TE × TE)} (h : PPs X pos keys values trs) (hall : keys.all (·.isSome) = true) (hl : keys.length = values.length) (h0 : keys ≠ [])
    (h15 : keys.length ≤ 15) : PE X (.Dict keys values pos) (tDisp trs) := by
  intro pins s σ H Q I q
  have hn := I.hok.fresh (Nat.le_refl s.heap.objs.size)
  have I1 := I.laid (a := s.heap.objs.size) (o := .dK []) (h' := s.heap.push { cls := .type "dict", data := .dict #[] }) (t' := s.toks) (fun _ _ q => Heap.get?_push_of_some _ q) (Nat.le_refl _) (dk_empty s.heap I.big)
  refine wpAny_Dict_walk (knd := mixKind X.prog X.w) hall hl h0 h15 (thn (h pins _ σ _ _ I1 (q _ hn)) fun ws s2 ⟨ps, H2, I2, rel, e, kvs, ep, lk, q2⟩ => ?_)
  subst ep
  obtain ⟨rs, c, rk⟩ := carries_of (P := X.prog) (w := X.w) rel
  obtain ⟨z, hd, vs0, r0, dd⟩ := dk_of I2.hok e
  cases r0
  refine ⟨rs, c, dd, fun h' dd' hs => ⟨.ref s.heap.objs.size, _, ?_, rfl, q2⟩⟩
  have hz : (mergeK [] kvs).length ≤ sizeLine := by
    have h1 := length_mergeK kvs []
    rw [List.length_nil] at h1
    rw [sizeLine_eq]; omega
  have he : ∃ q, h'.get? s.heap.objs.size = some q := let ⟨q, _, _, hq, _⟩ := dd'; ⟨q, hq⟩
  exact d_write I2 (by rw [e]; exact True.intro) hs he (dk_new hz hd (rk.merge .nil) dd')


/-! ### methods -/
/-- a method call o.m(e) of a built-in, with one argument: what must be seen of the text -/
structure M1 (X : Cx) (o : Expr) (m : Str) (apos : Pos) (e : Expr) (cpos : Pos) : Prop where
  base : attributeBase o m X.env (eval o X.env) = eval o X.env
  few : ((backTo cpos (starEach [e] X.env)).all (fun x => !x.1) && (backToKw cpos (keywordEach [] X.env)).all (fun x => x.1.isSome)
    && decide (([e] : List Expr).length + ([] : List Keyword).length + (if ([] : List Keyword).isEmpty then 0 else 1) < 30)) = true
  line : (apos.endLine == cpos.line) = true
  trees : backTo cpos (starEach [e] X.env) = [(false, eval e X.env)]
structure M2 (X : Cx) (o : Expr) (m : Str) (apos : Pos) (e f : Expr) (cpos : Pos) : Prop where
  base : attributeBase o m X.env (eval o X.env) = eval o X.env
  few : ((backTo cpos (starEach [e, f] X.env)).all (fun x => !x.1) && (backToKw cpos (keywordEach [] X.env)).all (fun x => x.1.isSome)
    && decide (([e, f] : List Expr).length + ([] : List Keyword).length + (if ([] : List Keyword).isEmpty then 0 else 1) < 30)) = true
  line : (apos.endLine == cpos.line) = true
  trees : backTo cpos (starEach [e, f] X.env) = [(false, eval e X.env), (false, eval f X.env)]

/-- a is a dict, whatever its keys -/
def IsD (H : Hp) (a : Addr) : Prop := (∃ kvs, Rd H a (.dK kvs)) ∨ ∃ kvs, Rd H a (.dT kvs)
theorem isD_at {X : Cx} {pins : List (Addr × Obj)} {σ : St} {H : Hp} {s : Shared} {a : Addr} (I : Inv X pins σ H s) (d : IsD H a) :
    s.TypeIs (.ref a) "dict" ∧ (∀ b, Value.ref a = .ref b → ∃ ob, s.heap.get? b = some ob ∧ ob.dict = none) ∧ (a == sysModules) = false := by
  rcases d with ⟨kvs, e⟩ | ⟨kvs, e⟩
  · obtain ⟨_, hd, vs, _, dd⟩ := dk_rd I.hok e
    refine ⟨dd.typeIs, fun b q => ?_, hd⟩
    cases q
    obtain ⟨ob, _, _, h1, h2, _⟩ := dd
    exact ⟨ob, h1, h2.2.1⟩
  · obtain ⟨_, hd, xs, _, dd⟩ := dt_rd I.hok e
    refine ⟨dd.typeIs, fun b q => ?_, hd⟩
    cases q
    obtain ⟨ob, _, _, h1, h2, _⟩ := dd
    exact ⟨ob, h1, h2.2.1⟩

section
variable {X : Cx} {pins : List (Addr × Obj)} {σ : St} {H : Hp} {s : Shared} {a : Addr} {y d : V} {u r : Value} {o : Option V} {A : Around} {E : Value → Shared → Prop}
/-- d.get(y) -/
theorem d_get1 {Q : Value → Shared → Prop} (hu : A.units + 1 < cLine) (I : Inv X pins σ H s) (g : DGet H a y o) (ry : RelV y u) (h : ∀ w' s', Inv X pins σ H s' → RelV (o.getD .non) w' → Q w' s') :
    wpAny (model X.prog X.w) A (call (.builtin "dict.get") [.ref a, u]) Q E s := by
  rcases g with ⟨kvs, k, e, ey, l⟩ | ⟨kvs, k, b, e, ey, eb, l⟩
  · subst ey
    obtain ⟨z, hd, vs, rel, dd⟩ := dk_rd I.hok e
    refine call_meetsIn PySem.F.slot_dict_get dd.typeIs PySem.F.entry_dict_get (PySem.F.args_dict_get_2 _ _) (meets_dict_get (mixKind X.prog X.w) a (kV_is ry) hd) ⟨_, dd.mapOf, h _ _ (I.tok _) ?_⟩
    rw [l]
    exact (rel.val k).getD rfl
  · subst ey
    cases (show u = Value.ref b from ry)
    obtain ⟨z, hd, xs, rel, dd⟩ := dt_rd I.hok e
    refine call_meetsIn PySem.F.slot_dict_get dd.typeIs PySem.F.entry_dict_get (PySem.F.args_dict_get_2 _ _) (meetsH_dict_get (tupleKind (mixKind X.prog X.w)) a b hd) ⟨tupleKind_room_in1 hu, k, xs, key_of I.hok eb, dd, h _ _ (I.tok _) ?_⟩
    rw [l]
    exact (rel.val k).getD rfl
/-- d.get(y, x) -/
theorem d_get2 {Q : Value → Shared → Prop} (hu : A.units + 1 < cLine) (I : Inv X pins σ H s) (g : DGet H a y o) (ry : RelV y u) (rd : RelV d r) (h : ∀ w' s', Inv X pins σ H s' → RelV (o.getD d) w' → Q w' s') :
    wpAny (model X.prog X.w) A (call (.builtin "dict.get") [.ref a, u, r]) Q E s := by
  rcases g with ⟨kvs, k, e, ey, l⟩ | ⟨kvs, k, b, e, ey, eb, l⟩
  · subst ey
    obtain ⟨z, hd, vs, rel, dd⟩ := dk_rd I.hok e
    refine call_meetsIn PySem.F.slot_dict_get dd.typeIs PySem.F.entry_dict_get (PySem.F.args_dict_get_3 _ _ _) (meets_dict_get_default (mixKind X.prog X.w) a (kV_is ry) hd r) ⟨_, dd.mapOf, h _ _ (I.tok _) ?_⟩
    rw [l]
    exact (rel.val k).getD rd
  · subst ey
    cases (show u = Value.ref b from ry)
    obtain ⟨z, hd, xs, rel, dd⟩ := dt_rd I.hok e
    refine call_meetsIn PySem.F.slot_dict_get dd.typeIs PySem.F.entry_dict_get (PySem.F.args_dict_get_3 _ _ _) (meetsH_dict_get_default (tupleKind (mixKind X.prog X.w)) a b hd r) ⟨tupleKind_room_in1 hu, k, xs, key_of I.hok eb, dd, h _ _ (I.tok _) ?_⟩
    rw [l]
    exact (rel.val k).getD rd
end

def tDGet1 (td ty : TE) : TE := fun σ H Q => td σ H fun x H1 => ∃ a, x = .ref a ∧ IsD H1 a ∧ ty σ H1 fun y H2 => ∃ o, DGet H2 a y o ∧ Q (o.getD .non) H2
def tDGet2 (td ty tx : TE) : TE := fun σ H Q => td σ H fun x H1 => ∃ a, x = .ref a ∧ IsD H1 a ∧ ty σ H1 fun y H2 => tx σ H2 fun z H3 => ∃ o, DGet H3 a y o ∧ Q (o.getD z) H3
/-- d.pop(k): there; d.pop(k, x): there or not -/
def tDPop1 (td ty : TE) : TE := fun σ H Q => td σ H fun x H1 => ∃ a, x = .ref a ∧ IsD H1 a ∧ ty σ H1 fun y H2 => ∃ kvs k v, H2 a = some (.dK kvs) ∧ y = kV k ∧ valV kvs k = some v ∧ Q v (upd H2 a (.dK (dropK kvs k)))
def tDPop2 (td ty tx : TE) : TE := fun σ H Q => td σ H fun x H1 => ∃ a, x = .ref a ∧ IsD H1 a ∧ ty σ H1 fun y H2 => tx σ H2 fun z H3 => ∃ kvs k, H3 a = some (.dK kvs) ∧ y = kV k ∧
  (∀ v, valV kvs k = some v → Q v (upd H3 a (.dK (dropK kvs k)))) ∧ (valV kvs k = none → Q z H3)
section
variable {X : Cx} {o e f : Expr} {apos cpos : Pos} {td ty tx : TE}
theorem pe_dget1 (hu : X.A.units + 1 < cLine) (ho : PE X o td) (he : PE X e ty) (m : M1 X o "get" apos e cpos) : PE X (.Call (.Attribute o "get" apos) [e] [] cpos) (tDGet1 td ty) := by
  intro pins s σ H Q I h
  refine wpAny_Call_method m.base m.few m.line PySem.F.plainAttrs_dict PySem.F.slot_dict_get PySem.F.type_dict_get (thn (ho pins s σ H _ I h) fun u s1 ⟨x, H1, I1, rx, a, ex, d, q1⟩ => ?_)
  subst ex
  obtain rfl : u = Value.ref a := rx
  obtain ⟨t1, t2, _⟩ := isD_at I1 d
  refine ⟨t1, t2, ?_⟩
  rw [m.trees]
  refine Calls.callWith_builtin rfl (Calls.evalArgs_plain (Calls.spliced_cons (thn (he pins s1 σ H1 _ I1 q1) fun iv s2 ⟨y, H2, I2, ry, ov, g, q2⟩ => Calls.spliced_nil ?_)))
  exact d_get1 hu I2 g ry fun w' s3 I3 rw' => ⟨_, H2, I3, rw', q2⟩
theorem pe_dget2 (hu : X.A.units + 1 < cLine) (ho : PE X o td) (he : PE X e ty) (hf : PE X f tx) (m : M2 X o "get" apos e f cpos) : PE X (.Call (.Attribute o "get" apos) [e, f] [] cpos) (tDGet2 td ty tx) := by
  intro pins s σ H Q I h
  refine wpAny_Call_method m.base m.few m.line PySem.F.plainAttrs_dict PySem.F.slot_dict_get PySem.F.type_dict_get (thn (ho pins s σ H _ I h) fun u s1 ⟨x, H1, I1, rx, a, ex, d, q1⟩ => ?_)
  subst ex
  obtain rfl : u = Value.ref a := rx
  obtain ⟨t1, t2, _⟩ := isD_at I1 d
  refine ⟨t1, t2, ?_⟩
  rw [m.trees]
  refine Calls.callWith_builtin rfl (Calls.evalArgs_plain (Calls.spliced_cons (thn (he pins s1 σ H1 _ I1 q1) fun iv s2 ⟨y, H2, I2, ry, q2⟩ =>
    Calls.spliced_cons (thn (hf pins s2 σ H2 _ I2 q2) fun fv s3 ⟨z, H3, I3, rz, ov, g, q3⟩ => Calls.spliced_nil ?_))))
  exact d_get2 hu I3 g ry rz fun w' s4 I4 rw' => ⟨_, H3, I4, rw', q3⟩
theorem pe_dpop1 (ho : PE X o td) (he : PE X e ty) (m : M1 X o "pop" apos e cpos) : PE X (.Call (.Attribute o "pop" apos) [e] [] cpos) (tDPop1 td ty) := by
  intro pins s σ H Q I h
  refine wpAny_Call_method m.base m.few m.line PySem.F.plainAttrs_dict PySem.F.slot_dict_pop PySem.F.type_dict_pop (thn (ho pins s σ H _ I h) fun u s1 ⟨x, H1, I1, rx, a, ex, d, q1⟩ => ?_)
  subst ex
  obtain rfl : u = Value.ref a := rx
  obtain ⟨t1, t2, _⟩ := isD_at I1 d
  refine ⟨t1, t2, ?_⟩
  rw [m.trees]
  refine Calls.callWith_builtin rfl (Calls.evalArgs_plain (Calls.spliced_cons (thn (he pins s1 σ H1 _ I1 q1) fun iv s2 ⟨y, H2, I2, ry, kvs, k, v, ea, ey, l, q2⟩ => Calls.spliced_nil ?_)))
  subst ey
  exact d_pop I2 ea ry l (.inl rfl) fun w' s3 I3 rw' => ⟨v, _, I3, rw', q2⟩
theorem pe_dpop2 (ho : PE X o td) (he : PE X e ty) (hf : PE X f tx) (m : M2 X o "pop" apos e f cpos) : PE X (.Call (.Attribute o "pop" apos) [e, f] [] cpos) (tDPop2 td ty tx) := by
  intro pins s σ H Q I h
  refine wpAny_Call_method m.base m.few m.line PySem.F.plainAttrs_dict PySem.F.slot_dict_pop PySem.F.type_dict_pop (thn (ho pins s σ H _ I h) fun u s1 ⟨x, H1, I1, rx, a, ex, d, q1⟩ => ?_)
  subst ex
  obtain rfl : u = Value.ref a := rx
  obtain ⟨t1, t2, _⟩ := isD_at I1 d
  refine ⟨t1, t2, ?_⟩
  rw [m.trees]
  refine Calls.callWith_builtin rfl (Calls.evalArgs_plain (Calls.spliced_cons (thn (he pins s1 σ H1 _ I1 q1) fun iv s2 ⟨y, H2, I2, ry, q2⟩ =>
    Calls.spliced_cons (thn (hf pins s2 σ H2 _ I2 q2) fun fv s3 ⟨z, H3, I3, rz, kvs, k, ea, ey, q3, q4⟩ => Calls.spliced_nil ?_))))
  subst ey
  cases l : valV kvs k with
  | some v => exact d_pop I3 ea ry l (.inr ⟨fv, rfl⟩) fun w' s4 I4 rw' => ⟨v, _, I4, rw', q3 v l⟩
  | none => exact d_popD I3 ea ry l fun s4 I4 => ⟨z, H3, I4, rz, q4 l⟩
end

/-! ### dict(d): a copy -/
section
variable {X : Cx} {pins : List (Addr × Obj)} {σ : St} {H : Hp} {s : Shared} {a : Addr} {kvs : List (Key × V)} {A : Around} {E : Value → Shared → Prop}
theorem d_copyOf {Q : Value → Shared → Prop} (I : Inv X pins σ H s) (e : Rd H a (.dK kvs)) (h : ∀ p s', H p = none → Inv X pins σ (upd H p (.dK kvs)) s' → Q (.ref p) s') : wpAny (model X.prog X.w) A (call (.type "dict") [.ref a]) Q E s := by
  obtain ⟨z, hd, vs, rel, dd⟩ := dk_rd I.hok e
  refine kt_call_dict hd dd (by rw [← rel.length]; exact z) fun h' dd' hs => ?_
  refine h _ _ (I.hok.fresh (Nat.le_refl _)) (I.laid (a := s.heap.objs.size) (o := .dK kvs) (t' := s.toks) (fun b q hq => ?_) (Nat.le_refl _) (dk_new z (beq_eq_false_iff_ne.mpr (Ne.symm (Nat.ne_of_lt I.big))) rel dd'))
  exact (hs.2 b (Nat.ne_of_lt (Heap.lt_size hq))).trans (Heap.get?_push_of_some _ hq)
end


section
variable {X : Cx} {pins : List (Addr × Obj)} {σ : St} {H : Hp} {s : Shared} {a : Addr} {y : V} {u : Value} {A : Around} {E : Value → Shared → Prop}
/-- d[y], not there: a KeyError -/
theorem d_missing {Q : Value → Shared → Prop} (hu : A.units + 1 < cLine) (hh : A.handled = none) (I : Inv X pins σ H s) (g : DGet H a y none) (ry : RelV y u)
    (h : ∀ h' e t', Heap.NewExc s.heap h' e "KeyError" → E (.ref e) { s with heap := h', toks := t' }) : wpAny (model X.prog X.w) A (getItem (.ref a) u) Q E s := by
  rcases g with ⟨kvs, k, e, ey, l⟩ | ⟨kvs, k, b, e, ey, eb, l⟩
  · subst ey
    obtain ⟨z, hd, vs, rel, dd⟩ := dk_rd I.hok e
    have hn : valueAt vs k = none := RelO.none_of (by rw [l]; exact rel.val k)
    exact wpAny_getItem_missing_of (kV_is ry) hd hh dd.mapOf hn fun h' ex ne => h h' ex _ ne
  · subst ey
    cases (show u = Value.ref b from ry)
    obtain ⟨z, hd, xs, rel, dd⟩ := dt_rd I.hok e
    have hn : (atKey xs k).map (·.2) = none := RelO.none_of (by rw [l]; exact rel.val k)
    exact wpAny_getItem_missing_heap (tupleKind_room_in1 hu) (key_of I.hok eb) hd hh dd (Option.map_eq_none_iff.mp hn) fun h' ex ne => h h' ex _ ne
end
end L2

namespace HT
open PySem PyProof.Rows

/-- t < u of tuples of ints -/
def lexLt : List Int → List Int → Bool
  | [], [] => false
  | [], _ :: _ => true
  | _ :: _, [] => false
  | x :: xs, y :: ys => if x = y then lexLt xs ys else decide (x < y)
theorem lexLt_cons (x y : Int) (xs ys : List Int) : lexLt (x :: xs) (y :: ys) = if x = y then lexLt xs ys else decide (x < y) := rfl
theorem lexLt_nil_nil : lexLt [] [] = false := rfl
theorem lexLt_nil_cons (y : Int) (ys : List Int) : lexLt [] (y :: ys) = true := rfl
theorem lexLt_cons_nil (x : Int) (xs : List Int) : lexLt (x :: xs) [] = false := rfl

theorem eqAt_int (A : Around) (s : Shared) (a : Int) (t : Tok) (c : Int) (u : Tok) : ∃ e, SeqAt.EqAt A s (.int a t) (.int c u) e ∧ (e = true ↔ a = c) :=
  ⟨(a == c), SeqAt.EqAt.int_int a t c u, by simp⟩
theorem rcLt_int (A : Around) (s : Shared) (a : Int) (t : Tok) (c : Int) (u : Tok) (prog : Program) (w : World) (E : Value → Shared → Prop) (Q : Value → Shared → Prop) (h : Q (.bool (decide (a < c))) s) :
    wpAny (model prog w) A (richCompare .Lt (.int a t) (.int c u)) Q E s :=
  (PyProof.Rows.lt_int h : wpAny (model prog w) A (compareOp .Lt (.int a t) (.int c u)) Q E s)

section
open PySem.SeqAt
open PySem.AutoSeq1 (wpAny_loadPart')
open PySem.MeetsSeq PySem.MeetsSeq2 PySem.MeetsSeq3

theorem tuple_lt_ints (l b : Addr) (items items2 : Array Value) (n n2 : Nat) (dd dd2 : Option Addr) (sl sl2 : Array (Option Value)) (ns ms : List Int) (hi : IntsAre items.toList ns) (hj : IntsAre items2.toList ms) :
    Meets (Builtin.«tuple.__lt__» ⟨[.ref l, .ref b], []⟩)
      (fun _ R s => s.heap.get? l = some { cls := .type "tuple", dict := dd, data := .seq items n, slots := sl } ∧ s.heap.get? b = some { cls := .type "tuple", dict := dd2, data := .seq items2 n2, slots := sl2 } ∧
        R (.ok (.ret (.bool (lexLt ns ms)))) s) :=
  .of_wp fun prog w A R s h => by
    obtain ⟨hp, g, d, tk, os⟩ := s; obtain ⟨hl, hb, h⟩ := h
    have f2 := AutoSeq1.sub_tuple_tuple
    have z1 : items.size = ns.length := by rw [← hi.length]; simp
    have z2 : items2.size = ms.length := by rw [← hj.length]; simp
    wp_walk using wpAny_loadPart' hl, wpAny_loadPart' hb, wpAny_forIn_list _ (fun rest b s' => b.1 = none ∧ s' = ⟨hp, g, d, tk, os⟩ ∧ ∃ (vs ws : List Value) (ns' ms' : List Int), rest = vs.zip ws ∧
      IntsAre vs ns' ∧ IntsAre ws ms' ∧ ns'.length + items2.size = ms'.length + items.size ∧ R (.ok (.ret (.bool (lexLt ns' ms')))) ⟨hp, g, d, tk, os⟩) _
    case turn =>
      rintro ⟨y, x⟩ rest b s' ⟨hb', rfl, vs, ws, ns', ms', hz, hvi, hwi, hlen, hR⟩
      cases hvi with
      | nil => rw [List.zip_nil_left] at hz; cases hz
      | cons a t hvi' =>
        cases hwi with
        | nil => rw [List.zip_nil_right] at hz; cases hz
        | cons c u hwi' =>
          rw [List.zip_cons_cons] at hz
          injection hz with hyx hrest
          injection hyx with hy hx
          subst hy hx
          rw [lexLt_cons] at hR
          simp only [List.length_cons] at hlen
          obtain ⟨e, he, hiff⟩ := eqAt_int A.in1 ⟨hp, g, d, tk, os⟩ a t c u
          refine wpAny_bind (he prog w _ _ ?_)
          cases e with
          | true =>
            rw [if_pos (hiff.mp rfl)] at hR
            wp_walk
            exact ⟨rfl, rfl, _, _, _, _, hrest, hvi', hwi', by omega, hR⟩
          | false =>
            rw [if_neg (fun q => absurd (hiff.mpr q) Bool.false_ne_true)] at hR
            have hri := rcLt_int A.in1 ⟨hp, g, d, tk, os⟩ a t c u prog w
            wp_walk using hri
            exact ⟨_, rfl, by simpa using hR⟩
    case fin =>
      rintro ⟨b1, b2⟩ s' ⟨hb', rfl, vs, ws, ns', ms', hz, hvi, hwi, hlen, hR⟩
      simp only at hb'
      subst hb'
      have hv : lexLt ns' ms' = decide (items.size < items2.size) := by
        cases hvi with
        | nil =>
          cases hwi with
          | nil =>
            simp only [List.length_nil] at hlen
            rw [lexLt_nil_nil]
            exact (decide_eq_false (by omega)).symm
          | cons c u hw =>
            simp only [List.length_nil, List.length_cons] at hlen
            rw [lexLt_nil_cons]
            exact (decide_eq_true (by omega)).symm
        | cons a t hv =>
          cases hwi with
          | nil =>
            simp only [List.length_nil, List.length_cons] at hlen
            rw [lexLt_cons_nil]
            exact (decide_eq_false (by omega)).symm
          | cons c u hw =>
            rw [List.zip_cons_cons] at hz
            cases hz
      rw [hv] at hR
      wp_walk
      exact ⟨_, rfl, by simpa [Builtin.Tuple.tupleCompareSizes] using hR⟩
    case h =>
      exact ⟨rfl, rfl, items.toList, items2.toList, ns, ms, rfl, hi, hj, by omega, h⟩
end

section
variable {prog : Program} {w : World} {A : Around} {E : Value → Shared → Prop} {s : Shared}

theorem lt_tupInts {l b : Addr} {items items2 : Array Value} {ns ms : List Int} {Q : Value → Shared → Prop} (hl : IsTup s.heap l items) (hb : IsTup s.heap b items2) (hi : IntsAre items.toList ns) (hj : IntsAre items2.toList ms)
    (hu : A.units < cLine) (h : Q (.bool (lexLt ns ms)) s) : wpAny (model prog w) A (compareOp .Lt (.ref l) (.ref b)) Q E s := by
  obtain ⟨⟨cls, dd, data, sl⟩, ho, hc, n, hd⟩ := id hl
  obtain ⟨⟨cls2, dd2, data2, sl2⟩, ho2, hc2, n2, hd2⟩ := id hb
  simp only at hc hd hc2 hd2
  subst hc hd hc2 hd2
  exact richCompare_meets_room (op := .Lt) ⟨_, ho, rfl⟩ ⟨_, ho2, rfl⟩ PySem.F.slot_tuple_lt PySem.F.entry_tuple_lt (PySem.F.args_tuple_lt_2 _ _) (tuple_lt_ints l b items items2 n n2 dd dd2 sl sl2 ns ms hi hj)
    ⟨ho, ho2, show Value.bool (lexLt ns ms) ≠ Value.notImplemented ∧ Q (.bool (lexLt ns ms)) s from ⟨(fun x => nomatch x), h⟩⟩ hu

/-- t + u, t not empty -/
theorem cat_tup {t b : Addr} {vs ws : List Value} {Q : Value → Shared → Prop} (ht : IsTup s.heap t vs.toArray) (hb : IsTup s.heap b ws.toArray) (hv : vs ≠ [])
    (h1 : ws = [] → Q (.ref t) s) (h2 : ws ≠ [] → Q (.ref s.heap.objs.size) { s with heap := s.heap.push { cls := .type "tuple", data := .seq (vs ++ ws).toArray } })
    (hsz : vs.length + ws.length ≤ sizeLine) : wpAny (model prog w) A (binaryOp .Add (.ref t) (.ref b)) Q E s := by
  obtain ⟨⟨cls, dd, data, sl⟩, ho, hc, n, hd⟩ := id ht
  obtain ⟨⟨cls2, dd2, data2, sl2⟩, ho2, hc2, n2, hd2⟩ := id hb
  simp only at hc hd hc2 hd2
  subst hc hd hc2 hd2
  have e : vs.toArray ++ ws.toArray = (vs ++ ws).toArray := by simp
  by_cases hw : ws = []
  · exact concat_meets ⟨_, ho, rfl⟩ ⟨_, ho2, rfl⟩ noFill_tuple_add seq_tuple_add PySem.F.slot_tuple_add PySem.F.entry_tuple_add (PySem.F.args_tuple_add_2 _ _)
      (tuple_addW1 t b vs.toArray ws.toArray n n2 dd dd2 sl sl2 (by simpa using hv) (by simp [hw])) ⟨ho, ho2, h1 hw⟩
  · refine concat_meets ⟨_, ho, rfl⟩ ⟨_, ho2, rfl⟩ noFill_tuple_add seq_tuple_add PySem.F.slot_tuple_add PySem.F.entry_tuple_add (PySem.F.args_tuple_add_2 _ _)
      (tuple_addW2 t b vs.toArray ws.toArray n n2 dd dd2 sl sl2 (by simpa using hv) (by simpa using hw) (by rw [List.size_toArray, List.size_toArray]; exact hsz)) ⟨ho, ho2, ?_⟩
    rw [e]
    exact h2 hw

/-! ### t[a:b], not the whole -/
/-- a slice's bound as a place among n (d where it is left out) -/
def sIx (n d : Nat) : Option Int → Nat
  | none => d
  | some v => if v < 0 then (v + (n : Int)).toNat else min v.toNat n
theorem sIx_none (n d : Nat) : sIx n d none = d := rfl
theorem sIx_nat (n d k : Nat) : sIx n d (some (k : Int)) = min k n := by
  show (if (k : Int) < 0 then ((k : Int) + (n : Int)).toNat else min (k : Int).toNat n) = min k n
  rw [if_neg (by omega), Int.toNat_natCast]
theorem sIx_le (n d : Nat) (hd : d ≤ n) (o : Option Int) : sIx n d o ≤ n := by
  cases o with
  | none => exact hd
  | some v =>
    show (if v < 0 then (v + (n : Int)).toNat else min v.toNat n) ≤ n
    by_cases hv : v < 0
    · rw [if_pos hv]; omega
    · rw [if_neg hv]; exact Nat.min_le_right _ _
theorem clip_eq (v : Int) (n d : Nat) : (if v < 0 then max (v + (n : Int)) 0 else min v (n : Int)) = ((sIx n d (some v) : Nat) : Int) := by
  show (if v < 0 then max (v + (n : Int)) 0 else min v (n : Int)) = (((if v < 0 then (v + (n : Int)).toNat else min v.toNat n) : Nat) : Int)
  by_cases hv : v < 0
  · simp only [if_pos hv]; omega
  · simp only [if_neg hv]; omega
theorem adjust_gen (lo hi : Option Int) (n : Nat) : Builtin.Slice.sliceAdjust lo hi 1 (n : Int) = (((sIx n 0 lo : Nat) : Int), ((sIx n n hi : Nat) : Int)) := by
  have h1 : ¬ ((1 : Int) < 0) := by omega
  unfold Builtin.Slice.sliceAdjust
  simp only [h1, if_false]
  refine Prod.ext ?_ ?_
  · cases lo with
    | none => rfl
    | some v => exact clip_eq v n 0
  · cases hi with
    | none => rfl
    | some v => exact clip_eq v n n
theorem places_gen (i j : Nat) : Builtin.Slice.slicePlaces (i : Int) (j : Int) 1 = j - i := by
  unfold Builtin.Slice.slicePlaces
  have h1 : (1 : Int) > 0 := by omega
  simp only [h1, if_true, Int.ediv_one]
  split <;> omega
theorem slicePart_ {v : Value} {o : Option Int} {Q : Option Int → Shared → Prop} (p : IsPart v o) (h : Q o s) : wpAny (model prog w) A (Builtin.Slice.slicePartIndex v) Q E s := by
  cases p with
  | none => exact slicePart_none h
  | int i t => exact slicePart_int h
theorem sliceApplied_gen {sl : Addr} {vl vu : Value} {lo hi : Option Int} {n : Nat} {Q : Int × Int × Nat → Shared → Prop} (hs : s.heap.IsSliceOf sl vl vu .none) (pl : IsPart vl lo) (pu : IsPart vu hi)
    (h : Q (((sIx n 0 lo : Nat) : Int), 1, sIx n n hi - sIx n 0 lo) s) : wpAny (model prog w) A (Builtin.Slice.sliceApplied (.ref sl) (pure (n : Int))) Q E s := by
  obtain ⟨os, hos, hcs, hds⟩ := id hs
  unfold Builtin.Slice.sliceApplied Builtin.Slice.sliceFields
  refine wpAny_bind (wpAny_bind (wpAny_field hos hds (x := vl) rfl (wpAny_bind (wpAny_field hos hds (x := vu) rfl (wpAny_bind (wpAny_field hos hds (x := .none) rfl (wpAny_pure ?_)))))))
  refine wpAny_bind (slicePart_none ?_)
  show wpAny _ _ (if ((1 : Int) == 0) = true then _ else _) _ _ s
  rw [if_neg (by decide)]
  refine wpAny_bind (slicePart_ pl (wpAny_bind (slicePart_ pu (wpAny_bind (wpAny_pure ?_)))))
  show wpAny _ _ (match Builtin.Slice.sliceAdjust lo hi 1 (n : Int) with | (lo, hi) => pure (lo, (1 : Int), Builtin.Slice.slicePlaces lo hi 1)) _ _ s
  rw [adjust_gen lo hi n]
  show wpAny _ _ (pure (((sIx n 0 lo : Nat) : Int), (1 : Int), Builtin.Slice.slicePlaces ((sIx n 0 lo : Nat) : Int) ((sIx n n hi : Nat) : Int) 1)) _ _ s
  rw [places_gen]
  exact wpAny_pure h
theorem pick_gen (xs : Array Value) (i k : Nat) : ((List.range k).filterMap fun (m : Nat) => xs[((i : Int) + (m : Int) * 1).toNat]?).toArray = ((xs.toList.drop i).take k).toArray := by
  have e : (fun (m : Nat) => xs[((i : Int) + (m : Int) * 1).toNat]?) = fun m => xs[i + m]? := by
    funext m
    have : ((i : Int) + (m : Int) * 1).toNat = i + m := by omega
    rw [this]
  rw [e]
  have := pick_run xs i k
  rw [List.filterMap_map] at this
  have e2 : ((fun x => xs[x]?) ∘ fun x => i + x) = fun m => xs[i + m]? := rfl
  rw [e2] at this
  rw [this]

theorem getItem_tuple_cut {t sl : Addr} {items : Array Value} {vl vu : Value} {lo hi : Option Int} {Q : Value → Shared → Prop} (ht : IsTup s.heap t items) (hs : s.heap.IsSliceOf sl vl vu .none) (pl : IsPart vl lo) (pu : IsPart vu hi)
    (hw : ¬ (sIx items.size 0 lo = 0 ∧ sIx items.size items.size hi = items.size))
    (h : Q (.ref s.heap.objs.size) { s with heap := s.heap.push { cls := .type "tuple", data := .seq ((items.toList.drop (sIx items.size 0 lo)).take (sIx items.size items.size hi - sIx items.size 0 lo)).toArray } })
    (hsz : items.size ≤ sizeLine) : wpAny (model prog w) A (getItem (.ref t) (.ref sl)) Q E s := by
  have htake : sizeOk (.seq ((items.toList.drop (sIx items.size 0 lo)).take (sIx items.size items.size hi - sIx items.size 0 lo)).toArray) := by
    show ((items.toList.drop (sIx items.size 0 lo)).take (sIx items.size items.size hi - sIx items.size 0 lo)).toArray.size ≤ sizeLine
    rw [List.size_toArray, List.length_take, List.length_drop, Array.length_toList]
    omega
  have hj : sIx items.size items.size hi ≤ items.size := sIx_le _ _ (Nat.le_refl _) hi
  obtain ⟨os, hos, hcs, hds⟩ := id hs
  have hTs : s.TypeIs (.ref sl) "slice" := ⟨os, hos, hcs⟩
  unfold getItem
  try with_reducible refine wpAny_holding ?_
  first | refine wpAny_bind (wpAny_pure ?_) | skip
  refine wpAny_bind (wpAny_sequenceKey ht.typeIs (by decide) ?_)
  refine wpAny_bind (wpAny_callSpecial?_slot (name := Str.ofString "__getitem__") ht.typeIs PyProof.Rows.slot_tuple_getitem
    (wpAny_call_entry PyProof.Rows.slot_tuple_getitem ht.typeIs entry_tuple_getitem ?_ (args_tuple_getitem _ _)))
  show wpAny _ _ (Builtin.Tuple.tupleItemsOf (.ref t) >>= _) _ _ s
  refine wpAny_bind (tupleItemsOf_ ht ?_)
  refine wpAny_bind (wpAny_typeOf hTs ?_)
  rw [if_pos (by decide)]
  refine wpAny_bind (sliceApplied_gen hs pl pu ?_)
  have hno : ¬ ((((sIx items.size 0 lo : Nat) : Int) == 0 && (1 : Int) == 1 && (sIx items.size items.size hi - sIx items.size 0 lo) == items.size) = true) := by
    intro q
    rw [Bool.and_eq_true, Bool.and_eq_true] at q
    have q1 : ((sIx items.size 0 lo : Nat) : Int) = 0 := eq_of_beq q.1.1
    have q2 : sIx items.size items.size hi - sIx items.size 0 lo = items.size := eq_of_beq q.2
    exact hw ⟨by omega, by omega⟩
  show wpAny _ _ (if (((sIx items.size 0 lo : Nat) : Int) == 0 && (1 : Int) == 1 && (sIx items.size items.size hi - sIx items.size 0 lo) == items.size) = true then _ else _) _ _ s
  rw [if_neg hno, pick_gen]
  first
    | exact wpAny_bind (m := Builtin.Tuple.tupleExact _) (wpAny_newObj_type (wpAny_pure ⟨_, rfl, wpAny_pure h⟩) htake)
    | exact wpAny_bind (m := Builtin.Tuple.tupleExact _) (wpAny_newObj_type (wpAny_bind (wpAny_pure (wpAny_pure ⟨_, rfl, wpAny_pure h⟩))) htake)
    | exact wpAny_bind (wpAny_bind (m := Builtin.Tuple.tupleExact _) (wpAny_newObj_type (wpAny_pure (wpAny_pure ⟨_, rfl, wpAny_pure h⟩)) htake))
    | exact wpAny_bind (wpAny_bind (m := Builtin.Tuple.tupleExact _) (wpAny_newObj_type (wpAny_pure ⟨_, rfl, wpAny_pure h⟩) htake))
end
end HT

namespace L2
open PySem PySem.Spec PyProof.Rows

/-! ### the parts of a slice -/
abbrev TO := St → Hp → (Option Int → Hp → Prop) → Prop
/-- a slice's part (left out, or an int) -/
def PO (X : Cx) (e : Option Expr) (t : TO) : Prop :=
  ∀ (pins : List (Addr × Obj)) (s : Shared) (σ : St) (H : Hp) (Q : Option Int → Hp → Prop), Inv X pins σ H s → t σ H Q →
    wpAny (model X.prog X.w) X.A (evalPart e X.env) (fun u s' => ∃ o H', Inv X pins σ H' s' ∧ IsPart u o ∧ Q o H') X.xe s
def tNoPart : TO := fun _ H Q => Q none H
def tPart (t : TE) : TO := fun σ H Q => t σ H fun x H1 => ∃ i, x = .int i ∧ Q (some i) H1

theorem intsAre_of {ns : List Int} : ∀ {us : List Value}, Vals (ns.map V.int) us → IntsAre us ns := by
  induction ns with
  | nil => intro us r; rw [List.map_nil] at r; cases r; exact .nil
  | cons n ns ih =>
    intro us r
    rw [List.map_cons] at r
    cases r with
    | cons r1 r2 =>
      obtain ⟨t, e⟩ := r1
      subst e
      exact .cons n t (ih r2)

section
variable {X : Cx} {e : Expr} {te : TE} {lo hi : Option Expr} {tl th : TO} {pos p2 : Pos}

theorem po_none : PO X none tNoPart := by
  intro pins s σ H Q I h
  rw [evalPart_none]
  exact wpAny_pure ⟨none, H, I, .none, h⟩
theorem po_some (h : PE X e te) : PO X (some e) (tPart te) := by
  intro pins s σ H Q I hw
  rw [evalPart_some]
  refine thn (h pins s σ H _ I hw) fun u s1 ⟨x, H1, I1, r1, q1⟩ => ?_
  obtain ⟨i, rfl, q⟩ := q1
  obtain ⟨t, rfl⟩ := r1
  exact ⟨some i, H1, I1, .int i t, q⟩

/-- what a slice of a value is, by values: the slice object stands at sl -/
def SlR (X : Cx) (r : V → Option Int → Option Int → Hp → VK → Prop) : Prop :=
  ∀ (pins : List (Addr × Obj)) (s : Shared) (σ : St) (H : Hp) (x : V) (v vl vu : Value) (lo hi : Option Int) (sl : Addr) (Q : VK), Inv X pins σ H s → RelV x v → s.heap.IsSliceOf sl vl vu .none → IsPart vl lo → IsPart vu hi → r x lo hi H Q →
    ∃ T id, typeLookup (.type T) "__getitem__" = pure (some (.builtin id)) ∧ s.TypeIs v T ∧ wpAny (model X.prog X.w) X.A (getItem v (.ref sl)) (EP X pins σ Q) X.xe s
theorem SlR.or {r r' : V → Option Int → Option Int → Hp → VK → Prop} (h : SlR X r) (h' : SlR X r') : SlR X (fun x lo hi H Q => r x lo hi H Q ∨ r' x lo hi H Q) := by
  intro pins s σ H x v vl vu lo hi sl Q I rx hs pl pu q
  rcases q with q | q
  · exact h pins s σ H x v vl vu lo hi sl Q I rx hs pl pu q
  · exact h' pins s σ H x v vl vu lo hi sl Q I rx hs pl pu q
def tSl (r : V → Option Int → Option Int → Hp → VK → Prop) (te : TE) (tl th : TO) : TE := fun σ H Q => te σ H fun x H1 => tl σ H1 fun l H2 => th σ H2 fun u H3 => r x l u H3 Q
/-- a[lo:hi], any a -/
theorem pe_slice {r : V → Option Int → Option Int → Hp → VK → Prop} (hr : SlR X r) (he : PE X e te) (hl : PO X lo tl) (hu : PO X hi th) : PE X (.Subscript e (.Slice lo hi none p2) pos) (tSl r te tl th) := by
  intro pins s σ H Q I h
  refine Subscript_ (thn (he pins s σ H _ I h) fun v s1 ⟨x, H1, I1, r1, q1⟩ => ?_)
  refine wpAny_Slice (thn (hl pins s1 σ H1 _ I1 q1) fun vl s2 ⟨l, H2, I2, pl, q2⟩ => thn (hu pins s2 σ H2 _ I2 q2) fun vu s3 ⟨u, H3, I3, pu, q3⟩ => ?_)
  rw [evalPart_none]
  refine wpAny_pure ?_
  have I4 : Inv X pins σ H3 { s3 with heap := s3.heap.push { cls := .type "slice", data := .fields #[vl, vu, .none] } } := I3.kept (t' := s3.toks) fun b ob q => Heap.get?_push_of_some _ q
  obtain ⟨T, id, hT, ht, hg⟩ := hr pins { s3 with heap := s3.heap.push { cls := .type "slice", data := .fields #[vl, vu, .none] } } σ H3 x v vl vu l u s3.heap.objs.size Q I4 r1 (Heap.IsSliceOf.new ..) pl pu q3
  show wpAny (model X.prog X.w) X.A (subscriptTail e (.Slice lo hi none p2) v (.ref s3.heap.objs.size)) (EP X pins σ Q) X.xe { s3 with heap := s3.heap.push { cls := .type "slice", data := .fields #[vl, vu, .none] } }
  exact tail_any (ops := [.ref s3.heap.objs.size, v]) ht hT hg (by with_unfolding_all rfl)

/-- the items of xs[lo:hi] -/
def cutV (xs : List V) (lo hi : Option Int) : List V := (xs.drop (HT.sIx xs.length 0 lo)).take (HT.sIx xs.length xs.length hi - HT.sIx xs.length 0 lo)
theorem cutV_length (xs : List V) (lo hi : Option Int) : (cutV xs lo hi).length ≤ xs.length := by
  unfold cutV
  rw [List.length_take, List.length_drop]
  omega
/-- t[lo:hi], not the whole of it (the whole would be t itself) -/
def rSlT (K : PySem.W.Frag) : V → Option Int → Option Int → Hp → VK → Prop := fun x lo hi H Q => ∃ a xs, x = .ref a ∧ SqT K H a xs ∧
  ¬ (HT.sIx xs.length 0 lo = 0 ∧ HT.sIx xs.length xs.length hi = xs.length) ∧ ∀ p, H p = none → Q (.ref p) (upd H p (.tup (cutV xs lo hi)))
theorem sl_tup : SlR X (rSlT X.K) := by
  intro pins s σ H x v vl vu lo hi sl Q I rx hs pl pu h
  obtain ⟨a, xs, rfl, hx, hw, q⟩ := h
  cases rx
  obtain ⟨its, r, ht, hz⟩ := I.tuple hx
  have hlen : its.toArray.size = xs.length := by rw [List.size_toArray]; exact r.length.symm
  refine ⟨"tuple", _, PyProof.Rows.slot_tuple_getitem.lookup, ht.typeIs, ?_⟩
  refine HT.getItem_tuple_cut ht hs pl pu (by rw [hlen]; exact hw) ?_ (by rw [hlen]; exact hz)
  rw [hlen]
  refine ⟨.ref s.heap.objs.size, _, I.laid (t' := s.toks) (o := .tup (cutV xs lo hi)) (fun b ob q => Heap.get?_push_of_some _ q) (Nat.le_refl _) ?_, rfl, q _ (I.hok.fresh (Nat.le_refl _))⟩
  exact ⟨Nat.le_trans (cutV_length xs lo hi) hz, _, (r.drop (HT.sIx xs.length 0 lo)).take (HT.sIx xs.length xs.length hi - HT.sIx xs.length 0 lo), IsTup.new _ _⟩

/-! ### t < u, t + u -/
def rLtT (K : PySem.W.Frag) : R2 := fun x y H Q => ∃ a b ns ms, x = .ref a ∧ y = .ref b ∧ SqT K H a (ns.map V.int) ∧ SqT K H b (ms.map V.int) ∧ Q (.bl (HT.lexLt ns ms)) H
theorem op_ltT (hu : X.A.units < cLine) : OpR X (compareOp .Lt) (rLtT X.K) := by
  intro pins s σ H x y v u Q I rx ry h
  obtain ⟨a, b, ns, ms, rfl, rfl, ha, hb, q⟩ := h
  cases rx
  cases ry
  obtain ⟨its, r1, p1, _⟩ := I.tuple ha
  obtain ⟨its2, r2, p2, _⟩ := I.tuple hb
  have i1 : IntsAre its.toArray.toList ns := intsAre_of r1
  have i2 : IntsAre its2.toArray.toList ms := intsAre_of r2
  exact HT.lt_tupInts p1 p2 i1 i2 hu ⟨.bl (HT.lexLt ns ms), H, I, rfl, q⟩
/-- t + u, t not empty: u empty gives t itself -/
def rCatT (K : PySem.W.Frag) : R2 := fun x y H Q => ∃ a b xs ys, x = .ref a ∧ y = .ref b ∧ SqT K H a xs ∧ SqT K H b ys ∧ xs ≠ [] ∧ xs.length + ys.length ≤ sizeLine ∧
  (ys = [] → Q (.ref a) H) ∧ (ys ≠ [] → ∀ p, H p = none → Q (.ref p) (upd H p (.tup (xs ++ ys))))
theorem Vals.nil_iff {xs : List V} {us : List Value} (r : Vals xs us) : us = [] ↔ xs = [] := by
  cases r with
  | nil => simp
  | cons _ _ => simp
theorem op_catT : OpR X (binaryOp .Add) (rCatT X.K) := by
  intro pins s σ H x y v u Q I rx ry h
  obtain ⟨a, b, xs, ys, rfl, rfl, ha, hb, hx, hz, q1, q2⟩ := h
  cases rx
  cases ry
  obtain ⟨its, r1, p1, _⟩ := I.tuple ha
  obtain ⟨its2, r2, p2, _⟩ := I.tuple hb
  refine HT.cat_tup p1 p2 (fun z => hx (r1.nil_iff.mp z)) (fun z => ⟨.ref a, H, I, rfl, q1 (r2.nil_iff.mp z)⟩) (fun z => ?_) (by rw [← r1.length, ← r2.length]; exact hz)
  refine ⟨.ref s.heap.objs.size, _, I.laid (t' := s.toks) (o := .tup (xs ++ ys)) (fun b ob q => Heap.get?_push_of_some _ q) (Nat.le_refl _) ?_, rfl, q2 (fun w => z (r2.nil_iff.mpr w)) _ (I.hok.fresh (Nat.le_refl _))⟩
  exact ⟨by rw [List.length_append]; exact hz, _, r1.append r2, IsTup.new _ _⟩
/-- tuple(t) -/
theorem call_tupleT : CallR X (.type "tuple") (fun xs H Q => ∃ a ys, xs = [.ref a] ∧ SqT X.K H a ys ∧ Q (.ref a) H) := by
  intro pins s σ H xs us Q I r h
  obtain ⟨a, ys, rfl, ha, q⟩ := h
  obtain ⟨u, rfl, ru⟩ := vals1 r
  cases ru
  obtain ⟨its, _, p1, _⟩ := I.tuple ha
  exact call_tuple_same (items := its.toArray) p1 ⟨.ref a, H, I, rfl, q⟩
end
end L2

namespace L2
open PySem PySem.Spec PyProof.Rows

/-! ### places -/
/-- the place that an index of any sign means -/
def ixN (n : Nat) (i : Int) : Option Nat := if 0 ≤ i then (if i < n then some i.toNat else none) else if -(n : Int) ≤ i then some (i + n).toNat else none
def atI {α : Type} (xs : List α) (i : Int) : Option α := (ixN xs.length i).bind fun j => xs[j]?
theorem ixN_seq {n : Nat} {i : Int} {j : Nat} (h : ixN n i = some j) : seqIndex? i n = some j ∧ j < n ∧ -(n : Int) ≤ i ∧ i < n := by
  unfold ixN at h
  by_cases h0 : 0 ≤ i
  · rw [if_pos h0] at h
    by_cases h1 : i < n
    · rw [if_pos h1] at h
      have e : i.toNat = j := Option.some.inj h
      exact ⟨by rw [seqIndex_of h0 h1, e], by omega, by omega, h1⟩
    · rw [if_neg h1] at h; cases h
  · rw [if_neg h0] at h
    by_cases h1 : -(n : Int) ≤ i
    · rw [if_pos h1] at h
      have e : (i + n).toNat = j := Option.some.inj h
      exact ⟨by rw [seqIndex_neg (by omega) h1, e], by omega, h1, by omega⟩
    · rw [if_neg h1] at h; cases h
theorem atI_get {α : Type} {xs : List α} {i : Int} {v : α} (h : atI xs i = some v) : ∃ j, seqIndex? i xs.length = some j ∧ xs[j]? = some v ∧ j < xs.length ∧ -(xs.length : Int) ≤ i ∧ i < xs.length := by
  unfold atI at h
  cases e : ixN xs.length i with
  | none => rw [e] at h; cases h
  | some j =>
    rw [e] at h
    obtain ⟨h1, h2, h3, h4⟩ := ixN_seq e
    exact ⟨j, h1, h, h2, h3, h4⟩
theorem atI_nat {α : Type} {xs : List α} {j : Nat} {v : α} (h : xs[j]? = some v) : atI xs (j : Int) = some v := by
  have hj : j < xs.length := (List.getElem?_eq_some_iff.mp h).1
  have e : ixN xs.length (j : Int) = some j := by
    unfold ixN
    rw [if_pos (by omega), if_pos (by omega)]; simp
  unfold atI; rw [e]; exact h
theorem atI_last {α : Type} (xs : List α) (v : α) : atI (xs ++ [v]) (-1) = some v := by
  have hl : (xs ++ [v]).length = xs.length + 1 := by simp
  have e : ixN (xs ++ [v]).length (-1) = some xs.length := by
    unfold ixN
    rw [hl, if_neg (by decide), if_pos (by omega)]
    congr 1
    omega
  unfold atI
  rw [e]
  show (xs ++ [v])[xs.length]? = some v
  simp

/-! ### what may be subscripted -/
/-- what stands as an index of a plain subscript -/
def PlainIx (b : Expr) : Prop := ∀ o i, subscripted b false o i = operate [o, i] (getItem o i)
/-- a subscript by values -/
def IxR (X : Cx) (r : R2) : Prop :=
  ∀ (value slice : Expr) (pins : List (Addr × Obj)) (s : Shared) (σ : St) (H : Hp) (x y : V) (v u : Value) (Q : VK), Inv X pins σ H s → RelV x v → RelV y u → r x y H Q →
    subscripted slice false v u = operate [v, u] (getItem v u) → wpAny (model X.prog X.w) X.A (subscriptTail value slice v u) (EP X pins σ Q) X.xe s
/-- a call of a builtin's method by values: the receiver, the arguments -/
def MtR (X : Cx) (id : String) (r : V → List V → Hp → VK → Prop) : Prop :=
  ∀ (pins : List (Addr × Obj)) (s : Shared) (σ : St) (H : Hp) (x : V) (xs : List V) (v : Value) (us : List Value) (Q : VK), Inv X pins σ H s → RelV x v → Vals xs us → r x xs H Q →
    wpAny (model X.prog X.w) X.A (call (.builtin id) (v :: us)) (EP X pins σ Q) X.xe s
section
variable {X : Cx} {a b : Expr} {ta tb : TE} {pos : Pos}
theorem IxR.or {r r' : R2} (h : IxR X r) (h' : IxR X r') : IxR X (fun x y H Q => r x y H Q ∨ r' x y H Q) := by
  intro value slice pins s σ H x y v u Q I rx ry q hs
  rcases q with q | q
  · exact h value slice pins s σ H x y v u Q I rx ry q hs
  · exact h' value slice pins s σ H x y v u Q I rx ry q hs
theorem MtR.or {id : String} {r r' : V → List V → Hp → VK → Prop} (h : MtR X id r) (h' : MtR X id r') : MtR X id (fun x xs H Q => r x xs H Q ∨ r' x xs H Q) := by
  intro pins s σ H x xs v us Q I rx rs q
  rcases q with q | q
  · exact h pins s σ H x xs v us Q I rx rs q
  · exact h' pins s σ H x xs v us Q I rx rs q
/-- a[b] -/
theorem pe_ix {r : R2} (hr : IxR X r) (ha : PE X a ta) (hb : PE X b tb) (hs : PlainIx b) : PE X (.Subscript a b pos) (tOp r ta tb) := by
  intro pins s σ H Q I h
  exact Subscript_ (binT ha hb I h fun v u s2 x y H2 I2 rx ry q => hr a b pins s2 σ H2 x y v u Q I2 rx ry q (hs _ _))

def rIxL (K : PySem.W.Frag) : R2 := fun x y H Q => ∃ p xs i v, x = .ref p ∧ y = .int i ∧ SqL K H p xs ∧ atI xs i = some v ∧ Q v H
def rIxT (K : PySem.W.Frag) : R2 := fun x y H Q => ∃ p xs i v, x = .ref p ∧ y = .int i ∧ SqT K H p xs ∧ atI xs i = some v ∧ Q v H
def rIxS : R2 := fun x y H Q => ∃ z i c, x = .str z ∧ y = .int i ∧ z.length ≤ sizeLine ∧ atI z.cps.toList i = some c ∧ Q (.str ⟨#[c]⟩) H
theorem ix_list : IxR X (rIxL X.K) := by
  intro value slice pins s σ H x y v u Q I rx ry h hs
  obtain ⟨p, xs, i, z, rfl, rfl, hq, he, q⟩ := h
  cases rx
  obtain ⟨t, rfl⟩ := ry
  obtain ⟨its, r, pl, hz⟩ := I.list hq
  obtain ⟨j, h1, h2, h3, h4, h5⟩ := atI_get he
  obtain ⟨w, ew, rw'⟩ := r.get h2
  have hl := r.length
  have hn := line63
  have fin : EP X pins σ Q w s := ⟨z, H, I, rw', q⟩
  by_cases h0 : 0 ≤ i
  · have hj : i.toNat = j := by
      rw [seqIndex_of h0 h5] at h1
      exact Option.some.inj h1
    exact item_listR pl.isList h0 (by omega) (by rw [hj]; simpa using ew) fin hs
  · have hj : (i + (its.toArray.size : Int)).toNat = j := by
      rw [seqIndex_neg (by omega) h4] at h1
      rw [List.size_toArray, ← hl]
      exact Option.some.inj h1
    exact subscriptTail_builtinR (x := w) pl.isList.typeIs slot_list_getitem.lookup
      (wpAny_getItem_list_neg (Q := fun r s' => r = w ∧ EP X pins σ Q r s') pl.isList (by omega) (by rw [List.size_toArray] <;> omega) (by omega) (by rw [hj]; simpa using ew) ⟨rfl, fin⟩) hs
theorem ix_tup : IxR X (rIxT X.K) := by
  intro value slice pins s σ H x y v u Q I rx ry h hs
  obtain ⟨p, xs, i, z, rfl, rfl, hq, he, q⟩ := h
  cases rx
  obtain ⟨t, rfl⟩ := ry
  obtain ⟨its, r, pl, hz⟩ := I.tuple hq
  obtain ⟨j, h1, h2, h3, h4, h5⟩ := atI_get he
  obtain ⟨w, ew, rw'⟩ := r.get h2
  have hl := r.length
  have hn := line63
  have fin : EP X pins σ Q w s := ⟨z, H, I, rw', q⟩
  exact subscriptTail_builtinR (x := w) pl.typeIs slot_tuple_getitem.lookup
    (getItem_tuple (j := j) (Q := fun r s' => r = w ∧ EP X pins σ Q r s') pl (by omega) (by omega) (by rw [List.size_toArray, ← hl]; exact h1) (by simpa using ew) ⟨rfl, fin⟩) hs
theorem ix_str : IxR X rIxS := by
  intro value slice pins s σ H x y v u Q I rx ry h hs
  obtain ⟨z, i, c, rfl, rfl, hz, he, q⟩ := h
  obtain ⟨t, rfl⟩ := rx
  obtain ⟨t', rfl⟩ := ry
  obtain ⟨j, h1, h2, h3, h4, h5⟩ := atI_get he
  have hl : z.cps.toList.length = z.length := by simp [Str.length]
  rw [hl] at h1 h4 h5
  have hn := line63
  exact tail_any (typeIs_str s z t) slot_str_getitem.lookup (getItem_str (c := c) (by
    have e1 : decide (i < -(2 ^ 63 : Int)) = false := decide_eq_false (by omega)
    have e2 : decide (i ≥ 2 ^ 63) = false := decide_eq_false (by omega)
    rw [e1, e2, Bool.or_false]) (by rw [h1]; simpa using h2) ⟨.str ⟨#[c]⟩, H, I.tok _, ⟨_, rfl⟩, q⟩) hs
/-- list, tuple or str -/
def rIx (K : PySem.W.Frag) : R2 := fun x y H Q => rIxL K x y H Q ∨ rIxT K x y H Q ∨ rIxS x y H Q
theorem ix_seq : IxR X (rIx X.K) := ix_list.or (ix_tup.or ix_str)

/-! ### xs[i] = v, any sign -/
/-- the list's object behind a store -/
theorem mapSeq_set (its : List Value) (n j : Nat) (u : Value) : Obj.mapSeq (·.setIfInBounds j u) { cls := .type "list", data := .seq its.toArray n } = { cls := .type "list", data := .seq (its.set j u).toArray n } := by
  simp [Obj.mapSeq]
theorem Inv.lst {pins : List (Addr × Obj)} {σ : St} {H : Hp} {s : Shared} {p : Addr} {xs : List V} (I : Inv X pins σ H s) (h : H p = some (.lst xs)) :
    ∃ (its : List Value) (n : Nat), Vals xs its ∧ s.heap.get? p = some { cls := .type "list", data := .seq its.toArray n } ∧ xs.length ≤ sizeLine := by
  obtain ⟨z, its, n, r, e⟩ := I.hok p _ h
  exact ⟨its, n, r, e, z⟩
/-- the list at p is written by an update of its object -/
theorem Inv.lstUpd {pins : List (Addr × Obj)} {σ : St} {H : Hp} {s : Shared} {p : Addr} {xs ys : List V} {its its' : List Value} {n n' : Nat} {f : Obj → Obj} (I : Inv X pins σ H s) (h : H p = some (.lst xs))
    (ho : s.heap.get? p = some { cls := .type "list", data := .seq its.toArray n }) (hf : f { cls := .type "list", data := .seq its.toArray n } = { cls := .type "list", data := .seq its'.toArray n' }) (r : Vals ys its') (hz : ys.length ≤ sizeLine) (t : Nat) :
    Inv X pins σ (upd H p (.lst ys)) { s with heap := s.heap.update p f, toks := t } := by
  have e : (s.heap.update p f).get? p = some { cls := .type "list", data := .seq its'.toArray n' } := by
    rw [Heap.get?_update_self f ho (by rw [hf] <;> rfl), hf]
  refine I.write (x := p) (e := p) (by rw [h]; trivial) (.inl rfl) (fun b u hb q => (Heap.get?_update_other _ _ (Ne.symm hb)).trans q) ⟨_, e⟩ ?_
  exact ⟨hz, its', n', r, e⟩
def rSetL : V → V → V → Hp → (Hp → Prop) → Prop := fun o i v H Q => ∃ p xs k j, o = .ref p ∧ i = .int k ∧ H p = some (.lst xs) ∧ ixN xs.length k = some j ∧ Q (upd H p (.lst (xs.set j v)))
theorem set_list : PSet X rSetL := by
  intro pins s σ H o i v ov iv u Q I ro ri rv h
  obtain ⟨p, xs, k, j, rfl, rfl, hp, hj, q⟩ := h
  cases ro
  obtain ⟨t, rfl⟩ := ri
  obtain ⟨its, n, r, ho, hz⟩ := I.lst hp
  obtain ⟨h1, h2, h3, h4⟩ := ixN_seq hj
  have hl := r.length
  have hn := line63
  have I' : Inv X pins σ (upd H p (.lst (xs.set j v))) { s with heap := s.heap.update p (Obj.mapSeq (·.setIfInBounds j u)) } :=
    I.lstUpd hp ho (mapSeq_set its n j u) (r.set rv j) (by rw [List.length_set]; exact hz) s.toks
  by_cases h0 : 0 ≤ k
  · have hk : k.toNat = j := by
      rw [seqIndex_of h0 h4] at h1
      exact Option.some.inj h1
    exact PySem.W.ki_setAt ho h0 (by omega) (by rw [List.size_toArray, ← hl]; exact h4) (by rw [hk]; exact ⟨_, I', q⟩)
  · have hk : (k + (its.toArray.size : Int)).toNat = j := by
      rw [seqIndex_neg (by omega) h3] at h1
      rw [List.size_toArray, ← hl]
      exact Option.some.inj h1
    exact PySem.W.ki_setBack ho (by omega) (by rw [List.size_toArray, ← hl]; exact h3) (by omega) (by rw [hk]; exact ⟨_, I', q⟩)

/-! ### slices -/
theorem slice_bounds (lo hi : Option Int) (n : Nat) : (sliceBounds lo hi none n).1 = ((HT.sIx n 0 lo : Nat) : Int) ∧ (sliceBounds lo hi none n).2.1 = ((HT.sIx n n hi : Nat) : Int) ∧ (sliceBounds lo hi none n).2.2 = 1 := by
  refine ⟨?_, ?_, rfl⟩
  · cases lo with
    | none => simp [sliceBounds, HT.sIx]
    | some i =>
      simp only [sliceBounds, HT.sIx, Option.getD_none, show (1 : Int) > 0 by decide, if_true]
      by_cases h : i < 0
      · simp only [h, if_true] <;> omega
      · simp only [h, if_false] <;> omega
  · cases hi with
    | none => simp [sliceBounds, HT.sIx]
    | some i =>
      simp only [sliceBounds, HT.sIx, Option.getD_none, show (1 : Int) > 0 by decide, if_true]
      by_cases h : i < 0
      · simp only [h, if_true] <;> omega
      · simp only [h, if_false] <;> omega
theorem slicePick_cut (its : List Value) (lo hi : Option Int) : slicePick its.toArray lo hi none = ((its.drop (HT.sIx its.length 0 lo)).take (HT.sIx its.length its.length hi - HT.sIx its.length 0 lo)).toArray := by
  obtain ⟨h1, h2, h3⟩ := slice_bounds lo hi its.toArray.size
  unfold slicePick
  rw [h1, h2, h3]
  simp only [sliceRange_one, pick_run, List.size_toArray] <;> rfl
/-- xs[lo:hi] of a list: a new list -/
def rSlL (K : PySem.W.Frag) : V → Option Int → Option Int → Hp → VK → Prop := fun x lo hi H Q => ∃ a xs, x = .ref a ∧ SqL K H a xs ∧ ∀ p, H p = none → Q (.ref p) (upd H p (.lst (cutV xs lo hi)))
theorem sl_list : SlR X (rSlL X.K) := by
  intro pins s σ H x v vl vu lo hi sl Q I rx hs pl pu h
  obtain ⟨a, xs, rfl, hx, q⟩ := h
  cases rx
  obtain ⟨its, r, ht, hz⟩ := I.list hx
  have hlen := r.length
  refine ⟨"list", _, slot_list_getitem.lookup, ht.isList.typeIs, ?_⟩
  refine wpAny_getItem_list_slice ht.isList hs pl pu .none (by simp) ?_ (by rw [List.size_toArray] <;> omega)
  rw [slicePick_cut, ← hlen]
  refine ⟨.ref s.heap.objs.size, _, I.laid (t' := s.toks) (o := .lst (cutV xs lo hi)) (fun b ob q => Heap.get?_push_of_some _ q) (Nat.le_refl _) ?_, rfl, q _ (I.hok.fresh (Nat.le_refl _))⟩
  exact ⟨Nat.le_trans (cutV_length xs lo hi) hz, _, 0, (r.drop (HT.sIx xs.length 0 lo)).take (HT.sIx xs.length xs.length hi - HT.sIx xs.length 0 lo), Heap.get?_push_size _ rfl⟩

/-! ### in, not in: flat items -/
def flatV : V → Bool
  | .non => true
  | .bl _ => true
  | .int _ => true
  | .str _ => true
  | _ => false
/-- == of flat values -/
def eqV : V → V → Bool
  | .non, .non => true
  | .bl a, .bl b => a == b
  | .bl a, .int b => (if a then 1 else 0) == b
  | .int a, .bl b => a == (if b then 1 else 0)
  | .int a, .int b => a == b
  | .str a, .str b => a == b
  | _, _ => false
theorem eqAt_V {A : Around} {s : Shared} {y x : V} {u v : Value} (ry : RelV y u) (rx : RelV x v) (fy : flatV y = true) (fx : flatV x = true) : SeqAt.EqAt A s u v (eqV y x) := by
  cases y with
  | non =>
    cases ry
    cases x with
    | non => cases rx; exact SeqAt.EqAt.same _
    | bl b => cases rx; exact SeqAt.EqAt.none_bool b
    | int b => obtain ⟨t, rfl⟩ := rx; exact SeqAt.EqAt.none_int b t
    | str b => obtain ⟨t, rfl⟩ := rx; exact SeqAt.EqAt.none_str b t
    | _ => exact absurd (show false = true from fx) Bool.false_ne_true
  | bl a =>
    cases ry
    cases x with
    | non => cases rx; exact SeqAt.EqAt.bool_none a
    | bl b => cases rx; exact SeqAt.EqAt.bool_bool a b
    | int b => obtain ⟨t, rfl⟩ := rx; exact SeqAt.EqAt.bool_int a b t
    | str b => obtain ⟨t, rfl⟩ := rx; exact SeqAt.EqAt.bool_str a b t
    | _ => exact absurd (show false = true from fx) Bool.false_ne_true
  | int a =>
    obtain ⟨t', rfl⟩ := ry
    cases x with
    | non => cases rx; exact SeqAt.EqAt.int_none a t'
    | bl b => cases rx; exact SeqAt.EqAt.int_bool a t' b
    | int b => obtain ⟨t, rfl⟩ := rx; exact SeqAt.EqAt.int_int a t' b t
    | str b => obtain ⟨t, rfl⟩ := rx; exact SeqAt.EqAt.int_str a t' b t
    | _ => exact absurd (show false = true from fx) Bool.false_ne_true
  | str a =>
    obtain ⟨t', rfl⟩ := ry
    cases x with
    | non => cases rx; exact SeqAt.EqAt.str_none a t'
    | bl b => cases rx; exact SeqAt.EqAt.str_bool a t' b
    | int b => obtain ⟨t, rfl⟩ := rx; exact SeqAt.EqAt.str_int a t' b t
    | str b => obtain ⟨t, rfl⟩ := rx; exact SeqAt.EqAt.str_str a t' b t
    | _ => exact absurd (show false = true from fx) Bool.false_ne_true
  | _ => exact absurd (show false = true from fy) Bool.false_ne_true
/-- the items' answers, read off the values (a value's own answer does not lean on its token) -/
def eqU (x : V) (u : Value) : Bool := match u with
  | .none => eqV .non x
  | .bool b => eqV (.bl b) x
  | .int i _ => eqV (.int i) x
  | .str z _ => eqV (.str z) x
  | _ => false
theorem eqU_of {x y : V} {u : Value} (r : RelV y u) (f : flatV y = true) : eqU x u = eqV y x := by
  cases y with
  | non => cases r; rfl
  | bl b => cases r; rfl
  | int i => obtain ⟨t, rfl⟩ := r; rfl
  | str z => obtain ⟨t, rfl⟩ := r; rfl
  | _ => exact absurd (show false = true from f) Bool.false_ne_true
theorem any_eqU {x : V} : ∀ {xs : List V} {us : List Value}, Vals xs us → xs.all flatV = true → us.any (eqU x) = xs.any fun y => eqV y x
  | _, _, .nil, _ => rfl
  | y :: xs, u :: us, .cons r t, f => by
    rw [List.all_cons, Bool.and_eq_true] at f
    rw [List.any_cons, List.any_cons, eqU_of r f.1, any_eqU t f.2]
theorem mem_eqAt {A : Around} {s : Shared} {x : V} {v : Value} (rx : RelV x v) (fx : flatV x = true) : ∀ {xs : List V} {us : List Value}, Vals xs us → xs.all flatV = true → ∀ u ∈ us, SeqAt.EqAt A s u v (eqU x u)
  | _, _, .nil, _ => fun u hu => by cases hu
  | y :: xs, u :: us, .cons r t, f => fun u' hu => by
    rw [List.all_cons, Bool.and_eq_true] at f
    rcases List.mem_cons.mp hu with rfl | hu
    · rw [eqU_of r f.1]; exact eqAt_V r rx f.1 fx
    · exact mem_eqAt rx fx t f.2 u' hu
def inV (x : V) (xs : List V) : Bool := xs.any fun y => eqV y x
/-- x in a list or tuple of flat items -/
def rIn (K : PySem.W.Frag) (neg : Bool) : R2 := fun x y H Q => ∃ p xs, y = .ref p ∧ (SqL K H p xs ∨ SqT K H p xs) ∧ flatV x = true ∧ xs.all flatV = true ∧ Q (.bl (if neg then !inV x xs else inV x xs)) H
theorem op_in_seq : OpR X (compareOp .In) (rIn X.K false) := by
  intro pins s σ H x y v u Q I rx ry h
  obtain ⟨p, xs, rfl, hq, fx, fs, q⟩ := h
  cases ry
  rcases hq with hq | hq
  · obtain ⟨its, r, pl, hz⟩ := I.list hq
    refine SeqAt.in_listAt (eqU x) pl.isList (fun w hw => mem_eqAt rx fx r fs w (by simpa using hw)) ⟨.bl _, H, I, rfl, ?_⟩
    rw [show its.toArray.any (eqU x) = its.any (eqU x) by simp, any_eqU r fs]
    exact q
  · obtain ⟨its, r, pl, hz⟩ := I.tuple hq
    refine SeqAt.in_tupleAt (eqU x) pl (fun w hw => mem_eqAt rx fx r fs w (by simpa using hw)) ⟨.bl _, H, I, rfl, ?_⟩
    rw [show its.toArray.any (eqU x) = its.any (eqU x) by simp, any_eqU r fs]
    exact q
theorem op_notIn_seq : OpR X (compareOp .NotIn) (rIn X.K true) := by
  intro pins s σ H x y v u Q I rx ry h
  obtain ⟨p, xs, rfl, hq, fx, fs, q⟩ := h
  cases ry
  rcases hq with hq | hq
  · obtain ⟨its, r, pl, hz⟩ := I.list hq
    refine SeqAt.notIn_listAt (eqU x) pl.isList (fun w hw => mem_eqAt rx fx r fs w (by simpa using hw)) ⟨.bl _, H, I, rfl, ?_⟩
    rw [show its.toArray.any (eqU x) = its.any (eqU x) by simp, any_eqU r fs]
    exact q
  · obtain ⟨its, r, pl, hz⟩ := I.tuple hq
    refine SeqAt.notIn_tupleAt (eqU x) pl (fun w hw => mem_eqAt rx fx r fs w (by simpa using hw)) ⟨.bl _, H, I, rfl, ?_⟩
    rw [show its.toArray.any (eqU x) = its.any (eqU x) by simp, any_eqU r fs]
    exact q
theorem op_notIn_str : OpR X (compareOp .NotIn) (fun x y H Q => ∃ i j, x = .str i ∧ y = .str j ∧ Q (.bl (!(!(Builtin.Str.occurrences j i 0 j.length 1).isEmpty))) H) := by
  intro pins s σ H x y v u Q I rx ry h
  obtain ⟨i, j, rfl, rfl, q⟩ := h
  obtain ⟨t, rfl⟩ := rx
  obtain ⟨t', rfl⟩ := ry
  exact notIn_str ⟨.bl _, H, I, rfl, q⟩

/-! ### len, list(x), tuple(x) of any list or tuple that is read -/
theorem call_len_seq : CallR X (.builtin "len") (fun xs H Q => ∃ p ys, xs = [.ref p] ∧ (SqL X.K H p ys ∨ SqT X.K H p ys) ∧ Q (.int ys.length) H) := by
  intro pins s σ H xs us Q I r h
  obtain ⟨p, ys, rfl, hq, q⟩ := h
  obtain ⟨u, rfl, rx⟩ := vals1 r
  cases rx
  have hn := line63
  rcases hq with hq | hq
  · obtain ⟨its, r', pl, hz⟩ := I.list hq
    have hlen := r'.length
    exact Calls.call_len_list pl.isList (by simp only [List.size_toArray] <;> omega) ⟨.int ys.length, H, I.tok _, ⟨s.toks + 1, by rw [List.size_toArray, hlen]⟩, q⟩
  · obtain ⟨its, r', pl, hz⟩ := I.tuple hq
    have hlen := r'.length
    exact len_tuple pl (by simp only [List.size_toArray] <;> omega) ⟨.int ys.length, H, I.tok _, ⟨s.toks + 1, by rw [List.size_toArray, hlen]⟩, q⟩
theorem call_len_str : CallR X (.builtin "len") (fun xs H Q => ∃ z, xs = [.str z] ∧ z.length ≤ sizeLine ∧ Q (.int z.length) H) := by
  intro pins s σ H xs us Q I r h
  obtain ⟨z, rfl, hz, q⟩ := h
  obtain ⟨u, rfl, t, rfl⟩ := vals1 r
  have hn := line63
  exact len_str (by omega) ⟨.int z.length, H, I.tok _, ⟨_, rfl⟩, q⟩
theorem CallR.or {f : Value} {r r' : List V → Hp → VK → Prop} (h : CallR X f r) (h' : CallR X f r') : CallR X f (fun xs H Q => r xs H Q ∨ r' xs H Q) := by
  intro pins s σ H xs us Q I rs q
  rcases q with q | q
  · exact h pins s σ H xs us Q I rs q
  · exact h' pins s σ H xs us Q I rs q
theorem call_list_of : CallR X (.type "list") (fun xs H Q => ∃ p ys, xs = [.ref p] ∧ (SqL X.K H p ys ∨ SqT X.K H p ys) ∧ ∀ l, H l = none → Q (.ref l) (upd H l (.lst ys))) := by
  intro pins s σ H xs us Q I r h
  obtain ⟨p, ys, rfl, hq, q⟩ := h
  obtain ⟨u, rfl, rx⟩ := vals1 r
  cases rx
  have fin : ∀ (its : List Value), Vals ys its → ys.length ≤ sizeLine → ∀ (h' : Heap) (c' : Nat), (∀ b o', s.heap.get? b = some o' → h'.get? b = some o') →
      h'.get? s.heap.objs.size = some { cls := .type "list", dict := none, data := .seq its.toArray c', slots := #[] } → EP X pins σ Q (.ref s.heap.objs.size) { s with heap := h' } := fun its r' hz h' c' kp e =>
    ⟨.ref s.heap.objs.size, _, I.laid (t' := s.toks) kp (Nat.le_refl _) (show ObjOk X.prog X.w _ h' _ (.lst ys) from ⟨hz, its, c', r', e⟩), rfl, q _ (I.hok.fresh (Nat.le_refl _))⟩
  rcases hq with hq | hq
  · obtain ⟨its, r', pl, hz⟩ := I.list hq
    have hlen := r'.length
    obtain ⟨o, ho, hc, n, hd⟩ := pl.isList
    exact call_list_seq p (.inl rfl) ho hc hd (fun h' c' kp e => fin its r' hz h' c' kp e) (by simp only [List.size_toArray] <;> omega)
  · obtain ⟨its, r', pl, hz⟩ := I.tuple hq
    have hlen := r'.length
    obtain ⟨o, ho, hc, n, hd⟩ := pl
    exact call_list_seq p (.inr rfl) ho hc hd (fun h' c' kp e => fin its r' hz h' c' kp e) (by simp only [List.size_toArray] <;> omega)
theorem call_tuple_of : CallR X (.type "tuple") (fun xs H Q => ∃ p ys, xs = [.ref p] ∧ ((SqL X.K H p ys ∧ ∀ l, H l = none → Q (.ref l) (upd H l (.tup ys))) ∨ (SqT X.K H p ys ∧ Q (.ref p) H))) := by
  intro pins s σ H xs us Q I r h
  obtain ⟨p, ys, rfl, h⟩ := h
  obtain ⟨u, rfl, rx⟩ := vals1 r
  cases rx
  rcases h with ⟨hq, q⟩ | ⟨hq, q⟩
  · obtain ⟨its, r', pl, hz⟩ := I.list hq
    have hlen := r'.length
    refine call_tuple_list pl.isList (fun h' kp => ?_) (by simp only [List.size_toArray] <;> omega)
    have I1 : Inv X pins σ H { s with heap := h' } := I.kept (t' := s.toks) kp
    have I2 : Inv X pins σ (upd H h'.objs.size (.tup ys)) { s with heap := h'.push { cls := .type "tuple", data := .seq its.toArray } } :=
      I1.laid (t' := s.toks) (fun b o e => Heap.get?_push_of_some _ e) (Nat.le_refl _) (show ObjOk X.prog X.w _ _ _ (.tup ys) from ⟨hz, its, r', IsTup.new _ _⟩)
    exact ⟨.ref h'.objs.size, _, I2, rfl, q _ (I1.hok.fresh (Nat.le_refl _))⟩
  · obtain ⟨its, r', pl, hz⟩ := I.tuple hq
    exact call_tuple_same pl ⟨.ref p, H, I, rfl, q⟩

/-! ### the call of a builtin's method: o.m(..) -/
/-- the value is of that builtin type -/
def tyV (K : PySem.W.Frag) (T : String) (x : V) (H : Hp) : Prop := match x with
  | .str _ => T = "str"
  | .int _ => T = "int"
  | .ref p => (T = "list" ∧ ∃ xs, SqL K H p xs) ∨ (T = "tuple" ∧ ∃ o, K.lookup p = some o ∧ o.cls = .type "tuple" ∧ o.dict = none) ∨
      (T = "dict" ∧ ((∃ kvs, H p = some (.dK kvs)) ∨ ∃ kvs, H p = some (.dT kvs))) ∨ (T = "set" ∧ ∃ S n, H p = some (.set S n))
  | _ => False
theorem tyV_is {pins : List (Addr × Obj)} {σ : St} {H : Hp} {s : Shared} {T : String} {x : V} {v : Value} (I : Inv X pins σ H s) (r : RelV x v) (ty : tyV X.K T x H) :
    s.TypeIs v T ∧ ∀ a, v = .ref a → ∃ ob, s.heap.get? a = some ob ∧ ob.dict = none := by
  cases x with
  | str z =>
    obtain ⟨t, rfl⟩ := r
    cases (show T = "str" from ty)
    exact ⟨typeIs_str s z t, fun _ e => nomatch e⟩
  | int i =>
    obtain ⟨t, rfl⟩ := r
    cases (show T = "int" from ty)
    exact ⟨typeIs_int s i t, fun _ e => nomatch e⟩
  | ref p =>
    cases r
    rcases ty with ⟨rfl, xs, hq⟩ | ⟨rfl, o, hk, hc, hd⟩ | ⟨rfl, hk⟩ | ⟨rfl, S, n, hk⟩
    · obtain ⟨its, _, pl, _⟩ := I.list hq
      refine ⟨pl.isList.typeIs, fun a e => ?_⟩
      cases e
      obtain ⟨o, n, e, c, hd, _⟩ := pl
      exact ⟨o, e, hd⟩
    · refine ⟨⟨o, I.kIn p o hk, hc⟩, fun a e => ?_⟩
      cases e
      exact ⟨o, I.kIn _ o hk, hd⟩
    · have z : ∃ o, s.heap.get? p = some o ∧ o.ExactDict := by
        rcases hk with ⟨kvs, hk⟩ | ⟨kvs, hk⟩
        · obtain ⟨_, _, _, _, o, _, _, e, ex, _⟩ := I.hok p _ hk
          exact ⟨o, e, ex⟩
        · obtain ⟨_, _, _, _, o, _, _, e, ex, _⟩ := I.hok p _ hk
          exact ⟨o, e, ex⟩
      obtain ⟨o, e, ex⟩ := z
      refine ⟨⟨o, e, ex.1⟩, fun a e2 => ?_⟩
      cases e2
      exact ⟨o, e, ex.2.1⟩
    · obtain ⟨o, _, _, _, e, ex, _⟩ := I.hok p _ hk
      refine ⟨⟨o, e, ex.1⟩, fun a e2 => ?_⟩
      cases e2
      exact ⟨o, e, ex.2.1⟩
  | _ => exact False.elim ty
def tBM0 (K : PySem.W.Frag) (T : String) (r : V → List V → Hp → VK → Prop) (to : TE) : TE := fun σ H Q => to σ H fun x H1 => tyV K T x H1 ∧ r x [] H1 Q
def tBM (K : PySem.W.Frag) (T : String) (r : V → List V → Hp → VK → Prop) (to : TE) (t : TA) : TE := fun σ H Q => to σ H fun x H1 => tyV K T x H1 ∧ t σ H1 fun xs H2 => r x xs H2 Q
variable {o e : Expr} {es : List Expr} {to : TE} {t : TA} {name : Str} {apos cpos : Pos} {T id : String} {r : V → List V → Hp → VK → Prop}
theorem pe_bm0 (pa : PlainAttrs T) (slot : Slot T name id) (hty : typeOf (.builtin id) = pure (.type "method_descriptor")) (hm : MtR X id r) (ho : PE X o to)
    (hbase : attributeBase o name X.env (eval o X.env) = eval o X.env := by rfl) (hline : (apos.endLine == cpos.line) = true := by rfl) : PE X (.Call (.Attribute o name apos) [] [] cpos) (tBM0 X.K T r to) := by
  intro pins s σ H Q I h
  refine wpAny_Call_method0_late hbase hline (thn (ho pins s σ H _ I h) fun v s1 ⟨x, H1, I1, r1, ty, q1⟩ => ?_)
  obtain ⟨h1, h2⟩ := tyV_is I1 r1 ty
  exact ⟨T, id, pa, slot, hty, h1, h2, Calls.callWith_builtin rfl (PySem.evalArgs_none (hm pins s1 σ H1 x [] v [] Q I1 r1 .nil q1))⟩
theorem pe_bm (pa : PlainAttrs T) (slot : Slot T name id) (hty : typeOf (.builtin id) = pure (.type "method_descriptor")) (hm : MtR X id r) (ho : PE X o to) (ha : PA X (e :: es) t)
    (hbase : attributeBase o name X.env (eval o X.env) = eval o X.env := by rfl)
    (hfew : ((backTo cpos (starEach (e :: es) X.env)).all (fun x => !x.1) && (backToKw cpos (keywordEach [] X.env)).all (fun x => x.1.isSome)
      && decide ((e :: es).length + ([] : List Keyword).length + (if ([] : List Keyword).isEmpty then 0 else 1) < 30)) = true := by rfl)
    (hline : (apos.endLine == cpos.line) = true := by rfl) (hs : starEach (e :: es) X.env = (false, eval e X.env) :: starEach es X.env := by rfl) (hplain : (backTo cpos (starEach es X.env)).any (·.1) = false := by rfl) :
    PE X (.Call (.Attribute o name apos) (e :: es) [] cpos) (tBM X.K T r to t) := by
  intro pins s σ H Q I h
  refine wpAny_Call_method_late hbase hfew hline rfl (thn (ho pins s σ H _ I h) fun v s1 ⟨x, H1, I1, r1, ty, q1⟩ => ?_)
  obtain ⟨h1, h2⟩ := tyV_is I1 r1 ty
  refine ⟨T, id, pa, slot, hty, h1, h2, ?_⟩
  have hA := ha cpos pins s1 σ H1 _ I1 q1
  rw [hs] at hA ⊢
  refine Calls.callWith_builtin (by show (false || (backTo cpos (starEach es X.env)).any (·.1)) = false; rw [hplain] <;> rfl) (Calls.evalArgs_plain ?_)
  exact thn hA fun us s2 ⟨vs, H2, I2, r2, q2⟩ => hm pins s2 σ H2 x vs v us Q I2 r1 r2 q2
/- xs.append(e), list.index on a module's tuple .. are MtR facts of 06m -/
end
end L2

namespace L2
open PySem PySem.Spec PyProof.Rows

def MtM (X : Cx) (id : String) (r : V → List V → Hp → VK → Prop) : Prop :=
  ∀ (pins : List (Addr × Obj)) (s : Shared) (σ : St) (H : Hp) (x : V) (xs : List V) (v : Value) (us : List Value) (Q : VK), Inv X pins σ H s → RelV x v → Vals xs us → r x xs H Q →
    wpAny (model X.prog X.w) X.A (call (.builtin id) (v :: us)) (EP X pins σ Q) X.xe s

/-! ### lists of values -/
theorem Vals.one : ∀ {x : V} {us : List Value}, Vals [x] us → ∃ u, us = [u] ∧ RelV x u
  | _, _, .cons r .nil => ⟨_, rfl, r⟩
theorem Vals.two : ∀ {x y : V} {us : List Value}, Vals [x, y] us → ∃ u v, us = [u, v] ∧ RelV x u ∧ RelV y v
  | _, _, _, .cons r (.cons q .nil) => ⟨_, _, rfl, r, q⟩
theorem Vals.zero : ∀ {us : List Value}, Vals [] us → us = []
  | _, .nil => rfl
theorem Vals.dropLast {xs : List V} {us : List Value} (h : Vals xs us) : Vals xs.dropLast us.dropLast := by
  induction h with
  | nil => exact .nil
  | cons r t ih =>
    cases t with
    | nil => exact .nil
    | cons q t' => exact .cons r ih
theorem Vals.eraseIdx : ∀ {xs : List V} {us : List Value} (i : Nat), Vals xs us → Vals (xs.eraseIdx i) (us.eraseIdx i)
  | _, _, _, .nil => .nil
  | _, _, 0, .cons _ t => t
  | _, _, i + 1, .cons r t => .cons r (Vals.eraseIdx i t)
theorem Vals.reverse {xs : List V} {us : List Value} (h : Vals xs us) : Vals xs.reverse us.reverse := by
  induction h with
  | nil => exact .nil
  | cons r t ih => rw [List.reverse_cons, List.reverse_cons]; exact Vals.append ih (.cons r .nil)
theorem Vals.rep {xs : List V} {us : List Value} (h : Vals xs us) : ∀ k : Nat, Vals (List.replicate k xs).flatten (List.replicate k us).flatten
  | 0 => .nil
  | k + 1 => by
    rw [List.replicate_succ, List.replicate_succ, List.flatten_cons, List.flatten_cons]
    exact Vals.append h (Vals.rep h k)
theorem erase_last {α : Type} (l : List α) : l.eraseIdx (l.length - 1) = l.dropLast := by
  induction l with
  | nil => rfl
  | cons a r ih =>
    cases r with
    | nil => rfl
    | cons b r =>
      have e : (a :: b :: r).length - 1 = ((b :: r).length - 1) + 1 := by
        have h1 : (a :: b :: r).length = r.length + 2 := rfl
        have h2 : (b :: r).length = r.length + 1 := rfl
        omega
      rw [e, List.eraseIdx_cons_succ, ih]
      all_goals rfl
theorem len_erase {α : Type} : ∀ (l : List α) (i : Nat), (l.eraseIdx i).length ≤ l.length
  | [], _ => Nat.le_refl _
  | _ :: _, 0 => Nat.le_succ _
  | _ :: r, i + 1 => Nat.succ_le_succ (len_erase r i)
theorem foldl_rep (its : List Value) : ∀ (k : Nat) (acc : List Value),
    List.foldl (fun x1 x2 => x1 ++ x2) acc.toArray (List.replicate k its.toArray) = (acc ++ (List.replicate k its).flatten).toArray
  | 0, acc => by simp
  | k + 1, acc => by
    have e : acc.toArray ++ its.toArray = (acc ++ its).toArray := by simp
    have e2 : (acc ++ its) ++ (List.replicate k its).flatten = acc ++ (List.replicate (k + 1) its).flatten := by
      rw [List.replicate_succ, List.flatten_cons, List.append_assoc]
    rw [← e2, ← foldl_rep its k (acc ++ its), ← e, List.replicate_succ, List.foldl_cons]

section
variable {X : Cx} {pins : List (Addr × Obj)} {σ : St} {H : Hp} {s : Shared} {l b : Addr} {xs ys zs : List V}

/-! ### the two steps: a tracked list is rewritten, a new list is laid -/
theorem Inv.lset {its its' : List Value} {n : Nat} {f : Array Value → Array Value} {t' : Nat} (I : Inv X pins σ H s) (hH : H l = some (.lst xs))
    (e : s.heap.get? l = some { cls := .type "list", data := .seq its.toArray n }) (hf : f its.toArray = its'.toArray) (hv : Vals ys its') (hz : ys.length ≤ sizeLine) :
    Inv X pins σ (upd H l (.lst ys)) { s with heap := s.heap.update l (Obj.mapSeq f), toks := t' } := by
  have q := PySem.IsL.update e f
  rw [hf] at q
  refine I.write (x := l) (e := l) (by rw [hH]; exact trivial) (.inl rfl) (fun b' u hb hu => (Heap.get?_update_other s.heap (Obj.mapSeq f) (Ne.symm hb)).trans hu) ⟨_, q⟩ ?_
  exact ⟨hz, its', _, hv, q⟩
theorem Inv.lnew {its : List Value} {t' : Nat} (I : Inv X pins σ H s) (hv : Vals ys its) (hz : ys.length ≤ sizeLine) :
    Inv X pins σ (upd H s.heap.objs.size (.lst ys)) { s with heap := s.heap.push { cls := .type "list", data := .seq its.toArray }, toks := t' } :=
  I.laid (fun _ _ q => Heap.get?_push_of_some _ q) (Nat.le_refl _) ⟨hz, its, 0, hv, Heap.get?_push_size _ rfl⟩
theorem Inv.fresh (I : Inv X pins σ H s) : H s.heap.objs.size = none := I.hok.fresh (Nat.le_refl _)
theorem Inv.lstM (I : Inv X pins σ H s) (hH : H l = some (.lst xs)) : xs.length ≤ sizeLine ∧ ∃ (its : List Value) (n : Nat), Vals xs its ∧ xs.length = its.length ∧ s.heap.get? l = some { cls := .type "list", data := .seq its.toArray n } := by
  obtain ⟨z, its, n, r, e⟩ := I.hok l _ hH
  exact ⟨z, its, n, r, r.length, e⟩

theorem notLongL {n : Nat} (h : n ≤ sizeLine) : Builtin.List.listTooLong n = false := by
  unfold Builtin.List.listTooLong
  exact decide_eq_false (by omega)
end

section
variable {X : Cx}

/-! ### methods -/
def rAppend : V → List V → Hp → VK → Prop := fun x vs H Q => ∃ l xs y, x = .ref l ∧ vs = [y] ∧ H l = some (.lst xs) ∧ xs.length < sizeLine ∧ Q .non (upd H l (.lst (xs ++ [y])))
theorem mt_append : MtM X "list.append" rAppend := by
  intro pins s σ H x vs v us Q I rx rv h
  obtain ⟨l, xs, y, rfl, rfl, hH, hz, q⟩ := h
  cases rx
  obtain ⟨u, rfl, ru⟩ := rv.one
  obtain ⟨z, its, n, r, hl, e⟩ := I.lstM hH
  refine call_meets F.slot_list_append ⟨_, e, rfl⟩ F.entry_list_append (F.args_list_append_2 _ _) (PySem.list_append l its.toArray n u (by rw [List.size_toArray]; omega)) ⟨e, ?_⟩
  refine ⟨.non, _, I.lset (its' := its ++ [u]) hH e (by simp) (r.append (.cons ru .nil)) ?_, rfl, q⟩
  rw [List.length_append, List.length_singleton]
  omega

def rExtend : V → List V → Hp → VK → Prop := fun x vs H Q => ∃ l b xs zs, x = .ref l ∧ vs = [.ref b] ∧ H l = some (.lst xs) ∧ H b = some (.lst zs) ∧ xs.length + zs.length ≤ sizeLine ∧ Q .non (upd H l (.lst (xs ++ zs)))
theorem mt_extend : MtM X "list.extend" rExtend := by
  intro pins s σ H x vs v us Q I rx rv h
  obtain ⟨l, b, xs, zs, rfl, rfl, hH, hB, hz, q⟩ := h
  cases rx
  obtain ⟨u, rfl, ru⟩ := rv.one
  cases ru
  obtain ⟨z, its, n, r, hl, e⟩ := I.lstM hH
  obtain ⟨z2, its2, n2, r2, hl2, e2⟩ := I.lstM hB
  have hsz : its.toArray.size + its2.toArray.size ≤ sizeLine := by rw [List.size_toArray, List.size_toArray]; omega
  have hlong : ¬ (!its.toArray.isEmpty && Builtin.List.listTooLong (its.toArray.size + its2.toArray.size)) = true := by
    rw [notLongL hsz, Bool.and_false]
    exact Bool.false_ne_true
  refine call_meets F.slot_list_extend ⟨_, e, rfl⟩ F.entry_list_extend (F.args_list_extend_2 _ _)
    (AutoSeq1.list_extend_list_list_0 l its.toArray n b its2.toArray n2 hlong (by rw [List.size_toArray]; omega) (by omega)) ⟨e, e2, ?_⟩
  refine ⟨.non, _, I.lset (its' := its ++ its2) hH e (by simp) (r.append r2) ?_, rfl, q⟩
  rw [List.length_append]
  omega

def rPop : V → List V → Hp → VK → Prop := fun x vs H Q => ∃ l xs y, x = .ref l ∧ vs = [] ∧ H l = some (.lst xs) ∧ xs[xs.length - 1]? = some y ∧ Q y (upd H l (.lst xs.dropLast))
theorem mt_pop : MtM X "list.pop" rPop := by
  intro pins s σ H x vs v us Q I rx rv h
  obtain ⟨l, xs, y, rfl, rfl, hH, hy, q⟩ := h
  cases rx
  have hus := rv.zero
  subst hus
  obtain ⟨z, its, n, r, hl, e⟩ := I.lstM hH
  obtain ⟨u, hu, ru⟩ := r.get hy
  have hy' : its.toArray[its.toArray.size - 1]? = some u := by
    show its.toArray[its.length - 1]? = some u
    rw [← Array.getElem?_toList, ← hl]
    exact hu
  refine call_meets F.slot_list_pop ⟨_, e, rfl⟩ F.entry_list_pop (F.args_list_pop_1 _) (MeetsSeq.list_pop_last l its.toArray n u hy' (by rw [List.size_toArray]; omega)) ⟨e, ?_⟩
  refine ⟨y, _, I.lset (its' := its.dropLast) hH e ?_ r.dropLast ?_, ru, q⟩
  · show its.toArray.eraseIdxIfInBounds (its.toArray.size - 1) = its.dropLast.toArray
    rw [List.size_toArray, List.eraseIdxIfInBounds_toArray, erase_last]
  · rw [List.length_dropLast]
    omega

def rPopAt : V → List V → Hp → VK → Prop := fun x vs H Q => ∃ l xs i k y, x = .ref l ∧ vs = [.int i] ∧ H l = some (.lst xs) ∧ -(2 ^ 63) ≤ i ∧ i < 2 ^ 63 ∧ seqIndex? i xs.length = some k ∧ xs[k]? = some y ∧ Q y (upd H l (.lst (xs.eraseIdx k)))
theorem mt_popAt : MtM X "list.pop" rPopAt := by
  intro pins s σ H x vs v us Q I rx rv h
  obtain ⟨l, xs, i, k, y, rfl, rfl, hH, h1, h2, hk, hy, q⟩ := h
  cases rx
  obtain ⟨u, rfl, ru⟩ := rv.one
  obtain ⟨t, rfl⟩ := ru
  obtain ⟨z, its, n, r, hl, e⟩ := I.lstM hH
  obtain ⟨w, hw, rw'⟩ := r.get hy
  refine call_meets F.slot_list_pop ⟨_, e, rfl⟩ F.entry_list_pop (F.args_list_pop_2 _ _)
    (MeetsSeq.list_pop_at l its.toArray n i t k w (fitsIndex_both h1 h2) (by rw [List.size_toArray, ← hl]; exact hk) (by rw [← Array.getElem?_toList]; exact hw) (by rw [List.size_toArray]; omega)) ⟨e, ?_⟩
  refine ⟨y, _, I.lset (its' := its.eraseIdx k) hH e ?_ (r.eraseIdx k) ?_, rw', q⟩
  · show its.toArray.eraseIdxIfInBounds k = (its.eraseIdx k).toArray
    rw [List.eraseIdxIfInBounds_toArray]
  · have := len_erase xs k
    omega

def rReverse : V → List V → Hp → VK → Prop := fun x vs H Q => ∃ l xs, x = .ref l ∧ vs = [] ∧ H l = some (.lst xs) ∧ Q .non (upd H l (.lst xs.reverse))
theorem mt_reverse : MtM X "list.reverse" rReverse := by
  intro pins s σ H x vs v us Q I rx rv h
  obtain ⟨l, xs, rfl, rfl, hH, q⟩ := h
  cases rx
  have hus := rv.zero
  subst hus
  obtain ⟨z, its, n, r, hl, e⟩ := I.lstM hH
  refine call_meets F.slot_list_reverse ⟨_, e, rfl⟩ F.entry_list_reverse (F.args_list_reverse_1 _) (AutoSeq1.list_reverse_list_0 l its.toArray n (by rw [List.size_toArray]; omega)) ⟨e, ?_⟩
  refine ⟨.non, _, I.lset (its' := its.reverse) hH e (by simp) r.reverse ?_, rfl, q⟩
  rw [List.length_reverse]
  omega

def rClear : V → List V → Hp → VK → Prop := fun x vs H Q => ∃ l xs, x = .ref l ∧ vs = [] ∧ H l = some (.lst xs) ∧ Q .non (upd H l (.lst []))
theorem mt_clear : MtM X "list.clear" rClear := by
  intro pins s σ H x vs v us Q I rx rv h
  obtain ⟨l, xs, rfl, rfl, hH, q⟩ := h
  cases rx
  have hus := rv.zero
  subst hus
  obtain ⟨z, its, n, r, hl, e⟩ := I.lstM hH
  refine call_meets F.slot_list_clear ⟨_, e, rfl⟩ F.entry_list_clear (F.args_list_clear_1 _) (AutoSeq1.list_clear_list_0 l its.toArray n (by rw [List.size_toArray]; omega)) ⟨e, ?_⟩
  exact ⟨.non, _, I.lset (its' := []) (ys := []) hH e rfl .nil (Nat.zero_le _), rfl, q⟩

/-! ### list + list, list += list, list * int -/
def rCat : R2 := fun x y H Q => ∃ l b xs zs, x = .ref l ∧ y = .ref b ∧ H l = some (.lst xs) ∧ H b = some (.lst zs) ∧ xs.length + zs.length ≤ sizeLine ∧ ∀ p, H p = none → Q (.ref p) (upd H p (.lst (xs ++ zs)))
theorem op_cat : OpR X (binaryOp .Add) rCat := by
  intro pins s σ H x y v u Q I rx ry h
  obtain ⟨l, b, xs, zs, rfl, rfl, hH, hB, hz, q⟩ := h
  cases rx
  cases ry
  obtain ⟨z, its, n, r, hl, e⟩ := I.lstM hH
  obtain ⟨z2, its2, n2, r2, hl2, e2⟩ := I.lstM hB
  refine PySem.P.add_list e e2 ?_ (by rw [List.size_toArray, List.size_toArray]; omega)
  have ea : its.toArray ++ its2.toArray = (its ++ its2).toArray := by simp
  rw [ea]
  exact ⟨.ref _, _, I.lnew (t' := s.toks) (r.append r2) (by rw [List.length_append]; omega), rfl, q _ I.fresh⟩
/-- a list times an int (a negative one is nothing) -/
def rRep : R2 := fun x y H Q => ∃ l k xs, x = .ref l ∧ y = .int k ∧ H l = some (.lst xs) ∧ -(2 ^ 63) ≤ k ∧ k < 2 ^ 63 ∧ xs.length * k.toNat ≤ sizeLine ∧
  ∀ p, H p = none → Q (.ref p) (upd H p (.lst (List.replicate k.toNat xs).flatten))
theorem len_rep {α : Type} (xs : List α) (k : Nat) : (List.replicate k xs).flatten.length = k * xs.length := by
  induction k with
  | zero => simp
  | succ k ih => rw [List.replicate_succ, List.flatten_cons, List.length_append, ih, Nat.succ_mul, Nat.add_comm]
theorem op_rep : OpR X (binaryOp .Mult) rRep := by
  intro pins s σ H x y v u Q I rx ry h
  obtain ⟨l, k, xs, rfl, rfl, hH, h1, h2, hz, q⟩ := h
  cases rx
  obtain ⟨t, rfl⟩ := ry
  obtain ⟨z, its, n, r, hl, e⟩ := I.lstM hH
  have hlen : its.toArray.size * k.toNat ≤ sizeLine := by rw [List.size_toArray, ← hl]; exact hz
  have hcap : ¬ its.toArray.size * k.toNat > (2 ^ 63 - 1) / 8 := by
    have : (sizeLine : Nat) ≤ (2 ^ 63 - 1) / 8 := by decide
    omega
  have hfit : ¬ (!Builtin.List.listFitsIndex k) = true := by
    rw [fitsIndex_both h1 h2]
    exact Bool.false_ne_true
  have hlong : ¬ Builtin.List.listTooLong (its.toArray.size * k.toNat) = true := by
    rw [notLongL hlen]
    exact Bool.false_ne_true
  have hnew : List.foldl (fun x1 x2 => x1 ++ x2) #[] (List.replicate (if its.toArray.isEmpty = true then 0 else k.toNat) its.toArray) = (List.replicate k.toNat its).flatten.toArray := by
    have f0 : ∀ m : Nat, List.foldl (fun x1 x2 => x1 ++ x2) #[] (List.replicate m its.toArray) = (List.replicate m its).flatten.toArray := fun m => by
      have := foldl_rep its m []
      rw [List.nil_append] at this
      exact this
    rw [f0]
    cases its with
    | nil => simp
    | cons a r' => rw [if_neg (by simp)]
  refine wpAny_binaryOp_repeat_ref (T := "list") (U := "int") (by decide) ⟨_, e, rfl⟩ (fun s' => typeIs_int s' k t) noFill_list_mul F.fills_int_mul F.slot_int_rmul repeat_list F.slot_int_index.lookup
    (call_meets F.slot_int_rmul (typeIs_int s k t) F.entry_int_rmul (F.args_int_rmul_2 _ _) (int___rmul___int_list k t l its.toArray n)
      ⟨e, rfl, ⟨_, e, rfl⟩, call_meets F.slot_list_mul ⟨_, e, rfl⟩ F.entry_list_mul (F.args_list_mul_2 _ _) (AutoListH.list___mul___list_int_3 l its.toArray n k t hfit hcap hlong) ⟨e, ?_⟩⟩)
  rw [hnew]
  exact ⟨.ref _, _, I.lnew (t' := s.toks) (r.rep k.toNat) (by rw [len_rep, Nat.mul_comm]; exact hz), rfl, q _ I.fresh⟩

/-! ### del xs[i] -/
theorem del_list {pins : List (Addr × Obj)} {s : Shared} {σ : St} {H : Hp} {l : Addr} {xs : List V} {i : Int} {t : Tok} {k : Nat} {Q : Unit → Shared → Prop} (I : Inv X pins σ H s) (hH : H l = some (.lst xs))
    (h1 : -(2 ^ 63) ≤ i) (h2 : i < 2 ^ 63) (hk : seqIndex? i xs.length = some k) (h : ∀ s', Inv X pins σ (upd H l (.lst (xs.eraseIdx k))) s' → Q () s') :
    wpAny (model X.prog X.w) X.A (delItem (.ref l) (.int i t)) Q X.xe s := by
  obtain ⟨z, its, n, r, hl, e⟩ := I.lstM hH
  refine PySem.P.delItem_list (k := k) e (fitsIndex_both h1 h2) (by rw [List.size_toArray, ← hl]; exact hk) (h _ ?_) (by rw [List.size_toArray]; omega)
  refine I.lset (its' := its.eraseIdx k) (t' := s.toks) hH e ?_ (r.eraseIdx k) ?_
  · show its.toArray.eraseIdxIfInBounds k = (its.eraseIdx k).toArray
    rw [List.eraseIdxIfInBounds_toArray]
  · have := len_erase xs k
    omega
end

/-! ### xs[a:b] = ys -/
section
variable {prog : Program} {w : World} {A : Around} {E : Value → Shared → Prop} {s : Shared}
theorem splice_eq (its its2 : List Value) (a c : Nat) : its.toArray.extract 0 a ++ its2.toArray ++ its.toArray.extract c its.toArray.size = (its.take a ++ its2 ++ its.drop c).toArray := by
  apply Array.toList_inj.mp
  first
    | (simp
       exact List.take_of_length_le (by simp))
    | simp [List.take_of_length_le]
    | simp
theorem bounds_run {a c n : Nat} (hac : a ≤ c) (hc : c ≤ n) : sliceBounds (some (a : Int)) (some (c : Int)) none n = ((a : Int), (c : Int), 1) := by
  simp only [sliceBounds, Option.getD_none]
  have h1 : ¬ ((a : Int) < 0) := by omega
  have h2 : ¬ ((c : Int) < 0) := by omega
  simp only [h1, h2, if_false, show (1 : Int) > 0 by decide, if_true]
  congr 1
  · omega
  · congr 1; omega
set_option maxRecDepth 100000 in
/-- list.__setitem__ with a slice of step one and another list -/
theorem setItem_slice {l b sl : Addr} {items new : Array Value} {n n2 : Nat} {vl vu : Value} {a c : Nat} {Q : Unit → Shared → Prop}
    (e : s.heap.get? l = some { cls := .type "list", data := .seq items n }) (e2 : s.heap.get? b = some { cls := .type "list", data := .seq new n2 }) (hne : l ≠ b)
    (hs : s.heap.IsSliceOf sl vl vu .none) (pl : IsPart vl (some (a : Int))) (pu : IsPart vu (some (c : Int))) (hac : a ≤ c) (hc : c ≤ items.size)
    (hsz : items.size + new.size ≤ sizeLine) (h : Q () { s with heap := s.heap.update l (Obj.mapSeq fun xs => xs.extract 0 a ++ new ++ xs.extract c xs.size) }) :
    wpAny (model prog w) A (setItem (.ref l) (.ref sl) (.ref b)) Q E s := by
  have hl : s.heap.IsList l items := PySem.IsL.isList e
  have hb : s.heap.IsList b new := PySem.IsL.isList e2
  obtain ⟨os, hos, hcs, hds⟩ := id hs
  have hTs : s.TypeIs (.ref sl) "slice" := ⟨os, hos, hcs⟩
  have hstep : ¬ ((rawPart none == rawInt 0) = true) := Bool.false_ne_true
  have hsame : Builtin.List.listSameRef (.ref l) (.ref b) = false := by
    unfold Builtin.List.listSameRef
    exact beq_eq_false_iff_ne.mpr hne
  have hmax : (max (a : Int) (c : Int)).toNat = c := by omega
  have hz' : ((fun xs : Array Value => xs.extract 0 a ++ new ++ xs.extract c xs.size) items).size ≤ sizeLine + 1 := by
    simp only [Array.size_append, Array.size_extract]
    omega
  unfold setItem
  try with_reducible refine wpAny_holding ?_
  first | refine wpAny_bind (wpAny_pure ?_) | skip
  refine wpAny_bind (wpAny_sequenceKey hl.typeIs (by decide) ?_)
  refine wpAny_bind (wpAny_callSpecial?_slot (name := Str.ofString "__setitem__") hl.typeIs slot_list_setitem
    (wpAny_call_entry slot_list_setitem hl.typeIs entry_list_setitem ?_ (args_list_setitem _ _ _)))
  show wpAny _ _ (Builtin.List.listSubscript? (.ref sl) >>= _) _ _ s
  refine wpAny_bind ?_
  unfold Builtin.List.listSubscript?
  refine wpAny_bind (wpAny_specialOf hTs slice_no_index ?_)
  simp only [Option.isNone_none, if_true]
  refine wpAny_pure ?_
  show wpAny _ _ (typeOf (.ref sl) >>= _) _ _ s
  refine wpAny_bind (wpAny_typeOf hTs ?_)
  first
    | rw [if_neg (by decide)]
    | refine PySem.W.KFB.if_not (by decide) ?_
  rw [listSliceParts_eq]
  refine wpAny_bind (wpAny_bind (wpAny_field hos hds (x := .none) rfl (wpAny_bind (wpAny_listPart .none ?_))))
  rw [if_neg hstep]
  refine wpAny_bind (wpAny_field hos hds (x := vl) rfl (wpAny_bind (wpAny_listPart pl ?_)))
  refine wpAny_bind (wpAny_field hos hds (x := vu) rfl (wpAny_bind (wpAny_listPart pu (wpAny_pure ?_))))
  first
    | simp only [hsame, Bool.false_eq_true, if_false]
    | refine PySem.W.KFB.if_not hsame ?_
    | (dsimp only
       rw [if_neg (by rw [hsame]; exact Bool.false_ne_true)])
  refine wpAny_bind (m := Builtin.List.listAllItems (.ref b) "must assign iterable to extended slice") ?_
  unfold Builtin.List.listAllItems
  refine wpAny_bind (wpAny_typeOf hb.typeIs ?_)
  first
    | refine PySem.W.KFB.if_so (by decide) ?_
    | rw [if_pos (by decide)]
    | simp only [beq_self_eq_true, Bool.true_or, if_true]
  unfold Builtin.List.listItems
  refine wpAny_bind (wpAny_seqItems e2 rfl (wpAny_pure ?_))
  refine wpAny_bind (wpAny_bind (wpAny_seqItems e rfl (wpAny_pure ?_)))
  refine wpAny_bind (wpAny_of_eq ((sliceIndices_raw (some (a : Int)) (some (c : Int)) none items.size (by simp)).trans (congrArg (pure : Int × Int × Int → Sem (Int × Int × Int)) (bounds_run hac hc))) ?_)
  show wpAny _ _ (if ((1 : Int) == 1) = true then _ else _) _ _ s
  rw [if_pos (by decide)]
  refine wpAny_bind (wpAny_rule ?_)
  first
    | simp only [notLongL hsz, Bool.false_eq_true, if_false]
    | refine PySem.W.KFB.if_not (notLongL hsz) ?_
  first | refine wpAny_bind (wpAny_pure ?_) | skip
  show wpAny _ _ (updateSeq l (fun xs => xs.extract 0 ((a : Int)).toNat ++ new ++ xs.extract (max (a : Int) (c : Int)).toNat xs.size) >>= _) _ _ s
  rw [hmax, Int.toNat_natCast]
  refine wpAny_bind (wpAny_updateSeq (hz := Nat.le_trans (Nat.le_add_right _ _) hsz) (_hz' := hz') e rfl ?_)
  refine wpAny_bind (wpAny_letGo ?_)
  first
    | exact wpAny_bind (wpAny_pure (wpAny_pure ⟨.none, rfl, wpAny_pure h⟩))
    | exact wpAny_pure ⟨.none, rfl, wpAny_pure h⟩
end

section
variable {X : Cx}
/-- xs[a:c] = ys of another list, at the value level: sl is the slice object that was just made -/
theorem set_slice {pins : List (Addr × Obj)} {s : Shared} {σ : St} {H : Hp} {l b sl : Addr} {xs ys : List V} {a c : Int} {vl vu : Value} {Q : Unit → Shared → Prop} (I : Inv X pins σ H s)
    (hH : H l = some (.lst xs)) (hB : H b = some (.lst ys)) (hne : l ≠ b) (hs : s.heap.IsSliceOf sl vl vu .none) (ra : RelV (.int a) vl) (rc : RelV (.int c) vu) (h0 : 0 ≤ a) (hac : a ≤ c) (hc : c ≤ xs.length)
    (hz : xs.length + ys.length ≤ sizeLine) (h : ∀ s', Inv X pins σ (upd H l (.lst (xs.take a.toNat ++ ys ++ xs.drop c.toNat))) s' → Q () s') :
    wpAny (model X.prog X.w) X.A (setItem (.ref l) (.ref sl) (.ref b)) Q X.xe s := by
  obtain ⟨ta, rfl⟩ := ra
  obtain ⟨tc, rfl⟩ := rc
  obtain ⟨z, its, n, r, hl, e⟩ := I.lstM hH
  obtain ⟨z2, its2, n2, r2, hl2, e2⟩ := I.lstM hB
  obtain ⟨a', rfl⟩ := Int.eq_ofNat_of_zero_le h0
  obtain ⟨c', rfl⟩ := Int.eq_ofNat_of_zero_le (Int.le_trans h0 hac)
  simp only [Int.toNat_natCast] at h
  refine setItem_slice (a := a') (c := c') e e2 hne hs (.int _ _) (.int _ _) (by omega) (by rw [List.size_toArray]; omega) (by rw [List.size_toArray, List.size_toArray]; omega) (h _ ?_)
  refine I.lset (its' := its.take a' ++ its2 ++ its.drop c') (t' := s.toks) hH e ?_ (Vals.append (Vals.append (r.take _) r2) (r.drop _)) ?_
  · exact splice_eq its its2 a' c'
  · rw [List.length_append, List.length_append, List.length_take, List.length_drop]
    omega
end
end L2

namespace Att
open PySem PySem.W PySem.Calls PyProof.Rows

/-! ### the script -/
theorem ints_of_wellAll {P : Params} {h : Heap} : ∀ (ns : List Int) (vs : List Value), WellAll P h vs (ns.map WData.int) → IntsAre vs ns := by
  intro ns
  induction ns with
  | nil =>
    intro vs w
    rw [List.map_nil] at w
    cases w
    exact .nil
  | cons n ns ih =>
    intro vs w
    rw [List.map_cons] at w
    cases w with
    | cons a b =>
      cases a
      exact .cons _ _ (ih _ b)

theorem script_of {l : OpenLaw} {n : Nat} (hn : l.most = some n) {P : Params} {h : Heap} {args : List WData} {vals : List Value}
    (hpre : l.row.toRowW.claim.pre args = true) (hwl : WellAll P h vals args) :
    ∃ a vs ns, vals = [Value.ref a] ∧ args = [WData.list (ns.map WData.int)] ∧ h.get? a = some { cls := .type "list", data := .seq vs.toArray } ∧ IntsAre vs ns ∧ ns.length ≤ n := by
  have hsh : WShape.hasAll [] args [.list .int] = true := (pre_splitW hpre).1
  have hc : l.pre.holds [] { args := args } = true := (pre_splitW hpre).2
  obtain ⟨d, r, rfl, h1, h2⟩ := hasAllW_cons hsh
  obtain rfl := hasAllW_nil h2
  obtain ⟨xs, rfl, h3⟩ := hasW_list h1
  obtain ⟨ns, rfl⟩ := items_int h3
  have hlen : ns.length ≤ n := by
    unfold OpenLaw.pre at hc
    have h4 : (WTm.not (.lt (.lit (.int (n : Int))) (.len (.arg 0)))).holds [] { args := [.list (ns.map .int)] } = true := by
      have h4 := (holds_andW hc).1
      rw [hn] at h4
      exact h4
    have h5 := condW_of h4 (w_not (w_lt w_lit (w_len_list (w_arg rfl))))
    rw [List.length_map] at h5
    refine Nat.le_of_not_lt fun q => ?_
    have q' : (n : Int) < ((ns.length : Nat) : Int) := by omega
    first
      | (rw [decide_eq_true q'] at h5; exact absurd h5 (by decide))
      | (simp at h5; omega)
  cases hwl with
  | cons w1 w2 =>
    cases w2
    cases w1 with
    | list ho hall => exact ⟨_, _, ns, rfl, rfl, ho, ints_of_wellAll ns _ hall, hlen⟩

theorem post_true (l : OpenLaw) (args : List WData) : l.row.toRowW.claim.post args (.bool true) args = true :=
  postW_of (r := l.row.toRowW) (X := (true == true))
    (show WShape.has [] (.bool true) .bool = true by first | rfl | decide | simp [WShape.has, WShape.arms, WShape.armsAll])
    (show (WTm.eq .res (.lit (.bool true))).value [] { args := args, res := some (.bool true), after := args } = some (.bool (true == true)) from w_eq_bool (w_res rfl) w_lit) rfl

/-! ### the attachment: holds_open's last premise (the goal 'hc' behind k_head) from a wpAny of the law's body -/
theorem attach {l : OpenLaw} {n : Nat} {q : Program} {loose : List Str} {XP : (Str → Option Value) → Heap → Prop} {YP : World → Heap → Prop} {d : DefRec} {x : Str}
    (hn : l.most = some n) (hdf : d.params.defaults = [])
    (hbind : ∀ pm cd doc v : Value, bindArgs (docDef d.name d.params d.body d.scope pm cd doc) ⟨[v], []⟩ = pure [(x, v)])
    (hx : d.scope.names.lookup x = some .local ∨ d.scope.names.lookup x = some .cell)
    (hk : d.scope.kind = .function) (hco : d.scope.isCoroutine = false) (hgen : d.scope.isGenerator = false)
    (body : ∀ (w : World) (s₀ s₁ s : Shared) (mg mb : Str → Option Value) (fa : Addr) (o : Obj) (pm cd doc : Value) (a : Addr) (vs : List Value) (ns : List Int),
      Ground q loose [] XP w s₀ mg mb s₁.heap → YP w s₁.heap →
      s₁.heap.get? fa = some o → o.data = .func (docDef d.name d.params d.body d.scope pm cd doc) → s₁.heap.CodeRec cd d.name → mg d.name = some (.ref fa) →
      s₁.heap.get? a = some { cls := .type "list", data := .seq vs.toArray } → IntsAre vs ns → ns.length ≤ n →
      s.gens = #[] → s.os = s₁.os →
      Fr s₁.heap s₁.heap.objs.size s.heap (bindL (envOfC d.name d.scope s₁.heap.objs.size fa cd).kindOf [(x, .ref a)] fun _ => none) →
      Cl s₁.heap.objs.size (cellsFrom (s₁.heap.objs.size + 1) d.scope.names []) s.heap (bindC (envOfC d.name d.scope s₁.heap.objs.size fa cd).kindOf [(x, .ref a)] fun _ => none) →
      wpAny (model l.prog w) (callerA.deeper (envOfC d.name d.scope s₁.heap.objs.size fa cd)) (execs d.body (envOfC d.name d.scope s₁.heap.objs.size fa cd))
        (fun f s' => f = .ret (.bool true) ∧ OldK s₁.heap s'.heap ∧ s'.os = s₁.os ∧ AllBare s'.gens) (fun _ _ => False) s) :
    WalkO q loose XP YP l.row.toRowW d [] (fun f vs => PySem.call f vs) := by
  intro w s₀ s₁ mg mb G Y fa o pm cd doc dV kV ho hd hcd hD hmg hg args vals as hpre hlay hrd hwl hlo
  obtain rfl : dV = .none := Dflts.none hD hdf
  obtain rfl : kV = .none := Dflts.noKw hD
  obtain ⟨a, vs, ns, rfl, rfl, hobj, hints, hlen⟩ := script_of hn hpre hwl
  refine enter_call ?_
  refine call_cells_ret (o := o) (by rw [depth_caller]; decide) ho (fd_plain hd) G.T.nolimit hcd (hbind pm cd doc (.ref a)) (fun y hy => ?_) (fun h₁ tk F X => ?_) hco hgen hk
  · obtain rfl : y = (x, Value.ref a) := List.mem_singleton.mp hy
    rcases hx with e | e
    · exact .inl e
    · exact .inr ⟨e, cellsFrom_some _ _ _ (.inl e)⟩
  · refine wpAny_mono (body w s₀ s₁ { s₁ with heap := h₁, toks := tk } mg mb fa o pm cd doc a vs ns G Y ho (fd_plain hd) hcd hmg hobj hints hlen hg rfl F X) (fun f s' hq => ?_) (fun _ _ hq => hq)
    obtain ⟨rfl, h2, h3, h4⟩ := hq
    exact ⟨.inl ⟨.bool true, .bool true, [], rfl, fun _ => rfl, .bool true, post_true l _, fun _ => ⟨List.Pairwise.nil, fun _ hm => (nomatch hm)⟩⟩, h2, h3, h4⟩

/-- the same from a codeAny of the CALL (for a layer whose function contracts speak of calls) -/
theorem attach_call {l : OpenLaw} {n : Nat} {q : Program} {loose : List Str} {XP : (Str → Option Value) → Heap → Prop} {YP : World → Heap → Prop} {d : DefRec}
    (hn : l.most = some n) (hdf : d.params.defaults = [])
    (call : ∀ (w : World) (s₀ s₁ : Shared) (mg mb : Str → Option Value) (fa : Addr) (o : Obj) (pm cd doc : Value) (a : Addr) (vs : List Value) (ns : List Int),
      Ground q loose [] XP w s₀ mg mb s₁.heap → YP w s₁.heap →
      s₁.heap.get? fa = some o → o.data = .func (docDef d.name d.params d.body d.scope pm cd doc) → s₁.heap.CodeRec cd d.name → mg d.name = some (.ref fa) →
      s₁.heap.get? a = some { cls := .type "list", data := .seq vs.toArray } → IntsAre vs ns → ns.length ≤ n → s₁.gens = #[] →
      codeAny (model l.prog w) callerA (.call (.ref fa) ⟨[.ref a], []⟩) (fun r s' => r = .ok (.ret (.bool true)) ∧ OldK s₁.heap s'.heap ∧ s'.os = s₁.os ∧ AllBare s'.gens) s₁) :
    WalkO q loose XP YP l.row.toRowW d [] (fun f vs => PySem.call f vs) := by
  intro w s₀ s₁ mg mb G Y fa o pm cd doc dV kV ho hd hcd hD hmg hg args vals as hpre hlay hrd hwl hlo
  obtain rfl : dV = .none := Dflts.none hD hdf
  obtain rfl : kV = .none := Dflts.noKw hD
  obtain ⟨a, vs, ns, rfl, rfl, hobj, hints, hlen⟩ := script_of hn hpre hwl
  refine enter_call (codeAny_mono (call w s₀ s₁ mg mb fa o pm cd doc a vs ns G Y ho (fd_plain hd) hcd hmg hobj hints hlen hg) fun r s' hq => ?_)
  obtain ⟨rfl, h2, h3, h4⟩ := hq
  exact ⟨.inl ⟨.bool true, .bool true, [], rfl, fun _ => rfl, .bool true, post_true l _, fun _ => ⟨List.Pairwise.nil, fun _ hm => (nomatch hm)⟩⟩, h2, h3, h4⟩

/-- the same where the top left finished generators (o_head chose holds_openN): nothing may have changed at all and no generator may be left -/
theorem attachN {l : OpenLaw} {n : Nat} {q : Program} {loose : List Str} {XP : (Str → Option Value) → Heap → Prop} {YP : World → Heap → Prop} {d : DefRec} {x : Str}
    (hn : l.most = some n) (hdf : d.params.defaults = [])
    (hbind : ∀ pm cd doc v : Value, bindArgs (docDef d.name d.params d.body d.scope pm cd doc) ⟨[v], []⟩ = pure [(x, v)])
    (hx : d.scope.names.lookup x = some .local ∨ d.scope.names.lookup x = some .cell)
    (hk : d.scope.kind = .function) (hco : d.scope.isCoroutine = false) (hgen : d.scope.isGenerator = false)
    (body : ∀ (w : World) (s₀ s₁ s : Shared) (mg mb : Str → Option Value) (fa : Addr) (o : Obj) (pm cd doc : Value) (a : Addr) (vs : List Value) (ns : List Int),
      Ground q loose [] XP w s₀ mg mb s₁.heap → YP w s₁.heap →
      s₁.heap.get? fa = some o → o.data = .func (docDef d.name d.params d.body d.scope pm cd doc) → s₁.heap.CodeRec cd d.name → mg d.name = some (.ref fa) →
      s₁.heap.get? a = some { cls := .type "list", data := .seq vs.toArray } → IntsAre vs ns → ns.length ≤ n →
      s.gens = #[] → s.os = s₁.os →
      Fr s₁.heap s₁.heap.objs.size s.heap (bindL (envOfC d.name d.scope s₁.heap.objs.size fa cd).kindOf [(x, .ref a)] fun _ => none) →
      Cl s₁.heap.objs.size (cellsFrom (s₁.heap.objs.size + 1) d.scope.names []) s.heap (bindC (envOfC d.name d.scope s₁.heap.objs.size fa cd).kindOf [(x, .ref a)] fun _ => none) →
      wpAny (model l.prog w) (callerA.deeper (envOfC d.name d.scope s₁.heap.objs.size fa cd)) (execs d.body (envOfC d.name d.scope s₁.heap.objs.size fa cd))
        (fun f s' => f = .ret (.bool true) ∧ (∀ b o, s₁.heap.get? b = some o → s'.heap.get? b = some o) ∧ s'.os = s₁.os ∧ s'.gens = #[]) (fun _ _ => False) s) :
    WalkN q loose XP YP l.row.toRowW d [] (fun f vs => PySem.call f vs) := by
  intro w s₀ s₁ mg mb G Y fa o pm cd doc dV kV ho hd hcd hD hmg hg args vals as hpre hlay hrd hwl hlo
  obtain rfl : dV = .none := Dflts.none hD hdf
  obtain rfl : kV = .none := Dflts.noKw hD
  obtain ⟨a, vs, ns, rfl, rfl, hobj, hints, hlen⟩ := script_of hn hpre hwl
  refine enter_callW ?_
  refine call_cells_ret (o := o) (by rw [depth_caller]; decide) ho (fd_plain hd) G.T.nolimit hcd (hbind pm cd doc (.ref a)) (fun y hy => ?_) (fun h₁ tk F X => ?_) hco hgen hk
  · obtain rfl : y = (x, Value.ref a) := List.mem_singleton.mp hy
    rcases hx with e | e
    · exact .inl e
    · exact .inr ⟨e, cellsFrom_some _ _ _ (.inl e)⟩
  · refine wpAny_mono (body w s₀ s₁ { s₁ with heap := h₁, toks := tk } mg mb fa o pm cd doc a vs ns G Y ho (fd_plain hd) hcd hmg hobj hints hlen hg rfl F X) (fun f s' hq => ?_) (fun _ _ hq => hq)
    obtain ⟨rfl, h2, h3, h4⟩ := hq
    exact ⟨.inl ⟨.bool true, .bool true, [], rfl, fun _ => rfl, .bool true, post_true l _, fun _ => ⟨List.Pairwise.nil, fun _ hm => (nomatch hm)⟩⟩, h2, h3, h4⟩

/-! ### rules over ANY heap (no ledger) from facts about the written part K: the library's own take a ledger (News) for what they write -/
section
variable {prog : Program} {w : World} {A : Around} {E : Value → Shared → Prop} {s : Shared} {K : Frag}

/-- a def of the module, or a method (qual 'C.m'), entered: the frame is the next address; cells behind it -/
theorem call_fn {R : Result → Shared → Prop} {name qual : Str} {params : Arguments} {body : List Stmt} {scope : Scope} {dV kV doc pm cdv ct oc : Value} {an od : Option Addr} {osl : Array (Option Value)} {f : Addr} {args : Args} {binds : List (Str × Value)}
    (X : K.In s.heap) (hlim : s.heap.NoLimit) (ho : K.lookup f = some ⟨oc, od, .func (fnOf name qual params body scope dV kV doc pm an cdv ct), osl⟩) (hcd : codeIn K cdv qual = true) (hroom : A.depth < recursionLimit)
    (hbind : BindsTo s (fnOf name qual params body scope dV kV doc pm an cdv ct) args binds)
    (hkind : (binds.all fun y => scope.names.lookup y.1 == some .local || scope.names.lookup y.1 == some .cell) = true)
    (h : ∀ s₁, InCallC s s.heap.objs.size (bindL (envOfC qual scope s.heap.objs.size f cdv).kindOf binds fun _ => none) (cellsFrom (s.heap.objs.size + 1) scope.names [])
        (bindC (envOfC qual scope s.heap.objs.size f cdv).kindOf binds fun _ => none) s₁ →
      wpAny (model prog w) (A.deeper (envOfC qual scope s.heap.objs.size f cdv)) (execs body (envOfC qual scope s.heap.objs.size f cdv))
        (fun fl s' => R (.ok (.ret (match fl with | .ret v => v | _ => .none))) s')
        (fun e s' => wpAny (model prog w) (A.deeper (envOfC qual scope s.heap.objs.size f cdv)) (leaving (envOfC qual scope s.heap.objs.size f cdv) e) (fun _ s'' => R (.error e) s'') (fun e' s'' => R (.error e') s'') s') s₁)
    (hco : scope.isCoroutine = false) (hgen : scope.isGenerator = false) (hk : scope.kind = .function) : codeAny (model prog w) A (.call (.ref f) args) R s := by
  refine codeAny_call_function hroom (X _ _ ho) rfl hco hgen rfl (codeRec_of X hcd) (hbind _ _ _ _ ?_)
  refine wpAny_newFunctionEnv_cells hk (kindsX hkind _) fun env he s₁ x => ?_
  subst he
  exact ⟨hlim.keeps x.toInCall.keep, codeAny_func (h s₁ x)⟩

/-- C(..): dict at size, instance at size + 1, then __init__ -/
theorem make_obj {R : Result → Shared → Prop} {C fI : Addr} {rest : List Value} {kw : List (Str × Value)}
    (X : K.In s.heap) (hm : makesIn K C = true) (hi : findIn K (.ref C) "__init__" = some (some (.ref fI))) (hf : isFn K (.ref fI) = true)
    (h : codeAny (model prog w) (A.under (.builtin "type.__call__" ⟨.ref C :: rest, kw⟩)) (.call (.ref fI) ⟨.ref (s.heap.objs.size + 1) :: rest, kw⟩) (InitBack (s.heap.objs.size + 1) R)
      { s with heap := (s.heap.push emptyDict).push (instObj C s.heap.objs.size) }) : codeAny (model prog w) A (.call (.ref C) ⟨rest, kw⟩) R s := by
  obtain ⟨hh, g, d, t, os⟩ := s
  exact make_core (makes_of X hm) (looks_findIn X hi) (fun self => bind_fn X self (beq_iff_eq.mp hf)) (.inl rfl) h

/-- x.name where the instance's dict holds the name and the class does not -/
theorem get_field {x C : Addr} {ox : Obj} {es : List DictEntry} {n : Nat} {name : Str} {expr : Bool} {v : Value} {Q : Value → Shared → Prop}
    (X : K.In s.heap) (I : PySem.W.InstAt s.heap x ox C (some (dictOf es n))) (hg : plainGet K C name = true) (hh : hasDictIn K C = true) (ha : findIn K (.ref C) name = some none)
    (hl : getL name es = some (some v)) (hv : handedIn v = true) (h : Q v { s with toks := s.toks + 1 }) : wpAny (model prog w) A (getAttr (.ref x) name expr) Q E s :=
  get_value X I (plainGet_of hg).1 (findObj_own hh ha rfl hl) hv h

/-- x.m(..): the method found in the class -/
theorem get_method {x C f : Addr} {ox : Obj} {es : List DictEntry} {n : Nat} {name : Str} {pl : Sem Bool} {Q : Value × List Value → Shared → Prop}
    (X : K.In s.heap) (I : PySem.W.InstAt s.heap x ox C (some (dictOf es n))) (hg : plainGet K C name = true) (hf : findIn K (.ref C) name = some (some (.ref f))) (ht : isFn K (.ref f) = true)
    (hl : getL name es = some none) (h : Q (.ref f, [.ref x]) s) : wpAny (model prog w) A (getMethod (.ref x) name pl) Q E s :=
  method_fn X I (plainGet_of hg).1 (plainGet_of hg).2 hf (beq_iff_eq.mp ht) (by show (lookIn name (dictOf es n)).map _ = _; rw [lookIn_dict, hl]; rfl) h

/-! the whole heap as the ledger: makes every rule that writes through a ledger a rule over any heap -/
def noObjs (h : Heap) : Heap := { h with objs := #[] }
theorem noObjs_get (h : Heap) (b : Addr) : (noObjs h).get? b = none := by
  cases e : (noObjs h).get? b with
  | none => rfl
  | some o => exact absurd (Heap.lt_size e) (Nat.not_lt_zero _)
def ledger (h : Heap) (L d : Addr) : List (Addr × Obj) := (List.range h.objs.size).filterMap fun a => if a = L ∨ a = d then none else (h.get? a).map fun o => (a, o)
theorem mem_ledger {h : Heap} {L d a : Addr} {o : Obj} : (a, o) ∈ ledger h L d ↔ a ≠ L ∧ a ≠ d ∧ h.get? a = some o := by
  unfold ledger
  rw [List.mem_filterMap]
  constructor
  · rintro ⟨b, _, e⟩
    split at e
    · cases e
    · rename_i hb
      obtain ⟨o', ho, e'⟩ := Option.map_eq_some_iff.mp e
      cases e'
      exact ⟨fun q => hb (.inl q), fun q => hb (.inr q), ho⟩
  · rintro ⟨n1, n2, ho⟩
    refine ⟨a, List.mem_range.mpr (Heap.lt_size ho), ?_⟩
    rw [if_neg (show ¬ (a = L ∨ a = d) from fun q => q.elim n1 n2), ho] <;> rfl
theorem news_ledger {h : Heap} {L d : Addr} {od : Obj} (hne : d ≠ L) (ho : h.get? d = some od) : News (noObjs h) L h ([] ++ (d, od) :: ledger h L d) := by
  rintro ⟨a, o⟩ hp
  rcases List.mem_cons.mp hp with e | hp
  · cases e
    exact ⟨ho, hne, noObjs_get _ _⟩
  · obtain ⟨n1, n2, e⟩ := mem_ledger.mp hp
    exact ⟨e, n1, noObjs_get _ _⟩
theorem fr_all {h : Heap} {L : Addr} {m : Str → Option Value} (n : h.Ns L m) : Fr (noObjs h) L h m :=
  ⟨n, fun b o e => (by rw [noObjs_get] at e; cases e), Nat.zero_le _⟩
/-- Upd of the head entry (for append_K, setItem_K ..) -/
theorem upd_ledger {h : Heap} {L d : Addr} {o o' : Obj} : Upd d o o' ((d, o) :: ledger h L d) ((d, o') :: ledger h L d) :=
  .head fun ⟨_, _⟩ hp => (mem_ledger.mp hp).2.1

/-- x.name = v over any heap: L is any namespace of the heap (the frame's, say): its map stays, its object is not told; all else but the dict stays -/
theorem set_field {x C dx L : Addr} {ox : Obj} {m : Str → Option Value} {es es' : List DictEntry} {n n' : Nat} {name : Str} {v : Value} {Q : Unit → Shared → Prop}
    (X : K.In s.heap) (I : PySem.W.InstAt s.heap x ox C (some (dictOf es n))) (hd : ox.dict = some dx) (hL : s.heap.Ns L m) (hne : dx ≠ L)
    (hs : findIn K (.ref C) "__setattr__" = some (some (.builtin "object.__setattr__"))) (hp : plainOver K C = true) (ht : takerIn K C name = some none) (hh : hasDictIn K C = true) (hl : (getL name es).isSome = true)
    (e : (putL name (PyData.keyHash w.params name) (.str name (s.toks + 1)) v es, putN name es n) = (es', n')) (hz : es'.length ≤ 1000)
    (h : ∀ h' : Heap, h'.Ns L m → h'.get? dx = some (dictOf es' n') → (∀ b o, b ≠ dx → b ≠ L → s.heap.get? b = some o → h'.get? b = some o) → Q () { s with heap := h', toks := s.toks + 2 }) :
    wpAny (model prog w) A (setAttr (.ref x) name v) Q E s := by
  obtain ⟨e1, e2⟩ := Prod.mk.inj e
  have hdx : s.heap.get? dx = some (dictOf es n) := by
    have := I.dict
    rw [hd] at this
    exact this
  refine set_plain X I hs (osa_dict (s := { s with toks := s.toks + 1 }) (h₀ := noObjs s.heap) (L := L) (m := m) (od := dictOf es n) (od' := dictOf es' n') (es := es') (n := n') (pre := []) (post := ledger s.heap L dx)
    (fr_all hL) (news_ledger hne hdx) X I hd hp ht hh hl (fun _ q => nomatch q) (fun ⟨_, _⟩ q => (mem_ledger.mp q).2.1) (by rw [putName_dict, e1, e2]) rfl hz fun h' F' N' => ?_)
  exact h h' F'.ns (N'.get (List.Mem.head _)) fun b o n1 n2 ho => N'.get (List.Mem.tail _ (mem_ledger.mpr ⟨n2, n1, ho⟩))
end
end Att

namespace L2
open PySem PySem.Spec PyProof.Rows

theorem vals_ints : ∀ {vs : List Value} {ns : List Int}, IntsAre vs ns → Vals (ns.map V.int) vs
  | _, _, .nil => .nil
  | _, _, .cons n t h => .cons ⟨t, rfl⟩ (vals_ints h)

/-- nothing is tracked but the script, known to the object (or it is an object of the module) -/
def Only (H : Hp) : Prop := ∀ b, H b = none ∨ ∃ o xs, H b = some (.frz o (.lst xs))

/-- THE HEAD: the law's promise, at the heap behind the top. F, the promise of the law's def, may use that base is part of the heap (so K.In base, base.Ns mainGlobals mg stand in Mod) -/
theorem law_call {P : Program} {w : World} {K : PySem.W.Frag} {mg mb : Str → Option Value} {CX : CXT} {k : Nat} {fa a : Addr} {fd : FuncData} {x : Str} {sp : Sp} {s₁ : Shared} {vs : List Value} {ns : List Int}
    (KX : K.In s₁.heap) (hns : s₁.heap.Ns mainGlobals mg) (hb : s₁.heap.Ns builtinsNs mb) (hbb : ∀ x : Str, x ≠ "__name__" → mb x = bootBuiltins x) (hlim : s₁.heap.NoLimit) (hg : s₁.gens = #[])
    (ha : s₁.heap.get? a = some { cls := .type "list", data := .seq vs.toArray }) (hi : IntsAre vs ns) (hl : ns.length ≤ sizeLine) (hr : Room k callerA)
    (F : ∀ base : Heap, K.In base → base.Ns mainGlobals mg → FnOk P w K mg base CX k fa fd [x] sp) (hbind : ∀ (s : Shared) (u : Value), BindsTo s fd ⟨[u], []⟩ [(x, u)])
    (hsp : ∀ H : Hp, Only H → SqL K H a (ns.map V.int) → sp [.ref a] H (fun v _ => v = .bl true) fun _ _ _ => False)
    (hCX : ∀ H e s', CX [] H s₁ (fun _ _ _ => False) e s' → False) :
    codeAny (model P w) callerA (.call (.ref fa) ⟨[.ref a], []⟩) (fun r s' => r = .ok (.ret (.bool true)) ∧ OldK s₁.heap s'.heap ∧ s'.os = s₁.os ∧ AllBare s'.gens) s₁ := by
  have rv := vals_ints hi
  have lenV := hi.length
  -- from an abstract heap in which nothing but the script may be tracked
  have core : ∀ H : Hp, Only H → SqL K H a (ns.map V.int) → HOk P w H s₁.heap → (∀ b, H b ≠ none → b = a) → (H a ≠ none → K.lookup a = none) →
      codeAny (model P w) callerA (.call (.ref fa) ⟨[.ref a], []⟩) (fun r s' => r = .ok (.ret (.bool true)) ∧ OldK s₁.heap s'.heap ∧ s'.os = s₁.os ∧ AllBare s'.gens) s₁ := by
    intro H hO hS hok hA hK
    have base_of : ∀ {b : Addr} {o : Obj}, s₁.heap.get? b = some o → H b = none → (hidT s₁.heap H).get? b = some o := fun e n => hidT_get e n
    have noA : ∀ {b : Addr} {o : Obj} {es : Array DictEntry} {ep : Nat}, s₁.heap.get? b = some o → o.data = .dict es ep → H b = none := fun {b o es ep} e d => by
      cases q : H b with
      | none => rfl
      | some u =>
        have e' : b = a := hA b (by rw [q]; simp)
        subst e'
        rw [ha] at e; cases e
        have d' : Data.seq vs.toArray _ = Data.dict es ep := d
        cases d'
    have nsK : ∀ {b : Addr} {m : Str → Option Value}, s₁.heap.Ns b m → (hidT s₁.heap H).Ns b m := fun {b m} ⟨o, es, ep, e, d, r⟩ => ⟨o, es, ep, base_of e (noA e d), d, r⟩
    have hKb : K.In (hidT s₁.heap H) := fun b o e => base_of (KX b o e) (by
      cases q : H b with
      | none => rfl
      | some u =>
        have e' : b = a := hA b (by rw [q]; simp)
        subst e'
        rw [hK (by rw [q]; simp)] at e; cases e)
    have hM : Mod K mg (hidT s₁.heap H) := ⟨hKb, nsK hns, ⟨mb, nsK hb, hbb⟩, let ⟨mc, h1, h2⟩ := hlim; ⟨mc, nsK h1, h2⟩⟩
    have e0 : Env0 P w K mg (hidT s₁.heap H) callerA [] s₁ H := ⟨rfl, hM, fun b o e => of_hidT e, Nat.le_of_eq (hidT_size _ _), trivial, fun b hb => absurd (show b ∈ ([] : List Addr) from hb) (by simp), hok, .of_eq hg⟩
    refine codeAny_mono ((F _ hKb (nsK hns)).run callerA [] s₁ H ⟨[.ref a], []⟩ [.ref a] [.ref a] _ _ hr e0 (hbind s₁ (.ref a)) (.cons rfl .nil) (hsp H hO hS)) fun r s' h => ?_
    cases r with
    | error e => exact (hCX H e s' h).elim
    | ok fl =>
      cases fl with
      | next => exact False.elim h
      | brk => exact False.elim h
      | cont => exact False.elim h
      | ret u =>
        obtain ⟨v, H', os, bare, un, hok', r', q⟩ := h
        have q' : v = .bl true := q
        subst q'
        obtain rfl : u = Value.bool true := r'
        refine ⟨rfl, OldK.of_keep fun b o e => ?_, os, bare⟩
        cases q : H b with
        | none => exact un.keep b o e q (by intro z; exact absurd (show b ∈ ([] : List Addr) from z) (by simp)) (by simp)
        | some u =>
          rcases hO b with z | ⟨ob, xs, z⟩
          · rw [q] at z; cases z
          · have z2 := un.frzs b ob _ z
            obtain ⟨e1, _⟩ := hok b _ z
            obtain ⟨e2, _⟩ := hok' b _ z2
            rw [e] at e1; cases e1
            exact e2
  cases hk : K.lookup a with
  | some o =>
    -- the script is one of the module's own objects
    have e := KX a o hk
    rw [ha] at e
    cases e
    refine core (fun _ => none) (fun _ => .inl rfl) (.inr ⟨_, vs.toArray, _, hk, rfl, rfl, rfl, by rw [List.size_toArray, lenV]; exact hl, by simpa using rv⟩) (fun b u z => by have z' : (none : Option HO) = some u := z; cases z') (fun b z => absurd rfl z) fun z => absurd rfl z
  | none =>
    refine core (fun b => if b = a then some (.frz { cls := .type "list", data := .seq vs.toArray } (.lst (ns.map V.int))) else none) (fun b => ?_) (.inl (.inr ⟨{ cls := .type "list", data := .seq vs.toArray }, if_pos rfl⟩)) (fun b u z => ?_) (fun b z => ?_) fun _ => hk
    · by_cases hb : b = a
      · exact .inr ⟨_, _, if_pos hb⟩
      · exact .inl (if_neg hb)
    · by_cases hb : b = a
      · have z' := (if_pos hb).symm.trans z
        cases z'
        subst hb
        exact ⟨ha, by rw [List.length_map]; exact hl, vs, _, rv, ha⟩
      · have z' := (if_neg hb).symm.trans z
        cases z'
    · by_cases hb : b = a
      · exact hb
      · exact absurd (if_neg hb) z
end L2

namespace L2
open PySem PySem.Spec PyProof.Rows

abbrev KOf {K : PySem.W.Frag} {h : Heap} (_ : K.In h) : PySem.W.Frag := K

/-- the goal that k_head leaves (case hc), from the law's promise. F gives the function object fd (K's own) once, then the promise over every base -/
theorem walk_of {l : PySem.W.OpenLaw} {n k : Nat} {q : Program} {loose : List Str} {XP : (Str → Option Value) → Heap → Prop} {YP : World → Heap → Prop} {d : DefRec} {K : Params → PySem.W.Frag} {CX : World → CXT} {sp : World → Sp} {x : Str}
    (hn : l.most = some n) (hn2 : n ≤ sizeLine) (hdf : d.params.defaults = []) (hr : Room k callerA)
    (hY : ∀ (w : World) (h : Heap), YP w h → (K w.params).In h)
    (F : ∀ (w : World) (mg : Str → Option Value) (fa : Addr) (h : Heap), (K w.params).In h → h.Ns mainGlobals mg → mg d.name = some (.ref fa) →
      ∃ fd : FuncData, (∀ (s : Shared) (u : Value), BindsTo s fd ⟨[u], []⟩ [(x, u)]) ∧
        ∀ base : Heap, (K w.params).In base → base.Ns mainGlobals mg → FnOk l.prog w (K w.params) mg base (CX w) k fa fd [x] (sp w))
    (hsp : ∀ (w : World) (H : Hp) (a : Addr) (ns : List Int), ns.length ≤ n → Only H → SqL (K w.params) H a (ns.map V.int) → sp w [.ref a] H (fun v _ => v = .bl true) fun _ _ _ => False)
    (hCX : ∀ (w : World) (H : Hp) (s : Shared) (e : Value) (s' : Shared), CX w [] H s (fun _ _ _ => False) e s' → False) :
    PySem.W.WalkO q loose XP YP l.row.toRowW d [] (fun f vs => PySem.call f vs) := by
  refine Att.attach_call hn hdf fun w s₀ s₁ mg mb fa o pm cd doc a vs ns G Y ho hd hcd hmg hobj hints hlen hg => ?_
  have KX := hY w _ Y
  obtain ⟨fd, hb, hF⟩ := F w mg fa _ KX G.T.g hmg
  exact law_call KX G.T.g G.T.b G.T.builtins G.T.nolimit hg hobj hints (Nat.le_trans hlen hn2) hr hF hb (fun H hO hS => hsp w H a ns hlen hO hS) fun H e s' => hCX w H s₁ e s'
/-- the same where the promise hangs on the written part alone: (sp := My.sp_law), no hole under a binder -/
theorem walk_ofK {l : PySem.W.OpenLaw} {n k : Nat} {q : Program} {loose : List Str} {XP : (Str → Option Value) → Heap → Prop} {YP : World → Heap → Prop} {d : DefRec} {K : Params → PySem.W.Frag} {CX : CXT} {sp : PySem.W.Frag → Sp} {x : Str}
    (hn : l.most = some n) (hn2 : n ≤ sizeLine) (hdf : d.params.defaults = []) (hr : Room k callerA)
    (hY : ∀ (w : World) (h : Heap), YP w h → (K w.params).In h)
    (F : ∀ (w : World) (mg : Str → Option Value) (fa : Addr) (h : Heap), (K w.params).In h → h.Ns mainGlobals mg → mg d.name = some (.ref fa) →
      ∃ fd : FuncData, (∀ (s : Shared) (u : Value), BindsTo s fd ⟨[u], []⟩ [(x, u)]) ∧
        ∀ base : Heap, (K w.params).In base → base.Ns mainGlobals mg → FnOk l.prog w (K w.params) mg base CX k fa fd [x] (sp (K w.params)))
    (hsp : ∀ (K : PySem.W.Frag) (H : Hp) (a : Addr) (ns : List Int), ns.length ≤ n → Only H → SqL K H a (ns.map V.int) → sp K [.ref a] H (fun v _ => v = .bl true) fun _ _ _ => False)
    (hCX : ∀ (H : Hp) (s : Shared) (e : Value) (s' : Shared), CX [] H s (fun _ _ _ => False) e s' → False) :
    PySem.W.WalkO q loose XP YP l.row.toRowW d [] (fun f vs => PySem.call f vs) :=
  walk_of (K := K) (CX := fun _ => CX) (sp := fun w => sp (K w.params)) hn hn2 hdf hr hY F (fun w H a ns h1 h2 h3 => hsp (K w.params) H a ns h1 h2 h3) fun _ H s e s' => hCX H s e s'
end L2

/- THE LAST THEOREM (shape; LID, My.* are yours):
   My.Adr: a structure of the addresses that your layer names (classes, functions); My.Txt K t: a structure (Prop) of the equations over K;
   My.txt_mk : {K} {implicit addresses ..} (e1 : nsIn K mainGlobals "law" = some (some (.ref f))) (e2 : K.lookup f = some ⟨oc, od, .func (fnOf "law" "law" params body scope dV kV doc pm an cdv ct), sl⟩) (e3 : codeIn K cdv "law" = true) .. : ∃ t, My.Txt K t

set_option maxRecDepth 100000 in
set_option maxHeartbeats 0 in
theorem PySem.Challenge.cw_LID_holds : PySem.Challenge.rw_LID.Holds := by
  w_on; o_law; k_head; (case hw => w_witness2)
  k_fill
  refine L2.walk_of (l := PySem.Challenge.rw_LID) (n := 63) (k := 40) (x := "script") (CX := fun w => ..) (sp := fun _ => My.sp_law) rfl (by decide) rfl ⟨rfl, by decide, by decide⟩ (fun w h Y => PySem.W.kIn_of Y) ?F ?S ?C
  case F =>
    intro w mg fa h KX G hmg
    have T : ∃ t, My.Txt (L2.KOf KX) t := by
      dsimp only [L2.KOf]                          -- K must stand as «<heap const> w.params» for k_is
      refine' My.txt_mk ?e1 ?e2 ?e3 ..
      (case e1 => PySem.W.k_is)                    -- in the order: a name -> its address -> its object -> its parts
      (case e2 => PySem.W.k_is)
      ..
    obtain ⟨t, T⟩ := T
    have e0 := hmg.symm.trans (PySem.W.mg_of KX G T.law)
    cases e0                                       -- fa is the law's own address
    exact ⟨_, fun s u => .of_eq rfl, fun base kb nb => My.law_fn T kb nb⟩     -- if «.of_eq rfl» comes too early: refine' ⟨_, ?b, fun base kb nb => My.law_fn T kb nb⟩; exact fun s u => .of_eq rfl
  case S => exact fun w H a ns hl hO hS => ..
  case C => exact ..
(the tactic k_is has no namespace: write k_is) -/

/-! SHORT WORDS over the layer: a def of the text, its body, what a loop and a test want. -/
namespace L2
open PySem PySem.Spec PyProof.Rows

/-! ### the text by places -/
/-- the j-th statement of a class's body -/
def inClass (s : Stmt) (j : Nat) : Stmt := match s with
  | .ClassDef _ _ _ body _ _ _ _ _ _ _ => body.getD j (.Pass ⟨0, 0, 0, 0⟩)
  | _ => .Pass ⟨0, 0, 0, 0⟩
def defArgs (s : Stmt) : Arguments := match s with
  | .FunctionDef _ a _ _ _ _ _ _ _ _ => a
  | _ => { posonlyargs := [], args := [], vararg := none, kwonlyargs := [], kw_defaults := [], kwarg := none, defaults := [] }
def defBody (s : Stmt) : List Stmt := match s with
  | .FunctionDef _ _ b _ _ _ _ _ _ _ => b
  | _ => []
def defScope (s : Stmt) : Scope := match s with
  | .FunctionDef _ _ _ _ _ _ sc _ _ _ => sc
  | _ => { kind := .function, names := [], isGenerator := false, isCoroutine := false }

/-! ### no exception leaves a def -/
abbrev CX0 : CXT := fun _ _ _ _ _ _ => False
abbrev E0 : XK := fun _ _ _ => False
theorem pass0 {X : Cx} : Passes CX0 X E0 := fun _ _ _ _ _ _ _ h => h.elim

/-! ### a def (or method) of the text as it stands behind the top -/
structure Fun (K : PySem.W.Frag) (x qual : Str) (st : Stmt) (f : Addr) (fd : FuncData) : Prop where
  ex : ∃ (oc : Value) (od : Option Addr) (kV doc pm : Value) (an : Option Addr) (cdv ct : Value) (osl : Array (Option Value)),
    fd = PySem.W.fnOf x qual (defArgs st) (defBody st) (defScope st) .none kV doc pm an cdv ct ∧ K.lookup f = some ⟨oc, od, .func fd, osl⟩ ∧ PySem.W.codeIn K cdv qual = true
  kp : PySem.W.keepIn K (.ref f) = true
section
variable {P : Program} {w : World} {K : PySem.W.Frag} {mg : Str → Option Value} {base : Heap}
/-- THE RULE for a def: its body as a term of rules, and the reading of that term -/
theorem Fun.ok {x qual : Str} {st : Stmt} {f : Addr} {fd : FuncData} {N ps : List Str} {k : Nat} {sp : Sp} (F : Fun K x qual st f fd) (S : FnScope N ps (defScope st)) (len : ∀ vs H Q E, sp vs H Q E → vs.length = ps.length)
    (hbody : ∀ (cdv : Value) (A : Around) (outer : List Env) (s : Shared) (H : Hp) (vs : List V) (Q : VK) (E : XK), Room k (A.deeper (envOfC qual (defScope st) s.heap.objs.size f cdv)) → sp vs H Q E →
      ∃ t, PSs (cxOf CX0 P w K mg base N qual (defScope st) f cdv A outer s H E).nox (defBody st) t ∧ t { nx := fun _ H' => Q .non H', rt := Q } (start N vs) H) : FnOk P w K mg base CX0 (k + 1) f fd ps sp := by
  obtain ⟨oc, od, kV, doc, pm, an, cdv, ct, osl, rfl, lk, hcd⟩ := F.ex
  refine fn_of lk hcd S len fun A outer s H vs Q E hr hsp => ?_
  obtain ⟨t, h, q⟩ := hbody cdv A outer s H vs Q E hr hsp
  exact ⟨t, h.nox, q⟩
/-- how its arguments bind (no defaults): h is «fun _ _ _ _ _ _ us hl => match us, hl with | [_, _], _ => rfl», one _ a parameter -/
theorem Fun.binds {x qual : Str} {st : Stmt} {f : Addr} {fd : FuncData} {ps : List Str} (F : Fun K x qual st f fd)
    (h : ∀ (kV doc pm : Value) (an : Option Addr) (cdv ct : Value) (us : List Value), us.length = ps.length → bindArgs (PySem.W.fnOf x qual (defArgs st) (defBody st) (defScope st) .none kV doc pm an cdv ct) ⟨us, []⟩ = pure (ps.zip us)) : Binds K fd ps [] := by
  obtain ⟨oc, od, kV, doc, pm, an, cdv, ct, osl, rfl, lk, hcd⟩ := F.ex
  exact .all (h kV doc pm an cdv ct)
theorem fun_mk {x qual : Str} {st : Stmt} {f : Addr} {oc : Value} {od an : Option Addr} {osl : Array (Option Value)} {kV doc pm cdv ct : Value} (l : K.lookup f = some ⟨oc, od, .func (PySem.W.fnOf x qual (defArgs st) (defBody st) (defScope st) .none kV doc pm an cdv ct), osl⟩)
    (c : PySem.W.codeIn K cdv qual = true) (k : PySem.W.keepIn K (.ref f) = true) : Fun K x qual st f (PySem.W.fnOf x qual (defArgs st) (defBody st) (defScope st) .none kV doc pm an cdv ct) := ⟨⟨oc, od, kV, doc, pm, an, cdv, ct, osl, rfl, l, c⟩, k⟩
end
theorem hu_of {A : Around} {k : Nat} (hr : Room k A) : A.units + 1 < cLine := Nat.lt_of_le_of_lt (Nat.add_le_add_left (by decide : 1 ≤ 64) _) hr.units
theorem small1000 {n : Nat} (h : n ≤ 1000) : n < sizeLine := Nat.lt_of_le_of_lt h (by decide)

/-! ### expressions in short: the name that stands in the i-th slot -/
section
variable {X : Cx}
theorem pv (i : Nat) {x : Str} {pos : Pos} (hN : X.N[i]? = some x := by rfl) (hv : Vis X.env.scope x := by first | exact Or.inl rfl | exact Or.inr (Or.inl rfl) | exact Or.inr (Or.inr rfl)) (hd : (x == ("__debug__" : Str)) = false := by decide)
    (hcd : (x == ("__classdict__" : Str)) = false := by decide) : PE X (.Name x pos) (tVar i) := pe_var hN hv hd hcd
/-- len of a dict -/
theorem call_lenD : CallR X (.builtin "len") (fun xs H Q => ∃ a kvs, xs = [V.ref a] ∧ H a = some (.dK kvs) ∧ Q (.int kvs.length) H) := by
  intro pins s σ H xs us Q I r h
  obtain ⟨a, kvs, rfl, ha, q⟩ := h
  obtain ⟨u, rfl, ru⟩ := vals1 r
  cases ru
  exact d_len I (.inl ha) fun t s' I' => ⟨.int kvs.length, H, I', ⟨t, rfl⟩, q⟩
end

/-! ### tests -/
theorem iteF {A B : Prop} (h : B) : if false = true then A else B := by
  rw [if_neg Bool.false_ne_true]
  exact h
theorem iteT {A B : Prop} (h : A) : if true = true then A else B := by
  rw [if_pos rfl]
  exact h
theorem ite2 {c A B : Prop} [Decidable c] (h1 : c → A) (h2 : ¬ c → B) : if c then A else B := by
  by_cases h : c
  · rw [if_pos h]
    exact h1 h
  · rw [if_neg h]
    exact h2 h
theorem iteNS {c A B : Prop} [Decidable c] (hc : c) (h : B) : if (!decide c) = true then A else B := by
  rw [decide_eq_true hc]
  exact iteF h

/-! ### heaps -/
/-- all that was tracked is as it was -/
def Same (H H' : Hp) : Prop := ∀ b o, H b = some o → H' b = some o
theorem Same.refl (H : Hp) : Same H H := fun _ _ h => h
theorem Same.trans {H H1 H2 : Hp} (a : Same H H1) (b : Same H1 H2) : Same H H2 := fun c o h => b c o (a c o h)
theorem Same.free {H H' : Hp} (e : Same H H') {l : Addr} (h : H' l = Option.none) : H l = Option.none := by
  cases q : H l with
  | none => rfl
  | some o =>
    rw [e l o q] at h
    cases h
theorem Same.seq {K : PySem.W.Frag} {H H' : Hp} {a : Addr} {xs : List V} (e : Same H H') (h : SqL K H a xs) : SqL K H' a xs := by
  rcases h with (h | ⟨o, h⟩) | h
  · exact .inl (.inl (e _ _ h))
  · exact .inl (.inr ⟨o, e _ _ h⟩)
  · exact .inr h

/-! ### a dict's pairs: keys that differ -/
section
variable {κ : Type} [DecidableEq κ]
theorem valV_not {kvs : List (κ × V)} {k : κ} (h : valV kvs k = none) : ¬ k ∈ kvs.map (·.1) := by
  intro m
  obtain ⟨p, hp, e⟩ := List.mem_map.mp m
  have q : (kvs.any fun kv => decide (kv.1 = k)) = true := List.any_eq_true.mpr ⟨p, hp, decide_eq_true e⟩
  rw [valV_any, h] at q
  exact absurd q (by simp)
theorem valV_in {kvs : List (κ × V)} {k : κ} {v : V} (h : valV kvs k = some v) : k ∈ kvs.map (·.1) := by
  have q : (kvs.any fun kv => decide (kv.1 = k)) = true := by
    rw [valV_any, h]
    all_goals rfl
  obtain ⟨p, hp, e⟩ := List.any_eq_true.mp q
  exact List.mem_map.mpr ⟨p, hp, of_decide_eq_true e⟩
theorem nd_snoc : ∀ {l : List κ} {k : κ}, l.Nodup → ¬ k ∈ l → (l ++ [k]).Nodup
  | [], k, _, _ => by simp
  | a :: r, k, h, hk => by
    obtain ⟨h1, h2⟩ := List.nodup_cons.mp h
    show (a :: (r ++ [k])).Nodup
    refine List.nodup_cons.mpr ⟨fun m => ?_, nd_snoc h2 fun m => hk (List.mem_cons.mpr (Or.inr m))⟩
    rcases List.mem_append.mp m with q | q
    · exact h1 q
    · exact hk (List.mem_cons.mpr (Or.inl (List.mem_singleton.mp q).symm))
theorem nd_putK {kvs : List (κ × V)} {k : κ} (v : V) (hn : (kvs.map (·.1)).Nodup) (h : valV kvs k = none) : ((putK kvs k v).map (·.1)).Nodup := by
  rw [putK_new v h, List.map_append]
  exact nd_snoc hn (valV_not h)
theorem dropK_pos {p : κ × V} {r : List (κ × V)} {k : κ} (e : p.1 = k) : dropK (p :: r) k = dropK r k := by
  unfold dropK
  rw [List.filter_cons, if_neg (by simp [e])]
theorem dropK_neg {p : κ × V} {r : List (κ × V)} {k : κ} (e : ¬ p.1 = k) : dropK (p :: r) k = p :: dropK r k := by
  unfold dropK
  rw [List.filter_cons, if_pos (by simp [e])]
theorem dropK_no : ∀ {kvs : List (κ × V)} {k : κ}, ¬ k ∈ kvs.map (·.1) → dropK kvs k = kvs
  | [], _, _ => rfl
  | p :: r, k, h => by
    have h' : ¬ k ∈ r.map (·.1) := fun m => by
      obtain ⟨q, hq, e⟩ := List.mem_map.mp m
      exact h (List.mem_map.mpr ⟨q, List.mem_cons.mpr (Or.inr hq), e⟩)
    rw [dropK_neg fun e => h (List.mem_map.mpr ⟨p, List.mem_cons.mpr (Or.inl rfl), e⟩), dropK_no h']
theorem dropK_mem {kvs : List (κ × V)} {k : κ} {p : κ × V} (h : p ∈ dropK kvs k) : p ∈ kvs := (List.mem_filter.mp h).1
theorem nd_dropK : ∀ {kvs : List (κ × V)} {k : κ}, (kvs.map (·.1)).Nodup → ((dropK kvs k).map (·.1)).Nodup
  | [], _, _ => List.nodup_nil
  | p :: r, k, h => by
    have h : (p.1 :: r.map (·.1)).Nodup := h
    obtain ⟨h1, h2⟩ := List.nodup_cons.mp h
    by_cases e : p.1 = k
    · rw [dropK_pos e]
      exact nd_dropK h2
    · rw [dropK_neg e]
      show (p.1 :: (dropK r k).map (·.1)).Nodup
      refine List.nodup_cons.mpr ⟨fun m => h1 ?_, nd_dropK h2⟩
      obtain ⟨q, hq, eq⟩ := List.mem_map.mp m
      exact List.mem_map.mpr ⟨q, dropK_mem hq, eq⟩
theorem dropK_len : ∀ {kvs : List (κ × V)} {k : κ}, (kvs.map (·.1)).Nodup → k ∈ kvs.map (·.1) → (dropK kvs k).length + 1 = kvs.length
  | [], _, _, m => by simp at m
  | p :: r, k, h, m => by
    have h : (p.1 :: r.map (·.1)).Nodup := h
    have m : k = p.1 ∨ k ∈ r.map (·.1) := List.mem_cons.mp m
    obtain ⟨h1, h2⟩ := List.nodup_cons.mp h
    by_cases e : p.1 = k
    · subst e
      rw [dropK_pos rfl, dropK_no h1]
      all_goals rfl
    · have m' : k ∈ r.map (·.1) := m.resolve_left fun z => e z.symm
      have q := dropK_len h2 m'
      rw [dropK_neg e, List.length_cons, List.length_cons]
      omega
end
end L2


set_option Elab.async false
set_option linter.all false
set_option maxRecDepth 100000
namespace Tw
open PySem
/-! texts as lists of codes -/
abbrev W := List Nat
def st (l : W) : Str := ⟨l.toArray⟩
theorem st_cps (l : W) : (st l).cps.toList = l := rfl
theorem st_of (x : Str) : st x.cps.toList = x := by cases x; rfl
theorem st_inj {a b : W} (h : st a = st b) : a = b := by
  have := congrArg (fun s : Str => s.cps.toList) h
  exact this
theorem st_eq {a b : W} : st a = st b ↔ a = b := ⟨st_inj, fun h => by rw [h]⟩
theorem st_len (l : W) : (st l).length = l.length := by simp [st, Str.length]
theorem st_app (a b : W) : st a ++ st b = st (a ++ b) := by
  show (⟨a.toArray ++ b.toArray⟩ : Str) = _
  simp [st]
theorem st_nil : (st [] : Str) = Str.empty := rfl
/-- y begins x -/
theorem st_starts (x y : W) : Txt.startswith (st x) (st y) = y.isPrefixOf x := by
  unfold Txt.startswith Builtin.Str.subAt
  rw [st_len, st_len]
  simp only [Nat.zero_add, st]
  rw [Bool.eq_iff_iff, Bool.and_eq_true, decide_eq_true_iff, List.isPrefixOf_iff_prefix, beq_iff_eq]
  constructor
  · rintro ⟨h1, h2⟩
    have h3 := congrArg Array.toList h2
    rw [List.prefix_iff_eq_take]
    simpa using h3.symm
  · intro h
    refine ⟨h.length_le, ?_⟩
    have h3 := List.prefix_iff_eq_take.mp h
    apply Array.ext'
    simpa using h3.symm
theorem takeWhile_len_all {p : Nat → Bool} : ∀ {l : W}, (l.takeWhile p).length = l.length → ∀ c ∈ l, p c = true
  | [], _, _, h => nomatch h
  | a :: l, e, c, h => by
    rw [List.takeWhile_cons] at e
    split at e
    · rename_i hp
      rcases List.mem_cons.mp h with rfl | h
      · exact hp
      · exact takeWhile_len_all (by simpa using e) c h
    · simp at e
theorem takeWhile_all {p : Nat → Bool} : ∀ {l : W}, (∀ c ∈ l, p c = true) → l.takeWhile p = l
  | [], _ => rfl
  | a :: l, h => by rw [List.takeWhile_cons, h a List.mem_cons_self]; simp [takeWhile_all fun c hc => h c (List.mem_cons_of_mem _ hc)]
theorem takeWhile_le {p : Nat → Bool} (l : W) : (l.takeWhile p).length ≤ l.length := (List.takeWhile_sublist p).length_le
theorem strSub_nil {x : W} {i j : Nat} : Builtin.Str.strSub (st x) i j = st [] ↔ min j x.length ≤ i := by
  unfold Builtin.Str.strSub st
  constructor
  · intro h
    have := congrArg (fun s : Str => s.cps.toList.length) h
    simp at this
    omega
  · intro h
    congr 1
    apply Array.ext'
    apply List.eq_nil_of_length_eq_zero
    simp
    omega
theorem st_lstrip (x y : W) : (Txt.lstripChars (st x) (st y) = st []) ↔ ∀ c ∈ x, c ∈ y := by
  unfold Txt.lstripChars Txt.stripBy stripSame stripped stripLo stripHi
  simp only [if_true, Bool.false_eq_true, if_false, st_len, st_cps]
  have hc : ∀ c, (st y).cps.contains c = true ↔ c ∈ y := fun c => by simp [st]
  split
  · rename_i h
    have h0 : (x.takeWhile (st y).cps.contains).length = 0 := by simpa using h
    rw [st_eq]
    constructor
    · rintro rfl; intro c h; nomatch h
    · intro h
      cases x with
      | nil => rfl
      | cons a r => rw [List.takeWhile_cons, (hc a).mpr (h a List.mem_cons_self)] at h0; simp at h0
  · rw [strSub_nil, Nat.min_self]
    constructor
    · intro h c hm
      exact (hc c).mp (takeWhile_len_all (Nat.le_antisymm (takeWhile_le _) h) c hm)
    · intro h
      rw [takeWhile_all fun c hm => (hc c).mpr (h c hm)]
      exact Nat.le_refl _
theorem st_strip (x y : W) : (Txt.stripChars (st x) (st y) = st []) ↔ ∀ c ∈ x, c ∈ y := by
  unfold Txt.stripChars Txt.stripBy stripSame stripped stripLo stripHi
  simp only [if_true, st_len, st_cps]
  have hc : ∀ c, (st y).cps.contains c = true ↔ c ∈ y := fun c => by simp [st]
  generalize hn : (x.takeWhile (st y).cps.contains).length = n
  have hnl : n ≤ x.length := hn ▸ takeWhile_le _
  split
  · rename_i h
    have h0 : n = 0 := by
      have := (Bool.and_eq_true _ _ ▸ h).1
      simpa using this
    rw [st_eq]
    constructor
    · rintro rfl; intro c h; nomatch h
    · intro h
      cases x with
      | nil => rfl
      | cons a r => rw [List.takeWhile_cons, (hc a).mpr (h a List.mem_cons_self)] at hn; simp at hn; omega
  · rename_i hsame
    rw [strSub_nil]
    constructor
    · intro h c hm
      by_cases hx : n = x.length
      · exact (hc c).mp (takeWhile_len_all (hn.trans hx) c hm)
      · exfalso
        -- the rest behind n begins with a sign that stays
        have hlt : n < x.length := by omega
        obtain ⟨d, r, e⟩ : ∃ d r, x.drop n = d :: r := by
          cases q : x.drop n with
          | nil => have := List.drop_eq_nil_iff.mp q; omega
          | cons d r => exact ⟨d, r, rfl⟩
        have hd : (st y).cps.contains d = false := by
          have e2 : x.dropWhile (st y).cps.contains = d :: r := by
            rw [← e, ← hn]
            have e3 := List.takeWhile_append_dropWhile (p := (st y).cps.contains) (l := x)
            conv => rhs; rw [← e3]
            rw [show ((List.takeWhile (st y).cps.contains x ++ List.dropWhile (st y).cps.contains x).takeWhile (st y).cps.contains).length = (List.takeWhile (st y).cps.contains x).length by rw [e3]]
            rw [List.drop_left]
          have e4 : (x.dropWhile (st y).cps.contains).head? = some d := by rw [e2]; rfl
          cases q : (st y).cps.contains d with
          | false => rfl
          | true => exact absurd q (by have := List.head?_dropWhile_not (st y).cps.contains x; rw [e4] at this; simpa using this)
        have hlen : (((x.drop n).reverse).takeWhile (st y).cps.contains).length ≤ r.length := by
          rw [e, List.reverse_cons]
          have : ∀ (l : W), ((l ++ [d]).takeWhile (st y).cps.contains).length ≤ l.length := by
            intro l
            induction l with
            | nil => rw [List.nil_append, List.takeWhile_cons, hd]; simp
            | cons a t ih => rw [List.cons_append, List.takeWhile_cons]; split <;> simp; omega
          simpa using this r.reverse
        have hr : r.length + 1 = x.length - n := by
          have := congrArg List.length e
          simpa using this.symm
        omega
    · intro h
      have : n = x.length := by rw [← hn, takeWhile_all fun c hm => (hc c).mpr (h c hm)]
      omega
theorem st_join (ls : List W) : Txt.join (st []) (ls.map st) = st ls.flatten := by
  unfold Txt.join Builtin.Str.glued
  cases ls with
  | nil => rfl
  | cons a r =>
    simp only [List.map_cons, List.drop_succ_cons, List.drop_zero, List.headD_cons, List.flatten_cons]
    have : ∀ (r : List W) (acc : W), (r.map st).foldl (fun acc p => acc ++ (st []).cps ++ p.cps) acc.toArray = (acc ++ r.flatten).toArray := by
      intro r
      induction r with
      | nil => intro acc; simp
      | cons b r ih =>
        intro acc
        rw [List.map_cons, List.foldl_cons, List.flatten_cons]
        have e : acc.toArray ++ (st []).cps ++ (st b).cps = (acc ++ b).toArray := by simp [st]
        rw [e, ih, List.append_assoc]
    have h := this r a
    show (⟨_⟩ : Str) = _
    rw [show (st a).cps = a.toArray from rfl, h]
    rfl
end Tw


set_option Elab.async false
set_option linter.all false
set_option maxRecDepth 100000
set_option maxHeartbeats 4000000
namespace L2
open PySem PySem.Spec PyProof.Rows
/-! ### a rule that keeps the frame's map and a list of all other objects -/
section
variable {X : Cx} {pins : List (Addr × Obj)} {σ : St} {H : Hp} {s : Shared}
theorem ns_one {h : Heap} {a : Addr} {m m' : Str → Option Value} (x : h.Ns a m) (y : h.Ns a m') : m = m' := by
  obtain ⟨o, es, ep, e, d, _, f⟩ := x
  obtain ⟨o', es', ep', e', d', _, f'⟩ := y
  rw [e] at e'; cases e'
  rw [d] at d'; cases d'
  funext n
  rw [← f n, ← f' n]
/-- what any rule of the library's News kind may take, and what its end gives back -/
theorem Inv.byNews (I : Inv X pins σ H s) : ∃ m, Fr X.base X.env.locals s.heap m ∧ News X.base X.env.locals s.heap (allNews X.base s.heap X.env.locals) ∧
    ∀ (h' : Heap) (t' : Nat), Fr X.base X.env.locals h' m → News X.base X.env.locals h' (allNews X.base s.heap X.env.locals) → Inv X pins σ H { s with heap := h', toks := t' } := by
  obtain ⟨m, hm⟩ := I.fr
  refine ⟨m, hm, news_all, fun h' t' F N => ?_⟩
  have keep : ∀ b o, b ≠ X.env.locals → s.heap.get? b = some o → h'.get? b = some o := fun b o hb e => by
    cases q : X.base.get? b with
    | some u =>
      have := I.bk b u q
      rw [e] at this; cases this
      exact F.keep b _ q
    | none => exact (N (b, o) (mem_allNews hb q e)).1
  have hL : ∃ o, h'.get? X.env.locals = some o := by
    obtain ⟨o, _, _, e, _⟩ := F.ns
    exact ⟨o, e⟩
  refine I.step (g' := s.gens) (d' := s.drawn) (ch := []) (fun _ z => nomatch z) (fun b o h1 _ _ e _ => keep b o h1 e) (fun b o h1 _ _ e _ => ⟨o.slots, keep b o h1 e⟩) (fun _ _ _ _ n => n)
    (fun b o _ e => ?_) (fun _ _ e => e) (fun _ _ _ e => e) (fun b ps e => ⟨#[], by rw [e]; simp⟩) (fun m' hm' => ?_) (fun b u e => ?_) I.bare
  · by_cases hb : b = X.env.locals
    · subst hb; exact hL
    · exact ⟨o, keep b o hb e⟩
  · rw [← ns_one hm.ns hm']; exact F.ns
  · refine (I.hok b u e).stay (fun c v hc q => keep c v ?_ q) (fun _ q => q) fun _ _ q => q
    rintro rfl
    rcases hc with z | z
    · subst z; rw [I.free] at e; cases e
    · rw [I.free] at z; cases z
end

/-! ### isinstance -/
def cV : V → Value
  | .ty n => .type n
  | .ref a => .ref a
  | _ => .none
def isCls : V → Prop
  | .ty _ => True
  | .ref _ => True
  | _ => False
def rIsi (K : PySem.W.Frag) : List V → Hp → VK → Prop := fun xs H Q => ∃ x c t b, xs = [x, c] ∧ isCls c ∧ TyOf K H x t ∧ PySem.W.kitOne K t (cV c) = some b ∧ Q (.bl b) H
section
variable {X : Cx}
theorem call_isi : CallR X (.builtin "isinstance") (rIsi X.K) := by
  intro pins s σ H xs us Q I r h
  obtain ⟨x, c, t, b, rfl, hc, ty, e, q⟩ := h
  obtain ⟨u, w', rfl, rx, rc⟩ := vals2 r
  have ec : w' = cV c := by
    cases c with
    | ty n => exact rc
    | ref a => exact rc
    | _ => exact False.elim hc
  subst ec
  exact isinst_ok I rx ty e fun tk => ⟨.bl b, H, I.tok tk, rfl, q⟩
end

/-! ### all, any, sum of a list -/
section
variable {X : Cx}
theorem bools_of : ∀ {bs : List Bool} {us : List Value}, Vals (bs.map V.bl) us → us = bs.map Value.bool
  | [], _, r => by cases r; rfl
  | b :: bs, _, r => by
    cases r with
    | cons r1 r2 => rw [bools_of r2, List.map_cons, show _ = Value.bool b from r1]
theorem boolsAre : ∀ (bs : List Bool), LSm.BoolsAre (bs.map Value.bool) bs := by
  intro bs
  induction bs with
  | nil => exact .nil
  | cons b bs ih => exact .cons b ih
theorem call_all_bl (hc : X.calm = true) : CallR X (.builtin "all") (fun xs H Q => ∃ (p : Addr) (bs : List Bool), xs = [.ref p] ∧ SqL X.K H p (bs.map V.bl) ∧ Q (.bl (bs.all id)) H) := by
  intro pins s σ H xs us Q I r h
  obtain ⟨p, bs, rfl, hq, q⟩ := h
  obtain ⟨u, rfl, rx⟩ := vals1 r
  cases rx
  obtain ⟨its, r', pl, hz⟩ := I.list hq
  have e := bools_of r'
  subst e
  obtain ⟨m, F, N, back⟩ := I.byNews
  exact LSm.all_bools F N (I.ok.hd hc) pl.isList (boolsAre bs) fun h' tk F' N' => ⟨.bl _, H, back h' tk F' N', rfl, q⟩
theorem call_any_bl (hc : X.calm = true) : CallR X (.builtin "any") (fun xs H Q => ∃ (p : Addr) (bs : List Bool), xs = [.ref p] ∧ SqL X.K H p (bs.map V.bl) ∧ Q (.bl (bs.any id)) H) := by
  intro pins s σ H xs us Q I r h
  obtain ⟨p, bs, rfl, hq, q⟩ := h
  obtain ⟨u, rfl, rx⟩ := vals1 r
  cases rx
  obtain ⟨its, r', pl, hz⟩ := I.list hq
  have e := bools_of r'
  subst e
  obtain ⟨m, F, N, back⟩ := I.byNews
  exact LSm.any_bools F N (I.ok.hd hc) pl.isList (boolsAre bs) fun h' tk F' N' => ⟨.bl _, H, back h' tk F' N', rfl, q⟩
theorem call_sum_int (hc : X.calm = true) : CallR X (.builtin "sum") (fun xs H Q => ∃ (p : Addr) (ns : List Int), xs = [.ref p] ∧ SqL X.K H p (ns.map V.int) ∧ Q (.int ns.sum) H) := by
  intro pins s σ H xs us Q I r h
  obtain ⟨p, ns, rfl, hq, q⟩ := h
  obtain ⟨u, rfl, rx⟩ := vals1 r
  cases rx
  obtain ⟨its, r', pl, hz⟩ := I.list hq
  obtain ⟨m, F, N, back⟩ := I.byNews
  exact LSm.sum_ints F N (I.ok.hd hc) pl.isList (intsAre_of r') fun h' tk t' F' N' => ⟨.int _, H, back h' tk F' N', ⟨t', rfl⟩, q⟩

/-! ### methods of texts -/
open Tw
abbrev sv (l : W) : V := .str (st l)
theorem mt_starts : MtR X "str.startswith" (fun x xs H Q => ∃ (a b : W), x = sv a ∧ xs = [sv b] ∧ Q (.bl (b.isPrefixOf a)) H) := by
  intro pins s σ H x xs v us Q I rx rs h
  obtain ⟨a, b, rfl, rfl, q⟩ := h
  obtain ⟨t, rfl⟩ := rx
  obtain ⟨u, rfl, t', rfl⟩ := vals1 rs
  refine SC.startswith ⟨.bl _, H, I, rfl, ?_⟩
  rw [st_starts]
  exact q
theorem mt_lstrip : MtR X "str.lstrip" (fun x xs H Q => ∃ (a b : W), x = sv a ∧ xs = [sv b] ∧ a.length ≤ sizeLine ∧ ∀ c, (c = [] ↔ ∀ z ∈ a, z ∈ b) → Q (sv c) H) := by
  intro pins s σ H x xs v us Q I rx rs h
  obtain ⟨a, b, rfl, rfl, hz, q⟩ := h
  obtain ⟨t, rfl⟩ := rx
  obtain ⟨u, rfl, t', rfl⟩ := vals1 rs
  refine SC.lstripChars (fun t' k => ⟨.str _, H, I.tok k, ⟨t', rfl⟩, ?_⟩) (by rw [st_len]; exact hz)
  have z := q (Txt.lstripChars (st a) (st b)).cps.toList (by rw [← st_eq, st_of]; exact st_lstrip a b)
  unfold sv at z
  rw [st_of] at z
  exact z
theorem mt_strip : MtR X "str.strip" (fun x xs H Q => ∃ (a b : W), x = sv a ∧ xs = [sv b] ∧ a.length ≤ sizeLine ∧ ∀ c, (c = [] ↔ ∀ z ∈ a, z ∈ b) → Q (sv c) H) := by
  intro pins s σ H x xs v us Q I rx rs h
  obtain ⟨a, b, rfl, rfl, hz, q⟩ := h
  obtain ⟨t, rfl⟩ := rx
  obtain ⟨u, rfl, t', rfl⟩ := vals1 rs
  refine SC.stripChars (fun t' k => ⟨.str _, H, I.tok k, ⟨t', rfl⟩, ?_⟩) (by rw [st_len]; exact hz)
  have z := q (Txt.stripChars (st a) (st b)).cps.toList (by rw [← st_eq, st_of]; exact st_strip a b)
  unfold sv at z
  rw [st_of] at z
  exact z
theorem strsAre_of : ∀ {ls : List W} {us : List Value}, Vals (ls.map sv) us → StrsAre us (ls.map st)
  | [], _, r => by cases r; exact .nil
  | l :: ls, _, r => by
    cases r with
    | cons r1 r2 => obtain ⟨t, rfl⟩ := r1; exact .cons _ t (strsAre_of r2)
theorem mt_join : MtR X "str.join" (fun x xs H Q => ∃ (p : Addr) (ls : List W), x = .str (st []) ∧ xs = [.ref p] ∧ SqL X.K H p (ls.map sv) ∧ (ls.map List.length).sum ≤ 16777216 ∧ Q (sv ls.flatten) H) := by
  intro pins s σ H x xs v us Q I rx rs h
  obtain ⟨p, ls, rfl, rfl, hq, hz, q⟩ := h
  obtain ⟨t, rfl⟩ := rx
  obtain ⟨u, rfl, rx⟩ := vals1 rs
  cases rx
  obtain ⟨its, r', pl, _⟩ := I.list hq
  refine join_list pl.isList (ys := ls.map st) (by simpa using strsAre_of r') ?_ fun t' k => ⟨sv ls.flatten, H, I.tok k, ⟨t', by rw [st_join]⟩, q⟩
  have e : (ls.map st).map (·.length) = ls.map List.length := by rw [List.map_map]; exact List.map_congr_left fun a _ => st_len a
  rw [e, st_len]
  simpa using hz
end
end L2


set_option Elab.async false
set_option linter.all false
set_option maxRecDepth 100000
set_option maxHeartbeats 4000000
namespace L2
open PySem PySem.Spec PyProof.Rows
/-! ### list comprehensions: one clause, at most one test -/
/-- the cells that a block takes from around it -/
def clOf (names : List (Str × NameKind)) (cells : List (Str × Addr)) : List (Str × Addr) :=
  names.foldl (fun cs x => if x.2 == .free then (match cells.lookup x.1 with | some c => (x.1, c) :: cs | none => cs) else cs) []
theorem clOf_mem {cells : List (Str × Addr)} : ∀ {names : List (Str × NameKind)} {cs : List (Str × Addr)} {x : Str} {c : Addr},
    (names.foldl (fun cs x => if x.2 == .free then (match cells.lookup x.1 with | some c => (x.1, c) :: cs | none => cs) else cs) cs).lookup x = some c → cs.lookup x = some c ∨ cells.lookup x = some c
  | [], _, _, _, h => .inl h
  | y :: names, cs, x, c, h => by
    rw [List.foldl_cons] at h
    rcases clOf_mem h with h | h
    · split at h
      · split at h
        · rename_i c' e
          rw [List.lookup_cons] at h
          split at h
          · rename_i hb
            have hx : x = y.1 := by simpa using hb
            cases h
            exact .inr (by rw [hx]; exact e)
          · exact .inl h
        · exact .inl h
      · exact .inl h
    · exact .inr h
theorem clOf_keep {cells : List (Str × Addr)} : ∀ {names : List (Str × NameKind)} {cs : List (Str × Addr)} {x : Str}, (∃ c, cs.lookup x = some c) →
    ∃ c, (names.foldl (fun cs x => if x.2 == .free then (match cells.lookup x.1 with | some c => (x.1, c) :: cs | none => cs) else cs) cs).lookup x = some c
  | [], _, _, h => h
  | y :: names, cs, x, h => by
    rw [List.foldl_cons]
    refine clOf_keep ?_
    split
    · split
      · rw [List.lookup_cons]
        split
        · exact ⟨_, rfl⟩
        · exact h
      · exact h
    · exact h
theorem clOf_has {cells : List (Str × Addr)} : ∀ {names : List (Str × NameKind)} {cs : List (Str × Addr)} {x : Str}, (x, NameKind.free) ∈ names → (∃ c, cells.lookup x = some c) →
    ∃ c, (names.foldl (fun cs x => if x.2 == .free then (match cells.lookup x.1 with | some c => (x.1, c) :: cs | none => cs) else cs) cs).lookup x = some c
  | y :: names, cs, x, h, hc => by
    rw [List.foldl_cons]
    rcases List.mem_cons.mp h with h | h
    · subst h
      obtain ⟨c, e⟩ := hc
      refine clOf_keep ⟨c, ?_⟩
      simp [e]
    · exact clOf_has h hc
theorem closure_of {scope : Scope} {env : Env} (h : ∀ x, (x, NameKind.free) ∈ scope.names → ∃ c, env.cells.lookup x = some c) : closureFor scope env = pure (clOf scope.names env.cells) := by
  unfold closureFor clOf
  generalize hcs : ([] : List (Str × Addr)) = cs
  clear hcs
  show (do let r ← forIn scope.names cs _; pure r) = _
  have : ∀ (names : List (Str × NameKind)) (cs : List (Str × Addr)), (∀ x, (x, NameKind.free) ∈ names → ∃ c, env.cells.lookup x = some c) →
      (forIn names cs fun (x : Str × NameKind) (r : List (Str × Addr)) => (match x with | (name, kind) => if (kind == NameKind.free) = true then do let a ← cellOf env name; pure (ForInStep.yield ((name, a) :: r)) else pure (ForInStep.yield r) : Sem (ForInStep (List (Str × Addr))))) =
        pure (names.foldl (fun cs x => if x.2 == .free then (match env.cells.lookup x.1 with | some c => (x.1, c) :: cs | none => cs) else cs) cs) := by
    intro names
    induction names with
    | nil => intro cs _; rfl
    | cons y r ih =>
      intro cs h
      obtain ⟨n, k⟩ := y
      rw [List.forIn_cons, List.foldl_cons]
      have hr := fun cs => ih cs fun x hx => h x (List.mem_cons_of_mem _ hx)
      by_cases hk : k = .free
      · subst hk
        obtain ⟨c, e⟩ := h n List.mem_cons_self
        simp only [beq_self_eq_true, if_true, cellOf, e, pure_bind]
        exact hr _
      · have hb : (k == NameKind.free) = false := by simpa using hk
        simp only [hb, Bool.false_eq_true, if_false, pure_bind]
        exact hr _
  rw [this scope.names cs h]
  rfl

/-- the names of a block: its own ones none, those from around it by their places there -/
def subSt (js : List (Option Nat)) (σ : St) : St := js.map fun j => j.bind fun j => (σ[j]?).join
/-- N, oN: the names around, by place and by kind; sN: the block's kinds; N', js: its names, each with its place around where it is taken from there -/
def compOne (N : List Str) (oN sN : List (Str × NameKind)) (x : Str) : Option Nat → Bool
  | none => true
  | some j => decide (N[j]? = some x) && decide (oN.lookup x = some .cell) && decide (sN.lookup x = some .free)
def compOk (N : List Str) (oN sN : List (Str × NameKind)) : List Str → List (Option Nat) → Bool
  | [], [] => true
  | x :: N', j :: js => compOne N oN sN x j && compOk N oN sN N' js
  | [], _ :: _ => false
  | _ :: _, [] => false
theorem compOk_len {N : List Str} {oN sN : List (Str × NameKind)} : ∀ {N' : List Str} {js : List (Option Nat)}, compOk N oN sN N' js = true → N'.length = js.length
  | [], [], _ => rfl
  | x :: N', j :: js, h => by
    have h' : (compOne N oN sN x j && compOk N oN sN N' js) = true := h
    rw [Bool.and_eq_true] at h'
    simp [compOk_len h'.2]
  | [], _ :: _, h => nomatch h
  | _ :: _, [], h => nomatch h
theorem compOk_get {N : List Str} {oN sN : List (Str × NameKind)} : ∀ {N' : List Str} {js : List (Option Nat)} {i j : Nat}, compOk N oN sN N' js = true → js[i]? = some (some j) →
    ∃ x, N'[i]? = some x ∧ N[j]? = some x ∧ oN.lookup x = some .cell ∧ sN.lookup x = some .free
  | [], [], _, _, _, e => by simp at e
  | x :: N', k :: js, 0, j, h, e => by
    have h' : (compOne N oN sN x k && compOk N oN sN N' js) = true := h
    rw [Bool.and_eq_true] at h'
    simp at e
    subst e
    have h1 := h'.1
    simp only [compOne, Bool.and_eq_true, decide_eq_true_eq] at h1
    exact ⟨x, rfl, h1.1.1, h1.1.2, h1.2⟩
  | x :: N', k :: js, i + 1, j, h, e => by
    have h' : (compOne N oN sN x k && compOk N oN sN N' js) = true := h
    rw [Bool.and_eq_true] at h'
    obtain ⟨y, q, r⟩ := compOk_get (i := i) (j := j) h'.2 (by simpa using e)
    exact ⟨y, by simpa using q, r⟩
  | [], _ :: _, _, _, h, _ => nomatch h
  | _ :: _, [], _, _, h, _ => nomatch h

/-- the context of a block -/
def cxComp (X : Cx) (scope : Scope) (N' : List Str) (C : Addr) (fp : List Addr) (s₀ : Shared) (H₀ : Hp) : Cx where
  prog := X.prog
  w := X.w
  K := X.K
  mg := X.mg
  base := X.base
  A := X.A
  N := N'
  s₀ := s₀
  H₀ := H₀
  env := compEnvC scope (clOf scope.names X.env.cells) C X.env
  outer := X.stack
  stack := X.stack
  ex := fp
  fn := fun _ => false
  calm := true
  pn := []
  xe := fun _ _ => False

/-- the tests of a clause -/
def PTs (X : Cx) (ifs : List Expr) (t : TT) : Prop :=
  ∀ (pins : List (Addr × Obj)) (s : Shared) (σ : St) (H : Hp) (Q : Bool → Hp → Prop), Inv X pins σ H s → t σ H Q →
    wpAny (model X.prog X.w) X.A (forIn ifs true fun c r => if r = true then do let ok ← isTrue c X.env (eval c X.env); pure (ForInStep.yield ok) else pure (ForInStep.yield r)) (TP X pins σ Q) X.xe s
def tYes : TT := fun _ H Q => Q true H
section
variable {X : Cx}
theorem pts_nil : PTs X [] tYes := fun _ _ _ H _ I h => wpAny_tests_nil ⟨H, I, h⟩
theorem pts_one {c : Expr} {t : TT} (h : PT X c t) : PTs X [c] t := fun pins s σ H Q I q => wpAny_tests_one (h pins s σ H Q I q)
end

/-- the loop of a block -/
theorem comp_loop {prog : Program} {w : World} {A : Around} {R : Result → Shared → Prop} {s : Shared} {elt target iter : Expr} {ifs : List Expr} {scope : Scope} {pos : Pos} {it acc : Value} {env : Env} (I : Nat → Shared → Prop)
    (turn : ∀ n s, I n s → wpAny (model prog w) A (pyNext it) (fun r s₁ => match r with
      | none => R (.ok .next) s₁
      | some v => wpAny (model prog w) A (letOwnedTupleGo target it v) (fun _ s₁' => wpAny (model prog w) A (assign target env v) (fun _ s₂ =>
          wpAny (model prog w) A (forIn ifs true fun c r => if r = true then do let ok ← isTrue c env (eval c env); pure (ForInStep.yield ok) else pure (ForInStep.yield r)) (fun ok s₃ =>
            if ok = true then wpAny (model prog w) A (eval elt env) (fun x s₄ =>
              wpAny (model prog w) A (call (.builtin "list.append") [acc, x]) (fun _ s₅ => ∃ m, m < n ∧ I m s₅) (fun _ _ => False) s₄) (fun _ _ => False) s₃
            else ∃ m, m < n ∧ I m s₃) (fun _ _ => False) s₂) (fun _ _ => False) s₁') (fun _ _ => False) s₁) (fun _ _ => False) s)
    (n : Nat) (h : I n s) :
    codeAny (model prog w) A (.compLoop (.ListComp elt [⟨target, iter, ifs, 0⟩] scope pos) 0 it acc env) R s := by
  have no {E : Value → Shared → Prop} : ∀ (e : Value) (s' : Shared), False → E e s' := fun _ _ f => f.elim
  have one : ∀ (n : Nat) (s : Shared), I n s → _ := fun n s hI => turn n s hI
  refine codeAny_loop rfl I (fun n s hI => wpAny_noted ?_) n h
  rw [compTurn_list]
  refine wpAny_bind (wpAny_standAt ?_)
  refine wpAny_bind (wpAny_mono (one n s hI) (fun r s₁ h₁ => ?_) no)
  cases r with
  | none => exact wpAny_pure h₁
  | some v =>
    refine wpAny_bind (wpAny_mono h₁ (fun _ s₁' h₁' => ?_) no)
    refine wpAny_bind (wpAny_mono h₁' (fun _ s₂ h₂ => wpAny_bind (wpAny_mono h₂ (fun ok s₃ h₃ => ?_) no)) no)
    cases ok with
    | false => exact wpAny_pure ⟨rfl, h₃⟩
    | true => exact wpAny_bind (wpAny_bind (wpAny_mono h₃ (fun x s₄ h₄ => wpAny_bind (wpAny_mono h₄ (fun _ s₅ h₅ => wpAny_pure (wpAny_pure ⟨rfl, h₅⟩)) no)) no))

/-- what is wanted of a block: D the new list; W the invariant by the turn and a measure -/
def tBlock (J : It) (js : List (Option Nat)) (g : TG) (tt : TT) (te : TE) (σ : St) (H1 : Hp) (Q : VK) : Prop :=
  ∀ D, H1 D = none → ∃ W : Nat → Nat → St → Hp → Prop, (∃ m, W 0 m (subSt js σ) (upd H1 D (.lst []))) ∧ ∀ i m σ' H', W i m σ' H' →
    (J.stop i H' ∧ Q (.ref D) H') ∨ (J.go i H' ∧ ∃ N : St → Hp → Prop, (∀ σ2 H2, N σ2 H2 → ∃ m', m' < m ∧ W (i + 1) m' σ2 H2) ∧
      ∀ x H2, J.yld i H' x H2 → g x σ' H2 fun σ2 H3 => tt σ2 H3 fun ok H4 => if ok = true then te σ2 H4 fun y H5 => ∃ ys, H5 D = some (.lst ys) ∧ ys.length < sizeLine ∧ N σ2 (upd H5 D (.lst (ys ++ [y]))) else N σ2 H4)
def tComp (wi : TI) (js : List (Option Nat)) (g : TG) (tt : TT) (te : TE) : TE := fun σ H Q => wi σ H fun J H1 => tBlock J js g tt te σ H1 Q

section
variable {X : Cx} {tg iter elt : Expr} {ifs : List Expr} {scope : Scope} {pos : Pos} {N' : List Str} {js : List (Option Nat)} {g : TG} {tt : TT} {te : TE}
/-- the kinds of a block's names -/
structure BlkScope (X : Cx) (scope : Scope) (N' : List Str) (js : List (Option Nat)) : Prop where
  kind : scope.kind = .function
  nocell : ∀ x ∈ scope.names, x.2 ≠ .cell
  locs : ∀ x ∈ scope.names, x.2 = .local → scope.names.lookup x.1 = some .local
  frees : ∀ x ∈ scope.names, x.2 = .free → X.env.scope.names.lookup x.1 = some .cell
  ok : compOk X.N X.env.scope.names scope.names N' js = true

def blkB (N : List Str) (oN : List (Str × NameKind)) (scope : Scope) (N' : List Str) (js : List (Option Nat)) : Bool :=
  decide (scope.kind = .function) && (scope.names.all (fun x => decide (x.2 ≠ .cell)) && (scope.names.all (fun x => !decide (x.2 = .local) || decide (scope.names.lookup x.1 = some .local)) &&
    (scope.names.all (fun x => !decide (x.2 = .free) || decide (oN.lookup x.1 = some .cell)) && compOk N oN scope.names N' js)))
theorem BlkScope.of {N : List Str} {oN : List (Str × NameKind)} (h : blkB N oN scope N' js = true) (e1 : N = X.N := by rfl) (e2 : oN = X.env.scope.names := by rfl) : BlkScope X scope N' js := by
  subst e1 e2
  unfold blkB at h
  rw [Bool.and_eq_true, Bool.and_eq_true, Bool.and_eq_true, Bool.and_eq_true, decide_eq_true_iff, List.all_eq_true, List.all_eq_true, List.all_eq_true] at h
  obtain ⟨h1, h2, h3, h4, h5⟩ := h
  refine ⟨h1, fun x hx => by simpa using h2 x hx, fun x hx z => ?_, fun x hx z => ?_, h5⟩
  · have := h3 x hx
    simpa [z] using this
  · have := h4 x hx
    simpa [z] using this
theorem relabel_free {env : Env} {names : List (Str × NameKind)} {x : Str} (h : names.lookup x = some .free) (h1 : env.scope.kind = .function) (h2 : env.kindOf x = some .cell) :
    (names.map fun (n, k) => if (k == NameKind.free && env.scope.kind == .function && env.kindOf n == some .cell) then (n, NameKind.cell) else (n, k)).lookup x = some .cell := by
  induction names with
  | nil => exact nomatch h
  | cons y r ih =>
    obtain ⟨n, k⟩ := y
    rw [List.map_cons]
    by_cases hn : x = n
    · subst hn
      have hk : k = .free := by simpa [List.lookup_cons] using h
      subst hk
      simp [h1, h2, List.lookup_cons]
    · have b : (x == n) = false := beq_false_of_ne hn
      have up := ih (by simpa [List.lookup_cons, b] using h)
      dsimp only
      split <;> (rw [List.lookup_cons, b]; exact up)
theorem relabel_inv {env : Env} : ∀ {names : List (Str × NameKind)} {x : Str}, (∀ y ∈ names, y.2 ≠ .cell) →
    ((names.map fun (n, k) => if (k == NameKind.free && env.scope.kind == .function && env.kindOf n == some .cell) then (n, NameKind.cell) else (n, k)).lookup x = some .cell ∨
     (names.map fun (n, k) => if (k == NameKind.free && env.scope.kind == .function && env.kindOf n == some .cell) then (n, NameKind.cell) else (n, k)).lookup x = some .free) → (x, NameKind.free) ∈ names
  | [], _, _, h => by simp at h
  | (n, k) :: r, x, hn, h => by
    have ih := @relabel_inv env r x (fun y hy => hn y (List.mem_cons_of_mem _ hy))
    have hk := hn (n, k) List.mem_cons_self
    by_cases hx : x = n
    · subst hx
      by_cases hc : (k == NameKind.free && env.scope.kind == .function && env.kindOf x == some .cell) = true
      · have : k = .free := by
          have := (Bool.and_eq_true _ _ ▸ (Bool.and_eq_true _ _ ▸ hc).1).1
          simpa using this
        subst this
        exact List.mem_cons_self
      · rw [List.map_cons] at h
        simp only [if_neg hc] at h
        simp [List.lookup_cons] at h
        rcases h with h | h
        · exact absurd h hk
        · subst h; exact List.mem_cons_self
    · refine List.mem_cons_of_mem _ (ih ?_)
      rw [List.map_cons] at h
      have hb : (x == n) = false := by simpa using hx
      by_cases hc : (k == NameKind.free && env.scope.kind == .function && env.kindOf n == some .cell) = true
      · simp only [if_pos hc, List.lookup_cons, hb] at h; exact h
      · simp only [if_neg hc, List.lookup_cons, hb] at h; exact h

/-- an untracked object of ours that no one knows changes -/
theorem Inv.gone {pins : List (Addr × Obj)} {σ : St} {H : Hp} {s : Shared} {C : Addr} {h' : Heap} (I : Inv X pins σ H s) (hs : Heap.SameBut C s.heap h') (h : FpOk X pins H C) : Inv X pins σ H { s with heap := h' } :=
  I.turned (t' := s.toks) (it := C) (fun b o hb e => (hs.2 b hb).trans e) h.1 h.2.1 h.2.2.2.1 h.2.2.2.2.1 h.2.2.2.2.2

/-- the block has run: X's state again, the new list at D, the block's own dict at C -/
theorem comp_core {pins : List (Addr × Obj)} {σ : St} {H2 : Hp} {s2 : Shared} {J : It} {it : Addr} {fp : List Addr} {tn : Nat → Heap → Prop} {Q : VK} {E : Value → Shared → Prop} {RR : Value → Addr → Result → Shared → Prop}
    (B : BlkScope X scope N' js) (hc : X.calm = true)
    (hb : ∀ C fp s₀ H₀, PG (cxComp X scope N' C fp s₀ H₀) tg g ∧ PTs (cxComp X scope N' C fp s₀ H₀) ifs tt ∧ PE (cxComp X scope N' C fp s₀ H₀) elt te)
    (I2 : Inv X pins σ H2 s2) (T : Turn X.prog X.w X.K tg J fp it tn) (st2 : tn 0 s2.heap) (f2 : ∀ b ∈ fp, FpOk X pins H2 b) (h : tBlock J js g tt te σ H2 Q)
    (hR : ∀ D C s' H' m, Inv X pins σ H' s' → s'.heap.Ns C m → FpOk X pins H' C → Q (.ref D) H' → RR (.ref D) C (.ok .next) s') :
    wpAny (model X.prog X.w) X.A (newList []) (fun acc s₃ => wpAny (model X.prog X.w) X.A (newFunctionEnv scope X.env.globals (clOf scope.names X.env.cells) [] X.env.qual none .none (some X.env)) (fun cenv s₄ =>
      codeAny (model X.prog X.w) X.A (.compStart (.ListComp elt [⟨tg, iter, ifs, 0⟩] scope pos) 0 (.ref it) acc { cenv with scope := relabel scope X.env }) (RR acc cenv.locals) s₄) E s₃) E s2 := by
  have hD0 : H2 s2.heap.objs.size = none := I2.hok.fresh (Nat.le_refl _)
  obtain ⟨W, ⟨m0, w0⟩, turn⟩ := h s2.heap.objs.size hD0
  have I3 : Inv X pins σ (upd H2 s2.heap.objs.size (.lst [])) { s2 with heap := s2.heap.push { cls := .type "list", dict := none, data := .seq ([] : List Value).toArray } } :=
    I2.laid (t' := s2.toks) (fun b u e => Heap.get?_push_of_some _ e) (Nat.le_refl _) (show ObjOk X.prog X.w _ _ _ (.lst []) from ⟨Nat.zero_le _, [], 0, .nil, Heap.get?_push_size _ rfl⟩)
  refine wpAny_newObj_type (wpAny_newFunctionEnv B.nocell (by intro y hy; simp at hy) (fun h₁ hns₁ hsb₁ => ?_) B.kind)
  dsimp only at hns₁ hsb₁ ⊢
  generalize hs3 : ({ s2 with heap := s2.heap.push { cls := .type "list", dict := none, data := .seq ([] : List Value).toArray } } : Shared) = s3 at I3
  generalize hH3 : upd H2 s2.heap.objs.size (.lst []) = H3 at I3 w0
  generalize hD : s2.heap.objs.size = D at w0 turn hD0 hH3
  have e3 : s2.heap.push { cls := .type "list", dict := none, data := .seq ([] : List Value).toArray } = s3.heap := by rw [← hs3]
  have hDs : D < s3.heap.objs.size := by rw [← e3, Heap.size_push, hD]; exact Nat.lt_succ_self _
  rw [e3] at hns₁ hsb₁ ⊢
  have et : s2.toks = s3.toks := by rw [← hs3]
  generalize hC : s3.heap.objs.size = C at hns₁ hsb₁ ⊢
  -- all that stood is kept
  have kept : ∀ b o, s3.heap.get? b = some o → h₁.get? b = some o := fun b o e =>
    (hsb₁.2 b (by rw [← hC]; exact Nat.ne_of_lt (Heap.lt_size e))).trans (Heap.get?_push_of_some _ e)
  have hfn : ∀ x c, (clOf scope.names X.env.cells).lookup x = some c → X.env.cells.lookup x = some c := fun x c e => by
    rcases clOf_mem e with e | e
    · simp at e
    · exact e
  have okind : X.env.scope.kind = .function := I2.ok.kind
  have hcells : ∀ x, (x, NameKind.free) ∈ scope.names → ∃ c, X.env.cells.lookup x = some c := fun x hx =>
    I2.ok.has x (.inl (B.frees _ hx rfl))
  -- the iterator's objects are old
  have flt : ∀ b ∈ fp, b < s2.heap.objs.size := fun b hb => by
    obtain ⟨o, e, _⟩ := T.obj _ _ st2 b hb
    exact Heap.lt_size e
  have f3 : ∀ b ∈ fp, FpOk X pins H3 b := fun b hb => ⟨by rw [← hH3, upd_ne (by rw [← hD]; exact Nat.ne_of_lt (flt b hb))]; exact (f2 b hb).1, (f2 b hb).2⟩
  have flt3 : ∀ b ∈ fp, b < C := fun b hb => by
    rw [← hC, ← e3, Heap.size_push]; exact Nat.lt_succ_of_lt (flt b hb)
  let X' : Cx := cxComp X scope N' C fp s3 H3
  have Ok' : X'.Ok := by
    refine ⟨I3.ok.mod, B.kind, I3.ok.glob, I3.ok.blt, Nat.le_of_eq hC, fun x y c h1 h2 => I3.ok.inj x y c (hfn x c h1) (hfn y c h2), fun x hx => ?_, (fun x c z => nomatch z), fun _ => I3.ok.hd hc, I3.ok.frames, .inl rfl,
      fun b hb => ⟨Nat.ne_of_lt (flt3 b hb), fun x c e => (f3 b hb).2.2.2.2.1 x c (hfn x c e)⟩, I3.bs, Nat.le_trans I3.ok.bsz I3.sz, fun b o e hb => ?_, fun b hb hf => ?_, I3.stack, I3.stkFree⟩
    · have hx' : (x, NameKind.free) ∈ scope.names := relabel_inv B.nocell hx
      exact clOf_has hx' (hcells x hx')
    · obtain ⟨_, _, _, h4, _⟩ := f3 b hb
      rcases h4 with h4 | h4
      · exact I3.ok.noex b o e h4
      · exact absurd (Nat.lt_of_lt_of_le (Nat.lt_of_lt_of_le (Heap.lt_size e) I3.ok.bsz) h4) (Nat.lt_irrefl _)
    · rcases List.mem_cons.mp (I3.stkSub b hf) with z | z
      · exact (f3 b hb).2.1 z
      · exact (f3 b hb).2.2.1 z
  have hfreshC : H3 C = none := I3.hok.fresh (Nat.le_of_eq hC)
  have I4 : Inv X' [] (subSt js σ) H3 { s3 with heap := h₁, toks := s3.toks + ([] : List (Str × Value)).length } := by
    refine ⟨Ok', rfl, I3.bare, Un.kept kept, ⟨_, hns₁, fun i x v e1 e2 e3 => ?_⟩, fun x c e => ?_, hfreshC, fun x c e => I3.freeC x c (hfn x c e), fun p hp => absurd (show p ∈ ([] : List (Addr × Obj)) from hp) (by simp), I3.hok.kept kept, ?_⟩
    · -- a name from around
      have ej : ∃ j, js[i]? = some (some j) ∧ σ[j]? = some (some v) := by
        unfold subSt at e2
        rw [List.getElem?_map] at e2
        cases q : js[i]? with
        | none => rw [q] at e2; cases e2
        | some j =>
          rw [q] at e2
          cases j with
          | none => simp at e2
          | some j =>
            refine ⟨j, rfl, ?_⟩
            simp at e2
            cases q2 : σ[j]? with
            | none => rw [q2] at e2; simp at e2
            | some o => rw [q2] at e2; simp at e2; rw [e2]
      obtain ⟨j, q1, q2⟩ := ej
      obtain ⟨y, z1, z2, z3, z4⟩ := compOk_get B.ok q1
      have hy : y = x := by
        have e1' : N'[i]? = some x := e1
        rw [z1] at e1'; exact Option.some.inj e1'
      subst hy
      obtain ⟨m, hn, hl⟩ := I3.loc
      obtain ⟨u, r, l⟩ := hl j y v z2 q2 (.inr (.inl z3))
      refine ⟨u, r, .inr ?_⟩
      rcases l with ⟨k, _⟩ | ⟨k, c, ec, z⟩
      · have : X.env.kindOf y = some .cell := z3
        rw [this] at k; cases k
      · have hfree : (y, NameKind.free) ∈ scope.names := PySem.mem_of_lookup z4
        obtain ⟨c', ec'⟩ := clOf_has (cs := []) hfree ⟨c, ec⟩
        have : c' = c := by have := hfn y c' ec'; rw [ec] at this; exact (Option.some.inj this).symm
        subst this
        refine ⟨.inl (relabel_free z4 okind z3), c', ec', ?_⟩
        obtain ⟨o, ho, hd⟩ := z
        exact ⟨o, kept _ o ho, hd⟩
    · obtain ⟨v, o, ho, hd⟩ := I3.cell x c (hfn x c e)
      exact ⟨v, o, kept _ o ho, hd⟩
    · unfold subSt
      rw [List.length_map]
      exact (compOk_len B.ok).symm
  obtain ⟨hg, htt, hte⟩ := hb C fp s3 H3
  have stat : ∀ {H' : Hp}, (∀ b ∈ fp, H' b = none) → ∀ b ∈ fp, FpOk X' [] H' b := fun hn b hb =>
    ⟨hn b hb, Nat.ne_of_lt (flt3 b hb), fun z => by
      rcases List.mem_cons.mp (I3.stkSub b z) with z | z
      · exact (f3 b hb).2.1 z
      · exact (f3 b hb).2.2.1 z, .inl hb, fun x c e => (f3 b hb).2.2.2.2.1 x c (hfn x c e), fun p hp => absurd (show p ∈ ([] : List (Addr × Obj)) from hp) (by simp)⟩
  have st4 : tn 0 h₁ := T.keep _ _ _ st2 fun b hb o e => kept b o (by rw [← e3]; exact Heap.get?_push_of_some _ e)
  have loop : ∀ s₃ : Shared, s₃ = { s2 with heap := h₁, toks := s2.toks + ([] : List (Str × Value)).length } →
      codeAny (model X.prog X.w) X.A (.compLoop (.ListComp elt [⟨tg, iter, ifs, 0⟩] scope pos) 0 (.ref it) (.ref D) X'.env) (RR (.ref D) C) s₃ := by
    rintro s₃ rfl
    refine comp_loop (fun n s' => ∃ i σ' H', Inv X' [] σ' H' s' ∧ tn i s'.heap ∧ (∀ b ∈ fp, H' b = none) ∧ W i n σ' H') ?_ m0 ⟨0, subSt js σ, H3, ?_, st4, fun b hb => (f3 b hb).1, w0⟩
    · rintro n s5 ⟨i, σ5, H5, I5, st5, fr5, w5⟩
      rcases turn i n σ5 H5 w5 with ⟨stop, qn⟩ | ⟨go, N, hN, step⟩
      · refine thn (T.done X' rfl rfl rfl rfl i [] s5 σ5 H5 X'.xe I5 (stat fr5) st5 stop) fun r s6 ⟨hr, I6⟩ => ?_
        subst hr
        obtain ⟨m, hn6, _⟩ := I6.loc
        have Ib : Inv X pins σ H5 s6 := by
          exact I3.call' (ch := fp) I6.os I6.base I6.hok I6.bare fun b hb => ⟨(f3 b hb).2.2.2.1, (f3 b hb).2.1, (f3 b hb).2.2.2.2.1, (f3 b hb).2.2.2.2.2⟩
        refine hR D C s6 H5 m Ib hn6 ?_ qn
        have hC3 : s3.heap.objs.size ≤ C := Nat.le_of_eq hC
        exact I3.fpOk hC3 I6.free
      · refine thn (T.item X' rfl rfl rfl rfl i [] s5 σ5 H5 X'.xe I5 (stat fr5) st5 go) fun r s6 ⟨u, hr, h6⟩ => ?_
        subst hr
        refine thn h6 fun _ s7 ⟨x, H7, I7, r7, y7, st7, fr7⟩ => ?_
        have I7' := I7.pinned (stat fr7) (T.obj _ _ st7)
        refine thn (hg _ s7 σ5 H7 x u _ I7' r7 (step x H7 y7)) fun _ s8 ⟨σ8, H8, I8, q8⟩ => ?_
        have again : ∀ {σ9 : St} {H9 : Hp} {s9 : Shared}, Inv X' ([] ++ pinsAt fp s7.heap) σ9 H9 s9 → N σ9 H9 → ∃ m, m < n ∧ ∃ i σ' H', Inv X' [] σ' H' s9 ∧ tn i s9.heap ∧ (∀ b ∈ fp, H' b = none) ∧ W i m σ' H' := fun {σ9 H9 s9} I9 n9 => by
          obtain ⟨m', hm, w9⟩ := hN σ9 H9 n9
          refine ⟨m', hm, i + 1, σ9, H9, I9.unpinned, T.keep _ _ _ st7 fun b hb o e => (I9.pin (b, o) (List.mem_append_right _ (List.mem_append_right _ (mem_pinsAt hb e)))).1, fun b hb => ?_, w9⟩
          obtain ⟨o, e, d⟩ := T.obj _ _ st7 b hb
          exact (I9.pin (b, o) (List.mem_append_right _ (List.mem_append_right _ (mem_pinsAt hb e)))).2.1
        refine thn (htt _ s8 σ8 H8 _ I8 q8) fun ok s9 ⟨H9, I9, q9⟩ => ?_
        cases ok with
        | false => exact again I9 q9
        | true =>
          refine thn (hte _ s9 σ8 H9 _ I9 q9) fun v s10 ⟨y, H10, I10, ry, ys, hys, hlen, n10⟩ => ?_
          refine thn (mt_append (X := X') _ s10 σ8 H10 (.ref D) [y] (.ref D) [v] (fun z H' => N σ8 H') I10 rfl (.cons ry .nil) ⟨D, ys, y, rfl, rfl, hys, hlen, n10⟩) fun _ s11 ⟨_, H11, I11, _, n11⟩ => again I11 n11
    · have e : ({ s2 with heap := h₁, toks := s2.toks + ([] : List (Str × Value)).length } : Shared) = { s3 with heap := h₁, toks := s3.toks + ([] : List (Str × Value)).length } := by rw [← hs3]
      rw [e]
      exact I4
  exact codeAny_compStart_list (loop _ rfl) (T.self X.A 0 _ _ _ st4 (loop _ rfl))

/-- [elt for tg in iter if c] -/
theorem pe_comp {wi : TI} (B : BlkScope X scope N' js) (hc : X.calm = true) (hi : PI X tg iter wi)
    (hb : ∀ C fp s₀ H₀, PG (cxComp X scope N' C fp s₀ H₀) tg g ∧ PTs (cxComp X scope N' C fp s₀ H₀) ifs tt ∧ PE (cxComp X scope N' C fp s₀ H₀) elt te)
    (hs : ∀ x, foldedSetIterable iter X.env x = pure x := by intro _; rfl) : PE X (.ListComp elt [⟨tg, iter, ifs, 0⟩] scope pos) (tComp wi js g tt te) := by
  intro pins s σ H Q I h
  rw [eval_ListComp]
  have hcells : ∀ x, (x, NameKind.free) ∈ scope.names → ∃ c, X.env.cells.lookup x = some c := fun x hx => I.ok.has x (.inl (B.frees _ hx rfl))
  refine wpAny_comprehension_free (use := none) rfl hs (closure_of hcells) B.kind B.locs (thn (hi pins s σ H _ I h) fun v s1 h1 => thn h1 fun itv s2 h2 => ?_)
  obtain ⟨it, fp, tn, J, H2, e, I2, T, st2, f2, hR⟩ := h2
  subst e
  refine comp_core (RR := fun acc C => compPost (model X.prog X.w) X.A X.xe none (EP X pins σ Q) acc C) B hc hb I2 T st2 f2 hR ?_
  intro D C s' H' m I' hn hf q
  exact ⟨m, hn, fun h' hs' => ⟨.ref D, H', I'.gone hs' hf, rfl, q⟩⟩
/-- y = [elt for tg in iter if c] -/
theorem ps_setC {wi : TI} {i : Nat} {y : Str} {py spos : Pos} (B : BlkScope X scope N' js) (hc : X.calm = true) (hi : PI X tg iter wi)
    (hb : ∀ C fp s₀ H₀, PG (cxComp X scope N' C fp s₀ H₀) tg g ∧ PTs (cxComp X scope N' C fp s₀ H₀) ifs tt ∧ PE (cxComp X scope N' C fp s₀ H₀) elt te)
    (hN : X.N.Nodup) (hy : X.N[i]? = some y) (hx : Loc X.env.scope y)
    (hsw : swapsWith (.ListComp elt [⟨tg, iter, ifs, 0⟩] scope pos) (some (.Name y py)) spos.line X.env = pure true := by rfl)
    (hs : ∀ x, foldedSetIterable iter X.env x = pure x := by intro _; rfl) (hf : X.fn y = true ∨ X.env.scope.names.lookup y = some .local := by first | exact .inl rfl | exact .inr rfl) :
    PS X (.Assign [.Name y py] (.ListComp elt [⟨tg, iter, ifs, 0⟩] scope pos) spos) (tAsg (tComp wi js g tt te) (gName i)) := by
  intro pins s σ H D I h
  have hcells : ∀ x, (x, NameKind.free) ∈ scope.names → ∃ c, X.env.cells.lookup x = some c := fun x hx => I.ok.has x (.inl (B.frees _ hx rfl))
  rw [exec_Assign_Name_used _ _ _ _ hsw]
  refine wpAny_bind (wpAny_standAt (wpAny_bind ?_))
  show wpAny _ X.A (do let _ ← comprehension (.ListComp elt [⟨tg, iter, ifs, 0⟩] scope pos) scope X.env _ (newList []) false (eval iter X.env) (some (assign (.Name y py) X.env))) _ _ s
  refine wpAny_bind (wpAny_mono (wpAny_comprehension_free (use := some (assign (.Name y py) X.env)) (Q := fun _ s' => SP X pins D .next s') rfl hs (closure_of hcells) B.kind B.locs
    (thn (hi pins s σ H _ I h) fun v s1 h1 => thn h1 fun itv s2 h2 => ?_)) (fun _ s' hq => wpAny_pure (wpAny_pure hq)) fun _ _ e => e)
  obtain ⟨it, fp, tn, J, H2, e, I2, T, st2, f2, hR⟩ := h2
  subst e
  refine comp_core (RR := fun acc C => compPost (model X.prog X.w) X.A X.xe (some (assign (.Name y py) X.env)) (fun _ s' => SP X pins D .next s') acc C) B hc hb I2 T st2 f2 hR ?_
  intro L C s' H' m I' hn hfp q
  show wpAny _ X.A (assign (.Name y py) X.env (.ref L)) _ _ _
  refine wpAny_assign_Name (store_ok2 I' hN hy hx (show RelV (.ref L) (.ref L) from rfl) (fun s'' I'' ⟨a, hs'', ha⟩ => ?_) hf)
  have hCa : C ≠ a := by
    rcases ha with ha | ha
    · rw [ha]; exact hfp.2.1
    · exact (hfp.2.2.2.2.1 y a ha).symm
  exact ⟨m, hn.sameBut hs'' hCa, fun h' hs' => ⟨_, H', I''.gone hs' hfp, q⟩⟩
end
end L2


set_option Elab.async false
set_option linter.all false
set_option maxRecDepth 100000
set_option maxHeartbeats 4000000
namespace L2
open PySem PySem.Spec PyProof.Rows
/-! ### the heap grows: what stood stands, a dict may have been shut -/
def Ext (H H' : Hp) : Prop := ∀ b o, H b = some o → H' b = some o ∨ ((∃ kvs, o = .dK kvs) ∧ ∃ ob, H' b = some (.frz ob o))
section
variable {H H1 H2 : Hp} {a b l : Addr} {o : HO} {xs : List V} {K : PySem.W.Frag}
theorem Ext.refl (H : Hp) : Ext H H := fun _ _ h => .inl h
theorem Ext.trans (x : Ext H H1) (y : Ext H1 H2) : Ext H H2 := fun b o h => by
  rcases x b o h with h1 | ⟨⟨kvs, e⟩, ob, h1⟩
  · exact y b o h1
  · rcases y b _ h1 with h2 | ⟨⟨kvs', e'⟩, _⟩
    · exact .inr ⟨⟨kvs, e⟩, ob, h2⟩
    · cases e'
theorem Ext.keep (x : Ext H H1) (h : H b = some o) (hn : ∀ kvs, o ≠ .dK kvs) : H1 b = some o := by
  rcases x b o h with h1 | ⟨⟨kvs, e⟩, _⟩
  · exact h1
  · exact absurd e (hn kvs)
theorem Ext.lst (x : Ext H H1) (h : H b = some (.lst xs)) : H1 b = some (.lst xs) := x.keep h fun _ e => nomatch e
theorem Ext.tup (x : Ext H H1) (h : H b = some (.tup xs)) : H1 b = some (.tup xs) := x.keep h fun _ e => nomatch e
theorem Ext.ins {C dx : Addr} {fs : List (Str × V)} (x : Ext H H1) (h : H b = some (.ins C dx fs)) : H1 b = some (.ins C dx fs) := x.keep h fun _ e => nomatch e
theorem Ext.free (x : Ext H H1) (h : H1 l = none) : H l = none := by
  cases q : H l with
  | none => rfl
  | some o =>
    rcases x l o q with h1 | ⟨_, ob, h1⟩
    · rw [h] at h1; cases h1
    · rw [h] at h1; cases h1
theorem Ext.new (h : H l = none) : Ext H (upd H l o) := fun b u e => .inl (by rw [upd_ne (ne_of_none e h)]; exact e)
theorem Ext.newer (x : Ext H H1) (h : H1 l = none) : Ext H (upd H1 l o) := x.trans (Ext.new h)
/-- a store at an address that was not there ahead -/
theorem Ext.over (x : Ext H H1) (h : H l = none) : Ext H (upd H1 l o) := fun b u e => by
  rw [upd_ne (ne_of_none e h)]; exact x b u e
theorem Ext.sqL (x : Ext H H1) (h : SqL K H a xs) : SqL K H1 a xs := by
  rcases h with (h | ⟨ob, h⟩) | h
  · exact .inl (.inl (x.lst h))
  · exact .inl (.inr ⟨ob, x.keep h fun _ e => nomatch e⟩)
  · exact .inr h
theorem Ext.sqT (x : Ext H H1) (h : SqT K H a xs) : SqT K H1 a xs := by
  rcases h with (h | ⟨ob, h⟩) | h
  · exact .inl (.inl (x.tup h))
  · exact .inl (.inr ⟨ob, x.keep h fun _ e => nomatch e⟩)
  · exact .inr h
theorem Ext.rdK {kvs : List (Key × V)} (x : Ext H H1) (h : Rd H a (.dK kvs)) : Rd H1 a (.dK kvs) := by
  rcases h with h | ⟨ob, h⟩
  · rcases x a _ h with h1 | ⟨_, ob, h1⟩
    · exact .inl h1
    · exact .inr ⟨ob, h1⟩
  · exact .inr ⟨ob, x.keep h fun _ e => nomatch e⟩
end

/-! ### what only grows the heap -/
def PureT (tt : TT) (σ : St) (H : Hp) (b : Bool) : Prop := ∀ Q : Bool → Hp → Prop, (∀ H', Ext H H' → Q b H') → tt σ H Q
def PureE (te : TE) (σ : St) (H : Hp) (Φ : V → Hp → Prop) : Prop := ∀ Q : VK, (∀ v H', Ext H H' → Φ v H' → Q v H') → te σ H Q

/-- all but lists and dicts stands as it stood -/
def Keep (H H' : Hp) : Prop := ∀ b o, H b = some o → (∀ xs, o ≠ .lst xs) → (∀ kvs, o ≠ .dK kvs) → H' b = some o
theorem Ext.kp {H H' : Hp} (x : Ext H H') : Keep H H' := fun _ _ h _ hn => x.keep h hn
theorem Keep.over {H : Hp} {D : Addr} {ys zs : List V} (h : H D = some (.lst ys)) : Keep H (upd H D (.lst zs)) := fun b o e hl _ => by
  have : b ≠ D := fun z => by subst z; rw [h] at e; cases e; exact hl _ rfl
  rw [upd_ne this]; exact e
theorem Paired.imp2 {α β : Type} {F G : α → β → Prop} (h : ∀ a b, F a b → G a b) : ∀ {xs : List α} {ys : List β}, Paired F xs ys → Paired G xs ys
  | _, _, .nil => .nil
  | _, _, .cons r t => .cons (h _ _ r) (Paired.imp2 h t)
/-- a block over things known by their number, each element pure: p the test, Φ the element -/
theorem block_pure {J : It} {n : Nat} {f : Nat → V} {tt : TT} {te : TE} {σ : St} {H1 : Hp} {Q : VK} {j0 : Option Nat} {jr : List (Option Nat)} (hn : n ≤ sizeLine)
    (hgo : ∀ i H', Ext H1 H' → i < n → J.go i H') (hyl : ∀ i H' x H2, Ext H1 H' → i < n → J.yld i H' x H2 → x = f i ∧ H2 = H') (hst : ∀ H', Ext H1 H' → J.stop n H')
    (p : Nat → Bool) (Φ : Nat → V → Hp → Prop) (hm : ∀ i v H' H2, Keep H' H2 → Φ i v H' → Φ i v H2)
    (htt : ∀ i H', Ext H1 H' → i < n → PureT tt (some (f i) :: subSt jr σ) H' (p i))
    (hte : ∀ i H', Ext H1 H' → i < n → p i = true → PureE te (some (f i) :: subSt jr σ) H' (Φ i))
    (hQ : ∀ D H' ys, H1 D = none → Ext H1 H' → H' D = some (.lst ys) → Paired (fun i y => Φ i y H') ((List.range n).filter p) ys → Q (.ref D) H') :
    tBlock J (j0 :: jr) (gName 0) tt te σ H1 Q := by
  intro D hD
  refine ⟨fun i m σ' H' => m = n - i ∧ i ≤ n ∧ (∃ y, σ' = y :: subSt jr σ) ∧ Ext H1 H' ∧ ∃ ys, H' D = some (.lst ys) ∧ Paired (fun i y => Φ i y H') ((List.range i).filter p) ys,
    ⟨n, by simp, Nat.zero_le _, ⟨_, rfl⟩, Ext.new hD, [], upd_same, .nil⟩, ?_⟩
  rintro i m σ' H' ⟨rfl, hi, ⟨y, rfl⟩, x, ys, hys, hp⟩
  by_cases hlt : i < n
  · refine .inr ⟨hgo i H' x hlt, fun σ2 H2 => (∃ y, σ2 = y :: subSt jr σ) ∧ Ext H1 H2 ∧ ∃ ys, H2 D = some (.lst ys) ∧ Paired (fun i y => Φ i y H2) ((List.range (i + 1)).filter p) ys, fun σ2 H2 h => ⟨n - (i + 1), by omega, rfl, hlt, h⟩, ?_⟩
    intro v H2 hy
    obtain ⟨rfl, rfl⟩ := hyl i H' v H2 x hlt hy
    refine htt i _ x hlt _ fun H4 x4 => ?_
    have er : (List.range (i + 1)).filter p = (List.range i).filter p ++ (if p i then [i] else []) := by
      rw [List.range_succ, List.filter_append]
      cases hpi : p i <;> simp [hpi]
    cases hpi : p i with
    | false =>
      rw [if_neg (by decide)]
      refine ⟨⟨_, rfl⟩, x.trans x4, ys, x4.lst hys, ?_⟩
      rw [er, hpi]
      simpa using Paired.imp2 (fun i y h => hm i y _ _ x4.kp h) hp
    | true =>
      rw [if_pos rfl]
      refine hte i _ (x.trans x4) hlt hpi _ fun w H5 x5 hw => ?_
      have hy5 := x5.lst (x4.lst hys)
      have hlen : ys.length = ((List.range i).filter p).length := hp.length.symm
      have hle : ((List.range i).filter p).length ≤ i := Nat.le_trans (List.length_filter_le _ _) (by simp)
      refine ⟨ys, hy5, by omega, ⟨_, rfl⟩, Ext.over ((x.trans x4).trans x5) hD, ys ++ [w], upd_same, ?_⟩
      rw [er, hpi]
      have k := Keep.over (zs := ys ++ [w]) hy5
      exact Paired.snoc (Paired.imp2 (fun i y h => hm i y _ _ k (hm i y _ _ (x4.trans x5).kp h)) hp) (hm i w _ _ k hw)
  · have e : i = n := by omega
    subst e
    exact .inl ⟨hst H' x, hQ D H' ys hD x hys hp⟩
/-- .. over a list -/
theorem block_list {K : PySem.W.Frag} {a : Addr} {xs : List V} {tt : TT} {te : TE} {σ : St} {H1 : Hp} {Q : VK} {j0 : Option Nat} {jr : List (Option Nat)} (hS : SqL K H1 a xs) (hn : xs.length ≤ sizeLine)
    (p : V → Bool) (Φ : V → V → Hp → Prop) (hm : ∀ x v H' H2, Keep H' H2 → Φ x v H' → Φ x v H2)
    (htt : ∀ x H', x ∈ xs → Ext H1 H' → PureT tt (some x :: subSt jr σ) H' (p x))
    (hte : ∀ x H', x ∈ xs → Ext H1 H' → p x = true → PureE te (some x :: subSt jr σ) H' (Φ x))
    (hQ : ∀ D H' ys, H1 D = none → Ext H1 H' → H' D = some (.lst ys) → Paired (fun x y => Φ x y H') (xs.filter p) ys → Q (.ref D) H') :
    tBlock (Itl K a) (j0 :: jr) (gName 0) tt te σ H1 Q := by
  have get : ∀ i, i < xs.length → ∃ x, xs[i]? = some x ∧ x ∈ xs ∧ xs.getD i .non = x := fun i hi => ⟨xs[i], by simp [hi], by simp, by simp [hi]⟩
  refine block_pure (n := xs.length) (f := fun i => xs.getD i .non) hn (fun i H' x hi => ?_) (fun i H' v H2 x hi hy => ?_) (fun H' x => ⟨xs, x.sqL hS, Nat.le_refl _⟩) (fun i => p (xs.getD i .non)) (fun i => Φ (xs.getD i .non)) (fun i => hm _) (fun i H' x hi => ?_) (fun i H' x hi hp => ?_) (fun D H' ys h1 h2 h3 h4 => hQ D H' ys h1 h2 h3 ?_)
  · obtain ⟨v, e, _⟩ := get i hi
    exact ⟨xs, v, x.sqL hS, e⟩
  · obtain ⟨v', e, _, e'⟩ := get i hi
    obtain ⟨h1, h2⟩ := hy
    have := h2 xs (x.sqL hS)
    rw [e] at this
    exact ⟨by rw [e']; exact (Option.some.inj this).symm, h1⟩
  · obtain ⟨v, e, hv, e'⟩ := get i hi
    rw [e']; exact htt v H' hv x
  · obtain ⟨v, e, hv, e'⟩ := get i hi
    rw [e'] at hp ⊢; exact hte v H' hv x hp
  · have e1 : xs = (List.range xs.length).map fun i => xs.getD i .non := by
      apply List.ext_getElem
      · simp
      · intro i h1 h2
        simp [List.getElem?_eq_getElem h1]
    have e2 : xs.filter p = ((List.range xs.length).filter fun i => p (xs.getD i .non)).map fun i => xs.getD i .non := by
      conv => lhs; rw [e1]
      rw [List.filter_map]
      rfl
    rw [e2]
    have : ∀ {is : List Nat} {ys : List V}, Paired (fun i y => Φ (xs.getD i .non) y H') is ys → Paired (fun x y => Φ x y H') (is.map fun i => xs.getD i .non) ys := by
      intro is ys h
      induction h with
      | nil => exact .nil
      | cons r _ ih => exact .cons r ih
    exact this h4
/-- .. by a function -/
theorem block_map {K : PySem.W.Frag} {a : Addr} {xs : List V} {tt : TT} {te : TE} {σ : St} {H1 : Hp} {Q : VK} {j0 : Option Nat} {jr : List (Option Nat)} (hS : SqL K H1 a xs) (hn : xs.length ≤ sizeLine)
    (p : V → Bool) (f : V → V)
    (htt : ∀ x H', x ∈ xs → Ext H1 H' → PureT tt (some x :: subSt jr σ) H' (p x))
    (hte : ∀ x H', x ∈ xs → Ext H1 H' → p x = true → PureE te (some x :: subSt jr σ) H' (fun v _ => v = f x))
    (hQ : ∀ D H', H1 D = none → Ext H1 H' → H' D = some (.lst ((xs.filter p).map f)) → Q (.ref D) H') :
    tBlock (Itl K a) (j0 :: jr) (gName 0) tt te σ H1 Q := by
  refine block_list hS hn p (fun x v _ => v = f x) (fun _ _ _ _ _ h => h) htt hte fun D H' ys h1 h2 h3 h4 => hQ D H' h1 h2 ?_
  have : ∀ {as : List V} {ys : List V}, Paired (fun x y => y = f x) as ys → ys = as.map f := by
    intro as ys h
    induction h with
    | nil => rfl
    | cons r _ ih => rw [r, ih]; rfl
  rw [h3, this h4]
/-- .. without a test -/
theorem block_map1 {K : PySem.W.Frag} {a : Addr} {xs : List V} {te : TE} {σ : St} {H1 : Hp} {Q : VK} {j0 : Option Nat} {jr : List (Option Nat)} (hS : SqL K H1 a xs) (hn : xs.length ≤ sizeLine) (f : V → V)
    (hte : ∀ x H', x ∈ xs → Ext H1 H' → PureE te (some x :: subSt jr σ) H' (fun v _ => v = f x))
    (hQ : ∀ D H', H1 D = none → Ext H1 H' → H' D = some (.lst (xs.map f)) → Q (.ref D) H') :
    tBlock (Itl K a) (j0 :: jr) (gName 0) tYes te σ H1 Q :=
  block_map hS hn (fun _ => true) f (fun _ H' _ _ Q h => h H' (Ext.refl _)) (fun x H' hx x1 _ => hte x H' hx x1) fun D H' h1 h2 h3 => hQ D H' h1 h2 (by rw [List.filter_eq_self.mpr (fun _ _ => rfl)] at h3; exact h3)
end L2


set_option Elab.async false
set_option linter.all false
set_option maxRecDepth 100000
set_option maxHeartbeats 4000000
namespace L2
open PySem PySem.Spec PyProof.Rows
/-! ### a walk over a dict's keys: the dict is shut meanwhile -/
section
variable {X : Cx} {pins : List (Addr × Obj)} {σ : St} {H : Hp} {s : Shared} {a : Addr} {kvs : List (Key × V)}
theorem Inv.shut {o : Obj} (I : Inv X pins σ H s) (h : H a = some (.dK kvs)) (e : s.heap.get? a = some o) : Inv X pins σ (upd H a (.frz o (.dK kvs))) s := by
  have hne : ∀ b u, H b = some u → (∀ kvs, u ≠ .dK kvs) → b ≠ a := fun b u q hn z => by subst z; rw [h] at q; cases q; exact hn _ rfl
  have un : Un X.fs [] H (upd H a (.frz o (.dK kvs))) s.heap s.heap :=
    ⟨fun b ob q _ _ _ => q, fun b ob q _ _ _ => ⟨ob.slots, q⟩, fun b ob q n _ => by rw [upd_ne (fun z => by subst z; rw [h] at n; cases n)]; exact n, fun b ob q _ => ⟨ob, q⟩,
      fun b xs q => by rw [upd_ne (hne b _ q fun _ z => nomatch z)]; exact q, fun b ob u q => by rw [upd_ne (hne b _ q fun _ z => nomatch z)]; exact q,
      fun b ps q => ⟨#[], by rw [upd_ne (hne b _ q fun _ z => nomatch z), q]; simp⟩⟩
  have hok : HOk X.prog X.w (upd H a (.frz o (.dK kvs))) s.heap := fun b u q => by
    have stay : ∀ {b u}, ObjOk X.prog X.w H s.heap b u → ObjOk X.prog X.w (upd H a (.frz o (.dK kvs))) s.heap b u := fun z =>
      z.stay (fun _ _ _ q => q) (fun c q => by rw [upd_ne (hne c _ q fun _ z => nomatch z)]; exact q) fun c xs q => by rw [upd_ne (hne c _ q fun _ z => nomatch z)]; exact q
    by_cases hb : b = a
    · subst hb
      rw [upd_same] at q
      cases q
      exact ⟨e, stay (I.hok _ _ h)⟩
    · rw [upd_ne hb] at q
      exact stay (I.hok b u q)
  exact I.un (h' := s.heap) (t' := s.toks) un hok

theorem key_rel {k : Key} {u : Value} (h : (mixKind X.prog X.w).is k u = true) : RelV (kV k) u := by
  rw [mixKind_is] at h
  rcases keyIs_shape h with ⟨i, t, rfl, rfl⟩ | ⟨x, t, rfl, rfl⟩
  · exact ⟨t, rfl⟩
  · exact ⟨t, rfl⟩
def Itd (a : Addr) (o : Obj) (kvs : List (Key × V)) : It :=
  ⟨fun i H => i < kvs.length ∧ H a = some (.frz o (.dK kvs)), fun i H x H' => H' = H ∧ ∃ p, kvs[i]? = some p ∧ x = kV p.1, fun i H => kvs.length ≤ i ∧ H a = some (.frz o (.dK kvs))⟩
theorem KV.get {κ : Type} : ∀ {kvs : List (κ × V)} {vs : List (κ × Value)} {i : Nat} {p : κ × V}, KV kvs vs → kvs[i]? = some p → ∃ u, vs[i]? = some (p.1, u) ∧ RelV p.2 u
  | _, _, _, _, .nil, e => by simp at e
  | _, (k, u) :: _, 0, _, .cons r _, e => by simp at e; subst e; exact ⟨u, by simp [r.1], r.2⟩
  | _, _, i + 1, p, .cons _ t, e => by
    obtain ⟨u, h1, h2⟩ := KV.get (i := i) (p := p) t (by simpa using e)
    exact ⟨u, by simpa using h1, h2⟩
theorem turn_dict {P : Program} {w : World} {K : PySem.W.Frag} {tg : Expr} {o : Obj} {es : Array DictEntry} {ep : Nat} (a it : Addr) (ho : o.data = .dict es ep) :
    Turn P w K tg (Itd a o kvs) [it] it (fun i h => h.IsKeyIter it a i kvs.length ep) where
  mem := by simp
  obj := fun i h st b hb => by
    have e : b = it := by simpa using hb
    subst e
    obtain ⟨ob, e, c, d⟩ := st
    exact ⟨ob, e, fun v z => by rw [d] at z; cases z⟩
  keep := fun i h h' st k => st.at fun o e => k it (by simp) o e
  item := by
    intro X hP hw hK hc i pins s σ H E I hf st hg
    subst hP hw hK
    obtain ⟨hi, hH⟩ := hg
    obtain ⟨eo, hz, hs, vs, kv, od⟩ := I.hok a _ hH
    have hl : kvs.length = vs.length := Paired.length kv
    obtain ⟨ob, es', ep', e', ex, d', r⟩ := id od
    rw [eo] at e'; cases e'
    rw [ho] at d'; cases d'
    have at' : s.heap.DictAt (mixKind X.prog X.w) a vs ep := ⟨o, es, eo, ex, ho, r⟩
    obtain ⟨p, hp⟩ : ∃ p, kvs[i]? = some p := ⟨kvs[i], by simp [hi]⟩
    obtain ⟨u, hu, ru⟩ := KV.get kv hp
    obtain ⟨f0, f1, f2, f3, f4, f5⟩ := hf it (by simp)
    refine wpAny_pyNext_dict_item (hl ▸ st) at' hu fun key h' hkey st' sb => ?_
    have I1 : Inv X pins σ H { s with heap := h' } := I.turned (t' := s.toks) (fun b o hb e => (sb.2 b hb).trans e) f0 f1 f3 f4 f5
    obtain ⟨ob, e, c, d⟩ := id st'
    exact ⟨key, rfl, go_of (s := { s with heap := h' }) e c d (by decide) ⟨kV p.1, H, I1, key_rel hkey, ⟨rfl, p, hp, rfl⟩, hl ▸ st', fun b hb => (hf b hb).1⟩⟩
  done := by
    intro X hP hw hK hc i pins s σ H E I hf st hg
    subst hP hw hK
    obtain ⟨hi, hH⟩ := hg
    obtain ⟨eo, hz, hs, vs, kv, od⟩ := I.hok a _ hH
    have hl : kvs.length = vs.length := Paired.length kv
    obtain ⟨ob, es', ep', e', ex, d', r⟩ := id od
    rw [eo] at e'; cases e'
    rw [ho] at d'; cases d'
    have at' : s.heap.DictAt (mixKind X.prog X.w) a vs ep := ⟨o, es, eo, ex, ho, r⟩
    obtain ⟨f0, f1, f2, f3, f4, f5⟩ := hf it (by simp)
    exact wpAny_pyNext_dict_end (I.ok.hd hc) (hl ▸ st) at' (by simp; omega) fun h' eb => ⟨rfl, I.turned (t' := s.toks) (fun b o hb e => eb b o hb e) f0 f1 f3 f4 f5⟩
  self := fun _ _ _ _ _ st h => wpAny_pyIter_keyiter st h
def iDict (tl : TE) : TI := fun σ H R => tl σ H fun x H1 => ∃ a kvs, x = .ref a ∧ Rd H1 a (.dK kvs) ∧ ∀ o H2, Ext H1 H2 → H2 a = some (.frz o (.dK kvs)) → (∀ b, b ≠ a → H2 b = H1 b) → R (Itd a o kvs) H2
theorem pi_dict {l tg : Expr} {tl : TE} (hl : PE X l tl) : PI X tg l (iDict tl) := by
  intro pins s σ H R I h
  refine thn (hl pins s σ H _ I h) fun v s1 ⟨x, H1, I1, r1, q1⟩ => ?_
  obtain ⟨a, kvs, e, rd, q⟩ := q1
  subst e
  cases r1
  have ⟨o, H2, I2, hH2, x2, ne2⟩ : ∃ o H2, Inv X pins σ H2 s1 ∧ H2 a = some (.frz o (.dK kvs)) ∧ Ext H1 H2 ∧ ∀ b, b ≠ a → H2 b = H1 b := by
    rcases rd with h | ⟨o, h⟩
    · obtain ⟨_, _, _, _, o, _, _, e, _⟩ := I1.hok a _ h
      refine ⟨o, _, I1.shut h e, upd_same, fun b u q2 => ?_, fun b hb => upd_ne hb⟩
      by_cases hb : b = a
      · subst hb
        rw [h] at q2
        cases q2
        exact .inr ⟨⟨_, rfl⟩, o, upd_same⟩
      · exact .inl (by rw [upd_ne hb]; exact q2)
    · exact ⟨o, H1, I1, h, Ext.refl _, fun _ _ => rfl⟩
  obtain ⟨eo, hz, hs, vs, kv, od⟩ := I2.hok a _ hH2
  have hll : kvs.length = vs.length := Paired.length kv
  obtain ⟨ob, es, ep, e', ex, d', r⟩ := id od
  rw [eo] at e'; cases e'
  have at' : s1.heap.DictAt (mixKind X.prog X.w) a vs ep := ⟨o, es, eo, ex, d', r⟩
  refine wpAny_pyIter_dict hs at' ?_
  refine ⟨s1.heap.objs.size, [s1.heap.objs.size], _, _, H2, rfl, I2.kept (t' := s1.toks) fun b o e => Heap.get?_push_of_some _ e, turn_dict (es := es) (ep := ep) a _ d', ?_, fun b hb => ?_, q o H2 x2 hH2 ne2⟩
  · rw [hll]
    exact ⟨_, Heap.get?_push_size _ rfl, rfl, rfl⟩
  · have e : b = s1.heap.objs.size := by simpa using hb
    subst e
    exact I2.fpOk (Nat.le_refl _) (I2.hok.fresh (Nat.le_refl _))
/-- .. a block over it -/
theorem block_dict {o : Obj} {tt : TT} {te : TE} {H1 : Hp} {Q : VK} {j0 : Option Nat} {jr : List (Option Nat)} (hS : H1 a = some (.frz o (.dK kvs))) (hn : kvs.length ≤ sizeLine)
    (p : Key → Bool) (f : Key → V)
    (htt : ∀ k H', k ∈ kvs.map (·.1) → Ext H1 H' → PureT tt (some (kV k) :: subSt jr σ) H' (p k))
    (hte : ∀ k H', k ∈ kvs.map (·.1) → Ext H1 H' → p k = true → PureE te (some (kV k) :: subSt jr σ) H' (fun v _ => v = f k))
    (hQ : ∀ D H', H1 D = none → Ext H1 H' → H' D = some (.lst (((kvs.map (·.1)).filter p).map f)) → Q (.ref D) H') :
    tBlock (Itd a o kvs) (j0 :: jr) (gName 0) tt te σ H1 Q := by
  have kp : ∀ {H'}, Ext H1 H' → H' a = some (.frz o (.dK kvs)) := fun x => x.keep hS fun _ z => nomatch z
  have get : ∀ i, i < kvs.length → ∃ q, kvs[i]? = some q ∧ q.1 ∈ kvs.map (·.1) ∧ (kvs.map (·.1)).getD i (.inl 0) = q.1 := fun i hi => ⟨kvs[i], by simp [hi], List.mem_map.mpr ⟨kvs[i], by simp, rfl⟩, by simp [hi]⟩
  refine block_pure (n := kvs.length) (f := fun i => kV ((kvs.map (·.1)).getD i (.inl 0))) hn (fun i H' x hi => ⟨hi, kp x⟩) (fun i H' v H2 x hi hy => ?_) (fun H' x => ⟨Nat.le_refl _, kp x⟩) (fun i => p ((kvs.map (·.1)).getD i (.inl 0))) (fun i v _ => v = f ((kvs.map (·.1)).getD i (.inl 0)))
    (fun _ _ _ _ _ h => h) (fun i H' x hi => ?_) (fun i H' x hi hp => ?_) (fun D H' ys h1 h2 h3 h4 => hQ D H' h1 h2 ?_)
  · obtain ⟨h1, q, e, hv⟩ := hy
    obtain ⟨q', e', _, e2⟩ := get i hi
    rw [e] at e'; cases e'
    exact ⟨by rw [hv, e2], h1⟩
  · obtain ⟨q, e, hq, e'⟩ := get i hi
    rw [e']; exact htt q.1 H' hq x
  · obtain ⟨q, e, hq, e'⟩ := get i hi
    rw [e'] at hp ⊢; exact hte q.1 H' hq x hp
  · have e1 : kvs.map (·.1) = (List.range kvs.length).map fun i => (kvs.map (·.1)).getD i (.inl 0) := by
      apply List.ext_getElem
      · simp
      · intro i h1 h2
        simp [List.getElem?_eq_getElem (show i < kvs.length by simpa using h1)]
    have e2 : (kvs.map (·.1)).filter p = ((List.range kvs.length).filter fun i => p ((kvs.map (·.1)).getD i (.inl 0))).map fun i => (kvs.map (·.1)).getD i (.inl 0) := by
      conv => lhs; rw [e1]
      rw [List.filter_map]
      rfl
    have : ∀ {is : List Nat} {ys : List V}, Paired (fun i y => y = f ((kvs.map (·.1)).getD i (.inl 0))) is ys → ys = (is.map fun i => (kvs.map (·.1)).getD i (.inl 0)).map f := by
      intro is ys h
      induction h with
      | nil => rfl
      | cons r _ ih => rw [r, ih]; rfl
    rw [h3, this h4, e2]
end
end L2


set_option Elab.async false
set_option linter.all false
set_option maxRecDepth 100000
set_option maxHeartbeats 4000000
namespace L2
open PySem PySem.Spec PyProof.Rows Tw
/-! ### slices of texts -/
def cutL {α : Type} (xs : List α) (lo hi : Option Int) : List α := (xs.drop (HT.sIx xs.length 0 lo)).take (HT.sIx xs.length xs.length hi - HT.sIx xs.length 0 lo)
theorem cutL_length {α : Type} (xs : List α) (lo hi : Option Int) : (cutL xs lo hi).length ≤ xs.length := by
  unfold cutL; rw [List.length_take, List.length_drop]; omega
theorem cutV_cutL (xs : List V) (lo hi : Option Int) : cutV xs lo hi = cutL xs lo hi := rfl
theorem filterMap_run {α : Type} : ∀ (xs : List α) (a n : Nat), ((List.range n).map fun k => a + k).filterMap (fun i => xs[i]?) = (xs.drop a).take n := by
  intro xs a n
  induction n generalizing a with
  | zero => simp
  | succ n ih =>
    rw [List.range_succ_eq_map, List.map_cons, List.filterMap_cons, List.map_map]
    have e : ((List.range n).map ((fun k => a + k) ∘ Nat.succ)) = (List.range n).map fun k => (a + 1) + k := by
      apply List.map_congr_left; intro k _; simp; omega
    rw [e, ih (a + 1), Nat.add_zero]
    cases h : xs[a]? with
    | none =>
      have := List.getElem?_eq_none_iff.mp h
      rw [List.drop_of_length_le this, List.drop_of_length_le (by omega)]
      simp
    | some x =>
      obtain ⟨h1, h2⟩ := List.getElem?_eq_some_iff.mp h
      rw [List.drop_eq_getElem_cons h1, List.take_succ_cons, h2]
theorem strIdx (lo hi : Option Int) (n : Nat) : Builtin.Str.strSliceIndices lo hi 1 n = (List.range (HT.sIx n n hi - HT.sIx n 0 lo)).map fun k => HT.sIx n 0 lo + k := by
  obtain ⟨h1, h2, h3⟩ := slice_bounds lo hi n
  have e : Builtin.Str.strSliceIndices lo hi 1 n = sliceRange (sliceBounds lo hi none n).1 (sliceBounds lo hi none n).2.1 (sliceBounds lo hi none n).2.2 := rfl
  rw [e, h1, h2, h3]
  unfold sliceRange
  simp only [show (1 : Int) > 0 by decide, if_true]
  have e2 : ((if ((HT.sIx n 0 lo : Nat) : Int) < ((HT.sIx n n hi : Nat) : Int) then (((HT.sIx n n hi : Nat) : Int) - ((HT.sIx n 0 lo : Nat) : Int) + 1 - 1) / 1 else 0 : Int)).toNat = HT.sIx n n hi - HT.sIx n 0 lo := by
    split <;> simp <;> omega
  rw [e2]
  apply List.map_congr_left
  intro k _
  omega
def IsPart.opt {v : Value} {o : Option Int} (p : IsPart v o) : ∃ q : Option (Int × Tok), v = partValue q ∧ q.map (·.1) = o := by
  cases p with
  | none => exact ⟨none, rfl, rfl⟩
  | int i t => exact ⟨some (i, t), rfl, rfl⟩
def rSlS : V → Option Int → Option Int → Hp → VK → Prop := fun x lo hi H Q => ∃ a, x = sv a ∧ a.length ≤ sizeLine ∧ Q (sv (cutL a lo hi)) H
section
variable {X : Cx}
theorem sl_str : SlR X rSlS := by
  intro pins s σ H x v vl vu lo hi sl Q I rx hs pl pu h
  obtain ⟨a, rfl, hz, q⟩ := h
  obtain ⟨t, rfl⟩ := rx
  obtain ⟨ql, rfl, el⟩ := IsPart.opt pl
  obtain ⟨qu, rfl, eu⟩ := IsPart.opt pu
  refine ⟨"str", _, PySem.F.slot_str_getitem.lookup, typeIs_str s _ t, ?_⟩
  refine wpAny_getItem_str_slice (l := ql) (u := qu) (st := none) hs rfl ?_
  have hp : ((slicePicked (st a) ql qu none).filterMap ((st a).cps[·]?)) = cutL a lo hi := by
    unfold slicePicked
    rw [el, eu, st_len]
    show (Builtin.Str.strSliceIndices lo hi 1 a.length).filterMap _ = _
    rw [strIdx]
    have : (fun i : Nat => (st a).cps[i]?) = fun i : Nat => a[i]? := by funext i; show (a.toArray)[i]? = a[i]?; simp
    rw [this, filterMap_run]
    rfl
  unfold sliceMade
  split
  · rename_i hc
    have hl : (slicePicked (st a) ql qu none).length = a.length := by
      have := (Bool.and_eq_true _ _ ▸ hc).2
      rw [st_len] at this
      simpa using this
    have hfull : cutL a lo hi = a := by
      have e : (slicePicked (st a) ql qu none).length = HT.sIx a.length a.length hi - HT.sIx a.length 0 lo := by
        unfold slicePicked
        rw [el, eu, st_len]
        show (Builtin.Str.strSliceIndices lo hi 1 a.length).length = _
        rw [strIdx, List.length_map, List.length_range]
      have h1 := HT.sIx_le a.length a.length (Nat.le_refl _) hi
      unfold cutL
      have h0 : HT.sIx a.length 0 lo = 0 ∨ a.length = 0 := by omega
      rcases h0 with h0 | h0
      · rw [h0, List.drop_zero, List.take_of_length_le (by omega)]
      · have : a = [] := List.eq_nil_of_length_eq_zero h0
        subst this; simp
    rw [hfull] at q
    exact ⟨sv a, H, I, ⟨t, rfl⟩, q⟩
  · show Made.post (.str ⟨_⟩) _ _
    rw [hp]
    exact ⟨by rw [show (⟨(cutL a lo hi).toArray⟩ : Str) = st (cutL a lo hi) from rfl, st_len]; exact Nat.le_trans (cutL_length a lo hi) hz, sv (cutL a lo hi), H, I.tok _, ⟨_, rfl⟩, q⟩

/-! ### == of lists of ints, of texts -/
def rEqLI (K : PySem.W.Frag) (neg : Bool) : R2 := fun x y H Q => ∃ (p q : Addr) (ns ms : List Int), x = .ref p ∧ y = .ref q ∧ SqL K H p (ns.map V.int) ∧ SqL K H q (ms.map V.int) ∧ Q (.bl (if neg then !decide (ns = ms) else decide (ns = ms))) H
theorem op_eqLI (hu : X.A.units + 64 < cLine) : OpR X (compareOp .Eq) (rEqLI X.K false) := by
  intro pins s σ H x y v u Q I rx ry h
  obtain ⟨p, q, ns, ms, rfl, rfl, hp, hq, k⟩ := h
  cases rx
  cases ry
  obtain ⟨its, r, pl, _⟩ := I.list hp
  obtain ⟨its', r', pl', _⟩ := I.list hq
  exact PySem.W.ke_eq_ints pl.isList pl'.isList (intsAre_of r) (intsAre_of r') hu ⟨.bl _, H, I, rfl, k⟩
theorem op_neLI (hu : X.A.units + 64 < cLine) : OpR X (compareOp .NotEq) (rEqLI X.K true) := by
  intro pins s σ H x y v u Q I rx ry h
  obtain ⟨p, q, ns, ms, rfl, rfl, hp, hq, k⟩ := h
  cases rx
  cases ry
  obtain ⟨its, r, pl, _⟩ := I.list hp
  obtain ⟨its', r', pl', _⟩ := I.list hq
  exact PySem.W.ke_ne_ints pl.isList pl'.isList (intsAre_of r) (intsAre_of r') hu ⟨.bl _, H, I, rfl, k⟩
/-! ### sorted, of fewer than 64 -/
theorem ints_vals : ∀ {ns : List Int} {us : List Value}, IntsAre us ns → Vals (ns.map V.int) us
  | _, _, .nil => .nil
  | _, _, .cons _ t r => .cons ⟨t, rfl⟩ (ints_vals r)
theorem strs_vals : ∀ {ss : List Str} {us : List Value}, StrsAre us ss → Vals (ss.map V.str) us
  | _, _, .nil => .nil
  | _, _, .cons _ t r => .cons ⟨t, rfl⟩ (strs_vals r)
theorem call_sorted_int : CallR X (.builtin "sorted") (fun xs H Q => ∃ (p : Addr) (ns : List Int), xs = [.ref p] ∧ SqL X.K H p (ns.map V.int) ∧ ns.length < 64 ∧
    ∀ (l : Addr) (ms : List Int), H l = none → ms.Perm ns → ms.Pairwise (· ≤ ·) → Q (.ref l) (upd H l (.lst (ms.map V.int)))) := by
  intro pins s σ H xs us Q I r h
  obtain ⟨p, ns, rfl, hp, h64, k⟩ := h
  obtain ⟨u, rfl, rx⟩ := vals1 r
  cases rx
  obtain ⟨its, r', pl, hz⟩ := I.list hp
  have hl : its.length = ns.length := by rw [← r'.length]; simp
  refine sorted_ints pl.isList (intsAre_of r') (by omega) fun out ms hI hP hS => ?_
  obtain ⟨e, he⟩ := sortedAll_at s.heap its out
  have hfr : H (s.heap.objs.size + 1) = none := I.hok.fresh (Nat.le_succ _)
  refine ⟨.ref (s.heap.objs.size + 1), _, I.laid (t' := s.toks) (o := .lst (ms.map V.int)) (fun b u e => sortedAll_old e) (Nat.le_succ _) ?_, rfl, k _ ms hfr hP hS⟩
  refine ⟨?_, out.toList, e, ints_vals hI, ?_⟩
  · rw [List.length_map, hP.length_eq]; simpa using hz
  · simpa using he
/-- the order of texts -/
theorem lt_cps : ∀ a b : W, ltCps a b = true ↔ a < b
  | [], [] => by simp [ltCps]
  | [], _ :: _ => by simp [ltCps]
  | _ :: _, [] => by simp [ltCps]
  | a :: r, b :: t => by
    rw [List.cons_lt_cons_iff, ltCps, Bool.or_eq_true, Bool.and_eq_true, decide_eq_true_iff, beq_iff_eq, lt_cps r t]
theorem le_cps (a b : W) : ltCps b a = false ↔ a ≤ b := by
  rw [← Bool.not_eq_true, lt_cps, List.not_lt]
theorem rising_pw : ∀ (l : List Str) (x : Str), risingS x l = true → (x :: l).Pairwise fun a b => a.cps.toList ≤ b.cps.toList := by
  intro l
  induction l with
  | nil => intro x _; exact .cons (by simp) .nil
  | cons y l ih =>
    intro x h
    have h' : (!ltCps y.cps.toList x.cps.toList && risingS y l) = true := h
    rw [Bool.and_eq_true, Bool.not_eq_true', le_cps] at h'
    have p := ih y h'.2
    refine .cons (fun z hz => ?_) p
    rcases List.mem_cons.mp hz with rfl | hz
    · exact h'.1
    · exact List.le_trans h'.1 ((List.pairwise_cons.mp p).1 z hz)
theorem call_sorted_str : CallR X (.builtin "sorted") (fun xs H Q => ∃ (p : Addr) (ws : List W), xs = [.ref p] ∧ SqL X.K H p (ws.map sv) ∧ ws.length < 64 ∧
    ∀ (l : Addr) (us : List W), H l = none → us.Perm ws → us.Pairwise (· ≤ ·) → Q (.ref l) (upd H l (.lst (us.map sv)))) := by
  intro pins s σ H xs us Q I r h
  obtain ⟨p, ws, rfl, hp, h64, k⟩ := h
  obtain ⟨u, rfl, rx⟩ := vals1 r
  cases rx
  obtain ⟨its, r', pl, hz⟩ := I.list hp
  have hl : its.length = ws.length := by rw [← r'.length]; simp
  refine sorted_strs pl.isList (strsAre_of r') (by omega) fun out ss hI hP hS => ?_
  obtain ⟨e, he⟩ := sortedAll_at s.heap its out
  have hfr : H (s.heap.objs.size + 1) = none := I.hok.fresh (Nat.le_succ _)
  have ess : ss = (ss.map fun s => s.cps.toList).map st := by
    rw [List.map_map]
    conv => lhs; rw [← List.map_id ss]
    exact List.map_congr_left fun a _ => (st_of a).symm
  have hP' : (ss.map fun s => s.cps.toList).Perm ws := by
    have := hP.map fun s : Str => s.cps.toList
    rw [List.map_map] at this
    have e : (ws.map ((fun s : Str => s.cps.toList) ∘ st)) = ws := by
      conv => rhs; rw [← List.map_id ws]
      exact List.map_congr_left fun a _ => st_cps a
    rw [e] at this
    exact this
  have hS' : (ss.map fun s => s.cps.toList).Pairwise (· ≤ ·) := by
    rw [List.pairwise_map]
    cases ss with
    | nil => exact .nil
    | cons x l => exact rising_pw l x hS
  refine ⟨.ref (s.heap.objs.size + 1), _, I.laid (t' := s.toks) (o := .lst ((ss.map fun s => s.cps.toList).map sv)) (fun b u e => sortedAll_old e) (Nat.le_succ _) ?_, rfl, k _ _ hfr hP' hS'⟩
  refine ⟨?_, out.toList, e, ?_, ?_⟩
  · rw [List.length_map, hP'.length_eq]; simpa using hz
  · have := strs_vals hI
    rw [ess] at this
    rw [List.map_map] at this ⊢
    simpa [Function.comp_def] using this
  · simpa using he
end
end L2


set_option Elab.async false
set_option linter.all false
set_option maxRecDepth 100000
set_option maxHeartbeats 4000000
namespace PySem
open PySem.Calls
theorem keys_no_list : typeLookup (.type "list") "keys" = pure none := by rw [typeLookup_type, builtinLookup_eq_fast]; kernel_rfl
theorem list_no_keys {prog : Program} {w : World} {A : Around} {E : Value → Shared → Prop} {s : Shared} {a : Addr} {o : Obj} {xs : Array Value} {k : Nat} {Q : Option Value → Shared → Prop}
    (ho : s.heap.get? a = some o) (oc : o.cls = .type "list") (od : o.data = .seq xs k) (on : o.dict = none) (hA : A.handled = none)
    (end' : ∀ h' tk e, Heap.NewExcOf s.heap h' e "AttributeError" → Q none { s with heap := h', toks := tk }) :
    wpAny (model prog w) A (getAttr? (.ref a) "keys") Q E s := by
  obtain ⟨c, dct, dat, sl⟩ := o
  simp only at oc od on
  subst oc od on
  obtain ⟨hp, g, d, tk, os⟩ := s
  have isL : ∀ tk', (⟨hp, g, d, tk', os⟩ : Shared).TypeIs (.ref a) "list" := fun _ => ⟨_, ho, rfl⟩
  have e1 := sub_AttributeError
  have e3 := F.slot_list_getattribute.lookup
  have e4 := F.slot_list_getattribute.bind (.ref a)
  have e5 := am_list_getattr_none
  unfold getAttr? getAttrBy? getAttrBy
  repeat (any_goals (first | assumption | exact isL _ | ((with_reducible show wpAny _ _ (call (Value.builtin "list.__getattribute__") _ _) _ _ _); refine call_meets F.slot_list_getattribute (isL _) am_entry_list_getattribute (F.args_list_getattribute_2 _ _) (meets_getattribute_miss_list a xs k sl "keys" _ keys_no_list (by decide +kernel) (by decide +kernel)) ⟨ho, hA, fun h' tk' e ne => ?_⟩) | wp_step))
  obtain ⟨t1, u1, at1⟩ := ne.there
  show wpAny _ A (getattributeRaised _ _ _ _ _ _ _) _ _ _
  unfold getattributeRaised
  repeat (any_goals (first | assumption | wp_step))
  exact end' _ _ _ ne.of

theorem upd_loop_entry : entryFor table "dict.update.loop" = some Builtin.«dict.update.loop» := entryFor_of_tree (by kernel_rfl)
theorem upd_loop_plain : plainId "dict.update.loop" = true := by decide +kernel
section
variable {prog : Program} {w : World} {K : Type} [DecidableEq K] {knd : KeyKind prog w K} {A : Around} {R : Result → Shared → Prop}
/-- the pairs of a list of 2-tuples go into a dict, one by one -/
theorem pairs_loop {I l d : Addr} {items : Array Value} (hA : A.handled = none) (n1 : l ≠ I) (n2 : d ≠ I) (n3 : l ≠ d) : ∀ (k i : Nat) (s : Shared) (acc ps : List (K × Value)) (tk0 : Tok), items.size - i = k → i ≤ items.size →
    s.heap.IsListIter I l i → s.heap.IsList l items → s.heap.DictOf knd d acc → ps.length = k → acc.length + ps.length ≤ sizeLine →
    (∀ j p, ps[j]? = some p → ∃ t key, items[i + j]? = some (.ref t) ∧ t ≠ I ∧ t ≠ d ∧ s.heap.IsTuple t #[key, p.2] ∧ knd.is p.1 key = true) →
    (∀ h' tk, h'.DictOf knd d (merged acc ps) → (∀ b o, b ≠ I → b ≠ d → s.heap.get? b = some o → h'.get? b = some o) → R (.ok (.ret .none)) { s with heap := h', toks := tk }) →
    codeAny (model prog w) A (.builtin "dict.update.loop" ⟨[.ref d, .ref I, .int i tk0, .none], []⟩) R s := by
  intro k
  induction k with
  | zero =>
    intro i s acc ps tk0 hk hi it il dd hl hz hps hR
    have hps0 : ps = [] := List.eq_nil_of_length_eq_zero hl
    subst hps0
    refine codeAny_builtin upd_loop_entry ?_
    rw [Around.under_plainId upd_loop_plain _]
    show wpAny _ A.in1 (pyNext (.ref I) >>= _) _ _ s
    refine wpAny_bind (wpAny_pyNext_list_end hA it il (by simp; omega) fun h' eb => ?_)
    refine wpAny_bind (wpAny_pure (wpAny_pure ?_))
    exact hR h' s.toks (dd.extBut eb n2) fun b o h1 _ e => eb b o h1 e
  | succ k ih =>
    intro i s acc ps tk0 hk hi it il dd hl hz hps hR
    cases ps with
    | nil => simp at hl
    | cons p ps =>
      obtain ⟨t, key, e1, e2, e3, e4, e5⟩ := hps 0 p rfl
      refine codeAny_builtin upd_loop_entry ?_
      rw [Around.under_plainId upd_loop_plain _]
      show wpAny _ A.in1 (pyNext (.ref I) >>= _) _ _ s
      refine wpAny_bind (wpAny_pyNext_list_item it il (by simpa using e1) fun h1 it1 sb1 => ?_)
      have tup1 : h1.IsTuple t #[key, p.2] := by
        obtain ⟨o, ho, r⟩ := e4
        exact ⟨o, (sb1.2 t e2).trans ho, r⟩
      obtain ⟨ot, hot, hct, nt, hdt⟩ := id tup1
      have isT : ({ s with heap := h1 } : Shared).TypeIs (.ref t) "tuple" := ⟨ot, hot, hct⟩
      refine wpAny_bind (wpAny_holding (wpAny_bind ?_))
      have got : wpAny (model prog w) A.in1 (Builtin.Dict.pairItems (.ref t)) (fun r s' => r = [key, p.2] ∧ s' = { s with heap := h1 }) (fun _ _ => False) { s with heap := h1 } := by
        unfold Builtin.Dict.pairItems
        refine wpAny_bind (wpAny_typeOf isT ?_)
        rw [if_pos (by decide)]
        unfold seqItems?
        refine wpAny_bind (wpAny_bind (wpAny_load hot ?_))
        rw [hdt]
        exact wpAny_pure (wpAny_pure ⟨rfl, rfl⟩)
      refine wpAny_tryCatch (wpAny_mono got (fun r s' hr => ?_) fun _ _ f => f.elim)
      obtain ⟨rfl, rfl⟩ := hr
      have dd1 : h1.DictOf knd d acc := dd.extBut sb1.extBut n2
      refine wpAny_holding (wpAny_dictSet_pairs (hsz := by simp at hz; omega) e5 dd1 fun h2 dd2 sb2 => ?_)
      refine wpAny_pure ⟨plainId_quiet upd_loop_plain _, ?_⟩
      have keep : ∀ b o, b ≠ I → b ≠ d → s.heap.get? b = some o → h2.get? b = some o := fun b o b1 b2 e => (sb2.2 b b2).trans ((sb1.2 b b1).trans e)
      refine ih (i + 1) { s with heap := h2, toks := s.toks + 1 } (stored acc p.1 p.2) ps _ (by omega) (by omega) ?_ ?_ dd2 (by simpa using hl) ?_ ?_ fun h' tk dd' kp => hR h' tk dd' fun b o b1 b2 e => kp b o b1 b2 (keep b o b1 b2 e)
      · exact it1.extBut sb2.extBut (Ne.symm n2)
      · exact (il.extBut sb1.extBut n1).extBut sb2.extBut n3
      · have : (stored acc p.1 p.2).length ≤ acc.length + 1 := by unfold stored; split <;> simp
        simp at hz; omega
      · intro j q hj
        obtain ⟨t', key', a1, a2, a3, a4, a5⟩ := hps (j + 1) q (by simpa using hj)
        refine ⟨t', key', by rw [show i + 1 + j = i + (j + 1) by omega]; exact a1, a2, a3, ?_, a5⟩
        obtain ⟨o, ho, r⟩ := a4
        exact ⟨o, keep t' o a2 a3 ho, r⟩
/-- dict(l), l a list of 2-tuples -/
theorem dict_of_pairs {E : Value → Shared → Prop} {s : Shared} {l : Addr} {items : Array Value} {ps : List (K × Value)} {Q : Value → Shared → Prop} (hA : A.handled = none) (il : PlainL s.heap l items)
    (hl : ps.length = items.size) (hz : ps.length ≤ sizeLine)
    (hps : ∀ (j : Nat) (p : K × Value), ps[j]? = some p → ∃ t key, items[j]? = some (.ref t) ∧ s.heap.IsTuple t #[key, p.2] ∧ knd.is p.1 key = true)
    (fin : ∀ h' tk, h'.DictOf knd s.heap.objs.size (merged [] ps) → (∀ b o, s.heap.get? b = some o → h'.get? b = some o) → Q (.ref s.heap.objs.size) { s with heap := h', toks := tk }) :
    wpAny (model prog w) A (call (.type "dict") [.ref l]) Q E s := by
  obtain ⟨ob, k0, ho, oc, on, od⟩ := il
  refine callType_codes (Q₁ := fun obj s₁ => obj = .ref s.heap.objs.size ∧ s₁ = { s with heap := s.heap.push { cls := .type "dict", data := .dict #[] } }) F.kt_called_dict (F.kt_typeCall_dict_1 _) F.entry_dict_init (kt_code_dict_new _ ⟨rfl, rfl⟩) ?_
  rintro obj s₁ ⟨rfl, rfl⟩
  have new0 : (s.heap.push { cls := .type "dict", data := .dict #[] }).DictOf knd s.heap.objs.size [] := Heap.DictOf.new s.heap
  have ho1 : (s.heap.push { cls := .type "dict", data := .dict #[] }).get? l = some ob := Heap.get?_push_of_some _ ho
  have ne1 : l ≠ s.heap.objs.size := Nat.ne_of_lt (Heap.lt_size ho)
  have isL : ({ s with heap := s.heap.push { cls := .type "dict", data := .dict #[] } } : Shared).TypeIs (.ref l) "list" := ⟨_, ho1, oc⟩
  refine ⟨new0.typeIs, F.args_dict_init_2 _ _, ?_⟩
  unfold Builtin.«dict.__init__» Builtin.Dict.selfAndRest
  refine wpAny_bind (wpAny_bind (wpAny_notOrdered_dict new0.typeIs (wpAny_of_eq (a := (s.heap.objs.size, [Value.ref l])) rfl ?_)))
  show wpAny _ _ (Builtin.Dict.updateFrom "dict.__init__" s.heap.objs.size (.ref l) [] .none) _ _ _
  unfold Builtin.Dict.updateFrom
  refine wpAny_bind (wpAny_typeOf isL ?_)
  rw [if_pos (by decide)]
  refine wpAny_bind (list_no_keys (s := { s with heap := s.heap.push { cls := .type "dict", data := .dict #[] } }) ho1 oc od on hA fun h1 tk1 e ne => ?_)
  rw [if_pos (show (none : Option Value).isNone = true from rfl)]
  refine wpAny_bind (wpAny_rule (wpAny_bind ?_))
  have kp1 : ∀ b o, s.heap.get? b = some o → h1.get? b = some o := fun b o q => ne.keeps b o (Heap.get?_push_of_some _ q)
  have il1 : h1.IsList l items := ⟨_, kp1 l _ ho, oc, _, od⟩
  refine wpAny_pyIter_list (s := { s with heap := h1, toks := tk1 }) il1 (wpAny_pure ⟨plainId_quiet upd_loop_plain _, ?_⟩)
  have dd1 : h1.DictOf knd s.heap.objs.size [] := by
    obtain ⟨o, es, ep, q, r⟩ := new0
    exact ⟨o, es, ep, ne.keeps _ o q, r⟩
  have lt1 : s.heap.objs.size < h1.objs.size := by
    obtain ⟨o, es, ep, q, r⟩ := dd1
    exact Heap.lt_size q
  have old : ∀ b o, s.heap.get? b = some o → b ≠ h1.objs.size ∧ b ≠ s.heap.objs.size := fun b o q => ⟨Nat.ne_of_lt (Heap.lt_size (kp1 b o q)), Nat.ne_of_lt (Heap.lt_size q)⟩
  refine pairs_loop (A := A.in1) (knd := knd) (items := items) hA (Nat.ne_of_lt (Heap.lt_size (kp1 l _ ho))) (Nat.ne_of_lt lt1) ne1 items.size 0 _ [] ps _ (by simp) (Nat.zero_le _) ?_ ?_ ?_ hl (by simpa using hz) ?_ ?_
  · exact ⟨_, Heap.get?_push_size _ rfl, rfl, rfl⟩
  · exact il1.push _
  · exact dd1.push _
  · intro j p hj
    obtain ⟨t, key, a1, a2, a3⟩ := hps j p hj
    obtain ⟨o, q, r⟩ := id a2
    exact ⟨t, key, by rw [Nat.zero_add]; exact a1, (old t o q).1, (old t o q).2, ⟨o, Heap.get?_push_of_some _ (kp1 t o q), r⟩, a3⟩
  · intro h' tk dd' kp
    exact ⟨rfl, fin h' tk dd' fun b o q => kp b o (old b o q).1 (old b o q).2 (Heap.get?_push_of_some _ (kp1 b o q))⟩
end
end PySem


set_option Elab.async false
set_option linter.all false
set_option maxRecDepth 100000
set_option maxHeartbeats 4000000
namespace L2
open PySem PySem.Spec PyProof.Rows Tw
section
variable {X : Cx}
theorem pairs_rel {pins : List (Addr × Obj)} {σ : St} {H : Hp} {s : Shared} (I : Inv X pins σ H s) : ∀ {ts : List Addr} {kvs : List (Key × V)}, Paired (fun t (kv : Key × V) => SqT X.K H t [kV kv.1, kv.2]) ts kvs →
    ∃ ps : List (Key × Value), KV kvs ps ∧ ∀ (j : Nat) (p : Key × Value), ps[j]? = some p → ∃ t key, ts[j]? = some t ∧ s.heap.IsTuple t #[key, p.2] ∧ (mixKind X.prog X.w).is p.1 key = true
  | _, _, .nil => ⟨[], .nil, fun j p e => by simp at e⟩
  | t :: ts, kv :: kvs, .cons h r => by
    obtain ⟨ps, q, f⟩ := pairs_rel I r
    obtain ⟨its, rv, it, _⟩ := I.tuple h
    obtain ⟨a, b, rfl, ra, rb⟩ := Vals.two rv
    refine ⟨(kv.1, b) :: ps, .cons ⟨rfl, rb⟩ q, fun j p e => ?_⟩
    cases j with
    | zero =>
      simp at e
      subst e
      exact ⟨t, a, rfl, it, kV_is ra⟩
    | succ j => simpa using f j p (by simpa using e)
theorem call_dict_pairs (hc : X.calm = true) : CallR X (.type "dict") (fun xs H Q => ∃ (p : Addr) (ts : List Addr) (kvs : List (Key × V)), xs = [.ref p] ∧ SqL X.K H p (ts.map V.ref) ∧
    Paired (fun t (kv : Key × V) => SqT X.K H t [kV kv.1, kv.2]) ts kvs ∧ ∀ d, H d = none → Q (.ref d) (upd H d (.dK (mergeK [] kvs)))) := by
  intro pins s σ H xs us Q I r h
  obtain ⟨p, ts, kvs, rfl, hp, hk, k⟩ := h
  obtain ⟨u, rfl, rx⟩ := vals1 r
  cases rx
  obtain ⟨its, rv, pl, hz⟩ := I.list hp
  obtain ⟨ps, kv, f⟩ := pairs_rel I hk
  have l1 : ts.length = its.length := by rw [← rv.length]; simp
  have l2 : kvs.length = ps.length := Paired.length kv
  have l3 : ts.length = kvs.length := hk.length
  have lz : ps.length ≤ sizeLine := by rw [← l2, ← l3]; simpa using hz
  have get : ∀ (j : Nat) (t : Addr), ts[j]? = some t → its[j]? = some (Value.ref t) := fun j t e => by
    obtain ⟨u, e1, e2⟩ := rv.get (i := j) (x := V.ref t) (by rw [List.getElem?_map, e]; rfl)
    rw [e1, show u = Value.ref t from e2]
  refine dict_of_pairs (knd := mixKind X.prog X.w) (I.ok.hd hc) pl (by simp; omega) lz (fun j p e => ?_) fun h' tk dd kp => ?_
  · obtain ⟨t, key, e1, e2, e3⟩ := f j p e
    exact ⟨t, key, by simpa using get j t e1, e2, e3⟩
  · have hfr : H s.heap.objs.size = none := I.hok.fresh (Nat.le_refl _)
    refine ⟨.ref s.heap.objs.size, _, I.laid (t' := tk) (o := .dK (mergeK [] kvs)) kp (Nat.le_refl _) ?_, rfl, k _ hfr⟩
    refine dk_new (vs := merged [] ps) ?_ ?_ (KV.merge kv .nil) dd
    · have := length_mergeK kvs []
      simp at this
      omega
    · have := I.big
      simpa using Nat.ne_of_gt this
end
end L2


set_option Elab.async false
set_option linter.all false
set_option maxRecDepth 100000
set_option maxHeartbeats 4000000
namespace L2
open PySem PySem.Spec PyProof.Rows Tw
/-! ### a def of the text, and what it promises, as its callers take it -/
/-- the def stands under its name -/
def Def (K : PySem.W.Frag) (mg : Str → Option Value) (x qual : Str) (st : Stmt) (ps : List Str) : Prop :=
  ∃ f fd, Fun K x qual st f fd ∧ mg x = some (.ref f) ∧ PySem.W.keepIn K (.ref f) = true ∧ Binds K fd ps []
/-- .. and keeps a promise -/
def Cal (P : Program) (w : World) (K : PySem.W.Frag) (mg : Str → Option Value) (base : Heap) (CX : CXT) (k : Nat) (x : Str) (ps : List Str) (sp : Sp) : Prop :=
  ∃ f fd, FnOk P w K mg base CX k f fd ps sp ∧ mg x = some (.ref f) ∧ PySem.W.keepIn K (.ref f) = true ∧ Binds K fd ps []
section
variable {X : Cx} {CX : CXT} {k : Nat} {x : Str} {ps : List Str} {sp : Sp} {E : XK} {p pos : Pos} {e : Expr} {es : List Expr} {t : TA}
theorem pe_callF (C : Cal X.prog X.w X.K X.mg X.base CX k x ps sp) (hr : Room k X.A) (ha : PA X (e :: es) t) (hx : Passes CX X E) (hg : Gl X x := by rfl) (hdb : (x == ("__debug__" : Str)) = false := by decide)
    (he : starEach (e :: es) X.env = (false, eval e X.env) :: starEach es X.env := by rfl) (hpl : (backTo pos (starEach es X.env)).any (·.1) = false := by rfl) : PE X (.Call (.Name x p) (e :: es) [] pos) (tCall sp [] E t) := by
  obtain ⟨f, fd, F, hm, hk, hb⟩ := C
  exact pe_call F hr hg hm hk hb .nil hx ha hdb he hpl
theorem Def.cal {P : Program} {w : World} {K : PySem.W.Frag} {mg : Str → Option Value} {base : Heap} {qual : Str} {st : Stmt} (D : Def K mg x qual st ps)
    (h : ∀ f fd, Fun K x qual st f fd → FnOk P w K mg base CX k f fd ps sp) : Cal P w K mg base CX k x ps sp := by
  obtain ⟨f, fd, F, hm, hk, hb⟩ := D
  exact ⟨f, fd, h f fd F, hm, hk, hb⟩
theorem Cal.mono {P : Program} {w : World} {K : PySem.W.Frag} {mg : Str → Option Value} {base : Heap} {j : Nat} (C : Cal P w K mg base CX j x ps sp) (h : j ≤ k) : Cal P w K mg base CX k x ps sp := by
  obtain ⟨f, fd, F, r⟩ := C
  exact ⟨f, fd, F.mono h, r⟩
end
/-! ### plain data -/
def IsDt (K : PySem.W.Frag) (H : Hp) (v : V) : Prop := ∃ n, TyOf K H v (.type n)
def isIntV : V → Bool | .int _ => true | .bl _ => true | _ => false
def isBoolV : V → Bool | .bl _ => true | _ => false
def isStrV : V → Bool | .str _ => true | _ => false
section
variable {K : PySem.W.Frag} {H : Hp} {v : V}
theorem isi_int (h : IsDt K H v) : ∃ t, TyOf K H v t ∧ PySem.W.kitOne K t (.type "int") = some (isIntV v) := by
  obtain ⟨n, ty⟩ := h
  refine ⟨_, ty, ?_⟩
  cases ty <;> kernel_rfl
theorem isi_bool (h : IsDt K H v) : ∃ t, TyOf K H v t ∧ PySem.W.kitOne K t (.type "bool") = some (isBoolV v) := by
  obtain ⟨n, ty⟩ := h
  refine ⟨_, ty, ?_⟩
  cases ty <;> kernel_rfl
theorem isi_str (h : IsDt K H v) : ∃ t, TyOf K H v t ∧ PySem.W.kitOne K t (.type "str") = some (isStrV v) := by
  obtain ⟨n, ty⟩ := h
  refine ⟨_, ty, ?_⟩
  cases ty <;> kernel_rfl
theorem isi_list (h : IsDt K H v) : ∃ t b, TyOf K H v t ∧ PySem.W.kitOne K t (.type "list") = some b ∧ (b = true ↔ ∃ a xs, v = .ref a ∧ Rd H a (.lst xs)) := by
  obtain ⟨n, ty⟩ := h
  have no : ∀ {a : Addr} {o : HO}, H a = some o → (∀ xs, o ≠ .lst xs) → (∀ ob xs, o ≠ .frz ob (.lst xs)) → ¬ ∃ b xs, V.ref a = .ref b ∧ Rd H b (.lst xs) := by
    rintro a o e h1 h2 ⟨b, xs, hb, hr⟩
    cases hb
    rcases hr with q | ⟨ob, q⟩
    · rw [e] at q; cases q; exact h1 _ rfl
    · rw [e] at q; cases q; exact h2 _ _ rfl
  refine ⟨_, ?b, ty, ?_, ?_⟩
  case b => exact (match v with | .ref a => (match H a with | some (.lst _) => true | some (.frz _ (.lst _)) => true | _ => false) | _ => false)
  · cases ty with
    | lst e => dsimp only; rw [e]; kernel_rfl
    | frz e => dsimp only; rw [e]; kernel_rfl
    | tup e => dsimp only; rw [e]; kernel_rfl
    | dK e => dsimp only; rw [e]; kernel_rfl
    | dT e => dsimp only; rw [e]; kernel_rfl
    | _ => kernel_rfl
  · cases ty with
    | lst e => dsimp only; rw [e]; exact ⟨fun _ => ⟨_, _, rfl, .inl e⟩, fun _ => rfl⟩
    | frz e => dsimp only; rw [e]; exact ⟨fun _ => ⟨_, _, rfl, .inr ⟨_, e⟩⟩, fun _ => rfl⟩
    | tup e => dsimp only; rw [e]; exact ⟨(fun z => nomatch z), fun z => absurd z (no e (fun _ => by simp) fun _ _ => by simp)⟩
    | dK e => dsimp only; rw [e]; exact ⟨(fun z => nomatch z), fun z => absurd z (no e (fun _ => by simp) fun _ _ => by simp)⟩
    | dT e => dsimp only; rw [e]; exact ⟨(fun z => nomatch z), fun z => absurd z (no e (fun _ => by simp) fun _ _ => by simp)⟩
    | _ => exact ⟨(fun z => nomatch z), fun ⟨a, xs, e, _⟩ => nomatch e⟩
theorem Ext.ty {H' : Hp} {t : Value} (x : Ext H H') (h : TyOf K H v t) : TyOf K H' v t ∨ ∃ a kvs, v = .ref a ∧ H a = some (.dK kvs) := by
  cases h with
  | non => exact .inl .non
  | bl b => exact .inl (.bl b)
  | int i => exact .inl (.int i)
  | str y => exact .inl (.str y)
  | flt y => exact .inl (.flt y)
  | lst e => exact .inl (.lst (x.lst e))
  | frz e => exact .inl (.frz (x.keep e fun _ z => nomatch z))
  | tup e => exact .inl (.tup (x.tup e))
  | dK e => exact .inr ⟨_, _, rfl, e⟩
  | dT e => exact .inl (.dT (x.keep e fun _ z => nomatch z))
  | ins e c a b d f => exact .inl (.ins (x.ins e) c a b d f)
end
end L2


set_option linter.all false
namespace Pl
open PySem L2
def top (i : Nat) : Stmt := PySem.Challenge.pw_tworeadings_k02_whole_read.main.body.getD i (.Pass ⟨0, 0, 0, 0⟩)
abbrev s_is_whole : Stmt := top 7
abbrev s_is_word : Stmt := top 8
abbrev s_are_words : Stmt := top 9
abbrev s_is_code : Stmt := top 10
abbrev s_is_place : Stmt := top 11
abbrev s_are_places : Stmt := top 12
abbrev s_words_at : Stmt := top 13
abbrev s_joined : Stmt := top 14
abbrev s_check_code : Stmt := top 15
abbrev s_text_of : Stmt := top 16
abbrev s_noted : Stmt := top 17
abbrev s_grouped : Stmt := top 18
abbrev s_standing : Stmt := top 19
abbrev s_marks_behind : Stmt := top 20
abbrev s_unrolled : Stmt := top 21
abbrev s_copied : Stmt := top 23
abbrev s_are_tails : Stmt := top 24
abbrev s_rests_known : Stmt := top 25
abbrev s_tails_closed : Stmt := top 26
abbrev s_marks_closed : Stmt := top 27
abbrev c_Clash_init : Stmt := inClass (top 29) 0
abbrev c_Clash_shows : Stmt := inClass (top 29) 1
abbrev c_Tails_init : Stmt := inClass (top 30) 0
abbrev c_Tails_shows : Stmt := inClass (top 30) 1
abbrev c_Reading_init : Stmt := inClass (top 31) 0
abbrev c_Reading_shows : Stmt := inClass (top 31) 1
abbrev c_Stuck_init : Stmt := inClass (top 32) 0
abbrev c_Stuck_shows : Stmt := inClass (top 32) 1
abbrev s_check_asked : Stmt := top 34
abbrev s_chains_to_marks : Stmt := top 35
abbrev s_read : Stmt := top 36
abbrev s_ways_from_marks : Stmt := top 37
abbrev s_how_many : Stmt := top 38
abbrev s_law_code : Stmt := top 40
abbrev s_law_stands : Stmt := top 41
abbrev s_law_numbers : Stmt := top 42
abbrev s_law_text : Stmt := top 43
abbrev s_law_due : Stmt := top 44
abbrev s_law : Stmt := top 45
end Pl


set_option Elab.async false
set_option linter.all false
set_option maxRecDepth 100000
set_option maxHeartbeats 4000000
namespace L2
open PySem PySem.Spec PyProof.Rows Tw
/-! ### short forms -/
theorem iteT' {c A B : Prop} [Decidable c] (hc : c) (h : A) : if c then A else B := by rw [if_pos hc]; exact h
theorem iteF' {c A B : Prop} [Decidable c] (hc : ¬ c) (h : B) : if c then A else B := by rw [if_neg hc]; exact h
/-- builtin names that the text leaves alone -/
structure Bare (mg : Str → Option Value) : Prop where
  isi : mg "isinstance" = none
  int : mg "int" = none
  bool : mg "bool" = none
  str : mg "str" = none
  list : mg "list" = none
  dict : mg "dict" = none
  all : mg "all" = none
  any : mg "any" = none
  len : mg "len" = none
  range : mg "range" = none
  sorted : mg "sorted" = none
  sum : mg "sum" = none
  enumerate : mg "enumerate" = none
  max : mg "max" = none
  valueError : mg "ValueError" = none
abbrev tIsi (K : PySem.W.Frag) (te : TE) (c : V) : TE := tCB (rIsi K) (tCons te (tCons (tC c) tNil))
section
variable {X : Cx} {e : Expr} {te : TE} {p q pos : Pos}
theorem pe_isi {cv : V} {c : Expr} (hm : X.mg "isinstance" = none) (he : PE X e te) (hc : PE X c (tC cv)) (hg : Gl X "isinstance" := by rfl)
    (hs1 : starEach (e :: [c]) X.env = (false, eval e X.env) :: starEach [c] X.env := by rfl) (hs2 : starEach (c :: []) X.env = (false, eval c X.env) :: starEach [] X.env := by rfl)
    (hpl : (backTo pos (starEach [c] X.env)).any (·.1) = false := by rfl) : PE X (.Call (.Name "isinstance" p) [e, c] [] pos) (tIsi X.K te cv) := by
  exact pe_callB (r := rIsi X.K) call_isi hg hm boot_isinstance (pa_cons he (pa_cons hc pa_nil hs2) hs1) (by decide) (by decide) hs1 hpl
theorem pe_isi_int (B : Bare X.mg) (he : PE X e te) (hg : Gl X "isinstance" := by rfl) (hg2 : Gl X "int" := by rfl)
    (hs1 : starEach (e :: [.Name "int" q]) X.env = (false, eval e X.env) :: starEach [.Name "int" q] X.env := by rfl) : PE X (.Call (.Name "isinstance" p) [e, .Name "int" q] [] pos) (tIsi X.K te (.ty "int")) :=
  pe_isi B.isi he (pe_bltn hg2 B.int boot_int rfl) hg hs1 rfl rfl
theorem pe_isi_bool (B : Bare X.mg) (he : PE X e te) (hg : Gl X "isinstance" := by rfl) (hg2 : Gl X "bool" := by rfl)
    (hs1 : starEach (e :: [.Name "bool" q]) X.env = (false, eval e X.env) :: starEach [.Name "bool" q] X.env := by rfl) : PE X (.Call (.Name "isinstance" p) [e, .Name "bool" q] [] pos) (tIsi X.K te (.ty "bool")) :=
  pe_isi B.isi he (pe_bltn hg2 B.bool boot_bool rfl) hg hs1 rfl rfl
theorem pe_isi_str (B : Bare X.mg) (he : PE X e te) (hg : Gl X "isinstance" := by rfl) (hg2 : Gl X "str" := by rfl)
    (hs1 : starEach (e :: [.Name "str" q]) X.env = (false, eval e X.env) :: starEach [.Name "str" q] X.env := by rfl) : PE X (.Call (.Name "isinstance" p) [e, .Name "str" q] [] pos) (tIsi X.K te (.ty "str")) :=
  pe_isi B.isi he (pe_bltn hg2 B.str boot_str rfl) hg hs1 rfl rfl
theorem pe_isi_list (B : Bare X.mg) (he : PE X e te) (hg : Gl X "isinstance" := by rfl) (hg2 : Gl X "list" := by rfl)
    (hs1 : starEach (e :: [.Name "list" q]) X.env = (false, eval e X.env) :: starEach [.Name "list" q] X.env := by rfl) : PE X (.Call (.Name "isinstance" p) [e, .Name "list" q] [] pos) (tIsi X.K te (.ty "list")) :=
  pe_isi B.isi he (pe_bltn hg2 B.list boot_list rfl) hg hs1 rfl rfl
end
/-! ### tworeadings.codes -/
section
variable {P : Program} {w : World} {K : PySem.W.Frag} {mg : Str → Option Value} {base : Heap}
def spIsWhole (K : PySem.W.Frag) : Sp := fun vs H Q _ => ∃ v, vs = [v] ∧ IsDt K H v ∧ Q (.bl (isIntV v && !isBoolV v)) H
theorem ok_is_whole (D : Def K mg "is_whole" "is_whole" Pl.s_is_whole ["value"]) (B : Bare mg) : Cal P w K mg base CX0 1 "is_whole" ["value"] (spIsWhole K) := by
  have sc : FnScope ["value"] ["value"] (defScope Pl.s_is_whole) := ⟨rfl, rfl, rfl, by decide +kernel, rfl, by decide +kernel, by decide +kernel⟩
  refine D.cal fun f fd F => F.ok sc (fun vs H Q E h => ?_) (fun cdv A outer s H vs Q E hr h => ?_)
  · obtain ⟨v, rfl, _⟩ := h
    rfl
  · obtain ⟨v, rfl, hd, k⟩ := h
    refine ⟨_, pss_one (ps_ret (pe_and (pe_isi_int B (pv 0)) (pe_one (pe_not (pe_isi_bool B (pv 0)))))), ?_⟩
    obtain ⟨t, ty, e⟩ := isi_int hd
    refine ⟨_, rfl, _, _, t, _, rfl, trivial, ty, e, _, rfl, ?_⟩
    cases hi : isIntV v with
    | false =>
      rw [hi] at k
      exact iteF k
    | true =>
      refine iteT ?_
      obtain ⟨t, ty, e⟩ := isi_bool hd
      refine ⟨_, rfl, _, _, t, _, rfl, trivial, ty, e, _, rfl, ?_⟩
      rw [hi] at k
      exact k

/-- a text of these letters, one or more -/
def isWordV (letters : W) : V → Bool
  | .str x => decide (x.cps.toList ≠ []) && x.cps.toList.all fun c => letters.contains c
  | _ => false
def spIsWord (K : PySem.W.Frag) : Sp := fun vs H Q _ => ∃ v letters, vs = [v, sv letters] ∧ IsDt K H v ∧ (∀ x, v = .str x → x.length ≤ sizeLine) ∧ Q (.bl (isWordV letters v)) H
theorem ok_is_word (D : Def K mg "is_word" "is_word" Pl.s_is_word ["value", "letters"]) (B : Bare mg) : Cal P w K mg base CX0 1 "is_word" ["value", "letters"] (spIsWord K) := by
  have sc : FnScope ["value", "letters"] ["value", "letters"] (defScope Pl.s_is_word) := ⟨rfl, rfl, rfl, by decide +kernel, rfl, by decide +kernel, by decide +kernel⟩
  refine D.cal fun f fd F => F.ok sc (fun vs H Q E h => ?_) (fun cdv A outer s H vs Q E hr h => ?_)
  · obtain ⟨v, l, rfl, _⟩ := h
    rfl
  · obtain ⟨v, letters, rfl, hd, hz, k⟩ := h
    refine ⟨_, pss_one (ps_ret (pe_and (pe_isi_str B (pv 0)) (pe_and (pe_cmpR op_ne (pv 0) pe_str (nomark _)) (pe_one (pe_cmpR op_eq (pe_bm PySem.F.plainAttrs_str PySem.F.slot_str_lstrip PySem.F.type_str_lstrip mt_lstrip (pv 0) (pa_cons (pv 1) pa_nil)) pe_str (nomark _)))))), ?_⟩
    obtain ⟨t, ty, e⟩ := isi_str hd
    refine ⟨_, rfl, _, _, t, _, rfl, trivial, ty, e, _, rfl, ?_⟩
    cases v with
    | str x =>
      refine iteT ?_
      refine ⟨_, rfl, rfl, _, rfl, ?_⟩
      obtain ⟨a, rfl⟩ : ∃ a, x = st a := ⟨x.cps.toList, (st_of x).symm⟩
      by_cases ha : a = []
      · subst ha
        exact iteF' (by decide +kernel) k
      · refine iteT' (by rw [Bool.not_eq_true', decide_eq_false_iff_not]; intro z; exact ha (st_inj (V.str.inj z))) ?_
        refine ⟨_, rfl, rfl, _, rfl, a, letters, rfl, rfl, by have := hz _ rfl; rw [st_len] at this; exact this, fun c hc => ⟨rfl, ?_⟩⟩
        have e : isWordV letters (.str (st a)) = decide (sv c = V.str (st [])) := by
          show (decide (a ≠ []) && a.all fun z => letters.contains z) = _
          rw [Bool.eq_iff_iff, Bool.and_eq_true, decide_eq_true_iff, List.all_eq_true, decide_eq_true_iff]
          constructor
          · rintro ⟨_, h2⟩
            rw [hc.mpr fun z hz => by simpa using h2 z hz]
          · intro z
            exact ⟨ha, fun y hy => by simpa using hc.mp (st_inj (V.str.inj z)) y hy⟩
        rw [e] at k
        exact k
    | _ => exact iteF k

/-- an argument that may be a list of data -/
def LstArg (K : PySem.W.Frag) (H : Hp) (v : V) : Prop := IsDt K H v ∧ ∀ a xs, v = .ref a → Rd H a (.lst xs) → xs.length ≤ sizeLine ∧ ∀ y ∈ xs, ∀ H', Ext H H' → IsDt K H' y
/-- b: it is a list whose members are all so -/
def AllSo (H : Hp) (v : V) (p : V → Bool) (b : Bool) : Prop := (∀ a xs, v = .ref a → Rd H a (.lst xs) → b = xs.all p) ∧ ((∀ a xs, ¬ (v = .ref a ∧ Rd H a (.lst xs))) → b = false)
theorem Rd.inj {H : Hp} {a : Addr} {xs ys : List V} (h : Rd H a (.lst xs)) (h' : Rd H a (.lst ys)) : xs = ys := by
  rcases h with h | ⟨o, h⟩ <;> rcases h' with h' | ⟨o', h'⟩ <;> rw [h] at h' <;> cases h' <;> rfl
theorem AllSo.of {H : Hp} {a : Addr} {xs : List V} {p : V → Bool} (h : Rd H a (.lst xs)) : AllSo H (.ref a) p (xs.all p) :=
  ⟨fun b ys e h' => by cases e; rw [h.inj h'], fun z => absurd ⟨rfl, h⟩ (z a xs)⟩
theorem AllSo.eq {H : Hp} {a : Addr} {xs : List V} {p : V → Bool} {b : Bool} (h : Rd H a (.lst xs)) (q : AllSo H (.ref a) p b) : b = xs.all p := q.1 a xs rfl h
def spAreWords (K : PySem.W.Frag) : Sp := fun vs H Q _ => ∃ v letters, vs = [v, sv letters] ∧ LstArg K H v ∧ (∀ a xs, v = .ref a → Rd H a (.lst xs) → ∀ x, V.str x ∈ xs → x.length ≤ sizeLine) ∧
  ∀ b H', Ext H H' → AllSo H v (isWordV letters) b → Q (.bl b) H'
theorem ok_are_words (D : Def K mg "are_words" "are_words" Pl.s_are_words ["values", "letters"]) (B : Bare mg) (C1 : Cal P w K mg base CX0 1 "is_word" ["value", "letters"] (spIsWord K)) :
    Cal P w K mg base CX0 2 "are_words" ["values", "letters"] (spAreWords K) := by
  have sc : FnScope ["values", "letters"] ["values", "letters"] (defScope Pl.s_are_words) := ⟨rfl, rfl, rfl, by decide +kernel, rfl, by decide +kernel, by decide +kernel⟩
  refine D.cal fun f fd F => F.ok sc (fun vs H Q E h => ?_) (fun cdv A outer s H vs Q E hr h => ?_)
  · obtain ⟨v, l, rfl, _⟩ := h
    rfl
  · obtain ⟨v, letters, rfl, ⟨hd, hl⟩, hz, k⟩ := h
    have nd : (["value", "letters"] : List Str).Nodup := by decide +kernel
    refine ⟨_, pss_one (ps_ret (pe_and (pe_isi_list B (pv 0)) (pe_one (pe_callB (call_all_bl rfl) (by rfl) B.all Boot.«all» (pa_cons
      (pe_comp (N' := ["value", "letters"]) (js := [none, some 1]) (.of (by kernel_rfl)) rfl (pi_list (pv 0)) fun C fp s₀ H₀ => ⟨pg_name (i := 0) nd rfl (Or.inl rfl), pts_nil,
        pe_callF C1 hr (pa_cons (pv 0) (pa_cons (pv 1) pa_nil)) pass0⟩) pa_nil))))), ?_⟩
    obtain ⟨t, b, ty, e, hb⟩ := isi_list hd
    refine ⟨_, rfl, _, _, t, _, rfl, trivial, ty, e, _, rfl, ?_⟩
    cases b with
    | false =>
      refine iteF (k false H (Ext.refl _) ⟨fun a xs e h => ?_, fun _ => rfl⟩)
      exact absurd (hb.mpr ⟨a, xs, e, h⟩) (by decide)
    | true =>
      refine iteT ?_
      obtain ⟨a, xs, rfl, hr2⟩ := hb.mp rfl
      have hq : SqL K H a xs := .inl hr2
      refine ⟨_, rfl, a, rfl, ⟨xs, hq⟩, ?_⟩
      obtain ⟨hl1, hl2⟩ := hl a xs rfl hr2
      refine block_map1 hq hl1 (fun y => .bl (isWordV letters y)) (fun y H' hy x1 Q' k' => ?_) (fun D H' _ x1 hD => ?_)
      · exact ⟨_, rfl, _, rfl, y, letters, rfl, hl2 y hy H' x1, fun x e => hz a xs rfl hr2 x (e ▸ hy), k' _ H' (Ext.refl _) rfl⟩
      · refine ⟨D, xs.map (isWordV letters), rfl, SqL.of (by rw [hD, List.map_map]; rfl), ?_⟩
        have := k (xs.all (isWordV letters)) H' x1 (AllSo.of hr2)
        rw [List.all_map]
        exact this
/-- the letters a to z -/
def az : W := [97, 98, 99, 100, 101, 102, 103, 104, 105, 106, 107, 108, 109, 110, 111, 112, 113, 114, 115, 116, 117, 118, 119, 120, 121, 122]
theorem az_eq : (Str.ofString "abcdefghijklmnopqrstuvwxyz") = st az := by decide +kernel
def spIsCode (K : PySem.W.Frag) : Sp := fun vs H Q _ => ∃ v, vs = [v] ∧ LstArg K H v ∧ (∀ a xs, v = .ref a → Rd H a (.lst xs) → ∀ x, V.str x ∈ xs → x.length ≤ sizeLine) ∧ ∀ b H', Ext H H' → AllSo H v (isWordV az) b → Q (.bl b) H'
theorem ok_is_code (D : Def K mg "is_code" "is_code" Pl.s_is_code ["value"]) (L : ∃ t, mg "LETTERS" = some (.str "abcdefghijklmnopqrstuvwxyz" t)) (C1 : Cal P w K mg base CX0 2 "are_words" ["values", "letters"] (spAreWords K)) :
    Cal P w K mg base CX0 3 "is_code" ["value"] (spIsCode K) := by
  have sc : FnScope ["value"] ["value"] (defScope Pl.s_is_code) := ⟨rfl, rfl, rfl, by decide +kernel, rfl, by decide +kernel, by decide +kernel⟩
  obtain ⟨tk, hL⟩ := L
  refine D.cal fun f fd F => F.ok sc (fun vs H Q E h => ?_) (fun cdv A outer s H vs Q E hr h => ?_)
  · obtain ⟨v, rfl, _⟩ := h
    rfl
  · obtain ⟨v, rfl, hl, hz, k⟩ := h
    refine ⟨_, pss_one (ps_ret (pe_callF C1 hr (pa_cons (pv 0) (pa_cons (pe_glob (v := sv az) (by rfl) hL ⟨tk, by rw [az_eq]⟩) pa_nil)) pass0)), ?_⟩
    exact ⟨_, rfl, v, az, rfl, hl, hz, k⟩
/-- a place below n -/
def isPlaceV (n : Int) : V → Bool
  | .int i => decide (0 ≤ i) && decide (i < n)
  | _ => false
def spIsPlace (K : PySem.W.Frag) : Sp := fun vs H Q _ => ∃ v n, vs = [v, .int n] ∧ IsDt K H v ∧ Q (.bl (isPlaceV n v)) H
theorem ok_is_place (D : Def K mg "is_place" "is_place" Pl.s_is_place ["value", "count"]) (C1 : Cal P w K mg base CX0 1 "is_whole" ["value"] (spIsWhole K)) : Cal P w K mg base CX0 2 "is_place" ["value", "count"] (spIsPlace K) := by
  have sc : FnScope ["value", "count"] ["value", "count"] (defScope Pl.s_is_place) := ⟨rfl, rfl, rfl, by decide +kernel, rfl, by decide +kernel, by decide +kernel⟩
  refine D.cal fun f fd F => F.ok sc (fun vs H Q E h => ?_) (fun cdv A outer s H vs Q E hr h => ?_)
  · obtain ⟨v, n, rfl, _⟩ := h
    rfl
  · obtain ⟨v, n, rfl, hd, k⟩ := h
    refine ⟨_, pss_one (ps_ret (pe_and (pe_callF C1 hr (pa_cons (pv 0) pa_nil) pass0) (pe_one (pe_chain op_le op_lt pe_int (pv 0) (pv 1))))), ?_⟩
    refine ⟨_, rfl, v, rfl, hd, _, rfl, ?_⟩
    cases v with
    | int i =>
      refine iteT ?_
      refine ⟨_, rfl, _, _, rfl, rfl, _, rfl, ?_⟩
      by_cases h0 : (0 : Int) ≤ i
      · refine iteT' (by simpa using h0) ?_
        refine ⟨_, rfl, _, _, rfl, rfl, ?_⟩
        have e : isPlaceV n (.int i) = decide (i < n) := by show (decide (0 ≤ i) && decide (i < n)) = _; rw [decide_eq_true h0, Bool.true_and]
        rw [e] at k
        exact k
      · refine iteF' (by simpa using h0) ?_
        have e : isPlaceV n (.int i) = false := by show (decide (0 ≤ i) && decide (i < n)) = _; rw [decide_eq_false h0, Bool.false_and]
        rw [e] at k
        first | exact k | (rw [decide_eq_false h0]; exact k)
    | _ => exact iteF' (fun z => Bool.noConfusion z) k
end
end L2


set_option linter.all false
namespace Tw
/-- the text of a reading, by words -/
abbrev Code := List W
def textOf (c : Code) (r : List Nat) : W := (r.map fun i => c.getD i []).flatten
theorem textOf_nil (c : Code) : textOf c [] = [] := rfl
theorem textOf_cons (c : Code) (i : Nat) (r : List Nat) : textOf c (i :: r) = c.getD i [] ++ textOf c r := rfl
theorem textOf_append (c : Code) (r q : List Nat) : textOf c (r ++ q) = textOf c r ++ textOf c q := by
  induction r with
  | nil => rfl
  | cons i r ih => rw [List.cons_append, textOf_cons, textOf_cons, ih, List.append_assoc]
def IsReading (c : Code) (r : List Nat) : Prop := ∀ i ∈ r, i < c.length
end Tw


set_option Elab.async false
set_option linter.all false
set_option maxRecDepth 100000
set_option maxHeartbeats 4000000
namespace L2
open PySem PySem.Spec PyProof.Rows Tw
section
variable {P : Program} {w : World} {K : PySem.W.Frag} {mg : Str → Option Value} {base : Heap}
def spArePlaces (K : PySem.W.Frag) : Sp := fun vs H Q _ => ∃ v n, vs = [v, .int n] ∧ LstArg K H v ∧ ∀ b H', Ext H H' → AllSo H v (isPlaceV n) b → Q (.bl b) H'
theorem ok_are_places (D : Def K mg "are_places" "are_places" Pl.s_are_places ["values", "count"]) (B : Bare mg) (C1 : Cal P w K mg base CX0 2 "is_place" ["value", "count"] (spIsPlace K)) :
    Cal P w K mg base CX0 3 "are_places" ["values", "count"] (spArePlaces K) := by
  have sc : FnScope ["values", "count"] ["values", "count"] (defScope Pl.s_are_places) := ⟨rfl, rfl, rfl, by decide +kernel, rfl, by decide +kernel, by decide +kernel⟩
  refine D.cal fun f fd F => F.ok sc (fun vs H Q E h => ?_) (fun cdv A outer s H vs Q E hr h => ?_)
  · obtain ⟨v, l, rfl, _⟩ := h
    rfl
  · obtain ⟨v, n, rfl, ⟨hd, hl⟩, k⟩ := h
    have nd : (["value", "count"] : List Str).Nodup := by decide +kernel
    refine ⟨_, pss_one (ps_ret (pe_and (pe_isi_list B (pv 0)) (pe_one (pe_callB (call_all_bl rfl) (by rfl) B.all Boot.«all» (pa_cons
      (pe_comp (N' := ["value", "count"]) (js := [none, some 1]) (.of (by kernel_rfl)) rfl (pi_list (pv 0)) fun C fp s₀ H₀ => ⟨pg_name (i := 0) nd rfl (Or.inl rfl), pts_nil,
        pe_callF C1 hr (pa_cons (pv 0) (pa_cons (pv 1) pa_nil)) pass0⟩) pa_nil))))), ?_⟩
    obtain ⟨t, b, ty, e, hb⟩ := isi_list hd
    refine ⟨_, rfl, _, _, t, _, rfl, trivial, ty, e, _, rfl, ?_⟩
    cases b with
    | false =>
      refine iteF (k false H (Ext.refl _) ⟨fun a xs e h => ?_, fun _ => rfl⟩)
      exact absurd (hb.mpr ⟨a, xs, e, h⟩) (by decide)
    | true =>
      refine iteT ?_
      obtain ⟨a, xs, rfl, hr2⟩ := hb.mp rfl
      have hq : SqL K H a xs := .inl hr2
      refine ⟨_, rfl, a, rfl, ⟨xs, hq⟩, ?_⟩
      obtain ⟨hl1, hl2⟩ := hl a xs rfl hr2
      refine block_map1 hq hl1 (fun y => .bl (isPlaceV n y)) (fun y H' hy x1 Q' k' => ?_) (fun D H' _ x1 hD => ?_)
      · exact ⟨_, rfl, _, rfl, y, n, rfl, hl2 y hy H' x1, k' _ H' (Ext.refl _) rfl⟩
      · refine ⟨D, xs.map (isPlaceV n), rfl, SqL.of (by rw [hD, List.map_map]; rfl), ?_⟩
        have := k (xs.all (isPlaceV n)) H' x1 (AllSo.of hr2)
        rw [List.all_map]
        exact this
/-- a list of words stands at a; of places -/
def CodeAt (K : PySem.W.Frag) (H : Hp) (a : Addr) (ws : List W) : Prop := SqL K H a (ws.map sv) ∧ ws.length ≤ 10000 ∧ ∀ x ∈ ws, x.length ≤ 10000
def PlacesAt (K : PySem.W.Frag) (H : Hp) (a : Addr) (r : List Nat) : Prop := SqL K H a (r.map fun (i : Nat) => V.int i) ∧ r.length ≤ 100000
theorem Ext.code {H H' : Hp} {a : Addr} {ws : List W} (x : Ext H H') (h : CodeAt K H a ws) : CodeAt K H' a ws := ⟨x.sqL h.1, h.2⟩
theorem Ext.places {H H' : Hp} {a : Addr} {r : List Nat} (x : Ext H H') (h : PlacesAt K H a r) : PlacesAt K H' a r := ⟨x.sqL h.1, h.2⟩
theorem small_line {n : Nat} (h : n ≤ 1000000) : n ≤ sizeLine := Nat.le_trans h (by decide)
def spWordsAt (K : PySem.W.Frag) : Sp := fun vs H Q _ => ∃ (a b : Addr) (ws : List W) (r : List Nat), vs = [.ref a, .ref b] ∧ CodeAt K H a ws ∧ PlacesAt K H b r ∧ (∀ i ∈ r, i < ws.length) ∧
  ∀ D H', H D = none → Ext H H' → H' D = some (.lst ((r.map fun i => ws.getD i []).map sv)) → Q (.ref D) H'
theorem ok_words_at (D : Def K mg "words_at" "words_at" Pl.s_words_at ["code", "places"]) : Cal P w K mg base CX0 1 "words_at" ["code", "places"] (spWordsAt K) := by
  have sc : FnScope ["code", "places"] ["code", "places"] (defScope Pl.s_words_at) := ⟨rfl, rfl, rfl, by decide +kernel, rfl, by decide +kernel, by decide +kernel⟩
  refine D.cal fun f fd F => F.ok sc (fun vs H Q E h => ?_) (fun cdv A outer s H vs Q E hr h => ?_)
  · obtain ⟨_, _, _, _, rfl, _⟩ := h
    rfl
  · obtain ⟨a, b, ws, r, rfl, hc, hp, hin, k⟩ := h
    have nd : (["place", "code"] : List Str).Nodup := by decide +kernel
    refine ⟨_, pss_one (ps_ret (pe_comp (N' := ["place", "code"]) (js := [none, some 0]) (.of (by kernel_rfl)) rfl (pi_list (pv 1)) fun C fp s₀ H₀ => ⟨pg_name (i := 0) nd rfl (Or.inl rfl), pts_nil,
        pe_ix (r := rIxL K) ix_list (pv 1) (pv 0) (fun _ _ => rfl)⟩)), ?_⟩
    refine ⟨_, rfl, b, rfl, ⟨_, hp.1⟩, ?_⟩
    refine block_map1 hp.1 (by rw [List.length_map]; exact small_line (by have := hp.2; omega)) (fun y => match y with | .int i => sv (ws.getD i.toNat []) | _ => .non) (fun y H' hy x1 Q' k' => ?_) (fun D H' h1 x1 hD => ?_)
    · obtain ⟨i, hi, rfl⟩ := List.mem_map.mp hy
      have hlt := hin i hi
      have hc' := (x1.code hc).1
      refine ⟨_, rfl, _, rfl, a, _, (i : Int), sv (ws.getD i []), rfl, rfl, hc', atI_nat (by rw [List.getElem?_map]; simp [hlt]), k' _ H' (Ext.refl _) rfl⟩
    · refine k D H' h1 x1 ?_
      rw [hD, List.map_map, List.map_map]
      rfl
def spJoined (K : PySem.W.Frag) : Sp := fun vs H Q _ => ∃ (a b : Addr) (ws : List W) (r : List Nat), vs = [.ref a, .ref b] ∧ CodeAt K H a ws ∧ PlacesAt K H b r ∧ (∀ i ∈ r, i < ws.length) ∧ (textOf ws r).length ≤ 1000000 ∧
  ∀ H', Ext H H' → Q (sv (textOf ws r)) H'
theorem ok_joined (D : Def K mg "joined" "joined" Pl.s_joined ["code", "places"]) (C1 : Cal P w K mg base CX0 1 "words_at" ["code", "places"] (spWordsAt K)) : Cal P w K mg base CX0 2 "joined" ["code", "places"] (spJoined K) := by
  have sc : FnScope ["code", "places"] ["code", "places"] (defScope Pl.s_joined) := ⟨rfl, rfl, rfl, by decide +kernel, rfl, by decide +kernel, by decide +kernel⟩
  refine D.cal fun f fd F => F.ok sc (fun vs H Q E h => ?_) (fun cdv A outer s H vs Q E hr h => ?_)
  · obtain ⟨_, _, _, _, rfl, _⟩ := h
    rfl
  · obtain ⟨a, b, ws, r, rfl, hc, hp, hin, hz, k⟩ := h
    refine ⟨_, pss_one (ps_ret (pe_bm PySem.F.plainAttrs_str PySem.F.slot_str_join PySem.F.type_str_join mt_join pe_str (pa_cons (pe_callF C1 hr (pa_cons (pv 0) (pa_cons (pv 1) pa_nil)) pass0) pa_nil))), ?_⟩
    refine ⟨rfl, _, rfl, _, rfl, a, b, ws, r, rfl, hc, hp, hin, fun D H' h1 x1 hD => ?_⟩
    refine ⟨D, r.map fun i => ws.getD i [], rfl, rfl, SqL.of hD, ?_, k H' x1⟩
    have e : ((r.map fun i => ws.getD i []).map List.length).sum = (textOf ws r).length := by rw [textOf, List.length_flatten]
    rw [e]; omega
end
end L2


set_option Elab.async false
set_option linter.all false
set_option maxRecDepth 100000
set_option maxHeartbeats 1500000
namespace L2
open PySem
/-! ### trees that write no third field: what an exception's context was, it is -/
def Soft (f : Obj → Obj) : Prop := ∀ o vs, o.data = .fields vs → ∃ vs', (f o).data = .fields vs' ∧ vs'[2]? = vs[2]?
def Mild {α : Type} : Sem α → Prop
  | .rule _ k => Mild (k ())
  | .at _ k => Mild (k ())
  | .load _ _ k => ∀ o, Mild (k o)
  | .update _ _ f k => Soft f ∧ Mild (k ())
  | .alloc _ k => ∀ n, Mild (k n)
  | .loadIfAlive _ k => ∀ o, Mild (k o)
  | .point _ k => Mild (k ())
  | .fresh k => ∀ n, Mild (k n)
  | .ask k => ∀ x, Mild (k x)
  | .handled _ k => ∀ x, Mild (k x)
  | .stack k => ∀ x, Mild (k x)
  | .thread k => ∀ x, Mild (k x)
  | .pure _ => True
  | .raise _ => True
  | .unsupported _ => True
  | .finish _ => True
  | _ => False
/-- the third field of the record at e -/
def Third (e : Addr) (v : Value) (h : Heap) : Prop := ∃ o vs, h.get? e = some o ∧ o.data = .fields vs ∧ vs[2]? = some v
theorem Third.upd {e a : Addr} {v : Value} {h : Heap} {f : Obj → Obj} (x : Third e v h) (hf : Soft f) : Third e v (h.update a f) := by
  obtain ⟨o, vs, h1, h2, h3⟩ := x
  by_cases z : a = e
  · subst z
    obtain ⟨vs', g1, g2⟩ := hf o vs h2
    exact ⟨f o, vs', Heap.get?_update_self f h1 (Obj.isFreed_of_fields g1), g1, g2.trans h3⟩
  · exact ⟨o, vs, (Heap.get?_update_other _ _ z).trans h1, h2, h3⟩
theorem mild_wp {α : Type} {M : Model} {Γ : Ctx} {e : Addr} {v : Value} : ∀ {t : Sem α} {Q : α → Pos → Shared → Prop} {E : Value → Pos → Shared → Prop} {p : Pos} {s : Shared}, Mild t → Third e v s.heap → Sem.wp M Γ t Q E p s →
    Sem.wp M Γ t (fun a p' s' => Q a p' s' ∧ Third e v s'.heap) (fun x p' s' => E x p' s' ∧ Third e v s'.heap) p s := by
  intro t
  induction t with
  | pure a => exact fun _ x h => ⟨h, x⟩
  | raise u => exact fun _ x h => ⟨h, x⟩
  | unsupported u => exact fun _ _ h => h
  | finish u => exact fun _ _ h => h
  | rule _ k ih => exact fun m x h => ih () m x h
  | «at» _ k ih => exact fun m x h => ih () m x h
  | load a _ k ih => exact fun m x h => h.imp fun o q => ⟨q.1, ih o (m o) x q.2⟩
  | update a _ f k ih => exact fun m x h => ⟨h.1, ih () m.2 (x.upd m.1) h.2⟩
  | alloc o k ih => exact fun m x h => ih _ (m _) (let ⟨u, vs, q⟩ := x; ⟨u, vs, Heap.get?_push_of_some _ q.1, q.2⟩) h
  | loadIfAlive a k ih => exact fun m x h => ih _ (m _) x h
  | point _ k ih => exact fun m x h => ih () m x h
  | fresh k ih => exact fun m x h => ih _ (m _) x h
  | ask k ih => exact fun m x h => ih _ (m _) x h
  | handled _ k ih => exact fun m x h => ih _ (m _) x h
  | stack k ih => exact fun m x h => ih _ (m _) x h
  | thread k ih => exact fun m x h => ih _ (m _) x h
  | _ => exact fun m _ _ => m.elim
theorem Mild.bind {α β : Type} {f : α → Sem β} : ∀ {t : Sem α}, Mild t → (∀ a, Mild (f a)) → Mild (t.bind f) := by
  intro t
  induction t with
  | pure a => exact fun _ h => h a
  | raise u => exact fun _ _ => trivial
  | unsupported u => exact fun _ _ => trivial
  | finish u => exact fun _ _ => trivial
  | rule _ k ih => exact fun m h => ih () m h
  | «at» _ k ih => exact fun m h => ih () m h
  | load a _ k ih => exact fun m h o => ih o (m o) h
  | update a _ f k ih => exact fun m h => ⟨m.1, ih () m.2 h⟩
  | alloc o k ih => exact fun m h n => ih n (m n) h
  | loadIfAlive a k ih => exact fun m h o => ih o (m o) h
  | point _ k ih => exact fun m h => ih () m h
  | fresh k ih => exact fun m h n => ih n (m n) h
  | ask k ih => exact fun m h n => ih n (m n) h
  | handled _ k ih => exact fun m h n => ih n (m n) h
  | stack k ih => exact fun m h n => ih n (m n) h
  | thread k ih => exact fun m h n => ih n (m n) h
  | _ => exact fun m _ => m.elim
/-- .. and so every promise of such a tree may be told with the field -/
theorem wpAny_third {α : Type} {M : Model} {A : Around} {t : Sem α} {Q : α → Shared → Prop} {E : Value → Shared → Prop} {s : Shared} {e : Addr} {v : Value} (m : Mild t) (x : Third e v s.heap) (h : wpAny M A t Q E s) :
    wpAny M A t (fun a s' => Q a s' ∧ Third e v s'.heap) (fun u s' => E u s' ∧ Third e v s'.heap) s := fun Γ p g => mild_wp m x (h Γ p g)
theorem mild_field (v : Value) (i : Nat) : Mild (field v i) := by
  have f : Mild (fieldsOf v) := by
    cases v with
    | ref a =>
      intro o
      show Mild (match o.data with | .fields vs => pure vs | _ => unsupported "internal:no-fields")
      split <;> trivial
    | _ => trivial
  refine f.bind fun vs => ?_
  split <;> trivial
theorem soft_set {i : Nat} (h : i ≠ 2) (x : Value) : Soft (Obj.mapFields (·.setIfInBounds i x)) := fun o vs e => ⟨_, Obj.data_mapFields e _, by rw [Array.getElem?_setIfInBounds_ne h]⟩
theorem mild_set {i : Nat} (h : i ≠ 2) (v x : Value) : Mild (setField v i x) := by
  cases v with
  | ref a =>
    intro o
    show Mild (match o.data with | .fields vs => if i < vs.size then update a (Obj.mapFields (·.setIfInBounds i x)) else unsupported "internal:no-such-field" | _ => unsupported "internal:write-to-non-record")
    split
    · split
      · exact ⟨soft_set h x, trivial⟩
      · trivial
    · trivial
  | _ => trivial
theorem mild_flight (v : Value) (f : Option Addr) : Mild (setFlight v f) := by
  refine (mild_field v 1).bind fun tb => ?_
  split
  · exact mild_set (by decide) _ _
  · trivial
theorem mild_back (env : Env) (outer : List Env) : Mild (behindIsImport env outer) := by
  unfold behindIsImport
  split
  · trivial
  · split
    · trivial
    · exact (mild_field _ _).bind fun _ => trivial
theorem mild_ready : ∀ l : List Env, Mild (readyFrames l)
  | [] => trivial
  | env :: outer => by
    unfold readyFrames
    cases env.frame with
    | none => trivial
    | some f =>
      intro o
      show Mild (if (o.slots.getD 3 none).isSome = true then pure () else _)
      split
      · trivial
      · refine (mild_back env outer).bind fun im => ?_
        have kb : Mild (keptBack env im outer) := by
          unfold keptBack
          cases outer with
          | nil =>
            dsimp only
            split
            · trivial
            · intro x; trivial
          | cons c r => trivial
        exact kb.bind fun b => ⟨fun o vs e => ⟨vs, e, rfl⟩, mild_ready outer⟩
theorem mild_newRec (ty : String) (vs : List Value) : Mild (newFields ty vs) := by
  unfold newFields newObj
  dsimp only
  split
  · trivial
  · exact fun n => trivial
theorem mild_note (v : Value) (env : Env) : Mild (noteFrame v env) := by
  unfold noteFrame
  cases env.frame with
  | none => trivial
  | some f =>
    have tail : ∀ head : Value, Mild (do setField v 1 (← EntryCells.newEntry head (← frameOf env) .none (rawInt f) .none (← entryPlaceOf f (head != .none)))) := fun head => by
      have fr : Mild (frameOf env) := by
        unfold frameOf
        refine Mild.bind (show Mild frameEnvs from fun _ => trivial) fun l => Mild.bind ?_ fun r => by split <;> trivial
        unfold frameObject
        split
        · trivial
        · exact (mild_ready _).bind fun _ => trivial
      have pl : Mild (entryPlaceOf f (head != .none)) := by
        unfold entryPlaceOf
        exact Mild.bind (show Mild stack from fun _ => trivial) fun acts => by split <;> trivial
      have ne : ∀ a l, Mild (EntryCells.newEntry head a .none (rawInt f) .none l) := fun a l => mild_newRec "traceback" _
      exact fr.bind fun a => pl.bind fun l => (ne a l).bind fun b => mild_set (by decide) v b
    refine (mild_field v 1).bind fun head => ?_
    split
    · refine (mild_field head 3).bind fun x => ?_
      split
      · trivial
      · exact (mild_set (by decide) head .none).bind fun _ => tail head
    · exact tail head
theorem mild_leave (env : Env) (v : Value) : Mild (leaving env v) := (mild_note v env).bind fun _ => mild_flight v none
end L2


set_option Elab.async false
set_option linter.all false
set_option maxRecDepth 100000
set_option maxHeartbeats 4000000
namespace L2
open PySem PySem.Spec PyProof.Rows
/-! ### exceptions that leave a def -/
section
variable {P : Program} {w : World} {H : Hp} {h : Heap} {a : Addr} {o : HO}
theorem ObjOk.there (x : ObjOk P w H h a o) : ∃ ob, h.get? a = some ob := by
  cases o with
  | lst xs => obtain ⟨_, _, _, _, e⟩ := x; exact ⟨_, e⟩
  | tup xs => obtain ⟨_, _, _, ob, e, _⟩ := x; exact ⟨_, e⟩
  | dK kvs => obtain ⟨_, _, _, _, ob, _, _, e, _⟩ := x; exact ⟨_, e⟩
  | dT kvs => obtain ⟨_, _, _, _, ob, _, _, e, _⟩ := x; exact ⟨_, e⟩
  | set S n => obtain ⟨ob, _, _, _, e, _⟩ := x; exact ⟨_, e⟩
  | ins C dx fs => obtain ⟨_, _, _, e, _⟩ := x; exact ⟨_, e⟩
  | own y => exact x
  | xd fs => obtain ⟨_, ⟨_, _, _, e, _⟩, _⟩ := x; exact ⟨_, e⟩
  | rng lo hi => obtain ⟨_, _, _, e⟩ := x; exact ⟨_, e⟩
  | frz ob u => exact ⟨_, x.1⟩
  | tbl ps => exact ⟨_, (show h.get? a = some _ from x)⟩
  | met f y => exact ⟨_, (show h.get? a = some _ from x)⟩
  | ext φ => exact x.2.1
end
/-- an exception has left a call that began at (H, s) -/
structure Flies (P : Program) (w : World) (outer : List Env) (H : Hp) (s : Shared) (ea : Addr) (cls : Value) (H' : Hp) (s' : Shared) : Prop where
  os : s'.os = s.os
  bare : AllBare s'.gens
  un : Un (frs outer) [] H H' s.heap s'.heap
  hok : HOk P w H' s'.heap
  fly : ∃ B a0, Heap.FlyingW B outer ea cls a0 s'.heap ∧ ∀ b o, s'.heap.get? b = some o → b ∉ frs outer → ((∃ o', s.heap.get? b = some o') ∨ ∃ u, H' b = some u) → B.get? b = some o
  ctx : Third ea .none s'.heap
def CX1 (P : Program) (w : World) : CXT := fun outer H s E e s' => ∃ ea cls H', e = .ref ea ∧ Flies P w outer H s ea cls H' s' ∧ E cls none H'
section
variable {X : Cx} {pins : List (Addr × Obj)} {σ : St} {H1 H' : Hp} {s1 s' : Shared} {ea : Addr} {cls a0 : Value} {B h' : Heap}
theorem Flies.mv (F : Flies X.prog X.w X.stack H1 s1 ea cls H' s') (I : Inv X pins σ H1 s1) : Inv X pins σ H' s' :=
  I.call' (ch := []) F.os F.un F.hok F.bare fun _ hb => nomatch hb
theorem mv_un (I : Inv X pins σ H1 s1) (I' : Inv X pins σ H' s') (hex : X.ex = [])
    (hB : ∀ b o, s'.heap.get? b = some o → b ∉ frs X.stack → ((∃ o', s1.heap.get? b = some o') ∨ ∃ u, H' b = some u) → h'.get? b = some o) (up : s'.heap.UpToSlots h') :
    Un X.fs [] X.H₀ H' X.s₀.heap h' ∧ HOk X.prog X.w H' h' := by
  have nx : ∀ b, b ∉ X.ex := fun b => by rw [hex]; simp
  have old : ∀ b o, X.s₀.heap.get? b = some o → b ∉ X.fs → b ∉ frs X.stack := fun b o e hb hs => by
    rcases List.mem_cons.mp (I.stkSub b hs) with z | z
    · have l := Nat.lt_of_lt_of_le (Heap.lt_size e) I.ok.above
      rw [z] at l
      exact Nat.lt_irrefl _ l
    · exact hb z
  refine ⟨⟨fun b o q n hf _ => ?_, fun b o q n hf _ => ?_, fun b o q n _ => I'.base.free b o q n (nx b), fun b o q _ => ?_, I'.base.tups, I'.base.frzs, I'.base.tbls⟩, fun a o e => ?_⟩
  · exact hB b o (I'.base.keep b o q n hf (nx b)) (old b o q hf) (.inl (I.base.there b o q (nx b)))
  · obtain ⟨sl, q1⟩ := I'.base.slot b o q n hf (nx b)
    obtain ⟨_, o1, ho1, hd⟩ := I.ok.funs.mem hf
    rw [q] at ho1
    cases ho1
    obtain ⟨sl2, q2⟩ := up b _ q1 hd
    exact ⟨sl2, q2⟩
  · obtain ⟨o1, q1⟩ := I'.base.there b o q (nx b)
    by_cases hs : b ∈ frs X.stack
    · obtain ⟨_, o2, q2, hd⟩ := I'.stack.mem hs
      obtain ⟨sl, q3⟩ := up b o2 q2 hd
      exact ⟨_, q3⟩
    · exact ⟨o1, hB b o1 q1 hs (.inl (I.base.there b o q (nx b)))⟩
  · refine (I'.hok a o e).stay (fun b u hb q => ?_) (fun _ q => q) fun _ _ q => q
    have tr : ∃ v, H' b = some v := by
      rcases hb with z | z
      · exact ⟨_, z ▸ e⟩
      · exact ⟨_, z⟩
    refine hB b u q (fun hs => ?_) (.inr tr)
    obtain ⟨v, hv⟩ := tr
    rw [I'.stkFree b hs] at hv
    cases hv
theorem flies_of (I : Inv X pins σ H1 s1) (I' : Inv X pins σ H' s') (hex : X.ex = [])
    (hB : ∀ b o, s'.heap.get? b = some o → b ∉ frs X.stack → ((∃ o', s1.heap.get? b = some o') ∨ ∃ u, H' b = some u) → B.get? b = some o)
    (fl : Heap.FlyingW B X.outer ea cls a0 h') (up : s'.heap.UpToSlots h') (cx : Third ea .none h') : Flies X.prog X.w X.outer X.H₀ X.s₀ ea cls H' { s' with heap := h' } := by
  obtain ⟨un, hok⟩ := mv_un (h' := h') I I' hex (fun b o q hs c => fl.1 b o (hB b o q hs c)) up
  refine ⟨I'.os, I'.bare, un, hok, ⟨B, a0, fl, fun b o q hf c => ?_⟩, cx⟩
  have nx : ∀ b, b ∉ X.ex := fun b => by rw [hex]; simp
  have hs : b ∉ frs X.stack := fun hs => by
    rcases List.mem_cons.mp (I.stkSub b hs) with z | z
    · rcases c with ⟨o', e⟩ | ⟨u, e⟩
      · have l := Nat.lt_of_lt_of_le (Heap.lt_size e) I.ok.above
        rw [z] at l
        exact Nat.lt_irrefl _ l
      · rw [z, I'.free] at e
        cases e
    · exact hf z
  have ⟨o2, q2⟩ : ∃ o2, s'.heap.get? b = some o2 := by
    rcases c with ⟨o', e⟩ | ⟨u, e⟩
    · exact I'.base.there b o' e (nx b)
    · exact (I'.hok b u e).there
  have c1 : (∃ o', s1.heap.get? b = some o') ∨ ∃ u, H' b = some u := by
    rcases c with ⟨o', e⟩ | c
    · exact .inl (I.base.there b o' e (nx b))
    · exact .inr c
  have q3 := hB b o2 q2 hs c1
  have q4 := fl.1 b o2 q3
  have q' : h'.get? b = some o := q
  rw [q'] at q4
  cases q4
  exact q3
end
section
variable {P : Program} {w : World} {K : PySem.W.Frag} {mg : Str → Option Value} {base : Heap} {N : List Str} {qual : Str} {scope : Scope} {f : Addr} {cd : Value} {A : Around} {outer : List Env} {s : Shared} {H : Hp} {E : XK}
/-- a callee's exception goes on through this frame -/
theorem passX : Passes (CX1 P w) (cxOf (CX1 P w) P w K mg base N qual scope f cd A outer s H E) E := by
  intro pins σ H1 s1 e s' I h
  obtain ⟨ea, cls, H', rfl, F, q⟩ := h
  obtain ⟨B, a0, fl, hB⟩ := F.fly
  show wpAny _ _ (leaving _ (.ref ea)) _ _ s'
  have on := wpAny_leaves_onW (M := model P w) (E := fun _ _ => False) (Q := fun _ s2 => ∃ h', s2 = { s' with heap := h' } ∧ Heap.FlyingW B outer ea cls a0 h' ∧ s'.heap.UpToSlots h') (A := A.deeper (envOfC qual scope s.heap.objs.size f cd)) (env := envOfC qual scope s.heap.objs.size f cd) (outer := outer) I.ok.frames rfl fl fun h' fl' up => ⟨h', rfl, fl', up⟩
  refine wpAny_mono (wpAny_third (mild_leave _ _) F.ctx on) (fun _ s2 q2 => ?_) fun _ _ z => z.1.elim
  obtain ⟨⟨h', rfl, fl', up⟩, cx⟩ := q2
  exact ⟨ea, cls, H', rfl, flies_of (X := cxOf (CX1 P w) P w K mg base N qual scope f cd A outer s H E) I (F.mv I) rfl hB fl' up cx, q⟩
/-- an exception made here goes out -/
def Raises (X : Cx) (E : XK) : Prop := ∀ (pins : List (Addr × Obj)) (σ : St) (H1 : Hp) (s1 : Shared) (h2 : Heap) (ea : Addr) (cls : Value) (args : List Value), Inv X pins σ H1 s1 → Heap.MadeExcOf s1.heap h2 ea cls args → E cls none H1 → X.xe (.ref ea) { s1 with heap := h2 }
theorem raisesX : Raises (cxOf (CX1 P w) P w K mg base N qual scope f cd A outer s H E) E := by
  intro pins σ H1 s1 h2 ea cls args I hm q
  show wpAny _ _ (leaving _ (.ref ea)) _ _ _
  have hin : ∀ env ∈ (cxOf (CX1 P w) P w K mg base N qual scope f cd A outer s H E).stack, ∀ a, env.frame = some a → a ∈ frs (cxOf (CX1 P w) P w K mg base N qual scope f cd A outer s H E).stack := fun env he a ha => List.mem_filterMap.mpr ⟨env, he, ha⟩
  have cx0 : Third ea .none h2 := let ⟨t, ht, _⟩ := hm.there; ⟨_, _, ht, rfl, rfl⟩
  have on := wpAny_leaves_madeW (M := model P w) (E := fun _ _ => False) (Q := fun _ s2 => ∃ h' t, s2 = { s1 with heap := h' } ∧ Heap.FlyingW (PySem.W.hideAll s1.heap (frs (cxOf (CX1 P w) P w K mg base N qual scope f cd A outer s H E).stack)) outer ea cls (.ref t) h' ∧ h2.UpToSlots h')
    (s := { s1 with heap := h2 }) (A := A.deeper (envOfC qual scope s.heap.objs.size f cd)) (env := envOfC qual scope s.heap.objs.size f cd) (outer := outer) (h := s1.heap) I.ok.frames rfl
    (fun b o z => PySem.W.of_hideAll _ z) (PySem.W.funFrames_hide I.stack hin) hm fun h' t fl ht htn up => ⟨h', t, rfl, fl, up⟩
  refine wpAny_mono (wpAny_third (mild_leave _ _) cx0 on) (fun _ s2 q2 => ?_) fun _ _ z => z.1.elim
  obtain ⟨⟨h', t, rfl, fl, up⟩, cx⟩ := q2
  exact ⟨ea, cls, H1, rfl, flies_of (X := cxOf (CX1 P w) P w K mg base N qual scope f cd A outer s H E) (s1 := s1) (s' := s1) (h' := h') I I rfl (fun b o z hs _ => PySem.W.hideAll_get _ z hs) fl ((Heap.UpToSlots.of_keeps hm.keeps).trans up) cx, q⟩
/-- THE RULE for a def that may raise -/
theorem Fun.okX {x : Str} {st : Stmt} {fd : FuncData} {ps : List Str} {k : Nat} {sp : Sp} (F : Fun K x qual st f fd) (S : FnScope N ps (defScope st)) (len : ∀ vs H Q E, sp vs H Q E → vs.length = ps.length)
    (hbody : ∀ (cdv : Value) (A : Around) (outer : List Env) (s : Shared) (H : Hp) (vs : List V) (Q : VK) (E : XK), Room k (A.deeper (envOfC qual (defScope st) s.heap.objs.size f cdv)) → sp vs H Q E →
      ∃ t, PSs (cxOf (CX1 P w) P w K mg base N qual (defScope st) f cdv A outer s H E) (defBody st) t ∧ t { nx := fun _ H' => Q .non H', rt := Q } (start N vs) H) : FnOk P w K mg base (CX1 P w) (k + 1) f fd ps sp := by
  obtain ⟨oc, od, kV, doc, pm, an, cdv, ct, osl, rfl, lk, hcd⟩ := F.ex
  exact fn_of lk hcd S len fun A outer s H vs Q E hr hsp => hbody cdv A outer s H vs Q E hr hsp
end
/-! ### raise C(..), C an own class under ValueError -/
theorem exc_at {K : PySem.W.Frag} {h : Heap} {C : Addr} {bmB : List Value} {newId : String} (X : K.In h) (q : PySem.W.excIn K C bmB newId = true) :
    ∃ bm N nm qn bs hd sn sub ab col dd k0 k1 k2 k3 k5 mN, h.get? C = some (excClassObj nm qn C N bs bm hd sn sub ab col dd k0 k1 k2 k3 k5 newId) ∧ h.Ns N mN ∧ mN "__init__" = none ∧ OwnTail h bmB bm := by
  unfold PySem.W.excIn at q
  split at q
  next dd cd sl ho =>
    split at q
    next C1 bm e0 e1 e2 e3 nn e5 hmro hslots =>
      simp only [Bool.and_eq_true, beq_iff_eq, Bool.not_eq_true'] at q
      obtain ⟨⟨⟨⟨⟨rfl, rfl⟩, del⟩, tl⟩, okN⟩, noI⟩ := q
      obtain ⟨c1, c2, c3, c4, c5, c6, c7, c8, c9, c10, c11⟩ := cd
      dsimp only at hmro del okN noI
      subst hmro del
      have es : sl = #[e0, e1, e2, e3, some (.builtin nn), e5] := by
        obtain ⟨ll⟩ := sl
        dsimp only at hslots
        rw [hslots]
      subst es
      exact ⟨bm, c4, c1, c5, c2, c6, c7, c8, c9, c10, dd, e0, e1, e2, e3, e5, _, X _ _ ho, .of_isNs (PySem.W.isNs_of_in X okN), PySem.W.nsMap_none_of_in X okN noI, PySem.W.tail_of_in X tl⟩
    next => cases q
  next => cases q
def bmVE : List Value := [.type "ValueError", .type "Exception", .type "BaseException", .type "object"]
/-- an own class of exceptions under ValueError, by its name -/
structure Exc (K : PySem.W.Frag) (mg : Str → Option Value) (x : Str) (C : Addr) : Prop where
  there : mg x = some (.ref C)
  ok : PySem.W.excIn K C bmVE "ValueError.__new__" = true
def tRaise (E : XK) (c : Value) (te : TE) : TS := fun _ σ H => tCons te tNil σ H fun xs H1 => xs.length ≤ 10 ∧ E c none H1
theorem ps_raise {X : Cx} {E : XK} {x : Str} {C : Addr} {e : Expr} {te : TE} {np cpos pos : Pos} (hR : Raises X E) (hc : X.calm = true) (Z : Exc X.K X.mg x C) (he : PE X e te) (hg : Gl X x := by rfl) (hd : (x == ("__debug__" : Str)) = false := by decide)
    (hs : starEach [e] X.env = (false, eval e X.env) :: starEach [] X.env := by rfl) (hpl : (backTo cpos (starEach [e] X.env)).any (·.1) = false := by rfl) :
    PS X (.Raise (some (.Call (.Name x np) [e] [] cpos)) none pos) (tRaise E (.ref C) te) := by
  intro pins s σ H D I h
  obtain ⟨bm, N, nm, qn, bs, hdc, sn, sub, ab, col, dd, k0, k1, k2, k3, k5, mN, hC, hN, hni, T⟩ := exc_at I.mod.kin Z.ok
  refine wpAny_Raise_call_subT (bmB := bmVE) (nm := nm) (q := qn) (C := C) (N := N) (bs := bs) (bm := bm) (hdct := hdc) (sn := sn) (sub := sub) (ab := ab) (col := col) (dd := dd) (k0 := k0) (k1 := k1) (k2 := k2) (k3 := k3) (k5 := k5) (mN := mN) PySem.F.excBase_ValueError (T.hasType PySem.F.excBase_ValueError.hasBase) (I.ok.hd hc) hpl hni (ld_glob I hg Z.there ⟨rfl, ?_⟩ hd)
  have sp := (pa_cons he pa_nil hs) cpos pins s σ H _ I h
  rw [hs] at sp ⊢
  refine Calls.evalArgs_plain (wpAny_mono sp (fun us s₂ hq => ?_) fun _ _ z => z)
  obtain ⟨xs, H2, I2, r, hl, q2⟩ := hq
  have hl2 : us.length ≤ sizeLine := by
    rw [← r.length]
    exact Nat.le_trans hl (by decide)
  exact ⟨rfl, hl2, I2.bk _ _ hC, hN.keeps I2.bk, T.keeps I2.bk, fun h' ea hm => hR pins σ H2 s₂ h' ea _ _ I2 hm q2⟩
end L2


set_option Elab.async false
set_option linter.all false
set_option maxRecDepth 100000
set_option maxHeartbeats 4000000
namespace L2
open PySem PySem.Spec PyProof.Rows
/-! ### try .. except C as n -/
def Cx.within (X : Cx) (W : Value → Shared → Prop) (pn : List (Addr × Obj)) : Cx := { X with xe := W, pn := pn }
def Cx.inExc (X : Cx) (ea : Addr) : Cx := { X with A := X.A.mark (some (.ref ea)), calm := false, xe := fun _ _ => False }
/-- an exception that is held -/
def excO (ea : Addr) (cls : Value) : HO := .ext fun h => ∃ ob vs, h.get? ea = some ob ∧ ob.cls = cls ∧ ob.data = .fields vs ∧ vs[2]? = some .none
section
variable {X : Cx} {pins : List (Addr × Obj)} {σ : St} {H H1 H' : Hp} {s s1 s' : Shared} {ea : Addr} {cls a0 : Value} {B h' : Heap} {W : Value → Shared → Prop} {pn : List (Addr × Obj)}
theorem Cx.Ok.within (ok : X.Ok) : (X.within W pn).Ok :=
  ⟨ok.mod, ok.kind, ok.glob, ok.blt, ok.above, ok.inj, ok.has, ok.cab, ok.hd, ok.frames, ok.stk, ok.exf, ok.bs, ok.bsz, ok.noex, ok.exfs, ok.funs, ok.frf⟩
theorem Cx.Ok.without (ok : (X.within W pn).Ok) : X.Ok :=
  ⟨ok.mod, ok.kind, ok.glob, ok.blt, ok.above, ok.inj, ok.has, ok.cab, ok.hd, ok.frames, ok.stk, ok.exf, ok.bs, ok.bsz, ok.noex, ok.exfs, ok.funs, ok.frf⟩
theorem Cx.Ok.inExc (ok : X.Ok) : (X.inExc ea).Ok :=
  ⟨ok.mod, ok.kind, ok.glob, ok.blt, ok.above, ok.inj, ok.has, ok.cab, (fun z => nomatch z), ok.frames, ok.stk, ok.exf, ok.bs, ok.bsz, ok.noex, ok.exfs, ok.funs, ok.frf⟩
theorem Cx.Ok.outExc (ok : (X.inExc ea).Ok) (hd : X.calm = true → X.A.handled = none) : X.Ok :=
  ⟨ok.mod, ok.kind, ok.glob, ok.blt, ok.above, ok.inj, ok.has, ok.cab, hd, ok.frames, ok.stk, ok.exf, ok.bs, ok.bsz, ok.noex, ok.exfs, ok.funs, ok.frf⟩
theorem Inv.within (I : Inv X pins σ H s) : Inv (X.within W (X.pn ++ pins)) [] σ H s :=
  ⟨I.ok.within, I.os, I.bare, I.base, I.loc, I.cell, I.free, I.freeC, fun p hp => I.pin p (by rw [List.append_nil] at hp; exact hp), I.hok, I.len⟩
theorem Inv.without {more : List (Addr × Obj)} (I : Inv (X.within W (X.pn ++ pins)) more σ H s) : Inv X pins σ H s :=
  ⟨I.ok.without, I.os, I.bare, I.base, I.loc, I.cell, I.free, I.freeC, fun p hp => I.pin p (List.mem_append_left _ hp), I.hok, I.len⟩
theorem Inv.inExc (I : Inv X pins σ H s) : Inv (X.inExc ea) pins σ H s :=
  ⟨I.ok.inExc, I.os, I.bare, I.base, I.loc, I.cell, I.free, I.freeC, I.pin, I.hok, I.len⟩
theorem Inv.outExc (I : Inv (X.inExc ea) pins σ H s) (hd : X.calm = true → X.A.handled = none) : Inv X pins σ H s :=
  ⟨I.ok.outExc hd, I.os, I.bare, I.base, I.loc, I.cell, I.free, I.freeC, I.pin, I.hok, I.len⟩
/-- nothing is known of the names any more; the frame's map has changed -/
theorem Inv.blank {m : Str → Option Value} {t : Nat} (I : Inv X pins σ H s) (hn : h'.Ns X.env.locals m) (hs : Heap.SameBut X.env.locals s.heap h') : Inv X pins (List.replicate X.N.length none) H { s with heap := h', toks := t } := by
  have old : ∀ b o, X.s₀.heap.get? b = some o → b ≠ X.env.locals := fun b o e => Nat.ne_of_lt (Nat.lt_of_lt_of_le (Heap.lt_size e) I.ok.above)
  refine ⟨I.ok, I.os, I.bare, ⟨fun b o e n hb hx => ?_, fun b o e n hb hx => ?_, I.base.free, fun b o e hx => ?_, I.base.tups, I.base.frzs, I.base.tbls⟩, ⟨m, hn, fun i x v e1 e2 e3 => ?_⟩, fun y c e => ?_, I.free, I.freeC, fun p hp => ?_, fun b ob e => ?_, by simp⟩
  · exact (hs.2 b (old b o e)).trans (I.base.keep b o e n hb hx)
  · obtain ⟨sl, e1⟩ := I.base.slot b o e n hb hx
    exact ⟨sl, (hs.2 b (old b o e)).trans e1⟩
  · obtain ⟨o', e1⟩ := I.base.there b o e hx
    exact ⟨o', (hs.2 b (old b o e)).trans e1⟩
  · rw [List.getElem?_replicate] at e2
    split at e2 <;> cases e2
  · obtain ⟨v, z⟩ := I.cell y c e
    exact ⟨v, z.sameBut hs (I.cne y c e)⟩
  · obtain ⟨e, n, ne, nf, d⟩ := I.pin p hp
    exact ⟨(hs.2 p.1 ne).trans e, n, ne, nf, d⟩
  · refine (I.hok b ob e).stay (fun c v hc q => (hs.2 c ?_).trans q) (fun _ q => q) fun _ _ q => q
    rintro rfl
    rcases hc with z | z
    · rw [← z, I.free] at e; cases e
    · rw [I.free] at z; cases z
theorem Inv.land (I : Inv X pins σ H1 s1) (F : Flies X.prog X.w X.stack H1 s1 ea cls H' s') (hex : X.ex = [])
    (hB : ∀ b o, s'.heap.get? b = some o → b ∉ frs X.stack → ((∃ o', s1.heap.get? b = some o') ∨ ∃ u, H' b = some u) → B.get? b = some o)
    (fl : Heap.FlyingW B X.stack ea cls a0 h') (up : s'.heap.UpToSlots h') (cx : Third ea .none h') : Inv X pins σ (upd H' ea (excO ea cls)) { s' with heap := h' } ∧ H' ea = none := by
  have I' := F.mv I
  have nx : ∀ b, b ∉ X.ex := fun b => by rw [hex]; simp
  obtain ⟨un, hok⟩ := mv_un (h' := h') I I' hex (fun b o q hs c => fl.1 b o (hB b o q hs c)) up
  obtain ⟨oe, vs, he, hc, hd, _⟩ := fl.first
  have h2 : vs[2]? = some .none := by
    obtain ⟨o2, vs2, q1, q2, q3⟩ := cx
    rw [he] at q1
    cases q1
    rw [hd] at q2
    cases q2
    exact q3
  have heB : B.get? ea = none := fl.2.1
  have hne : H' ea = none := by
    cases q : H' ea with
    | none => rfl
    | some u =>
      obtain ⟨o2, q2⟩ := (I'.hok ea u q).there
      have z := hB ea o2 q2 (fun hs => by rw [I'.stkFree ea hs] at q; cases q) (.inr ⟨u, q⟩)
      rw [heB] at z; cases z
  have nof : ∀ b o, s'.heap.get? b = some o → (∀ ws, o.data ≠ .fields ws) → b ≠ ea := fun b o q hd2 z => by
    obtain ⟨sl, q3⟩ := up b o q hd2
    rw [z, he] at q3
    cases q3
    exact hd2 _ hd
  have h0 : X.s₀.heap.get? ea = none := by
    cases q : X.s₀.heap.get? ea with
    | none => rfl
    | some o =>
      obtain ⟨o1, q1⟩ := I'.base.there ea o q (nx ea)
      by_cases hs : ea ∈ frs X.stack
      · obtain ⟨_, o2, q2, hd2⟩ := I'.stack.mem hs
        exact absurd rfl (nof ea o2 q2 hd2)
      · have z := hB ea o1 q1 hs (.inl (I.base.there ea o q (nx ea)))
        rw [heB] at z; cases z
  have ntr : ∀ b u, H' b = some u → b ≠ ea := fun b u e z => by rw [z, hne] at e; cases e
  have cup : ∀ c v, s'.heap.IsCell c v → h'.IsCell c v ∧ c ≠ ea := fun c v ⟨o, ho, hdd⟩ => by
    have hn : ∀ ws, o.data ≠ .fields ws := fun ws z => by rw [hdd] at z; cases z
    obtain ⟨sl, q3⟩ := up c o ho hn
    exact ⟨⟨_, q3, hdd⟩, nof c o ho hn⟩
  have hloc : X.env.locals ≠ ea := by
    obtain ⟨m, ⟨o, es, ep, ho, hdd, _⟩, _⟩ := I'.loc
    exact nof _ o ho fun ws z => by rw [hdd] at z; cases z
  refine ⟨⟨I.ok, I'.os, I'.bare, ⟨fun b o q n hf _ => un.keep b o q n hf (by simp), fun b o q n hf _ => un.slot b o q n hf (by simp), fun b o q n _ => ?_, fun b o q _ => un.there b o q (by simp), fun b xs e => ?_, fun b o u e => ?_, fun b ps e => ?_⟩, ?_, ?_, ?_, ?_, ?_, ?_, I.len⟩, hne⟩
  · rw [upd_ne (fun z => by rw [z, h0] at q; cases q)]
    exact un.free b o q n (by simp)
  · have z := un.tups b xs e
    rw [upd_ne (ntr b _ z)]; exact z
  · have z := un.frzs b o u e
    rw [upd_ne (ntr b _ z)]; exact z
  · obtain ⟨more, z⟩ := un.tbls b ps e
    exact ⟨more, by rw [upd_ne (ntr b _ z)]; exact z⟩
  · obtain ⟨m, hn, hl⟩ := I'.loc
    refine ⟨m, up.ns hn, fun i x v e1 e2 e3 => ?_⟩
    obtain ⟨u, r, l⟩ := hl i x v e1 e2 e3
    refine ⟨u, r, ?_⟩
    rcases l with l | ⟨k, c, e, z⟩
    · exact .inl l
    · exact .inr ⟨k, c, e, (cup c _ z).1⟩
  · intro x c e
    obtain ⟨v, z⟩ := I'.cell x c e
    exact ⟨v, (cup c v z).1⟩
  · rw [upd_ne hloc]; exact I'.free
  · intro x c e
    obtain ⟨v, z⟩ := I'.cell x c e
    rw [upd_ne (cup c v z).2]; exact I'.freeC x c e
  · intro p hp
    obtain ⟨e1, n1, ne1, nf1, d1⟩ := I.pin p hp
    obtain ⟨e, n, ne, nf, d⟩ := I'.pin p hp
    have hs : p.1 ∉ frs X.stack := fun hs => by
      rcases List.mem_cons.mp (I.stkSub p.1 hs) with z | z
      · exact ne z
      · exact nf z
    have z := hB p.1 p.2 e hs (.inl ⟨_, e1⟩)
    have hpe : p.1 ≠ ea := fun y => by rw [y, heB] at z; cases z
    exact ⟨fl.1 _ _ z, by rw [upd_ne hpe]; exact n, ne, nf, d⟩
  · intro b u e
    by_cases hb : b = ea
    · subst hb
      rw [upd_same] at e
      cases e
      refine ⟨⟨oe, vs, he, hc, hd, h2⟩, ⟨oe, he⟩, ?_⟩
      rintro g1 g2 ⟨ob, ws, z1, z2⟩ k
      exact ⟨ob, ws, k ob z1, z2⟩
    · rw [upd_ne hb] at e
      exact (hok b u e).stay (fun _ _ _ q => q) (fun c q => by rw [upd_ne (ntr c _ q)]; exact q) fun c xs q => by rw [upd_ne (ntr c _ q)]; exact q
end
end L2


set_option Elab.async false
set_option linter.all false
set_option maxRecDepth 100000
set_option maxHeartbeats 4000000
namespace L2
open PySem PySem.Spec PyProof.Rows Tw
/-! ### d.setdefault(k, x) -/
def tDSd (td ty tx : TE) : TE := fun σ H Q => td σ H fun x H1 => ∃ a, x = .ref a ∧ IsD H1 a ∧ ty σ H1 fun y H2 => tx σ H2 fun z H3 => ∃ kvs k, H3 a = some (.dK kvs) ∧ y = kV k ∧
  (∀ v, valV kvs k = some v → Q v H3) ∧ (valV kvs k = none → kvs.length < sizeLine ∧ Q z (upd H3 a (.dK (putK kvs k z))))
section
variable {X : Cx} {o e f : Expr} {apos cpos : Pos} {td ty tx : TE}
theorem pe_dsd (ho : PE X o td) (he : PE X e ty) (hf : PE X f tx) (m : M2 X o "setdefault" apos e f cpos) : PE X (.Call (.Attribute o "setdefault" apos) [e, f] [] cpos) (tDSd td ty tx) := by
  intro pins s σ H Q I h
  refine wpAny_Call_method m.base m.few m.line PySem.F.plainAttrs_dict PySem.F.slot_dict_setdefault PySem.F.type_dict_setdefault (thn (ho pins s σ H _ I h) fun u s1 ⟨x, H1, I1, rx, a, ex, d, q1⟩ => ?_)
  subst ex
  obtain rfl : u = Value.ref a := rx
  obtain ⟨t1, t2, _⟩ := isD_at I1 d
  refine ⟨t1, t2, ?_⟩
  rw [m.trees]
  refine Calls.callWith_builtin rfl (Calls.evalArgs_plain (Calls.spliced_cons (thn (he pins s1 σ H1 _ I1 q1) fun iv s2 ⟨y, H2, I2, ry, q2⟩ =>
    Calls.spliced_cons (thn (hf pins s2 σ H2 _ I2 q2) fun fv s3 ⟨z, H3, I3, rz, kvs, k, ea, ey, q3, q4⟩ => Calls.spliced_nil ?_))))
  subst ey
  obtain ⟨hz, hd, vs, rel, dd⟩ := dk_of I3.hok ea
  have rv := rel.val k
  refine call_meetsIn PySem.F.slot_dict_setdefault dd.typeIs PySem.F.entry_dict_setdefault (PySem.F.args_dict_setdefault_3 _ _ _) (kt_meets_setdefault (mixKind X.prog X.w) a (kV_is ry) hd fv)
    ⟨vs, dd, by rw [← rel.length]; exact hz, fun w' hw => ?_, fun hn h' dd' hs => ?_⟩
  · cases l : valV kvs k with
    | none => rw [l, hw] at rv; exact rv.elim
    | some v => rw [l, hw] at rv; exact ⟨v, H3, I3.tok _, rv, q3 v l⟩
  · cases l : valV kvs k with
    | some v => rw [l, hn] at rv; exact rv.elim
    | none =>
      obtain ⟨hl, q5⟩ := q4 l
      have hl2 : (putK kvs k z).length ≤ sizeLine := by have := length_putK kvs k z; omega
      have he : ∃ q, h'.get? a = some q := let ⟨q, _, _, hq, _⟩ := dd'; ⟨q, hq⟩
      exact ⟨z, _, d_write I3 (by rw [ea]; exact True.intro) hs he (dk_new hl2 hd (rel.put k rz) dd'), rz, q5⟩
end
/-! ### for i, x in enumerate(l) -/
section
variable {X : Cx} {pins : List (Addr × Obj)} {σ : St} {H H' : Hp} {s : Shared} {h' : Heap}
theorem upd_keep {b t : Addr} {o u : HO} (e : H b = some o) (hn : H t = none) : upd H t u b = some o := by rw [upd_ne (ne_of_none e hn)]; exact e
/-- two records of ours turned, a new tuple laid -/
theorem Inv.turned2 {e it t : Addr} {xs : List V} {tk : Nat} (I : Inv X pins σ H s) (k : ∀ b o, b ≠ e → b ≠ it → s.heap.get? b = some o → h'.get? b = some o) (he : FpOk X pins H e) (hi : FpOk X pins H it) (ht : s.heap.objs.size ≤ t)
    (new : ObjOk X.prog X.w (upd H t (.tup xs)) h' t (.tup xs)) (hle : ∃ o, h'.get? e = some o) (hli : ∃ o, h'.get? it = some o) : Inv X pins σ (upd H t (.tup xs)) { s with heap := h', toks := tk } := by
  have hn : H t = none := I.hok.fresh ht
  have nch : ∀ b, b ∉ [e, it] → b ≠ e ∧ b ≠ it := fun b hb => ⟨fun z => hb (by simp [z]), fun z => hb (by simp [z])⟩
  refine I.step (g' := s.gens) (d' := s.drawn) (ch := [e, it]) (fun b hb => ?_) (fun b o _ _ hc q _ => k b o (nch b hc).1 (nch b hc).2 q) (fun b o _ _ hc q _ => ⟨o.slots, k b o (nch b hc).1 (nch b hc).2 q⟩)
    (fun b o _ q n => by rw [upd_ne (Nat.ne_of_lt (Nat.lt_of_lt_of_le (Heap.lt_size q) ht))]; exact n) (fun b o hc q => ⟨o, k b o (nch b hc).1 (nch b hc).2 q⟩) (fun b ys q => upd_keep q hn) (fun b o u q => upd_keep q hn)
    (fun b ps q => ⟨#[], by rw [upd_keep q hn]; simp⟩) (fun m hm => ?_) (fun b u q => ?_) I.bare
  · rcases List.mem_cons.mp hb with z | hb
    · rw [z]; exact ⟨he.2.2.2.1, he.2.1, he.2.2.2.2.1, he.2.2.2.2.2⟩
    · have z : b = it := by simpa using hb
      rw [z]; exact ⟨hi.2.2.2.1, hi.2.1, hi.2.2.2.2.1, hi.2.2.2.2.2⟩
  · obtain ⟨o, es, ep, ho, r⟩ := hm
    exact ⟨o, es, ep, k _ o he.2.1.symm hi.2.1.symm ho, r⟩
  · by_cases hb : b = t
    · subst hb
      rw [upd_same] at q
      cases q
      exact new
    · rw [upd_ne hb] at q
      refine (I.hok b u q).stay (fun c v hc z => k c v ?_ ?_ z) (fun c z => upd_keep z hn) fun c ys z => upd_keep z hn
      · rintro rfl
        rcases hc with z | z
        · rw [← z, he.1] at q; cases q
        · rw [he.1] at z; cases z
      · rintro rfl
        rcases hc with z | z
        · rw [← z, hi.1] at q; cases q
        · rw [hi.1] at z; cases z
end
/-- (0, x0), (1, x1), ..: a new tuple each -/
def Ite (K : PySem.W.Frag) (a : Addr) : It :=
  ⟨fun i H => ∃ xs x, SqL K H a xs ∧ xs[i]? = some x, fun i H v H' => ∃ t, v = .ref t ∧ H t = none ∧ ∀ xs, SqL K H a xs → ∃ x, xs[i]? = some x ∧ H' = upd H t (.tup [.int i, x]), fun i H => ∃ xs, SqL K H a xs ∧ xs.length ≤ i⟩
theorem turn_enum {P : Program} {w : World} {K : PySem.W.Frag} {elts : List Expr} {x1} {pos : Pos} (a e it : Addr) (hne : e ≠ it) :
    Turn P w K (.Tuple elts x1 pos) (Ite K a) [e, it] e (fun i h => (∃ old, IsEnum h e it i old) ∧ h.IsListIter it a i) where
  mem := by simp
  obj := fun i h st b hb => by
    obtain ⟨⟨old, st1⟩, o, h1, c, d⟩ := st
    rcases List.mem_cons.mp hb with z | hb
    · subst z
      exact ⟨_, st1, fun v z => by
        have z' : Data.fields _ = Data.cell v := z
        cases z'⟩
    · have z : b = it := by simpa using hb
      subst z
      exact ⟨o, h1, fun v z => by rw [d] at z; cases z⟩
  keep := fun i h h' st k => ⟨let ⟨old, q⟩ := st.1; ⟨old, k e (by simp) _ q⟩, st.2.at fun o q => k it (by simp) o q⟩
  item := by
    intro X hP hw hK hc i pins s σ H E I hf st hg
    subst hP hw hK
    obtain ⟨xs, x, hq, hx⟩ := hg
    obtain ⟨⟨old, he⟩, hit⟩ := st
    obtain ⟨its, rv, p, hz⟩ := I.list hq
    obtain ⟨u, hu, ru⟩ := rv.get hx
    refine wpAny_pyNext_enum_item he hit p.isList (x := u) (by simpa using hu) hne fun h' ho hit' hT hsz hk => ?_
    have hfr : H s.heap.objs.size = none := I.hok.fresh (Nat.le_refl _)
    have I1 : Inv X pins σ (upd H s.heap.objs.size (.tup [.int i, x])) { s with heap := h', toks := s.toks + 1 } :=
      I.turned2 hk (hf e (by simp)) (hf it (by simp)) (Nat.le_refl _) ⟨by show 2 ≤ sizeLine; decide, [.int i s.toks, u], .cons ⟨_, rfl⟩ (.cons ru .nil), ⟨_, hT, rfl, _, rfl⟩⟩ ⟨_, ho⟩ (let ⟨o, q, _⟩ := hit'; ⟨o, q⟩)
    refine ⟨_, rfl, wpAny_letOwnedTupleGo_enum (s := { s with heap := h', toks := s.toks + 1 }) ho fun h2 he2 sb2 => ?_⟩
    have hlt : e < s.heap.objs.size := Heap.lt_size he
    have ilt : it < s.heap.objs.size := let ⟨o, q, _⟩ := hit; Heap.lt_size q
    obtain ⟨f0, f1, f2, f3, f4, f5⟩ := hf e (by simp)
    have I2 := I1.turned (h' := h2) (t' := s.toks + 1) (it := e) (fun b o hb q => (sb2.2 b hb).trans q) (by rw [upd_ne (Nat.ne_of_lt hlt)]; exact f0) f1 f3 f4 f5
    refine ⟨.ref s.heap.objs.size, _, I2, rfl, ⟨_, rfl, hfr, fun ys hy => ⟨x, by rw [I.list_inj hy hq]; exact hx, rfl⟩⟩, ⟨⟨_, by simpa using he2⟩, hit'.at fun o q => (sb2.2 it hne.symm).trans q⟩, fun b hb => ?_⟩
    have hb' : b < s.heap.objs.size := by
      rcases List.mem_cons.mp hb with z | hb
      · rw [z]; exact hlt
      · have z : b = it := by simpa using hb
        rw [z]; exact ilt
    rw [upd_ne (Nat.ne_of_lt hb')]
    exact (hf b hb).1
  done := by
    intro X hP hw hK hc i pins s σ H E I hf st hg
    subst hP hw hK
    obtain ⟨xs, hq, hx⟩ := hg
    obtain ⟨⟨old, he⟩, hit⟩ := st
    obtain ⟨its, rv, p, hz⟩ := I.list hq
    have hl := rv.length
    obtain ⟨f0, f1, f2, f3, f4, f5⟩ := hf it (by simp)
    exact wpAny_pyNext_enum_end (I.ok.hd hc) he hit p.isList (by simp; omega) fun h' eb => ⟨rfl, I.turned (t' := s.toks) (it := it) (fun b o hb q => eb b o hb q) f0 f1 f3 f4 f5⟩
  self := fun _ _ _ _ _ st h => let ⟨⟨_, he⟩, _⟩ := st; wpAny_pyIter_enum he h
def iEnum (K : PySem.W.Frag) (ta : TA) : TI := fun σ H R => ta σ H fun vs H1 => ∃ a, vs = [.ref a] ∧ (∃ xs, SqL K H1 a xs) ∧ R (Ite K a) H1
theorem pi_enum {X : Cx} {a : Expr} {ta : TA} {p pos tpos : Pos} {elts : List Expr} {x1} (hg : Gl X "enumerate") (hm : X.mg "enumerate" = none) (ha : PA X [a] ta) (hs : starEach [a] X.env = [(false, eval a X.env)] := by rfl) :
    PI X (.Tuple elts x1 tpos) (.Call (.Name "enumerate" p) [a] [] pos) (iEnum X.K ta) := by
  intro pins s σ H R I h
  refine Call_ (ld_blt I hg hm boot_enumerate (PyProof.Rows.callWith_type1 (thn (ha pos pins s σ H _ I h) fun us s1 ⟨vs, H1, I1, r1, q1⟩ => ?_) hs rfl))
  obtain ⟨l, ev, ⟨xs, hq⟩, q⟩ := q1
  subst ev
  obtain ⟨u, rfl, ru⟩ := vals1 r1
  cases ru
  obtain ⟨its, rv, pl, hz⟩ := I1.list hq
  refine call_enumerate_list pl.isList fun h' he hit hsz hk => ?_
  refine wpAny_pyIter_enum (s := { s1 with heap := h' }) he ?_
  have I2 : Inv X pins σ H1 { s1 with heap := h', toks := s1.toks } := I1.kept (t' := s1.toks) hk
  refine ⟨s1.heap.objs.size + 1, [s1.heap.objs.size + 1, s1.heap.objs.size], _, _, H1, rfl, I2, turn_enum l _ _ (Nat.succ_ne_self _), ⟨⟨_, by simpa using he⟩, hit⟩, fun b hb => ?_, q⟩
  have hb' : s1.heap.objs.size ≤ b := by
    rcases List.mem_cons.mp hb with z | hb
    · rw [z]; exact Nat.le_succ _
    · have z : b = s1.heap.objs.size := by simpa using hb
      rw [z]; exact Nat.le_refl _
  obtain ⟨f0, f1, f2, f3, f4, f5⟩ := I1.fpOk hb' (I1.hok.fresh hb')
  exact ⟨f0, f1, f2, f3, f4, f5⟩
/-! ### a call of a reckoned def -/
def tCallE (X : Cx) (CX : CXT) (E : XK) (tf : TE) (t : TA) : TE := fun σ H Q => tf σ H fun x H1 => ∃ f fd ps sp k, x = .ref f ∧ FnOk X.prog X.w X.K X.mg X.base CX k f fd ps sp ∧ Room k X.A ∧ PySem.W.keepIn X.K (.ref f) = true ∧ Binds X.K fd ps [] ∧ t σ H1 fun vs H2 => sp vs H2 Q E
theorem pe_callE {X : Cx} {CX : CXT} {E : XK} {fe e : Expr} {es : List Expr} {tf : TE} {t : TA} {pos : Pos} (hx : Passes CX X E) (hf : PE X fe tf) (ha : PA X (e :: es) t)
    (hev : eval (.Call fe (e :: es) [] pos) X.env = (do callWith pos (← eval fe X.env) [] (backTo pos (starEach (e :: es) X.env)) (backToKw pos (keywordEach [] X.env))) := by rfl)
    (he : starEach (e :: es) X.env = (false, eval e X.env) :: starEach es X.env := by rfl) (hpl : (backTo pos (starEach es X.env)).any (·.1) = false := by rfl) : PE X (.Call fe (e :: es) [] pos) (tCallE X CX E tf t) := by
  intro pins s σ H Q I h
  refine Call_ (thn (hf pins s σ H _ I h) fun fv s1 ⟨x, H1, I1, rx, f, fd, ps, sp, k, ex, F, hr, hk, hb, q⟩ => ?_) hev
  subst ex
  obtain rfl : fv = Value.ref f := rx
  refine PySem.W.callWith_K (h₀ := X.base) I.ok.mod.kin hk (thn (ha pos pins s1 σ H1 _ I1 q) fun us s2 ⟨vs, H2, I2, r, q2⟩ => ⟨I2.kIn, ?_⟩) he hpl
  exact run_fn (dvs := []) (ds := []) F hr hb .nil hx I2 r (by rw [List.append_nil]; exact q2)
/-! ### range(hi, lo, -1) -/
def Itd1 (hi : Int) (n : Nat) : It := ⟨fun i _ => i < n, fun i H x H' => H' = H ∧ x = .int (hi - i), fun i _ => n ≤ i⟩
theorem turn_down {P : Program} {w : World} {K : PySem.W.Frag} {tg : Expr} (it : Addr) (hi : Int) (n : Nat) : Turn P w K tg (Itd1 hi n) [it] it (fun i h => IsRangeIter h it (hi + (i : Nat) * (-1)) ((n : Int) - (i : Nat)) (-1)) where
  mem := by simp
  obj := fun i h st b hb => by
    have e : b = it := by simpa using hb
    subst e
    exact ⟨_, st, fun v z => by
      have z' : Data.fields _ = Data.cell v := z
      cases z'⟩
  keep := fun i h h' st k => k it (by simp) _ st
  item := by
    intro X hP hw hK hc i pins s σ H E I hf st hg
    subst hP hw hK
    obtain ⟨f0, f1, f2, f3, f4, f5⟩ := hf it (by simp)
    have W := Walks.range (prog := X.prog) (w := X.w) (I.ok.hd hc) it hi (-1) n
    refine W.item i s _ _ hg st fun v h' tk hv st' kk => ?_
    obtain ⟨t, rfl⟩ := hv
    have I1 : Inv X pins σ H { s with heap := h', toks := tk } := I.turned (fun b o hb e => kk b o (by simpa using hb) e) f0 f1 f3 f4 f5
    refine ⟨_, rfl, go_of (s := { s with heap := h', toks := tk }) (n := "range_iterator") st' rfl rfl (by decide) ⟨.int (hi - i), H, I1, ⟨t, ?_⟩, ⟨rfl, rfl⟩, st', fun b hb => (hf b hb).1⟩⟩
    rw [show hi + (i : Int) * (-1) = hi - i by omega]
  done := by
    intro X hP hw hK hc i pins s σ H E I hf st hg
    subst hP hw hK
    obtain ⟨f0, f1, f2, f3, f4, f5⟩ := hf it (by simp)
    exact wpAny_pyNext_range_end (I.ok.hd hc) st (by have : n ≤ i := hg; omega) fun h' eb => ⟨rfl, I.turned (t' := s.toks) (fun b o hb e => eb b o hb e) f0 f1 f3 f4 f5⟩
  self := fun _ _ _ _ _ st h => wpAny_pyIter_rangeiter st h
def iDown (ta : TA) : TI := fun σ H R => ta σ H fun vs H1 => ∃ i j : Int, vs = [.int i, .int j, .int (-1)] ∧ (-1000000000 ≤ i ∧ i ≤ 1000000000 ∧ -1000000000 ≤ j ∧ j ≤ 1000000000) ∧ R (Itd1 i (i - j).toNat) H1
theorem small_down {a b : Int} (ha : -1000000000 ≤ a) (ha' : a ≤ 1000000000) (hb : -1000000000 ≤ b) (hb' : b ≤ 1000000000) : Builtin.Range.small a b (-1) = true := by
  unfold Builtin.Range.small
  rw [PySem.W.rangeSize_down]
  simp only [Builtin.Range.rangeFitsLong, Bool.and_eq_true, Bool.or_eq_true, decide_eq_true_eq, beq_iff_eq, show ¬ ((-1 : Int) > 0) by decide, if_false]
  split <;> omega
theorem pi_down {X : Cx} {tg a b c : Expr} {ta : TA} {p pos : Pos} (hg : Gl X "range") (hm : X.mg "range" = none) (ha : PA X [a, b, c] ta) (hs : starEach [a, b, c] X.env = (false, eval a X.env) :: starEach [b, c] X.env := by rfl)
    (hs2 : (backTo pos (starEach [b, c] X.env)).any (·.1) = false := by rfl) : PI X tg (.Call (.Name "range" p) [a, b, c] [] pos) (iDown ta) := by
  intro pins s σ H R I h
  refine Call_ (ld_blt I hg hm boot_range (PyProof.Rows.callWith_type1 (thn (ha pos pins s σ H _ I h) fun us s1 ⟨vs, H1, I1, r1, q1⟩ => ?_) hs hs2))
  obtain ⟨i, j, e, ⟨q1, q2, q3, q4⟩, q⟩ := q1
  subst e
  obtain ⟨u1, u2, u3, rfl, ⟨t1, rfl⟩, ⟨t2, rfl⟩, ⟨t3, rfl⟩⟩ : ∃ u1 u2 u3, us = [u1, u2, u3] ∧ RelV (.int i) u1 ∧ RelV (.int j) u2 ∧ RelV (.int (-1)) u3 := by
    cases r1 with
    | cons a1 r1 => cases r1 with
      | cons a2 r1 => cases r1 with
        | cons a3 r1 => cases r1; exact ⟨_, _, _, rfl, a1, a2, a3⟩
  refine call_range_3 (by decide) ?_ (.inl (PyProof.noPylong_small (by omega)))
  refine wpAny_pyIter_range (IsRange.new ..) (small_down q1 q2 q3 q4) ?_
  have I2 : Inv X pins σ H1 { s1 with heap := s1.heap.push { cls := .type "range", data := .fields #[.int i t1, .int j t2, .int (-1) t3] }, toks := s1.toks } := I1.kept fun b o e => Heap.get?_push_of_some _ e
  refine ⟨(s1.heap.push { cls := .type "range", data := .fields #[.int i t1, .int j t2, .int (-1) t3] }).objs.size, [(s1.heap.push { cls := .type "range", data := .fields #[.int i t1, .int j t2, .int (-1) t3] }).objs.size], _, _, H1, rfl,
    I2.kept (t' := s1.toks) fun b o e => Heap.get?_push_of_some _ e, turn_down _ i (i - j).toNat, ?_, fun b hb => ?_, q⟩
  · have e1 : i + ((0 : Nat) : Int) * (-1) = i := by simp
    have e2 : (((i - j).toNat : Nat) : Int) - ((0 : Nat) : Int) = Builtin.Range.rangeSize i j (-1) := by rw [PySem.W.rangeSize_downNat]; simp
    show IsRangeIter _ _ (i + ((0 : Nat) : Int) * (-1)) ((((i - j).toNat : Nat) : Int) - ((0 : Nat) : Int)) (-1)
    rw [e1, e2]
    exact Heap.get?_push_size _ rfl
  · have e : b = (s1.heap.push { cls := .type "range", data := .fields #[.int i t1, .int j t2, .int (-1) t3] }).objs.size := by simpa using hb
    subst e
    exact I2.fpOk (Nat.le_refl _) (I2.hok.fresh (Nat.le_refl _))
end L2


set_option Elab.async false
set_option linter.all false
namespace Tw
/-! ### words in groups, by length: the mirror -/
def addNew {α : Type} [DecidableEq α] (l : List α) (x : α) : List α := if x ∈ l then l else l ++ [x]
theorem mem_addNew {α : Type} [DecidableEq α] {l : List α} {x y : α} : y ∈ addNew l x ↔ y ∈ l ∨ y = x := by
  unfold addNew
  split
  · rename_i h
    exact ⟨.inl, fun z => z.elim id fun e => e ▸ h⟩
  · simp
theorem nd_addNew {α : Type} [DecidableEq α] {l : List α} {x : α} (h : l.Nodup) : (addNew l x).Nodup := by
  unfold addNew
  split
  · exact h
  · rename_i hx
    rw [List.nodup_append]
    exact ⟨h, by simp, fun a ha b hb => by rw [List.mem_singleton.mp hb]; intro e; exact hx (e ▸ ha)⟩
def lensOf (ws : List W) : List Nat := ws.foldl (fun acc x => addNew acc x.length) []
def wordsOf (ws : List W) (n : Nat) : List W := ws.foldl (fun acc x => if x.length = n then addNew acc x else acc) []
def placesOf (ws : List W) (x : W) : List Nat := (List.range ws.length).filter fun i => decide (ws[i]? = some x)
theorem lensOf_snoc (ws : List W) (x : W) : lensOf (ws ++ [x]) = addNew (lensOf ws) x.length := by
  unfold lensOf; rw [List.foldl_append]; rfl
theorem wordsOf_snoc (ws : List W) (x : W) (n : Nat) : wordsOf (ws ++ [x]) n = if x.length = n then addNew (wordsOf ws n) x else wordsOf ws n := by
  unfold wordsOf; rw [List.foldl_append]; rfl
theorem snoc_ind {α : Type} {P : List α → Prop} (h0 : P []) (hs : ∀ l x, P l → P (l ++ [x])) : ∀ l, P l := by
  intro l
  have : ∀ n, ∀ l : List α, l.length = n → P l := by
    intro n
    induction n with
    | zero => intro l hl; rw [List.eq_nil_of_length_eq_zero hl]; exact h0
    | succ n ih =>
      intro l hl
      have hne : l ≠ [] := fun e => by rw [e] at hl; cases hl
      rw [← List.dropLast_concat_getLast hne]
      exact hs _ _ (ih _ (by simp [hl]))
  exact this _ l rfl
theorem mem_lensOf (ws : List W) (n : Nat) : n ∈ lensOf ws ↔ ∃ x ∈ ws, x.length = n := by
  induction ws using snoc_ind with
  | h0 => simp [lensOf]
  | hs ws x ih =>
    rw [lensOf_snoc, mem_addNew, ih]
    constructor
    · rintro (⟨y, hy, e⟩ | e)
      · exact ⟨y, List.mem_append_left _ hy, e⟩
      · exact ⟨x, by simp, e.symm⟩
    · rintro ⟨y, hy, e⟩
      rcases List.mem_append.mp hy with hy | hy
      · exact .inl ⟨y, hy, e⟩
      · rw [List.mem_singleton.mp hy] at e; exact .inr e.symm
theorem nd_lensOf (ws : List W) : (lensOf ws).Nodup := by
  induction ws using snoc_ind with
  | h0 => exact List.nodup_nil
  | hs ws x ih => rw [lensOf_snoc]; exact nd_addNew ih
theorem lensOf_len (ws : List W) : (lensOf ws).length ≤ ws.length := by
  induction ws using snoc_ind with
  | h0 => exact Nat.le_refl _
  | hs ws x ih =>
    rw [lensOf_snoc]
    unfold addNew
    split <;> simp <;> omega
theorem mem_wordsOf (ws : List W) (n : Nat) (x : W) : x ∈ wordsOf ws n ↔ x ∈ ws ∧ x.length = n := by
  induction ws using snoc_ind with
  | h0 => simp [wordsOf]
  | hs ws y ih =>
    rw [wordsOf_snoc, List.mem_append, List.mem_singleton]
    split
    · rename_i hy
      rw [mem_addNew, ih]
      constructor
      · rintro (⟨a, b⟩ | e)
        · exact ⟨.inl a, b⟩
        · exact ⟨.inr e, by rw [e]; exact hy⟩
      · rintro ⟨a | a, b⟩
        · exact .inl ⟨a, b⟩
        · exact .inr a
    · rename_i hy
      rw [ih]
      constructor
      · rintro ⟨a, b⟩; exact ⟨.inl a, b⟩
      · rintro ⟨a | a, b⟩
        · exact ⟨a, b⟩
        · exact absurd (a ▸ b) hy
theorem nd_wordsOf (ws : List W) (n : Nat) : (wordsOf ws n).Nodup := by
  induction ws using snoc_ind with
  | h0 => exact List.nodup_nil
  | hs ws x ih =>
    rw [wordsOf_snoc]
    split
    · exact nd_addNew ih
    · exact ih
theorem wordsOf_len (ws : List W) (n : Nat) : (wordsOf ws n).length ≤ ws.length := by
  induction ws using snoc_ind with
  | h0 => exact Nat.le_refl _
  | hs ws x ih =>
    rw [wordsOf_snoc]
    unfold addNew
    split
    · split <;> simp <;> omega
    · simp; omega
theorem placesOf_snoc (ws : List W) (x y : W) : placesOf (ws ++ [x]) y = placesOf ws y ++ if x = y then [ws.length] else [] := by
  unfold placesOf
  rw [List.length_append, List.length_singleton, List.range_succ, List.filter_append]
  congr 1
  · apply List.filter_congr
    intro i hi
    rw [List.getElem?_append_left (List.mem_range.mp hi)]
  · simp [List.filter_cons]
theorem mem_placesOf (ws : List W) (x : W) (i : Nat) : i ∈ placesOf ws x ↔ ws[i]? = some x := by
  unfold placesOf
  rw [List.mem_filter, List.mem_range, decide_eq_true_iff]
  exact ⟨fun h => h.2, fun h => ⟨(List.getElem?_eq_some_iff.mp h).1, h⟩⟩
theorem placesOf_len (ws : List W) (x : W) : (placesOf ws x).length ≤ ws.length := by
  unfold placesOf
  exact Nat.le_trans (List.length_filter_le _ _) (by simp)
theorem placesOf_none {ws : List W} {x : W} (h : x ∉ ws) : placesOf ws x = [] := by
  rw [List.eq_nil_iff_forall_not_mem]
  intro i hi
  rw [mem_placesOf] at hi
  exact h (List.mem_of_getElem? hi)
theorem placesOf_up (ws : List W) (x : W) : (placesOf ws x).Pairwise (· < ·) := by
  unfold placesOf
  exact List.Pairwise.filter _ List.pairwise_lt_range
/-- the lengths of the words that stand at a mark, in the groups' order -/
def cut (t : W) (m n : Nat) : W := (t.drop m).take n
def standL (ws : List W) (t : W) (m : Nat) : List Nat := (lensOf ws).filter fun n => decide (n ≤ t.length - m) && decide (cut t m n ∈ ws)
theorem mem_standL (ws : List W) (t : W) (m n : Nat) (hm : m ≤ t.length) : n ∈ standL ws t m ↔ cut t m n ∈ ws ∧ n ≤ t.length - m ∧ (cut t m n).length = n := by
  unfold standL
  rw [List.mem_filter, Bool.and_eq_true, decide_eq_true_iff, decide_eq_true_iff, mem_lensOf]
  have hl : n ≤ t.length - m → (cut t m n).length = n := fun h => by unfold cut; simp; omega
  constructor
  · rintro ⟨_, h1, h2⟩; exact ⟨h2, h1, hl h1⟩
  · rintro ⟨h1, h2, h3⟩; exact ⟨⟨_, h1, h3⟩, h2, h1⟩
theorem standL_len (ws : List W) (t : W) (m : Nat) : (standL ws t m).length ≤ ws.length := Nat.le_trans (List.length_filter_le _ _) (lensOf_len ws)
/-! ### how many readings of what is behind a mark -/
def wayStep (ws : List W) (t : W) (w : Nat → Int) (m : Nat) : Int := ((standL ws t m).map fun n => ((placesOf ws (cut t m n)).length : Int) * w (m + n)).sum
def Ways (ws : List W) (t : W) (w : Nat → Int) : Prop := w t.length = 1 ∧ ∀ m, m < t.length → w m = wayStep ws t w m
/-- no word is empty -/
def Full (ws : List W) : Prop := ∀ x ∈ ws, x ≠ []
theorem standL_pos {ws : List W} (hf : Full ws) {t : W} {m n : Nat} (hm : m ≤ t.length) (h : n ∈ standL ws t m) : 0 < n ∧ m + n ≤ t.length := by
  obtain ⟨h1, h2, h3⟩ := (mem_standL ws t m n hm).mp h
  refine ⟨?_, by omega⟩
  rcases Nat.eq_zero_or_pos n with z | z
  · subst z
    exact absurd (List.eq_nil_of_length_eq_zero h3) (hf _ h1)
  · exact z
theorem wayStep_congr {ws : List W} {t : W} {w w' : Nat → Int} {m : Nat} (h : ∀ n ∈ standL ws t m, w (m + n) = w' (m + n)) : wayStep ws t w m = wayStep ws t w' m := by
  unfold wayStep
  congr 1
  apply List.map_congr_left
  intro n hn
  rw [h n hn]
def wayTab (ws : List W) (t : W) : Nat → Nat → Int
  | 0, m => if m = t.length then 1 else 0
  | k + 1, m => if m + (k + 1) = t.length then wayStep ws t (wayTab ws t k) m else wayTab ws t k m
def waysOf (ws : List W) (t : W) (m : Nat) : Int := wayTab ws t (t.length - m) m
theorem wayTab_up {ws : List W} {t : W} : ∀ (k j m : Nat), t.length ≤ m + k → wayTab ws t (k + j) m = wayTab ws t k m
  | k, 0, m, _ => rfl
  | k, j + 1, m, h => by
    show (if m + (k + j + 1) = t.length then _ else wayTab ws t (k + j) m) = _
    rw [if_neg (by omega)]
    exact wayTab_up k j m h
theorem ways_waysOf {ws : List W} (hf : Full ws) (t : W) : Ways ws t (waysOf ws t) := by
  constructor
  · unfold waysOf; simp [wayTab]
  · intro m hm
    unfold waysOf
    obtain ⟨k, hk⟩ : ∃ k, t.length - m = k + 1 := ⟨t.length - m - 1, by omega⟩
    rw [hk]
    show (if m + (k + 1) = t.length then _ else _) = _
    rw [if_pos (by omega)]
    apply wayStep_congr
    intro n hn
    obtain ⟨h1, h2⟩ := standL_pos hf (by omega) hn
    have e : k = (t.length - (m + n)) + (k - (t.length - (m + n))) := by omega
    rw [e, wayTab_up _ _ _ (by omega)]
end Tw


set_option Elab.async false
set_option linter.all false
set_option maxRecDepth 100000
set_option maxHeartbeats 4000000
namespace L2
open PySem PySem.Spec PyProof.Rows Tw
theorem valV_of {α : Type} {κ : α → Key} {v : α → V} : ∀ {l : List α}, (∀ a ∈ l, ∀ b ∈ l, κ a = κ b → a = b) → ∀ {a : α}, a ∈ l → valV (l.map fun a => (κ a, v a)) (κ a) = some (v a)
  | [], _, _, h => nomatch h
  | b :: l, inj, a, h => by
    rw [List.map_cons]
    by_cases e : κ b = κ a
    · have := inj b List.mem_cons_self a h e
      subst this
      exact valV_pos rfl
    · rw [valV_neg (p := (κ b, v b)) e]
      rcases List.mem_cons.mp h with z | z
      · exact absurd (by rw [z]) e
      · exact valV_of (fun x hx y hy => inj x (List.mem_cons_of_mem _ hx) y (List.mem_cons_of_mem _ hy)) z
theorem valV_no {α : Type} {κ : α → Key} {v : α → V} {k : Key} : ∀ {l : List α}, (∀ a ∈ l, κ a ≠ k) → valV (l.map fun a => (κ a, v a)) k = none
  | [], _ => rfl
  | b :: l, h => by
    rw [List.map_cons, valV_neg (p := (κ b, v b)) (h b List.mem_cons_self)]
    exact valV_no fun a ha => h a (List.mem_cons_of_mem _ ha)
theorem lenK_inj {a b : Nat} (e : (.inl (a : Int) : Key) = .inl (b : Int)) : a = b := by have := Sum.inl.inj e; omega
theorem wK_inj {a b : W} (e : (.inr (st a) : Key) = .inr (st b)) : a = b := st_inj (Sum.inr.inj e)
theorem upd_k {H : Hp} {b t : Addr} {o u : HO} (e : H b = some o) (hn : b ≠ t) : upd H t u b = some o := by rw [upd_ne hn]; exact e
theorem small1000000 {n : Nat} (h : n ≤ 1000000) : n < sizeLine := Nat.lt_of_le_of_lt h (by decide)
abbrev intsV (r : List Nat) : List V := r.map fun (i : Nat) => V.int i
/-- groups at g, by lengths L: the dicts d n, the lists f x -/
structure GL (H : Hp) (g : Addr) (ws : List W) (L : List Nat) (d : Nat → Addr) (f : W → Addr) : Prop where
  gd : H g = some (.dK (L.map fun (n : Nat) => ((.inl (n : Int) : Key), V.ref (d n))))
  inn : ∀ n ∈ L, H (d n) = some (.dK ((wordsOf ws n).map fun (x : W) => ((.inr (st x) : Key), V.ref (f x))))
  lst : ∀ x ∈ ws, H (f x) = some (.lst (intsV (placesOf ws x)))
  dinj : ∀ n ∈ L, ∀ m ∈ L, d n = d m → n = m
  finj : ∀ x ∈ ws, ∀ y ∈ ws, f x = f y → x = y
  dg : ∀ n ∈ L, d n ≠ g
  cov : ∀ x ∈ ws, x.length ∈ L
section
variable {H : Hp} {g l : Addr} {ws : List W} {L : List Nat} {d : Nat → Addr} {f : W → Addr} {x : W} {n : Nat} {o : HO}
theorem GL.new (G : GL H g ws L d f) (h : H l = none) : GL (upd H l o) g ws L d f :=
  ⟨upd_keep G.gd h, fun n hn => upd_keep (G.inn n hn) h, fun x hx => upd_keep (G.lst x hx) h, G.dinj, G.finj, G.dg, G.cov⟩
theorem GL.len (G : GL H g ws L d f) (hn : n ∉ L) (h : H l = none) :
    GL (upd (upd H l (.dK [])) g (.dK (putK (L.map fun (n : Nat) => ((.inl (n : Int) : Key), V.ref (d n))) (.inl (n : Int)) (.ref l)))) g ws (L ++ [n]) (fun k => if k = n then l else d k) f := by
  have lg : l ≠ g := (ne_of_none G.gd h).symm
  have hd : ∀ m ∈ L, (if m = n then l else d m) = d m := fun m hm => if_neg fun (e : m = n) => hn (e ▸ hm)
  refine ⟨?_, fun m hm => ?_, fun x hx => ?_, fun m hm k hk e => ?_, G.finj, fun m hm => ?_, fun x hx => List.mem_append_left _ (G.cov x hx)⟩
  · rw [upd_same, putK_new _ (valV_no (κ := fun n : Nat => (.inl (n : Int) : Key)) fun a ha e => hn (lenK_inj (b := n) e ▸ ha)), List.map_append]
    congr 2
    · congr 1
      · apply List.map_congr_left
        intro m hm
        rw [hd m hm]
      · simp
  · rcases List.mem_append.mp hm with hm | hm
    · show upd (upd H l (.dK [])) g _ (if m = n then l else d m) = _
      rw [hd m hm]
      exact upd_k (upd_keep (G.inn m hm) h) (G.dg m hm)
    · have e : m = n := by simpa using hm
      subst e
      show upd (upd H l (.dK [])) g _ (if m = m then l else d m) = _
      rw [if_pos rfl, upd_ne lg, upd_same]
      have : wordsOf ws m = [] := by
        rw [List.eq_nil_iff_forall_not_mem]
        intro x hx
        obtain ⟨h1, h2⟩ := (mem_wordsOf ws m x).mp hx
        exact hn (h2 ▸ G.cov x h1)
      rw [this]; rfl
  · exact upd_k (upd_keep (G.lst x hx) h) (ne_of (G.lst x hx) G.gd (by simp))
  · have dn : ∀ m ∈ L, d m ≠ l := fun m hm => ne_of_none (G.inn m hm) h
    rcases List.mem_append.mp hm with hm | hm <;> rcases List.mem_append.mp hk with hk | hk
    · replace e : (if m = n then l else d m) = (if k = n then l else d k) := e
      rw [hd m hm, hd k hk] at e
      exact G.dinj m hm k hk e
    · have ek : k = n := by simpa using hk
      replace e : (if m = n then l else d m) = (if k = n then l else d k) := e
      rw [hd m hm, if_pos ek] at e
      exact absurd e (dn m hm)
    · have em : m = n := by simpa using hm
      replace e : (if m = n then l else d m) = (if k = n then l else d k) := e
      rw [hd k hk, if_pos em] at e
      exact absurd e.symm (dn k hk)
    · have em : m = n := by simpa using hm
      have ek : k = n := by simpa using hk
      rw [em, ek]
  · rcases List.mem_append.mp hm with hm | hm
    · show (if m = n then l else d m) ≠ g
      rw [hd m hm]; exact G.dg m hm
    · have em : m = n := by simpa using hm
      show (if m = n then l else d m) ≠ g
      rw [if_pos em]; exact lg
theorem GL.more (G : GL H g ws L d f) (hx : x ∈ ws) : GL (upd H (f x) (.lst (intsV (placesOf ws x) ++ [.int (ws.length : Nat)]))) g (ws ++ [x]) L d f := by
  have hl := G.lst x hx
  have all : ∀ y, y ∈ ws ++ [x] → y ∈ ws := fun y hy => by
    rcases List.mem_append.mp hy with z | z
    · exact z
    · rw [List.mem_singleton.mp z]; exact hx
  refine ⟨upd_k G.gd (ne_of G.gd hl (by simp)), fun m hm => ?_, fun y hy => ?_, G.dinj, fun a ha b hb => G.finj a (all a ha) b (all b hb), G.dg, fun y hy => G.cov y (all y hy)⟩
  · have : wordsOf (ws ++ [x]) m = wordsOf ws m := by
      rw [wordsOf_snoc]
      split
      · rename_i e
        unfold addNew
        rw [if_pos ((mem_wordsOf ws m x).mpr ⟨hx, e⟩)]
      · rfl
    rw [this]
    exact upd_k (G.inn m hm) (ne_of (G.inn m hm) hl (by simp))
  · rw [placesOf_snoc]
    by_cases e : x = y
    · subst e
      rw [upd_same, if_pos rfl]
      simp [intsV]
    · rw [if_neg e, List.append_nil]
      exact upd_k (G.lst y (all y hy)) fun z => e (G.finj y (all y hy) x hx z).symm
theorem GL.word (G : GL H g ws L d f) (hx : x ∉ ws) (hn : x.length ∈ L) (h : H l = none) :
    GL (upd (upd (upd H l (.lst [])) (d x.length) (.dK (putK ((wordsOf ws x.length).map fun (x : W) => ((.inr (st x) : Key), V.ref (f x))) (.inr (st x)) (.ref l)))) l (.lst ([] ++ [.int (ws.length : Nat)]))) g (ws ++ [x]) L d (fun y => if y = x then l else f y) := by
  have hf : ∀ y ∈ ws, (if y = x then l else f y) = f y := fun y hy => if_neg fun (e : y = x) => hx (e ▸ hy)
  have fl : ∀ y ∈ ws, f y ≠ l := fun y hy => ne_of_none (G.lst y hy) h
  have dl : ∀ m ∈ L, d m ≠ l := fun m hm => ne_of_none (G.inn m hm) h
  refine ⟨?_, fun m hm => ?_, fun y hy => ?_, G.dinj, fun a ha b hb e => ?_, G.dg, fun y hy => ?_⟩
  · exact upd_k (upd_k (upd_keep G.gd h) (G.dg _ hn).symm) (ne_of_none G.gd h)
  · rw [upd_ne (dl m hm), wordsOf_snoc]
    by_cases e : x.length = m
    · subst e
      rw [upd_same, if_pos rfl]
      have nx : x ∉ wordsOf ws x.length := fun z => hx ((mem_wordsOf ws _ x).mp z).1
      unfold addNew
      rw [if_neg nx, putK_new _ (valV_no (κ := fun x : W => (.inr (st x) : Key)) fun a ha e => nx (by have z := wK_inj (a := a) (b := x) e; rw [z] at ha; exact ha)), List.map_append]
      congr 2
      congr 1
      · apply List.map_congr_left
        intro y hy
        rw [hf y ((mem_wordsOf ws _ y).mp hy).1]
      · simp
    · have dne : d m ≠ d x.length := fun z => e (G.dinj _ hm _ hn z).symm
      rw [if_neg e, upd_ne dne, upd_ne (dl m hm), G.inn m hm]
      congr 2
      apply List.map_congr_left
      intro y hy
      rw [hf y ((mem_wordsOf ws _ y).mp hy).1]
  · rw [placesOf_snoc]
    rcases List.mem_append.mp hy with hy | hy
    · have e : ¬ x = y := fun e => hx (e ▸ hy)
      rw [if_neg e, List.append_nil]
      show upd _ l _ (if y = x then l else f y) = _
      rw [hf y hy]
      exact upd_k (upd_k (upd_keep (G.lst y hy) h) (ne_of (G.lst y hy) (G.inn _ hn) (by simp))) (fl y hy)
    · have e : y = x := by simpa using hy
      subst e
      show upd _ l _ (if y = y then l else f y) = _
      rw [if_pos rfl, if_pos rfl, upd_same, placesOf_none hx]
      simp [intsV]
  · rcases List.mem_append.mp ha with ha | ha <;> rcases List.mem_append.mp hb with hb | hb
    · replace e : (if a = x then l else f a) = (if b = x then l else f b) := e
      rw [hf a ha, hf b hb] at e
      exact G.finj a ha b hb e
    · have eb : b = x := by simpa using hb
      replace e : (if a = x then l else f a) = (if b = x then l else f b) := e
      rw [hf a ha, if_pos eb] at e
      exact absurd e (fl a ha)
    · have ea : a = x := by simpa using ha
      replace e : (if a = x then l else f a) = (if b = x then l else f b) := e
      rw [hf b hb, if_pos ea] at e
      exact absurd e.symm (fl b hb)
    · have ea : a = x := by simpa using ha
      have eb : b = x := by simpa using hb
      rw [ea, eb]
  · rcases List.mem_append.mp hy with hy | hy
    · exact G.cov y hy
    · have e : y = x := by simpa using hy
      rw [e]; exact hn
end
/-! ### the forms of for -/
theorem for_enum {K : PySem.W.Frag} {a : Addr} {xs : List V} {g : TG} {tb : TS} {D : Ends} {σ : St} {H : Hp} (Pv : Nat → St → Hp → Prop) (h0 : Pv 0 σ H) (hl : ∀ i σ H, i ≤ xs.length → Pv i σ H → SqL K H a xs)
    (hs : ∀ i x t σ H, xs[i]? = some x → Pv i σ H → H t = none → g (.ref t) σ (upd H t (.tup [.int i, x])) fun σ2 H2 => tb { D with nx := Pv (i + 1), ct := Pv (i + 1), bk := D.nx } σ2 H2) (hd : ∀ σ H, Pv xs.length σ H → D.nx σ H) :
    ∃ W : Nat → Nat → St → Hp → Prop, (∃ m, W 0 m σ H) ∧ ∀ i m σ H, W i m σ H →
      ((Ite K a).stop i H ∧ D.nx σ H) ∨ ((Ite K a).go i H ∧ ∃ N : St → Hp → Prop, (∀ σ' H', N σ' H' → ∃ m', m' < m ∧ W (i + 1) m' σ' H') ∧ ∀ x H', (Ite K a).yld i H x H' → g x σ H' fun σ2 H2 => tb { D with nx := N, ct := N, bk := D.nx } σ2 H2) := by
  refine ⟨fun i m σ H => m = xs.length - i ∧ i ≤ xs.length ∧ Pv i σ H, ⟨xs.length, by simp, Nat.zero_le _, h0⟩, ?_⟩
  rintro i m σ H ⟨rfl, hi, p⟩
  have q := hl i σ H hi p
  by_cases hlt : i < xs.length
  · refine .inr ⟨⟨xs, xs[i], q, by simp [hlt]⟩, Pv (i + 1), fun σ' H' p' => ⟨xs.length - (i + 1), by omega, rfl, hlt, p'⟩, fun x H' y => ?_⟩
    obtain ⟨t, rfl, ht, y⟩ := y
    obtain ⟨x, hx, rfl⟩ := y xs q
    exact hs i x t σ H hx p ht
  · have e : i = xs.length := by omega
    subst e
    exact .inl ⟨⟨xs, q, Nat.le_refl _⟩, hd σ H p⟩
theorem for_dict {a : Addr} {o : Obj} {kvs : List (Key × V)} {g : TG} {tb : TS} {D : Ends} {σ : St} {H : Hp} (Pv : Nat → St → Hp → Prop) (h0 : Pv 0 σ H) (hl : ∀ i σ H, i ≤ kvs.length → Pv i σ H → H a = some (.frz o (.dK kvs)))
    (hs : ∀ i p σ H, kvs[i]? = some p → Pv i σ H → g (kV p.1) σ H fun σ2 H2 => tb { D with nx := Pv (i + 1), ct := Pv (i + 1), bk := D.nx } σ2 H2) (hd : ∀ σ H, Pv kvs.length σ H → D.nx σ H) :
    ∃ W : Nat → Nat → St → Hp → Prop, (∃ m, W 0 m σ H) ∧ ∀ i m σ H, W i m σ H →
      ((Itd a o kvs).stop i H ∧ D.nx σ H) ∨ ((Itd a o kvs).go i H ∧ ∃ N : St → Hp → Prop, (∀ σ' H', N σ' H' → ∃ m', m' < m ∧ W (i + 1) m' σ' H') ∧ ∀ x H', (Itd a o kvs).yld i H x H' → g x σ H' fun σ2 H2 => tb { D with nx := N, ct := N, bk := D.nx } σ2 H2) := by
  refine ⟨fun i m σ H => m = kvs.length - i ∧ i ≤ kvs.length ∧ Pv i σ H, ⟨kvs.length, by simp, Nat.zero_le _, h0⟩, ?_⟩
  rintro i m σ H ⟨rfl, hi, p⟩
  have q := hl i σ H hi p
  by_cases hlt : i < kvs.length
  · refine .inr ⟨⟨hlt, q⟩, Pv (i + 1), fun σ' H' p' => ⟨kvs.length - (i + 1), by omega, rfl, hlt, p'⟩, fun x H' y => ?_⟩
    obtain ⟨rfl, kv, hkv, rfl⟩ := y
    exact hs i kv σ _ hkv p
  · have e : i = kvs.length := by omega
    subst e
    exact .inl ⟨⟨Nat.le_refl _, q⟩, hd σ H p⟩
theorem for_down {hi : Int} {n : Nat} {g : TG} {tb : TS} {D : Ends} {σ : St} {H : Hp} (Pv : Nat → St → Hp → Prop) (h0 : Pv 0 σ H)
    (hs : ∀ i σ H, i < n → Pv i σ H → g (.int (hi - i)) σ H fun σ2 H2 => tb { D with nx := Pv (i + 1), ct := Pv (i + 1), bk := D.nx } σ2 H2) (hd : ∀ σ H, Pv n σ H → D.nx σ H) :
    ∃ W : Nat → Nat → St → Hp → Prop, (∃ m, W 0 m σ H) ∧ ∀ i m σ H, W i m σ H →
      ((Itd1 hi n).stop i H ∧ D.nx σ H) ∨ ((Itd1 hi n).go i H ∧ ∃ N : St → Hp → Prop, (∀ σ' H', N σ' H' → ∃ m', m' < m ∧ W (i + 1) m' σ' H') ∧ ∀ x H', (Itd1 hi n).yld i H x H' → g x σ H' fun σ2 H2 => tb { D with nx := N, ct := N, bk := D.nx } σ2 H2) := by
  refine ⟨fun i m σ H => m = n - i ∧ i ≤ n ∧ Pv i σ H, ⟨n, by simp, Nat.zero_le _, h0⟩, ?_⟩
  rintro i m σ H ⟨rfl, hi, p⟩
  by_cases hlt : i < n
  · refine .inr ⟨hlt, Pv (i + 1), fun σ' H' p' => ⟨n - (i + 1), by omega, rfl, hlt, p'⟩, fun x H' y => ?_⟩
    obtain ⟨e, y⟩ := y
    subst e y
    exact hs i σ _ hlt p
  · have e : i = n := by omega
    subst e
    exact .inl ⟨Nat.le_refl _, hd σ H p⟩
end L2


set_option Elab.async false
set_option linter.all false
set_option maxRecDepth 100000
set_option maxHeartbeats 4000000
namespace L2
open PySem PySem.Spec PyProof.Rows Tw
section
variable {P : Program} {w : World} {K : PySem.W.Frag} {mg : Str → Option Value} {base : Heap}
def spGrouped (K : PySem.W.Frag) : Sp := fun vs H Q _ => ∃ (a : Addr) (ws : List W), vs = [.ref a] ∧ CodeAt K H a ws ∧ ∀ g d f H', H g = none → Ext H H' → GL H' g ws (lensOf ws) d f → Q (.ref g) H'
theorem ok_grouped (D : Def K mg "grouped" "grouped" Pl.s_grouped ["words"]) (B : Bare mg) : Cal P w K mg base CX0 1 "grouped" ["words"] (spGrouped K) := by
  have sc : FnScope ["words", "groups", "place", "word"] ["words"] (defScope Pl.s_grouped) := ⟨rfl, rfl, rfl, by decide +kernel, rfl, by decide +kernel, by decide +kernel⟩
  refine D.cal fun f fd F => F.ok sc (fun vs H Q E h => ?_) (fun cdv A outer s H vs Q E hr h => ?_)
  · obtain ⟨_, _, rfl, _⟩ := h
    rfl
  · obtain ⟨a, ws, rfl, hc, k⟩ := h
    have hu := hu_of hr
    refine ⟨_, pss_cons (ps_set (i := 1) sc.nd rfl (Or.inl rfl) pe_dnewK)
      (pss_cons (ps_for PassesOwn.never rfl (pi_enum (by rfl) B.enumerate (pa_cons (pv 0) pa_nil)) (pg_tup rfl (pgs_cons (pg_name (i := 2) sc.nd rfl (Or.inl rfl)) (pgs_cons (pg_name (i := 3) sc.nd rfl (Or.inl rfl)) pgs_nil)))
        (pss_cons (ps_if (pt_cmp (pc_dnotin hu (pe_callB call_len_str (by rfl) B.len PySem.boot_len (pa_cons (pv 3) pa_nil)) (pv 1)))
          (pss_one (ps_dput hu (pv 1) (pe_callB call_len_str (by rfl) B.len PySem.boot_len (pa_cons (pv 3) pa_nil)) pe_dnewK rfl)) pss_nil)
        (pss_one (ps_expr (pe_bm PySem.F.plainAttrs_list PySem.F.slot_list_append PySem.F.type_list_append mt_append
          (pe_dsd (pe_dget hu (pv 1) (pe_callB call_len_str (by rfl) B.len PySem.boot_len (pa_cons (pv 3) pa_nil)) (fun _ _ => rfl)) (pv 3) (pe_lst pa_nil) ⟨rfl, rfl, rfl, rfl⟩) (pa_cons (pv 2) pa_nil))))))
      (pss_one (ps_ret (pv 1)))), ?_⟩
    intro g hg
    refine ⟨_, rfl, a, rfl, ⟨_, (Ext.new hg).sqL hc.1⟩, for_enum (K := K) (a := a) (xs := ws.map sv) (fun i σ H2 => ∃ (d : Nat → Addr) (f : W → Addr) (p v : Option V), σ = [some (.ref a), some (.ref g), p, v] ∧ Ext H H2 ∧ (∀ n ∈ lensOf (ws.take i), H (d n) = none) ∧
      (∀ x ∈ ws.take i, H (f x) = none) ∧ GL H2 g (ws.take i) (lensOf (ws.take i)) d f) ?_ ?_ ?_ ?_⟩
    · refine ⟨fun _ => g, fun _ => g, none, none, rfl, Ext.new hg, fun n hn => ?_, fun x hx => ?_, ?_⟩
      · simp [lensOf] at hn
      · simp at hx
      · exact ⟨upd_same, fun n hn => by simp [lensOf] at hn, fun x hx => by simp at hx, fun n hn => by simp [lensOf] at hn, fun x hx => by simp at hx, fun n hn => by simp [lensOf] at hn, fun x hx => by simp at hx⟩
    · rintro i σ H2 hi ⟨d, f, p, v, rfl, x2, _⟩
      exact x2.sqL hc.1
    · rintro i y t σ H2 hy ⟨d, f, p, v, rfl, x2, hd, hf, G⟩ ht
      obtain ⟨x, hx, rfl⟩ : ∃ x, ws[i]? = some x ∧ sv x = y := by
        rw [List.getElem?_map] at hy
        cases q : ws[i]? with
        | none => rw [q] at hy; cases hy
        | some x => rw [q] at hy; exact ⟨x, rfl, by simpa using hy⟩
      have hlt : i < ws.length := (List.getElem?_eq_some_iff.mp hx).1
      have hw : ws.take (i + 1) = ws.take i ++ [x] := by rw [List.take_succ, hx]; rfl
      have hil : (ws.take i).length = i := by rw [List.length_take]; omega
      have hwl := hc.2.1
      have hxl : x.length ≤ 10000 := hc.2.2 x (List.mem_of_getElem? hx)
      have hsz : (st x).length ≤ sizeLine := by rw [st_len]; exact small_line (by omega)
      have ek : V.int ((st x).length : Nat) = kV (.inl (x.length : Int)) := by rw [st_len]; rfl
      have hLl : (lensOf (ws.take i)).length ≤ i := by have := lensOf_len (ws.take i); omega
      refine ⟨t, _, rfl, SqT.of upd_same, rfl, _, _, rfl, _, _, rfl, rfl, ?_⟩
      have x3 := x2.newer (o := .tup [.int i, sv x]) ht
      have G3 := G.new (o := .tup [.int i, sv x]) ht
      generalize upd H2 t (.tup [.int i, sv x]) = H3 at x3 G3
      have second : ∀ (H4 : Hp) (L : List Nat) (d : Nat → Addr), Ext H H4 → (∀ n ∈ L, H (d n) = none) → GL H4 g (ws.take i) L d f → x.length ∈ L → L = lensOf (ws.take (i + 1)) →
          tDrop (tBM K "list" rAppend (tDSd (tDGet (tVar 1) (tCB (fun xs H Q => ∃ z, xs = [.str z] ∧ z.length ≤ sizeLine ∧ Q (.int z.length) H) (tCons (tVar 3) tNil))) (tVar 3) (tLst tNil)) (tCons (tVar 2) tNil))
            { nx := fun σ H2 => ∃ (d : Nat → Addr) (f : W → Addr) (p v : Option V), σ = [some (.ref a), some (.ref g), p, v] ∧ Ext H H2 ∧ (∀ n ∈ lensOf (ws.take (i + 1)), H (d n) = none) ∧ (∀ x ∈ ws.take (i + 1), H (f x) = none) ∧ GL H2 g (ws.take (i + 1)) (lensOf (ws.take (i + 1))) d f, rt := Q }
            [some (.ref a), some (.ref g), some (.int i), some (sv x)] H4 := by
        intro H4 L d x4 hd4 G4 hxL eL
        subst eL
        have hnd := nd_lensOf (ws.take (i + 1))
        refine ⟨_, rfl, _, rfl, st x, rfl, hsz, g, .ref (d x.length), rfl, ?_, d x.length, rfl, .inl ⟨_, .inl (G4.inn _ hxL)⟩, _, rfl, by show 0 ≤ sizeLine; exact Nat.zero_le _, fun l hl => ?_⟩
        · rw [ek]
          exact .inl ⟨_, _, .inl G4.gd, rfl, (valV_of (κ := fun n : Nat => (.inl (n : Int) : Key)) (v := fun n => V.ref (d n)) (fun a _ b _ e => lenK_inj e) hxL).symm⟩
        · have G5 := G4.new (o := .lst []) hl
          have x5 := x4.newer (o := .lst []) hl
          refine ⟨_, .inr (st x), G5.inn _ hxL, rfl, fun v hv => ?_, fun hv => ?_⟩
          · have hxw : x ∈ ws.take i := by
              by_cases h : x ∈ ws.take i
              · exact h
              · rw [valV_no (κ := fun x : W => (.inr (st x) : Key)) (fun a ha e => h (wK_inj (b := x) e ▸ ((mem_wordsOf _ _ a).mp ha).1))] at hv
                cases hv
            rw [valV_of (κ := fun x : W => (.inr (st x) : Key)) (fun a _ b _ e => wK_inj e) ((mem_wordsOf _ _ x).mpr ⟨hxw, rfl⟩)] at hv
            cases hv
            refine ⟨.inl ⟨rfl, _, SqL.of (G5.lst x hxw)⟩, _, rfl, f x, _, _, rfl, rfl, G5.lst x hxw, ?_, ?_⟩
            · rw [List.length_map]
              have := placesOf_len (ws.take i) x
              exact small1000000 (by omega)
            · refine ⟨d, f, _, _, rfl, x5.over (hf x hxw), hd4, fun y hy => ?_, ?_⟩
              · rw [hw] at hy
                rcases List.mem_append.mp hy with hy | hy
                · exact hf y hy
                · rw [List.mem_singleton.mp hy]; exact hf x hxw
              · have G6 := G5.more hxw
                rw [hil] at G6
                rw [← hw] at G6
                exact G6
          · have hxw : x ∉ ws.take i := fun h => by
              rw [valV_of (κ := fun x : W => (.inr (st x) : Key)) (fun a _ b _ e => wK_inj e) ((mem_wordsOf _ _ x).mpr ⟨h, rfl⟩)] at hv
              cases hv
            have dl : l ≠ d x.length := (ne_of_none (G4.inn _ hxL) hl).symm
            refine ⟨?_, .inl ⟨rfl, _, SqL.of (upd_k upd_same dl)⟩, _, rfl, l, [], _, rfl, rfl, upd_k upd_same dl, by decide, ?_⟩
            · rw [List.length_map]
              have := wordsOf_len (ws.take i) x.length
              exact small1000000 (by omega)
            · refine ⟨d, fun y => if y = x then l else f y, _, _, rfl, (x5.over (hd4 _ hxL)).over (x4.free hl), hd4, fun y hy => ?_, ?_⟩
              · rw [hw] at hy
                show H (if y = x then l else f y) = none
                split
                · exact x4.free hl
                · rename_i hne
                  rcases List.mem_append.mp hy with hy | hy
                  · exact hf y hy
                  · exact absurd (List.mem_singleton.mp hy) hne
              · have G6 := G4.word hxw hxL hl
                rw [hil] at G6
                rw [← hw] at G6
                exact G6
      refine ⟨_, rfl, st x, rfl, hsz, _, rfl, g, _, rfl, .inl ⟨_, (.inl (x.length : Int) : Key), .inl G3.gd, ek, rfl⟩, _, rfl, ?_⟩
      by_cases hk : x.length ∈ lensOf (ws.take i)
      · rw [valV_of (κ := fun n : Nat => (.inl (n : Int) : Key)) (fun a _ b _ e => lenK_inj e) hk]
        refine iteF' (by simp) ?_
        refine second H3 _ d x3 hd G3 hk ?_
        rw [hw, lensOf_snoc]
        unfold addNew
        rw [if_pos hk]
      · rw [valV_no (κ := fun n : Nat => (.inl (n : Int) : Key)) (fun a ha e => hk (lenK_inj (b := x.length) e ▸ ha))]
        refine iteT' (by decide) ?_
        intro dd hdd
        have hg3 := upd_keep (u := .dK []) G3.gd hdd
        refine ⟨_, rfl, _, rfl, st x, rfl, hsz, g, _, rfl, .inl ⟨_, (.inl (x.length : Int) : Key), hg3, ek, by rw [List.length_map]; exact small1000000 (by omega), rfl⟩, ?_⟩
        refine second _ (lensOf (ws.take i) ++ [x.length]) (fun k => if k = x.length then dd else d k) ((x3.newer hdd).over hg) (fun n hn => ?_) (G3.len hk hdd) (by simp) ?_
        · show H (if n = x.length then dd else d n) = none
          split
          · exact x3.free hdd
          · rename_i hne
            rcases List.mem_append.mp hn with hn | hn
            · exact hd n hn
            · exact absurd (List.mem_singleton.mp hn) hne
        · rw [hw, lensOf_snoc]
          unfold addNew
          rw [if_neg hk]
    · rintro σ H2 ⟨d, f, p, v, rfl, x2, _, _, G⟩
      rw [List.length_map, List.take_length] at G
      exact ⟨_, rfl, k g d f H2 hg x2 G⟩
end
end L2


set_option Elab.async false
set_option linter.all false
set_option maxRecDepth 100000
set_option maxHeartbeats 4000000
namespace L2
open PySem PySem.Spec PyProof.Rows Tw
/-- the groups as they are read -/
structure GR (H : Hp) (g : Addr) (ws : List W) (d : Nat → Addr) (f : W → Addr) : Prop where
  gd : Rd H g (.dK ((lensOf ws).map fun (n : Nat) => ((.inl (n : Int) : Key), V.ref (d n))))
  inn : ∀ n ∈ lensOf ws, Rd H (d n) (.dK ((wordsOf ws n).map fun (x : W) => ((.inr (st x) : Key), V.ref (f x))))
  lst : ∀ x ∈ ws, H (f x) = some (.lst (intsV (placesOf ws x)))
section
variable {H H' : Hp} {g : Addr} {ws : List W} {d : Nat → Addr} {f : W → Addr} {L : List Nat}
theorem GL.rd (G : GL H g ws (lensOf ws) d f) : GR H g ws d f := ⟨.inl G.gd, fun n hn => .inl (G.inn n hn), G.lst⟩
theorem Ext.gr (x : Ext H H') (G : GR H g ws d f) : GR H' g ws d f := ⟨x.rdK G.gd, fun n hn => x.rdK (G.inn n hn), fun y hy => x.lst (G.lst y hy)⟩
end
def Stood (f : W → Addr) (t : W) (m n : Nat) (v : V) (H : Hp) : Prop := ∃ a, v = .ref a ∧ H a = some (.tup [.int ((m : Int) + (n : Int)), .ref (f (cut t m n))])
theorem Stood.keep {f : W → Addr} {t : W} {m n : Nat} {v : V} {H H' : Hp} (h : Stood f t m n v H) (k : Keep H H') : Stood f t m n v H' := by
  obtain ⟨a, e, z⟩ := h
  exact ⟨a, e, k a _ z (fun _ => by simp) fun _ => by simp⟩
theorem Keep.trans' {H H1 H2 : Hp} (a : Keep H H1) (b : Keep H1 H2) : Keep H H2 := fun c o e h1 h2 => b c o (a c o e h1 h2) h1 h2
theorem keep_new {H : Hp} {l : Addr} {o : HO} (h : H l = none) : Keep H (upd H l o) := (Ext.new h).kp
theorem cut_run' (t : W) (m n : Nat) (h : m ≤ t.length) : cutL t (some (m : Int)) (some ((m : Int) + (n : Int))) = cut t m n := by
  unfold cutL cut
  rw [HT.sIx_nat, show ((m : Int) + (n : Int)) = ((m + n : Nat) : Int) by omega, HT.sIx_nat, Nat.min_eq_left h]
  by_cases h2 : m + n ≤ t.length
  · rw [Nat.min_eq_left h2, Nat.add_sub_cancel_left]
  · rw [Nat.min_eq_right (by omega), List.take_of_length_le (by simp), List.take_of_length_le (by simp; omega)]
theorem kget {α : Type} {l : List α} {κ : α → Key} {v : α → V} {i : Nat} {p : Key × V} (h : (l.map fun a => (κ a, v a))[i]? = some p) : ∃ a, l[i]? = some a ∧ p = (κ a, v a) := by
  rw [List.getElem?_map] at h
  cases q : l[i]? with
  | none => rw [q] at h; cases h
  | some a => rw [q] at h; exact ⟨a, rfl, by simpa using h.symm⟩
theorem take_snoc {α : Type} {l : List α} {i : Nat} {a : α} (h : l[i]? = some a) : l.take (i + 1) = l.take i ++ [a] := by rw [List.take_succ, h]; rfl
section
variable {P : Program} {w : World} {K : PySem.W.Frag} {mg : Str → Option Value} {base : Heap}
def spStanding (K : PySem.W.Frag) : Sp := fun vs H Q _ => ∃ (g : Addr) (ws : List W) (d : Nat → Addr) (f : W → Addr) (t : W) (m : Nat), vs = [.ref g, sv t, .int (m : Int)] ∧ GR H g ws d f ∧ ws.length ≤ 10000 ∧ t.length ≤ 1000000 ∧ m ≤ t.length ∧
  ∀ D H' ys, H D = none → Ext H H' → (∀ b o, b ≠ g → H b = some o → H' b = some o) → H' D = some (.lst ys) → Paired (fun n v => Stood f t m n v H') (standL ws t m) ys → Q (.ref D) H'
theorem ok_standing (D : Def K mg "standing" "standing" Pl.s_standing ["groups", "text", "mark"]) (B : Bare mg) : Cal P w K mg base CX0 1 "standing" ["groups", "text", "mark"] (spStanding K) := by
  have sc : FnScope ["groups", "text", "mark", "left", "found", "length", "places"] ["groups", "text", "mark"] (defScope Pl.s_standing) := ⟨rfl, rfl, rfl, by decide +kernel, rfl, by decide +kernel, by decide +kernel⟩
  refine D.cal fun f fd F => F.ok sc (fun vs H Q E h => ?_) (fun cdv A outer s H vs Q E hr h => ?_)
  · obtain ⟨_, _, _, _, _, _, rfl, _⟩ := h
    rfl
  · obtain ⟨g, ws, d, f, t, m, rfl, G, hwl, htl, hmt, k⟩ := h
    have hu := hu_of hr
    refine ⟨_, pss_cons (ps_set (i := 3) sc.nd rfl (Or.inl rfl) (pe_op op_sub (pe_callB call_len_str (by rfl) B.len PySem.boot_len (pa_cons (pv 1) pa_nil)) (pv 2)))
      (pss_cons (ps_set (i := 4) sc.nd rfl (Or.inl rfl) (pe_lst pa_nil))
      (pss_cons (ps_for PassesOwn.never rfl (pi_dict (pv 0)) (pg_name (i := 5) sc.nd rfl (Or.inl rfl))
        (pss_one (ps_if (pt_cmpR op_le (pv 5) (pv 3) (nomark _))
          (pss_cons (ps_set (i := 6) sc.nd rfl (Or.inl rfl) (pe_dget1 hu (pe_dget hu (pv 0) (pv 5) (fun _ _ => rfl)) (pe_slice (r := rSlS) sl_str (pv 1) (po_some (pv 2)) (po_some (pe_op op_add (pv 2) (pv 5)))) ⟨rfl, rfl, rfl, rfl⟩))
          (pss_one (ps_if (pt_cmp (pc_notN (pv 6)))
            (pss_one (ps_expr (pe_bm PySem.F.plainAttrs_list PySem.F.slot_list_append PySem.F.type_list_append mt_append (pv 4) (pa_cons (pe_tup (pa_cons (pe_op op_add (pv 2) (pv 5)) (pa_cons (pv 6) pa_nil))) pa_nil)))) pss_nil)))
          pss_nil)))
      (pss_one (ps_ret (pv 4))))), ?_⟩
    have hsz : (st t).length ≤ sizeLine := by rw [st_len]; exact small_line htl
    refine ⟨_, rfl, st t, rfl, hsz, _, rfl, _, _, rfl, rfl, by show 0 ≤ sizeLine; exact Nat.zero_le _, fun D hD => ?_⟩
    have x1 : Ext H (upd H D (.lst [])) := Ext.new hD
    refine ⟨_, rfl, g, _, rfl, (x1.gr G).gd, fun o H2 x2 hH2 ne2 => ?_⟩
    have hDg : D ≠ g := by
      rintro rfl
      rcases G.gd with z | ⟨_, z⟩ <;> rw [hD] at z <;> cases z
    let p : Nat → Bool := fun n => decide (n ≤ t.length - m) && decide (cut t m n ∈ ws)
    refine for_dict (a := g) (o := o) (fun i σ H3 => ∃ (ln pl : Option V) (ys : List V), σ = [some (.ref g), some (sv t), some (.int (m : Int)), some (.int (((st t).length : Int) - (m : Int))), some (.ref D), ln, pl] ∧ H3 g = some (.frz o (.dK ((lensOf ws).map fun (n : Nat) => ((.inl (n : Int) : Key), V.ref (d n))))) ∧ (∀ b o, b ≠ g → H b = some o → H3 b = some o) ∧ Ext H H3 ∧ H3 D = some (.lst ys) ∧
      Paired (fun n v => Stood f t m n v H3) (((lensOf ws).take i).filter p) ys) ?_ ?_ ?_ ?_
    · exact ⟨none, none, [], rfl, hH2, fun b o hb e => by rw [ne2 b hb]; exact upd_keep e hD, x1.trans x2, by rw [ne2 D hDg]; exact upd_same, .nil⟩
    · rintro i σ H3 _ ⟨ln, pl, ys, rfl, x3, _⟩
      exact x3
    · rintro i q σ H3 hq ⟨ln, pl, ys, rfl, x3, kb, x4, hys, hp⟩
      obtain ⟨n, hn, rfl⟩ := kget hq
      have hnm : n ∈ lensOf ws := List.mem_of_getElem? hn
      have G4 := x4.gr G
      have et : (lensOf ws).take (i + 1) = (lensOf ws).take i ++ [n] := take_snoc hn
      have ys_len : ys.length ≤ 10000 := by
        rw [← hp.length]
        have h1 := List.length_filter_le p ((lensOf ws).take i)
        have h2 := List.length_take_le i (lensOf ws)
        have h3 := lensOf_len ws
        have h4 : ((lensOf ws).take i).length ≤ (lensOf ws).length := by rw [List.length_take]; omega
        omega
      have skip : p n = false → ∀ l0 p0 : Option V, ∃ (ln pl : Option V) (ys : List V), [some (.ref g), some (sv t), some (.int (m : Int)), some (.int (((st t).length : Int) - (m : Int))), some (.ref D), l0, p0] = [some (.ref g), some (sv t), some (.int (m : Int)), some (.int (((st t).length : Int) - (m : Int))), some (.ref D), ln, pl] ∧ H3 g = some (.frz o (.dK ((lensOf ws).map fun (n : Nat) => ((.inl (n : Int) : Key), V.ref (d n))))) ∧ (∀ b o, b ≠ g → H b = some o → H3 b = some o) ∧ Ext H H3 ∧ H3 D = some (.lst ys) ∧
          Paired (fun n v => Stood f t m n v H3) (((lensOf ws).take (i + 1)).filter p) ys := fun hpn l0 p0 => by
        refine ⟨l0, p0, ys, rfl, x3, kb, x4, hys, ?_⟩
        rw [et, List.filter_append]
        simp [hpn]
        exact hp
      refine ⟨_, rfl, _, rfl, _, _, rfl, rfl, _, rfl, ?_⟩
      by_cases hle : n ≤ t.length - m
      · refine iteT' (by rw [decide_eq_true_iff, st_len]; omega) ?_
        have ec := cut_run' t m n hmt
        have hcl : (cut t m n).length = n := by unfold cut; simp; omega
        refine ⟨_, rfl, _, rfl, g, .ref (d n), rfl, .inl ⟨_, (.inl (n : Int) : Key), G4.gd, rfl, (valV_of (κ := fun n : Nat => (.inl (n : Int) : Key)) (v := fun n => V.ref (d n)) (fun a _ b _ e => lenK_inj e) hnm).symm⟩, d n, rfl, .inl ⟨_, G4.inn n hnm⟩, _, rfl, _, rfl, _, rfl, _, rfl, _, rfl, _, _, rfl, rfl, _, rfl, t, rfl, small_line htl, ?_⟩
        rw [ec]
        refine ⟨_, .inl ⟨_, (.inr (st (cut t m n)) : Key), G4.inn n hnm, rfl, rfl⟩, ?_⟩
        by_cases hc : cut t m n ∈ ws
        · rw [valV_of (κ := fun x : W => (.inr (st x) : Key)) (fun a _ b _ e => wK_inj e) ((mem_wordsOf ws n _).mpr ⟨hc, hcl⟩)]
          refine ⟨_, rfl, _, rfl, iteT' (by simp) ?_⟩
          refine ⟨_, rfl, .inl ⟨rfl, _, SqL.of hys⟩, _, rfl, _, rfl, _, _, rfl, rfl, _, rfl, by show 2 ≤ sizeLine; decide, fun tp htp => ?_⟩
          have hys' := upd_keep (u := .tup [.int ((m : Int) + (n : Int)), .ref (f (cut t m n))]) hys htp
          refine ⟨D, ys, _, rfl, rfl, hys', small1000000 (by omega), ?_⟩
          have k2 := (keep_new htp).trans' (Keep.over (zs := ys ++ [.ref tp]) hys')
          refine ⟨_, _, ys ++ [.ref tp], rfl, ?_, fun b o hb e => upd_k (upd_keep (kb b o hb e) htp) (ne_of_none e hD), (x4.newer htp).over hD, upd_same, ?_⟩
          · exact upd_k (upd_keep x3 htp) hDg.symm
          · rw [et, List.filter_append]
            have hpn : p n = true := by simp [p, hle, hc]
            simp only [List.filter_cons, hpn, if_true, List.filter_nil]
            exact Paired.snoc (Paired.imp2 (fun n v h => h.keep k2) hp) ⟨tp, rfl, by rw [upd_ne (ne_of_none hys htp).symm, upd_same]; rfl⟩
        · rw [valV_no (κ := fun x : W => (.inr (st x) : Key)) (fun a ha e => hc (wK_inj (b := cut t m n) e ▸ ((mem_wordsOf ws n a).mp ha).1))]
          refine ⟨_, rfl, _, rfl, iteF' (by simp) ?_⟩
          exact skip (by simp [p, hc]) _ _
      · refine iteF' (by rw [decide_eq_true_iff, st_len]; omega) ?_
        exact skip (by simp [p]; intro z; exact absurd z hle) _ _
    · rintro σ H3 ⟨ln, pl, ys, rfl, x3, kb, x4, hys, hp⟩
      rw [List.length_map, List.take_length] at hp
      exact ⟨_, rfl, k D H3 ys hD x4 kb hys hp⟩
end
end L2


set_option Elab.async false
set_option linter.all false
set_option maxRecDepth 100000
set_option maxHeartbeats 4000000
namespace L2
open PySem PySem.Spec PyProof.Rows Tw
def rLenS (K : PySem.W.Frag) : List V → Hp → VK → Prop := fun xs H Q => ∃ p ys, xs = [.ref p] ∧ (SqL K H p ys ∨ SqT K H p ys) ∧ Q (.int ys.length) H
theorem call_len_s {X : Cx} {K : PySem.W.Frag} (h : X.K = K) : CallR X (.builtin "len") (rLenS K) := by subst h; exact call_len_seq
theorem pg_tupK {X : Cx} {K : PySem.W.Frag} {es : List Expr} {k : Nat} {t : TGs} {n : Nat} {pos : Pos} (h : X.K = K) (hc : X.calm = true) (hp : PGs X es t) (hn : (assignEach es X.env).length = n := by rfl)
    (hst : (assignEach es X.env).findIdx? (·.1) = none := by rfl) : PG X (.Tuple es k pos) (gTup K n t) := by subst h; exact pg_tup hc hp hn hst
/-- [e for a, b in l], the elements leave the heap as it is -/
theorem block_pairs {K : PySem.W.Frag} {D : Addr} {ys : List V} {te : TE} {σ : St} {H1 : Hp} {Q : VK} {j0 j1 : Option Nat} {jr : List (Option Nat)} (hS : SqL K H1 D ys) (hn : ys.length ≤ sizeLine) (A B f : Nat → V)
    (hT : ∀ i v, ys[i]? = some v → ∃ t, v = .ref t ∧ H1 t = some (.tup [A i, B i])) (hte : ∀ i H' (R : VK), i < ys.length → (∀ b o, H1 b = some o → H' b = some o) → R (f i) H' → te (some (A i) :: some (B i) :: subSt jr σ) H' R)
    (hQ : ∀ E, H1 E = none → Q (.ref E) (upd H1 E (.lst ((List.range ys.length).map f)))) : tBlock (Itl K D) (j0 :: j1 :: jr) (gTup K 2 (gCons (gName 0) (gCons (gName 1) gNil))) tYes te σ H1 Q := by
  intro E hE
  have SQ : ∀ zs, SqL K (upd H1 E (.lst zs)) D ys := fun zs => (Ext.new hE).sqL hS
  refine ⟨fun i m σ' H' => m = ys.length - i ∧ i ≤ ys.length ∧ (∃ y z, σ' = y :: z :: subSt jr σ) ∧ H' = upd H1 E (.lst ((List.range i).map f)), ⟨ys.length, by simp, Nat.zero_le _, ⟨_, _, rfl⟩, rfl⟩, ?_⟩
  rintro i m σ' H' ⟨rfl, hi, ⟨y, z, rfl⟩, rfl⟩
  by_cases hlt : i < ys.length
  · refine .inr ⟨⟨ys, ys[i], SQ _, by simp [hlt]⟩, fun σ2 H2 => (∃ y z, σ2 = y :: z :: subSt jr σ) ∧ H2 = upd H1 E (.lst ((List.range (i + 1)).map f)), fun σ2 H2 h => ⟨ys.length - (i + 1), by omega, rfl, hlt, h⟩, ?_⟩
    rintro v H2 ⟨rfl, hv⟩
    obtain ⟨t, rfl, ht⟩ := hT i v (hv ys (SQ _))
    refine ⟨t, _, rfl, SqT.of (upd_keep ht hE), rfl, _, _, rfl, _, _, rfl, rfl, ?_⟩
    dsimp only [tYes]
    rw [if_pos rfl]
    refine hte i _ _ hlt (fun b o e => upd_keep e hE) ?_
    refine ⟨_, upd_same, ?_, ⟨_, _, rfl⟩, ?_⟩
    · rw [List.length_map, List.length_range]; omega
    · rw [upd_upd, List.range_succ, List.map_append]; rfl
  · have e : i = ys.length := by omega
    subst e
    exact .inl ⟨⟨ys, SQ _, Nat.le_refl _⟩, hQ E hE⟩
theorem valV_drop {kvs : List (Key × V)} {k j : Key} (h : j ≠ k) : valV (dropK kvs k) j = valV kvs j := by
  induction kvs with
  | nil => rfl
  | cons p r ih =>
    by_cases e : p.1 = k
    · rw [dropK_pos e, ih, valV_neg (fun z => h (z.symm.trans e))]
    · rw [dropK_neg e]
      by_cases e2 : p.1 = j
      · rw [valV_pos e2, valV_pos e2]
      · rw [valV_neg e2, valV_neg e2, ih]
theorem paired_get {α β : Type} {R : α → β → Prop} : ∀ {l : List α} {r : List β}, Paired R l r → ∀ {i : Nat} {y : β}, r[i]? = some y → ∃ x, l[i]? = some x ∧ R x y
  | _, _, .nil, _, _, e => by simp at e
  | _, _, .cons h t, 0, _, e => by simp at e; subst e; exact ⟨_, rfl, h⟩
  | _, _, .cons h t, i + 1, y, e => by
    obtain ⟨x, e1, e2⟩ := paired_get t (i := i) (y := y) (by simpa using e)
    exact ⟨x, by simpa using e1, e2⟩
theorem map_range {α β : Type} (l : List α) (d : α) (f : α → β) : (List.range l.length).map (fun i => f (l.getD i d)) = l.map f := by
  apply List.ext_getElem
  · simp
  · intro i h1 h2
    have hi : i < l.length := by simpa using h1
    simp [hi]
section
variable {P : Program} {w : World} {K : PySem.W.Frag} {mg : Str → Option Value} {base : Heap}
def spWays (K : PySem.W.Frag) : Sp := fun vs H Q _ => ∃ (g : Addr) (ws : List W) (d : Nat → Addr) (f : W → Addr) (t : W) (kept : Nat), vs = [.ref g, sv t, .int (kept : Int)] ∧ GR H g ws d f ∧ Tw.Full ws ∧ ws.length ≤ 10000 ∧ t.length ≤ 100000 ∧ kept ≤ 1000000 ∧
  (∀ n ∈ lensOf ws, n ≤ t.length → n ≤ kept) ∧ 1 ≤ kept ∧ ∀ p H' kvs, H p = none → Ext H H' → H' p = some (.dK kvs) → (∀ j : Nat, j ≤ t.length → j < kept → valV kvs (.inl (j : Int)) = some (.int (waysOf ws t j))) → Q (.ref p) H'
theorem ok_ways (D : Def K mg "ways_from_marks" "ways_from_marks" Pl.s_ways_from_marks ["groups", "text", "kept"]) (B : Bare mg) (C1 : Cal P w K mg base CX0 1 "standing" ["groups", "text", "mark"] (spStanding K)) :
    Cal P w K mg base CX0 2 "ways_from_marks" ["groups", "text", "kept"] (spWays K) := by
  have sc : FnScope ["groups", "text", "kept", "ways", "mark"] ["groups", "text", "kept"] (defScope Pl.s_ways_from_marks) := ⟨rfl, rfl, rfl, by decide +kernel, rfl, by decide +kernel, by decide +kernel⟩
  refine D.cal fun f fd F => F.ok sc (fun vs H Q E h => ?_) (fun cdv A outer s H vs Q E hr h => ?_)
  · obtain ⟨_, _, _, _, _, _, rfl, _⟩ := h
    rfl
  · obtain ⟨g, ws, d, f, t, kept, rfl, G, hfull, hwl, htl, hkl, hlens, hk1, k⟩ := h
    have hu := hu_of hr
    have nd : (["behind", "places", "ways"] : List Str).Nodup := by decide +kernel
    refine ⟨_, pss_cons (ps_set (i := 3) sc.nd rfl (Or.inr rfl) (pe_disp (pps_cons (pe_callB call_len_str (by rfl) B.len PySem.boot_len (pa_cons (pv 1) pa_nil)) pe_int pps_nil) rfl rfl (by simp) (by decide)))
      (pss_cons (ps_for PassesOwn.never rfl (pi_down (by rfl) B.range (pa_cons (pe_op op_sub (pe_callB call_len_str (by rfl) B.len PySem.boot_len (pa_cons (pv 1) pa_nil)) pe_int) (pa_cons (pe_un un_neg pe_int) (pa_cons (pe_un un_neg pe_int) pa_nil)))) (pg_name (i := 4) sc.nd rfl (Or.inl rfl))
        (pss_cons (ps_dput hu (pv 3) (pv 4) (pe_callB (call_sum_int rfl) (by rfl) B.sum Boot.«sum» (pa_cons
            (pe_comp (N' := ["behind", "places", "ways"]) (js := [none, none, some 3]) (.of (by kernel_rfl)) rfl (pi_list (pe_callF C1 hr (pa_cons (pv 0) (pa_cons (pv 1) (pa_cons (pv 4) pa_nil))) pass0)) fun C fp s₀ H₀ =>
              ⟨pg_tupK (K := K) (n := 2) rfl rfl (pgs_cons (pg_name (i := 0) nd rfl (Or.inl rfl)) (pgs_cons (pg_name (i := 1) nd rfl (Or.inl rfl)) pgs_nil)), pts_nil,
                pe_op op_mul (pe_callB (r := rLenS K) (call_len_s rfl) (by rfl) B.len PySem.boot_len (pa_cons (pv 1) pa_nil)) (pe_dget hu (pv 2) (pv 0) (fun _ _ => rfl))⟩) pa_nil)) rfl)
        (pss_one (ps_expr (pe_dpop2 (pv 3) (pe_op op_add (pv 4) (pv 2)) pe_non ⟨rfl, rfl, rfl, rfl⟩)))))
      (pss_one (ps_ret (pv 3)))), ?_⟩
    have hsz : (st t).length ≤ sizeLine := by rw [st_len]; exact small_line (by omega)
    obtain ⟨w0, w1⟩ := ways_waysOf hfull t
    intro p hp
    have hpg : p ≠ g := by
      rintro rfl
      rcases G.gd with z | ⟨_, z⟩ <;> rw [hp] at z <;> cases z
    refine ⟨_, rfl, st t, rfl, hsz, upd_same, [((.inl (t.length : Int) : Key), .int 1)], by rw [st_len]; rfl, by show 1 ≤ 15; decide, ?_⟩
    refine ⟨_, rfl, st t, rfl, hsz, _, _, rfl, rfl, _, rfl, _, rfl, ((st t).length : Int) - 1, -1, rfl, ⟨by omega, by rw [st_len]; omega, by decide, by decide⟩, ?_⟩
    have en : (((st t).length : Int) - 1 - (-1)).toNat = t.length := by rw [st_len]; omega
    rw [en]
    refine for_down (fun i σ H2 => ∃ (kvs : List (Key × V)) (mk : Option V), σ = [some (.ref g), some (sv t), some (.int (kept : Int)), some (.ref p), mk] ∧ Ext H H2 ∧ H2 p = some (.dK kvs) ∧ kvs.length ≤ i + 1 ∧
      ∀ j : Nat, t.length - i ≤ j → j ≤ t.length → j < t.length - i + kept → valV kvs (.inl (j : Int)) = some (.int (waysOf ws t j))) ?_ ?_ ?_
    · refine ⟨_, none, rfl, (Ext.new hp).over hp, upd_same, by show 1 ≤ 0 + 1; decide, fun j h1 h2 _ => ?_⟩
      have e : j = t.length := by omega
      subst e
      show valV [((.inl (t.length : Int) : Key), V.int 1)] _ = _
      rw [valV_pos rfl, w0]
    · rintro i σ H2 hi ⟨kvs, mk, rfl, x2, hp2, hkl2, hv⟩
      have em : ((st t).length : Int) - 1 - (i : Int) = ((t.length - 1 - i : Nat) : Int) := by rw [st_len]; omega
      rw [em]
      generalize hm : t.length - 1 - i = m
      have hmt : m < t.length := by omega
      have G2 := x2.gr G
      refine ⟨_, rfl, _, rfl, _, rfl, g, ws, d, f, t, m, rfl, G2, hwl, by omega, by omega, fun D H3 ys hD x3 kb hys hpr => ⟨D, rfl, ⟨_, SqL.of hys⟩, ?_⟩⟩
      have G3 := x3.gr G2
      have hp3 : H3 p = some (.dK kvs) := kb p _ hpg hp2
      have hlen := hpr.length
      have hsl := standL_len ws t m
      refine block_pairs (SqL.of hys) (by rw [← hlen]; exact small_line (by omega)) (fun i => .int ((m : Int) + (((standL ws t m).getD i 0 : Nat) : Int))) (fun i => .ref (f (cut t m ((standL ws t m).getD i 0))))
        (fun i => .int (((placesOf ws (cut t m ((standL ws t m).getD i 0))).length : Int) * waysOf ws t (m + (standL ws t m).getD i 0))) (fun i v e => ?_) (fun i H' R hi2 kp hR => ?_) (fun E hE => ?_)
      · obtain ⟨n, e1, t', rfl, e2⟩ := paired_get hpr e
        have : (standL ws t m).getD i 0 = n := by simp [e1]
        rw [this]
        exact ⟨t', rfl, e2⟩
      · have hi3 : i < (standL ws t m).length := by rw [hlen]; exact hi2
        have hmem : (standL ws t m).getD i 0 ∈ standL ws t m := by simp [hi3]
        generalize (standL ws t m).getD i 0 = n at hmem hR ⊢
        obtain ⟨n1, n2⟩ := standL_pos hfull (by omega) hmem
        obtain ⟨c1, c2, c3⟩ := (mem_standL ws t m n (by omega)).mp hmem
        have hnk : n ≤ kept := hlens n ((mem_lensOf ws n).mpr ⟨_, c1, c3⟩) (by omega)
        have hpl := placesOf_len ws (cut t m n)
        refine ⟨_, rfl, f (cut t m n), _, rfl, .inl (SqL.of (kp _ _ (G3.lst _ c1))), _, rfl, _, rfl, p, .int (waysOf ws t (m + n)), rfl, .inl ⟨kvs, (.inl ((m + n : Nat) : Int) : Key), .inl (kp _ _ hp3), by simp [kV], ?_⟩, _, _, rfl, rfl, .inl ⟨?_, ?_⟩, ?_⟩
        · exact (hv (m + n) (by omega) (by omega) (by omega)).symm
        · rw [List.length_map]; omega
        · rw [List.length_map]; omega
        · rw [List.length_map]; exact hR
      · refine ⟨E, (standL ws t m).map fun n => ((placesOf ws (cut t m n)).length : Int) * waysOf ws t (m + n), rfl, SqL.of ?_, ?_⟩
        · rw [upd_same, ← hlen]
          congr 2
          rw [List.map_map]
          exact map_range (standL ws t m) 0 fun n => V.int (((placesOf ws (cut t m n)).length : Int) * waysOf ws t (m + n))
        · have ew : ((standL ws t m).map fun n => ((placesOf ws (cut t m n)).length : Int) * waysOf ws t (m + n)).sum = waysOf ws t m := (w1 m hmt).symm
          rw [ew]
          have hp4 := upd_keep (u := .lst ((List.range ys.length).map fun i => V.int (((placesOf ws (cut t m ((standL ws t m).getD i 0))).length : Int) * waysOf ws t (m + (standL ws t m).getD i 0)))) hp3 hE
          refine ⟨_, rfl, _, rfl, p, _, rfl, DPut.k (k := .inl (m : Int)) hp4 (small1000000 (by omega)), ?_⟩
          have l1 := length_putK kvs (.inl (m : Int)) (V.int (waysOf ws t m))
          refine ⟨_, rfl, p, rfl, .inl ⟨_, .inl upd_same⟩, _, rfl, _, rfl, _, _, rfl, rfl, _, (.inl ((m : Int) + (kept : Int)) : Key), upd_same, rfl, fun v hv2 => ?_, fun hv2 => ?_⟩
          · refine ⟨_, _, rfl, (((x2.trans x3).newer hE).over hp).over hp, upd_same, ?_, fun j h1 h2 h3 => ?_⟩
            · have l2 := dropK_le (putK kvs (.inl (m : Int)) (V.int (waysOf ws t m))) (.inl ((m : Int) + (kept : Int)))
              omega
            · rw [valV_drop (fun z => by have := Sum.inl.inj z; omega), valV_put]
              by_cases e : j = m
              · subst e
                rw [if_pos rfl]
              · rw [if_neg (fun z => e (lenK_inj z))]
                exact hv j (by omega) h2 (by omega)
          · refine ⟨_, _, rfl, ((x2.trans x3).newer hE).over hp, upd_same, by omega, fun j h1 h2 h3 => ?_⟩
            rw [valV_put]
            by_cases e : j = m
            · subst e
              rw [if_pos rfl]
            · rw [if_neg (fun z => e (lenK_inj z))]
              exact hv j (by omega) h2 (by omega)
    · rintro σ H2 ⟨kvs, mk, rfl, x2, hp2, _, hv⟩
      exact ⟨_, rfl, k p H2 kvs hp x2 hp2 fun j h1 h2 => hv j (by omega) h1 (by omega)⟩
end
end L2


set_option Elab.async false
set_option linter.all false
set_option maxRecDepth 100000
set_option maxHeartbeats 4000000
namespace L2
open PySem PySem.Spec PyProof.Rows Tw
/-- an argument that may be a list of data, whatever comes later -/
def LA (K : PySem.W.Frag) (H : Hp) (v : V) : Prop := ∀ H', Ext H H' → LstArg K H' v
def Sz (H : Hp) (v : V) : Prop := ∀ a xs, v = .ref a → Rd H a (.lst xs) → ∀ x, V.str x ∈ xs → x.length ≤ sizeLine
/-- the classes of refusals -/
structure Excs (K : PySem.W.Frag) (mg : Str → Option Value) (cCode cText cRead cNumber cPlaces cLengths : Addr) : Prop where
  code : Exc K mg "BadCode" cCode
  text : Exc K mg "BadText" cText
  read : Exc K mg "NoReading" cRead
  number : Exc K mg "BadNumber" cNumber
  places : Exc K mg "BadPlaces" cPlaces
  lengths : Exc K mg "BadLengths" cLengths
theorem PS.nox {X : Cx} {s : Stmt} {t : TS} (h : PS X.nox s t) : PS X s t := fun pins s1 σ H D I hw =>
  wpAny_mono (h pins s1 σ H D (I.wish _) hw) (fun _ _ q => q.unwish) fun _ _ z => z.elim
section
variable {P : Program} {w : World} {K : PySem.W.Frag} {mg : Str → Option Value} {base : Heap} {cCode cText cRead cNumber cPlaces cLengths : Addr}
def spCheckCode (K : PySem.W.Frag) (c : Addr) : Sp := fun vs H Q E => ∃ v, vs = [v] ∧ LstArg K H v ∧ Sz H v ∧ ∀ b H', Ext H H' → AllSo H v (isWordV az) b → (b = true → Q .non H') ∧ (b = false → E (.ref c) none H')
theorem ok_check_code (D : Def K mg "check_code" "check_code" Pl.s_check_code ["value"]) (Z : Exc K mg "BadCode" cCode) (C1 : Cal P w K mg base CX0 3 "is_code" ["value"] (spIsCode K)) :
    Cal P w K mg base (CX1 P w) 4 "check_code" ["value"] (spCheckCode K cCode) := by
  have sc : FnScope ["value"] ["value"] (defScope Pl.s_check_code) := ⟨rfl, rfl, rfl, by decide +kernel, rfl, by decide +kernel, by decide +kernel⟩
  refine D.cal fun f fd F => F.okX sc (fun vs H Q E h => ?_) (fun cdv A outer s H vs Q E hr h => ?_)
  · obtain ⟨_, rfl, _⟩ := h
    rfl
  · obtain ⟨v, rfl, hl, hz, k⟩ := h
    refine ⟨_, pss_one (ps_if (pt_not (pt_val (pe_callF C1 hr (pa_cons (pv 0) pa_nil) pass0))) (pss_one (ps_raise raisesX rfl Z pe_str)) pss_nil), ?_⟩
    refine ⟨_, rfl, v, rfl, hl, hz, fun b H' x1 hA => ⟨_, rfl, ?_⟩⟩
    cases b with
    | true => exact iteF ((k true H' x1 hA).1 rfl)
    | false => exact iteT ⟨by decide, (k false H' x1 hA).2 rfl⟩
def isTextV : V → Bool
  | .str x => x.cps.toList.all fun c => az.contains c
  | _ => false
def spCheckAsked (K : PySem.W.Frag) (c1 c2 : Addr) : Sp := fun vs H Q E => ∃ v y, vs = [v, y] ∧ LstArg K H v ∧ Sz H v ∧ (∀ H', Ext H H' → IsDt K H' y) ∧ (∀ x, y = .str x → x.length ≤ sizeLine) ∧
  ∀ b H', Ext H H' → AllSo H v (isWordV az) b → (b = false → E (.ref c1) none H') ∧ (b = true → (isTextV y = true → Q .non H') ∧ (isTextV y = false → E (.ref c2) none H'))
theorem ok_check_asked (D : Def K mg "check_asked" "check_asked" Pl.s_check_asked ["code", "text"]) (B : Bare mg) (L : ∃ t, mg "LETTERS" = some (.str "abcdefghijklmnopqrstuvwxyz" t)) (Z : Exc K mg "BadText" cText)
    (C1 : Cal P w K mg base (CX1 P w) 4 "check_code" ["value"] (spCheckCode K cCode)) : Cal P w K mg base (CX1 P w) 5 "check_asked" ["code", "text"] (spCheckAsked K cCode cText) := by
  have sc : FnScope ["code", "text"] ["code", "text"] (defScope Pl.s_check_asked) := ⟨rfl, rfl, rfl, by decide +kernel, rfl, by decide +kernel, by decide +kernel⟩
  obtain ⟨tk, hL⟩ := L
  refine D.cal fun f fd F => F.okX sc (fun vs H Q E h => ?_) (fun cdv A outer s H vs Q E hr h => ?_)
  · obtain ⟨_, _, rfl, _⟩ := h
    rfl
  · obtain ⟨v, y, rfl, hl, hz, hd, hy, k⟩ := h
    refine ⟨_, pss_cons (ps_expr (pe_callF C1 hr (pa_cons (pv 0) pa_nil) passX))
      (pss_one (ps_if (pw_or (pt_not (pt_val (pe_isi_str B (pv 1)))) (pw_or1 (pt_cmpR op_ne (pe_bm PySem.F.plainAttrs_str PySem.F.slot_str_lstrip PySem.F.type_str_lstrip mt_lstrip (pv 1) (pa_cons (pe_glob (v := sv az) (by rfl) hL ⟨tk, by rw [az_eq]⟩) pa_nil)) pe_str (nomark _)))).pt
        (pss_one (ps_raise raisesX rfl Z pe_str)) pss_nil)), ?_⟩
    refine ⟨_, rfl, v, rfl, hl, hz, fun b H' x1 hA => ⟨fun hb => ?_, fun hb => (k b H' x1 hA).1 hb⟩⟩
    obtain ⟨k1, k2⟩ := (k b H' x1 hA).2 hb
    obtain ⟨t, ty, e⟩ := isi_str (hd H' x1)
    refine ⟨_, rfl, _, _, t, _, rfl, trivial, ty, e, _, rfl, ?_⟩
    cases y with
    | str x =>
      refine iteF ?_
      obtain ⟨a, rfl⟩ : ∃ a, x = st a := ⟨x.cps.toList, (st_of x).symm⟩
      refine ⟨_, rfl, rfl, a, az, rfl, rfl, by have := hy _ rfl; rw [st_len] at this; exact this, fun c hc => ⟨rfl, _, rfl, ?_⟩⟩
      have e2 : isTextV (.str (st a)) = decide (c = []) := by
        show (a.all fun c => az.contains c) = _
        rw [Bool.eq_iff_iff, List.all_eq_true, decide_eq_true_iff, hc]
        constructor
        · intro h z hz; simpa using h z hz
        · intro h z hz; simpa using h z hz
      by_cases hcn : c = []
      · subst hcn
        refine iteF' (by decide +kernel) ?_
        exact k1 (by rw [e2]; rfl)
      · refine iteT' (by
          rw [Bool.not_eq_true', decide_eq_false_iff_not]
          intro z
          exact hcn (st_inj (V.str.inj z))) ?_
        exact ⟨by decide, k2 (by rw [e2, decide_eq_false hcn])⟩
    | _ => exact iteT ⟨by decide, k2 rfl⟩
end
end L2


set_option Elab.async false
set_option linter.all false
set_option maxRecDepth 100000
set_option maxHeartbeats 4000000
namespace L2
open PySem PySem.Spec PyProof.Rows Tw
/-! ### max(.., default=d) of ints -/
/-- ints are drawn, one by one -/
structure Drw (X : Cx) (pins : List (Addr × Obj)) (σ : St) (H : Hp) (it : Addr) (fp : List Addr) (tn : Nat → Heap → Prop) (ns : List Int) : Prop where
  item : ∀ (i : Nat) (n : Int) (s : Shared) (Q : Option Value → Shared → Prop) (E : Value → Shared → Prop), ns[i]? = some n → Inv X pins σ H s → tn i s.heap →
    (∀ t s', Inv X pins σ H s' → tn (i + 1) s'.heap → (∀ b o, b ∉ fp → s.heap.get? b = some o → s'.heap.get? b = some o) → Q (some (.int n t)) s') → wpAny (model X.prog X.w) X.A (pyNext (.ref it)) Q E s
  done : ∀ (s : Shared) (Q : Option Value → Shared → Prop) (E : Value → Shared → Prop), Inv X pins σ H s → tn ns.length s.heap →
    (∀ s', Inv X pins σ H s' → (∀ b o, b ∉ fp → s.heap.get? b = some o → s'.heap.get? b = some o) → Q none s') → wpAny (model X.prog X.w) X.A (pyNext (.ref it)) Q E s
  keep : ∀ i h h', tn i h → (∀ b ∈ fp, ∀ o, h.get? b = some o → h'.get? b = some o) → tn i h'
def mxStep (b : Option Int) (n : Int) : Option Int := match b with | none => some n | some m => some (if m < n then n else m)
def mxOf (ns : List Int) : Option Int := ns.foldl mxStep none
def BestIs : Option Int → List Value → Prop
  | none, vb => vb = []
  | some m, vb => ∃ t, vb = [.int m t, .int m t]
theorem max_loop {X : Cx} {pins : List (Addr × Obj)} {σ : St} {H : Hp} {it S : Addr} {fp : List Addr} {tn : Nat → Heap → Prop} {ns : List Int} {A : Around} {R : Result → Shared → Prop} (hA : A.in1 = X.A) (W : Drw X pins σ H it fp tn ns) (hSf : S ∉ fp) (hS : FpOk X pins H S) (dv : Value)
    (fin : ∀ s' u, Inv X pins σ H s' → (match mxOf ns with | none => u = dv | some m => ∃ t, u = .int m t) → R (.ok (.ret u)) s') :
    ∀ (k i : Nat) (s : Shared) (b : Option Int) (vb : List Value) (c : Nat), ns.length - i = k → i ≤ ns.length → Inv X pins σ H s → tn i s.heap → s.heap.get? S = some { cls := .type "list", data := .seq vb.toArray c } → b = (ns.take i).foldl mxStep none → BestIs b vb →
      codeAny (model X.prog X.w) A (.builtin "max.loop" ⟨[.ref it, .none, .ref S], [("default", dv)]⟩) R s := by
  have nm : (toString "max" ++ toString ".loop" : String) = "max.loop" := by decide
  intro k
  induction k with
  | zero =>
    intro i s b vb c hk hi I st hSo hb hv
    have ei : i = ns.length := by omega
    subst ei
    rw [List.take_length] at hb
    refine codeAny_builtin PySem.F.entry_max_loop ?_
    rw [Around.under_plainId PySem.F.plain_max_loop _, hA]
    show wpAny _ X.A (seqItems? (.ref S) >>= _) _ _ s
    refine wpAny_bind (wpAny_seqItems hSo rfl ?_)
    show wpAny _ X.A (tryCatch (pyNext (.ref it)) _ >>= _) _ _ s
    refine wpAny_bind (wpAny_tryCatch (W.done s _ _ I st fun s1 I1 kp => ?_))
    have hS1 := kp S _ hSf hSo
    cases b with
    | none =>
      subst hv
      show wpAny _ X.A (rule _ >>= _) _ _ _
      refine wpAny_bind (wpAny_rule (wpAny_pure ?_))
      exact fin s1 dv I1 (by unfold mxOf; rw [← hb])
    | some m =>
      obtain ⟨t, rfl⟩ := hv
      show wpAny _ X.A (updateSeq S (fun _ => #[]) >>= _) _ _ _
      refine wpAny_bind (wpAny_updateSeq hS1 rfl (wpAny_bind (wpAny_letGo (wpAny_pure ?_))))
      refine fin _ _ (I1.turned (t' := s1.toks) (it := S) (fun b o hb e => (Heap.get?_update_other _ _ (Ne.symm hb)).trans e) hS.1 hS.2.1 hS.2.2.2.1 hS.2.2.2.2.1 hS.2.2.2.2.2) ?_
      unfold mxOf
      rw [← hb]
      exact ⟨t, rfl⟩
  | succ k ih =>
    intro i s b vb c hk hi I st hSo hb hv
    have hlt : i < ns.length := by omega
    have hn : ns[i]? = some ns[i] := List.getElem?_eq_getElem hlt
    have hb' : ∀ n, ns[i]? = some n → (ns.take (i + 1)).foldl mxStep none = mxStep b n := fun n hn => by rw [take_snoc hn, List.foldl_append, ← hb]; rfl
    refine codeAny_builtin PySem.F.entry_max_loop ?_
    rw [Around.under_plainId PySem.F.plain_max_loop _, hA]
    show wpAny _ X.A (seqItems? (.ref S) >>= _) _ _ s
    refine wpAny_bind (wpAny_seqItems hSo rfl ?_)
    show wpAny _ X.A (tryCatch (pyNext (.ref it)) _ >>= _) _ _ s
    refine wpAny_bind (wpAny_tryCatch (W.item i _ s _ _ hn I st fun t s1 I1 st1 kp => ?_))
    have hS1 := kp S _ hSf hSo
    generalize hnn : ns[i] = n at hn
    have turnS : ∀ f, Inv X pins σ H { s1 with heap := s1.heap.update S (Obj.mapSeq f) } := fun f => I1.turned (t' := s1.toks) (it := S) (fun b o hb e => (Heap.get?_update_other _ _ (Ne.symm hb)).trans e) hS.1 hS.2.1 hS.2.2.2.1 hS.2.2.2.2.1 hS.2.2.2.2.2
    have tnS : ∀ f, tn (i + 1) (s1.heap.update S (Obj.mapSeq f)) := fun f => W.keep _ _ _ st1 fun b hbf o e => (Heap.get?_update_other _ _ (fun z : S = b => hSf (z ▸ hbf))).trans e
    cases b with
    | none =>
      subst hv
      show wpAny _ X.A (updateSeq S (fun _ => #[.int n t, .int n t]) >>= _) _ _ _
      refine wpAny_bind (wpAny_updateSeq hS1 rfl ?_)
      rw [nm]
      refine wpAny_pure ⟨plainId_quiet PySem.F.plain_max_loop _, ?_⟩
      exact ih (i + 1) _ (some n) [.int n t, .int n t] _ (by omega) hlt (turnS _) (tnS _) (Heap.get?_update_self _ hS1 rfl) (hb' n hn).symm ⟨t, rfl⟩
    | some m =>
      obtain ⟨u, rfl⟩ := hv
      show wpAny _ X.A (tryCatch (holding [.int n t, .int n t] (richCompare .Gt (.int n t) (.int m u) >>= _)) _ >>= _) _ _ _
      refine wpAny_bind (wpAny_tryCatch (wpAny_holding (wpAny_bind (richCompare_gives (op := .Gt) (typeIs_int s1 _ t) (typeIs_int s1 _ u) PySem.F.slot_int_gt PySem.F.entry_int_gt (PySem.F.args_int_gt_2 _ _) (gives_int_gt _ _ t u) (fun x => nomatch x) ?_))))
      refine wpAny_bind (wpAny_holding (wpAny_truthy_bool ?_))
      refine wpAny_bind (wpAny_letGo (wpAny_pure ?_))
      by_cases hgt : n > m
      · rw [decide_eq_true hgt]
        simp only [if_true]
        refine wpAny_bind (wpAny_updateSeq hS1 rfl (wpAny_bind (wpAny_letGo ?_)))
        rw [nm]
        refine wpAny_pure ⟨plainId_quiet PySem.F.plain_max_loop _, ?_⟩
        refine ih (i + 1) _ (some n) [.int n t, .int n t] _ (by omega) hlt (turnS _) (tnS _) (Heap.get?_update_self _ hS1 rfl) ?_ ⟨t, rfl⟩
        rw [hb' n hn]
        show _ = some (if m < n then n else m)
        rw [if_pos hgt]
      · rw [decide_eq_false hgt]
        simp only [Bool.false_eq_true, if_false]
        refine wpAny_bind (wpAny_letGo ?_)
        rw [nm]
        refine wpAny_pure ⟨plainId_quiet PySem.F.plain_max_loop _, ?_⟩
        refine ih (i + 1) _ (some m) [.int m u, .int m u] _ (by omega) hlt I1 st1 hS1 ?_ ⟨u, rfl⟩
        rw [hb' n hn]
        show _ = some (if m < n then n else m)
        rw [if_neg hgt]
end L2


set_option Elab.async false
set_option linter.all false
set_option maxRecDepth 100000
set_option maxHeartbeats 4000000
namespace L2
open PySem PySem.Spec PyProof.Rows Tw
def Cx.in1 (X : Cx) : Cx := { X with A := X.A.in1 }
section
variable {X : Cx} {pins : List (Addr × Obj)} {σ : St} {H : Hp} {s : Shared}
theorem Inv.in1 (I : Inv X pins σ H s) : Inv X.in1 pins σ H s :=
  ⟨⟨I.ok.mod, I.ok.kind, I.ok.glob, I.ok.blt, I.ok.above, I.ok.inj, I.ok.has, I.ok.cab, I.ok.hd, I.ok.frames, I.ok.stk, I.ok.exf, I.ok.bs, I.ok.bsz, I.ok.noex, I.ok.exfs, I.ok.funs, I.ok.frf⟩, I.os, I.bare, I.base, I.loc, I.cell, I.free, I.freeC, I.pin, I.hok, I.len⟩
theorem Inv.ofIn1 (I : Inv X.in1 pins σ H s) : Inv X pins σ H s :=
  ⟨⟨I.ok.mod, I.ok.kind, I.ok.glob, I.ok.blt, I.ok.above, I.ok.inj, I.ok.has, I.ok.cab, I.ok.hd, I.ok.frames, I.ok.stk, I.ok.exf, I.ok.bs, I.ok.bsz, I.ok.noex, I.ok.exfs, I.ok.funs, I.ok.frf⟩, I.os, I.bare, I.base, I.loc, I.cell, I.free, I.freeC, I.pin, I.hok, I.len⟩
theorem args_maxD (v dv : Value) : argsOk "max" ⟨[v], [("default", dv)]⟩ := by unfold argsOk; kernel_rfl
theorem call_maxD {v dv : Value} {Q : Value → Shared → Prop} {E : Value → Shared → Prop} 
    (h : wpAny (model X.prog X.w) X.A.in1 (pyIter v) (fun itv s2 => ∃ it fp tn ns H', itv = .ref it ∧ Inv X.in1 pins σ H' s2 ∧ Drw X.in1 pins σ H' it fp tn ns ∧ tn 0 s2.heap ∧ (∀ b ∈ fp, b < s2.heap.objs.size) ∧
      ∀ s' u, Inv X pins σ H' s' → (match mxOf ns with | none => u = dv | some m => ∃ t, u = .int m t) → Q u s') E s) : wpAny (model X.prog X.w) X.A (call (.builtin "max") [v] [("default", dv)]) Q E s := by
  have nm : (toString "max" ++ toString ".loop" : String) = "max.loop" := by decide
  refine wpAny_call (codeAny_call_builtin PySem.F.plain_max PySem.F.entry_max ?_)
  have fin : ∀ {R : Fin → Shared → Prop}, wpAny (model X.prog X.w) X.A.in1 (Builtin.«max» ⟨[v], [("default", dv)]⟩) R E s → wpAny (model X.prog X.w) X.A.in1 (checkBuiltinCall "max" ⟨[v], [("default", dv)]⟩) (fun _ s => wpAny (model X.prog X.w) X.A.in1 (Builtin.«max» ⟨[v], [("default", dv)]⟩) R E s) E s := fun {R} hc => by
    simp only [checkBuiltinCall, PySem.F.kind_max]
    have ha := args_maxD v dv
    cases hsig : Manifest.signature? "max" with
    | none => exact wpAny_pure hc
    | some sig =>
      simp only [argsOk, hsig] at ha
      have h2 : Bind.checkArgs "max" sig ⟨[v], [("default", dv)]⟩ = pure () := ha
      show wpAny _ X.A.in1 (Bind.checkArgs "max" sig ⟨[v], [("default", dv)]⟩) _ _ s
      rw [h2]
      exact wpAny_pure hc
  refine fin ?_
  show wpAny _ X.A.in1 (Builtin.Builtins.bindParams "max" ["key", "default"] 0 ⟨[], [("default", dv)]⟩ >>= _) _ _ s
  refine wpAny_bind (wpAny_of_eq (show Builtin.Builtins.bindParams "max" ["key", "default"] 0 ⟨[], [("default", dv)]⟩ = pure [none, some dv] from rfl) ?_)
  refine wpAny_bind (wpAny_pure ?_)
  refine wpAny_bind (wpAny_mono h (fun itv s2 h2 => ?_) fun _ _ e => e)
  obtain ⟨it, fp, tn, ns, H', rfl, I2, W, st, hfp, hQ⟩ := h2
  refine wpAny_bind (wpAny_newObj_type ?_)
  have hSf : s2.heap.objs.size ∉ fp := fun hm => Nat.lt_irrefl _ (hfp _ hm)
  rw [nm]
  refine wpAny_pure ⟨plainId_quiet PySem.F.plain_max_loop _, ?_⟩
  have I3 : Inv X.in1 pins σ H' { s2 with heap := s2.heap.push { cls := .type "list", data := .seq ([] : List Value).toArray } } := I2.kept (t' := s2.toks) fun b o e => Heap.get?_push_of_some _ e
  refine max_loop (X := X.in1) (A := X.A) rfl W hSf (I2.fpOk (Nat.le_refl _) (I2.hok.fresh (Nat.le_refl _))) dv (fun s' u I' hu => hQ s' u I'.ofIn1 hu) _ 0 _ none [] 0 rfl (Nat.zero_le _) I3 (W.keep _ _ _ st fun b _ o e => Heap.get?_push_of_some _ e) (Heap.get?_push_size _ rfl) rfl rfl
/-- a list draws -/
theorem drw_list {a it : Addr} {ns : List Int} (hc : X.calm = true) (hq : SqL X.K H a (ns.map V.int)) (hf : FpOk X pins H it) : Drw X pins σ H it [it] (fun i h => h.IsListIter it a i) ns where
  item := by
    intro i n s Q E hn I st h
    obtain ⟨its, rv, p, hz⟩ := I.list hq
    obtain ⟨u, hu, t, rfl⟩ := rv.get (i := i) (x := V.int n) (by rw [List.getElem?_map, hn]; rfl)
    obtain ⟨f0, f1, f2, f3, f4, f5⟩ := hf
    refine wpAny_pyNext_list_item st p.isList (x := .int n t) (by simpa using hu) fun h' st' sb => ?_
    exact h t _ (I.turned (t' := s.toks) (it := it) (fun b o hb e => (sb.2 b hb).trans e) f0 f1 f3 f4 f5) st' fun b o hb e => (sb.2 b fun z => hb (by simp [z])).trans e
  done := by
    intro s Q E I st h
    obtain ⟨its, rv, p, hz⟩ := I.list hq
    have hl := rv.length
    rw [List.length_map] at hl
    obtain ⟨f0, f1, f2, f3, f4, f5⟩ := hf
    exact wpAny_pyNext_list_end (I.ok.hd hc) st p.isList (by simp; omega) fun h' eb => h _ (I.turned (t' := s.toks) (it := it) (fun b o hb e => eb b o hb e) f0 f1 f3 f4 f5) fun b o hb e => eb b o (fun z => hb (by simp [z])) e
  keep := fun i h h' st k => st.at fun o e => k it (by simp) o e
/-- a dict's keys draw -/
theorem drw_dict {a it : Addr} {o : Obj} {es : Array DictEntry} {ep : Nat} {kvs : List (Key × V)} {ns : List Int} (hc : X.calm = true) (ho : o.data = .dict es ep) (hH : H a = some (.frz o (.dK kvs))) (hk : kvs.map (·.1) = ns.map Sum.inl) (hf : FpOk X pins H it) :
    Drw X pins σ H it [it] (fun i h => h.IsKeyIter it a i kvs.length ep) ns where
  item := by
    intro i n s Q E hn I st h
    obtain ⟨eo, hz, hs, vs, kv, od⟩ := I.hok a _ hH
    have hl : kvs.length = vs.length := Paired.length kv
    obtain ⟨ob, es', ep', e', ex, d', r⟩ := id od
    rw [eo] at e'; cases e'
    rw [ho] at d'; cases d'
    have at' : s.heap.DictAt (mixKind X.prog X.w) a vs ep := ⟨o, es, eo, ex, ho, r⟩
    have hki : (kvs.map (·.1))[i]? = some (.inl n) := by rw [hk, List.getElem?_map, hn]; rfl
    obtain ⟨p, hp, hp1⟩ : ∃ p, kvs[i]? = some p ∧ p.1 = (.inl n : Key) := by
      rw [List.getElem?_map] at hki
      cases q : kvs[i]? with
      | none => rw [q] at hki; cases hki
      | some p => rw [q] at hki; exact ⟨p, rfl, by simpa using hki⟩
    obtain ⟨u, hu, ru⟩ := KV.get kv hp
    obtain ⟨f0, f1, f2, f3, f4, f5⟩ := hf
    refine wpAny_pyNext_dict_item (hl ▸ st) at' hu fun key h' hkey st' sb => ?_
    have rk := key_rel (X := X) hkey
    rw [hp1] at rk
    obtain ⟨t, rfl⟩ := rk
    exact h t _ (I.turned (t' := s.toks) (it := it) (fun b o hb e => (sb.2 b hb).trans e) f0 f1 f3 f4 f5) (hl ▸ st') fun b o hb e => (sb.2 b fun z => hb (by simp [z])).trans e
  done := by
    intro s Q E I st h
    obtain ⟨eo, hz, hs, vs, kv, od⟩ := I.hok a _ hH
    have hl : kvs.length = vs.length := Paired.length kv
    obtain ⟨ob, es', ep', e', ex, d', r⟩ := id od
    rw [eo] at e'; cases e'
    rw [ho] at d'; cases d'
    have at' : s.heap.DictAt (mixKind X.prog X.w) a vs ep := ⟨o, es, eo, ex, ho, r⟩
    have hl2 : kvs.length = ns.length := by have := congrArg List.length hk; simpa using this
    obtain ⟨f0, f1, f2, f3, f4, f5⟩ := hf
    exact wpAny_pyNext_dict_end (I.ok.hd hc) (hl ▸ st) at' (by simp; omega) fun h' eb => h _ (I.turned (t' := s.toks) (it := it) (fun b o hb e => eb b o hb e) f0 f1 f3 f4 f5) fun b o hb e => eb b o (fun z => hb (by simp [z])) e
  keep := fun i h h' st k => st.at fun o e => k it (by simp) o e
end
/-! ### the rules -/
def mxV (ns : List Int) (d : V) : V := match mxOf ns with | none => d | some m => .int m
def tMaxL (K : PySem.W.Frag) (te : TA) (td : TE) : TE := fun σ H Q => te σ H fun xs H1 => td σ H1 fun d H2 => ∃ a ns, xs = [.ref a] ∧ SqL K H2 a (ns.map V.int) ∧ Q (mxV ns d) H2
def tMaxD (te : TA) (td : TE) : TE := fun σ H Q => te σ H fun xs H1 => td σ H1 fun d H2 => ∃ a kvs ns, xs = [.ref a] ∧ Rd H2 a (.dK kvs) ∧ kvs.map (·.1) = ns.map Sum.inl ∧ ∀ o H3, Ext H2 H3 → H3 a = some (.frz o (.dK kvs)) → (∀ b, b ≠ a → H3 b = H2 b) → Q (mxV ns d) H3
theorem mxV_rel {ns : List Int} {d : V} {dv u : Value} (r : RelV d dv) (h : match mxOf ns with | none => u = dv | some m => ∃ t, u = .int m t) : RelV (mxV ns d) u := by
  unfold mxV
  cases q : mxOf ns with
  | none => rw [q] at h; rw [h]; exact r
  | some m => rw [q] at h; exact h
section
variable {X : Cx} {e d : Expr} {te : TA} {td : TE} {p pos kpos : Pos}
theorem pe_maxL (hc : X.calm = true) (hm : X.mg "max" = none) (he : PA X [e] te) (hd : PE X d td) (hg : Gl X "max" := by rfl)
    (hb : backTo pos (starEach [e] X.env) = (false, eval e X.env) :: backTo pos (starEach [] X.env) := by rfl) (hpl : (backTo pos (starEach [e] X.env)).any (·.1) = false := by rfl) : PE X (.Call (.Name "max" p) [e] [⟨some "default", d, kpos⟩] pos) (tMaxL X.K te td) := by
  intro pins s σ H Q I h
  refine wpAny_Call_Name_kw (ld_blt I hg hm Boot.«max» ?_)
  refine PyProof.Rows.callWith_kw (thn (he pos pins s σ H _ I h) fun us s1 ⟨xs, H1, I1, r1, q1⟩ => ?_) hb hpl rfl rfl
  refine PyProof.Rows.kws_cons (thn (hd pins s1 σ H1 _ I1 q1) fun dv s2 ⟨dx, H2, I2, rd, a, ns, e1, hq, q2⟩ => PyProof.Rows.kws_nil ?_)
  subst e1
  obtain ⟨u, rfl, ru⟩ := vals1 r1
  cases ru
  refine call_maxD (pins := pins) (σ := σ) ?_
  obtain ⟨its, rv, pl, hz⟩ := I2.list hq
  refine wpAny_pyIter_list pl.isList ?_
  have hfr : H2 s2.heap.objs.size = none := I2.hok.fresh (Nat.le_refl _)
  refine ⟨s2.heap.objs.size, [s2.heap.objs.size], _, ns, H2, rfl, (I2.kept (t' := s2.toks) fun b o e => Heap.get?_push_of_some _ e).in1, drw_list hc hq (I2.in1.fpOk (Nat.le_refl _) hfr), ⟨_, Heap.get?_push_size _ rfl, rfl, rfl⟩, fun b hb => ?_, fun s' u I' hu => ⟨_, H2, I', mxV_rel rd hu, q2⟩⟩
  have : b = s2.heap.objs.size := by simpa using hb
  rw [this, Heap.size_push]
  exact Nat.lt_succ_self _
theorem pe_maxD (hc : X.calm = true) (hm : X.mg "max" = none) (he : PA X [e] te) (hd : PE X d td) (hg : Gl X "max" := by rfl)
    (hb : backTo pos (starEach [e] X.env) = (false, eval e X.env) :: backTo pos (starEach [] X.env) := by rfl) (hpl : (backTo pos (starEach [e] X.env)).any (·.1) = false := by rfl) : PE X (.Call (.Name "max" p) [e] [⟨some "default", d, kpos⟩] pos) (tMaxD te td) := by
  intro pins s σ H Q I h
  refine wpAny_Call_Name_kw (ld_blt I hg hm Boot.«max» ?_)
  refine PyProof.Rows.callWith_kw (thn (he pos pins s σ H _ I h) fun us s1 ⟨xs, H1, I1, r1, q1⟩ => ?_) hb hpl rfl rfl
  refine PyProof.Rows.kws_cons (thn (hd pins s1 σ H1 _ I1 q1) fun dv s2 ⟨dx, H2, I2, rd, a, kvs, ns, e1, hq, hk, q2⟩ => PyProof.Rows.kws_nil ?_)
  subst e1
  obtain ⟨u, rfl, ru⟩ := vals1 r1
  cases ru
  refine call_maxD (pins := pins) (σ := σ) ?_
  have ⟨o, H3, I3, hH3, x3, ne3⟩ : ∃ o H3, Inv X pins σ H3 s2 ∧ H3 a = some (.frz o (.dK kvs)) ∧ Ext H2 H3 ∧ ∀ b, b ≠ a → H3 b = H2 b := by
    rcases hq with h | ⟨o, h⟩
    · obtain ⟨_, _, _, _, o, _, _, e, _⟩ := I2.hok a _ h
      refine ⟨o, _, I2.shut h e, upd_same, fun b u q3 => ?_, fun b hb => upd_ne hb⟩
      by_cases hb : b = a
      · subst hb
        rw [h] at q3
        cases q3
        exact .inr ⟨⟨_, rfl⟩, o, upd_same⟩
      · exact .inl (by rw [upd_ne hb]; exact q3)
    · exact ⟨o, H2, I2, h, Ext.refl _, fun _ _ => rfl⟩
  obtain ⟨eo, hz, hs, vs, kv, od⟩ := I3.hok a _ hH3
  have hll : kvs.length = vs.length := Paired.length kv
  obtain ⟨ob, es, ep, e', ex, d', r⟩ := id od
  rw [eo] at e'; cases e'
  have at' : s2.heap.DictAt (mixKind X.prog X.w) a vs ep := ⟨o, es, eo, ex, d', r⟩
  refine wpAny_pyIter_dict hs at' ?_
  have hfr : H3 s2.heap.objs.size = none := I3.hok.fresh (Nat.le_refl _)
  refine ⟨s2.heap.objs.size, [s2.heap.objs.size], _, ns, H3, rfl, (I3.kept (t' := s2.toks) fun b o e => Heap.get?_push_of_some _ e).in1, drw_dict (es := es) (ep := ep) hc d' hH3 hk (I3.in1.fpOk (Nat.le_refl _) hfr), ?_, fun b hb => ?_, fun s' u I' hu => ⟨_, H3, I', mxV_rel rd hu, q2 o H3 x3 hH3 ne3⟩⟩
  · rw [hll]
    exact ⟨_, Heap.get?_push_size _ rfl, rfl, rfl⟩
  · have : b = s2.heap.objs.size := by simpa using hb
    rw [this, Heap.size_push]
    exact Nat.lt_succ_self _
end
end L2


set_option Elab.async false
set_option linter.all false
set_option maxRecDepth 100000
set_option maxHeartbeats 4000000
namespace L2
open PySem PySem.Spec PyProof.Rows Tw
/-- words of letters, at a -/
structure CodeL (H : Hp) (a : Addr) (ws : List W) : Prop where
  at_ : H a = some (.lst (ws.map sv))
  ok : ∀ x ∈ ws, isWordV az (sv x) = true
  few : ws.length ≤ 10000
  short : ∀ x ∈ ws, x.length ≤ 10000
section
variable {H H' : Hp} {a : Addr} {ws : List W} {K : PySem.W.Frag}
theorem CodeL.code (h : CodeL H a ws) : CodeAt K H a ws := ⟨SqL.of h.at_, h.few, h.short⟩
theorem CodeL.ext (h : CodeL H a ws) (x : Ext H H') : CodeL H' a ws := ⟨x.lst h.at_, h.ok, h.few, h.short⟩
theorem CodeL.full (h : CodeL H a ws) : Tw.Full ws := fun x hx e => by
  have := h.ok x hx
  subst e
  exact absurd this (by decide)
theorem CodeL.arg (h : CodeL H a ws) : LstArg K H (.ref a) := by
  refine ⟨⟨_, .lst h.at_⟩, fun b xs e hr => ?_⟩
  cases e
  have := hr.inj (.inl h.at_)
  subst this
  refine ⟨by rw [List.length_map]; exact small_line (by have := h.few; omega), fun y hy H' _ => ?_⟩
  obtain ⟨x, _, rfl⟩ := List.mem_map.mp hy
  exact ⟨_, .str _⟩
theorem CodeL.sz (h : CodeL H a ws) : Sz H (.ref a) := fun b xs e hr x hx => by
  cases e
  have := hr.inj (.inl h.at_)
  subst this
  obtain ⟨y, hy, e⟩ := List.mem_map.mp hx
  cases e
  rw [st_len]
  exact small_line (by have := h.short y hy; omega)
theorem CodeL.all (h : CodeL H a ws) {b : Bool} (q : AllSo H (.ref a) (isWordV az) b) : b = true := by
  rw [q.eq (.inl h.at_), List.all_eq_true]
  intro y hy
  obtain ⟨x, hx, rfl⟩ := List.mem_map.mp hy
  exact h.ok x hx
end
end L2


set_option Elab.async false
set_option linter.all false
set_option maxRecDepth 100000
set_option maxHeartbeats 4000000
namespace L2
open PySem PySem.Spec PyProof.Rows Tw
/-- [(a, b) for .. in l]: the elements are new tuples -/
theorem block_tups {K : PySem.W.Frag} {D : Addr} {ys : List V} {te : TE} {σ : St} {H1 : Hp} {Q : VK} {j0 j1 : Option Nat} {jr : List (Option Nat)} (hS : SqL K H1 D ys) (hn : ys.length ≤ sizeLine) (A B : Nat → V) (f : Nat → List V)
    (hT : ∀ i v, ys[i]? = some v → ∃ t, v = .ref t ∧ H1 t = some (.tup [A i, B i]))
    (hte : ∀ i H' (R : VK), i < ys.length → Ext H1 H' → (∀ t, H' t = none → R (.ref t) (upd H' t (.tup (f i)))) → te (some (A i) :: some (B i) :: subSt jr σ) H' R)
    (hQ : ∀ E H' zs, H1 E = none → Ext H1 H' → H' E = some (.lst zs) → zs.length = ys.length → (∀ i v, zs[i]? = some v → ∃ t, v = .ref t ∧ H' t = some (.tup (f i))) → Q (.ref E) H') : tBlock (Itl K D) (j0 :: j1 :: jr) (gTup K 2 (gCons (gName 0) (gCons (gName 1) gNil))) tYes te σ H1 Q := by
  intro E hE
  refine ⟨fun i m σ' H' => m = ys.length - i ∧ i ≤ ys.length ∧ (∃ y z, σ' = y :: z :: subSt jr σ) ∧ Ext H1 H' ∧ ∃ zs, H' E = some (.lst zs) ∧ zs.length = i ∧ ∀ i v, zs[i]? = some v → ∃ t, v = .ref t ∧ H' t = some (.tup (f i)),
    ⟨ys.length, by simp, Nat.zero_le _, ⟨_, _, rfl⟩, Ext.new hE, [], upd_same, rfl, fun i v e => by simp at e⟩, ?_⟩
  rintro i m σ' H' ⟨rfl, hi, ⟨y, z, rfl⟩, x, zs, hz, hzl, hzt⟩
  by_cases hlt : i < ys.length
  · refine .inr ⟨⟨ys, ys[i], x.sqL hS, by simp [hlt]⟩, fun σ2 H2 => (∃ y z, σ2 = y :: z :: subSt jr σ) ∧ Ext H1 H2 ∧ ∃ zs, H2 E = some (.lst zs) ∧ zs.length = i + 1 ∧ ∀ i v, zs[i]? = some v → ∃ t, v = .ref t ∧ H2 t = some (.tup (f i)), fun σ2 H2 h => ⟨ys.length - (i + 1), by omega, rfl, hlt, h⟩, ?_⟩
    rintro v H2 ⟨rfl, hv⟩
    obtain ⟨t, rfl, ht⟩ := hT i v (hv ys (x.sqL hS))
    refine ⟨t, _, rfl, SqT.of (x.tup ht), rfl, _, _, rfl, _, _, rfl, rfl, ?_⟩
    dsimp only [tYes]
    rw [if_pos rfl]
    refine hte i _ _ hlt x fun t2 ht2 => ?_
    have hz2 := upd_keep (u := .tup (f i)) hz ht2
    refine ⟨zs, hz2, by omega, ⟨_, _, rfl⟩, (x.newer ht2).over hE, zs ++ [.ref t2], upd_same, by simp [hzl], fun j v e => ?_⟩
    have hEt : t2 ≠ E := (ne_of_none hz ht2).symm
    rw [List.getElem?_append] at e
    split at e
    · obtain ⟨t3, e3, h3⟩ := hzt j v e
      exact ⟨t3, e3, upd_k (upd_keep h3 ht2) (ne_of h3 hz (by simp))⟩
    · rename_i hj
      have : j = i := by
        cases q : j - zs.length with
        | zero => omega
        | succ n => rw [q] at e; simp at e
      subst this
      rw [hzl, Nat.sub_self] at e
      simp at e
      subst e
      exact ⟨t2, rfl, by rw [upd_ne hEt, upd_same]⟩
  · have e : i = ys.length := by omega
    subst e
    exact .inl ⟨⟨ys, x.sqL hS, Nat.le_refl _⟩, hQ E H' zs hE x hz hzl hzt⟩
/-- the ways, as they are read -/
def WaysAt (H : Hp) (p : Addr) (ws : List W) (t : W) : Prop := ∃ kvs, Rd H p (.dK kvs) ∧ ∀ j : Nat, j ≤ t.length → valV kvs (.inl (j : Int)) = some (.int (waysOf ws t j))
theorem Ext.ways {H H' : Hp} {p : Addr} {ws : List W} {t : W} (x : Ext H H') (h : WaysAt H p ws t) : WaysAt H' p ws t := let ⟨kvs, h1, h2⟩ := h; ⟨kvs, x.rdK h1, h2⟩
end L2


set_option Elab.async false
set_option linter.all false
set_option maxRecDepth 100000
set_option maxHeartbeats 4000000
namespace L2
open PySem PySem.Spec PyProof.Rows Tw
theorem mx_nat (M : Nat) : ∀ (L : List Nat) (b : Option Int), (∀ n ∈ L, 1 ≤ n ∧ n ≤ M) → (∀ m, b = some m → ∃ k : Nat, m = k ∧ 1 ≤ k ∧ k ≤ M) →
    (L = [] ∧ (L.map fun (n : Nat) => (n : Int)).foldl mxStep b = b) ∨ ∃ k : Nat, (L.map fun (n : Nat) => (n : Int)).foldl mxStep b = some (k : Int) ∧ 1 ≤ k ∧ k ≤ M ∧ (∀ n ∈ L, n ≤ k) ∧ ∀ m, b = some m → m ≤ k
  | [], b, _, _ => .inl ⟨rfl, rfl⟩
  | n :: L, b, hL, hb => by
    refine .inr ?_
    obtain ⟨h1, h2⟩ := hL n List.mem_cons_self
    have hb' : ∃ k : Nat, mxStep b (n : Int) = some (k : Int) ∧ 1 ≤ k ∧ k ≤ M ∧ n ≤ k ∧ ∀ m, b = some m → m ≤ (k : Int) := by
      cases b with
      | none => exact ⟨n, rfl, h1, h2, Nat.le_refl _, fun m e => nomatch e⟩
      | some m =>
        obtain ⟨k, rfl, k1, k2⟩ := hb m rfl
        show ∃ k' : Nat, some (if (k : Int) < (n : Int) then (n : Int) else (k : Int)) = some (k' : Int) ∧ _
        by_cases e : (k : Int) < (n : Int)
        · rw [if_pos e]
          exact ⟨n, rfl, h1, h2, Nat.le_refl _, fun m e2 => by cases e2; omega⟩
        · rw [if_neg e]
          exact ⟨k, rfl, k1, k2, by omega, fun m e2 => by cases e2; exact Int.le_refl _⟩
    obtain ⟨k, e1, k1, k2, k3, k4⟩ := hb'
    rw [List.map_cons, List.foldl_cons, e1]
    rcases mx_nat M L (some (k : Int)) (fun m hm => hL m (List.mem_cons_of_mem _ hm)) (fun m e => by cases e; exact ⟨k, rfl, k1, k2⟩) with ⟨rfl, q⟩ | ⟨k', q, q1, q2, q3, q4⟩
    · exact ⟨k, q, k1, k2, fun m hm => by simp at hm; omega, k4⟩
    · have := q4 _ rfl
      exact ⟨k', q, q1, q2, fun m hm => by
        rcases List.mem_cons.mp hm with z | z
        · omega
        · exact q3 m z, fun m e => by have := k4 m e; omega⟩
theorem mxV_nat {L : List Nat} {M : Nat} (hM : 1 ≤ M) (h : ∀ n ∈ L, 1 ≤ n ∧ n ≤ M) : ∃ k : Nat, mxV (L.map fun (n : Nat) => (n : Int)) (.int 1) = .int (k : Int) ∧ 1 ≤ k ∧ k ≤ M ∧ ∀ n ∈ L, n ≤ k := by
  unfold mxV mxOf
  rcases mx_nat M L none h (fun m e => nomatch e) with ⟨rfl, q⟩ | ⟨k, q, q1, q2, q3, _⟩
  · rw [q]
    exact ⟨1, rfl, Nat.le_refl _, hM, fun n hn => by simp at hn⟩
  · rw [q]
    exact ⟨k, rfl, q1, q2, q3⟩
def IntsL (H : Hp) (a : Addr) (r : List Nat) : Prop := H a = some (.lst (intsV r)) ∧ r.length ≤ 100000
section
variable {H H' : Hp} {a : Addr} {r : List Nat} {K : PySem.W.Frag}
theorem IntsL.ext (h : IntsL H a r) (x : Ext H H') : IntsL H' a r := ⟨x.lst h.1, h.2⟩
theorem IntsL.arg (h : IntsL H a r) : LstArg K H (.ref a) := by
  refine ⟨⟨_, .lst h.1⟩, fun b xs e hr => ?_⟩
  cases e
  have := hr.inj (.inl h.1)
  subst this
  refine ⟨by rw [List.length_map]; exact small_line (by have := h.2; omega), fun y hy H' _ => ?_⟩
  obtain ⟨x, _, rfl⟩ := List.mem_map.mp hy
  exact ⟨_, .int _⟩
theorem IntsL.all (h : IntsL H a r) {n : Nat} (hn : ∀ i ∈ r, i < n) {b : Bool} (q : AllSo H (.ref a) (isPlaceV (n : Int)) b) : b = true := by
  rw [q.eq (.inl h.1), List.all_eq_true]
  intro y hy
  obtain ⟨i, hi, rfl⟩ := List.mem_map.mp hy
  have := hn i hi
  show (decide ((0 : Int) ≤ (i : Int)) && decide ((i : Int) < (n : Int))) = true
  simp
  omega
theorem IntsL.places (h : IntsL H a r) : PlacesAt K H a r := ⟨SqL.of h.1, h.2⟩
end
theorem textOf_take {ws : List W} {r : List Nat} {i p : Nat} (h : r[i]? = some p) : (textOf ws (r.take (i + 1))).length = (textOf ws (r.take i)).length + (ws.getD p []).length := by
  rw [take_snoc h]
  unfold textOf
  rw [List.map_append, List.flatten_append, List.length_append]
  simp
theorem textOf_le (ws : List W) (r : List Nat) (i : Nat) : (textOf ws (r.take i)).length ≤ (textOf ws r).length := by
  conv => rhs; rw [← List.take_append_drop i r]
  unfold textOf
  rw [List.map_append, List.flatten_append, List.length_append]
  omega
section
variable {P : Program} {w : World} {K : PySem.W.Frag} {mg : Str → Option Value} {base : Heap} {cCode cText cRead cNumber cPlaces cLengths : Addr}
theorem text_sz {t : W} (h : t.length ≤ 100000) : ∀ x, sv t = .str x → x.length ≤ sizeLine := fun x e => by
  cases e
  rw [st_len]
  exact small_line (by omega)
def spHowMany (K : PySem.W.Frag) : Sp := fun vs H Q _ => ∃ (a : Addr) (ws : List W) (t : W), vs = [.ref a, sv t] ∧ CodeL H a ws ∧ isTextV (sv t) = true ∧ t.length ≤ 100000 ∧ ∀ H', Ext H H' → Q (.int (waysOf ws t 0)) H'
theorem ok_how_many (D : Def K mg "how_many" "how_many" Pl.s_how_many ["code", "text"]) (B : Bare mg) (CA : Cal P w K mg base (CX1 P w) 5 "check_asked" ["code", "text"] (spCheckAsked K cCode cText))
    (CG : Cal P w K mg base CX0 1 "grouped" ["words"] (spGrouped K)) (CW : Cal P w K mg base CX0 2 "ways_from_marks" ["groups", "text", "kept"] (spWays K)) : Cal P w K mg base (CX1 P w) 6 "how_many" ["code", "text"] (spHowMany K) := by
  have sc : FnScope ["code", "text", "groups"] ["code", "text"] (defScope Pl.s_how_many) := ⟨rfl, rfl, rfl, by decide +kernel, rfl, by decide +kernel, by decide +kernel⟩
  refine D.cal fun f fd F => F.okX sc (fun vs H Q E h => ?_) (fun cdv A outer s H vs Q E hr h => ?_)
  · obtain ⟨_, _, _, rfl, _⟩ := h
    rfl
  · obtain ⟨a, ws, t, rfl, hC, hT, htl, k⟩ := h
    have hu := hu_of hr
    refine ⟨_, pss_cons (ps_expr (pe_callF CA hr (pa_cons (pv 0) (pa_cons (pv 1) pa_nil)) passX))
      (pss_cons (ps_set (i := 2) sc.nd rfl (Or.inl rfl) (pe_callF CG (hr.mono (by decide)) (pa_cons (pv 0) pa_nil) pass0))
      (pss_one (ps_ret (pe_dget hu (pe_callF CW (hr.mono (by decide)) (pa_cons (pv 2) (pa_cons (pv 1) (pa_cons (pe_maxD rfl B.max (pa_cons (pv 2) pa_nil) pe_int) pa_nil))) pass0) pe_int (fun _ _ => rfl))))), ?_⟩
    refine ⟨_, rfl, _, rfl, .ref a, sv t, rfl, hC.arg, hC.sz, fun _ _ => ⟨_, .str _⟩, text_sz htl, fun b H1 x1 hA => ⟨fun hb => absurd (hC.all hA) (by rw [hb]; decide), fun _ => ⟨fun _ => ?_, fun z => absurd hT (by rw [z]; decide)⟩⟩⟩
    have hC1 := hC.ext x1
    refine ⟨_, rfl, a, ws, rfl, hC1.code, fun g d f H2 hg x2 G => ?_⟩
    refine ⟨_, rfl, _, rfl, _, rfl, g, _, (lensOf ws).map fun (n : Nat) => (n : Int), rfl, .inl G.gd, by rw [List.map_map, List.map_map]; rfl, fun o H3 x3 hH3 ne3 => ?_⟩
    obtain ⟨kept, ek, e1, e2, e3⟩ := mxV_nat (L := lensOf ws) (M := 10000) (by decide) fun n hn => by
      obtain ⟨x, hx, e⟩ := (mem_lensOf ws n).mp hn
      have := hC.short x hx
      have hne := hC.full x hx
      have : 0 < x.length := List.length_pos_iff.mpr hne
      omega
    rw [ek]
    refine ⟨g, ws, d, f, t, kept, rfl, x3.gr G.rd, hC.full, hC.few, htl, by omega, fun n hn _ => e3 n hn, e1, fun p H4 kvs hp x4 hH4 hv => ?_⟩
    exact ⟨p, .int (waysOf ws t 0), rfl, .inl ⟨kvs, (.inl 0 : Key), .inl hH4, rfl, (hv 0 (by omega) (by omega)).symm⟩, k H4 (((x1.trans x2).trans x3).trans x4)⟩
end
end L2


set_option Elab.async false
set_option linter.all false
set_option maxRecDepth 100000
set_option maxHeartbeats 4000000
namespace L2
open PySem PySem.Spec PyProof.Rows Tw
/-! ### lists of bools compared; a text times a number -/
theorem kb_lay : ∀ bs : List Bool, PyData.canLayAll0 (bs.map PyData.bool) = true
  | [] => rfl
  | _ :: r => by simp [PyData.canLayAll0, PyData.canLay0, kb_lay r]
theorem kb_depth : ∀ bs : List Bool, PyData.depthAll (bs.map PyData.bool) = 0
  | [] => rfl
  | _ :: r => by simp [PyData.depthAll, PyData.depth, kb_depth r]
theorem kb_shaped (bs : List Bool) : SeqAt.shaped (.list (bs.map PyData.bool)) = true := by simp [SeqAt.shaped, PyData.canLay0, PyData.depth, kb_lay, kb_depth]
theorem kb_sameAll (bs : List Bool) : ∀ cs : List Bool, PySem.Spec.sameAll (bs.map PyData.bool) (cs.map PyData.bool) = decide (bs = cs) := by
  induction bs with
  | nil => intro cs; cases cs <;> simp [PySem.Spec.sameAll]
  | cons a r ih =>
    intro cs
    cases cs with
    | nil => simp [PySem.Spec.sameAll]
    | cons b t =>
      have e := ih t
      by_cases q : r = t <;> cases a <;> cases b <;> simp_all [PySem.Spec.sameAll, PySem.Spec.same]
theorem kb_carried : ∀ bs : List Bool, CarriedAll (bs.map Value.bool) (bs.map PyData.bool)
  | [] => .nil
  | b :: r => .cons (.bool b) (kb_carried r)
def rNeLB (K : PySem.W.Frag) : R2 := fun x y H Q => ∃ (p q : Addr) (bs cs : List Bool), x = .ref p ∧ y = .ref q ∧ SqL K H p (bs.map V.bl) ∧ SqL K H q (cs.map V.bl) ∧ Q (.bl (!decide (bs = cs))) H
theorem op_neLB {X : Cx} (hu : X.A.units + 64 < cLine) : OpR X (compareOp .NotEq) (rNeLB X.K) := by
  intro pins s σ H x y v u Q I rx ry h
  obtain ⟨p, q, bs, cs, rfl, rfl, hp, hq, k⟩ := h
  cases rx
  cases ry
  obtain ⟨its, r, pl, _⟩ := I.list hp
  obtain ⟨its', r', pl', _⟩ := I.list hq
  have e1 := bools_of r
  have e2 := bools_of r'
  subst e1 e2
  refine ne_dataH_same (reads_newData pl.isList (kb_carried bs)) (reads_newData pl'.isList (kb_carried cs)) (kb_shaped _) (kb_shaped _) hu (SeqAt.noMix_of_shape (.list .bool) rfl _ _ (list_map_has fun _ => rfl) (list_map_has fun _ => rfl)) ?_
  have e : PySem.Spec.same (.list (bs.map PyData.bool)) (.list (cs.map PyData.bool)) = decide (bs = cs) := by simp only [PySem.Spec.same]; exact kb_sameAll bs cs
  rw [e]
  exact ⟨.bl _, H, I, rfl, k⟩
theorem fold_app (a : Array Nat) : ∀ (n : Nat) (acc : Array Nat), (List.replicate n a).foldl (· ++ ·) acc = acc ++ (List.replicate n a.toList).flatten.toArray
  | 0, acc => by simp
  | n + 1, acc => by
    rw [List.replicate_succ, List.foldl_cons, fold_app a n (acc ++ a), List.replicate_succ, List.flatten_cons]
    apply Array.ext'
    simp
def rMulS : R2 := fun x y H Q => ∃ (a : W) (n : Int), x = sv a ∧ y = .int n ∧ 0 ≤ n ∧ n ≤ 1000 ∧ a.length ≤ 1000 ∧ Q (sv (List.replicate n.toNat a).flatten) H
theorem op_mulS {X : Cx} : OpR X (binaryOp .Mult) rMulS := by
  intro pins s σ H x y v u Q I rx ry h
  obtain ⟨a, n, rfl, rfl, h0, h1, ha, q⟩ := h
  obtain ⟨t, rfl⟩ := rx
  obtain ⟨t', rfl⟩ := ry
  have hlen : a.length * n.toNat ≤ 1000000 := Nat.mul_le_mul ha (show n.toNat ≤ 1000 by omega)
  refine PySem.P.mul_str (by
    have g1 : ¬ n < -(2 ^ 63 : Int) := by omega
    have g2 : ¬ n ≥ 2 ^ 63 := by omega
    rw [decide_eq_false g1, decide_eq_false g2]; rfl) (fun g1 _ => ?_) (fun _ _ => ?_) ?_
  · rw [st_len]
    have : (9223372036854775 : Int) ≤ (2 ^ 63 - 1) / n := by
      rw [Int.le_ediv_iff_mul_le (by omega)]
      omega
    omega
  · rw [st_len]
    unfold Builtin.Str.tooLong
    exact decide_eq_false (by have := small_line hlen; omega)
  · by_cases g1 : n < 1
    · rw [if_pos g1]
      have : n.toNat = 0 := by omega
      rw [this] at q
      exact ⟨by decide, sv [], H, I.tok _, ⟨_, rfl⟩, q⟩
    · rw [if_neg g1]
      by_cases g2 : (n == 1 || (st a).length == 0) = true
      · rw [if_pos g2]
        have e : (List.replicate n.toNat a).flatten = a := by
          rw [Bool.or_eq_true, beq_iff_eq, beq_iff_eq, st_len] at g2
          rcases g2 with z | z
          · rw [z]; simp
          · have : a = [] := List.eq_nil_of_length_eq_zero z
            rw [this]; simp
        rw [e] at q
        exact ⟨sv a, H, I, ⟨t, rfl⟩, q⟩
      · rw [if_neg g2]
        have e : (⟨(List.replicate n.toNat (st a).cps).foldl (· ++ ·) #[]⟩ : Str) = st (List.replicate n.toNat a).flatten := by
          rw [fold_app]
          show (⟨#[] ++ (List.replicate n.toNat a).flatten.toArray⟩ : Str) = ⟨(List.replicate n.toNat a).flatten.toArray⟩
          simp
        rw [e]
        refine ⟨?_, sv _, H, I.tok _, ⟨_, rfl⟩, q⟩
        rw [st_len]
        have : (List.replicate n.toNat a).flatten.length = n.toNat * a.length := by simp
        rw [this, Nat.mul_comm]
        exact small_line hlen
end L2


set_option Elab.async false
set_option linter.all false
set_option maxRecDepth 100000
set_option maxHeartbeats 4000000
namespace L2
open PySem PySem.Spec PyProof.Rows Tw
section
variable {X : Cx}
theorem op_eqL0 (hu : X.A.units < cLine) : OpR X (compareOp .Eq) (fun x y H Q => ∃ (p q : Addr) (xs : List V), x = .ref p ∧ y = .ref q ∧ SqL X.K H p xs ∧ SqL X.K H q [] ∧ Q (.bl (decide (xs = []))) H) := by
  intro pins s σ H x y v u Q I rx ry h
  obtain ⟨p, q, xs, rfl, rfl, hp, hq, k⟩ := h
  cases rx
  cases ry
  obtain ⟨its, r, pl, _⟩ := I.list hp
  obtain ⟨its', r', pl', _⟩ := I.list hq
  have e' : its' = [] := List.eq_nil_of_length_eq_zero (by rw [← r'.length]; rfl)
  subst e'
  cases xs with
  | nil =>
    have e : its = [] := List.eq_nil_of_length_eq_zero (by rw [← r.length]; rfl)
    subst e
    exact SeqAt.eq_listAt (e := fun _ => true) pl.isList pl'.isList rfl hu (fun j h1 _ => absurd h1 (Nat.not_lt_zero j)) ⟨.bl _, H, I, rfl, k⟩
  | cons x0 xs =>
    have hl := r.length
    refine SeqAt.eq_list_lengthsAt pl.isList pl'.isList ?_ hu ⟨.bl false, H, I, rfl, by simpa using k⟩
    simp only [List.size_toArray, ← hl]
    simp
theorem eqBl {A : Around} {s : Shared} (a b : Bool) : SeqAt.EqAt A s (.bool a) (.bool b) (decide (a = b)) := by
  have e : decide (a = b) = (a == b) := by cases a <;> cases b <;> rfl
  rw [e]
  exact SeqAt.EqAt.bool_bool a b
theorem op_eqLB (hu : X.A.units < cLine) : OpR X (compareOp .Eq) (fun x y H Q => ∃ (p q : Addr) (as bs : List Bool), x = .ref p ∧ y = .ref q ∧ SqL X.K H p (as.map V.bl) ∧ SqL X.K H q (bs.map V.bl) ∧ as.length = bs.length ∧ Q (.bl (decide (as = bs))) H) := by
  intro pins s σ H x y v u Q I rx ry h
  obtain ⟨p, q, as, bs, rfl, rfl, hp, hq, hl, k⟩ := h
  cases rx
  cases ry
  obtain ⟨its, r, pl, _⟩ := I.list hp
  obtain ⟨its', r', pl', _⟩ := I.list hq
  have e1 := bools_of r
  have e2 := bools_of r'
  subst e1
  subst e2
  refine SeqAt.eq_listAt (e := fun j => decide (as[j]? = bs[j]?)) pl.isList pl'.isList (by simp [hl]) hu (fun j h1 h2 => ?_) ⟨.bl _, H, I, ?_, k⟩
  · simp only [List.size_toArray, List.length_map] at h1 h2
    simp only [List.getElem_toArray, List.getElem_map]
    rw [List.getElem?_eq_getElem h1, List.getElem?_eq_getElem h2]
    simp only [Option.some.injEq]
    exact eqBl _ _
  · show Value.bool _ = Value.bool _
    congr 1
    rw [Bool.eq_iff_iff, List.all_eq_true, decide_eq_true_iff]
    constructor
    · intro z
      apply List.ext_getElem?
      intro i
      rcases Nat.lt_or_ge i as.length with q | q
      · simpa using z i (List.mem_range.mpr (by simpa using q))
      · rw [List.getElem?_eq_none q, List.getElem?_eq_none (by omega)]
    · rintro rfl i _
      simp
/-! ### a text told backwards -/
theorem revIdx (n : Nat) : Builtin.Str.strSliceIndices none none (-1) n = (List.range n).map fun k => n - 1 - k := by
  show sliceRange (if (-1 : Int) > 0 then 0 else (n : Int) - 1) (if (-1 : Int) > 0 then (n : Int) else -1) (-1) = _
  simp only [show ¬ ((-1 : Int) > 0) by decide, if_false]
  unfold sliceRange
  simp only [show ¬ ((-1 : Int) > 0) by decide, if_false]
  have e : ((if (n : Int) - 1 > -1 then ((n : Int) - 1 - -1 - -1 - 1) / (- -1) else 0 : Int)).toNat = n := by
    split <;> simp <;> omega
  rw [e]
  apply List.map_congr_left
  intro k hk
  have := List.mem_range.mp hk
  omega
theorem rev_range (n : Nat) : (List.range n).map (fun k => n - 1 - k) = (List.range n).reverse := by
  apply List.ext_getElem
  · simp
  · intro i h1 h2
    simp
theorem revPicked (a : W) (t : Tok) : ((slicePicked (st a) none none (some (-1, t))).filterMap ((st a).cps[·]?)) = a.reverse := by
  unfold slicePicked
  rw [st_len]
  show (Builtin.Str.strSliceIndices none none (-1) a.length).filterMap _ = _
  rw [revIdx, rev_range, List.filterMap_reverse]
  have : (fun i : Nat => (st a).cps[i]?) = fun i : Nat => a[i]? := by funext i; show (a.toArray)[i]? = a[i]?; simp
  rw [this, List.filterMap_getElem?_range_length]
theorem pe_rev {e es : Expr} {te ts : TE} {p2 pos : Pos} (he : PE X e te) (hs : PE X es ts) : PE X (.Subscript e (.Slice none none (some es) p2) pos)
    (fun σ H Q => te σ H fun x H1 => ts σ H1 fun i H2 => ∃ a : W, x = sv a ∧ i = .int (-1) ∧ a.length ≤ sizeLine ∧ Q (sv a.reverse) H2) := by
  intro pins s σ H Q I h
  refine Subscript_ (thn (he pins s σ H _ I h) fun v s1 ⟨x, H1, I1, r1, q1⟩ => ?_)
  refine wpAny_Slice ?_
  rw [evalPart_none]
  refine wpAny_pure ?_
  rw [evalPart_some]
  refine wpAny_pure ?_
  refine thn (hs pins s1 σ H1 _ I1 q1) fun u s2 ⟨y, H2, I2, r2, q2⟩ => ?_
  obtain ⟨a, rfl, rfl, hz, q⟩ := q2
  obtain ⟨t, rfl⟩ := r1
  obtain ⟨tu, rfl⟩ := r2
  have I4 : Inv X pins σ H2 { s2 with heap := s2.heap.push { cls := .type "slice", data := .fields #[.none, .none, .int (-1) tu] } } := I2.kept (t' := s2.toks) fun b ob q => Heap.get?_push_of_some _ q
  refine tail_any (ops := [.ref s2.heap.objs.size, .str (st a) t]) (typeIs_str _ _ t) PySem.F.slot_str_getitem.lookup ?_ (by with_unfolding_all rfl)
  refine wpAny_getItem_str_slice (l := none) (u := none) (st := some (-1, tu)) ⟨_, Heap.get?_push_size _ rfl, rfl, rfl⟩ rfl ?_
  unfold sliceMade
  rw [if_neg (by simp)]
  show Made.post (.str ⟨_⟩) _ _
  rw [revPicked]
  exact ⟨by rw [show (⟨a.reverse.toArray⟩ : Str) = st a.reverse from rfl, st_len, List.length_reverse]; exact hz, sv a.reverse, H2, I4.tok _, ⟨_, rfl⟩, q⟩
end
end L2


set_option Elab.async false
set_option linter.all false
set_option maxRecDepth 100000
set_option maxHeartbeats 2000000
namespace L2
open PySem PySem.Spec PyProof.Rows Tw
seal PSs PS PE PT PW PA PG PGs PI PC
theorem call_isi_s {X : Cx} {K : PySem.W.Frag} (h : X.K = K) : CallR X (.builtin "isinstance") (rIsi K) := by subst h; exact call_isi
section
variable {P : Program} {w : World} {K : PySem.W.Frag} {mg : Str → Option Value} {base : Heap}
def spStands : Sp := fun vs H Q _ => ∃ (x t : W) (m : Nat), vs = [sv x, sv t, .int (m : Int)] ∧ x.length ≤ 10000 ∧ t.length ≤ 100000 ∧ m ≤ t.length ∧ Q (.bl (decide (cut t m x.length = x))) H
theorem ok_stands (D : Def K mg "_law_stands" "_law_stands" Pl.s_law_stands ["_law_word", "_law_text_here", "_law_at"]) (B : Bare mg) : Cal P w K mg base CX0 1 "_law_stands" ["_law_word", "_law_text_here", "_law_at"] spStands := by
  have sc : FnScope ["_law_word", "_law_text_here", "_law_at"] ["_law_word", "_law_text_here", "_law_at"] (defScope Pl.s_law_stands) := ⟨rfl, rfl, rfl, by decide +kernel, rfl, by decide +kernel, by decide +kernel⟩
  refine D.cal fun f fd F => F.ok sc (fun vs H Q E h => ?_) (fun cdv A outer s H vs Q E hr h => ?_)
  · obtain ⟨_, _, _, rfl, _⟩ := h
    rfl
  · obtain ⟨x, t, m, rfl, hx, ht, hm, k⟩ := h
    refine ⟨_, pss_one (ps_ret (pe_cmpR op_eq (pe_slice sl_str (pv 1) (po_some (pv 2)) (po_some (pe_op op_add (pv 2) (pe_callB call_len_str (by rfl) B.len PySem.boot_len (pa_cons (pv 0) pa_nil))))) (pv 0) (nomark _))), ?_⟩
    refine ⟨_, rfl, _, rfl, (m : Int), rfl, _, rfl, _, rfl, st x, rfl, by rw [st_len]; exact small_line (by omega), _, _, rfl, rfl, _, rfl, t, rfl, small_line (by omega), _, rfl, rfl, ?_⟩
    rw [st_len, cut_run' t m x.length hm]
    have e : decide (sv (cut t m x.length) = sv x) = decide (cut t m x.length = x) := by
      by_cases z : cut t m x.length = x
      · rw [z]; simp
      · rw [decide_eq_false z, decide_eq_false fun q => z (st_inj (V.str.inj q))]
    rw [e]
    exact k
def spNumbers (K : PySem.W.Frag) : Sp := fun vs H Q _ => ∃ (p : Addr) (r : List Nat), vs = [.ref p] ∧ H p = some (.lst (intsV r)) ∧ r.length ≤ 100000 ∧ ∀ H', Ext H H' → Q (.bl true) H'
theorem ok_numbers (D : Def K mg "_law_numbers" "_law_numbers" Pl.s_law_numbers ["_law_found"]) (B : Bare mg) : Cal P w K mg base CX0 1 "_law_numbers" ["_law_found"] (spNumbers K) := by
  have sc : FnScope ["_law_found"] ["_law_found"] (defScope Pl.s_law_numbers) := ⟨rfl, rfl, rfl, by decide +kernel, rfl, by decide +kernel, by decide +kernel⟩
  refine D.cal fun f fd F => F.ok sc (fun vs H Q E h => ?_) (fun cdv A outer s H vs Q E hr h => ?_)
  · obtain ⟨_, _, rfl, _⟩ := h
    rfl
  · obtain ⟨p, r, rfl, hp, hz, k⟩ := h
    have nd : (["_law_one"] : List Str).Nodup := by decide +kernel
    refine ⟨_, pss_cons (ps_if (pt_not (pt_val (pe_isi_list B (pv 0)))) (pss_one (ps_ret pe_bl)) pss_nil)
      (pss_one (ps_ret (pe_callB (call_all_bl rfl) (by rfl) B.all Boot.«all» (pa_cons
        (pe_comp (N' := ["_law_one"]) (js := [none]) (.of (by kernel_rfl)) rfl (pi_list (pv 0)) fun C fp s₀ H₀ => ⟨pg_name (i := 0) nd rfl (Or.inl rfl), pts_nil,
          pe_and (pe_callB (r := rIsi K) (call_isi_s rfl) (by rfl) B.isi boot_isinstance (pa_cons (pv 0) (pa_cons (pe_bltn (v := .ty "int") (by rfl) B.int boot_int rfl) pa_nil))) (pe_one (pe_not (pe_callB (r := rIsi K) (call_isi_s rfl) (by rfl) B.isi boot_isinstance (pa_cons (pv 0) (pa_cons (pe_bltn (v := .ty "bool") (by rfl) B.bool boot_bool rfl) pa_nil)))))⟩) pa_nil)))), ?_⟩
    obtain ⟨t, b, ty, e, hb⟩ := isi_list (K := K) (H := H) (v := .ref p) ⟨_, .lst hp⟩
    have hbt : b = true := hb.mpr ⟨p, _, rfl, .inl hp⟩
    subst hbt
    refine ⟨_, rfl, _, _, t, _, rfl, trivial, ty, e, _, rfl, iteF ?_⟩
    have hq : SqL K H p (intsV r) := SqL.of hp
    refine ⟨_, rfl, p, rfl, ⟨_, hq⟩, ?_⟩
    refine block_map1 hq (by unfold intsV; rw [List.length_map]; exact small_line (by omega)) (fun y => .bl true) (fun y H' hy x1 Q' k' => ?_) (fun D H' _ x1 hD => ?_)
    · obtain ⟨i, hi, rfl⟩ := List.mem_map.mp hy
      obtain ⟨t, ty, e⟩ := isi_int (K := K) (H := H') (v := .int (i : Int)) ⟨_, .int _⟩
      refine ⟨_, rfl, _, _, t, _, rfl, trivial, ty, e, _, rfl, iteT ?_⟩
      obtain ⟨t, ty, e⟩ := isi_bool (K := K) (H := H') (v := .int (i : Int)) ⟨_, .int _⟩
      exact ⟨_, rfl, _, _, t, _, rfl, trivial, ty, e, _, rfl, k' _ H' (Ext.refl _) rfl⟩
    · refine ⟨D, (intsV r).map fun _ => true, rfl, SqL.of (by rw [hD]; simp [Function.comp_def]), ?_⟩
      have e : ((intsV r).map fun _ => true).all id = true := by simp
      rw [e]
      exact k H' x1
end
end L2


set_option Elab.async false
set_option linter.all false
set_option maxRecDepth 100000
set_option maxHeartbeats 2000000
namespace L2
open PySem PySem.Spec PyProof.Rows Tw
seal PSs PS PE PT PW PA PG PGs PI PC
/-- a word of letters, not too long -/
structure Good (n : Nat) (x : W) : Prop where
  ne : x ≠ []
  az_ : ∀ z ∈ x, z ∈ az
  len : x.length ≤ n
theorem Good.ok {n : Nat} {x : W} (h : Good n x) : isWordV az (sv x) = true := by
  show (decide (x ≠ []) && x.all fun z => az.contains z) = true
  rw [decide_eq_true h.ne, Bool.true_and, List.all_eq_true]
  intro z hz
  simpa using h.az_ z hz
theorem Good.mono {n m : Nat} {x : W} (h : Good n x) (hm : n ≤ m) : Good m x := ⟨h.ne, h.az_, by have := h.len; omega⟩
theorem good_code {H : Hp} {a : Addr} {ws : List W} (h : H a = some (.lst (ws.map sv))) (hl : ws.length ≤ 64) (hg : ∀ x ∈ ws, Good 65 x) : CodeL H a ws :=
  ⟨h, fun x hx => (hg x hx).ok, by omega, fun x hx => by have := (hg x hx).len; omega⟩
theorem rep_len (n c : Nat) : (List.replicate n [c]).flatten.length = n := by
  induction n with
  | zero => rfl
  | succ n ih => rw [List.replicate_succ, List.flatten_cons, List.length_append, ih, List.length_singleton]; omega
theorem s_one (c : Nat) : (⟨#[c]⟩ : Str) = st [c] := rfl
theorem mod_nat {i k : Int} (hk : 0 < k) : ∃ n : Nat, i % k = (n : Int) ∧ (n : Int) < k := ⟨(i % k).toNat, by have := Int.emod_nonneg i (by omega : k ≠ 0); omega, by have := Int.emod_lt_of_pos i hk; have := Int.emod_nonneg i (by omega : k ≠ 0); omega⟩
theorem mod_ix {α : Type} {xs : List α} {i k : Int} (hk : 0 < k) (hl : k ≤ xs.length) : ∃ v, atI xs (i % k) = some v ∧ v ∈ xs := by
  obtain ⟨n, e, l⟩ := mod_nat (i := i) hk
  have hn : n < xs.length := by omega
  exact ⟨xs[n], by rw [e]; exact atI_nat (by simp [hn]), by simp⟩
theorem ints_get {ns : List Int} {i : Nat} {y : V} (h : (ns.map V.int)[i]? = some y) : ∃ z, y = V.int z := by
  rw [List.getElem?_map] at h
  cases e : ns[i]? with
  | none => rw [e] at h; cases h
  | some z => rw [e] at h; exact ⟨z, (Option.some.inj h).symm⟩
theorem cutV_ints (ns : List Int) (lo hi : Option Int) : ∃ ms : List Int, cutV (ns.map V.int) lo hi = ms.map V.int ∧ ms.length ≤ ns.length := by
  refine ⟨cutL ns lo hi, ?_, cutL_length ns lo hi⟩
  rw [cutV_cutL]
  unfold cutL
  rw [List.length_map, List.map_take, List.map_drop]
theorem sE : Str.ofString "" = st [] := by decide +kernel
theorem letters_ok : ∀ v ∈ [V.str "abc", V.str "dmz", V.str "ahy"], ∃ ls : W, v = sv ls ∧ ls.length = 3 ∧ ∀ z ∈ ls, z ∈ az := by
  intro v hv
  simp only [List.mem_cons, List.not_mem_nil, or_false] at hv
  rcases hv with rfl | rfl | rfl
  · exact ⟨[97, 98, 99], by rw [show (Str.ofString "abc") = st [97, 98, 99] by decide +kernel], rfl, by decide⟩
  · exact ⟨[100, 109, 122], by rw [show (Str.ofString "dmz") = st [100, 109, 122] by decide +kernel], rfl, by decide⟩
  · exact ⟨[97, 104, 121], by rw [show (Str.ofString "ahy") = st [97, 104, 121] by decide +kernel], rfl, by decide⟩
theorem two_three : ∀ v ∈ [V.int 2, V.int 3, V.int 2, V.int 3], ∃ k : Int, v = .int k ∧ 0 < k ∧ k ≤ 3 := by
  intro v hv
  simp only [List.mem_cons, List.not_mem_nil, or_false] at hv
  rcases hv with rfl | rfl | rfl | rfl <;> exact ⟨_, rfl, by decide, by decide⟩
theorem lastWord {K : PySem.W.Frag} {D : Ends} {a p2 : Addr} {kd : Int} {ls wd : W} {c : Option V} {ws : List W} {H H1 : Hp} (hp : H1 p2 = some (.lst (ws.map sv))) (xH : Ext H H1) (hH2 : H p2 = none) (hwl : ws.length ≤ 63) (hdl : wd.length ≤ 63)
    (hz : ∀ z ∈ wd, z ∈ az) (hg : ∀ x ∈ ws, Good 63 x)
    (rest : ∀ (ws' : List W) (H3 : Hp), Ext H H3 → H3 p2 = some (.lst (ws'.map sv)) → ws'.length ≤ 64 → (∀ x ∈ ws', Good 63 x) → D.nx [some (.ref a), some (.int kd), some (sv ls), some (.ref p2), some (sv wd), c] H3) :
    if (!decide (sv wd = V.str (Str.ofString ""))) = true then tDrop (tBM K "list" rAppend (tVar 3) (tCons (tVar 4) tNil)) D [some (.ref a), some (.int kd), some (sv ls), some (.ref p2), some (sv wd), c] H1
      else tNext D [some (.ref a), some (.int kd), some (sv ls), some (.ref p2), some (sv wd), c] H1 := by
  by_cases e : wd = []
  · subst e
    refine iteF' (by rw [sE]; decide) (rest ws H1 xH hp (by omega) hg)
  · refine iteT' (by rw [sE, Bool.not_eq_true', decide_eq_false_iff_not]; intro z; exact e (st_inj (V.str.inj z))) ?_
    refine ⟨_, rfl, .inl ⟨rfl, _, SqL.of hp⟩, _, rfl, p2, _, _, rfl, rfl, hp, ?_, rest (ws ++ [wd]) _ (xH.over hH2) (by rw [upd_same]; simp) ?_ fun x hx => ?_⟩
    · rw [List.length_map]
      exact Nat.lt_of_le_of_lt hwl (by decide)
    · rw [List.length_append, List.length_singleton]; omega
    · rcases List.mem_append.mp hx with h | h
      · exact hg x h
      · rw [List.mem_singleton] at h; subst h
        exact ⟨e, hz, hdl⟩
section
variable {P : Program} {w : World} {K : PySem.W.Frag} {mg : Str → Option Value} {base : Heap}
def spLawCode (K : PySem.W.Frag) : Sp := fun vs H Q _ => ∃ (a : Addr) (ns : List Int), vs = [.ref a] ∧ SqL K H a (ns.map V.int) ∧ ns.length ≤ 63 ∧ ∀ (p : Addr) (ws : List W) (H' : Hp), H p = none → Ext H H' → H' p = some (.lst (ws.map sv)) → ws.length ≤ 64 → (∀ x ∈ ws, Good 65 x) → Q (.ref p) H'
theorem ok_law_code (D : Def K mg "_law_code" "_law_code" Pl.s_law_code ["_law_script"]) (B : Bare mg) : Cal P w K mg base CX0 1 "_law_code" ["_law_script"] (spLawCode K) := by
  have sc : FnScope ["_law_script", "_law_kind", "_law_letters", "_law_words", "_law_word", "_law_cell"] ["_law_script"] (defScope Pl.s_law_code) := ⟨rfl, rfl, rfl, by decide +kernel, rfl, by decide +kernel, by decide +kernel⟩
  refine D.cal fun f fd F => F.ok sc (fun vs H Q E h => ?_) (fun cdv A outer s H vs Q E hr h => ?_)
  · obtain ⟨_, _, rfl, _⟩ := h
    rfl
  · obtain ⟨a, ns, rfl, hS, hlen, k⟩ := h
    have nd1 : (["_law_cell", "_law_letters"] : List Str).Nodup := by decide +kernel
    have nd2 : (["_law_word", "_law_letters"] : List Str).Nodup := by decide +kernel
    refine ⟨_, pss_cons (ps_set (i := 1) sc.nd rfl (Or.inl rfl) (pe_op op_mod (pe_callB (call_sum_int rfl) (by rfl) B.sum Boot.«sum» (pa_cons (pv 0) pa_nil)) pe_int))
      (pss_cons (ps_set (i := 2) sc.nd rfl (Or.inr rfl) (pe_ix (r := rIxT K) ix_tup (pe_tup (pa_cons pe_str (pa_cons pe_str (pa_cons pe_str pa_nil)))) (pe_op op_mod (pe_op op_fdiv (pe_callB (call_sum_int rfl) (by rfl) B.sum Boot.«sum» (pa_cons (pv 0) pa_nil)) pe_int) pe_int) (fun _ _ => rfl)))
      (pss_cons (ps_set (i := 3) sc.nd rfl (Or.inl rfl) (pe_lst pa_nil)) (pss_cons (ps_set (i := 4) sc.nd rfl (Or.inl rfl) pe_str)
      (pss_cons (ps_for PassesOwn.never rfl (pi_list (pv 0)) (pg_name (i := 5) sc.nd rfl (Or.inl rfl))
        (pss_cons (ps_set (i := 4) sc.nd rfl (Or.inl rfl) (pe_op op_add_str (pv 4) (pe_ix (r := rIxS) ix_str (pv 2) (pe_op op_mod (pv 5) (pe_ix (r := rIxT K) ix_tup (pe_tup (pa_cons pe_int (pa_cons pe_int (pa_cons pe_int (pa_cons pe_int pa_nil))))) (pv 1) (fun _ _ => rfl))) (fun _ _ => rfl))))
        (pss_one (ps_if (pt_cmpR op_eq (pe_op op_mod (pe_op op_fdiv (pv 5) pe_int) pe_int) pe_int (nomark _))
          (pss_cons (ps_expr (pe_bm PySem.F.plainAttrs_list PySem.F.slot_list_append PySem.F.type_list_append mt_append (pv 3) (pa_cons (pv 4) pa_nil))) (pss_one (ps_set (i := 4) sc.nd rfl (Or.inl rfl) pe_str))) pss_nil))))
      (pss_cons (ps_if (pt_cmpR op_ne (pv 4) pe_str (nomark _)) (pss_one (ps_expr (pe_bm PySem.F.plainAttrs_list PySem.F.slot_list_append PySem.F.type_list_append mt_append (pv 3) (pa_cons (pv 4) pa_nil)))) pss_nil)
      (pss_cons (ps_if (pt_cmpR op_eq (pv 1) pe_int (nomark _)) (pss_one (ps_ret (pe_comp (N' := ["_law_cell", "_law_letters"]) (js := [none, some 2]) (.of (by kernel_rfl)) rfl (pi_list (pe_slice sl_list (pv 0) po_none (po_some pe_int))) fun C fp s₀ H₀ =>
          ⟨pg_name (i := 0) nd1 rfl (Or.inl rfl), pts_nil, pe_op op_add_str (pe_ix (r := rIxS) ix_str (pv 1) pe_int (fun _ _ => rfl)) (pe_op op_mulS (pe_ix (r := rIxS) ix_str (pv 1) pe_int (fun _ _ => rfl)) (pe_op op_mod (pe_op op_fdiv (pv 0) pe_int) pe_int))⟩))) pss_nil)
      (pss_one (ps_ret (pe_ifExp (pt_cmpR op_eq (pv 1) pe_int (nomark _)) (pe_comp (N' := ["_law_word", "_law_letters"]) (js := [none, some 2]) (.of (by kernel_rfl)) rfl (pi_list (pv 3)) fun C fp s₀ H₀ =>
          ⟨pg_name (i := 0) nd2 rfl (Or.inl rfl), pts_nil, pe_op op_add_str (pe_ix (r := rIxS) ix_str (pv 1) pe_int (fun _ _ => rfl)) (pe_rev (pv 0) (pe_un un_neg pe_int))⟩) (pv 3)))))))))), ?_⟩
    refine ⟨_, rfl, a, ns, rfl, hS, _, _, rfl, rfl, by show (0 : Int) < 4; decide, ?_⟩
    obtain ⟨v, hv, hvm⟩ := mod_ix (xs := [V.str "abc", V.str "dmz", V.str "ahy"]) (i := ns.sum / 4) (k := 3) (by decide) (by decide)
    obtain ⟨ls, rfl, hl3, hlz⟩ := letters_ok v hvm
    obtain ⟨v4, hv4, hv4m⟩ := mod_ix (xs := [V.int 2, V.int 3, V.int 2, V.int 3]) (i := ns.sum) (k := 4) (by decide) (by decide)
    obtain ⟨k4, rfl, hk0, hk3⟩ := two_three v4 hv4m
    have hsl : (st ls).length ≤ sizeLine := by rw [st_len]; exact small_line (by omega)
    refine ⟨by show 3 ≤ sizeLine; decide, fun p1 h1 => ?_⟩
    have x1 := Ext.new (o := HO.tup [V.str "abc", V.str "dmz", V.str "ahy"]) h1
    refine ⟨_, rfl, a, ns, rfl, x1.sqL hS, _, _, rfl, rfl, ⟨by decide, by decide⟩, _, _, rfl, rfl, by show (0 : Int) < 3; decide, p1, _, _, _, rfl, rfl, SqT.of upd_same, hv, ?_⟩
    refine ⟨by show 0 ≤ sizeLine; decide, fun p2 h2 => ?_⟩
    have x2 := x1.newer (o := HO.lst []) h2
    have hH2 : H p2 = none := x1.free h2
    refine ⟨_, rfl, a, rfl, ⟨_, x2.sqL hS⟩, for_list (K := K) (a := a) (xs := ns.map V.int) (fun i σ H2 => ∃ (ws : List W) (wd : W) (c : Option V), σ = [some (.ref a), some (.int (ns.sum % 4)), some (sv ls), some (.ref p2), some (sv wd), c] ∧ Ext H H2 ∧ H2 p2 = some (.lst (ws.map sv)) ∧ ws.length ≤ i ∧ wd.length ≤ i ∧ (∀ z ∈ wd, z ∈ az) ∧ ∀ x ∈ ws, Good i x) ?_ (fun i σ H2 _ ⟨_, _, _, _, x, _⟩ => x.sqL hS) ?_ ?_⟩
    · exact ⟨[], [], none, by rw [sE]; rfl, x2, upd_same, Nat.le_refl _, Nat.le_refl _, (fun z hz => nomatch hz), fun x hx => nomatch hx⟩
    · rintro i y σ H2 hi ⟨ws, wd, c, rfl, xH, hp, hwl, hdl, hz, hg⟩
      obtain ⟨z, rfl⟩ := ints_get hi
      have hin : i < 63 := by have := (List.getElem?_eq_some_iff.mp hi).1; rw [List.length_map] at this; omega
      obtain ⟨ch, hch, hcm⟩ := mod_ix (xs := ls) (i := z) (k := k4) hk0 (by rw [hl3]; exact hk3)
      refine ⟨_, rfl, _, rfl, _, rfl, by show 4 ≤ sizeLine; decide, fun q hq => ⟨_, rfl, q, _, _, _, rfl, rfl, SqT.of upd_same, hv4, _, _, rfl, rfl, hk0, st ls, _, ch, rfl, rfl, hsl, hch, _, _, rfl, rfl, ?_, ?_⟩⟩
      · rw [st_len]; exact small_line (by show wd.length + 1 ≤ 1000000; omega)
      have e1 : st wd ++ (⟨#[ch]⟩ : Str) = st (wd ++ [ch]) := st_app wd [ch]
      rw [e1]
      have x3 := xH.newer (o := HO.tup [V.int 2, V.int 3, V.int 2, V.int 3]) hq
      have hp3 := upd_keep (u := HO.tup [V.int 2, V.int 3, V.int 2, V.int 3]) hp hq
      have hz3 : ∀ y ∈ wd ++ [ch], y ∈ az := fun y hy => by
        rcases List.mem_append.mp hy with h | h
        · exact hz y h
        · rw [List.mem_singleton] at h; subst h; exact hlz _ hcm
      refine ⟨_, rfl, _, _, rfl, rfl, ⟨by decide, by decide⟩, _, _, rfl, rfl, by show (0 : Int) < 3; decide, rfl, _, rfl, ?_⟩
      by_cases h0 : z / 3 % 3 = 0
      · refine iteT' (by show decide (V.int (z / 3 % 3) = V.int 0) = true; rw [h0]; decide) ?_
        refine ⟨_, rfl, .inl ⟨rfl, _, SqL.of hp3⟩, _, rfl, p2, _, _, rfl, rfl, hp3, ?_, ?_⟩
        · rw [List.length_map]
          exact Nat.lt_of_le_of_lt (show ws.length ≤ 63 by omega) (by decide)
        · refine ⟨ws ++ [wd ++ [ch]], [], _, by rw [sE]; rfl, x3.over hH2, by rw [upd_same]; simp, ?_, Nat.zero_le _, (fun z hz => nomatch hz), fun x hx => ?_⟩
          · rw [List.length_append, List.length_singleton]; omega
          · rcases List.mem_append.mp hx with h | h
            · exact (hg x h).mono (by omega)
            · rw [List.mem_singleton] at h; subst h
              exact ⟨by simp, hz3, by rw [List.length_append, List.length_singleton]; omega⟩
      · refine iteF' (by rw [decide_eq_true_iff]; intro q; exact h0 (V.int.inj q)) ?_
        exact ⟨ws, wd ++ [ch], _, rfl, x3, hp3, by omega, by rw [List.length_append, List.length_singleton]; omega, hz3, fun x hx => (hg x hx).mono (by omega)⟩
    · rintro σ H2 ⟨ws, wd, c, rfl, xH, hp, hwl, hdl, hz, hg⟩
      rw [List.length_map] at hwl hdl hg
      refine ⟨_, rfl, rfl, _, rfl, lastWord hp xH hH2 (by omega) (by omega) hz (fun x hx => (hg x hx).mono (by omega)) fun ws' H3 x3 hp3 hl3' hg3 => ?_⟩
      obtain ⟨c0, c1, c2, rfl⟩ : ∃ c0 c1 c2, ls = [c0, c1, c2] := by
        match ls, hl3 with
        | [c0, c1, c2], _ => exact ⟨c0, c1, c2, rfl⟩
      have z0 : c0 ∈ az := hlz c0 (by simp)
      have z1 : c1 ∈ az := hlz c1 (by simp)
      have z2 : c2 ∈ az := hlz c2 (by simp)
      refine ⟨_, rfl, rfl, _, rfl, ?_⟩
      by_cases k2 : ns.sum % 4 = 2
      · refine iteT' (by show decide (V.int (ns.sum % 4) = V.int 2) = true; rw [k2]; decide) ?_
        obtain ⟨ms, em, hml⟩ := cutV_ints ns none (some 12)
        refine ⟨_, rfl, 12, rfl, a, _, rfl, x3.sqL hS, fun q hq => ⟨q, rfl, ⟨_, SqL.of upd_same⟩, ?_⟩⟩
        have x4 := x3.newer (o := HO.lst (cutV (ns.map V.int) none (some 12))) hq
        refine block_map1 (SqL.of upd_same) (by rw [em, List.length_map]; exact small_line (by omega)) (fun y => match y with | .int z => .str ((⟨#[c1]⟩ : Str) ++ st (List.replicate (z / 2 % 9).toNat [c0]).flatten) | _ => .non) (fun y H' hy x1 Q' k' => ?_) (fun D' H' hD' x1 hD => ?_)
        · rw [em] at hy
          obtain ⟨z, _, rfl⟩ := List.mem_map.mp hy
          have g0 : 0 ≤ z / 2 % 9 := Int.emod_nonneg _ (by decide)
          have g1 : z / 2 % 9 < 9 := Int.emod_lt_of_pos _ (by decide)
          refine ⟨_, rfl, st [c0, c1, c2], 1, c1, rfl, rfl, hsl, rfl, _, rfl, st [c0, c1, c2], 0, c0, rfl, rfl, hsl, rfl, _, rfl, _, _, rfl, rfl, ⟨by decide, by decide⟩, _, _, rfl, rfl, by show (0 : Int) < 9; decide, [c0], z / 2 % 9, rfl, rfl, g0, by omega, by show 1 ≤ 1000; decide, _, _, rfl, rfl, ?_, k' _ H' (Ext.refl _) rfl⟩
          rw [st_len, rep_len]
          exact small_line (by show 1 + (z / 2 % 9).toNat ≤ 1000000; omega)
        · refine k D' (ms.map fun z => [c1] ++ (List.replicate (z / 2 % 9).toNat [c0]).flatten) H' (x4.free hD') (x4.trans x1) ?_ ?_ ?_
          · rw [hD, em, List.map_map, List.map_map]
            congr 2
            apply List.map_congr_left
            intro z _
            show V.str ((⟨#[c1]⟩ : Str) ++ st _) = _
            rw [s_one, st_app]
            rfl
          · rw [List.length_map]; omega
          · intro x hx
            obtain ⟨z, _, rfl⟩ := List.mem_map.mp hx
            have g0 : 0 ≤ z / 2 % 9 := Int.emod_nonneg _ (by decide)
            have g1 : z / 2 % 9 < 9 := Int.emod_lt_of_pos _ (by decide)
            refine ⟨by simp, fun y hy => ?_, ?_⟩
            · rcases List.mem_append.mp hy with h | h
              · rw [List.mem_singleton] at h; subst h; exact z1
              · obtain ⟨l, hl, hyl⟩ := List.mem_flatten.mp h
                rw [List.eq_of_mem_replicate hl, List.mem_singleton] at hyl
                subst hyl; exact z0
            · rw [List.length_append, rep_len]
              show 1 + (z / 2 % 9).toNat ≤ 65
              omega
      · refine iteF' (by rw [decide_eq_true_iff]; intro q; exact k2 (V.int.inj q)) ?_
        refine ⟨_, rfl, rfl, _, rfl, ?_⟩
        by_cases k3 : ns.sum % 4 = 3
        · refine iteT' (by show decide (V.int (ns.sum % 4) = V.int 3) = true; rw [k3]; decide) ?_
          refine ⟨_, rfl, p2, rfl, ⟨_, SqL.of hp3⟩, ?_⟩
          refine block_map1 (SqL.of hp3) (by rw [List.length_map]; exact small_line (by omega)) (fun y => match y with | .str x => .str ((⟨#[c2]⟩ : Str) ++ st x.cps.toList.reverse) | _ => .non) (fun y H' hy x1 Q' k' => ?_) (fun D' H' hD' x1 hD => ?_)
          · obtain ⟨x, hx, rfl⟩ := List.mem_map.mp hy
            have hxl := (hg3 x hx).len
            refine ⟨_, rfl, st [c0, c1, c2], 2, c2, rfl, rfl, hsl, rfl, _, rfl, 1, rfl, x, rfl, rfl, small_line (by omega), _, _, rfl, rfl, ?_, k' _ H' (Ext.refl _) rfl⟩
            rw [st_len, List.length_reverse]
            exact small_line (by show 1 + x.length ≤ 1000000; omega)
          · refine k D' (ws'.map fun x => [c2] ++ x.reverse) H' (x3.free hD') (x3.trans x1) ?_ ?_ ?_
            · rw [hD, List.map_map, List.map_map]
              congr 2
              apply List.map_congr_left
              intro x _
              show V.str ((⟨#[c2]⟩ : Str) ++ st x.reverse) = _
              rw [s_one, st_app]
              rfl
            · rw [List.length_map]; exact hl3'
            · intro x hx
              obtain ⟨y, hy, rfl⟩ := List.mem_map.mp hx
              have hg' := hg3 y hy
              refine ⟨by simp, fun z hz => ?_, ?_⟩
              · rcases List.mem_append.mp hz with h | h
                · rw [List.mem_singleton] at h; subst h; exact z2
                · exact hg'.az_ z (List.mem_reverse.mp h)
              · rw [List.length_append, List.length_reverse]
                have := hg'.len
                show 1 + y.length ≤ 65
                omega
        · refine iteF' (by rw [decide_eq_true_iff]; intro q; exact k3 (V.int.inj q)) ?_
          exact ⟨_, rfl, k p2 ws' H3 hH2 x3 hp3 hl3' fun x hx => (hg3 x hx).mono (by omega)⟩
end
end L2


set_option Elab.async false
set_option linter.all false
set_option maxRecDepth 100000
set_option maxHeartbeats 2000000
namespace L2
open PySem PySem.Spec PyProof.Rows Tw
seal PSs PS PE PT PW PA PG PGs PI PC
theorem mem_cutL {t : W} {lo hi : Option Int} {z : Nat} (h : z ∈ cutL t lo hi) : z ∈ t := List.mem_of_mem_drop (List.mem_of_mem_take h)
theorem sAB : Str.ofString "ab" = st [97, 98] := by decide +kernel
theorem sABZ : Str.ofString "abz" = st [97, 98, 122] := by decide +kernel
theorem flat_short {n : Nat} : ∀ {ls : List W}, (∀ x ∈ ls, x.length ≤ n) → ls.flatten.length ≤ ls.length * n
  | [], _ => by simp
  | x :: ls, h => by
    rw [List.flatten_cons, List.length_append, List.length_cons, Nat.add_mul]
    have h1 := h x List.mem_cons_self
    have h2 := flat_short (ls := ls) fun y hy => h y (List.mem_cons_of_mem _ hy)
    omega
section
variable {P : Program} {w : World} {K : PySem.W.Frag} {mg : Str → Option Value} {base : Heap}
def spLawText (K : PySem.W.Frag) : Sp := fun vs H Q _ => ∃ (p a : Addr) (ws : List W) (ns : List Int), vs = [.ref p, .ref a] ∧ H p = some (.lst (ws.map sv)) ∧ ws.length ≤ 64 ∧ (∀ x ∈ ws, Good 65 x) ∧ SqL K H a (ns.map V.int) ∧ ns.length ≤ 63 ∧
  ∀ (t : W) (H' : Hp), Ext H H' → (∀ z ∈ t, z ∈ az) → t.length ≤ 2000 → Q (sv t) H'
theorem ok_law_text (D : Def K mg "_law_text" "_law_text" Pl.s_law_text ["_law_code_here", "_law_script"]) (B : Bare mg) : Cal P w K mg base CX0 1 "_law_text" ["_law_code_here", "_law_script"] (spLawText K) := by
  have sc : FnScope ["_law_code_here", "_law_script", "_law_text_here", "_law_at"] ["_law_code_here", "_law_script"] (defScope Pl.s_law_text) := ⟨rfl, rfl, rfl, by decide +kernel, rfl, by decide +kernel, by decide +kernel⟩
  refine D.cal fun f fd F => F.ok sc (fun vs H Q E h => ?_) (fun cdv A outer s H vs Q E hr h => ?_)
  · obtain ⟨_, _, _, _, rfl, _⟩ := h
    rfl
  · obtain ⟨p, a, ws, ns, rfl, hp, hwl, hg, hS, hlen, k⟩ := h
    have hu : _ < cLine := Nat.lt_of_le_of_lt (Nat.le_add_right _ 64) hr.units
    have nd : (["_law_cell", "_law_code_here"] : List Str).Nodup := by decide +kernel
    refine ⟨_, pss_cons (ps_if (pt_cmpR (op_eqL0 hu) (pv 0) (pe_lst pa_nil) (nomark _)) (pss_one (ps_ret (pe_op op_mulS pe_str (pe_op op_mod (pe_callB (call_sum_int rfl) (by rfl) B.sum Boot.«sum» (pa_cons (pv 1) pa_nil)) pe_int)))) pss_nil)
      (pss_cons (ps_set (i := 2) sc.nd rfl (Or.inl rfl) (pe_bm PySem.F.plainAttrs_str PySem.F.slot_str_join PySem.F.type_str_join mt_join pe_str (pa_cons
        (pe_comp (N' := ["_law_cell", "_law_code_here"]) (js := [none, some 0]) (.of (by kernel_rfl)) rfl (pi_list (pe_slice sl_list (pv 1) po_none (po_some pe_int))) fun C fp s₀ H₀ => ⟨pg_name (i := 0) nd rfl (Or.inl rfl), pts_nil,
          pe_ix (r := rIxL K) ix_list (pv 1) (pe_op op_mod (pe_op op_fdiv (pv 0) pe_int) (pe_callB (r := rLenS K) (call_len_s rfl) (by rfl) B.len PySem.boot_len (pa_cons (pv 1) pa_nil))) (fun _ _ => rfl)⟩) pa_nil)))
      (pss_cons (ps_if (pw_or (pt_cmpR op_gt (pe_op op_mod (pe_op op_fdiv (pe_callB (call_sum_int rfl) (by rfl) B.sum Boot.«sum» (pa_cons (pv 1) pa_nil)) pe_int) pe_int) pe_int (nomark _)) (pw_or1 (pt_cmpR op_eq (pv 2) pe_str (nomark _)))).pt (pss_one (ps_ret (pv 2))) pss_nil)
      (pss_cons (ps_set (i := 3) sc.nd rfl (Or.inl rfl) (pe_op op_mod (pe_op op_fdiv (pe_callB (call_sum_int rfl) (by rfl) B.sum Boot.«sum» (pa_cons (pv 1) pa_nil)) pe_int) (pe_callB call_len_str (by rfl) B.len PySem.boot_len (pa_cons (pv 2) pa_nil))))
      (pss_one (ps_ret (pe_op op_add_str (pe_op op_add_str (pe_slice sl_str (pv 2) po_none (po_some (pv 3))) (pe_ix (r := rIxS) ix_str pe_str (pe_op op_mod (pe_ix (r := rIxL K) ix_list (pv 1) pe_int (fun _ _ => rfl)) pe_int) (fun _ _ => rfl)))
        (pe_slice sl_str (pv 2) (po_some (pe_op op_add (pv 3) pe_int)) po_none))))))), ?_⟩
    refine ⟨_, rfl, by show 0 ≤ sizeLine; decide, fun q hq => ⟨p, q, ws.map sv, rfl, rfl, SqL.of (upd_keep hp hq), SqL.of upd_same, _, rfl, ?_⟩⟩
    have x1 := Ext.new (o := HO.lst []) hq
    by_cases e0 : ws = []
    · subst e0
      refine iteT' (by rfl) ?_
      have g0 : 0 ≤ ns.sum % 3 := Int.emod_nonneg _ (by decide)
      have g1 : ns.sum % 3 < 3 := Int.emod_lt_of_pos _ (by decide)
      refine ⟨_, rfl, a, ns, rfl, x1.sqL hS, _, _, rfl, rfl, by show (0 : Int) < 3; decide, [97, 98], ns.sum % 3, by rw [sAB], rfl, g0, by omega, by show 2 ≤ 1000; decide, k _ _ x1 (fun z hz => ?_) ?_⟩
      · obtain ⟨l, hl, hzl⟩ := List.mem_flatten.mp hz
        rw [List.eq_of_mem_replicate hl] at hzl
        revert z
        intro z _ h
        simp only [List.mem_cons, List.not_mem_nil, or_false] at h
        rcases h with rfl | rfl <;> decide
      · have := flat_short (n := 2) (ls := List.replicate (ns.sum % 3).toNat [97, 98]) fun x hx => by rw [List.eq_of_mem_replicate hx]; exact Nat.le_refl _
        rw [List.length_replicate] at this
        omega
    · refine iteF' (by simp [e0]) ?_
      have hwp : 0 < ws.length := List.length_pos_iff.mpr e0
      obtain ⟨ms, em, hml⟩ := cutV_ints ns none (some 9)
      have em9 : ms.length ≤ 9 := by
        have : (cutV (ns.map V.int) none (some 9)).length ≤ 9 := by
          unfold cutV
          rw [List.length_take]
          have h9 := HT.sIx_nat (ns.map V.int).length (ns.map V.int).length 9
          have h0 : HT.sIx (ns.map V.int).length 0 none = 0 := rfl
          rw [h0]
          have : HT.sIx (ns.map V.int).length (ns.map V.int).length (some 9) ≤ 9 := by
            have e : HT.sIx (ns.map V.int).length (ns.map V.int).length (some ((9 : Nat) : Int)) = min 9 (ns.map V.int).length := HT.sIx_nat ..
            have e' : HT.sIx (ns.map V.int).length (ns.map V.int).length (some 9) = min 9 (ns.map V.int).length := e
            rw [e']
            exact Nat.min_le_left _ _
          omega
        rw [em, List.length_map] at this
        exact this
      refine ⟨rfl, _, rfl, 9, rfl, a, _, rfl, x1.sqL hS, fun q2 hq2 => ⟨q2, rfl, ⟨_, SqL.of upd_same⟩, ?_⟩⟩
      have x2 := x1.newer (o := HO.lst (cutV (ns.map V.int) none (some 9))) hq2
      have hp2 := x2.lst hp
      refine block_map1 (SqL.of upd_same) (by rw [em, List.length_map]; exact small_line (by omega)) (fun y => match y with | .int z => sv (ws.getD (z / 5 % (ws.length : Int)).toNat []) | _ => .non) (fun y H' hy y1 Q' k' => ?_) (fun D' H' hD' y1 hD => ?_)
      · rw [em] at hy
        obtain ⟨z, _, rfl⟩ := List.mem_map.mp hy
        obtain ⟨n, en, ln⟩ := mod_nat (i := z / 5) (k := (ws.length : Int)) (by omega)
        have hpH := y1.lst hp2
        refine ⟨_, rfl, _, rfl, _, _, rfl, rfl, ⟨by decide, by decide⟩, _, rfl, p, _, rfl, .inl (SqL.of hpH), _, _, rfl, rfl, by rw [List.length_map]; omega, p, _, _, sv (ws.getD n []), rfl, rfl, SqL.of hpH, ?_, k' _ H' (Ext.refl _) ?_⟩
        · rw [List.length_map, en]
          exact atI_nat (by rw [List.getElem?_map]; simp [show n < ws.length by omega])
        · show sv (ws.getD n []) = sv (ws.getD (z / 5 % (ws.length : Int)).toNat [])
          rw [en]
          rfl
      · have hgd : ∀ x ∈ ms.map (fun z => ws.getD (z / 5 % (ws.length : Int)).toNat []), Good 65 x := fun x hx => by
          obtain ⟨z, _, rfl⟩ := List.mem_map.mp hx
          obtain ⟨n, en, ln⟩ := mod_nat (i := z / 5) (k := (ws.length : Int)) (by omega)
          rw [en]
          show Good 65 (ws.getD n [])
          have hn : n < ws.length := by omega
          exact hg _ (by simp [hn])
        have hlt := flat_short (n := 65) fun x hx => (hgd x hx).len
        rw [List.length_map] at hlt
        have hz : ∀ z ∈ (ms.map (fun z => ws.getD (z / 5 % (ws.length : Int)).toNat [])).flatten, z ∈ az := fun z hz => by
          obtain ⟨l, hl, hzl⟩ := List.mem_flatten.mp hz
          exact (hgd l hl).az_ z hzl
        refine ⟨D', ms.map (fun z => ws.getD (z / 5 % (ws.length : Int)).toNat []), by rw [sE], rfl, SqL.of (by rw [hD, em, List.map_map, List.map_map]; rfl), by rw [← List.length_flatten]; omega, ?_⟩
        have hne : (ms.map (fun z => ws.getD (z / 5 % (ws.length : Int)).toNat [])).flatten ≠ [] → ns ≠ [] := fun h z => by
          subst z
          have : ms = [] := List.eq_nil_of_length_eq_zero (by simpa using hml)
          subst this
          exact h rfl
        generalize (ms.map (fun z => ws.getD (z / 5 % (ws.length : Int)).toNat [])).flatten = t at hlt hz hne ⊢
        have x3 := x2.trans y1
        have hSt : (st t).length ≤ sizeLine := by rw [st_len]; exact small_line (by omega)
        refine ⟨_, rfl, a, ns, rfl, x3.sqL hS, _, _, rfl, rfl, ⟨by decide, by decide⟩, _, _, rfl, rfl, by show (0 : Int) < 3; decide, _, _, rfl, rfl, _, rfl, ?_⟩
        by_cases hpos : 0 < ns.sum / 4 % 3
        · exact iteT' (by rw [decide_eq_true_iff]; exact hpos) (iteT ⟨_, rfl, k t H' x3 hz (by omega)⟩)
        · refine iteF' (by rw [decide_eq_true_iff]; exact hpos) ?_
          refine ⟨_, rfl, rfl, _, rfl, ?_⟩
          by_cases et : t = []
          · subst et
            exact iteT' (by rw [sE]; decide) ⟨_, rfl, k [] H' x3 hz (by show 0 ≤ 2000; decide)⟩
          · refine iteF' (by rw [sE, decide_eq_true_iff]; intro z; exact et (st_inj (V.str.inj z))) ?_
            have htp : 0 < t.length := List.length_pos_iff.mpr et
            obtain ⟨n0, nr, rfl⟩ : ∃ n0 nr, ns = n0 :: nr := by
              cases ns with
              | nil => exact absurd rfl (hne et)
              | cons n0 nr => exact ⟨n0, nr, rfl⟩
            obtain ⟨ch, hch, hcm⟩ := mod_ix (xs := [97, 98, 122]) (i := n0) (k := 3) (by decide) (by decide)
            have hca : ch ∈ az := by
              simp only [List.mem_cons, List.not_mem_nil, or_false] at hcm
              rcases hcm with rfl | rfl | rfl <;> decide
            refine ⟨_, rfl, a, _, rfl, x3.sqL hS, _, _, rfl, rfl, ⟨by decide, by decide⟩, _, rfl, st t, rfl, hSt, _, _, rfl, rfl, by rw [st_len]; omega, ?_⟩
            have l1 := cutL_length t none (some ((n0 :: nr).sum / 12 % ((st t).length : Int)))
            have l2 := cutL_length t (some (((n0 :: nr).sum / 12 % ((st t).length : Int)) + 1)) none
            refine ⟨_, rfl, _, rfl, ((n0 :: nr).sum / 12 % ((st t).length : Int)), rfl, t, rfl, small_line (by omega), _, rfl, a, _, 0, V.int n0, rfl, rfl, x3.sqL hS, atI_nat (j := 0) rfl, _, _, rfl, rfl, by show (0 : Int) < 3; decide, Str.ofString "abz", _, ch, rfl, rfl, by rw [sABZ, st_len]; decide, by rw [sABZ]; exact hch, _, _, rfl, rfl, ?_, _, rfl, _, rfl, _, _, rfl, rfl, _, rfl, t, rfl, small_line (by omega), _, _, rfl, rfl, ?_, ?_⟩
            · rw [st_len]; exact small_line (by show (cutL t none (some ((n0 :: nr).sum / 12 % ((st t).length : Int)))).length + 1 ≤ 1000000; omega)
            · rw [s_one, st_app, st_len (cutL t none (some ((n0 :: nr).sum / 12 % ((st t).length : Int))) ++ [ch]), st_len (cutL t (some (((n0 :: nr).sum / 12 % ((st t).length : Int)) + 1)) none), List.length_append, List.length_singleton]; exact small_line (by omega)
            · rw [s_one, st_app, st_app]
              refine k _ H' x3 (fun z hz' => ?_) ?_
              · rcases List.mem_append.mp hz' with h | h
                · rcases List.mem_append.mp h with h | h
                  · exact hz z (mem_cutL h)
                  · rw [List.mem_singleton] at h; subst h; exact hca
                · exact hz z (mem_cutL h)
              · rw [List.length_append, List.length_append, List.length_singleton]; omega
end
end L2


set_option Elab.async false
set_option linter.all false
set_option maxRecDepth 100000
set_option maxHeartbeats 1000000
namespace Ts
open PySem PyProof.Rows
/-! ### sorting keeps what is there, however long the list is -/
section
variable {prog : Program} {w : World} {A : Around} {E : Value → Shared → Prop} {s : Shared} {σ : Type} {α β : Type}
/-- m keeps I, and what it gives is R -/
def Kp (prog : Program) (w : World) (A : Around) (E : Value → Shared → Prop) (s : Shared) (I : σ → Prop) (m : StateT σ Sem α) (R : α → Prop) : Prop := ∀ st, I st → wpS (model prog w) A E s m (fun a st' => I st' ∧ R a) st
variable {I : σ → Prop}
theorem kp_pure {a : α} {R : α → Prop} (h : R a) : Kp prog w A E s I (pure a : StateT σ Sem α) R := fun _ i => wpS_pure ⟨i, h⟩
theorem kp_bind {m : StateT σ Sem α} {f : α → StateT σ Sem β} {R : α → Prop} {R' : β → Prop} (h : Kp prog w A E s I m R) (k : ∀ a, R a → Kp prog w A E s I (f a) R') : Kp prog w A E s I (m >>= f) R' :=
  fun st i => wpS_bind (wpS_mono (h st i) fun a st' q => k a q.2 st' q.1)
theorem kp_ite {c : Prop} [Decidable c] {x y : StateT σ Sem α} {R : α → Prop} (h1 : c → Kp prog w A E s I x R) (h2 : ¬ c → Kp prog w A E s I y R) : Kp prog w A E s I (if c then x else y) R := by
  split
  next h => exact h1 h
  next h => exact h2 h
theorem kp_imp {m : StateT σ Sem α} {R R' : α → Prop} (h : Kp prog w A E s I m R) (k : ∀ a, R a → R' a) : Kp prog w A E s I m R' := fun st i => wpS_mono (h st i) fun a _ q => ⟨q.1, k a q.2⟩
theorem kp_modify {f : σ → σ} (h : ∀ st, I st → I (f st)) : Kp prog w A E s I (modify f : StateT σ Sem PUnit) fun _ => True := fun st i => wpS_modify ⟨h st i, trivial⟩
theorem kp_get : Kp prog w A E s I (get : StateT σ Sem σ) fun st => I st := fun st i => wpS_get ⟨i, i⟩
theorem kp_rule {x : String} : Kp prog w A E s I (liftM (rule x) : StateT σ Sem PUnit) fun _ => True := fun st i => wpS_lift (wpAny_rule ⟨rfl, i, trivial⟩)
theorem kp_for {a b : Nat} {c : β} {f : Nat → β → StateT σ Sem (ForInStep β)} {R : β → Prop} (J : Nat → β → Prop)
    (step : ∀ i c, a ≤ i → i < b → J i c → Kp prog w A E s I (f i c) fun r => match r with | .done c' => R c' | .yield c' => J (i + 1) c') (fin : ∀ c, J (max a b) c → R c) (h : J a c) : Kp prog w A E s I (forIn [a:b] c f) R :=
  fun st i => wpS_forRange (I := fun n c st => I st ∧ J n c) (fun n c st h1 h2 q => wpS_mono (step n c h1 h2 q.2 st q.1) fun r st' q' => by cases r <;> exact q') (fun c st q => ⟨q.1, fin c q.2⟩) ⟨i, h⟩
end
section
variable {prog : Program} {w : World} {A : Around} {E : Value → Shared → Prop} {s : Shared}
/-- all keys are ints -/
def Ik (xs : Array Keyed) : Prop := ∀ (i : Nat) (p : Keyed), xs[i]? = some p → ∃ n t, p.1 = Value.int n t
theorem Ik.perm {xs ys : Array Keyed} (h : Ik ys) (p : xs.Perm ys) : Ik xs := fun i q e => by
  have m : q ∈ ys.toList := (Array.perm_iff_toList_perm.mp p).mem_iff.mp (List.mem_of_getElem? (by rw [Array.getElem?_toList]; exact e))
  obtain ⟨j, hj⟩ := List.mem_iff_getElem?.mp m
  exact h j q (by rw [← Array.getElem?_toList]; exact hj)
structure SI (a₀ : Array Keyed) (st : SortSt) : Prop where
  perm : (arrOf st).Perm a₀
  kind : kindOf st = oneType'
  failed : failedOf st = none
abbrev isInt (p : Keyed) : Prop := ∃ n t, p.1 = Value.int n t
variable {I : SortSt → Prop}
theorem kp_lt {x y : Keyed} (hk : ∀ st, I st → kindOf st = oneType') (hx : isInt x) (hy : isInt y) : Kp prog w A E s I (lt' x y) fun r => ∃ b, r = some b := by
  intro st i
  obtain ⟨n, t, e1⟩ := hx
  obtain ⟨m, u, e2⟩ := hy
  refine wpS_bind (wpS_get ?_)
  refine wpS_bind (wpS_lift (wpAny_attempt ?_))
  show wpAny _ _ (keyLt' (kindOf st) x.1 y.1) _ _ s
  rw [hk st i, e1, e2]
  exact oneLt_int ⟨rfl, wpS_pure ⟨i, _, rfl⟩⟩
theorem kp_elem {arr : Array Keyed} {i : Nat} (h : i < arr.size) : Kp prog w A E s I (elem' arr i) fun p => arr[i]? = some p := by
  intro st q
  rw [elem'_eq, getElem?_pos arr i h]
  exact wpS_pure ⟨q, rfl⟩
def gallop' : Bool → Keyed → Array Keyed → Nat → Nat → Nat → StateT SortSt Sem (Option Nat) := sortPriv% PySem.Builtin.gallop
theorem kp_gallop {left : Bool} {key : Keyed} {arr : Array Keyed} {base n hint : Nat} (hk : ∀ st, I st → kindOf st = oneType') (ha : Ik arr) (hy : isInt key) (hb : base + n ≤ arr.size) (hh : hint < n) :
    Kp prog w A E s I (gallop' left key arr base n hint) fun r => ∃ k, r = some k ∧ k ≤ n := by
  have bey : ∀ i, i < n → Kp prog w A E s I (do
      let x ← elem' arr (base + i)
      if left then lt' x key else return (← lt' key x).map (!·)) fun r => ∃ b, r = some b := fun i hi => by
    refine kp_bind (kp_elem (by omega)) fun p e => ?_
    have ip := ha _ _ e
    refine kp_ite (fun _ => kp_lt hk ip hy) fun _ => kp_bind (kp_lt hk hy ip) fun r q => ?_
    obtain ⟨b, rfl⟩ := q
    exact kp_pure ⟨_, rfl⟩
  refine kp_bind (bey hint hh) fun r q => ?_
  obtain ⟨b, rfl⟩ := q
  refine kp_ite (fun _ => ?_) fun _ => ?_
  · refine kp_bind (kp_for (fun _ c => c.1 = none) (R := fun c => c.1 = none) ?_ (fun c h => h) rfl) fun c hc => ?_
    · rintro i ⟨r, lo, ofs⟩ _ _ rfl
      refine kp_ite (fun _ => kp_pure rfl) fun lt => kp_bind (bey _ (by dsimp only at lt ⊢; omega)) fun r q => ?_
      obtain ⟨b, rfl⟩ := q
      exact kp_ite (fun _ => kp_pure rfl) fun _ => kp_pure rfl
    · obtain ⟨r, lastofs, ofs⟩ := c
      cases (show r = none from hc)
      refine kp_bind (kp_for (fun _ c => c.1 = none ∧ c.2.2 ≤ n) (R := fun c => c.1 = none ∧ c.2.2 ≤ n) ?_ (fun c h => h) ⟨rfl, by (try dsimp only); omega⟩) fun c hc => ?_
      · rintro i ⟨r, lo, hi⟩ _ _ ⟨rfl, h⟩
        refine kp_ite (fun _ => kp_pure ⟨rfl, h⟩) fun lt => kp_bind (bey _ (by dsimp only at lt h ⊢; omega)) fun r q => ?_
        obtain ⟨b, rfl⟩ := q
        exact kp_ite (fun _ => kp_pure ⟨rfl, h⟩) fun _ => kp_pure ⟨rfl, by dsimp only at lt h ⊢; omega⟩
      · obtain ⟨r, lo, hi⟩ := c
        obtain ⟨rfl, h⟩ := hc
        exact kp_pure ⟨_, rfl, h⟩
  · refine kp_bind (kp_for (fun _ c => c.1 = none) (R := fun c => c.1 = none) ?_ (fun c h => h) rfl) fun c hc => ?_
    · rintro i ⟨r, lo, ofs⟩ _ _ rfl
      refine kp_ite (fun _ => kp_pure rfl) fun lt => kp_bind (bey _ (by omega)) fun r q => ?_
      obtain ⟨b, rfl⟩ := q
      exact kp_ite (fun _ => kp_pure rfl) fun _ => kp_pure rfl
    · obtain ⟨r, lastofs, ofs⟩ := c
      cases (show r = none from hc)
      refine kp_bind (kp_for (fun _ c => c.1 = none ∧ c.2.2 ≤ n) (R := fun c => c.1 = none ∧ c.2.2 ≤ n) ?_ (fun c h => h) ⟨rfl, by (try dsimp only); omega⟩) fun c hc => ?_
      · rintro i ⟨r, lo, hi⟩ _ _ ⟨rfl, h⟩
        refine kp_ite (fun _ => kp_pure ⟨rfl, h⟩) fun lt => kp_bind (bey _ (by dsimp only at lt h ⊢; omega)) fun r q => ?_
        obtain ⟨b, rfl⟩ := q
        exact kp_ite (fun _ => kp_pure ⟨rfl, h⟩) fun _ => kp_pure ⟨rfl, by dsimp only at lt h ⊢; omega⟩
      · obtain ⟨r, lo, hi⟩ := c
        obtain ⟨rfl, h⟩ := hc
        exact kp_pure ⟨_, rfl, h⟩
/-- of a the first i, of b the first j have been taken -/
def Tk (a b out : Array Keyed) (i j : Nat) : Prop := out.toList.Perm (a.toList.take i ++ b.toList.take j)
section
variable {a b out : Array Keyed} {i j k : Nat} {p : Keyed}
theorem take_more {α : Type} {l : List α} {i : Nat} {p : α} (h : l[i]? = some p) : l.take (i + 1) = l.take i ++ [p] := by
  rw [List.take_add_one, h]; rfl
theorem Tk.pushB (h : Tk a b out i j) (e : b[j]? = some p) : Tk a b (out.push p) i (j + 1) := by
  unfold Tk at h ⊢
  rw [Array.toList_push, take_more (by rw [Array.getElem?_toList]; exact e), ← List.append_assoc]
  exact h.append_right _
theorem Tk.pushA (h : Tk a b out i j) (e : a[i]? = some p) : Tk a b (out.push p) (i + 1) j := by
  unfold Tk at h ⊢
  rw [Array.toList_push, take_more (by rw [Array.getElem?_toList]; exact e)]
  refine (h.append_right _).trans ?_
  rw [List.append_assoc, List.append_assoc]
  exact List.Perm.append_left _ List.perm_append_comm
theorem part_list (xs : Array Keyed) (i k : Nat) : (xs.extract i (i + k)).toList = (xs.toList.drop i).take k := by
  rw [Array.toList_extract, List.extract_eq_take_drop, Nat.add_sub_cancel_left]
theorem Tk.runA (h : Tk a b out i j) : Tk a b (out ++ a.extract i (i + k)) (i + k) j := by
  unfold Tk at h ⊢
  rw [Array.toList_append, part_list, List.take_add]
  refine (h.append_right _).trans ?_
  rw [List.append_assoc, List.append_assoc]
  exact List.Perm.append_left _ List.perm_append_comm
theorem Tk.runB (h : Tk a b out i j) : Tk a b (out ++ b.extract j (j + k)) i (j + k) := by
  unfold Tk at h ⊢
  rw [Array.toList_append, part_list, List.take_add, ← List.append_assoc]
  exact h.append_right _
theorem rest_list (xs : Array Keyed) (i : Nat) : (xs.extract i xs.size).toList = xs.toList.drop i := by
  rw [Array.toList_extract, List.extract_eq_take_drop]
  exact List.take_of_length_le (by rw [List.length_drop, Array.length_toList]; exact Nat.le_refl _)
theorem Tk.done (h : Tk a b out i j) : (out ++ a.extract i a.size ++ b.extract j b.size).Perm (a ++ b) := by
  rw [Array.perm_iff_toList_perm, Array.toList_append, Array.toList_append, Array.toList_append, rest_list, rest_list]
  refine ((h.append_right _).append_right _).trans ?_
  have e1 := List.take_append_drop i a.toList
  have e2 := List.take_append_drop j b.toList
  generalize a.toList.take i = x at *
  generalize a.toList.drop i = y at *
  generalize b.toList.take j = u at *
  generalize b.toList.drop j = v at *
  rw [← e1, ← e2]
  simp only [List.append_assoc]
  refine List.Perm.append_left _ ?_
  rw [← List.append_assoc, ← List.append_assoc]
  exact List.perm_append_comm.append_right _
theorem Tk.last (h : Tk a b out i j) : (out ++ b.extract j b.size ++ a.extract i a.size).Perm (a ++ b) := by
  refine Array.Perm.trans ?_ h.done
  rw [Array.perm_iff_toList_perm]
  simp only [Array.toList_append, List.append_assoc]
  exact List.Perm.append_left _ List.perm_append_comm
end
def mergeLo' : Array Keyed → Array Keyed → StateT SortSt Sem (Array Keyed) := sortPriv% PySem.Builtin.mergeLo
def mergeHi' : Array Keyed → Array Keyed → StateT SortSt Sem (Array Keyed) := sortPriv% PySem.Builtin.mergeHi
theorem lo_next {i n : Nat} (h : i + 1 < n) (z : ¬ (i + 1 + 1 == n) = true) : i + 1 + 1 < n := by
  simp only [beq_iff_eq] at z
  omega
theorem kp_mergeLo {a b : Array Keyed} (hk : ∀ st, I st → kindOf st = oneType') (hg : ∀ st g, I st → I (SortSt.mk' (kindOf st) (arrOf st) (pendingOf st) g (failedOf st))) (ha : Ik a) (hb : Ik b) (na : 0 < a.size) (nb : 0 < b.size) :
    Kp prog w A E s I (mergeLo' a b) fun r => r.Perm (a ++ b) := by
  refine kp_bind kp_rule fun _ _ => kp_bind (kp_elem nb) fun p0 e0 => ?_
  refine kp_ite (fun z => kp_pure ?_) fun z1 => kp_ite (fun z => kp_pure ?_) fun z2 => kp_bind kp_get fun st0 _ => ?_
  · have T0 : Tk a b #[p0] 0 1 := by
      have := Tk.pushB (a := a) (b := b) (out := #[]) (i := 0) (j := 0) (show List.Perm _ _ by simp) e0
      exact this
    exact T0.done
  · have T0 : Tk a b #[p0] 0 1 := by
      have := Tk.pushB (a := a) (b := b) (out := #[]) (i := 0) (j := 0) (show List.Perm _ _ by simp) e0
      exact this
    exact T0.last
  · have T0 : Tk a b #[p0] 0 1 := by
      have := Tk.pushB (a := a) (b := b) (out := #[]) (i := 0) (j := 0) (show List.Perm _ _ by simp) e0
      exact this
    have y1 : 1 < b.size := by simp at z1; omega
    have y2 : 0 + 1 < a.size := by simp at z2; omega
    refine kp_bind (R := fun c => ∃ r, c.1 = some r ∧ r.Perm (a ++ b)) (kp_for (fun i c => c.1 = none ∧ Tk a b c.2.1 c.2.2.1 c.2.2.2.1 ∧ c.2.2.1 + 1 < a.size ∧ c.2.2.2.1 < b.size ∧ i + 1 ≤ c.2.2.1 + c.2.2.2.1) ?_ ?_ ⟨rfl, T0, y2, y1, by (try dsimp only); omega⟩) fun c hc => ?_
    · rintro i ⟨r, out, ia, ib, mg⟩ - hi ⟨rfl, T, h1, h2, h3⟩
      dsimp only at T h1 h2 h3
      refine kp_bind (R := fun c => (∃ r, c.1 = some r ∧ r.Perm (a ++ b)) ∨ (c.1 = none ∧ Tk a b c.2.1 c.2.2.1 c.2.2.2.1 ∧ c.2.2.1 + 1 < a.size ∧ c.2.2.2.1 < b.size ∧ i + 2 ≤ c.2.2.1 + c.2.2.2.1))
        (kp_for (fun j c => c.1 = none ∧ Tk a b c.2.1 c.2.2.1 c.2.2.2.1 ∧ c.2.2.1 + 1 < a.size ∧ c.2.2.2.1 < b.size ∧ i + 1 + j ≤ c.2.2.1 + c.2.2.2.1) ?_ ?_ ⟨rfl, T, h1, h2, h3⟩) fun c hc => ?_
      · rintro j ⟨r, out, ia, ib, ac, bc⟩ - hj ⟨rfl, T, h1, h2, h3⟩
        dsimp only at T h1 h2 h3
        refine kp_bind (kp_elem h2) fun pb eb => kp_bind (kp_elem (i := ia) (by omega)) fun pa ea => kp_bind (kp_lt hk (hb _ _ eb) (ha _ _ ea)) fun r q => ?_
        obtain ⟨x, rfl⟩ := q
        refine kp_ite (fun _ => kp_bind (kp_elem h2) fun pb eb => ?_) fun _ => kp_bind (kp_elem (i := ia) (by omega)) fun pa ea => ?_
        · have T' := T.pushB eb
          refine kp_ite (fun z => kp_pure (.inl ⟨_, rfl, T'.done⟩)) fun z => ?_
          have z' : ib + 1 < b.size := by simp at z; omega
          exact kp_ite (fun _ => kp_pure (.inr ⟨rfl, T', h1, z', by (try dsimp only); omega⟩)) fun _ => kp_pure ⟨rfl, T', h1, z', by (try dsimp only); omega⟩
        · have T' := T.pushA ea
          refine kp_ite (fun z => kp_pure (.inl ⟨_, rfl, T'.last⟩)) fun z => ?_
          have z' : ia + 1 + 1 < a.size := by simp at z; omega
          exact kp_ite (fun _ => kp_pure (.inr ⟨rfl, T', z', h2, by (try dsimp only); omega⟩)) fun _ => kp_pure ⟨rfl, T', z', h2, by (try dsimp only); omega⟩
      · rintro ⟨r, out, ia, ib, ac, bc⟩ ⟨rfl, T, h1, h2, h3⟩
        exact .inr ⟨rfl, T, h1, h2, by dsimp only at h3 ⊢; omega⟩
      · obtain ⟨r, out, ia, ib, ac, bc⟩ := c
        rcases hc with ⟨r', e, q⟩ | ⟨e, T, h1, h2, h3⟩
        · cases e
          exact kp_pure ⟨_, rfl, q⟩
        · cases (show r = none from e)
          dsimp only at T h1 h2 h3
          refine kp_bind kp_rule fun _ _ => ?_
          refine kp_bind (R := fun c => (∃ r, c.1 = some r ∧ r.Perm (a ++ b)) ∨ (c.1 = none ∧ Tk a b c.2.1 c.2.2.1 c.2.2.2.1 ∧ c.2.2.1 + 1 < a.size ∧ c.2.2.2.1 < b.size ∧ i + 2 ≤ c.2.2.1 + c.2.2.2.1))
            (kp_for (fun _ c => c.1 = none ∧ Tk a b c.2.1 c.2.2.1 c.2.2.2.1 ∧ c.2.2.1 + 1 < a.size ∧ c.2.2.2.1 < b.size ∧ i + 2 ≤ c.2.2.1 + c.2.2.2.1) ?_ (fun c h => .inr h) ⟨rfl, T, h1, h2, h3⟩) fun c hc => ?_
          · rintro j ⟨r, out, ia, ib, mg, ac, bc⟩ - hj ⟨rfl, T, h1, h2, h3⟩
            dsimp only at T h1 h2 h3
            refine kp_ite (fun _ => ?_) fun _ => ?_
            all_goals
              refine kp_bind (kp_modify fun st q => hg st _ q) fun _ _ => kp_bind (kp_elem h2) fun pb eb => kp_bind (kp_gallop hk ha (hb _ _ eb) (by (try dsimp only); omega) (by (try dsimp only); omega)) fun r q => ?_
              obtain ⟨k, rfl, kl⟩ := q
              dsimp only at kl
              refine kp_ite (fun k0 => ?_) fun k0 => ?_
              · have T := T.runA (k := k)
                refine kp_ite (fun z => kp_pure (.inl ⟨_, rfl, T.last⟩)) fun z => kp_ite (fun z => kp_pure (.inl ⟨_, rfl, T.done⟩)) fun z' => ?_
                have h1 : ia + k + 1 < a.size := by
                  try dsimp only at z z'
                  simp only [beq_iff_eq] at z z'
                  omega
                have h3 : i + 2 ≤ ia + k + ib := by omega
                refine kp_bind (kp_elem h2) fun pb eb => ?_
                have T := T.pushB eb
                refine kp_ite (fun z => kp_pure (.inl ⟨_, rfl, T.done⟩)) fun z => ?_
                have h2 : ib + 1 < b.size := by
                  try dsimp only at z
                  simp only [beq_iff_eq] at z
                  omega
                refine kp_bind (kp_elem (Nat.lt_of_succ_lt h1)) fun pa ea => kp_bind (kp_gallop hk hb (ha _ _ ea) (by (try dsimp only); omega) (by (try dsimp only); omega)) fun r q => ?_
                obtain ⟨k2, rfl, kl2⟩ := q
                try dsimp only at kl2
                refine kp_ite (fun k0 => ?_) fun k0 => ?_
                · have T := T.runB (k := k2)
                  refine kp_ite (fun z => kp_pure (.inl ⟨_, rfl, T.done⟩)) fun z => ?_
                  have h2 : ib + 1 + k2 < b.size := by
                    dsimp only at z
                    simp only [beq_iff_eq] at z
                    omega
                  refine kp_bind (kp_elem (Nat.lt_of_succ_lt h1)) fun pa ea => ?_
                  have T := T.pushA ea
                  refine kp_ite (fun z => kp_pure (.inl ⟨_, rfl, T.last⟩)) fun z => ?_
                  have h1 := lo_next h1 z
                  exact kp_ite (fun _ => kp_pure (.inr ⟨rfl, T, h1, h2, by (try dsimp only); omega⟩)) fun _ => kp_pure ⟨rfl, T, h1, h2, by (try dsimp only); omega⟩
                · refine kp_bind (kp_elem (Nat.lt_of_succ_lt h1)) fun pa ea => ?_
                  have T := T.pushA ea
                  refine kp_ite (fun z => kp_pure (.inl ⟨_, rfl, T.last⟩)) fun z => ?_
                  have h1 := lo_next h1 z
                  exact kp_ite (fun _ => kp_pure (.inr ⟨rfl, T, h1, h2, by (try dsimp only); omega⟩)) fun _ => kp_pure ⟨rfl, T, h1, h2, by (try dsimp only); omega⟩
              · refine kp_bind (kp_elem h2) fun pb eb => ?_
                have T := T.pushB eb
                refine kp_ite (fun z => kp_pure (.inl ⟨_, rfl, T.done⟩)) fun z => ?_
                have h2 : ib + 1 < b.size := by
                  try dsimp only at z
                  simp only [beq_iff_eq] at z
                  omega
                refine kp_bind (kp_elem (Nat.lt_of_succ_lt h1)) fun pa ea => kp_bind (kp_gallop hk hb (ha _ _ ea) (by (try dsimp only); omega) (by (try dsimp only); omega)) fun r q => ?_
                obtain ⟨k2, rfl, kl2⟩ := q
                try dsimp only at kl2
                refine kp_ite (fun k0 => ?_) fun k0 => ?_
                · have T := T.runB (k := k2)
                  refine kp_ite (fun z => kp_pure (.inl ⟨_, rfl, T.done⟩)) fun z => ?_
                  have h2 : ib + 1 + k2 < b.size := by
                    dsimp only at z
                    simp only [beq_iff_eq] at z
                    omega
                  refine kp_bind (kp_elem (Nat.lt_of_succ_lt h1)) fun pa ea => ?_
                  have T := T.pushA ea
                  refine kp_ite (fun z => kp_pure (.inl ⟨_, rfl, T.last⟩)) fun z => ?_
                  have h1 := lo_next h1 z
                  exact kp_ite (fun _ => kp_pure (.inr ⟨rfl, T, h1, h2, by (try dsimp only); omega⟩)) fun _ => kp_pure ⟨rfl, T, h1, h2, by (try dsimp only); omega⟩
                · refine kp_bind (kp_elem (Nat.lt_of_succ_lt h1)) fun pa ea => ?_
                  have T := T.pushA ea
                  refine kp_ite (fun z => kp_pure (.inl ⟨_, rfl, T.last⟩)) fun z => ?_
                  have h1 := lo_next h1 z
                  exact kp_ite (fun _ => kp_pure (.inr ⟨rfl, T, h1, h2, by (try dsimp only); omega⟩)) fun _ => kp_pure ⟨rfl, T, h1, h2, by (try dsimp only); omega⟩
          · obtain ⟨r, out, ia, ib, mg, ac, bc⟩ := c
            rcases hc with ⟨r', e, q⟩ | ⟨e, T, h1, h2, h3⟩
            · cases e
              exact kp_pure ⟨_, rfl, q⟩
            · cases (show r = none from e)
              exact kp_bind (kp_modify fun st q => hg st _ q) fun _ _ => kp_pure ⟨rfl, T, h1, h2, h3⟩
    · rintro ⟨r, out, ia, ib, mg⟩ ⟨rfl, T, h1, h2, h3⟩
      dsimp only at h1 h2 h3
      omega
    · obtain ⟨r, rest⟩ := c
      obtain ⟨r', e, q⟩ := hc
      cases e
      exact kp_pure q
/-- of a all but the first i, of b all but the first j have been taken -/
def Th (a b out : Array Keyed) (i j : Nat) : Prop := out.toList.Perm (a.toList.drop i ++ b.toList.drop j)
section
variable {a b out : Array Keyed} {i j k : Nat} {p : Keyed}
theorem drop_less {l : List Keyed} {i : Nat} {p : Keyed} (h0 : 0 < i) (h : l[i - 1]? = some p) : l.drop (i - 1) = p :: l.drop i := by
  obtain ⟨n, rfl⟩ : ∃ n, i = n + 1 := ⟨i - 1, by omega⟩
  rw [Nat.add_sub_cancel] at h ⊢
  obtain ⟨hl, e⟩ := List.getElem?_eq_some_iff.mp h
  rw [List.drop_eq_getElem_cons hl, e]
theorem Th.pushA (h : Th a b out i j) (h0 : 0 < i) (e : a[i - 1]? = some p) : Th a b (out.push p) (i - 1) j := by
  unfold Th at h ⊢
  rw [Array.toList_push, drop_less h0 (by rw [Array.getElem?_toList]; exact e)]
  exact (h.append_right _).trans List.perm_append_comm
theorem Th.pushB (h : Th a b out i j) (h0 : 0 < j) (e : b[j - 1]? = some p) : Th a b (out.push p) i (j - 1) := by
  unfold Th at h ⊢
  rw [Array.toList_push, drop_less h0 (by rw [Array.getElem?_toList]; exact e)]
  refine ((h.append_right _).trans List.perm_append_comm).trans ?_
  rw [List.singleton_append]
  exact List.perm_middle.symm
theorem drop_part (l : List Keyed) {i k : Nat} (h : k ≤ i) : l.drop k = (l.drop k).take (i - k) ++ l.drop i := by
  have := List.take_append_drop (i - k) (l.drop k)
  rw [List.drop_drop, Nat.add_sub_cancel' h] at this
  exact this.symm
theorem Th.runA (h : Th a b out i j) (hk : k ≤ i) : Th a b (out ++ (a.extract k i).reverse) k j := by
  unfold Th at h ⊢
  refine List.Perm.trans ?_ (List.Perm.of_eq (congrArg (· ++ b.toList.drop j) (drop_part a.toList hk).symm))
  rw [Array.toList_append, Array.toList_reverse, Array.toList_extract, List.extract_eq_take_drop, List.append_assoc]
  exact ((h.append_right _).trans List.perm_append_comm).trans ((List.reverse_perm _).append_right _)
theorem Th.runB (h : Th a b out i j) (hk : k ≤ j) : Th a b (out ++ (b.extract k j).reverse) i k := by
  unfold Th at h ⊢
  refine List.Perm.trans ?_ (List.Perm.of_eq (congrArg (a.toList.drop i ++ ·) (drop_part b.toList hk).symm))
  rw [Array.toList_append, Array.toList_reverse, Array.toList_extract, List.extract_eq_take_drop]
  refine (h.append (List.reverse_perm _)).trans ?_
  rw [List.append_assoc]
  exact List.Perm.append_left _ List.perm_append_comm
theorem front_list (xs : Array Keyed) (i : Nat) : (xs.extract 0 i).toList = xs.toList.take i := by
  rw [Array.toList_extract, List.extract_eq_take_drop, List.drop_zero, Nat.sub_zero]
theorem Th.done (h : Th a b out i j) : (a.extract 0 i ++ b.extract 0 j ++ out.reverse).Perm (a ++ b) := by
  rw [Array.perm_iff_toList_perm, Array.toList_append, Array.toList_append, Array.toList_append, front_list, front_list, Array.toList_reverse]
  refine (List.Perm.append_left _ ((List.reverse_perm _).trans h)).trans ?_
  have e1 := List.take_append_drop i a.toList
  have e2 := List.take_append_drop j b.toList
  generalize a.toList.take i = x at *
  generalize a.toList.drop i = y at *
  generalize b.toList.take j = u at *
  generalize b.toList.drop j = v at *
  rw [← e1, ← e2]
  simp only [List.append_assoc]
  refine List.Perm.append_left _ ?_
  rw [← List.append_assoc, ← List.append_assoc]
  exact List.perm_append_comm.append_right _
theorem Th.first (h : Th a b out i j) : (b.extract 0 j ++ a.extract 0 i ++ out.reverse).Perm (a ++ b) := by
  refine Array.Perm.trans ?_ h.done
  rw [Array.perm_iff_toList_perm]
  simp only [Array.toList_append]
  exact List.perm_append_comm.append_right _
theorem hi_next {i : Nat} (h : 0 < i) (z : ¬ (i - 1 == 0) = true) : 0 < i - 1 := by
  simp only [beq_iff_eq] at z
  omega
theorem hi_left {j : Nat} (h : 1 < j) (z : ¬ (j - 1 == 1) = true) : 1 < j - 1 := by
  simp only [beq_iff_eq] at z
  omega
end
theorem kp_mergeHi {a b : Array Keyed} (hk : ∀ st, I st → kindOf st = oneType') (hg : ∀ st g, I st → I (SortSt.mk' (kindOf st) (arrOf st) (pendingOf st) g (failedOf st))) (ha : Ik a) (hb : Ik b) (na : 0 < a.size) (nb : 0 < b.size) :
    Kp prog w A E s I (mergeHi' a b) fun r => r.Perm (a ++ b) := by
  refine kp_bind kp_rule fun _ _ => kp_bind (kp_elem (i := a.size - 1) (by omega)) fun p0 e0 => ?_
  have T0 : Th a b #[p0] (a.size - 1) b.size := by
    have := Th.pushA (a := a) (b := b) (out := #[]) (i := a.size) (j := b.size) (show List.Perm _ _ by simp) na e0
    exact this
  refine kp_ite (fun z => kp_pure T0.done) fun z1 => kp_ite (fun z => kp_pure T0.first) fun z2 => kp_bind kp_get fun st0 _ => ?_
  have y1 : 0 < a.size - 1 := by simp at z1; omega
  have y2 : 1 < b.size := by simp at z2; omega
  refine kp_bind (R := fun c => ∃ r, c.1 = some r ∧ r.Perm (a ++ b)) (kp_for (fun i c => c.1 = none ∧ Th a b c.2.2.2.1 c.2.1 c.2.2.1 ∧ 0 < c.2.1 ∧ 1 < c.2.2.1 ∧ c.2.1 ≤ a.size ∧ c.2.2.1 ≤ b.size ∧ i + 1 + c.2.1 + c.2.2.1 ≤ a.size + b.size) ?_ ?_ ⟨rfl, T0, y1, y2, by (try dsimp only); omega, by (try dsimp only); omega, by (try dsimp only); omega⟩) fun c hc => ?_
  · rintro i ⟨r, na, nb, out, mg⟩ - hi ⟨rfl, T, h1, h2, h3, h4, h5⟩
    dsimp only at T h1 h2 h3 h4 h5
    refine kp_bind (R := fun c => (∃ r, c.1 = some r ∧ r.Perm (a ++ b)) ∨ (c.1 = none ∧ Th a b c.2.2.2.1 c.2.1 c.2.2.1 ∧ 0 < c.2.1 ∧ 1 < c.2.2.1 ∧ c.2.1 ≤ a.size ∧ c.2.2.1 ≤ b.size ∧ i + 2 + c.2.1 + c.2.2.1 ≤ a.size + b.size))
      (kp_for (fun j c => c.1 = none ∧ Th a b c.2.2.2.1 c.2.1 c.2.2.1 ∧ 0 < c.2.1 ∧ 1 < c.2.2.1 ∧ c.2.1 ≤ a.size ∧ c.2.2.1 ≤ b.size ∧ i + 1 + j + c.2.1 + c.2.2.1 ≤ a.size + b.size) ?_ ?_ ⟨rfl, T, h1, h2, h3, h4, h5⟩) fun c hc => ?_
    · rintro j ⟨r, na, nb, out, ac, bc⟩ - hj ⟨rfl, T, h1, h2, h3, h4, h5⟩
      dsimp only at T h1 h2 h3 h4 h5
      refine kp_bind (kp_elem (i := nb - 1) (by omega)) fun pb eb => kp_bind (kp_elem (i := na - 1) (by omega)) fun pa ea => kp_bind (kp_lt hk (hb _ _ eb) (ha _ _ ea)) fun r q => ?_
      obtain ⟨x, rfl⟩ := q
      refine kp_ite (fun _ => kp_bind (kp_elem (i := na - 1) (by omega)) fun pa ea => ?_) fun _ => kp_bind (kp_elem (i := nb - 1) (by omega)) fun pb eb => ?_
      · have T' := T.pushA h1 ea
        refine kp_ite (fun z => kp_pure (.inl ⟨_, rfl, T'.done⟩)) fun z => ?_
        have z' := hi_next h1 z
        exact kp_ite (fun _ => kp_pure (.inr ⟨rfl, T', z', h2, by (try dsimp only); omega, h4, by (try dsimp only); omega⟩)) fun _ => kp_pure ⟨rfl, T', z', h2, by (try dsimp only); omega, h4, by (try dsimp only); omega⟩
      · have T' := T.pushB (by omega) eb
        refine kp_ite (fun z => kp_pure (.inl ⟨_, rfl, T'.first⟩)) fun z => ?_
        have z' := hi_left h2 z
        exact kp_ite (fun _ => kp_pure (.inr ⟨rfl, T', h1, z', h3, by (try dsimp only); omega, by (try dsimp only); omega⟩)) fun _ => kp_pure ⟨rfl, T', h1, z', h3, by (try dsimp only); omega, by (try dsimp only); omega⟩
    · rintro ⟨r, na, nb, out, ac, bc⟩ ⟨rfl, T, h1, h2, h3, h4, h5⟩
      exact .inr ⟨rfl, T, h1, h2, h3, h4, by dsimp only at h5 ⊢; omega⟩
    · obtain ⟨r, na, nb, out, ac, bc⟩ := c
      rcases hc with ⟨r', e, q⟩ | ⟨e, T, h1, h2, h3, h4, h5⟩
      · cases e
        exact kp_pure ⟨_, rfl, q⟩
      · cases (show r = none from e)
        dsimp only at T h1 h2 h3 h4 h5
        refine kp_bind kp_rule fun _ _ => ?_
        refine kp_bind (R := fun c => (∃ r, c.1 = some r ∧ r.Perm (a ++ b)) ∨ (c.1 = none ∧ Th a b c.2.2.2.1 c.2.1 c.2.2.1 ∧ 0 < c.2.1 ∧ 1 < c.2.2.1 ∧ c.2.1 ≤ a.size ∧ c.2.2.1 ≤ b.size ∧ i + 2 + c.2.1 + c.2.2.1 ≤ a.size + b.size))
          (kp_for (fun _ c => c.1 = none ∧ Th a b c.2.2.2.1 c.2.1 c.2.2.1 ∧ 0 < c.2.1 ∧ 1 < c.2.2.1 ∧ c.2.1 ≤ a.size ∧ c.2.2.1 ≤ b.size ∧ i + 2 + c.2.1 + c.2.2.1 ≤ a.size + b.size) ?_ (fun c h => .inr h) ⟨rfl, T, h1, h2, h3, h4, h5⟩) fun c hc => ?_
        · rintro j ⟨r, na, nb, out, mg, ac, bc⟩ - hj ⟨rfl, T, h1, h2, h3, h4, h5⟩
          dsimp only at T h1 h2 h3 h4 h5
          refine kp_ite (fun _ => ?_) fun _ => ?_
          all_goals
            refine kp_bind (kp_modify fun st q => hg st _ q) fun _ _ => kp_bind (kp_elem (i := nb - 1) (by omega)) fun pb eb => kp_bind (kp_gallop hk ha (hb _ _ eb) (by (try dsimp only); omega) (by (try dsimp only); omega)) fun r q => ?_
            obtain ⟨k, rfl, kl⟩ := q
            dsimp only at kl
            refine kp_ite (fun k0 => ?_) fun k0 => ?_
            · have T := T.runA kl
              refine kp_ite (fun z => kp_pure (.inl ⟨_, rfl, T.done⟩)) fun z => ?_
              have h1 : 0 < k := by
                try dsimp only at z
                simp only [beq_iff_eq] at z
                omega
              have h3 : k ≤ a.size := by omega
              have h5 : i + 2 + k + nb ≤ a.size + b.size := by omega
              refine kp_bind (kp_elem (i := nb - 1) (by omega)) fun pb eb => ?_
              have T := T.pushB (by omega) eb
              refine kp_ite (fun z => kp_pure (.inl ⟨_, rfl, T.first⟩)) fun z => ?_
              have h2 := hi_left h2 z
              refine kp_bind (kp_elem (by omega)) fun pa ea => kp_bind (kp_gallop hk hb (ha _ _ ea) (by (try dsimp only); omega) (by (try dsimp only); omega)) fun r q => ?_
              obtain ⟨k2, rfl, kl2⟩ := q
              try dsimp only at kl2
              refine kp_ite (fun k0 => ?_) fun k0 => ?_
              · have T := T.runB kl2
                refine kp_ite (fun z => kp_pure (.inl ⟨_, rfl, T.first⟩)) fun z => kp_ite (fun z => kp_pure (.inl ⟨_, rfl, T.done⟩)) fun z' => ?_
                have h2 : 1 < k2 := by
                  try dsimp only at z z'
                  simp only [beq_iff_eq] at z z'
                  omega
                refine kp_bind (kp_elem (by omega)) fun pa ea => ?_
                have T := T.pushA h1 ea
                refine kp_ite (fun z => kp_pure (.inl ⟨_, rfl, T.done⟩)) fun z => ?_
                have h1 := hi_next h1 z
                exact kp_ite (fun _ => kp_pure (.inr ⟨rfl, T, h1, h2, by (try dsimp only); omega, by (try dsimp only); omega, by (try dsimp only); omega⟩)) fun _ => kp_pure ⟨rfl, T, h1, h2, by (try dsimp only); omega, by (try dsimp only); omega, by (try dsimp only); omega⟩
              · refine kp_bind (kp_elem (by omega)) fun pa ea => ?_
                have T := T.pushA h1 ea
                refine kp_ite (fun z => kp_pure (.inl ⟨_, rfl, T.done⟩)) fun z => ?_
                have h1 := hi_next h1 z
                exact kp_ite (fun _ => kp_pure (.inr ⟨rfl, T, h1, h2, by (try dsimp only); omega, by (try dsimp only); omega, by (try dsimp only); omega⟩)) fun _ => kp_pure ⟨rfl, T, h1, h2, by (try dsimp only); omega, by (try dsimp only); omega, by (try dsimp only); omega⟩
            · refine kp_bind (kp_elem (i := nb - 1) (by omega)) fun pb eb => ?_
              have T := T.pushB (by omega) eb
              refine kp_ite (fun z => kp_pure (.inl ⟨_, rfl, T.first⟩)) fun z => ?_
              have h2 := hi_left h2 z
              refine kp_bind (kp_elem (by omega)) fun pa ea => kp_bind (kp_gallop hk hb (ha _ _ ea) (by (try dsimp only); omega) (by (try dsimp only); omega)) fun r q => ?_
              obtain ⟨k2, rfl, kl2⟩ := q
              try dsimp only at kl2
              refine kp_ite (fun k0 => ?_) fun k0 => ?_
              · have T := T.runB kl2
                refine kp_ite (fun z => kp_pure (.inl ⟨_, rfl, T.first⟩)) fun z => kp_ite (fun z => kp_pure (.inl ⟨_, rfl, T.done⟩)) fun z' => ?_
                have h2 : 1 < k2 := by
                  try dsimp only at z z'
                  simp only [beq_iff_eq] at z z'
                  omega
                refine kp_bind (kp_elem (by omega)) fun pa ea => ?_
                have T := T.pushA h1 ea
                refine kp_ite (fun z => kp_pure (.inl ⟨_, rfl, T.done⟩)) fun z => ?_
                have h1 := hi_next h1 z
                exact kp_ite (fun _ => kp_pure (.inr ⟨rfl, T, h1, h2, by (try dsimp only); omega, by (try dsimp only); omega, by (try dsimp only); omega⟩)) fun _ => kp_pure ⟨rfl, T, h1, h2, by (try dsimp only); omega, by (try dsimp only); omega, by (try dsimp only); omega⟩
              · refine kp_bind (kp_elem (by omega)) fun pa ea => ?_
                have T := T.pushA h1 ea
                refine kp_ite (fun z => kp_pure (.inl ⟨_, rfl, T.done⟩)) fun z => ?_
                have h1 := hi_next h1 z
                exact kp_ite (fun _ => kp_pure (.inr ⟨rfl, T, h1, h2, by (try dsimp only); omega, by (try dsimp only); omega, by (try dsimp only); omega⟩)) fun _ => kp_pure ⟨rfl, T, h1, h2, by (try dsimp only); omega, by (try dsimp only); omega, by (try dsimp only); omega⟩
        · obtain ⟨r, na, nb, out, mg, ac, bc⟩ := c
          rcases hc with ⟨r', e, q⟩ | ⟨e, T, h1, h2, h3, h4, h5⟩
          · cases e
            exact kp_pure ⟨_, rfl, q⟩
          · cases (show r = none from e)
            exact kp_bind (kp_modify fun st q => hg st _ q) fun _ _ => kp_pure ⟨rfl, T, h1, h2, h3, h4, h5⟩
  · rintro ⟨r, na, nb, out, mg⟩ ⟨rfl, T, h1, h2, h3, h4, h5⟩
    dsimp only at h1 h2 h5
    omega
  · obtain ⟨r, rest⟩ := c
    obtain ⟨r', e, q⟩ := hc
    cases e
    exact kp_pure q
theorem Kp.wp {α σ : Type} {I : σ → Prop} {m : StateT σ Sem α} {R : α → Prop} {Q : α → σ → Prop} {st : σ} (h : Kp prog w A E s I m R) (i : I st) (k : ∀ a st', I st' → R a → Q a st') : wpS (model prog w) A E s m Q st := wpS_mono (h st i) fun a st' q => k a st' q.1 q.2
theorem wp_set {σ : Type} {st st' : σ} {Q : PUnit → σ → Prop} (h : Q ⟨⟩ st') : wpS (model prog w) A E s (set st' : StateT σ Sem PUnit) Q st := by
  unfold wpS
  rw [StateT.run_set]
  exact wpAny_pure ⟨rfl, h⟩
/-- a list laid over a part -/
theorem lay_list (sa : Nat) : ∀ (l : List Keyed) (j : Nat) (xs : Array Keyed), sa + j + l.length ≤ xs.size →
    ((l.zipIdx j).foldl (fun a (q : Keyed × Nat) => a.setIfInBounds (sa + q.2) q.1) xs).toList = xs.toList.take (sa + j) ++ l ++ xs.toList.drop (sa + j + l.length)
  | [], j, xs, _ => by simp
  | p :: l, j, xs, h => by
    rw [List.zipIdx_cons, List.foldl_cons]
    have n : sa + j < xs.size := by rw [List.length_cons] at h; omega
    rw [lay_list sa l (j + 1) _ (by rw [Array.size_setIfInBounds]; rw [List.length_cons] at h; omega)]
    dsimp only
    rw [Array.toList_setIfInBounds, List.length_cons, List.drop_set_of_lt (by omega), show sa + (j + 1) = sa + j + 1 by omega, List.take_set, List.take_add_one, List.set_append_right _ _ (by rw [List.length_take]; omega)]
    have z : sa + j - (xs.toList.take (sa + j)).length = 0 := by rw [List.length_take, Array.length_toList]; omega
    rw [List.getElem?_eq_getElem (by rw [Array.length_toList]; exact n), z]
    simp only [Option.toList_some, List.set_cons_zero, List.append_assoc, List.singleton_append, List.cons_append, List.nil_append]
    rw [show sa + j + 1 + l.length = sa + j + (l.length + 1) by omega]
/-- runs one behind the other, from lo to hi -/
def Rn : List (Nat × Nat × Nat) → Nat → Nat → Prop
  | [], lo, hi => lo = hi
  | (b, n, _) :: r, lo, hi => b = lo ∧ 0 < n ∧ Rn r (lo + n) hi
theorem Rn.merge : ∀ {l : List (Nat × Nat × Nat)} {i lo hi b n p b' n' p' : Nat}, Rn l lo hi → l[i]? = some (b, n, p) → l[i + 1]? = some (b', n', p') →
    b' = b + n ∧ 0 < n ∧ 0 < n' ∧ b' + n' ≤ hi ∧ Rn ((l.set i (b, n + n', p)).eraseIdx (i + 1)) lo hi
  | [], i, _, _, _, _, _, _, _, _, _, e, _ => by simp at e
  | [_], i, _, _, _, _, _, _, _, _, _, _, e => by simp at e
  | (b0, n0, p0) :: (b1, n1, p1) :: r, 0, lo, hi, b, n, p, b', n', p', h, e, e' => by
    simp only [List.getElem?_cons_zero, Option.some.injEq, Prod.mk.injEq, Nat.zero_add, List.getElem?_cons_succ] at e e'
    obtain ⟨rfl, rfl, rfl⟩ := e
    obtain ⟨rfl, rfl, rfl⟩ := e'
    obtain ⟨rfl, h1, h2, h3, h4⟩ := h
    have up : ∀ {l : List (Nat × Nat × Nat)} {lo hi : Nat}, Rn l lo hi → lo ≤ hi := by
      intro l
      induction l with
      | nil => exact fun h => Nat.le_of_eq h
      | cons q l ih =>
        intro lo hi h
        have := ih h.2.2
        have := h.2.1
        omega
    refine ⟨h2, h1, h3, by have := up h4; omega, ?_⟩
    show Rn (_ :: r) _ _
    exact ⟨rfl, by omega, by rw [← Nat.add_assoc]; exact h4⟩
  | (b0, n0, p0) :: (b1, n1, p1) :: r, i + 1, lo, hi, b, n, p, b', n', p', h, e, e' => by
    obtain ⟨h1, h2, h3⟩ := h
    obtain ⟨x1, x2, x3, x4, x5⟩ := Rn.merge (l := (b1, n1, p1) :: r) h3 (by simpa using e) (by simpa using e')
    exact ⟨x1, x2, x3, x4, h1, h2, x5⟩
theorem laid_perm {xs m : Array Keyed} {b c e : Nat} (h1 : b ≤ c) (h2 : c ≤ e) (h3 : e ≤ xs.size) (hp : m.Perm (xs.extract b c ++ xs.extract c e)) :
    (m.toList.zipIdx.foldl (fun a (q : Keyed × Nat) => a.setIfInBounds (b + q.2) q.1) xs).Perm xs := by
  have hp := Array.perm_iff_toList_perm.mp hp
  rw [Array.toList_append, Array.toList_extract, Array.toList_extract, List.extract_eq_take_drop, List.extract_eq_take_drop] at hp
  have hl : m.toList.length = e - b := by
    rw [hp.length_eq]
    simp only [List.length_append, List.length_take, List.length_drop, Array.length_toList]
    omega
  rw [Array.perm_iff_toList_perm, lay_list b m.toList 0 xs (by rw [hl]; omega), hl, Nat.add_zero, show b + (e - b) = e by omega]
  refine ((hp.append_left _).append_right _).trans (List.Perm.of_eq ?_)
  rw [List.append_assoc, List.append_assoc, ← drop_part _ h2, ← drop_part _ h1, List.take_append_drop]
structure SR (a₀ : Array Keyed) (hi : Nat) (st : SortSt) : Prop extends SI a₀ st where
  runs : Rn (pendingOf st).toList 0 hi
  fits : hi ≤ a₀.size
theorem wp_mergeAt {a₀ : Array Keyed} {hi i : Nat} {st : SortSt} {Q : Bool → SortSt → Prop} (h0 : Ik a₀) (h : SR a₀ hi st) (hi' : i + 1 < (pendingOf st).size) (k : ∀ st', SR a₀ hi st' → Q true st') : wpS (model prog w) A E s (mergeAt' i) Q st := by
  have e1 := Array.getElem?_eq_getElem (Nat.lt_of_succ_lt hi')
  have e2 := Array.getElem?_eq_getElem hi'
  generalize (pendingOf st)[i] = u at e1
  generalize (pendingOf st)[i + 1] = v at e2
  obtain ⟨sa, na, pa⟩ := u
  obtain ⟨sb, nb, pb⟩ := v
  refine wpS_bind (wpS_get ?_)
  have e1' : (sortPriv% PySem.Builtin.SortState.pending) st = pendingOf st := rfl
  simp only [e1', e1, e2]
  have R := h.runs.merge (by rw [Array.getElem?_toList]; exact e1) (by rw [Array.getElem?_toList]; exact e2)
  obtain ⟨rfl, n1, n2, n3, R⟩ := R
  have fits := h.fits
  have sz : (arrOf st).size = a₀.size := h.perm.size_eq
  have hx : Ik (arrOf st) := h0.perm h.perm
  refine wpS_bind (wp_set ?_)
  have J1 : SR a₀ hi (SortSt.mk' (kindOf st) (arrOf st) (((pendingOf st).setIfInBounds i (sa, na + nb, pa)).eraseIdxIfInBounds (i + 1)) (gallopOf st) (failedOf st)) ∧ arrOf st = arrOf st := ⟨⟨⟨h.perm, h.kind, h.failed⟩, by
    show Rn (((pendingOf st).setIfInBounds i (sa, na + nb, pa)).eraseIdxIfInBounds (i + 1)).toList 0 hi
    rw [Array.toList_eraseIdxIfInBounds, Array.toList_setIfInBounds]
    exact R, fits⟩, rfl⟩
  have hk : ∀ st', (SR a₀ hi st' ∧ arrOf st' = arrOf st) → kindOf st' = oneType' := fun st' q => q.1.kind
  have hg : ∀ st' g, (SR a₀ hi st' ∧ arrOf st' = arrOf st) → SR a₀ hi (SortSt.mk' (kindOf st') (arrOf st') (pendingOf st') g (failedOf st')) ∧ arrOf st' = arrOf st := fun st' g q => ⟨⟨⟨q.1.perm, q.1.kind, q.1.failed⟩, q.1.runs, fits⟩, q.2⟩
  refine wpS_bind ((kp_elem (I := fun st' => SR a₀ hi st' ∧ arrOf st' = arrOf st) (arr := arrOf st) (i := sa + na) (by omega)).wp J1 fun p st1 J1 ep => ?_)
  refine wpS_bind ((kp_gallop hk hx (hx _ _ ep) (by omega) n1).wp J1 fun r st2 J2 q => ?_)
  obtain ⟨g, rfl, gl⟩ := q
  dsimp only
  split
  · exact wpS_pure (k _ J2.1)
  next z =>
  have z : g < na := by simp only [beq_iff_eq] at z; omega
  refine wpS_bind ((kp_elem (I := fun st' => SR a₀ hi st' ∧ arrOf st' = arrOf st) (arr := arrOf st) (i := sa + g + (na - g) - 1) (by omega)).wp J2 fun p' st3 J3 ep' => ?_)
  refine wpS_bind ((kp_gallop hk hx (hx _ _ ep') (by omega) (by omega)).wp J3 fun r st4 J4 q => ?_)
  obtain ⟨g', rfl, gl'⟩ := q
  dsimp only
  split
  · exact wpS_pure (k _ J4.1)
  next z' =>
  have z' : 0 < g' := by simp only [beq_iff_eq] at z'; omega
  have part : ∀ b e, Ik ((arrOf st).extract b e) := fun b e i p q => by
    rw [Array.getElem?_extract] at q
    split at q
    · exact hx _ _ q
    · cases q
  have last : ∀ (m : Array Keyed) (st5 : SortSt), (SR a₀ hi st5 ∧ arrOf st5 = arrOf st) → m.Perm ((arrOf st).extract (sa + g) (sa + na) ++ (arrOf st).extract (sa + na) (sa + na + g')) →
      SR a₀ hi (SortSt.mk' (kindOf st5) (m.toList.zipIdx.foldl (fun a (q : Keyed × Nat) => a.setIfInBounds (sa + g + q.2) q.1) (arrOf st5)) (pendingOf st5) (gallopOf st5) (failedOf st5)) := fun m st5 J5 hp =>
    ⟨⟨Array.Perm.trans (by rw [J5.2]; exact laid_perm (by omega) (by omega) (by omega) hp) h.perm, J5.1.kind, J5.1.failed⟩, J5.1.runs, fits⟩
  have nx : 0 < ((arrOf st).extract (sa + g) (sa + na)).size := by rw [Array.size_extract]; omega
  have ny : 0 < ((arrOf st).extract (sa + na) (sa + na + g')).size := by rw [Array.size_extract]; omega
  split
  · refine wpS_bind ((kp_mergeLo hk hg (part _ _) (part _ _) nx ny).wp J4 fun m st5 J5 hp => wpS_bind (wpS_modify (wpS_bind (wpS_get (wpS_pure ?_)))))
    have J6 := last m st5 J5 hp
    have nf : (failedOf st5).isNone = true := by rw [J5.1.failed]; rfl
    exact (show ∀ b, b = true → Q b _ from fun b e => by subst e; exact k _ J6) _ nf
  · refine wpS_bind ((kp_mergeHi hk hg (part _ _) (part _ _) nx ny).wp J4 fun m st5 J5 hp => wpS_bind (wpS_modify (wpS_bind (wpS_get (wpS_pure ?_)))))
    have J6 := last m st5 J5 hp
    have nf : (failedOf st5).isNone = true := by rw [J5.1.failed]; rfl
    exact (show ∀ b, b = true → Q b _ from fun b e => by subst e; exact k _ J6) _ nf
variable {a₀ : Array Keyed} {hi : Nat}
theorem kp_ltAt {i j : Nat} (h0 : Ik a₀) (h1 : i < a₀.size) (h2 : j < a₀.size) : Kp prog w A E s (SR a₀ hi) (ltAt' i j) fun r => ∃ b, r = some b := by
  refine kp_bind kp_get fun st q => ?_
  have sz : (arrOf st).size = a₀.size := q.perm.size_eq
  have hx := h0.perm q.perm
  exact kp_bind (kp_elem (arr := arrOf st) (by omega)) fun p e => kp_bind (kp_elem (arr := arrOf st) (by omega)) fun p' e' => kp_lt (fun _ z => z.kind) (hx _ _ e) (hx _ _ e')
theorem kp_perm {f : SortSt → SortSt} {g : Array Keyed → Array Keyed} (hf : ∀ st, f st = setArr st (g (arrOf st))) (hg : ∀ xs, (g xs).Perm xs) : Kp prog w A E s (SR a₀ hi) (modify f : StateT SortSt Sem PUnit) fun _ => True :=
  kp_modify fun st q => by rw [hf]; exact ⟨⟨(hg _).trans q.perm, q.kind, q.failed⟩, q.runs, q.fits⟩
theorem kp_reverse {i j : Nat} : Kp prog w A E s (SR a₀ hi) (reverseSlice' i j) fun _ => True := kp_perm (fun _ => rfl) fun xs => mirror_perm xs i j _
theorem kp_moveDown {i j : Nat} : Kp prog w A E s (SR a₀ hi) (moveDown' i j) fun _ => True := kp_perm (fun _ => rfl) fun xs => bubble_perm xs i _
theorem kp_binary {lo n ok : Nat} (h0 : Ik a₀) (h1 : lo + n ≤ a₀.size) : Kp prog w A E s (SR a₀ hi) (binarySort' lo n ok) fun r => r = true := by
  refine kp_bind (R := fun c => c.1 = none) (kp_for (fun _ c => c.1 = none) ?_ (fun _ h => h) rfl) fun c hc => ?_
  · rintro k ⟨r, c⟩ - hk rfl
    refine kp_bind (R := fun c => c.1 = none) (kp_for (fun _ c => c.1 = none ∧ c.2.2 ≤ k) ?_ (fun _ h => h.1) ⟨rfl, Nat.le_refl _⟩) fun c hc => ?_
    · rintro j ⟨r, l, u⟩ - hj ⟨rfl, hu⟩
      dsimp only at hu
      refine kp_ite (fun _ => kp_pure rfl) fun z => ?_
      have z : l < u := Nat.lt_of_not_le z
      refine kp_bind (kp_ltAt h0 (i := lo + k) (j := lo + (l + u) / 2) (by omega) (by omega)) fun r q => ?_
      obtain ⟨b, rfl⟩ := q
      exact kp_ite (fun _ => kp_pure ⟨rfl, by (try dsimp only); omega⟩) fun _ => kp_pure ⟨rfl, hu⟩
    · obtain ⟨r, l, u⟩ := c
      cases (show r = none from hc)
      exact kp_bind kp_moveDown fun _ _ => kp_pure rfl
  · obtain ⟨r, c⟩ := c
    cases (show r = none from hc)
    exact kp_pure rfl
theorem kp_countRun {lo n : Nat} (h0 : Ik a₀) (h1 : lo + n ≤ a₀.size) (h2 : 1 ≤ n) : Kp prog w A E s (SR a₀ hi) (countRun' lo n) fun r => ∃ m, r = some m ∧ 1 ≤ m ∧ m ≤ n := by
  refine kp_bind (R := fun c => c.1 = none ∧ 1 ≤ c.2 ∧ c.2 ≤ n) (kp_for (fun i c => c.1 = none ∧ c.2 = i) ?_ (fun c h => ⟨h.1, by rw [h.2]; omega, by rw [h.2]; omega⟩) ⟨rfl, rfl⟩) fun c hc => ?_
  · rintro i ⟨r, m⟩ h3 h4 ⟨rfl, h5⟩
    cases (show m = i from h5)
    refine kp_bind (kp_ltAt h0 (by (try dsimp only); omega) (by (try dsimp only); omega)) fun r q => ?_
    obtain ⟨b, rfl⟩ := q
    exact kp_ite (fun _ => kp_pure ⟨rfl, h3, Nat.le_of_lt h4⟩) fun _ => kp_pure ⟨rfl, rfl⟩
  · obtain ⟨r, m⟩ := c
    obtain ⟨rfl, h3, h4⟩ := hc
    dsimp only at h3 h4
    refine kp_ite (fun _ => kp_pure ⟨_, rfl, h3, h4⟩) fun z => ?_
    have z : m < n := by
      try dsimp only at z
      simp only [beq_iff_eq] at z
      omega
    refine kp_ite (fun _ => kp_bind (kp_ltAt h0 (by (try dsimp only); omega) (by (try dsimp only); omega)) fun r q => ?_) fun _ => ?_
    · obtain ⟨b, rfl⟩ := q
      refine kp_ite (fun _ => kp_pure ⟨_, rfl, h3, h4⟩) fun _ => kp_bind kp_reverse fun _ _ => ?_
      refine kp_bind kp_rule fun _ _ => ?_
      refine kp_bind (R := fun c => c.1 = none ∧ 1 ≤ c.2.1 ∧ c.2.1 ≤ n) (kp_for (fun i c => c.1 = none ∧ c.2.1 = i) ?_ (fun c h => ⟨h.1, by rw [h.2]; (try dsimp only); omega, by rw [h.2]; (try dsimp only); omega⟩) ⟨rfl, rfl⟩) fun c hc => ?_
      · rintro i ⟨r, m', e⟩ h3' h4' ⟨rfl, h5⟩
        cases (show m' = i from h5)
        try dsimp only at h3'
        refine kp_bind (kp_ltAt h0 (by (try dsimp only); omega) (by (try dsimp only); omega)) fun r q => ?_
        obtain ⟨b, rfl⟩ := q
        refine kp_ite (fun _ => ?_) fun _ => kp_bind (kp_ltAt h0 (by (try dsimp only); omega) (by (try dsimp only); omega)) fun r q => ?_
        · exact kp_ite (fun _ => kp_bind kp_reverse fun _ _ => kp_pure ⟨rfl, rfl⟩) fun _ => kp_pure ⟨rfl, rfl⟩
        · obtain ⟨b, rfl⟩ := q
          exact kp_ite (fun _ => kp_pure ⟨rfl, by (try dsimp only); omega, by (try dsimp only); omega⟩) fun _ => kp_pure ⟨rfl, rfl⟩
      · obtain ⟨r, m', e⟩ := c
        obtain ⟨rfl, h3', h4'⟩ := hc
        try dsimp only at h3' h4'
        refine kp_ite (fun _ => kp_bind kp_reverse fun _ _ => ?_) fun _ => ?_
        all_goals
          refine kp_bind kp_reverse fun _ _ => ?_
          refine kp_bind (R := fun c => c.1 = none ∧ 1 ≤ c.2 ∧ c.2 ≤ n) (kp_for (fun i c => c.1 = none ∧ c.2 = i) ?_ (fun c h => ⟨h.1, by rw [h.2]; (try dsimp only); omega, by rw [h.2]; (try dsimp only); omega⟩) ⟨rfl, rfl⟩) fun c hc => ?_
          · rintro i ⟨r, m2⟩ h3'' h4'' ⟨rfl, h5⟩
            cases (show m2 = i from h5)
            try dsimp only at h3''
            refine kp_bind (kp_ltAt h0 (by (try dsimp only); omega) (by (try dsimp only); omega)) fun r q => ?_
            obtain ⟨b, rfl⟩ := q
            exact kp_ite (fun _ => kp_pure ⟨rfl, by (try dsimp only); omega, by (try dsimp only); omega⟩) fun _ => kp_pure ⟨rfl, rfl⟩
          · obtain ⟨r, m2⟩ := c
            obtain ⟨rfl, h3'', h4''⟩ := hc
            exact kp_pure ⟨_, rfl, h3'', h4''⟩
    · refine kp_bind kp_rule fun _ _ => ?_
      refine kp_bind (R := fun c => c.1 = none ∧ 1 ≤ c.2.1 ∧ c.2.1 ≤ n) (kp_for (fun i c => c.1 = none ∧ c.2.1 = i) ?_ (fun c h => ⟨h.1, by rw [h.2]; (try dsimp only); omega, by rw [h.2]; (try dsimp only); omega⟩) ⟨rfl, rfl⟩) fun c hc => ?_
      · rintro i ⟨r, m', e⟩ h3' h4' ⟨rfl, h5⟩
        cases (show m' = i from h5)
        try dsimp only at h3'
        refine kp_bind (kp_ltAt h0 (by (try dsimp only); omega) (by (try dsimp only); omega)) fun r q => ?_
        obtain ⟨b, rfl⟩ := q
        refine kp_ite (fun _ => ?_) fun _ => kp_bind (kp_ltAt h0 (by (try dsimp only); omega) (by (try dsimp only); omega)) fun r q => ?_
        · exact kp_ite (fun _ => kp_bind kp_reverse fun _ _ => kp_pure ⟨rfl, rfl⟩) fun _ => kp_pure ⟨rfl, rfl⟩
        · obtain ⟨b, rfl⟩ := q
          exact kp_ite (fun _ => kp_pure ⟨rfl, by (try dsimp only); omega, by (try dsimp only); omega⟩) fun _ => kp_pure ⟨rfl, rfl⟩
      · obtain ⟨r, m', e⟩ := c
        obtain ⟨rfl, h3', h4'⟩ := hc
        try dsimp only at h3' h4'
        refine kp_ite (fun _ => kp_bind kp_reverse fun _ _ => ?_) fun _ => ?_
        all_goals
          refine kp_bind kp_reverse fun _ _ => ?_
          refine kp_bind (R := fun c => c.1 = none ∧ 1 ≤ c.2 ∧ c.2 ≤ n) (kp_for (fun i c => c.1 = none ∧ c.2 = i) ?_ (fun c h => ⟨h.1, by rw [h.2]; (try dsimp only); omega, by rw [h.2]; (try dsimp only); omega⟩) ⟨rfl, rfl⟩) fun c hc => ?_
          · rintro i ⟨r, m2⟩ h3'' h4'' ⟨rfl, h5⟩
            cases (show m2 = i from h5)
            try dsimp only at h3''
            refine kp_bind (kp_ltAt h0 (by (try dsimp only); omega) (by (try dsimp only); omega)) fun r q => ?_
            obtain ⟨b, rfl⟩ := q
            exact kp_ite (fun _ => kp_pure ⟨rfl, by (try dsimp only); omega, by (try dsimp only); omega⟩) fun _ => kp_pure ⟨rfl, rfl⟩
          · obtain ⟨r, m2⟩ := c
            obtain ⟨rfl, h3'', h4''⟩ := hc
            exact kp_pure ⟨_, rfl, h3'', h4''⟩
theorem Rn.push : ∀ {l : List (Nat × Nat × Nat)} {lo hi n p : Nat}, Rn l lo hi → 0 < n → Rn (l ++ [(hi, n, p)]) lo (hi + n)
  | [], lo, hi, n, p, h, hn => ⟨(show lo = hi from h).symm, hn, by rw [show lo = hi from h]; rfl⟩
  | (b, m, q) :: r, lo, hi, n, p, h, hn => ⟨h.1, h.2.1, Rn.push h.2.2 hn⟩
theorem Rn.power {pw : Nat} : ∀ {l : List (Nat × Nat × Nat)} {i lo hi : Nat}, Rn l lo hi → Rn (l.modify i fun q => (q.1, q.2.1, pw)) lo hi
  | [], _, _, _, h => by simpa using h
  | (b, m, q) :: r, 0, _, _, h => ⟨h.1, h.2.1, h.2.2⟩
  | (b, m, q) :: r, i + 1, _, _, h => ⟨h.1, h.2.1, Rn.power h.2.2⟩
theorem wp_ite {α σ : Type} {c : Prop} [Decidable c] {x y : StateT σ Sem α} {Q : α → σ → Prop} {st : σ} (h1 : c → wpS (model prog w) A E s x Q st) (h2 : ¬ c → wpS (model prog w) A E s y Q st) : wpS (model prog w) A E s (if c then x else y) Q st := by
  split
  next h => exact h1 h
  next h => exact h2 h
theorem SR.push {st : SortSt} {n : Nat} (S : SR a₀ hi st) (h1 : 0 < n) (h2 : hi + n ≤ a₀.size) : SR a₀ (hi + n) (setPending st ((pendingOf st).push (hi, n, 0))) :=
  ⟨⟨S.perm, S.kind, S.failed⟩, by
    show Rn ((pendingOf st).push (hi, n, 0)).toList 0 (hi + n)
    rw [Array.toList_push]
    exact S.runs.push h1, h2⟩
theorem wp_sortRuns {st : SortSt} {Q : Unit → SortSt → Prop} (h0 : Ik a₀) (hB : SI a₀ st) (hp : pendingOf st = #[]) (k : ∀ st', SI a₀ st' → Q () st') : wpS (model prog w) A E s sortRuns' Q st := by
  refine wpS_bind (wpS_get ?_)
  have sz : (arrOf st).size = a₀.size := hB.perm.size_eq
  refine wpS_bind (wpS_mono (wpS_forRange (I := fun _ c st' => c.1 = none ∧ SR a₀ c.2 st') (Q := fun c st' => c.1 = none ∧ SR a₀ c.2 st') ?step (fun _ _ h => h) ⟨rfl, hB, by rw [hp]; rfl, Nat.zero_le _⟩) ?post)
  case step =>
    rintro x ⟨r, lo⟩ st1 - hx ⟨rfl, S⟩
    dsimp only at S
    have fits := S.fits
    refine wp_ite (fun _ => wpS_pure ⟨rfl, S⟩) fun z => ?_
    have z : lo < a₀.size := by rw [← sz]; exact Nat.lt_of_not_le z
    refine wpS_bind ((kp_countRun h0 (lo := lo) (n := (arrOf st).size - lo) (by omega) (by omega)).wp S fun r st2 S2 q => ?_)
    obtain ⟨n, rfl, n1, n2⟩ := q
    have n2 : lo + n ≤ a₀.size := by omega
    refine wp_ite (fun small => wpS_bind (wpS_lift (wpAny_rule ⟨rfl, ?_⟩))) fun _ => ?_
    · refine wpS_bind ((kp_binary h0 (lo := lo) (n := min ((arrOf st).size - lo) (minRun' (arrOf st).size (arrOf st).size 0)) (ok := n) (by omega)).wp S2 fun r st3 S q => ?_)
      subst q
      have n1 : 0 < min ((arrOf st).size - lo) (minRun' (arrOf st).size (arrOf st).size 0) := by
        have : n < minRun' (arrOf st).size (arrOf st).size 0 := small
        omega
      have n2 : lo + min ((arrOf st).size - lo) (minRun' (arrOf st).size (arrOf st).size 0) ≤ a₀.size := by omega
      refine wp_ite (fun e => nomatch e) fun _ => ?_
      refine wpS_bind (wpS_get ?_)
      cases eb : (pendingOf st3).back? with
      | none =>
        simp only [show (sortPriv% PySem.Builtin.SortState.pending) st3 = pendingOf st3 from rfl, eb]
        exact wpS_bind (wpS_modify (wpS_pure ⟨rfl, S.push n1 n2⟩))
      | some u =>
        obtain ⟨s1, m1, p1⟩ := u
        simp only [show (sortPriv% PySem.Builtin.SortState.pending) st3 = pendingOf st3 from rfl, eb]
        refine wpS_bind (wpS_mono (wpS_forRange (I := fun _ c st' => c.1 = none ∧ SR a₀ lo st') (Q := fun c st' => c.1 = none ∧ SR a₀ lo st') ?_ (fun _ _ h => h) ⟨rfl, S⟩) ?_)
        · rintro y ⟨r, c⟩ st4 - hy ⟨rfl, S4⟩
          refine wpS_bind (wpS_get ?_)
          split
          next f1 f2 older e =>
            refine wp_ite (fun _ => wpS_pure ⟨rfl, S4⟩) fun _ => ?_
            have big : 1 < (pendingOf st4).size := by
              split at e
              · assumption
              · cases e
            exact wpS_bind (wp_mergeAt h0 S4 (by show (pendingOf st4).size - 2 + 1 < (pendingOf st4).size; omega) fun st5 S5 => wpS_pure ⟨rfl, S5⟩)
          next => exact wpS_pure ⟨rfl, S4⟩
        · rintro ⟨r, c⟩ st4 ⟨rfl, S4⟩
          refine wpS_bind (wpS_modify (wpS_bind (wpS_modify (wpS_pure ⟨rfl, ?_⟩))))
          refine SR.push (st := setPending st4 ((pendingOf st4).modify ((pendingOf st4).size - 1) fun q => (q.1, q.2.1, _))) ⟨⟨S4.perm, S4.kind, S4.failed⟩, ?_, S4.fits⟩ n1 n2
          show Rn ((pendingOf st4).modify ((pendingOf st4).size - 1) _).toList 0 lo
          rw [Array.toList_modify]
          exact S4.runs.power
    · have S := S2
      generalize st2 = st3 at S
      refine wpS_bind (wpS_get ?_)
      cases eb : (pendingOf st3).back? with
      | none =>
        simp only [show (sortPriv% PySem.Builtin.SortState.pending) st3 = pendingOf st3 from rfl, eb]
        exact wpS_bind (wpS_modify (wpS_pure ⟨rfl, S.push n1 n2⟩))
      | some u =>
        obtain ⟨s1, m1, p1⟩ := u
        simp only [show (sortPriv% PySem.Builtin.SortState.pending) st3 = pendingOf st3 from rfl, eb]
        refine wpS_bind (wpS_mono (wpS_forRange (I := fun _ c st' => c.1 = none ∧ SR a₀ lo st') (Q := fun c st' => c.1 = none ∧ SR a₀ lo st') ?_ (fun _ _ h => h) ⟨rfl, S⟩) ?_)
        · rintro y ⟨r, c⟩ st4 - hy ⟨rfl, S4⟩
          refine wpS_bind (wpS_get ?_)
          split
          next f1 f2 older e =>
            refine wp_ite (fun _ => wpS_pure ⟨rfl, S4⟩) fun _ => ?_
            have big : 1 < (pendingOf st4).size := by
              split at e
              · assumption
              · cases e
            exact wpS_bind (wp_mergeAt h0 S4 (by show (pendingOf st4).size - 2 + 1 < (pendingOf st4).size; omega) fun st5 S5 => wpS_pure ⟨rfl, S5⟩)
          next => exact wpS_pure ⟨rfl, S4⟩
        · rintro ⟨r, c⟩ st4 ⟨rfl, S4⟩
          refine wpS_bind (wpS_modify (wpS_bind (wpS_modify (wpS_pure ⟨rfl, ?_⟩))))
          refine SR.push (st := setPending st4 ((pendingOf st4).modify ((pendingOf st4).size - 1) fun q => (q.1, q.2.1, _))) ⟨⟨S4.perm, S4.kind, S4.failed⟩, ?_, S4.fits⟩ n1 n2
          show Rn ((pendingOf st4).modify ((pendingOf st4).size - 1) _).toList 0 lo
          rw [Array.toList_modify]
          exact S4.runs.power
  case post =>
    rintro ⟨r, lo⟩ st1 ⟨rfl, S⟩
    refine wpS_bind (wpS_mono (wpS_forRange (I := fun _ c st' => c.1 = none ∧ SR a₀ lo st') (Q := fun c st' => c.1 = none ∧ SR a₀ lo st') ?_ (fun _ _ h => h) ⟨rfl, S⟩) ?_)
    · rintro y ⟨r, c⟩ st4 - hy ⟨rfl, S4⟩
      refine wpS_bind (wpS_get (wp_ite (fun _ => wpS_pure ⟨rfl, S4⟩) fun z => ?_))
      have z : 1 < (pendingOf st4).size := Nat.lt_of_not_le z
      refine wpS_bind (wp_mergeAt h0 S4 ?_ fun st5 S5 => wpS_pure ⟨rfl, S5⟩)
      have at_ : ∀ (c : Prop) [Decidable c], (if c then (pendingOf st4).size - 2 - 1 else (pendingOf st4).size - 2) + 1 < (pendingOf st4).size := by
        intro c _
        split <;> omega
      exact at_ _
    · rintro ⟨r, c⟩ st4 ⟨rfl, S4⟩
      exact wpS_pure (k _ S4.toSI)
end
end Ts


set_option Elab.async false
set_option linter.all false
set_option maxRecDepth 100000
set_option maxHeartbeats 2000000
namespace L2
open PySem PySem.Spec PyProof.Rows
/-! ### sorted(d), d a dict with int keys, of any size: the keys, in some order -/
theorem ik_of {vs : List Value} {ns : List Int} (h : IntsAre vs ns) : Ts.Ik (pairsOf vs) := fun i p e => by
  have m : p ∈ (pairsOf vs).toList := List.mem_of_getElem? (by rw [Array.getElem?_toList]; exact e)
  rw [pairsOf_toList] at m
  exact h.all _ (mem_zip_self m).2
theorem perm_out {vs : List Value} {ns : List Int} (h : IntsAre vs ns) {xs : Array Keyed} (hp : xs.Perm (pairsOf vs)) : ∃ ms, IntsAre (xs.map (·.2)).toList ms ∧ ms.Perm ns := by
  have hl : xs.toList.Perm (vs.zip vs) := by rw [← pairsOf_toList]; exact Array.perm_iff_toList_perm.mp hp
  have same : (xs.map (·.2)).toList.Perm vs := by
    rw [Array.toList_map]
    refine (hl.map _).trans (List.Perm.of_eq ?_)
    exact List.map_snd_zip (Nat.le_refl _)
  refine ⟨_, intsAre_map _ fun v hv => h.all v (same.mem_iff.mp hv), ?_⟩
  have := same.map numOf
  rwa [h.nums] at this
section
variable {prog : Program} {w : World} {A : Around} {E : Value → Shared → Prop} {s : Shared}
theorem sort_any {a : Addr} {vs : List Value} {ns : List Int} {n : Nat} {P : Fin → Shared → Prop} (ho : s.heap.get? a = some (seqObj "list" vs.toArray n)) (hI : IntsAre vs ns) (hz : vs.length ≤ sizeLine)
    (h : ∀ (out : Array Value) (ms : List Int), IntsAre out.toList ms → ms.Perm ns → P (.done (.ret .none)) { s with heap := sortedHeap s.heap a vs out }) : wpAny (model prog w) A (Builtin.«list.sort» ⟨[.ref a], []⟩) P E s := by
  rw [list_sort_plain]
  have o1 := get?_update_seq ho fun _ => #[]
  have lt : a < s.heap.objs.size := Heap.lt_size ho
  generalize ec : (if ((fun _ : Array Value => (#[] : Array Value)) vs.toArray).size == vs.toArray.size then n else n + 1) = c at o1
  have o2 : (((s.heap.update a (Obj.mapSeq fun _ => #[])).push (seqObj "tuple" vs.toArray 0)).push (seqObj "list" #[] 0)).get? a = some (seqObj "list" #[] c) := Heap.get?_push_of_some _ (Heap.get?_push_of_some _ o1)
  refine wpAny_bind (listItems_at ho rfl (wpAny_bind (listUpdate_at ho rfl (wpAny_bind (seqEpoch_at o1 rfl (wpAny_bind (wpAny_newTuple (wpAny_bind (wpAny_newList (wpAny_holding ?_)))))) ) (by simpa using hz))))
  have sz : vs.toArray.size = vs.length := List.size_toArray
  have fin : ∀ st' : SortSt, (arrOf st').Perm (pairsOf vs) → P (.done (.ret .none)) { s with heap := sortedHeap s.heap a vs ((arrOf st').map (·.2)) } := fun st' hp => by
    obtain ⟨ms, m1, m2⟩ := perm_out hI hp
    exact h _ ms m1 m2
  have fits : ∀ st' : SortSt, (arrOf st').Perm (pairsOf vs) → ((arrOf st').map (·.2)).size ≤ sizeLine + 1 := fun st' hp => by
    rw [Array.size_map, hp.size_eq, pairsOf_size]
    omega
  by_cases few : vs.toArray.size < 2
  · simp only [if_pos few, StateT.run_pure]
    refine wpAny_bind (wpAny_pure (wpAny_bind (wpAny_pure (wpAny_bind (seqEpoch_at o2 rfl (wpAny_bind (listUpdate_at o2 rfl ?_ (Nat.zero_le _) (fits (SortSt.mk' general' (pairsOf vs) #[] 7 none) (Array.Perm.refl _)))))))))
    simp only [bne_self_eq_false, Bool.false_eq_true, if_false]
    exact wpAny_pure (fin (SortSt.mk' general' (pairsOf vs) #[] 7 none) (Array.Perm.refl _))
  · simp only [if_neg few]
    have kk : keyKind' vs.toArray = pure oneType' := by
      match vs, few, hI with
      | [], few, _ => exact absurd (show (0 : Nat) < 2 by decide) few
      | [_], few, _ => exact absurd (show (1 : Nat) < 2 by decide) few
      | _ :: _ :: _, _, hI => exact keyKind_ints hI
    rw [kk]
    refine wpAny_bind (wpAny_pure (wpAny_bind (wpAny_mono (Ts.wp_sortRuns (a₀ := pairsOf vs) (st := SortSt.mk' oneType' (pairsOf vs) #[] 7 none) (Q := fun _ st' => (arrOf st').Perm (pairsOf vs) ∧ failedOf st' = none) (ik_of hI) ⟨Array.Perm.refl _, rfl, rfl⟩ rfl fun st' q => ⟨q.perm, q.failed⟩) ?_ fun _ _ e => e)))
    rintro ⟨⟨⟩, st'⟩ s' ⟨rfl, hp, hf⟩
    refine wpAny_bind (seqEpoch_at o2 rfl (wpAny_bind (listUpdate_at o2 rfl ?_ (Nat.zero_le _) (fits st' hp))))
    simp only [show (sortPriv% PySem.Builtin.SortState.failed) st' = none from hf, bne_self_eq_false, Bool.false_eq_true, if_false]
    exact wpAny_pure (fin st' hp)
abbrev noList : Obj := { cls := .type "list", data := .seq #[] }
abbrev keyObj (a : Addr) (n ep : Nat) : Obj := { cls := .type "dict_keyiterator", data := .fields #[.ref a, .int 0 0, .int n 0, .int ep 0] }
/-- a new list is touched: nothing changes but its count -/
theorem touched {l : Addr} {Q : Unit → Shared → Prop} (ho : s.heap.get? l = some noList) (h : ∀ h' c, h'.get? l = some { cls := .type "list", data := .seq #[] c } → (∀ b o, b ≠ l → s.heap.get? b = some o → h'.get? b = some o) → Q () { s with heap := h' }) :
    wpAny (model prog w) A (Builtin.List.listTouch (.ref l)) Q E s := by
  have o1 := Heap.get?_update_self (Obj.mapSeq (·.push Value.none)) ho rfl
  refine wpAny_bind (listUpdate_at ho rfl (listUpdate_at o1 rfl (h _ _ (Heap.get?_update_self (Obj.mapSeq (·.pop)) o1 rfl) fun b o hb z => ?_)))
  rw [Heap.get?_update_other _ _ (Ne.symm hb), Heap.get?_update_other _ _ (Ne.symm hb)]
  exact z
theorem dict_hint {a : Addr} {Q : Bool → Shared → Prop} (hT : s.TypeIs (.ref a) "dict") (h : Q false s) : wpAny (model prog w) A (Builtin.List.listLengthHint (.ref a)) Q E s := by
  have self : isSubtype (.type "dict") (.type "dict") = pure true := by rw [isSubtype_type]; kernel_rfl
  refine wpAny_bind (wpAny_specialOf hT PySem.F.slot_dict_len.lookup ?_)
  dsimp only
  rw [show splitId "dict.__len__" = some ("dict", "__len__") by decide +kernel]
  refine wpAny_bind (wpAny_isInstance hT self ?_)
  rw [if_neg (by simp), if_pos]
  · exact wpAny_bind (wpAny_typeOf hT (wpAny_pure h))
  · decide +kernel
theorem collect_dict {a : Addr} {kvs : List (Key × Value)} {ep : Nat} {Q : List Value → Shared → Prop} (hh : A.handled = none) (hs : (a == sysModules) = false) (D : s.heap.DictAt (mixKind prog w) a kvs ep) (hn : kvs.length ≤ sizeLine)
    (h : ∀ (h' : Heap) (tk : Nat) (us : List Value), us.length = kvs.length → (∀ (i : Nat) u, us[i]? = some u → ∃ k x, kvs[i]? = some (k, x) ∧ (mixKind prog w).is k u = true) → (∀ b o, s.heap.get? b = some o → h'.get? b = some o) → s.heap.objs.size ≤ h'.objs.size →
      s.toks ≤ tk → Q us { s with heap := h', toks := tk }) : wpAny (model prog w) A (collect (.ref a)) Q E s := by
  have la : a < s.heap.objs.size := let ⟨_, _, e, _⟩ := D; Heap.lt_size e
  generalize hl : s.heap.objs.size = l at la
  have D1 : (s.heap.push noList).DictAt (mixKind prog w) a kvs ep := D.at' fun o e => Heap.get?_push_of_some _ e
  have D2 : ((s.heap.push noList).push (keyObj a kvs.length ep)).DictAt (mixKind prog w) a kvs ep := D1.at' fun o e => Heap.get?_push_of_some _ e
  have sz : (s.heap.push noList).objs.size = l + 1 := by rw [Heap.size_push, hl]
  have oL : ((s.heap.push noList).push (keyObj a kvs.length ep)).get? l = some noList := by rw [← hl]; exact Heap.get?_push_of_some _ (Heap.get?_push_size _ rfl)
  have oI : ((s.heap.push noList).push (keyObj a kvs.length ep)).get? (l + 1) = some (keyObj a kvs.length ep) := by rw [← sz]; exact Heap.get?_push_size _ rfl
  refine wpAny_bind (wpAny_runValue (codeAny_builtin PySem.F.entry_proto_collect ?_))
  rw [Around.under_plainId PySem.F.plain_proto_collect]
  refine wpAny_bind (m := newList []) (wpAny_newObj_type (wpAny_pure ⟨plainId_quiet PySem.F.plain_list_iadd _, codeAny_builtin PySem.F.entry_list_iadd ?_⟩))
  rw [Around.under_plainId PySem.F.plain_list_iadd, hl]
  show wpAny _ A.in1 (Builtin.List.listExtendWith (.ref l) (.ref a) (.ref l)) _ _ { s with heap := s.heap.push noList }
  refine wpAny_bind (wpAny_typeOf (s := { s with heap := s.heap.push noList }) D1.dictOf.typeIs ?_)
  rw [if_neg (by rw [show Builtin.List.listSameRef (.ref l) (.ref a) = false from beq_false_of_ne (Nat.ne_of_gt la)]; decide)]
  refine wpAny_bind (wpAny_pyIter_dict hs D1 (wpAny_bind (wpAny_holding (dict_hint (s := { s with heap := (s.heap.push noList).push (keyObj a kvs.length ep) }) D2.dictOf.typeIs ?_))))
  rw [if_pos (by decide +kernel)]
  refine wpAny_bind (wpAny_rule (wpAny_bind (touched (s := { s with heap := (s.heap.push noList).push (keyObj a kvs.length ep) }) oL fun h1 c o1 k1 => ?_)))
  have ne : a ≠ l + 1 := Nat.ne_of_lt (Nat.lt_succ_of_lt la)
  have W := (Walks.dictKeys (prog := prog) (w := w) (knd := mixKind prog w) (A := A.in1) (by simpa using hh) (l + 1) a ne kvs ep).toS
  have st0 : h1.IsKeyIter (l + 1) a 0 kvs.length ep ∧ h1.DictAt (mixKind prog w) a kvs ep := ⟨⟨_, k1 _ _ (Nat.succ_ne_self l) oI, rfl, rfl⟩, D2.at' fun o e => k1 a o (Nat.ne_of_lt la) e⟩
  show wpAny _ A.in1 (again (.builtin "list.extend.loop" ⟨[.ref l, .ref (s.heap.push noList).objs.size, .ref l], []⟩)) _ _ _
  rw [sz]
  refine wpAny_pure ⟨plainId_quiet PySem.F.plain_extend_loop _, codeAny_extend_loopS W hn l (by simp [Nat.ne_of_gt la]) (.ref l) kvs.length 0 _ #[] c rfl (Nat.zero_le _) st0 o1 (ItemsOf.nil _) fun s2 acc c2 mv o2 all => ?_⟩
  refine wpAny_bind (wpAny_load o2 (wpAny_pure ?_))
  have e2 : s2 = { s with heap := s2.heap, toks := s2.toks } := by cases s2; cases mv.gens; cases mv.drawn; cases mv.os; rfl
  have keep : ∀ b o, s.heap.get? b = some o → s2.heap.get? b = some o := fun b o e => by
    have lb := Heap.lt_size e
    have n1 : b ≠ l := by rw [← hl]; exact Nat.ne_of_lt lb
    have n2 : b ≠ l + 1 := by rw [← hl]; exact Nat.ne_of_lt (Nat.lt_succ_of_lt lb)
    exact mv.heap b o (by simp [n1, n2]) (k1 b o n1 (Heap.get?_push_of_some _ (Heap.get?_push_of_some _ e)))
  show Q acc.toList s2
  rw [e2]
  refine h _ _ _ (by rw [Array.length_toList]; exact all.1) (fun i u e => all.2 i u (by rw [← Array.getElem?_toList]; exact e)) keep ?_ mv.toks
  rw [hl]
  exact Nat.le_of_lt (Heap.lt_size o2)
end
theorem ints_keys {us : List Value} {ns : List Int} (hl : us.length = ns.length) (k : ∀ (i : Nat) u n, us[i]? = some u → ns[i]? = some n → ∃ t, u = .int n t) : IntsAre us ns := by
  induction us generalizing ns with
  | nil =>
    have e : ns = [] := List.eq_nil_of_length_eq_zero hl.symm
    subst e
    exact .nil
  | cons u us ih =>
    cases ns with
    | nil => cases hl
    | cons n ns =>
      obtain ⟨t, rfl⟩ := k 0 u n rfl rfl
      exact .cons n t (ih (Nat.succ.inj hl) fun i v m e1 e2 => k (i + 1) v m e1 e2)
def rSortD : List V → Hp → VK → Prop := fun xs H Q => ∃ (a : Addr) (kvs : List (Key × V)) (ns : List Int), xs = [.ref a] ∧ Rd H a (.dK kvs) ∧ kvs.map (·.1) = ns.map Sum.inl ∧
  ∀ (l : Addr) (ms : List Int), H l = none → ms.Perm ns → Q (.ref l) (upd H l (.lst (ms.map V.int)))
theorem call_sorted_dict {X : Cx} (hc : X.calm = true) : CallR X (.builtin "sorted") rSortD := by
  intro pins s σ H xs us Q I r h
  obtain ⟨a, kvs, ns, rfl, rd, hk, k⟩ := h
  obtain ⟨u, rfl, rx⟩ := vals1 r
  cases rx
  have ⟨hz, hs, vs, kv, ep, D⟩ : kvs.length ≤ sizeLine ∧ (a == sysModules) = false ∧ ∃ vs, KV kvs vs ∧ ∃ ep, s.heap.DictAt (mixKind X.prog X.w) a vs ep := by
    rcases rd with h | ⟨o, h⟩
    · obtain ⟨hz, hs, vs, kv, ob, es, ep, e, ex, d, q⟩ := I.hok a _ h
      exact ⟨hz, hs, vs, kv, ep, ob, es, e, ex, d, q⟩
    · obtain ⟨_, hz, hs, vs, kv, ob, es, ep, e, ex, d, q⟩ := I.hok a _ h
      exact ⟨hz, hs, vs, kv, ep, ob, es, e, ex, d, q⟩
  have hl : kvs.length = vs.length := Paired.length kv
  have hn : kvs.length = ns.length := by have := congrArg List.length hk; simpa using this
  refine Calls.call_function_entry kind_sorted plain_sorted entry_sorted (args_sorted1 _) (wpAny_bind (wpAny_pure ?_))
  refine wpAny_bind (collect_dict (by simpa using I.ok.hd hc) hs D (hl ▸ hz) fun h1 tk vals e1 e2 keep le lt => ?_)
  have inz : IntsAre vals ns := ints_keys (by omega) fun i u n q1 q2 => by
    obtain ⟨key, x, q3, q4⟩ := e2 i u q1
    have q5 : (kvs.map (·.1))[i]? = some (.inl n) := by rw [hk, List.getElem?_map, q2]; rfl
    rw [List.getElem?_map] at q5
    obtain ⟨p, q6, q7⟩ := Option.map_eq_some_iff.mp q5
    obtain ⟨y, q8, _⟩ := KV.get kv q6
    rw [q3] at q8
    obtain ⟨rfl, _⟩ := Prod.mk.inj (Option.some.inj q8)
    have rk := key_rel (X := X) q4
    rw [q7] at rk
    exact rk
  have vz : vals.length ≤ sizeLine := by omega
  have oL : (h1.push (seqObj "list" vals.toArray 0)).get? h1.objs.size = some (seqObj "list" vals.toArray 0) := Heap.get?_push_size _ rfl
  refine wpAny_bind (wpAny_newList (wpAny_bind (wpAny_holding ?_)) vz)
  refine wpAny_call_entry (s := { s with heap := h1.push (seqObj "list" vals.toArray 0), toks := tk }) slot_list_sort ⟨_, oL, rfl⟩ entry_list_sort (sort_any oL inz vz fun out ms i1 i2 => ⟨_, rfl, ?_⟩) (args_list_sort _)
  obtain ⟨c, oS⟩ := sortedHeap_at (out := out) oL
  have hfr : H h1.objs.size = none := I.hok.fresh le
  refine wpAny_pure ⟨_, rfl, .ref h1.objs.size, _, I.laid (t' := tk) (o := .lst (ms.map V.int)) (fun b o z => ?_) le ⟨?_, out.toList, c, ints_vals i1, by simpa using oS⟩, rfl, k _ ms hfr i2⟩
  · have z1 := keep b o z
    have lb := Heap.lt_size z1
    refine (sortedHeap_old (Nat.ne_of_lt lb) ?_).trans (Heap.get?_push_of_some _ z1)
    rw [size_push']
    exact Nat.lt_succ_of_lt lb
  · rw [List.length_map, i2.length_eq, ← hn]
    exact hz
end L2


set_option Elab.async false
set_option linter.all false
set_option maxRecDepth 100000
set_option maxHeartbeats 2000000
namespace L2
open PySem PySem.Spec PyProof.Rows Tw
seal PSs PS PE PT PW PA PG PGs PI PC
/-! ### a comprehension over a list whose elements are new tuples -/
theorem block_tup1 {K : PySem.W.Frag} {D : Addr} {ys : List V} {te : TE} {σ : St} {H1 : Hp} {Q : VK} {j0 : Option Nat} {jr : List (Option Nat)} (hS : SqL K H1 D ys) (hn : ys.length ≤ sizeLine) (f : V → List V)
    (hte : ∀ (v : V) H' (R : VK), v ∈ ys → Ext H1 H' → (∀ t, H' t = none → R (.ref t) (upd H' t (.tup (f v)))) → te (some v :: subSt jr σ) H' R)
    (hQ : ∀ E H' ts, H1 E = none → Ext H1 H' → H' E = some (.lst (ts.map V.ref)) → Paired (fun t v => H' t = some (.tup (f v))) ts ys → Q (.ref E) H') : tBlock (Itl K D) (j0 :: jr) (gName 0) tYes te σ H1 Q := by
  intro E hE
  refine ⟨fun i m σ' H' => m = ys.length - i ∧ i ≤ ys.length ∧ (∃ y, σ' = y :: subSt jr σ) ∧ Ext H1 H' ∧ ∃ ts, H' E = some (.lst (ts.map V.ref)) ∧ Paired (fun t v => H' t = some (.tup (f v))) ts (ys.take i), ⟨ys.length, by simp, Nat.zero_le _, ⟨_, rfl⟩, Ext.new hE, [], upd_same, .nil⟩, ?_⟩
  rintro i m σ' H' ⟨rfl, hi, ⟨y, rfl⟩, x, ts, hz, hp⟩
  by_cases hlt : i < ys.length
  · refine .inr ⟨⟨ys, ys[i], x.sqL hS, by simp [hlt]⟩, fun σ2 H2 => (∃ y, σ2 = y :: subSt jr σ) ∧ Ext H1 H2 ∧ ∃ ts, H2 E = some (.lst (ts.map V.ref)) ∧ Paired (fun t v => H2 t = some (.tup (f v))) ts (ys.take (i + 1)), fun σ2 H2 h => ⟨ys.length - (i + 1), by omega, rfl, hlt, h⟩, ?_⟩
    rintro v H2 ⟨rfl, hv⟩
    have e := hv ys (x.sqL hS)
    dsimp only [gName, tYes]
    rw [if_pos rfl]
    refine hte v _ _ (List.mem_of_getElem? e) x fun t2 ht2 => ?_
    have hz2 := upd_keep (u := .tup (f v)) hz ht2
    have hEt : t2 ≠ E := (ne_of_none hz ht2).symm
    have len : ts.length = i := by rw [hp.length]; simp; omega
    refine ⟨_, hz2, by rw [List.length_map]; omega, ⟨_, rfl⟩, (x.newer ht2).over hE, ts ++ [t2], by rw [upd_same, List.map_append]; rfl, ?_⟩
    rw [take_snoc e]
    exact Paired.snoc (Paired.imp' (fun t u q => upd_k (upd_keep q ht2) (ne_of q hz (by simp))) hp) (by rw [upd_ne hEt, upd_same])
  · have e : i = ys.length := by omega
    subst e
    rw [List.take_length] at hp
    exact .inl ⟨⟨ys, x.sqL hS, Nat.le_refl _⟩, hQ E H' ts hE x hz hp⟩
theorem range_getD (l : List Nat) (f : Nat → V) : (List.range l.length).map (fun i => f (l.getD i 0)) = l.map f := by
  refine List.ext_getElem? fun i => ?_
  by_cases h : i < l.length <;> simp [h]
theorem put_old {ks : List Nat} {m : Nat} (h : m ∈ ks) : putK (ks.map fun (n : Nat) => ((.inl (n : Int) : Key), V.bl true)) (.inl (m : Int)) (.bl true) = ks.map fun (n : Nat) => ((.inl (n : Int) : Key), V.bl true) := by
  unfold putK
  rw [if_pos (by rw [List.any_eq_true]; exact ⟨_, List.mem_map.mpr ⟨m, h, rfl⟩, by simp⟩), List.map_map]
  refine List.map_congr_left fun n _ => ?_
  simp only [Function.comp]
  split <;> rfl
section
variable {P : Program} {w : World} {K : PySem.W.Frag} {mg : Str → Option Value} {base : Heap}
/-! ### marks_behind -/
def spBehind (K : PySem.W.Frag) : Sp := fun vs H Q _ => ∃ (g : Addr) (ws : List W) (d : Nat → Addr) (f : W → Addr) (t : W) (m : Nat), vs = [.ref g, sv t, .int (m : Int)] ∧ GR H g ws d f ∧ ws.length ≤ 10000 ∧ t.length ≤ 1000000 ∧ m ≤ t.length ∧
  ∀ D H', H D = none → Ext H H' → H' D = some (.lst (intsV ((standL ws t m).map fun n => m + n))) → Q (.ref D) H'
theorem ok_behind (D : Def K mg "marks_behind" "marks_behind" Pl.s_marks_behind ["groups", "text", "mark"]) (C1 : Cal P w K mg base CX0 1 "standing" ["groups", "text", "mark"] (spStanding K)) :
    Cal P w K mg base CX0 2 "marks_behind" ["groups", "text", "mark"] (spBehind K) := by
  have sc : FnScope ["groups", "text", "mark"] ["groups", "text", "mark"] (defScope Pl.s_marks_behind) := ⟨rfl, rfl, rfl, by decide +kernel, rfl, by decide +kernel, by decide +kernel⟩
  refine D.cal fun f fd F => F.ok sc (fun vs H Q E h => ?_) (fun cdv A outer s H vs Q E hr h => ?_)
  · obtain ⟨_, _, _, _, _, _, rfl, _⟩ := h
    rfl
  · obtain ⟨g, ws, d, f, t, m, rfl, G, hwl, htl, hmt, k⟩ := h
    have nd : (["behind", "places"] : List Str).Nodup := by decide +kernel
    refine ⟨_, pss_one (ps_ret (pe_comp (N' := ["behind", "places"]) (js := [none, none]) (.of (by kernel_rfl)) rfl (pi_list (pe_callF C1 hr (pa_cons (pv 0) (pa_cons (pv 1) (pa_cons (pv 2) pa_nil))) pass0)) fun C fp s₀ H₀ =>
        ⟨pg_tupK (K := K) (n := 2) rfl rfl (pgs_cons (pg_name (i := 0) nd rfl (Or.inl rfl)) (pgs_cons (pg_name (i := 1) nd rfl (Or.inl rfl)) pgs_nil)), pts_nil, pv 0⟩)), ?_⟩
    refine ⟨_, rfl, _, rfl, _, rfl, g, ws, d, f, t, m, rfl, G, hwl, htl, hmt, fun D H3 ys hD x3 kb hys hpr => ⟨D, rfl, ⟨_, SqL.of hys⟩, ?_⟩⟩
    have hlen := hpr.length
    have hsl := standL_len ws t m
    refine block_pairs (SqL.of hys) (by rw [← hlen]; exact small_line (by omega)) (fun i => .int ((m : Int) + (((standL ws t m).getD i 0 : Nat) : Int))) (fun i => .ref (f (cut t m ((standL ws t m).getD i 0))))
      (fun i => .int ((m : Int) + (((standL ws t m).getD i 0 : Nat) : Int))) (fun i v e => ?_) (fun i H' R hi2 kp hR => ⟨_, rfl, hR⟩) (fun E hE => k E _ (x3.free hE) (x3.newer hE) ?_)
    · obtain ⟨n, e1, t', rfl, e2⟩ := paired_get hpr e
      have : (standL ws t m).getD i 0 = n := by simp [e1]
      rw [this]
      exact ⟨t', rfl, e2⟩
    · rw [upd_same, ← hlen]
      rw [range_getD (standL ws t m) fun n => .int ((m : Int) + (n : Int)), intsV, List.map_map]
      rfl
/-! ### noted -/
theorem put_all : ∀ (r ks : List Nat), ks.Nodup → ∃ ks' : List Nat, mergeK (ks.map fun (n : Nat) => ((.inl (n : Int) : Key), V.bl true)) (r.map fun (n : Nat) => ((.inl (n : Int) : Key), V.bl true)) = ks'.map (fun (n : Nat) => ((.inl (n : Int) : Key), V.bl true)) ∧ ks'.Nodup ∧ ∀ n, n ∈ ks' ↔ n ∈ ks ∨ n ∈ r
  | [], ks, h => ⟨ks, rfl, h, fun n => by simp⟩
  | m :: r, ks, h => by
    by_cases e : m ∈ ks
    · obtain ⟨ks', h1, h2, h3⟩ := put_all r ks h
      refine ⟨ks', ?_, h2, fun n => ?_⟩
      · rw [← h1]
        show mergeK (putK _ _ _) _ = _
        congr 1
        exact put_old e
      · rw [h3]
        constructor
        · rintro (z | z)
          · exact .inl z
          · exact .inr (List.mem_cons_of_mem _ z)
        · rintro (z | z)
          · exact .inl z
          · rcases List.mem_cons.mp z with rfl | z
            · exact .inl e
            · exact .inr z
    · obtain ⟨ks', h1, h2, h3⟩ := put_all r (ks ++ [m]) (List.nodup_append.mpr ⟨h, by simp, fun x hx y hy z => e (by simp at hy; rw [← hy, ← z]; exact hx)⟩)
      refine ⟨ks', ?_, h2, fun n => ?_⟩
      · rw [← h1]
        show mergeK (putK _ _ _) _ = _
        congr 1
        rw [putK_new _ (valV_no (κ := fun n : Nat => (.inl (n : Int) : Key)) fun a ha z => e (lenK_inj (b := m) z ▸ ha)), List.map_append]
        rfl
      · rw [h3, List.mem_append, List.mem_singleton, List.mem_cons]
        constructor
        · rintro ((z | z) | z)
          · exact .inl z
          · exact .inr (.inl z)
          · exact .inr (.inr z)
        · rintro (z | z | z)
          · exact .inl (.inl z)
          · exact .inl (.inr z)
          · exact .inr z
end
end L2


set_option Elab.async false
set_option linter.all false
set_option maxRecDepth 100000
set_option maxHeartbeats 2000000
namespace L2
open PySem PySem.Spec PyProof.Rows Tw
seal PSs PS PE PT PW PA PG PGs PI PC
abbrev noteK (ks : List Nat) : List (Key × V) := ks.map fun (n : Nat) => ((.inl (n : Int) : Key), V.bl true)
theorem paired_map {α β γ δ : Type} {F : α → β → Prop} {G : α → γ → Prop} {f : δ → β} {g : δ → γ} (h : ∀ a d, F a (f d) → G a (g d)) : ∀ {as : List α} {l : List δ}, Paired F as (l.map f) → Paired G as (l.map g)
  | [], [], _ => .nil
  | [], _ :: _, r => nomatch r
  | _ :: _, [], r => nomatch r
  | a :: as, d :: l, r => by
    rw [List.map_cons] at r
    cases r with
    | cons x y => exact .cons (h a d x) (paired_map h y)
theorem boot_dict : bootBuiltins "dict" = some (.type "dict") := by decide +kernel
section
variable {P : Program} {w : World} {K : PySem.W.Frag} {mg : Str → Option Value} {base : Heap}
def spNoted (K : PySem.W.Frag) : Sp := fun vs H Q _ => ∃ (a : Addr) (r : List Nat), vs = [.ref a] ∧ H a = some (.lst (intsV r)) ∧ r.length ≤ 100000 ∧ ∀ d ks H', H d = none → Ext H H' → H' d = some (.dK (noteK ks)) → ks.Nodup → (∀ n, n ∈ ks ↔ n ∈ r) → Q (.ref d) H'
theorem ok_noted (D : Def K mg "noted" "noted" Pl.s_noted ["values"]) (B : Bare mg) : Cal P w K mg base CX0 1 "noted" ["values"] (spNoted K) := by
  have sc : FnScope ["values"] ["values"] (defScope Pl.s_noted) := ⟨rfl, rfl, rfl, by decide +kernel, rfl, by decide +kernel, by decide +kernel⟩
  refine D.cal fun f fd F => F.ok sc (fun vs H Q E h => ?_) (fun cdv A outer s H vs Q E hr h => ?_)
  · obtain ⟨_, _, rfl, _⟩ := h
    rfl
  · obtain ⟨a, r, rfl, ha, hrl, k⟩ := h
    have nd : (["value"] : List Str).Nodup := by decide +kernel
    refine ⟨_, pss_one (ps_ret (pe_callTy (call_dict_pairs rfl) (by rfl) B.dict boot_dict (pa_cons
        (pe_comp (N' := ["value"]) (js := [none]) (.of (by kernel_rfl)) rfl (pi_list (pv 0)) fun C fp s₀ H₀ => ⟨pg_name (i := 0) nd rfl (Or.inl rfl), pts_nil, pe_tup (pa_cons (pv 0) (pa_cons pe_bl pa_nil))⟩) pa_nil))), ?_⟩
    refine ⟨_, rfl, a, rfl, ⟨_, SqL.of ha⟩, block_tup1 (SqL.of ha) (by rw [List.length_map]; exact small_line (by omega)) (fun v => [v, .bl true]) (fun v H' R hv x hR => ⟨_, rfl, by show 2 ≤ sizeLine; decide, hR⟩) fun E H' ts hE x hz hp => ?_⟩
    obtain ⟨ks, e1, e2, e3⟩ := put_all r [] .nil
    refine ⟨E, ts, r.map fun (n : Nat) => ((.inl (n : Int) : Key), V.bl true), rfl, SqL.of hz, paired_map (F := fun t v => H' t = some (.tup [v, .bl true])) (f := fun (n : Nat) => V.int n) (g := fun (n : Nat) => ((.inl (n : Int) : Key), V.bl true)) (G := fun t (kv : Key × V) => SqT K H' t [kV kv.1, kv.2]) (fun t n q => SqT.of q) hp, fun d hd => k d ks _ (x.free hd) (x.newer hd) ?_ e2 fun n => by simpa using e3 n⟩
    rw [upd_same]
    exact congrArg (fun z => some (HO.dK z)) e1
/-! ### unrolled -/
/-- a chain: the last place first -/
def Ch (H : Hp) : V → List Nat → Prop
  | c, [] => c = .non
  | c, p :: r => ∃ a c', c = .ref a ∧ H a = some (.tup [.int (p : Int), c']) ∧ Ch H c' r
theorem Ch.keep {H H' : Hp} : ∀ {r : List Nat} {c : V}, Ch H c r → (∀ b xs, H b = some (.tup xs) → H' b = some (.tup xs)) → Ch H' c r
  | [], _, h, _ => h
  | _ :: _, _, ⟨a, c', e, h1, h2⟩, k => ⟨a, c', e, k a _ h1, h2.keep k⟩
theorem Ch.ext {H H' : Hp} {r : List Nat} {c : V} (h : Ch H c r) (x : Ext H H') : Ch H' c r := h.keep fun _ _ z => x.tup z
theorem tup_over {H : Hp} {l : Addr} {xs ys : List V} (h : H l = some (.lst xs)) : ∀ b zs, H b = some (.tup zs) → upd H l (.lst ys) b = some (.tup zs) := fun b zs z => upd_k z (ne_of z h (by simp))
def lstLen (H : Hp) (l : Addr) : Nat := match H l with
  | some (.lst xs) => xs.length
  | _ => 0
theorem lstLen_of {H : Hp} {l : Addr} {xs : List V} (h : H l = some (.lst xs)) : lstLen H l = xs.length := by unfold lstLen; rw [h]
def spUnrolled (K : PySem.W.Frag) : Sp := fun vs H Q _ => ∃ (c : V) (r : List Nat), vs = [c] ∧ Ch H c r ∧ r.length ≤ 100000 ∧ ∀ l H', H l = none → Ext H H' → H' l = some (.lst (intsV r.reverse)) → Q (.ref l) H'
theorem ok_unrolled (D : Def K mg "unrolled" "unrolled" Pl.s_unrolled ["chain"]) : Cal P w K mg base CX0 1 "unrolled" ["chain"] (spUnrolled K) := by
  have sc : FnScope ["chain", "places"] ["chain"] (defScope Pl.s_unrolled) := ⟨rfl, rfl, rfl, by decide +kernel, rfl, by decide +kernel, by decide +kernel⟩
  refine D.cal fun f fd F => F.ok sc (fun vs H Q E h => ?_) (fun cdv A outer s H vs Q E hr h => ?_)
  · obtain ⟨_, _, rfl, _⟩ := h
    rfl
  · obtain ⟨c, r, rfl, hc, hrl, k⟩ := h
    refine ⟨_, pss_cons (ps_set (i := 1) sc.nd rfl (Or.inl rfl) (pe_lst pa_nil))
      (pss_cons (ps_while PassesOwn.never (pt_cmp (pc_notN (pv 0)))
        (pss_cons (ps_expr (pe_bm PySem.F.plainAttrs_list PySem.F.slot_list_append PySem.F.type_list_append mt_append (pv 1) (pa_cons (pe_ix (r := rIxT K) ix_tup (pv 0) pe_int (fun _ _ => rfl)) pa_nil)))
        (pss_one (ps_set (i := 0) sc.nd rfl (Or.inl rfl) (pe_ix (r := rIxT K) ix_tup (pv 0) pe_int (fun _ _ => rfl))))))
      (pss_cons (ps_expr (pe_bm0 PySem.F.plainAttrs_list PySem.F.slot_list_reverse PySem.F.type_list_reverse mt_reverse (pv 1)))
      (pss_one (ps_ret (pv 1))))), ?_⟩
    refine ⟨by show 0 ≤ sizeLine; exact Nat.zero_le _, fun l hl => ?_⟩
    refine while_by (fun σ H2 => ∃ (c : V) (done left : List Nat), σ = [some c, some (.ref l)] ∧ Ext H H2 ∧ H2 l = some (.lst (intsV done)) ∧ Ch H2 c left ∧ r = done ++ left) (fun _ H2 => r.length - lstLen H2 l) ?_ ?_ ?_
    · exact ⟨c, [], r, rfl, Ext.new hl, upd_same, hc.ext (Ext.new hl), rfl⟩
    · rintro σ H2 ⟨c, done, left, rfl, x, hl2, hc2, rfl⟩
      cases left with
      | nil =>
        cases (show c = .non from hc2)
        refine ⟨_, rfl, _, rfl, iteF' (by decide) ?_⟩
        refine ⟨_, rfl, .inl ⟨rfl, _, SqL.of hl2⟩, l, _, rfl, rfl, hl2, _, rfl, k l _ hl (x.over hl) ?_⟩
        rw [upd_same, List.append_nil, intsV, intsV, List.map_reverse]
      | cons p left =>
        obtain ⟨b, c', rfl, hb, hc3⟩ := hc2
        refine ⟨_, rfl, _, rfl, iteT' (by simp) ?_⟩
        have ne : b ≠ l := ne_of hb hl2 (by simp)
        have hdl : done.length < 100000 := by simp at hrl; omega
        refine ⟨_, rfl, .inl ⟨rfl, _, SqL.of hl2⟩, _, rfl, b, _, 0, .int (p : Int), rfl, rfl, SqT.of hb, rfl, l, _, _, rfl, rfl, hl2, by rw [List.length_map]; exact small1000000 (by omega), ?_⟩
        have hb2 : upd H2 l (.lst (intsV done ++ [.int (p : Int)])) b = some (.tup [.int (p : Int), c']) := upd_k hb ne
        have x2 : Ext H (upd H2 l (.lst (intsV done ++ [.int (p : Int)]))) := x.over hl
        refine ⟨_, rfl, b, _, 1, c', rfl, rfl, SqT.of hb2, rfl, ⟨c', done ++ [p], left, rfl, x2, ?_, hc3.keep (tup_over hl2), by simp⟩, ?_⟩
        · rw [upd_same, intsV, intsV, List.map_append]
          rfl
        · rw [lstLen_of hl2, lstLen_of (upd_same (H := H2) (a := l)), List.length_append, List.length_append, List.length_map]
          simp only [List.length_cons, List.length_nil]
          omega
    · rintro σ H' Q1 Q2 hQ ⟨v, e1, c, e2, q⟩
      exact ⟨v, e1, c, e2, hQ _ _ q⟩
end
end L2


set_option Elab.async false
set_option linter.all false
set_option maxRecDepth 100000
set_option maxHeartbeats 2000000
namespace L2
open PySem PySem.Spec PyProof.Rows Tw
seal PSs PS PE PT PW PA PG PGs PI PC
theorem no_list (K : PySem.W.Frag) : PySem.W.kitOne K (.type "int") (.type "list") = some false := by kernel_rfl
theorem yes_list (K : PySem.W.Frag) : PySem.W.kitOne K (.type "list") (.type "list") = some true := by kernel_rfl
section
variable {P : Program} {w : World} {K : PySem.W.Frag} {mg : Str → Option Value} {base : Heap}
def spCopied (K : PySem.W.Frag) : Sp := fun vs H Q _ => ∃ (a : Addr) (r : List Nat), vs = [.ref a] ∧ H a = some (.lst (intsV r)) ∧ r.length ≤ 100000 ∧ ∀ l H', H l = none → Ext H H' → H' l = some (.lst (intsV r)) → Q (.ref l) H'
theorem ok_copied (D : Def K mg "copied" "copied" Pl.s_copied ["value"]) (B : Bare mg) : Cal P w K mg base CX0 1 "copied" ["value"] (spCopied K) := by
  have sc : FnScope ["value", "told", "waiting", "members", "place"] ["value"] (defScope Pl.s_copied) := ⟨rfl, rfl, rfl, by decide +kernel, rfl, by decide +kernel, by decide +kernel⟩
  refine D.cal fun f fd F => F.ok sc (fun vs H Q E h => ?_) (fun cdv A outer s H vs Q E hr h => ?_)
  · obtain ⟨_, _, rfl, _⟩ := h
    rfl
  · obtain ⟨a, r, rfl, ha, hrl, k⟩ := h
    refine ⟨_, pss_cons (ps_if (pt_not (pt_val (pe_isi_list B (pv 0)))) (pss_one (ps_ret (pv 0))) pss_nil)
      (pss_cons (ps_set (i := 1) sc.nd rfl (Or.inl rfl) (pe_callTy call_list_of (by rfl) B.list boot_list (pa_cons (pv 0) pa_nil)))
      (pss_cons (ps_set (i := 2) sc.nd rfl (Or.inl rfl) (pe_lst (pa_cons (pv 1) pa_nil)))
      (pss_cons (ps_while PassesOwn.never (pt_truth (pv 2) (fun _ => rfl))
        (pss_cons (ps_set (i := 3) sc.nd rfl (Or.inl rfl) (pe_bm0 PySem.F.plainAttrs_list PySem.F.slot_list_pop PySem.F.type_list_pop mt_pop (pv 2)))
        (pss_one (ps_for PassesOwn.never rfl (pi_range1 (by rfl) B.range (pa_cons (pe_callB call_len_seq (by rfl) B.len PySem.boot_len (pa_cons (pv 3) pa_nil)) pa_nil)) (pg_name (i := 4) sc.nd rfl (Or.inl rfl))
          (pss_one (ps_if (pt_val (pe_isi_list B (pe_ix (r := rIxL K) ix_list (pv 3) (pv 4) (fun _ _ => rfl)))) pss_never pss_nil))))))
      (pss_one (ps_ret (pv 1)))))), ?_⟩
    refine ⟨_, rfl, _, _, _, _, rfl, trivial, .lst ha, yes_list K, _, rfl, iteF' (by decide) ?_⟩
    refine ⟨_, rfl, a, _, rfl, .inl (SqL.of ha), fun l hl => ?_⟩
    have x1 : Ext H (upd H l (.lst (intsV r))) := Ext.new hl
    refine ⟨_, rfl, by show 1 ≤ sizeLine; decide, fun q hq => ?_⟩
    have nql : l ≠ q := ne_of_none upd_same hq
    dsimp only [gName, tSeq]
    refine while_by (fun σ H2 => ∃ (ws : List V) (mb pl : Option V), σ = [some (.ref a), some (.ref l), some (.ref q), mb, pl] ∧ Ext H H2 ∧ H2 l = some (.lst (intsV r)) ∧ H2 q = some (.lst ws) ∧ (ws = [.ref l] ∨ ws = [])) (fun _ H2 => lstLen H2 q) ?_ ?_ ?_
    · exact ⟨[.ref l], none, none, rfl, x1.newer hq, upd_keep upd_same hq, upd_same, .inl rfl⟩
    · rintro σ H2 ⟨ws, mb, pl, rfl, x2, hl2, hq2, rfl | rfl⟩
      · refine ⟨_, rfl, true, .inl ⟨_, SqL.of hq2, rfl⟩, iteT ?_⟩
        refine ⟨_, rfl, .inl ⟨rfl, _, SqL.of hq2⟩, q, _, .ref l, rfl, rfl, hq2, rfl, ?_⟩
        have hl3 : upd H2 q (.lst ([V.ref l].dropLast)) l = some (.lst (intsV r)) := upd_k hl2 nql
        have x3 : Ext H (upd H2 q (.lst ([V.ref l].dropLast))) := x2.over (x1.free hq)
        refine ⟨_, rfl, l, _, rfl, .inl (SqL.of hl3), _, rfl, by omega, by rw [List.length_map]; omega, ?_⟩
        have en : (((intsV r).length : Nat) : Int).toNat = r.length := by rw [List.length_map]; omega
        rw [en]
        refine for_range (fun i σ H4 => (∃ pl : Option V, σ = [some (.ref a), some (.ref l), some (.ref q), some (.ref l), pl]) ∧ H4 = upd H2 q (.lst ([V.ref l].dropLast))) ⟨⟨_, rfl⟩, rfl⟩ ?_ ?_
        · rintro i σ H4 hi ⟨⟨pl, rfl⟩, rfl⟩
          refine ⟨_, rfl, _, rfl, l, _, _, .int (r[i] : Nat), rfl, rfl, SqL.of hl3, ?_, _, _, _, _, rfl, trivial, .int _, no_list K, _, rfl, iteF ⟨⟨_, rfl⟩, rfl⟩⟩
          rw [Int.zero_add]
          exact atI_nat (by simp [hi])
        · rintro σ H4 ⟨⟨pl, rfl⟩, rfl⟩
          refine ⟨⟨[], _, _, rfl, x3, hl3, upd_same, .inr rfl⟩, ?_⟩
          rw [lstLen_of hq2, lstLen_of (upd_same (H := H2) (a := q))]
          simp
      · refine ⟨_, rfl, false, .inl ⟨_, SqL.of hq2, rfl⟩, iteF ?_⟩
        exact ⟨_, rfl, k l H2 hl x2 hl2⟩
    · rintro σ H' Q1 Q2 hQ ⟨v, e1, b, e2, q⟩
      exact ⟨v, e1, b, e2, hQ _ _ q⟩
end
end L2


set_option Elab.async false
set_option linter.all false
set_option maxRecDepth 100000
set_option maxHeartbeats 2000000
namespace L2
open PySem PySem.Spec PyProof.Rows Tw
seal PSs PS PE PT PW PA PG PGs PI PC
theorem note_in {ks : List Nat} {j : Nat} (h : j ∈ ks) : valV (noteK ks) (.inl (j : Int)) = some (.bl true) := valV_of (κ := fun n : Nat => (.inl (n : Int) : Key)) (v := fun _ => V.bl true) (fun a _ b _ e => lenK_inj e) h
theorem note_out {ks : List Nat} {j : Nat} (h : j ∉ ks) : valV (noteK ks) (.inl (j : Int)) = none := valV_no (κ := fun n : Nat => (.inl (n : Int) : Key)) fun a ha e => h (lenK_inj (b := j) e ▸ ha)
def Closed (ws : List W) (t : W) (ks : List Nat) : Prop := ∀ m ∈ ks, ∀ n ∈ standL ws t m, m + n ∈ ks
instance (ws : List W) (t : W) (ks : List Nat) : Decidable (Closed ws t ks) := by unfold Closed; infer_instance
section
variable {P : Program} {w : World} {K : PySem.W.Frag} {mg : Str → Option Value} {base : Heap}
def spClosed (K : PySem.W.Frag) : Sp := fun vs H Q _ => ∃ (a : Addr) (ws : List W) (t : W) (d : Addr) (ks : List Nat), vs = [.ref a, sv t, .ref d] ∧ CodeL H a ws ∧ t.length ≤ 100000 ∧ H d = some (.dK (noteK ks)) ∧ (∀ m ∈ ks, m ≤ t.length) ∧ ∀ H', Ext H H' → Q (.bl (decide (Closed ws t ks))) H'
theorem ok_closed (D : Def K mg "marks_closed" "marks_closed" Pl.s_marks_closed ["code", "text", "known"]) (CG : Cal P w K mg base CX0 1 "grouped" ["words"] (spGrouped K)) (CB : Cal P w K mg base CX0 2 "marks_behind" ["groups", "text", "mark"] (spBehind K)) :
    Cal P w K mg base CX0 3 "marks_closed" ["code", "text", "known"] (spClosed K) := by
  have sc : FnScope ["code", "text", "known", "groups", "mark", "behind"] ["code", "text", "known"] (defScope Pl.s_marks_closed) := ⟨rfl, rfl, rfl, by decide +kernel, rfl, by decide +kernel, by decide +kernel⟩
  refine D.cal fun f fd F => F.ok sc (fun vs H Q E h => ?_) (fun cdv A outer s H vs Q E hr h => ?_)
  · obtain ⟨_, _, _, _, _, rfl, _⟩ := h
    rfl
  · obtain ⟨a, ws, t, d, ks, rfl, hC, htl, hd, hks, k⟩ := h
    have hu := hu_of hr
    refine ⟨_, pss_cons (ps_set (i := 3) sc.nd rfl (Or.inl rfl) (pe_callF CG (hr.mono (by decide)) (pa_cons (pv 0) pa_nil) pass0))
      (pss_cons (ps_for PassesOwn.never rfl (pi_dict (pv 2)) (pg_name (i := 4) sc.nd rfl (Or.inl rfl))
        (pss_one (ps_for PassesOwn.never rfl (pi_list (pe_callF CB hr (pa_cons (pv 3) (pa_cons (pv 1) (pa_cons (pv 4) pa_nil))) pass0)) (pg_name (i := 5) sc.nd rfl (Or.inl rfl))
          (pss_one (ps_if (pt_cmp (pc_dnotin hu (pv 5) (pv 2))) (pss_one (ps_ret pe_bl)) pss_nil)))))
      (pss_one (ps_ret pe_bl))), ?_⟩
    refine ⟨_, rfl, a, ws, rfl, hC.code, fun g dd ff H1 hg x1 G => ?_⟩
    have hd1 : Rd H1 d (.dK (noteK ks)) := x1.rdK (.inl hd)
    refine ⟨_, rfl, d, _, rfl, hd1, fun o H2 x2 hd2 ne2 => ?_⟩
    refine for_dict (fun i σ H3 => (∃ mk bh : Option V, σ = [some (.ref a), some (sv t), some (.ref d), some (.ref g), mk, bh]) ∧ Ext H1 H3 ∧ H3 d = some (.frz o (.dK (noteK ks))) ∧ ∀ m ∈ ks.take i, ∀ n ∈ standL ws t m, m + n ∈ ks) ⟨⟨none, none, rfl⟩, x2, hd2, fun m hm => by simp at hm⟩ (fun i σ H3 _ h => h.2.2.1) ?_ ?_
    · rintro i p σ H3 hp ⟨⟨mk, bh, rfl⟩, x3, hd3, hok⟩
      obtain ⟨m, hm, rfl⟩ := kget (κ := fun n : Nat => (.inl (n : Int) : Key)) (v := fun _ => V.bl true) hp
      have hmk : m ∈ ks := List.mem_of_getElem? hm
      refine ⟨_, rfl, _, rfl, _, rfl, g, ws, dd, ff, t, m, rfl, x3.gr G.rd, hC.few, by omega, hks m hmk, fun D H4 hD x4 hD4 => ⟨D, rfl, ⟨_, SqL.of hD4⟩, ?_⟩⟩
      have hd4 : H4 d = some (.frz o (.dK (noteK ks))) := x4.keep hd3 (by simp)
      refine for_list (K := K) (a := D) (xs := intsV ((standL ws t m).map fun n => m + n)) (fun j σ H5 => (∃ bh : Option V, σ = [some (.ref a), some (sv t), some (.ref d), some (.ref g), some (.int (m : Int)), bh]) ∧ H5 = H4 ∧ ∀ n ∈ (standL ws t m).take j, m + n ∈ ks) ⟨⟨_, rfl⟩, rfl, fun n hn => by simp at hn⟩ (fun j σ H5 _ h => by rw [h.2.1]; exact SqL.of hD4) ?_ ?_
      · rintro j v σ H5 hv ⟨⟨bh, rfl⟩, rfl, hin⟩
        rw [intsV, List.map_map, List.getElem?_map] at hv
        obtain ⟨n, hn, rfl⟩ := Option.map_eq_some_iff.mp hv
        refine ⟨_, rfl, _, rfl, d, _, rfl, .inl ⟨_, (.inl ((m + n : Nat) : Int) : Key), .inr ⟨o, hd4⟩, rfl, rfl⟩, _, rfl, ?_⟩
        by_cases q : m + n ∈ ks
        · rw [note_in q]
          refine iteF ⟨⟨_, rfl⟩, rfl, fun y hy => ?_⟩
          rw [take_snoc hn] at hy
          rcases List.mem_append.mp hy with z | z
          · exact hin y z
          · rw [List.mem_singleton.mp z]; exact q
        · rw [note_out q]
          refine iteT ?_
          have no : ¬ Closed ws t ks := fun c => q (c m hmk n (List.mem_of_getElem? hn))
          have := k _ ((x1.trans x3).trans x4)
          rw [decide_eq_false no] at this
          exact this
      · rintro σ H5 ⟨⟨bh, rfl⟩, rfl, hin⟩
        refine ⟨⟨_, _, rfl⟩, x3.trans x4, hd4, fun y hy => ?_⟩
        rw [take_snoc hm] at hy
        rcases List.mem_append.mp hy with z | z
        · exact hok y z
        · rw [List.mem_singleton.mp z]
          intro n hn
          exact hin n (by rw [intsV, List.length_map, List.length_map, List.take_length]; exact hn)
    · rintro σ H3 ⟨⟨mk, bh, rfl⟩, x3, hd3, hok⟩
      have yes : Closed ws t ks := fun m hm => hok m (by rw [List.length_map, List.take_length]; exact hm)
      have := k H3 (x1.trans x3)
      rw [decide_eq_true yes] at this
      exact this
end
end L2


set_option Elab.async false
set_option linter.all false
set_option maxRecDepth 100000
set_option maxHeartbeats 2000000
namespace L2
open PySem PySem.Spec PyProof.Rows Tw
seal PSs PS PE PT PW PA PG PGs PI PC
theorem nodup_le {α : Type} [DecidableEq α] : ∀ {l m : List α}, l.Nodup → (∀ x ∈ l, x ∈ m) → l.length ≤ m.length
  | [], _, _, _ => Nat.zero_le _
  | x :: l, m, h, hs => by
    have hx : x ∈ m := hs x List.mem_cons_self
    obtain ⟨h1, h2⟩ := List.nodup_cons.mp h
    have := nodup_le (l := l) (m := m.erase x) h2 fun y hy => by
      have hne : y ≠ x := fun e => h1 (e ▸ hy)
      exact (List.mem_erase_of_ne hne).mpr (hs y (List.mem_cons_of_mem _ hy))
    rw [List.length_erase_of_mem hx] at this
    have : 0 < m.length := List.length_pos_of_mem hx
    simp only [List.length_cons]
    omega
/-- what has been reached: the marks, and a chain of places for each -/
structure Reach (H : Hp) (ws : List W) (t : W) (kvs : List (Key × V)) (ks : List Nat) : Prop where
  keys : kvs.map (·.1) = ks.map fun (n : Nat) => (.inl (n : Int) : Key)
  nd : ks.Nodup
  zero : 0 ∈ ks
  ch : ∀ m ∈ ks, m ≤ t.length ∧ ∃ v r, valV kvs (.inl (m : Int)) = some v ∧ Ch H v r ∧ r.length ≤ m ∧ (∀ i ∈ r, i < ws.length) ∧ textOf ws r.reverse = t.take m
section
variable {H H' : Hp} {ws : List W} {t : W} {kvs : List (Key × V)} {ks : List Nat}
theorem Reach.out (R : Reach H ws t kvs ks) {m : Nat} (h : m ∉ ks) : valV kvs (.inl (m : Int)) = none := by
  cases e : valV kvs (.inl (m : Int)) with
  | none => rfl
  | some v =>
    have := valV_in e
    rw [R.keys] at this
    obtain ⟨n, hn, q⟩ := List.mem_map.mp this
    exact absurd (lenK_inj (a := n) (b := m) q ▸ hn) h
theorem Reach.keep (R : Reach H ws t kvs ks) (k : ∀ b xs, H b = some (.tup xs) → H' b = some (.tup xs)) : Reach H' ws t kvs ks :=
  ⟨R.keys, R.nd, R.zero, fun m hm => let ⟨h1, v, r, h2, h3, h4⟩ := R.ch m hm; ⟨h1, v, r, h2, h3.keep k, h4⟩⟩
theorem Reach.few (R : Reach H ws t kvs ks) : kvs.length ≤ t.length + 1 := by
  have e : kvs.length = ks.length := by have := congrArg List.length R.keys; simpa using this
  rw [e, ← List.length_range (n := t.length + 1)]
  exact nodup_le R.nd fun m hm => List.mem_range.mpr (Nat.lt_succ_of_le (R.ch m hm).1)
theorem Reach.more (R : Reach H ws t kvs ks) (hf : Full ws) {m n i : Nat} {a : Addr} {v : V} (hm : m ∈ ks) (hn : n ∈ standL ws t m) (new : m + n ∉ ks) (hv : valV kvs (.inl (m : Int)) = some v) (hi : i ∈ placesOf ws (cut t m n)) (ha : H a = some (.tup [.int (i : Int), v])) :
    Reach H ws t (putK kvs (.inl ((m + n : Nat) : Int)) (.ref a)) (ks ++ [m + n]) := by
  obtain ⟨hmt, v', r, hv', hc, hrl, hri, htx⟩ := R.ch m hm
  rw [hv] at hv'
  cases hv'
  have wi : ws[i]? = some (cut t m n) := (mem_placesOf ws _ i).mp hi
  have il : i < ws.length := (List.getElem?_eq_some_iff.mp wi).1
  obtain ⟨n0, nt⟩ := standL_pos hf hmt hn
  have no := R.out new
  refine ⟨?_, ?_, List.mem_append_left _ R.zero, fun q hq => ?_⟩
  · rw [putK_new _ no, List.map_append, R.keys, List.map_append]
    rfl
  · refine List.nodup_append.mpr ⟨R.nd, by simp, fun x hx y hy e => new ?_⟩
    rw [← List.mem_singleton.mp hy, ← e]
    exact hx
  · rw [valV_put]
    rcases List.mem_append.mp hq with hq | hq
    · obtain ⟨h1, u, s, h2, h3⟩ := R.ch q hq
      refine ⟨h1, u, s, ?_, h3⟩
      rw [if_neg (fun z => new (by have := lenK_inj (a := q) (b := m + n) z; exact this ▸ hq))]
      exact h2
    · have e := List.mem_singleton.mp hq
      subst e
      refine ⟨nt, .ref a, i :: r, by rw [if_pos rfl], ⟨a, v, rfl, ha, hc⟩, by simp only [List.length_cons]; omega, fun j hj => ?_, ?_⟩
      · rcases List.mem_cons.mp hj with z | z
        · rw [z]; exact il
        · exact hri j z
      · rw [List.reverse_cons, textOf_append, htx, textOf_cons, textOf_nil, List.append_nil, List.getD_eq_getElem?_getD, wi, Option.getD_some, cut, List.take_add]
end
section
variable {P : Program} {w : World} {K : PySem.W.Frag} {mg : Str → Option Value} {base : Heap}
def spChains (K : PySem.W.Frag) : Sp := fun vs H Q _ => ∃ (g : Addr) (ws : List W) (d : Nat → Addr) (f : W → Addr) (t : W), vs = [.ref g, sv t] ∧ GR H g ws d f ∧ Full ws ∧ ws.length ≤ 10000 ∧ t.length ≤ 100000 ∧
  ∀ p kvs ks H', H p = none → Ext H H' → H' p = some (.dK kvs) → Reach H' ws t kvs ks → Closed ws t ks → Q (.ref p) H'
theorem ok_chains (D : Def K mg "chains_to_marks" "chains_to_marks" Pl.s_chains_to_marks ["groups", "text"]) (B : Bare mg) (C1 : Cal P w K mg base CX0 1 "standing" ["groups", "text", "mark"] (spStanding K)) :
    Cal P w K mg base CX0 2 "chains_to_marks" ["groups", "text"] (spChains K) := by
  have sc : FnScope ["groups", "text", "chains", "mark", "behind", "places"] ["groups", "text"] (defScope Pl.s_chains_to_marks) := ⟨rfl, rfl, rfl, by decide +kernel, rfl, by decide +kernel, by decide +kernel⟩
  refine D.cal fun f fd F => F.ok sc (fun vs H Q E h => ?_) (fun cdv A outer s H vs Q E hr h => ?_)
  · obtain ⟨_, _, _, _, _, rfl, _⟩ := h
    rfl
  · obtain ⟨g, ws, d, f, t, rfl, G, hfull, hwl, htl, k⟩ := h
    have hu := hu_of hr
    refine ⟨_, pss_cons (ps_set (i := 2) sc.nd rfl (Or.inl rfl) (pe_disp (pps_cons pe_int pe_non pps_nil) rfl rfl (by simp) (by decide)))
      (pss_cons (ps_for PassesOwn.never rfl (pi_range1 (by rfl) B.range (pa_cons (pe_callB call_len_str (by rfl) B.len PySem.boot_len (pa_cons (pv 1) pa_nil)) pa_nil)) (pg_name (i := 3) sc.nd rfl (Or.inl rfl))
        (pss_one (ps_if (pt_cmp (pc_din hu (pv 3) (pv 2)))
          (pss_one (ps_for PassesOwn.never rfl (pi_list (pe_callF C1 hr (pa_cons (pv 0) (pa_cons (pv 1) (pa_cons (pv 3) pa_nil))) pass0))
            (pg_tupK (K := K) (n := 2) rfl rfl (pgs_cons (pg_name (i := 4) sc.nd rfl (Or.inl rfl)) (pgs_cons (pg_name (i := 5) sc.nd rfl (Or.inl rfl)) pgs_nil)))
            (pss_one (ps_if (pt_cmp (pc_dnotin hu (pv 4) (pv 2)))
              (pss_one (ps_dput hu (pv 2) (pv 4) (pe_tup (pa_cons (pe_ix (r := rIxL K) ix_list (pv 5) pe_int (fun _ _ => rfl)) (pa_cons (pe_dget hu (pv 2) (pv 3) (fun _ _ => rfl)) pa_nil))) rfl)) pss_nil)))) pss_nil)))
      (pss_one (ps_ret (pv 2)))), ?_⟩
    have hsz : (st t).length ≤ sizeLine := by rw [st_len]; exact small_line (by omega)
    intro p hp
    have hpg : p ≠ g := by
      rintro rfl
      rcases G.gd with z | ⟨_, z⟩ <;> rw [hp] at z <;> cases z
    refine ⟨upd_same, [((.inl 0 : Key), .non)], rfl, by show 1 ≤ 15; decide, ?_⟩
    refine ⟨_, rfl, st t, rfl, hsz, _, rfl, by omega, by rw [st_len]; omega, ?_⟩
    have en : ((st t).length : Int).toNat = t.length := by rw [st_len]; omega
    rw [en]
    refine for_range (fun i σ H2 => ∃ (kvs : List (Key × V)) (ks : List Nat) (mk bh pl : Option V), σ = [some (.ref g), some (sv t), some (.ref p), mk, bh, pl] ∧ Ext H H2 ∧ H2 p = some (.dK kvs) ∧ Reach H2 ws t kvs ks ∧ ∀ m ∈ ks, m < i → ∀ n ∈ standL ws t m, m + n ∈ ks) ?_ ?_ ?_
    · refine ⟨_, [0], none, none, none, rfl, (Ext.new hp).over hp, upd_same, ⟨rfl, by simp, by simp, fun m hm => ?_⟩, fun m hm h => absurd h (Nat.not_lt_zero _)⟩
      cases List.mem_singleton.mp hm
      exact ⟨Nat.zero_le _, .non, [], valV_pos rfl, rfl, Nat.zero_le _, (fun i hi => nomatch hi), rfl⟩
    · rintro m σ H2 hm ⟨kvs, ks, mk, bh, pl, rfl, x2, hp2, R, cl⟩
      rw [Int.zero_add]
      refine ⟨_, rfl, _, rfl, p, _, rfl, DGet.k (k := .inl (m : Int)) hp2, _, rfl, ?_⟩
      by_cases hin : m ∈ ks
      · obtain ⟨hmt, v, r, hv, hch⟩ := R.ch m hin
        rw [hv]
        refine iteT ?_
        refine ⟨_, rfl, _, rfl, _, rfl, g, ws, d, f, t, m, rfl, x2.gr G, hwl, by omega, by omega, fun D H3 ys hD x3 kb hys hpr => ⟨D, rfl, ⟨_, SqL.of hys⟩, ?_⟩⟩
        have hp3 := kb p _ hpg hp2
        have hpD : D ≠ p := (ne_of_none hp2 hD).symm
        refine for_list (K := K) (a := D) (xs := ys) (fun j σ H4 => ∃ (kvs : List (Key × V)) (ks : List Nat) (bh pl : Option V), σ = [some (.ref g), some (sv t), some (.ref p), some (.int (m : Int)), bh, pl] ∧ Ext H H4 ∧ (∀ b o, b ≠ p → H3 b = some o → H4 b = some o) ∧ H4 p = some (.dK kvs) ∧
          Reach H4 ws t kvs ks ∧ m ∈ ks ∧ (∀ q ∈ ks, q < m → ∀ n ∈ standL ws t q, q + n ∈ ks) ∧ ∀ n ∈ (standL ws t m).take j, m + n ∈ ks)
          ⟨kvs, ks, _, _, rfl, x2.trans x3, fun _ _ _ z => z, hp3, R.keep (fun b xs z => x3.tup z), hin, cl, fun n hn => by simp at hn⟩
          (fun j σ H4 _ h => let ⟨_, _, _, _, _, _, h3, _⟩ := h; SqL.of (h3 D _ hpD hys)) ?_ ?_
        · rintro j y σ H4 hy ⟨kvs, ks, bh, pl, rfl, x4, k4, hp4, R4, hin4, cl4, now⟩
          obtain ⟨n, hn, tt, rfl, ht⟩ := paired_get hpr hy
          have hmem : n ∈ standL ws t m := List.mem_of_getElem? hn
          have hcw : cut t m n ∈ ws := ((mem_standL ws t m n hmt).mp hmem).1
          have ht4 : H4 tt = some (.tup [.int ((m : Int) + (n : Int)), .ref (f (cut t m n))]) := k4 tt _ (ne_of ht hp3 (by simp)) ht
          have hl4 : H4 (f (cut t m n)) = some (.lst (intsV (placesOf ws (cut t m n)))) := x4.lst (G.lst _ hcw)
          refine ⟨tt, _, rfl, SqT.of ht4, rfl, _, _, rfl, _, _, rfl, rfl, ?_⟩
          have hnow : ∀ {ks' : List Nat}, (∀ q ∈ ks, q ∈ ks') → m + n ∈ ks' → ∀ q ∈ (standL ws t m).take (j + 1), m + q ∈ ks' := fun sub has q hq => by
            rw [take_snoc hn] at hq
            rcases List.mem_append.mp hq with z | z
            · exact sub _ (now q z)
            · rw [List.mem_singleton.mp z]; exact has
          refine ⟨_, rfl, _, rfl, p, _, rfl, .inl ⟨kvs, (.inl ((m + n : Nat) : Int) : Key), .inl hp4, by simp [kV], rfl⟩, _, rfl, ?_⟩
          by_cases q : m + n ∈ ks
          · obtain ⟨_, u, _, hu', _⟩ := R4.ch _ q
            rw [hu']
            exact iteF ⟨kvs, ks, _, _, rfl, x4, k4, hp4, R4, hin4, cl4, hnow (fun _ z => z) q⟩
          · rw [R4.out q]
            refine iteT ?_
            obtain ⟨i0, hi0⟩ := List.mem_iff_getElem?.mp hcw
            have hne : i0 ∈ placesOf ws (cut t m n) := (mem_placesOf ws _ i0).mpr hi0
            obtain ⟨i, rest, ei⟩ : ∃ i rest, placesOf ws (cut t m n) = i :: rest := by
              cases e : placesOf ws (cut t m n) with
              | nil => rw [e] at hne; cases hne
              | cons i rest => exact ⟨i, rest, rfl⟩
            have hi : i ∈ placesOf ws (cut t m n) := by rw [ei]; exact List.mem_cons_self
            obtain ⟨_, v4, r4, hv4, _⟩ := R4.ch m hin4
            rw [ei] at hl4
            refine ⟨_, rfl, _, _, 0, .int (i : Int), rfl, rfl, SqL.of hl4, atI_nat (j := 0) rfl, _, rfl, _, rfl, p, v4, rfl, .inl ⟨kvs, (.inl (m : Int) : Key), .inl hp4, rfl, hv4.symm⟩, by show 2 ≤ sizeLine; decide, fun a ha => ?_⟩
            have hp5 := upd_keep (u := .tup [.int (i : Int), v4]) hp4 ha
            have few := R4.few
            refine ⟨_, rfl, _, rfl, p, _, rfl, .inl ⟨kvs, (.inl ((m + n : Nat) : Int) : Key), hp5, by simp [kV], Nat.lt_of_le_of_lt few (small1000000 (by omega)), rfl⟩, ?_⟩
            have hap : a ≠ p := (ne_of_none hp4 ha).symm
            have R5 : Reach (upd H4 a (.tup [.int (i : Int), v4])) ws t kvs ks := R4.keep fun b xs z => upd_keep z ha
            have R6 := R5.more hfull hin4 hmem q hv4 hi upd_same
            refine ⟨_, ks ++ [m + n], _, _, rfl, (x4.newer ha).over hp, fun b o nb z => ?_, upd_same, R6.keep (fun b xs z => upd_k z (ne_of z hp5 (by simp))), List.mem_append_left _ hin4, fun q' hq' hlt => ?_, hnow (fun _ z => List.mem_append_left _ z) (List.mem_append_right _ (by simp))⟩
            · rw [upd_ne nb]
              exact upd_keep (k4 b o nb z) ha
            · rcases List.mem_append.mp hq' with z | z
              · exact fun y hy => List.mem_append_left _ (cl4 q' z hlt y hy)
              · have := List.mem_singleton.mp z
                have := standL_pos hfull hmt hmem
                omega
        · rintro σ H4 ⟨kvs, ks, bh, pl, rfl, x4, k4, hp4, R4, hin4, cl4, now⟩
          refine ⟨kvs, ks, _, _, _, rfl, x4, hp4, R4, fun q hq hlt => ?_⟩
          by_cases e : q = m
          · subst e
            intro n hn
            exact now n (by rw [← hpr.length, List.take_length]; exact hn)
          · exact cl4 q hq (by omega)
      · rw [R.out hin]
        refine iteF ⟨kvs, ks, _, _, _, rfl, x2, hp2, R, fun q hq hlt => cl q hq ?_⟩
        have : q ≠ m := fun e => hin (e ▸ hq)
        omega
    · rintro σ H2 ⟨kvs, ks, mk, bh, pl, rfl, x2, hp2, R, cl⟩
      refine ⟨_, rfl, k p kvs ks H2 hp x2 hp2 R fun m hm => ?_⟩
      by_cases e : m < t.length
      · exact cl m hm e
      · intro n hn
        have := (R.ch m hm).1
        have := standL_pos hfull this hn
        omega
end
end L2


set_option Elab.async false
set_option linter.all false
set_option maxRecDepth 100000
set_option maxHeartbeats 2000000
namespace L2
open PySem PySem.Spec PyProof.Rows Tw
seal PSs PS PE PT PW PA PG PGs PI PC
/-! ### the answers: a reading, or stuck -/
/-- a reading of the text -/
def Reads (ws : List W) (t : W) (r : List Nat) : Prop := (∀ i ∈ r, i < ws.length) ∧ textOf ws r = t
instance (ws : List W) (t : W) (r : List Nat) : Decidable (Reads ws t r) := by unfold Reads; infer_instance
/-- marks that show there is none -/
def Stk (ws : List W) (t : W) (r : List Nat) : Prop := (∀ m ∈ r, m ≤ t.length) ∧ 0 ∈ r ∧ t.length ∉ r ∧ Closed ws t r
instance (ws : List W) (t : W) (r : List Nat) : Decidable (Stk ws t r) := by unfold Stk; infer_instance
theorem closed_same {ws : List W} {t : W} {ks r : List Nat} (h : ∀ n, n ∈ ks ↔ n ∈ r) : Closed ws t ks ↔ Closed ws t r :=
  ⟨fun c m hm n hn => (h _).mp (c m ((h m).mpr hm) n hn), fun c m hm n hn => (h _).mpr (c m ((h m).mp hm) n hn)⟩
theorem places_all {n : Nat} {r : List Nat} : (intsV r).all (isPlaceV (n : Int)) = decide (∀ i ∈ r, i < n) := by
  rw [Bool.eq_iff_iff, List.all_eq_true, decide_eq_true_iff]
  constructor
  · intro h i hi
    have := h (.int (i : Int)) (List.mem_map.mpr ⟨i, hi, rfl⟩)
    simp only [isPlaceV, Bool.and_eq_true, decide_eq_true_iff] at this
    omega
  · intro h v hv
    obtain ⟨i, hi, rfl⟩ := List.mem_map.mp hv
    have := h i hi
    simp only [isPlaceV, Bool.and_eq_true, decide_eq_true_iff]
    omega
section
variable {P : Program} {w : World} {K : PySem.W.Frag} {mg : Str → Option Value} {base : Heap}
def spInit (C : Addr) (fld : Str) : Sp := fun vs H Q _ => ∃ (o p dx : Addr) (r : List Nat), vs = [.ref o, .ref p] ∧ H o = some (.ins C dx []) ∧ H p = some (.lst (intsV r)) ∧ r.length ≤ 100000 ∧
  ∀ l H1, H l = none → Ext H H1 → H1 l = some (.lst (intsV r)) → Q .non (upd H1 o (.ins C dx [(fld, .ref l)]))
theorem ok_initReading {C f : Addr} {fd : FuncData} (F : Fun K "__init__" "Reading.__init__" Pl.c_Reading_init f fd) (cl : Cls K C) (na : NoAttr K C "places") (CC : Cal P w K mg base CX0 1 "copied" ["value"] (spCopied K)) :
    FnOk P w K mg base CX0 2 f fd ["self", "places"] (spInit C "places") := by
  have sc : FnScope ["self", "places"] ["self", "places"] (defScope Pl.c_Reading_init) := ⟨rfl, rfl, rfl, by decide +kernel, rfl, by decide +kernel, by decide +kernel⟩
  refine F.ok sc (fun vs H Q E h => ?_) (fun cdv A outer s H vs Q E hr h => ?_)
  · obtain ⟨_, _, _, _, rfl, _⟩ := h
    rfl
  · obtain ⟨o, p, dx, r, rfl, ho, hp, hrl, k⟩ := h
    refine ⟨_, pss_one (ps_fld (pv 0) (pe_callF CC hr (pa_cons (pv 1) pa_nil) pass0) rfl), ?_⟩
    refine ⟨_, rfl, p, r, rfl, hp, hrl, fun l H1 hl x1 hl1 => ⟨_, rfl, o, C, dx, [], rfl, x1.ins ho, cl, na, by decide, k l H1 hl x1 hl1⟩⟩
theorem ok_initStuck {C f : Addr} {fd : FuncData} (F : Fun K "__init__" "Stuck.__init__" Pl.c_Stuck_init f fd) (cl : Cls K C) (na : NoAttr K C "marks") (CC : Cal P w K mg base CX0 1 "copied" ["value"] (spCopied K)) :
    FnOk P w K mg base CX0 2 f fd ["self", "marks"] (spInit C "marks") := by
  have sc : FnScope ["self", "marks"] ["self", "marks"] (defScope Pl.c_Stuck_init) := ⟨rfl, rfl, rfl, by decide +kernel, rfl, by decide +kernel, by decide +kernel⟩
  refine F.ok sc (fun vs H Q E h => ?_) (fun cdv A outer s H vs Q E hr h => ?_)
  · obtain ⟨_, _, _, _, rfl, _⟩ := h
    rfl
  · obtain ⟨o, p, dx, r, rfl, ho, hp, hrl, k⟩ := h
    refine ⟨_, pss_one (ps_fld (pv 0) (pe_callF CC hr (pa_cons (pv 1) pa_nil) pass0) rfl), ?_⟩
    refine ⟨_, rfl, p, r, rfl, hp, hrl, fun l H1 hl x1 hl1 => ⟨_, rfl, o, C, dx, [], rfl, x1.ins ho, cl, na, by decide, k l H1 hl x1 hl1⟩⟩
def spShowsR (C : Addr) : Sp := fun vs H Q _ => ∃ (o a p dx : Addr) (ws : List W) (t : W) (r : List Nat), vs = [.ref o, .ref a, sv t] ∧ H o = some (.ins C dx [("places", .ref p)]) ∧ IntsL H p r ∧ CodeL H a ws ∧
  ((∀ i ∈ r, i < ws.length) → (textOf ws r).length ≤ 1000000) ∧ ∀ H', Ext H H' → Q (.bl (decide (Reads ws t r))) H'
theorem ok_showsR {C f : Addr} {fd : FuncData} (F : Fun K "shows" "Reading.shows" Pl.c_Reading_shows f fd) (B : Bare mg) (cl : Cls K C) (na : NoAttr K C "places") (C1 : Cal P w K mg base CX0 3 "is_code" ["value"] (spIsCode K))
    (C2 : Cal P w K mg base CX0 3 "are_places" ["values", "count"] (spArePlaces K)) (C3 : Cal P w K mg base CX0 2 "joined" ["code", "places"] (spJoined K)) : FnOk P w K mg base CX0 4 f fd ["self", "code", "text"] (spShowsR C) := by
  have sc : FnScope ["self", "code", "text"] ["self", "code", "text"] (defScope Pl.c_Reading_shows) := ⟨rfl, rfl, rfl, by decide +kernel, rfl, by decide +kernel, by decide +kernel⟩
  refine F.ok sc (fun vs H Q E h => ?_) (fun cdv A outer s H vs Q E hr h => ?_)
  · obtain ⟨_, _, _, _, _, _, _, rfl, _⟩ := h
    rfl
  · obtain ⟨o, a, p, dx, ws, t, r, rfl, ho, hP, hC, hlen, k⟩ := h
    refine ⟨_, pss_one (ps_ret (pe_and (pe_callF C1 hr (pa_cons (pv 1) pa_nil) pass0) (pe_and (pe_callF C2 hr (pa_cons (pe_fld (pv 0) rfl) (pa_cons (pe_callB call_len_seq (by rfl) B.len PySem.boot_len (pa_cons (pv 1) pa_nil)) pa_nil)) pass0)
      (pe_one (pe_cmpR op_eq (pe_callF C3 (hr.mono (by decide)) (pa_cons (pv 1) (pa_cons (pe_fld (pv 0) rfl) pa_nil)) pass0) (pv 2) (nomark _)))))), ?_⟩
    refine ⟨_, rfl, .ref a, rfl, hC.arg, hC.sz, fun b H1 x1 hb => ⟨_, rfl, ?_⟩⟩
    rw [hC.all hb]
    refine iteT ?_
    have hC1 := hC.ext x1
    have hP1 := hP.ext x1
    refine ⟨_, rfl, o, C, dx, _, .ref p, rfl, x1.ins ho, cl, na, rfl, _, rfl, a, _, rfl, .inl (SqL.of hC1.at_), _, _, rfl, hP1.arg, fun b2 H2 x2 hb2 => ⟨_, rfl, ?_⟩⟩
    have e2 : b2 = decide (∀ i ∈ r, i < ws.length) := by
      rw [AllSo.eq (.inl hP1.1) hb2, List.length_map]
      exact places_all
    by_cases hin : ∀ i ∈ r, i < ws.length
    · rw [e2, decide_eq_true hin]
      refine iteT ?_
      have hC2 := hC1.ext x2
      have hP2 := hP1.ext x2
      refine ⟨_, rfl, _, rfl, o, C, dx, _, .ref p, rfl, x2.ins (x1.ins ho), cl, na, rfl, a, p, ws, r, rfl, hC2.code, hP2.places, hin, ?_⟩
      refine ⟨hlen hin, fun H3 x3 => ⟨_, rfl, rfl, ?_⟩⟩
      have e : decide (sv (textOf ws r) = sv t) = decide (Reads ws t r) := by
        rw [decide_eq_decide]
        exact ⟨fun z => ⟨hin, st_inj (V.str.inj z)⟩, fun z => by rw [z.2]⟩
      have := k H3 ((x1.trans x2).trans x3)
      rw [← e] at this
      exact this
    · rw [e2, decide_eq_false hin]
      refine iteF ?_
      have := k H2 (x1.trans x2)
      rw [decide_eq_false (fun z => hin z.1)] at this
      exact this
def spShowsS (C : Addr) : Sp := fun vs H Q _ => ∃ (o a p dx : Addr) (ws : List W) (t : W) (r : List Nat), vs = [.ref o, .ref a, sv t] ∧ H o = some (.ins C dx [("marks", .ref p)]) ∧ IntsL H p r ∧ CodeL H a ws ∧ t.length ≤ 100000 ∧ ∀ H', Ext H H' → Q (.bl (decide (Stk ws t r))) H'
theorem ok_showsS {C f : Addr} {fd : FuncData} (F : Fun K "shows" "Stuck.shows" Pl.c_Stuck_shows f fd) (B : Bare mg) (cl : Cls K C) (na : NoAttr K C "marks") (C1 : Cal P w K mg base CX0 3 "is_code" ["value"] (spIsCode K))
    (C2 : Cal P w K mg base CX0 3 "are_places" ["values", "count"] (spArePlaces K)) (CN : Cal P w K mg base CX0 1 "noted" ["values"] (spNoted K)) (CL : Cal P w K mg base CX0 3 "marks_closed" ["code", "text", "known"] (spClosed K)) :
    FnOk P w K mg base CX0 4 f fd ["self", "code", "text"] (spShowsS C) := by
  have sc : FnScope ["self", "code", "text", "known"] ["self", "code", "text"] (defScope Pl.c_Stuck_shows) := ⟨rfl, rfl, rfl, by decide +kernel, rfl, by decide +kernel, by decide +kernel⟩
  refine F.ok sc (fun vs H Q E h => ?_) (fun cdv A outer s H vs Q E hr h => ?_)
  · obtain ⟨_, _, _, _, _, _, _, rfl, _⟩ := h
    rfl
  · obtain ⟨o, a, p, dx, ws, t, r, rfl, ho, hP, hC, htl, k⟩ := h
    have hu := hu_of hr
    refine ⟨_, pss_cons (ps_if (PW.pt (pw_or (pt_not (pt_val (pe_callF C1 hr (pa_cons (pv 1) pa_nil) pass0))) (pw_or1 (pt_not (pt_val (pe_isi_str B (pv 2))))))) (pss_one (ps_ret pe_bl)) pss_nil)
      (pss_cons (ps_if (pt_not (pt_val (pe_callF C2 hr (pa_cons (pe_fld (pv 0) rfl) (pa_cons (pe_op op_add (pe_callB call_len_str (by rfl) B.len PySem.boot_len (pa_cons (pv 2) pa_nil)) pe_int) pa_nil)) pass0))) (pss_one (ps_ret pe_bl)) pss_nil)
      (pss_cons (ps_set (i := 3) sc.nd rfl (Or.inl rfl) (pe_callF CN (hr.mono (by decide)) (pa_cons (pe_fld (pv 0) rfl) pa_nil) pass0))
      (pss_one (ps_ret (pe_and (pe_cmp (pc_din hu pe_int (pv 3))) (pe_and (pe_cmp (pc_dnotin hu (pe_callB call_len_str (by rfl) B.len PySem.boot_len (pa_cons (pv 2) pa_nil)) (pv 3)))
        (pe_one (pe_callF CL hr (pa_cons (pv 1) (pa_cons (pv 2) (pa_cons (pv 3) pa_nil))) pass0)))))))), ?_⟩
    have hsz : (st t).length ≤ sizeLine := by rw [st_len]; exact small_line (by omega)
    refine ⟨_, rfl, .ref a, rfl, hC.arg, hC.sz, fun b H1 x1 hb => ⟨_, rfl, ?_⟩⟩
    rw [hC.all hb]
    refine iteF ?_
    obtain ⟨ty, ty1, ty2⟩ := isi_str (K := K) (H := H1) (v := sv t) ⟨_, .str _⟩
    refine ⟨_, rfl, _, _, ty, _, rfl, trivial, ty1, ty2, _, rfl, iteF ?_⟩
    have hC1 := hC.ext x1
    have hP1 := hP.ext x1
    refine ⟨_, rfl, o, C, dx, _, .ref p, rfl, x1.ins ho, cl, na, rfl, _, rfl, st t, rfl, hsz, _, _, rfl, rfl, _, _, rfl, hP1.arg, fun b2 H2 x2 hb2 => ⟨_, rfl, ?_⟩⟩
    have e2 : b2 = decide (∀ i ∈ r, i < t.length + 1) := by
      rw [AllSo.eq (.inl hP1.1) hb2, st_len]
      exact places_all
    by_cases hin : ∀ i ∈ r, i < t.length + 1
    · rw [e2, decide_eq_true hin]
      refine iteF ?_
      have hC2 := hC1.ext x2
      have hP2 := hP1.ext x2
      refine ⟨_, rfl, o, C, dx, _, .ref p, rfl, x2.ins (x1.ins ho), cl, na, rfl, p, r, rfl, hP2.1, hP2.2, fun d ks H3 hd x3 hd3 nd hks => ?_⟩
      have x13 := (x1.trans x2).trans x3
      have fin : ∀ H', Ext H3 H' → Q (.bl (decide (0 ∈ r ∧ t.length ∉ r ∧ Closed ws t r))) H' := fun H' x => by
        have := k H' (x13.trans x)
        rw [show decide (Stk ws t r) = decide (0 ∈ r ∧ t.length ∉ r ∧ Closed ws t r) from decide_eq_decide.mpr ⟨fun z => z.2, fun z => ⟨fun m hm => Nat.le_of_lt_succ (hin m hm), z⟩⟩] at this
        exact this
      refine ⟨_, rfl, d, _, rfl, .inl ⟨_, (.inl ((0 : Nat) : Int) : Key), .inl hd3, rfl, rfl⟩, _, rfl, ?_⟩
      by_cases z0 : 0 ∈ r
      · rw [note_in ((hks 0).mpr z0)]
        refine iteT ?_
        refine ⟨_, rfl, st t, rfl, hsz, _, rfl, d, _, rfl, .inl ⟨_, (.inl ((t.length : Nat) : Int) : Key), .inl hd3, by rw [st_len]; rfl, rfl⟩, _, rfl, ?_⟩
        by_cases z1 : t.length ∈ r
        · rw [note_in ((hks _).mpr z1)]
          refine iteF ?_
          have := fin H3 (Ext.refl _)
          rw [decide_eq_false (fun z => z.2.1 z1)] at this
          exact this
        · rw [note_out (fun z => z1 ((hks _).mp z))]
          refine iteT ?_
          refine ⟨_, rfl, _, rfl, _, rfl, a, ws, t, d, ks, rfl, hC2.ext x3, htl, hd3, fun m hm => Nat.le_of_lt_succ (hin m ((hks m).mp hm)), fun H4 x4 => ?_⟩
          have := fin H4 x4
          rw [show decide (0 ∈ r ∧ t.length ∉ r ∧ Closed ws t r) = decide (Closed ws t ks) from decide_eq_decide.mpr ⟨fun z => (closed_same hks).mpr z.2.2, fun z => ⟨z0, z1, (closed_same hks).mp z⟩⟩] at this
          exact this
      · rw [note_out (fun z => z0 ((hks 0).mp z))]
        refine iteF ?_
        have := fin H3 (Ext.refl _)
        rw [decide_eq_false (fun z => z0 z.1)] at this
        exact this
    · rw [e2, decide_eq_false hin]
      refine iteT ?_
      have := k H2 (x1.trans x2)
      rw [decide_eq_false (fun z => hin fun m hm => Nat.lt_succ_of_le (z.1 m hm))] at this
      exact this
end
end L2


set_option Elab.async false
set_option linter.all false
set_option maxRecDepth 100000
set_option maxHeartbeats 2000000
namespace L2
open PySem PySem.Spec PyProof.Rows Tw
seal PSs PS PE PT PW PA PG PGs PI PC
/-- a class with one field: how it is made and shown -/
structure OneF (P : Program) (w : World) (K : PySem.W.Frag) (mg : Str → Option Value) (base : Heap) (x : Str) (C : Addr) (fld : Str) (sp : Sp) : Prop where
  there : mg x = some (.ref C)
  cls : Cls K C
  na : NoAttr K C fld
  mak : ∃ f fd, Mk K C f ∧ FnOk P w K mg base CX0 2 f fd ["self", fld] (spInit C fld) ∧ Binds K fd ["self", fld] []
  sh : ∃ f fd, Meth K C "shows" f ∧ FnOk P w K mg base CX0 4 f fd ["self", "code", "text"] sp ∧ Binds K fd ["self", "code", "text"] []
theorem pe_one_make {X : Cx} {x : Str} {C : Addr} {fld : Str} {sp : Sp} {e : Expr} {t : TA} {p pos : Pos} (O : OneF X.prog X.w X.K X.mg X.base x C fld sp) (hr : Room 3 X.A) (ha : PA X [e] t) (hg : Gl X x := by rfl) (hdb : (x == ("__debug__" : Str)) = false := by decide)
    (he : starEach [e] X.env = (false, eval e X.env) :: starEach [] X.env := by rfl) (hpl : (backTo pos (starEach [] X.env)).any (·.1) = false := by rfl) : PE X (.Call (.Name x p) [e] [] pos) (tMake C (spInit C fld) [] E0 t) := by
  obtain ⟨f, fd, M, F, b⟩ := O.mak
  exact pe_make M F hr hg O.there b .nil pass0 ha hdb he hpl
theorem nat_keys : ∀ {ms : List Int} {ks : List Nat}, ms.Perm (ks.map fun (n : Nat) => (n : Int)) → ∃ r : List Nat, ms = r.map (fun (n : Nat) => (n : Int)) ∧ r.Perm ks := by
  intro ms ks h
  have nn : ∀ x ∈ ms, 0 ≤ x := fun x hx => by
    obtain ⟨n, _, rfl⟩ := List.mem_map.mp (h.mem_iff.mp hx)
    omega
  have e : ms = (ms.map Int.toNat).map fun (n : Nat) => (n : Int) := by
    rw [List.map_map]
    conv => lhs; rw [← List.map_id ms]
    refine List.map_congr_left fun x hx => ?_
    have := nn x hx
    simp only [id, Function.comp]
    omega
  refine ⟨ms.map Int.toNat, e, ?_⟩
  have := h.map Int.toNat
  rw [List.map_map] at this
  refine this.trans (List.Perm.of_eq ?_)
  conv => rhs; rw [← List.map_id ks]
  refine List.map_congr_left fun x _ => ?_
  simp
section
variable {P : Program} {w : World} {K : PySem.W.Frag} {mg : Str → Option Value} {base : Heap} {cCode cText cR cS : Addr}
/-- an answer stands at o, its list at p, both new -/
structure Ans (H H' : Hp) (C : Addr) (fld : Str) (o p : Addr) (r : List Nat) : Prop where
  ext : Ext H H'
  newO : H o = none
  newP : H p = none
  at_ : ∃ dx, H' o = some (.ins C dx [(fld, .ref p)])
  list : IntsL H' p r
def spRead (K : PySem.W.Frag) (cR cS : Addr) : Sp := fun vs H Q _ => ∃ (a : Addr) (ws : List W) (t : W), vs = [.ref a, sv t] ∧ CodeL H a ws ∧ isTextV (sv t) = true ∧ t.length ≤ 90000 ∧
  (∀ o p r H', Ans H H' cR "places" o p r → Reads ws t r → r.length ≤ t.length → Q (.ref o) H') ∧ (∀ o p r H', Ans H H' cS "marks" o p r → Stk ws t r → r.length ≤ t.length + 1 → Q (.ref o) H')
theorem ok_read (D : Def K mg "read" "read" Pl.s_read ["code", "text"]) (B : Bare mg) (CA : Cal P w K mg base (CX1 P w) 5 "check_asked" ["code", "text"] (spCheckAsked K cCode cText)) (CG : Cal P w K mg base CX0 1 "grouped" ["words"] (spGrouped K))
    (CC : Cal P w K mg base CX0 2 "chains_to_marks" ["groups", "text"] (spChains K)) (CU : Cal P w K mg base CX0 1 "unrolled" ["chain"] (spUnrolled K)) (OR : OneF P w K mg base "Reading" cR "places" (spShowsR cR)) (OS : OneF P w K mg base "Stuck" cS "marks" (spShowsS cS)) :
    Cal P w K mg base (CX1 P w) 6 "read" ["code", "text"] (spRead K cR cS) := by
  have sc : FnScope ["code", "text", "chains"] ["code", "text"] (defScope Pl.s_read) := ⟨rfl, rfl, rfl, by decide +kernel, rfl, by decide +kernel, by decide +kernel⟩
  refine D.cal fun f fd F => F.okX sc (fun vs H Q E h => ?_) (fun cdv A outer s H vs Q E hr h => ?_)
  · obtain ⟨_, _, _, rfl, _⟩ := h
    rfl
  · obtain ⟨a, ws, t, rfl, hC, hT, htl, kR, kS⟩ := h
    have hu := hu_of hr
    have hr1 : Room 1 _ := hr.mono (by decide)
    have hr3 : Room 3 _ := hr.mono (by decide)
    refine ⟨_, pss_cons (ps_expr (pe_callF CA hr (pa_cons (pv 0) (pa_cons (pv 1) pa_nil)) passX))
      (pss_cons (ps_set (i := 2) sc.nd rfl (Or.inl rfl) (pe_callF CC (hr.mono (by decide)) (pa_cons (pe_callF CG hr1 (pa_cons (pv 0) pa_nil) pass0) (pa_cons (pv 1) pa_nil)) pass0))
      (pss_cons (ps_if (pt_cmp (pc_din hu (pe_callB call_len_str (by rfl) B.len PySem.boot_len (pa_cons (pv 1) pa_nil)) (pv 2)))
        (pss_one (ps_ret (pe_one_make OR hr3 (pa_cons (pe_callF CU hr1 (pa_cons (pe_dget hu (pv 2) (pe_callB call_len_str (by rfl) B.len PySem.boot_len (pa_cons (pv 1) pa_nil)) (fun _ _ => rfl)) pa_nil) pass0) pa_nil)))) pss_nil)
      (pss_one (ps_ret (pe_one_make OS hr3 (pa_cons (pe_callB (call_sorted_dict rfl) (by rfl) B.sorted Boot.«sorted» (pa_cons (pv 2) pa_nil)) pa_nil)))))), ?_⟩
    have hsz : (st t).length ≤ sizeLine := by rw [st_len]; exact small_line (by omega)
    refine ⟨_, rfl, _, rfl, .ref a, sv t, rfl, hC.arg, hC.sz, fun _ _ => ⟨_, .str _⟩, text_sz (by omega), fun b H1 x1 hA => ⟨fun hb => absurd (hC.all hA) (by rw [hb]; decide), fun _ => ⟨fun _ => ?_, fun z => absurd hT (by rw [z]; decide)⟩⟩⟩
    have hC1 := hC.ext x1
    refine ⟨_, rfl, a, ws, rfl, hC1.code, fun g d f H2 hg x2 G => ?_⟩
    refine ⟨_, rfl, g, ws, d, f, t, rfl, G.rd, hC.full, hC.few, by omega, fun p kvs ks H3 hp x3 hp3 R cl => ?_⟩
    have x13 := (x1.trans x2).trans x3
    have few := R.few
    refine ⟨_, rfl, st t, rfl, hsz, _, rfl, p, _, rfl, .inl ⟨kvs, (.inl ((t.length : Nat) : Int) : Key), .inl hp3, by rw [st_len]; rfl, rfl⟩, _, rfl, ?_⟩
    /- what is made -/
    have made : ∀ {C : Addr} {fld : Str} {H4 : Hp} {l : Addr} {r : List Nat} {Q' : VK}, Ext H3 H4 → H3 l = none → H4 l = some (.lst (intsV r)) → r.length ≤ 100000 → (∀ o p H', Ans H H' C fld o p r → Q' (.ref o) H') →
        ∀ x dx, H4 x = none → H4 dx = none → dx ≠ x → spInit C fld [.ref x, .ref l] (upd (upd H4 dx (.own x)) x (.ins C dx [])) (fun v H2 => v = .non ∧ Q' (.ref x) H2) E0 := by
      intro C fld H4 l r Q' x4 hl hl4 hrl kk x dx hx hdx ne
      have hx' : upd H4 dx (.own x) x = none := by rw [upd_ne ne.symm]; exact hx
      have x5 : Ext H4 (upd (upd H4 dx (.own x)) x (.ins C dx [])) := (Ext.new hdx).newer hx'
      refine ⟨x, l, dx, r, rfl, upd_same, x5.lst hl4, hrl, fun l' H6 hl' x6 hl6 => ⟨rfl, kk x l' _ ?_⟩⟩
      have x46 := (x13.trans x4).trans (x5.trans x6)
      have nlx : l' ≠ x := fun z => by rw [z, upd_same] at hl'; cases hl'
      exact ⟨x46.over ((x13.trans x4).free hx), (x13.trans x4).free hx, (x13.trans x4).free (x5.free hl'), ⟨dx, upd_same⟩, upd_k hl6 nlx, hrl⟩
    by_cases hin : t.length ∈ ks
    · obtain ⟨_, v, r, hv, hch, hrl, hri, htx⟩ := R.ch _ hin
      rw [hv]
      refine iteT ?_
      refine ⟨_, rfl, _, rfl, st t, rfl, hsz, p, v, rfl, .inl ⟨kvs, (.inl ((t.length : Nat) : Int) : Key), .inl hp3, by rw [st_len]; rfl, hv.symm⟩, v, r, rfl, hch, by omega, fun l H4 hl x4 hl4 => ?_⟩
      refine made x4 hl hl4 (by rw [List.length_reverse]; omega) fun o p' H' an => kR o p' _ H' an ⟨fun i hi => hri i (List.mem_reverse.mp hi), by rw [htx, List.take_length]⟩ (by rw [List.length_reverse]; exact hrl)
    · rw [R.out hin]
      refine iteF ?_
      refine ⟨_, rfl, p, kvs, ks.map fun (n : Nat) => (n : Int), rfl, .inl hp3, by rw [R.keys, List.map_map]; rfl, fun l ms hl hperm => ?_⟩
      obtain ⟨r, rfl, hr'⟩ := nat_keys hperm
      have hl4 : upd H3 l (.lst ((r.map fun (n : Nat) => (n : Int)).map V.int)) l = some (.lst (intsV r)) := by rw [upd_same, List.map_map]; rfl
      have rl : r.length = kvs.length := by rw [hr'.length_eq]; have := congrArg List.length R.keys; simpa using this.symm
      have mem : ∀ n, n ∈ ks ↔ n ∈ r := fun n => hr'.mem_iff.symm
      refine made (Ext.new hl) hl hl4 (by omega) fun o p' H' an => kS o p' _ H' an ⟨fun m hm => (R.ch m ((mem m).mpr hm)).1, (mem 0).mp R.zero, fun z => hin ((mem _).mpr z), (closed_same mem).mp cl⟩ (by omega)
end
end L2


set_option Elab.async false
set_option linter.all false
set_option maxRecDepth 100000
set_option maxHeartbeats 2000000
namespace L2
open PySem PySem.Spec PyProof.Rows Tw
seal PSs PS PE PT PW PA PG PGs PI PC
theorem pe_fld_s {X : Cx} {K : PySem.W.Frag} {e : Expr} {f : Str} {pos : Pos} {ta : TE} (h : X.K = K) (he : PE X e ta) (hb : attributeBase e f X.env (eval e X.env) = eval e X.env) : PE X (.Attribute e f pos) (tFld K ta f) := by subst h; exact pe_fld he hb
theorem op_in_s {X : Cx} {K : PySem.W.Frag} (h : X.K = K) : OpR X (compareOp .In) (rIn K false) := by subst h; exact op_in_seq
theorem op_notIn_s {X : Cx} {K : PySem.W.Frag} (h : X.K = K) : OpR X (compareOp .NotIn) (rIn K true) := by subst h; exact op_notIn_seq
theorem inV_nat (n : Nat) : ∀ r : List Nat, inV (.int (n : Int)) (intsV r) = decide (n ∈ r) := by
  intro r
  rw [Bool.eq_iff_iff, inV, List.any_eq_true, decide_eq_true_iff]
  constructor
  · rintro ⟨v, hv, q⟩
    obtain ⟨i, hi, rfl⟩ := List.mem_map.mp hv
    have : (i : Int) = (n : Int) := by simpa [eqV] using q
    rw [← show i = n by omega]
    exact hi
  · intro h
    exact ⟨.int (n : Int), List.mem_map.mpr ⟨n, h, rfl⟩, by simp [eqV]⟩
theorem ints_flat (r : List Nat) : (intsV r).all flatV = true := by
  rw [List.all_eq_true]
  intro v hv
  obtain ⟨i, _, rfl⟩ := List.mem_map.mp hv
  rfl
/-- what isinstance needs of a class -/
structure InsTy (K : PySem.W.Frag) (C : Addr) : Prop where
  cls : Cls K C
  ha : PySem.W.findIn K (.ref C) "__class__" = some (some (.builtin "object.__class__"))
  hn : PySem.W.specialIn K (.builtin "object.__class__") "__get__" = some (some (.builtin "getset_descriptor.__get__"))
  htk : PySem.W.takesIn K (.builtin "object.__class__") = some true
  hm : PySem.W.mroIn K C (.type "object") = some true
theorem InsTy.ty {K : PySem.W.Frag} {C a dx : Addr} {H : Hp} {fs : List (Str × V)} (I : InsTy K C) (e : H a = some (.ins C dx fs)) : TyOf K H (.ref a) (.ref C) := .ins e I.cls I.ha I.hn I.htk I.hm
/-- words by the look of the law, words by their lengths -/
theorem stands_iff {ws : List W} {t : W} {r : List Nat} {m : Nat} (hm : m ≤ t.length) : (∀ n ∈ standL ws t m, m + n ∈ r) ↔ (ws.any fun x => decide (cut t m x.length = x) && !decide (m + x.length ∈ r)) = false := by
  rw [Bool.eq_false_iff, Ne, List.any_eq_true]
  constructor
  · rintro h ⟨x, hx, q⟩
    rw [Bool.and_eq_true, decide_eq_true_iff, Bool.not_eq_true', decide_eq_false_iff_not] at q
    refine q.2 (h x.length ((mem_standL ws t m _ hm).mpr ⟨by rw [q.1]; exact hx, ?_, by rw [q.1]⟩))
    have := congrArg List.length q.1
    rw [cut, List.length_take, List.length_drop] at this
    omega
  · intro h n hn
    obtain ⟨h1, h2, h3⟩ := (mem_standL ws t m n hm).mp hn
    refine Classical.byContradiction fun no => h ⟨cut t m n, h1, ?_⟩
    rw [h3, Bool.and_eq_true, decide_eq_true_iff, Bool.not_eq_true', decide_eq_false_iff_not]
    exact ⟨rfl, no⟩
/-- a word that stands at m and leads out of r -/
def leaves (t : W) (r : List Nat) (m : Nat) : V → Bool
  | .str s => decide (cut t m s.cps.toList.length = s.cps.toList) && !decide (m + s.cps.toList.length ∈ r)
  | _ => false
section
variable {P : Program} {w : World} {K : PySem.W.Frag} {mg : Str → Option Value} {base : Heap} {cR cS : Addr}
def spDue (K : PySem.W.Frag) (cR cS : Addr) : Sp := fun vs H Q _ => ∃ (a o p dx : Addr) (ws : List W) (t : W) (r : List Nat), vs = [.ref a, sv t, .ref o] ∧ CodeL H a ws ∧ t.length ≤ 100000 ∧ IntsL H p r ∧
  ((H o = some (.ins cR dx [("places", .ref p)]) ∧ ((∀ i ∈ r, i < ws.length) → (textOf ws r).length ≤ 1000000) ∧ ∀ H', Ext H H' → Q (.bl (decide (Reads ws t r))) H') ∨
    (H o = some (.ins cS dx [("marks", .ref p)]) ∧ ∀ H', Ext H H' → Q (.bl (decide (Stk ws t r))) H'))
theorem ok_due (D : Def K mg "_law_due" "_law_due" Pl.s_law_due ["_law_code_here", "_law_text_here", "_law_found"]) (B : Bare mg) (hR : mg "Reading" = some (.ref cR)) (IR : InsTy K cR) (IS : InsTy K cS) (nR : NoAttr K cR "places") (nS : NoAttr K cS "marks")
    (kR : PySem.W.kitOne K (.ref cR) (.ref cR) = some true) (kS : PySem.W.kitOne K (.ref cS) (.ref cR) = some false) (CS : Cal P w K mg base CX0 1 "_law_stands" ["_law_word", "_law_text_here", "_law_at"] spStands) :
    Cal P w K mg base CX0 2 "_law_due" ["_law_code_here", "_law_text_here", "_law_found"] (spDue K cR cS) := by
  have sc : FnScope ["_law_code_here", "_law_text_here", "_law_found", "_law_mark"] ["_law_code_here", "_law_text_here", "_law_found"] (defScope Pl.s_law_due) := ⟨rfl, rfl, rfl, by decide +kernel, rfl, by decide +kernel, by decide +kernel⟩
  refine D.cal fun f fd F => F.ok sc (fun vs H Q E h => ?_) (fun cdv A outer s H vs Q E hr h => ?_)
  · obtain ⟨_, _, _, _, _, _, _, rfl, _⟩ := h
    rfl
  · obtain ⟨a, o, p, dx, ws, t, r, rfl, hC, htl, hP, hk⟩ := h
    have ndP : (["_law_place", "_law_code_here"] : List Str).Nodup := by decide +kernel
    have ndM : (["_law_mark", "_law_text_here"] : List Str).Nodup := by decide +kernel
    have ndW : (["_law_word", "_law_text_here", "_law_mark", "_law_found"] : List Str).Nodup := by decide +kernel
    refine ⟨_, pss_cons (ps_if (pt_val (pe_callB (r := rIsi K) (call_isi_s rfl) (by rfl) B.isi boot_isinstance (pa_cons (pv 2) (pa_cons (pe_glob (v := .ref cR) (by rfl) hR rfl) pa_nil))))
        (pss_cons (ps_if (pt_not (pt_val (pe_callB (call_all_bl rfl) (by rfl) B.all Boot.«all» (pa_cons
            (pe_comp (N' := ["_law_place", "_law_code_here"]) (js := [none, some 0]) (.of (by kernel_rfl)) rfl (pi_list (pe_fld (pv 2) rfl)) fun C fp s₀ H₀ => ⟨pg_name (i := 0) ndP rfl (Or.inl rfl), pts_nil,
              pe_chain op_le op_lt pe_int (pv 0) (pe_callB (r := rLenS K) (call_len_s rfl) (by rfl) B.len PySem.boot_len (pa_cons (pv 1) pa_nil))⟩) pa_nil)))) (pss_one (ps_ret pe_bl)) pss_nil)
        (pss_one (ps_ret (pe_cmpR op_eq (pe_bm PySem.F.plainAttrs_str PySem.F.slot_str_join PySem.F.type_str_join mt_join pe_str (pa_cons
            (pe_comp (N' := ["_law_place", "_law_code_here"]) (js := [none, some 0]) (.of (by kernel_rfl)) rfl (pi_list (pe_fld (pv 2) rfl)) fun C fp s₀ H₀ => ⟨pg_name (i := 0) ndP rfl (Or.inl rfl), pts_nil, pe_ix (r := rIxL K) ix_list (pv 1) (pv 0) (fun _ _ => rfl)⟩) pa_nil)) (pv 1) (nomark _))))) pss_nil)
      (pss_cons (ps_if (PW.pt (pw_or (pt_cmpR (op_notIn_s (K := K) rfl) pe_int (pe_fld (pv 2) rfl) rfl) (pw_or (pt_cmpR (op_in_s (K := K) rfl) (pe_callB call_len_str (by rfl) B.len PySem.boot_len (pa_cons (pv 1) pa_nil)) (pe_fld (pv 2) rfl) rfl)
          (pw_or1 (pt_not (pt_val (pe_callB (call_all_bl rfl) (by rfl) B.all Boot.«all» (pa_cons
            (pe_comp (N' := ["_law_mark", "_law_text_here"]) (js := [none, some 1]) (.of (by kernel_rfl)) rfl (pi_list (pe_fld (pv 2) rfl)) fun C fp s₀ H₀ => ⟨pg_name (i := 0) ndM rfl (Or.inl rfl), pts_nil,
              pe_chain op_le op_le pe_int (pv 0) (pe_callB call_len_str (by rfl) B.len PySem.boot_len (pa_cons (pv 1) pa_nil))⟩) pa_nil)))))))) (pss_one (ps_ret pe_bl)) pss_nil)
      (pss_cons (ps_for PassesOwn.never rfl (pi_list (pe_fld (pv 2) rfl)) (pg_name (i := 3) sc.nd rfl (Or.inr rfl))
        (pss_one (ps_if (pt_val (pe_callB (call_any_bl rfl) (by rfl) B.any Boot.«any» (pa_cons
            (pe_comp (N' := ["_law_word", "_law_text_here", "_law_mark", "_law_found"]) (js := [none, some 1, some 3, some 2]) (.of (by kernel_rfl)) rfl (pi_list (pv 0)) fun C fp s₀ H₀ => ⟨pg_name (i := 0) ndW rfl (Or.inl rfl), pts_nil,
              pe_and (pe_callF CS hr (pa_cons (pv 0) (pa_cons (pv 1) (pa_cons (pv 2) pa_nil))) pass0)
                (pe_one (pe_cmpR (op_notIn_s (K := K) rfl) (pe_op op_add (pv 2) (pe_callB call_len_str (by rfl) B.len PySem.boot_len (pa_cons (pv 0) pa_nil))) (pe_fld_s (K := K) rfl (pv 3) rfl) rfl))⟩) pa_nil))) (pss_one (ps_ret pe_bl)) pss_nil)))
      (pss_one (ps_ret pe_bl)))), ?_⟩
    have pl : (intsV r).length ≤ sizeLine := by rw [List.length_map]; exact small_line (by have := hP.2; omega)
    rcases hk with ⟨ho, hlen, k⟩ | ⟨ho, k⟩
    · refine ⟨_, rfl, _, _, _, _, rfl, trivial, IR.ty ho, kR, _, rfl, iteT ?_⟩
      refine ⟨_, rfl, o, cR, dx, _, .ref p, rfl, ho, IR.cls, nR, rfl, p, rfl, ⟨_, SqL.of hP.1⟩, block_map1 (SqL.of hP.1) pl (fun y => .bl (isPlaceV (ws.length : Int) y)) (fun y H' hy x1 Q' k' => ?_) (fun D H1 hD x1 hD1 => ?_)⟩
      · obtain ⟨i, hi, rfl⟩ := List.mem_map.mp hy
        refine ⟨_, rfl, _, _, rfl, rfl, _, rfl, iteT' (by rw [decide_eq_true_iff]; omega) ?_⟩
        refine ⟨_, rfl, a, _, rfl, .inl (SqL.of (hC.ext x1).at_), _, _, rfl, rfl, ?_⟩
        rw [List.length_map]
        refine k' _ H' (Ext.refl _) ?_
        show V.bl _ = V.bl (decide (0 ≤ (i : Int)) && decide ((i : Int) < (ws.length : Int)))
        rw [decide_eq_true (show 0 ≤ (i : Int) by omega), Bool.true_and]
      · refine ⟨D, (intsV r).map (isPlaceV (ws.length : Int)), rfl, SqL.of (by rw [hD1]; simp [Function.comp_def]), _, rfl, ?_⟩
        have e2 : ((intsV r).map (isPlaceV (ws.length : Int))).all id = decide (∀ i ∈ r, i < ws.length) := by
          rw [List.all_map]
          exact places_all
        rw [e2]
        by_cases hin : ∀ i ∈ r, i < ws.length
        · rw [decide_eq_true hin]
          refine iteF ?_
          have hP1 := hP.ext x1
          refine ⟨rfl, _, rfl, o, cR, dx, _, .ref p, rfl, x1.ins ho, IR.cls, nR, rfl, p, rfl, ⟨_, SqL.of hP1.1⟩, block_map1 (SqL.of hP1.1) pl (fun y => match y with | .int i => sv (ws.getD i.toNat []) | _ => .non) (fun y H' hy x2 Q' k' => ?_) (fun D2 H2 hD2 x2 hD3 => ?_)⟩
          · obtain ⟨i, hi, rfl⟩ := List.mem_map.mp hy
            have hlt := hin i hi
            exact ⟨_, rfl, _, rfl, a, _, (i : Int), sv (ws.getD i []), rfl, rfl, SqL.of ((hC.ext x1).ext x2).at_, atI_nat (by rw [List.getElem?_map]; simp [hlt]), k' _ H' (Ext.refl _) rfl⟩
          · refine ⟨D2, r.map fun i => ws.getD i [], rfl, rfl, SqL.of (by rw [hD3, List.map_map, List.map_map]; rfl), ?_, _, rfl, rfl, ?_⟩
            · have e : ((r.map fun i => ws.getD i []).map List.length).sum = (textOf ws r).length := by rw [textOf, List.length_flatten]
              rw [e]
              have := hlen hin
              omega
            · have e : decide (sv (r.map fun i => ws.getD i []).flatten = sv t) = decide (Reads ws t r) := by
                rw [decide_eq_decide]
                exact ⟨fun z => ⟨hin, st_inj (V.str.inj z)⟩, fun z => by rw [← z.2]; rfl⟩
              have := k H2 (x1.trans x2)
              rw [← e] at this
              exact this
        · rw [decide_eq_false hin]
          refine iteT ?_
          have := k H1 x1
          rw [decide_eq_false (fun z => hin z.1)] at this
          exact this
    · refine ⟨_, rfl, _, _, _, _, rfl, trivial, IS.ty ho, kS, _, rfl, iteF ?_⟩
      have hsz : (st t).length ≤ sizeLine := by rw [st_len]; exact small_line (by omega)
      refine ⟨_, rfl, o, cS, dx, _, .ref p, rfl, ho, IS.cls, nS, rfl, p, _, rfl, .inl (SqL.of hP.1), rfl, ints_flat r, _, rfl, ?_⟩
      have e0 : (if true = true then !inV (.int 0) (intsV r) else inV (.int 0) (intsV r)) = !decide (0 ∈ r) := by
        rw [if_pos rfl]
        exact congrArg _ (inV_nat 0 r)
      rw [e0]
      have no : ∀ {H' : Hp}, Ext H H' → ¬ Stk ws t r → Q (.bl false) H' := fun x z => by
        have := k _ x
        rw [decide_eq_false z] at this
        exact this
      by_cases z0 : 0 ∈ r
      · rw [decide_eq_true z0]
        refine iteF ?_
        refine ⟨_, rfl, st t, rfl, hsz, _, rfl, o, cS, dx, _, .ref p, rfl, ho, IS.cls, nS, rfl, p, _, rfl, .inl (SqL.of hP.1), rfl, ints_flat r, _, rfl, ?_⟩
        have e1 : (if false = true then !inV (.int ((st t).length : Int)) (intsV r) else inV (.int ((st t).length : Int)) (intsV r)) = decide (t.length ∈ r) := by
          rw [if_neg (by decide), st_len]
          exact inV_nat t.length r
        rw [e1]
        by_cases z1 : t.length ∈ r
        · rw [decide_eq_true z1]
          exact iteT (iteT (no (Ext.refl _) fun z => z.2.2.1 z1))
        · rw [decide_eq_false z1]
          refine iteF ?_
          refine ⟨_, rfl, o, cS, dx, _, .ref p, rfl, ho, IS.cls, nS, rfl, p, rfl, ⟨_, SqL.of hP.1⟩, block_map1 (SqL.of hP.1) pl (fun y => .bl (isPlaceV ((t.length + 1 : Nat) : Int) y)) (fun y H' hy x1 Q' k' => ?_) (fun D H1 hD x1 hD1 => ?_)⟩
          · obtain ⟨i, hi, rfl⟩ := List.mem_map.mp hy
            refine ⟨_, rfl, _, _, rfl, rfl, _, rfl, iteT' (by rw [decide_eq_true_iff]; omega) ?_⟩
            refine ⟨_, rfl, st t, rfl, hsz, _, _, rfl, rfl, ?_⟩
            refine k' _ H' (Ext.refl _) ?_
            show V.bl _ = V.bl (decide (0 ≤ (i : Int)) && decide ((i : Int) < ((t.length + 1 : Nat) : Int)))
            rw [decide_eq_true (show 0 ≤ (i : Int) by omega), Bool.true_and, st_len]
            congr 1
            rw [decide_eq_decide]
            omega
          · refine ⟨D, (intsV r).map (isPlaceV ((t.length + 1 : Nat) : Int)), rfl, SqL.of (by rw [hD1]; simp [Function.comp_def]), _, rfl, ?_⟩
            have e2 : ((intsV r).map (isPlaceV ((t.length + 1 : Nat) : Int))).all id = decide (∀ i ∈ r, i < t.length + 1) := by
              rw [List.all_map]
              exact places_all
            rw [e2]
            by_cases hin : ∀ i ∈ r, i < t.length + 1
            · rw [decide_eq_true hin]
              refine iteF ?_
              have hP1 := hP.ext x1
              refine ⟨_, rfl, o, cS, dx, _, .ref p, rfl, x1.ins ho, IS.cls, nS, rfl, p, rfl, ⟨_, SqL.of hP1.1⟩, for_list (K := K) (a := p) (xs := intsV r) (fun j σ H2 => (∃ mk : Option V, σ = [some (.ref a), some (sv t), some (.ref o), mk]) ∧ Ext H1 H2 ∧ ∀ m ∈ r.take j, ∀ n ∈ standL ws t m, m + n ∈ r)
                ⟨⟨_, rfl⟩, Ext.refl _, fun m hm => by simp at hm⟩ (fun j σ H2 _ h => SqL.of (hP1.ext h.2.1).1) ?_ ?_⟩
              · rintro j y σ H2 hy ⟨⟨mk, rfl⟩, x2, hok⟩
                rw [intsV, List.getElem?_map] at hy
                obtain ⟨m, hm, rfl⟩ := Option.map_eq_some_iff.mp hy
                have hmr : m ∈ r := List.mem_of_getElem? hm
                have hmt : m ≤ t.length := Nat.le_of_lt_succ (hin m hmr)
                have hC2 := (hC.ext x1).ext x2
                have o2 := x2.ins (x1.ins ho)
                refine ⟨_, rfl, a, rfl, ⟨_, SqL.of hC2.at_⟩, block_map1 (SqL.of hC2.at_) (by rw [List.length_map]; exact small_line (by have := hC.few; omega)) (fun y => .bl (leaves t r m y)) (fun y H' hy x3 Q' k' => ?_) (fun D3 H3 hD3 x3 hD4 => ?_)⟩
                · obtain ⟨x, hx, rfl⟩ := List.mem_map.mp hy
                  have hxl := hC.short x hx
                  refine ⟨_, rfl, _, rfl, _, rfl, x, t, m, rfl, hxl, htl, hmt, _, rfl, ?_⟩
                  by_cases q : cut t m x.length = x
                  · rw [decide_eq_true q]
                    refine iteT ?_
                    refine ⟨_, rfl, _, rfl, st x, rfl, by rw [st_len]; exact small_line (by omega), _, _, rfl, rfl, _, rfl, o, cS, dx, _, .ref p, rfl, x3.ins o2, IS.cls, nS, rfl, p, _, rfl, .inl (SqL.of ((hP1.ext x2).ext x3).1), rfl, ints_flat r, k' _ H' (Ext.refl _) ?_⟩
                    have e3 : inV (.int ((m : Int) + ((st x).length : Int))) (intsV r) = decide (m + x.length ∈ r) := by
                      rw [st_len, show (m : Int) + (x.length : Int) = ((m + x.length : Nat) : Int) by omega]
                      exact inV_nat _ r
                    show V.bl (if true = true then !inV (.int ((m : Int) + ((st x).length : Int))) (intsV r) else inV (.int ((m : Int) + ((st x).length : Int))) (intsV r)) = V.bl (decide (cut t m x.length = x) && !decide (m + x.length ∈ r))
                    rw [if_pos rfl, e3, decide_eq_true q, Bool.true_and]
                  · rw [decide_eq_false q]
                    refine iteF (k' _ H' (Ext.refl _) ?_)
                    show V.bl false = V.bl (decide (cut t m x.length = x) && !decide (m + x.length ∈ r))
                    rw [decide_eq_false q, Bool.false_and]
                · refine ⟨D3, (ws.map sv).map (leaves t r m), rfl, SqL.of (by rw [hD4]; simp [Function.comp_def]), _, rfl, ?_⟩
                  have e4 : ((ws.map sv).map (leaves t r m)).any id = ws.any fun x => decide (cut t m x.length = x) && !decide (m + x.length ∈ r) := by
                    rw [List.map_map, List.any_map]
                    rfl
                  rw [e4]
                  by_cases q : ∀ n ∈ standL ws t m, m + n ∈ r
                  · rw [(stands_iff hmt).mp q]
                    refine iteF ⟨⟨_, rfl⟩, x2.trans x3, fun m' hm' => ?_⟩
                    rw [take_snoc hm] at hm'
                    rcases List.mem_append.mp hm' with z | z
                    · exact hok m' z
                    · rw [List.mem_singleton.mp z]; exact q
                  · rw [eq_true_of_ne_false (fun z => q ((stands_iff hmt).mpr z))]
                    exact iteT (no ((x1.trans x2).trans x3) fun z => q (z.2.2.2 m hmr))
              · rintro σ H2 ⟨⟨mk, rfl⟩, x2, hok⟩
                have yes : Stk ws t r := ⟨fun m hm => Nat.le_of_lt_succ (hin m hm), z0, z1, fun m hm => hok m (by rw [List.length_map, List.take_length]; exact hm)⟩
                have := k H2 (x1.trans x2)
                rw [decide_eq_true yes] at this
                exact this
            · rw [decide_eq_false hin]
              exact iteT (no x1 fun z => hin fun m hm => Nat.lt_succ_of_le (z.1 m hm))
      · rw [decide_eq_false z0]
        exact iteT (iteT (no (Ext.refl _) fun z => z0 z.2.1))
end
end L2


set_option Elab.async false
set_option linter.all false
set_option maxRecDepth 100000
set_option maxHeartbeats 2000000
namespace L2
open PySem PySem.Spec PyProof.Rows Tw
/-! ### lists of texts compared; is not True; two kinds of one thing -/
theorem az_small : ∀ z ∈ az, z < 1000 := by decide
theorem kt_lay : ∀ ws : List W, (∀ x ∈ ws, ∀ z ∈ x, z ∈ az) → PyData.canLayAll0 (ws.map fun x => PyData.str (st x)) = true
  | [], _ => rfl
  | x :: r, h => by
    have h1 := h x List.mem_cons_self
    have h2 := kt_lay r fun y hy => h y (List.mem_cons_of_mem _ hy)
    have h3 : PyData.strOk (st x) = true := by
      show (st x).cps.all (· < 0x110000) = true
      rw [Array.all_eq_true']
      intro z hz
      have hz' : z ∈ x := List.mem_toArray.mp (show z ∈ x.toArray from hz)
      have := az_small z (h1 z hz')
      simp only [decide_eq_true_iff]
      omega
    simp only [List.map_cons, PyData.canLayAll0, PyData.canLay0, h2, h3, Bool.and_self]
theorem kt_depth : ∀ ws : List W, PyData.depthAll (ws.map fun x => PyData.str (st x)) = 0
  | [] => rfl
  | _ :: r => by simp [PyData.depthAll, PyData.depth, kt_depth r]
theorem kt_shaped (ws : List W) (h : ∀ x ∈ ws, ∀ z ∈ x, z ∈ az) : SeqAt.shaped (.list (ws.map fun x => PyData.str (st x))) = true := by simp [SeqAt.shaped, PyData.canLay0, PyData.depth, kt_lay ws h, kt_depth]
theorem kt_same (ws : List W) : PySem.Spec.sameAll (ws.map fun x => PyData.str (st x)) (ws.map fun x => PyData.str (st x)) = true := by
  induction ws with
  | nil => simp [PySem.Spec.sameAll]
  | cons x r ih => simp [PySem.Spec.sameAll, PySem.Spec.same, ih]
theorem kt_carried : ∀ {ws : List W} {us : List Value}, Vals (ws.map sv) us → CarriedAll us (ws.map fun x => PyData.str (st x))
  | [], _, r => by cases r; exact .nil
  | x :: ws, _, r => by
    cases r with
    | cons r1 r2 =>
      obtain ⟨t, rfl⟩ := r1
      exact .cons (.str _ t) (kt_carried r2)
def rSame (K : PySem.W.Frag) (b : Bool) : R2 := fun x y H Q => ∃ (p q : Addr) (ws : List W), x = .ref p ∧ y = .ref q ∧ SqL K H p (ws.map sv) ∧ SqL K H q (ws.map sv) ∧ (∀ x ∈ ws, ∀ z ∈ x, z ∈ az) ∧ Q (.bl b) H
theorem op_neLT {X : Cx} {K : PySem.W.Frag} (h : X.K = K) (hu : X.A.units + 64 < cLine) : OpR X (compareOp .NotEq) (rSame K false) := by
  subst h
  intro pins s σ H x y v u Q I rx ry h
  obtain ⟨p, q, ws, rfl, rfl, hp, hq, hl, k⟩ := h
  cases rx
  cases ry
  obtain ⟨its, r, pl, _⟩ := I.list hp
  obtain ⟨its', r', pl', _⟩ := I.list hq
  refine ne_dataH_same (reads_newData pl.isList (kt_carried r)) (reads_newData pl'.isList (kt_carried r')) (kt_shaped _ hl) (kt_shaped _ hl) hu (SeqAt.noMix_of_shape (.list .str) rfl _ _ (list_map_has fun _ => rfl) (list_map_has fun _ => rfl)) ?_
  have e : PySem.Spec.same (.list (ws.map fun x => PyData.str (st x))) (.list (ws.map fun x => PyData.str (st x))) = true := by simp only [PySem.Spec.same]; exact kt_same ws
  rw [e]
  exact ⟨.bl _, H, I, rfl, k⟩
theorem op_eqLT {X : Cx} {K : PySem.W.Frag} (h : X.K = K) (hu : X.A.units + 64 < cLine) : OpR X (compareOp .Eq) (rSame K true) := by
  subst h
  intro pins s σ H x y v u Q I rx ry h
  obtain ⟨p, q, ws, rfl, rfl, hp, hq, hl, k⟩ := h
  cases rx
  cases ry
  obtain ⟨its, r, pl, _⟩ := I.list hp
  obtain ⟨its', r', pl', _⟩ := I.list hq
  refine eq_dataH_same (reads_newData pl.isList (kt_carried r)) (reads_newData pl'.isList (kt_carried r')) (kt_shaped _ hl) (kt_shaped _ hl) hu (SeqAt.noMix_of_shape (.list .str) rfl _ _ (list_map_has fun _ => rfl) (list_map_has fun _ => rfl)) ?_
  have e : PySem.Spec.same (.list (ws.map fun x => PyData.str (st x))) (.list (ws.map fun x => PyData.str (st x))) = true := by simp only [PySem.Spec.same]; exact kt_same ws
  rw [e]
  exact ⟨.bl _, H, I, rfl, k⟩
def rIsNotB : R2 := fun x y H Q => ∃ b c, x = .bl b ∧ y = .bl c ∧ Q (.bl (!decide (b = c))) H
theorem op_isNotB {X : Cx} : OpR X (compareOp .IsNot) rIsNotB := by
  intro pins s σ H x y v u Q I rx ry h
  obtain ⟨b, c, rfl, rfl, k⟩ := h
  cases rx
  cases ry
  refine wpAny_isNot_plain rfl ⟨.bl (!decide (b = c)), H, I, ?_, k⟩
  cases b <;> cases c <;> rfl
theorem pe_either {X : Cx} {e : Expr} {t t' : TE} (h : PE X e t) (h' : PE X e t') : PE X e (fun σ H Q => t σ H Q ∨ t' σ H Q) := fun pins s σ H Q I q => q.elim (h pins s σ H Q I) (h' pins s σ H Q I)
end L2


set_option Elab.async false
set_option linter.all false
set_option maxRecDepth 100000
set_option maxHeartbeats 2000000
namespace L2
open PySem PySem.Spec PyProof.Rows Tw
seal PSs PS PE PT PW PA PG PGs PI PC
/-! ### ways and readings -/
theorem sum_zero {l : List Int} (h : ∀ x ∈ l, x = 0) : l.sum = 0 := by
  induction l with
  | nil => rfl
  | cons a l ih => rw [List.sum_cons, h a List.mem_cons_self, ih fun x hx => h x (List.mem_cons_of_mem _ hx)]; rfl
theorem sum_pos {l : List Int} (h : ∀ x ∈ l, 0 ≤ x) {a : Int} (ha : a ∈ l) (h1 : 0 < a) : 0 < l.sum ∧ 0 ≤ l.sum := by
  have nn : ∀ {l : List Int}, (∀ x ∈ l, 0 ≤ x) → 0 ≤ l.sum := by
    intro l
    induction l with
    | nil => intro _; exact Int.le_refl _
    | cons a l ih =>
      intro h
      have := ih fun x hx => h x (List.mem_cons_of_mem _ hx)
      have := h a List.mem_cons_self
      rw [List.sum_cons]
      omega
  refine ⟨?_, nn h⟩
  induction l with
  | nil => cases ha
  | cons b l ih =>
    rw [List.sum_cons]
    have hb := h b List.mem_cons_self
    have hl := nn fun x hx => h x (List.mem_cons_of_mem _ hx)
    rcases List.mem_cons.mp ha with z | z
    · omega
    · have := ih (fun x hx => h x (List.mem_cons_of_mem _ hx)) z
      omega
section
variable {ws : List W} {t : W}
theorem ways_nn (hf : Full ws) (t : W) : ∀ (k m : Nat), t.length ≤ m + k → m ≤ t.length → 0 ≤ waysOf ws t m := by
  obtain ⟨w0, w1⟩ := ways_waysOf hf t
  intro k
  induction k with
  | zero =>
    intro m h1 h2
    rw [show m = t.length by omega, w0]
    decide
  | succ k ih =>
    intro m h1 h2
    by_cases e : m = t.length
    · rw [e, w0]; decide
    · rw [w1 m (by omega), wayStep]
      have : ∀ x ∈ (standL ws t m).map (fun n => ((placesOf ws (cut t m n)).length : Int) * waysOf ws t (m + n)), 0 ≤ x := fun x hx => by
        obtain ⟨n, hn, rfl⟩ := List.mem_map.mp hx
        obtain ⟨n0, n1⟩ := standL_pos hf h2 hn
        exact Int.mul_nonneg (by omega) (ih _ (by omega) n1)
      by_cases z : ∃ a ∈ (standL ws t m).map (fun n => ((placesOf ws (cut t m n)).length : Int) * waysOf ws t (m + n)), 0 < a
      · obtain ⟨a, ha, h⟩ := z
        exact (sum_pos this ha h).2
      · rw [sum_zero fun x hx => by
          have := this x hx
          have : ¬ 0 < x := fun y => z ⟨x, hx, y⟩
          omega]
        decide
theorem reads_ways (hf : Full ws) : ∀ (r : List Nat) (m : Nat), m ≤ t.length → (∀ i ∈ r, i < ws.length) → textOf ws r = t.drop m → 0 < waysOf ws t m := by
  obtain ⟨w0, w1⟩ := ways_waysOf hf t
  intro r
  induction r with
  | nil =>
    intro m hm _ e
    have := congrArg List.length e
    rw [textOf_nil, List.length_nil, List.length_drop] at this
    rw [show m = t.length by omega, w0]
    decide
  | cons i r ih =>
    intro m hm hr e
    have hi := hr i List.mem_cons_self
    rw [textOf_cons] at e
    have hw : ws[i]? = some (ws.getD i []) := by simp [hi]
    have mem : ws.getD i [] ∈ ws := List.mem_of_getElem? hw
    generalize ws.getD i [] = x at e hw mem
    have hc : cut t m x.length = x := by rw [cut, ← e, List.take_left]
    have xl : x.length ≤ t.length - m := by
      have := congrArg List.length e
      rw [List.length_append, List.length_drop] at this
      omega
    have st : x.length ∈ standL ws t m := (mem_standL ws t m _ hm).mpr ⟨by rw [hc]; exact mem, xl, by rw [hc]⟩
    obtain ⟨n0, n1⟩ := standL_pos hf hm st
    have e2 : textOf ws r = t.drop (m + x.length) := by
      rw [← List.drop_drop, ← e, List.drop_left]
    have pos := ih (m + x.length) n1 (fun j hj => hr j (List.mem_cons_of_mem _ hj)) e2
    rw [w1 m (by omega), wayStep]
    refine (sum_pos (fun y hy => ?_) (List.mem_map.mpr ⟨x.length, st, rfl⟩) ?_).1
    · obtain ⟨n, hn, rfl⟩ := List.mem_map.mp hy
      obtain ⟨_, n2⟩ := standL_pos hf hm hn
      exact Int.mul_nonneg (by omega) (ways_nn hf t t.length _ (by omega) n2)
    · rw [hc]
      have : i ∈ placesOf ws x := (mem_placesOf ws x i).mpr hw
      have : 0 < (placesOf ws x).length := List.length_pos_of_mem this
      exact Int.mul_pos (by omega) pos
theorem stk_ways (hf : Full ws) {r : List Nat} (h : Stk ws t r) : waysOf ws t 0 = 0 := by
  obtain ⟨w0, w1⟩ := ways_waysOf hf t
  obtain ⟨h1, h2, h3, h4⟩ := h
  have : ∀ (k m : Nat), t.length ≤ m + k → m ∈ r → waysOf ws t m = 0 := by
    intro k
    induction k with
    | zero =>
      intro m hk hm
      have := h1 m hm
      exact absurd (show m = t.length by omega) fun e => h3 (e ▸ hm)
    | succ k ih =>
      intro m hk hm
      have := h1 m hm
      have ne : m ≠ t.length := fun e => h3 (e ▸ hm)
      rw [w1 m (by omega), wayStep]
      refine sum_zero fun x hx => ?_
      obtain ⟨n, hn, rfl⟩ := List.mem_map.mp hx
      have := standL_pos hf this hn
      rw [ih (m + n) (by omega) (h4 m hm n hn), Int.mul_zero]
  exact this t.length 0 (by omega) h2
end
section
variable {P : Program} {w : World} {K : PySem.W.Frag} {mg : Str → Option Value} {base : Heap} {cCode : Addr}
theorem passF {P : Program} {w : World} {X : Cx} : Passes (CX1 P w) X (fun _ _ _ => False) := by
  intro pins σ H1 s1 e s' I h
  obtain ⟨ea, cls, H', rfl, F, q⟩ := h
  exact q.elim
def spTextOf (K : PySem.W.Frag) : Sp := fun vs H Q _ => ∃ (a p : Addr) (ws : List W) (r : List Nat), vs = [.ref a, .ref p] ∧ CodeL H a ws ∧ IntsL H p r ∧ (∀ i ∈ r, i < ws.length) ∧ (textOf ws r).length ≤ 1000000 ∧ ∀ H', Ext H H' → Q (sv (textOf ws r)) H'
theorem ok_text_of2 (D : Def K mg "text_of" "text_of" Pl.s_text_of ["code", "places"]) (B : Bare mg) (CC : Cal P w K mg base (CX1 P w) 4 "check_code" ["value"] (spCheckCode K cCode))
    (CP : Cal P w K mg base CX0 3 "are_places" ["values", "count"] (spArePlaces K)) (CJ : Cal P w K mg base CX0 2 "joined" ["code", "places"] (spJoined K)) : Cal P w K mg base (CX1 P w) 5 "text_of" ["code", "places"] (spTextOf K) := by
  have sc : FnScope ["code", "places"] ["code", "places"] (defScope Pl.s_text_of) := ⟨rfl, rfl, rfl, by decide +kernel, rfl, by decide +kernel, by decide +kernel⟩
  refine D.cal fun f fd F => F.okX sc (fun vs H Q E h => ?_) (fun cdv A outer s H vs Q E hr h => ?_)
  · obtain ⟨_, _, _, _, rfl, _⟩ := h
    rfl
  · obtain ⟨a, p, ws, r, rfl, hC, hI, hin, hlen, k⟩ := h
    refine ⟨_, pss_cons (ps_expr (pe_callF CC hr (pa_cons (pv 0) pa_nil) passX))
      (pss_cons (ps_if (pt_not (pt_val (pe_callF CP (hr.mono (by decide)) (pa_cons (pv 1) (pa_cons (pe_callB call_len_seq (by rfl) B.len PySem.boot_len (pa_cons (pv 0) pa_nil)) pa_nil)) pass0))) pss_never pss_nil)
      (pss_one (ps_ret (pe_callF CJ (hr.mono (by decide)) (pa_cons (pv 0) (pa_cons (pv 1) pa_nil)) pass0)))), ?_⟩
    refine ⟨_, rfl, .ref a, rfl, hC.arg, hC.sz, fun b H1 x1 hA => ⟨fun _ => ?_, fun hb => absurd (hC.all hA) (by rw [hb]; decide)⟩⟩
    have hC1 := hC.ext x1
    have hI1 := hI.ext x1
    refine ⟨_, rfl, _, rfl, a, _, rfl, .inl (SqL.of hC1.at_), _, _, rfl, hI1.arg, fun c H4 x4 hA => ⟨_, rfl, ?_⟩⟩
    rw [List.length_map] at hA
    rw [hI1.all hin hA]
    exact iteF ⟨_, rfl, _, rfl, a, p, ws, r, rfl, (hC1.ext x4).code, (hI1.ext x4).places, hin, hlen, fun H5 x5 => k H5 ((x1.trans x4).trans x5)⟩
end
end L2


set_option Elab.async false
set_option linter.all false
set_option maxRecDepth 100000
set_option maxHeartbeats 4000000
namespace L2
open PySem PySem.Spec PyProof.Rows Tw
seal PSs PS PE PT PW PA PG PGs PI PC
/-- the classes of answers, as the law meets them -/
structure Clss (P : Program) (w : World) (K : PySem.W.Frag) (mg : Str → Option Value) (base : Heap) (cA cR cS cC cT : Addr) : Prop where
  OR : OneF P w K mg base "Reading" cR "places" (spShowsR cR)
  OS : OneF P w K mg base "Stuck" cS "marks" (spShowsS cS)
  IR : InsTy K cR
  IS : InsTy K cS
  tA : mg "Answer" = some (.ref cA)
  tC : mg "Clash" = some (.ref cC)
  tT : mg "Tails" = some (.ref cT)
  rA : PySem.W.kitOne K (.ref cR) (.ref cA) = some true
  rR : PySem.W.kitOne K (.ref cR) (.ref cR) = some true
  rS : PySem.W.kitOne K (.ref cR) (.ref cS) = some false
  rC : PySem.W.kitOne K (.ref cR) (.ref cC) = some false
  rT : PySem.W.kitOne K (.ref cR) (.ref cT) = some false
  sA : PySem.W.kitOne K (.ref cS) (.ref cA) = some true
  sR : PySem.W.kitOne K (.ref cS) (.ref cR) = some false
  sS : PySem.W.kitOne K (.ref cS) (.ref cS) = some true
  sC : PySem.W.kitOne K (.ref cS) (.ref cC) = some false
  sT : PySem.W.kitOne K (.ref cS) (.ref cT) = some false
def spLaw (K : PySem.W.Frag) : Sp := fun vs H Q _ => ∃ (a : Addr) (ns : List Int), vs = [.ref a] ∧ SqL K H a (ns.map V.int) ∧ ns.length ≤ 63 ∧ ∀ H', Q (.bl true) H'
section
variable {P : Program} {w : World} {K : PySem.W.Frag} {mg : Str → Option Value} {base : Heap} {cA cR cS cC cT : Addr}
theorem ok_law2 {f : Addr} {fd : FuncData} (F : Fun K "law" "law" Pl.s_law f fd) (B : Bare mg) (L : Clss P w K mg base cA cR cS cC cT)
    (C1 : Cal P w K mg base CX0 1 "_law_code" ["_law_script"] (spLawCode K)) (C2 : Cal P w K mg base CX0 1 "_law_text" ["_law_code_here", "_law_script"] (spLawText K))
    (CR : Cal P w K mg base (CX1 P w) 6 "read" ["code", "text"] (spRead K cR cS)) (CH : Cal P w K mg base (CX1 P w) 6 "how_many" ["code", "text"] (spHowMany K))
    (CD : Cal P w K mg base CX0 2 "_law_due" ["_law_code_here", "_law_text_here", "_law_found"] (spDue K cR cS)) (CN : Cal P w K mg base CX0 1 "_law_numbers" ["_law_found"] (spNumbers K))
    (CT : Cal P w K mg base (CX1 P w) 5 "text_of" ["code", "places"] (spTextOf K)) : FnOk P w K mg base CX0 7 f fd ["_law_script"] (spLaw K) := by
  have sc : FnScope ["_law_script", "_law_code_here", "_law_text_here", "_law_handed", "_law_some", "_law_found"] ["_law_script"] (defScope Pl.s_law) := ⟨rfl, rfl, rfl, by decide +kernel, rfl, by decide +kernel, by decide +kernel⟩
  obtain ⟨fR, fdR, mR, FR, bR⟩ := L.OR.sh
  obtain ⟨fS, fdS, mS, FS, bS⟩ := L.OS.sh
  refine F.ok sc (fun vs H Q E h => ?_) (fun cdv A outer s H vs Q E hr h => ?_)
  · obtain ⟨_, _, rfl, _⟩ := h
    rfl
  · obtain ⟨a, ns, rfl, hS, hlen, k⟩ := h
    have hr1 : Room 1 _ := hr.mono (by decide)
    have hr2 : Room 2 _ := hr.mono (by decide)
    have hr4 : Room 4 _ := hr.mono (by decide)
    have hr5 : Room 5 _ := hr.mono (by decide)
    have hu64 : _ + 64 < cLine := hr.units
    refine ⟨_, pss_cons (ps_set (i := 1) sc.nd rfl (Or.inl rfl) (pe_callF C1 hr1 (pa_cons (pv 0) pa_nil) pass0))
      (pss_cons (ps_set (i := 2) sc.nd rfl (Or.inl rfl) (pe_callF C2 hr1 (pa_cons (pv 1) (pa_cons (pv 0) pa_nil)) pass0))
      (pss_cons (ps_set (i := 3) sc.nd rfl (Or.inl rfl) (pe_callTy call_list_of (by rfl) B.list boot_list (pa_cons (pv 1) pa_nil)))
      (pss_cons (ps_for PassesOwn.never rfl (pi_list (pe_lst (pa_cons (pv 2) (pa_cons (pe_slice (r := rSlS) sl_str (pv 2) (po_some pe_int) po_none) (pa_cons (pe_op op_add_str (pv 2) (pv 2)) (pa_cons pe_str (pa_cons (pv 2) pa_nil))))))) (pg_name (i := 4) sc.nd rfl (Or.inl rfl))
        (pss_cons (ps_set (i := 5) sc.nd rfl (Or.inl rfl) (pe_callF CR hr (pa_cons (pv 3) (pa_cons (pv 4) pa_nil)) passF))
        (pss_cons (ps_if (PW.pt (pw_or (pt_not (pt_val (pe_callB (r := rIsi K) (call_isi_s rfl) (by rfl) B.isi boot_isinstance (pa_cons (pv 5) (pa_cons (pe_glob (v := .ref cA) (by rfl) L.tA rfl) pa_nil))))) (pw_or (pt_cmpR op_eq (pe_callB (r := rIsi K) (call_isi_s rfl) (by rfl) B.isi boot_isinstance (pa_cons (pv 5) (pa_cons (pe_glob (v := .ref cR) (by rfl) L.OR.there rfl) pa_nil))) (pe_callB (r := rIsi K) (call_isi_s rfl) (by rfl) B.isi boot_isinstance (pa_cons (pv 5) (pa_cons (pe_glob (v := .ref cS) (by rfl) L.OS.there rfl) pa_nil))) (nomark _)) (pw_or1 (pt_cmpR (op_neLT (K := K) rfl hu64) (pv 3) (pv 1) (nomark _)))))) (pss_one (ps_ret pe_bl)) pss_nil)
        (pss_cons (ps_if (PW.pt (pw_or (pt_val (pe_callB (r := rIsi K) (call_isi_s rfl) (by rfl) B.isi boot_isinstance (pa_cons (pv 5) (pa_cons (pe_glob (v := .ref cC) (by rfl) L.tC rfl) pa_nil)))) (pw_or1 (pt_val (pe_callB (r := rIsi K) (call_isi_s rfl) (by rfl) B.isi boot_isinstance (pa_cons (pv 5) (pa_cons (pe_glob (v := .ref cT) (by rfl) L.tT rfl) pa_nil))))))) (pss_one (ps_ret pe_bl)) pss_nil)
        (pss_cons (ps_if (pt_cmpR op_ne (pe_cmpR op_gt (pe_callF CH hr (pa_cons (pv 1) (pa_cons (pv 4) pa_nil)) passF) pe_int (nomark _)) (pe_callB (r := rIsi K) (call_isi_s rfl) (by rfl) B.isi boot_isinstance (pa_cons (pv 5) (pa_cons (pe_glob (v := .ref cR) (by rfl) L.OR.there rfl) pa_nil))) (nomark _)) (pss_one (ps_ret pe_bl)) pss_nil)
        (pss_cons (ps_if (PW.pt (pw_or (pt_not (pt_val (pe_callF CD hr2 (pa_cons (pv 1) (pa_cons (pv 4) (pa_cons (pv 5) pa_nil))) pass0))) (pw_or1 (pt_cmpR op_isNotB (pe_either (pe_meth (pv 5) L.OR.cls mR FR hr4 bR .nil pass0 (pa_cons (pv 1) (pa_cons (pv 4) pa_nil))) (pe_meth (pv 5) L.OS.cls mS FS hr4 bS .nil pass0 (pa_cons (pv 1) (pa_cons (pv 4) pa_nil)))) pe_bl (nomark _))))) (pss_one (ps_ret pe_bl)) pss_nil)
        (pss_cons (ps_if (pt_cmpR op_ne (pe_either (pe_meth (pv 5) L.OR.cls mR FR hr4 bR .nil pass0 (pa_cons (pv 1) (pa_cons (pe_rev (pv 2) (pe_un un_neg pe_int)) pa_nil))) (pe_meth (pv 5) L.OS.cls mS FS hr4 bS .nil pass0 (pa_cons (pv 1) (pa_cons (pe_rev (pv 2) (pe_un un_neg pe_int)) pa_nil)))) (pe_callF CD hr2 (pa_cons (pv 1) (pa_cons (pe_rev (pv 2) (pe_un un_neg pe_int)) (pa_cons (pv 5) pa_nil))) pass0) (nomark _)) (pss_one (ps_ret pe_bl)) pss_nil)
        (pss_cons (ps_if (pt_val (pe_callB (r := rIsi K) (call_isi_s rfl) (by rfl) B.isi boot_isinstance (pa_cons (pv 5) (pa_cons (pe_glob (v := .ref cR) (by rfl) L.OR.there rfl) pa_nil)))) (pss_cons (ps_if (PW.pt (pw_or (pt_not (pt_val (pe_callF CN hr1 (pa_cons (pe_fld (pv 5) rfl) pa_nil) pass0))) (pw_or1 (pt_cmpR op_ne (pe_callF CT hr5 (pa_cons (pv 1) (pa_cons (pe_fld (pv 5) rfl) pa_nil)) passF) (pv 4) (nomark _))))) (pss_one (ps_ret pe_bl)) pss_nil) (pss_one (ps_expr (pe_bm PySem.F.plainAttrs_list PySem.F.slot_list_append PySem.F.type_list_append mt_append (pe_fld (pv 5) rfl) (pa_cons (pe_callB call_len_seq (by rfl) B.len PySem.boot_len (pa_cons (pv 1) pa_nil)) pa_nil))))) (pss_cons (ps_if (pt_not (pt_val (pe_callF CN hr1 (pa_cons (pe_fld (pv 5) rfl) pa_nil) pass0))) (pss_one (ps_ret pe_bl)) pss_nil) (pss_one (ps_expr (pe_bm PySem.F.plainAttrs_list PySem.F.slot_list_append PySem.F.type_list_append mt_append (pe_fld (pv 5) rfl) (pa_cons (pe_callB call_len_str (by rfl) B.len PySem.boot_len (pa_cons (pv 4) pa_nil)) pa_nil))))))
        (pss_one (ps_if (pt_cmpR op_isNotB (pe_either (pe_meth (pv 5) L.OR.cls mR FR hr4 bR .nil pass0 (pa_cons (pv 1) (pa_cons (pv 4) pa_nil))) (pe_meth (pv 5) L.OS.cls mS FS hr4 bS .nil pass0 (pa_cons (pv 1) (pa_cons (pv 4) pa_nil)))) pe_bl (nomark _)) (pss_one (ps_ret pe_bl)) pss_nil))))))))))
      (pss_one (ps_ret (pe_cmpR (op_eqLT (K := K) rfl hu64) (pv 3) (pv 1) (nomark _))))))), ?_⟩
    refine ⟨_, rfl, a, ns, rfl, hS, hlen, fun c ws H1 hc x1 hc1 hwl hG => ?_⟩
    refine ⟨_, rfl, _, rfl, c, a, ws, ns, rfl, hc1, hwl, hG, x1.sqL hS, hlen, fun t H2 x2 htz htl => ?_⟩
    have hc2 := x2.lst hc1
    refine ⟨_, rfl, c, _, rfl, .inl (SqL.of hc2), fun h hh => ?_⟩
    have hsz : (st t).length ≤ sizeLine := by rw [st_len]; exact small_line (by omega)
    have tsz : t.length ≤ sizeLine := small_line (by omega)
    have hsz2 : (st t).length + (st t).length ≤ sizeLine := by rw [st_len]; exact small_line (by omega)
    refine ⟨_, rfl, _, rfl, 1, rfl, t, rfl, tsz, _, rfl, _, rfl, st t, st t, rfl, rfl, hsz2, _, rfl, by show 5 ≤ sizeLine; decide, fun l hl => ⟨l, rfl, ⟨_, SqL.of upd_same⟩, ?_⟩⟩
    have eL : [sv t, sv (cutL t (some 1) none), V.str (st t ++ st t), V.str (Str.ofString ""), sv t] = ([t, cutL t (some 1) none, t ++ t, [], t] : List W).map sv := by
      rw [st_app, sE]
      rfl
    rw [eL]
    have hU : ∀ u ∈ ([t, cutL t (some 1) none, t ++ t, [], t] : List W), (∀ z ∈ u, z ∈ az) ∧ u.length ≤ 4000 := by
      intro u hu
      simp only [List.mem_cons, List.not_mem_nil, or_false] at hu
      rcases hu with rfl | rfl | rfl | rfl | rfl
      · exact ⟨htz, by omega⟩
      · exact ⟨fun z hz => htz z (mem_cutL hz), by have := cutL_length t (some 1) none; omega⟩
      · exact ⟨fun z hz => (List.mem_append.mp hz).elim (htz z) (htz z), by rw [List.length_append]; omega⟩
      · exact ⟨(fun z hz => nomatch hz), by simp⟩
      · exact ⟨htz, by omega⟩
    generalize ([t, cutL t (some 1) none, t ++ t, [], t] : List W) = us at hU
    generalize eH : upd (upd H2 h (.lst (ws.map sv))) l (.lst (us.map sv)) = HL
    have hx0 : upd H2 h (.lst (ws.map sv)) l = none := hl
    have C0c : CodeL HL c ws := good_code (by rw [← eH]; exact upd_keep (upd_keep hc2 hh) hx0) hwl hG
    have C0h : CodeL HL h ws := good_code (by rw [← eH]; exact upd_keep upd_same hx0) hwl hG
    have hl0 : HL l = some (.lst (us.map sv)) := by rw [← eH]; exact upd_same
    have haz : ∀ x ∈ ws, ∀ z ∈ x, z ∈ az := fun x hx => (hG x hx).az_
    have fullw : Full ws := C0c.full
    refine for_list (K := K) (a := l) (xs := us.map sv) (fun i σ H3 => (∃ sm fo : Option V, σ = [some (.ref a), some (.ref c), some (sv t), some (.ref h), sm, fo]) ∧ Ext HL H3) ⟨⟨_, _, rfl⟩, Ext.refl _⟩ (fun i σ H3 _ q => SqL.of (q.2.lst hl0)) ?_ ?_
    · rintro i y σ H3 hy ⟨⟨sm, fo, rfl⟩, x3⟩
      rw [List.getElem?_map] at hy
      obtain ⟨u, hu, rfl⟩ := Option.map_eq_some_iff.mp hy
      obtain ⟨huz, hul⟩ := hU u (List.mem_of_getElem? hu)
      have isT : isTextV (sv u) = true := by
        show (u.all fun z => az.contains z) = true
        rw [List.all_eq_true]
        intro z hz
        simpa using huz z hz
      refine ⟨_, rfl, _, rfl, h, ws, u, rfl, C0h.ext x3, isT, by omega, fun o p r H4 an hrd hrl => ?_, fun o p r H4 an hst hrl => ?_⟩
      · obtain ⟨dx, ho4⟩ := an.at_
        have hp4 := an.list
        have x4 := x3.trans an.ext
        have cc4 := C0c.ext x4
        have tlen : (∀ i ∈ r, i < ws.length) → (textOf ws r).length ≤ 1000000 := fun _ => by rw [hrd.2]; omega
        refine ⟨_, rfl, _, _, _, _, rfl, trivial, L.IR.ty ho4, L.rA, _, rfl, iteF ⟨_, rfl, _, _, _, _, rfl, trivial, L.IR.ty ho4, L.rR, _, rfl, _, _, _, _, rfl, trivial, L.IR.ty ho4, L.rS, rfl, _, rfl, iteF' (by decide) ⟨_, rfl, _, rfl, h, c, ws, rfl, rfl, SqL.of (C0h.ext x4).at_, SqL.of cc4.at_, haz, _, rfl, iteF ?_⟩⟩⟩
        refine ⟨_, rfl, _, _, _, _, rfl, trivial, L.IR.ty ho4, L.rC, _, rfl, iteF ⟨_, rfl, _, _, _, _, rfl, trivial, L.IR.ty ho4, L.rT, _, rfl, iteF ?_⟩⟩
        refine ⟨_, rfl, _, rfl, c, ws, u, rfl, cc4, isT, by omega, fun H5 x5 => ?_⟩
        have ho5 := x5.ins ho4
        have hp5 := hp4.ext x5
        have cc5 := cc4.ext x5
        have hw : 0 < waysOf ws u 0 := reads_ways fullw r 0 (Nat.zero_le _) hrd.1 (by rw [hrd.2, List.drop_zero])
        refine ⟨_, _, rfl, rfl, _, rfl, _, _, _, _, rfl, trivial, L.IR.ty ho5, L.rR, rfl, _, rfl, iteF' (by simp [hw]) ?_⟩
        refine ⟨_, rfl, _, rfl, _, rfl, c, o, p, dx, ws, u, r, rfl, cc5, by first | omega | (rw [List.length_reverse]; omega), hp5, .inl ⟨ho5, tlen, fun H6 x6 => ⟨_, rfl, ?_⟩⟩⟩
        rw [decide_eq_true hrd]
        refine iteF ?_
        have ho6 := x6.ins ho5
        have hp6 := hp5.ext x6
        have cc6 := cc5.ext x6
        refine .inl ⟨_, rfl, o, dx, _, rfl, ho6, rfl, _, rfl, _, rfl, o, c, p, dx, ws, u, r, rfl, ho6, hp6, cc6, tlen, fun H7 x7 => ⟨_, _, rfl, rfl, _, rfl, ?_⟩⟩
        rw [decide_eq_true hrd]
        refine iteF ?_
        have ho7 := x7.ins ho6
        have hp7 := hp6.ext x7
        have cc7 := cc6.ext x7
        refine .inl ⟨_, rfl, o, dx, _, rfl, ho7, rfl, _, rfl, _, rfl, 1, rfl, t, rfl, rfl, tsz, o, c, p, dx, ws, t.reverse, r, rfl, ho7, hp7, cc7, tlen, fun H8 x8 => ?_⟩
        have ho8 := x8.ins ho7
        have hp8 := hp7.ext x8
        have cc8 := cc7.ext x8
        refine ⟨_, rfl, _, rfl, 1, rfl, t, rfl, rfl, tsz, _, rfl, c, o, p, dx, ws, t.reverse, r, rfl, cc8, by first | omega | (rw [List.length_reverse]; omega), hp8, .inl ⟨ho8, tlen, fun H9 x9 => ⟨rfl, _, rfl, iteF' (by simp) ?_⟩⟩⟩
        have ho9 := x9.ins ho8
        have hp9 := hp8.ext x9
        have cc9 := cc8.ext x9
        refine ⟨_, rfl, _, _, _, _, rfl, trivial, L.IR.ty ho9, L.rR, _, rfl, iteT ?_⟩
        refine ⟨_, rfl, o, cR, dx, _, .ref p, rfl, ho9, L.OR.cls, L.OR.na, rfl, p, r, rfl, hp9.1, hp9.2, fun H10 x10 => ⟨_, rfl, iteF ?_⟩⟩
        have ho10 := x10.ins ho9
        have hp10 := hp9.ext x10
        have cc10 := cc9.ext x10
        refine ⟨_, rfl, _, rfl, o, cR, dx, _, .ref p, rfl, ho10, L.OR.cls, L.OR.na, rfl, c, p, ws, r, rfl, cc10, hp10, hrd.1, tlen hrd.1, fun H11 x11 => ⟨_, rfl, rfl, _, rfl, iteF' (by rw [hrd.2]; simp) ?_⟩⟩
        have ho11 := x11.ins ho10
        have hp11 := hp10.ext x11
        have cc11 := cc10.ext x11
        have pl : (intsV r).length < sizeLine := by rw [List.length_map]; exact small1000000 (by omega)
        refine ⟨_, rfl, o, cR, dx, _, .ref p, rfl, ho11, L.OR.cls, L.OR.na, rfl, .inl ⟨rfl, _, SqL.of hp11.1⟩, _, rfl, c, _, rfl, .inl (SqL.of cc11.at_), p, _, _, rfl, rfl, hp11.1, pl, ?_⟩
        have xx := x4.trans (((((x5.trans x6).trans x7).trans x8).trans x9).trans (x10.trans x11))
        have HLp : HL p = none := x3.free an.newP
        have ho12 := upd_k (u := HO.lst (intsV r ++ [V.int ((ws.map sv).length : Int)])) ho11 (ne_of ho11 hp11.1 (by simp))
        have hp12 : IntsL (upd H11 p (HO.lst (intsV r ++ [V.int ((ws.map sv).length : Int)]))) p (r ++ [ws.length]) := ⟨by rw [upd_same, List.length_map, intsV, intsV, List.map_append]; rfl, by rw [List.length_append, List.length_singleton]; omega⟩
        have x12 : Ext HL (upd H11 p (HO.lst (intsV r ++ [V.int ((ws.map sv).length : Int)]))) := xx.over HLp
        have cc12 := C0c.ext x12
        have tlen2 : (∀ i ∈ r ++ [ws.length], i < ws.length) → (textOf ws (r ++ [ws.length])).length ≤ 1000000 := fun z => absurd (z ws.length (List.mem_append_right _ (List.mem_singleton.mpr rfl))) (Nat.lt_irrefl _)
        have no : ¬ Reads ws u (r ++ [ws.length]) := fun z => Nat.lt_irrefl _ (z.1 ws.length (List.mem_append_right _ (List.mem_singleton.mpr rfl)))
        refine .inl ⟨_, rfl, o, dx, _, rfl, ho12, rfl, _, rfl, _, rfl, o, c, p, dx, ws, u, r ++ [ws.length], rfl, ho12, hp12, cc12, tlen2, fun H13 x13 => ⟨_, _, rfl, rfl, _, rfl, ?_⟩⟩
        rw [decide_eq_false no]
        exact iteF ⟨⟨_, _, rfl⟩, x12.trans x13⟩
      · obtain ⟨dx, ho4⟩ := an.at_
        have hp4 := an.list
        have x4 := x3.trans an.ext
        have cc4 := C0c.ext x4
        refine ⟨_, rfl, _, _, _, _, rfl, trivial, L.IS.ty ho4, L.sA, _, rfl, iteF ⟨_, rfl, _, _, _, _, rfl, trivial, L.IS.ty ho4, L.sR, _, rfl, _, _, _, _, rfl, trivial, L.IS.ty ho4, L.sS, rfl, _, rfl, iteF' (by decide) ⟨_, rfl, _, rfl, h, c, ws, rfl, rfl, SqL.of (C0h.ext x4).at_, SqL.of cc4.at_, haz, _, rfl, iteF ?_⟩⟩⟩
        refine ⟨_, rfl, _, _, _, _, rfl, trivial, L.IS.ty ho4, L.sC, _, rfl, iteF ⟨_, rfl, _, _, _, _, rfl, trivial, L.IS.ty ho4, L.sT, _, rfl, iteF ?_⟩⟩
        refine ⟨_, rfl, _, rfl, c, ws, u, rfl, cc4, isT, by omega, fun H5 x5 => ?_⟩
        have ho5 := x5.ins ho4
        have hp5 := hp4.ext x5
        have cc5 := cc4.ext x5
        have hw : waysOf ws u 0 = 0 := stk_ways fullw hst
        refine ⟨_, _, rfl, rfl, _, rfl, _, _, _, _, rfl, trivial, L.IS.ty ho5, L.sR, rfl, _, rfl, iteF' (by dsimp only; rw [hw]; decide) ?_⟩
        refine ⟨_, rfl, _, rfl, _, rfl, c, o, p, dx, ws, u, r, rfl, cc5, by first | omega | (rw [List.length_reverse]; omega), hp5, .inr ⟨ho5, fun H6 x6 => ⟨_, rfl, ?_⟩⟩⟩
        rw [decide_eq_true hst]
        refine iteF ?_
        have ho6 := x6.ins ho5
        have hp6 := hp5.ext x6
        have cc6 := cc5.ext x6
        refine .inr ⟨_, rfl, o, dx, _, rfl, ho6, rfl, _, rfl, _, rfl, o, c, p, dx, ws, u, r, rfl, ho6, hp6, cc6, by first | omega | (rw [List.length_reverse]; omega), fun H7 x7 => ⟨_, _, rfl, rfl, _, rfl, ?_⟩⟩
        rw [decide_eq_true hst]
        refine iteF ?_
        have ho7 := x7.ins ho6
        have hp7 := hp6.ext x7
        have cc7 := cc6.ext x7
        refine .inr ⟨_, rfl, o, dx, _, rfl, ho7, rfl, _, rfl, _, rfl, 1, rfl, t, rfl, rfl, tsz, o, c, p, dx, ws, t.reverse, r, rfl, ho7, hp7, cc7, by first | omega | (rw [List.length_reverse]; omega), fun H8 x8 => ?_⟩
        have ho8 := x8.ins ho7
        have hp8 := hp7.ext x8
        have cc8 := cc7.ext x8
        refine ⟨_, rfl, _, rfl, 1, rfl, t, rfl, rfl, tsz, _, rfl, c, o, p, dx, ws, t.reverse, r, rfl, cc8, by first | omega | (rw [List.length_reverse]; omega), hp8, .inr ⟨ho8, fun H9 x9 => ⟨rfl, _, rfl, iteF' (by simp) ?_⟩⟩⟩
        have ho9 := x9.ins ho8
        have hp9 := hp8.ext x9
        have cc9 := cc8.ext x9
        refine ⟨_, rfl, _, _, _, _, rfl, trivial, L.IS.ty ho9, L.sR, _, rfl, iteF ?_⟩
        refine ⟨_, rfl, o, cS, dx, _, .ref p, rfl, ho9, L.OS.cls, L.OS.na, rfl, p, r, rfl, hp9.1, hp9.2, fun H10 x10 => ⟨_, rfl, iteF ?_⟩⟩
        have ho10 := x10.ins ho9
        have hp10 := hp9.ext x10
        have cc10 := cc9.ext x10
        have x11 : Ext H10 H10 := Ext.refl _
        have ho11 := x11.ins ho10
        have hp11 := hp10.ext x11
        have cc11 := cc10.ext x11
        have pl : (intsV r).length < sizeLine := by rw [List.length_map]; exact small1000000 (by omega)
        refine ⟨_, rfl, o, cS, dx, _, .ref p, rfl, ho11, L.OS.cls, L.OS.na, rfl, .inl ⟨rfl, _, SqL.of hp11.1⟩, _, rfl, st u, rfl, by rw [st_len]; exact small_line (by omega), p, _, _, rfl, rfl, hp11.1, pl, ?_⟩
        have xx := x4.trans (((((x5.trans x6).trans x7).trans x8).trans x9).trans (x10.trans x11))
        have HLp : HL p = none := x3.free an.newP
        have ho12 := upd_k (u := HO.lst (intsV r ++ [V.int ((st u).length : Int)])) ho11 (ne_of ho11 hp11.1 (by simp))
        have hp12 : IntsL (upd H10 p (HO.lst (intsV r ++ [V.int ((st u).length : Int)]))) p (r ++ [u.length]) := ⟨by rw [upd_same, st_len, intsV, intsV, List.map_append]; rfl, by rw [List.length_append, List.length_singleton]; omega⟩
        have x12 : Ext HL (upd H10 p (HO.lst (intsV r ++ [V.int ((st u).length : Int)]))) := xx.over HLp
        have cc12 := C0c.ext x12
        have no : ¬ Stk ws u (r ++ [u.length]) := fun z => z.2.2.1 (List.mem_append_right _ (List.mem_singleton.mpr rfl))
        refine .inr ⟨_, rfl, o, dx, _, rfl, ho12, rfl, _, rfl, _, rfl, o, c, p, dx, ws, u, r ++ [u.length], rfl, ho12, hp12, cc12, by first | omega | (rw [List.length_reverse]; omega), fun H13 x13 => ⟨_, _, rfl, rfl, _, rfl, ?_⟩⟩
        rw [decide_eq_false no]
        exact iteF ⟨⟨_, _, rfl⟩, x12.trans x13⟩
    · rintro σ H3 ⟨⟨sm, fo, rfl⟩, x3⟩
      exact ⟨_, rfl, _, rfl, h, c, ws, rfl, rfl, SqL.of (C0h.ext x3).at_, SqL.of (C0c.ext x3).at_, haz, k H3⟩

end
end L2


set_option Elab.async false
set_option linter.all false
set_option maxRecDepth 100000
set_option maxHeartbeats 4000000
namespace L2
open PySem PySem.Spec PyProof.Rows Tw
/-! ### what the top has written -/
/-- a def stands in the part that is written out -/
def DefIn (K : PySem.W.Frag) (x : Str) (st : Stmt) (f : Addr) : Prop := PySem.W.nsIn K mainGlobals x = some (some (.ref f)) ∧
  ∃ (oc : Value) (od : Option Addr) (kV doc pm : Value) (an : Option Addr) (cdv ct : Value) (osl : Array (Option Value)), K.lookup f = some ⟨oc, od, .func (PySem.W.fnOf x x (defArgs st) (defBody st) (defScope st) .none kV doc pm an cdv ct), osl⟩ ∧
    PySem.W.codeIn K cdv x = true ∧ PySem.W.keepIn K (.ref f) = true
theorem DefIn.is {K : PySem.W.Frag} {h : Heap} {mg : Str → Option Value} {x : Str} {st : Stmt} {ps : List Str} (X : K.In h) (G : h.Ns mainGlobals mg) (d : ∃ f, DefIn K x st f)
    (hb : ∀ (kV doc pm : Value) (an : Option Addr) (cdv ct : Value) (us : List Value), us.length = ps.length → bindArgs (PySem.W.fnOf x x (defArgs st) (defBody st) (defScope st) .none kV doc pm an cdv ct) ⟨us, []⟩ = pure (ps.zip us)) : Def K mg x x st ps := by
  obtain ⟨f, a, oc, od, kV, doc, pm, an, cdv, ct, osl, l, c, k⟩ := d
  have F := fun_mk (x := x) (qual := x) (st := st) l c k
  exact ⟨f, _, F, PySem.W.mg_of X G a, k, F.binds hb⟩
theorem DefIn.mk {K : PySem.W.Frag} {x : Str} {st : Stmt} {f : Addr} {oc : Value} {od : Option Addr} {kV doc pm : Value} {an : Option Addr} {cdv ct : Value} {osl : Array (Option Value)} (a : PySem.W.nsIn K mainGlobals x = some (some (.ref f)))
    (l : K.lookup f = some ⟨oc, od, .func (PySem.W.fnOf x x (defArgs st) (defBody st) (defScope st) .none kV doc pm an cdv ct), osl⟩) (c : PySem.W.codeIn K cdv x = true) (k : PySem.W.keepIn K (.ref f) = true) : ∃ f, DefIn K x st f :=
  ⟨f, a, oc, od, kV, doc, pm, an, cdv, ct, osl, l, c, k⟩
theorem letters_mk {K : PySem.W.Frag} {x : Str} {t : Tok} (a : PySem.W.nsIn K mainGlobals "LETTERS" = some (some (.str x t))) (e : x = Str.ofString "abcdefghijklmnopqrstuvwxyz") :
    ∃ x t, PySem.W.nsIn K mainGlobals "LETTERS" = some (some (.str x t)) ∧ x = Str.ofString "abcdefghijklmnopqrstuvwxyz" := ⟨x, t, a, e⟩
theorem longest_mk {K : PySem.W.Frag} {x : Int} {t : Tok} (a : PySem.W.nsIn K mainGlobals "LONGEST" = some (some (.int x t))) (e : x = 100) : ∃ x t, PySem.W.nsIn K mainGlobals "LONGEST" = some (some (.int x t)) ∧ x = 100 := ⟨x, t, a, e⟩
/-- a class of refusals stands there -/
structure RefIn (K : PySem.W.Frag) (x : Str) (C : Addr) : Prop where
  a : PySem.W.nsIn K mainGlobals x = some (some (.ref C))
  ok : PySem.W.excIn K C bmVE "ValueError.__new__" = true
/-- a method of the class at C -/
def MthIn (K : PySem.W.Frag) (C : Addr) (m qual : Str) (st : Stmt) (f : Addr) (fd : FuncData) : Prop := PySem.W.findIn K (.ref C) m = some (some (.ref f)) ∧ PySem.W.isFn K (.ref f) = true ∧ Fun K m qual st f fd
/-- what an answer's class shows -/
structure AnsIn (K : PySem.W.Frag) (C : Addr) (fld : Str) (cA cR cS cC cT : Addr) (bR bS : Bool) : Prop where
  cl : Cls K C
  mak : PySem.W.makesIn K C = true
  kp : PySem.W.keepIn K (.ref C) = true
  na : NoAttr K C fld
  ty : InsTy K C
  kA : PySem.W.kitOne K (.ref C) (.ref cA) = some true
  kR : PySem.W.kitOne K (.ref C) (.ref cR) = some bR
  kS : PySem.W.kitOne K (.ref C) (.ref cS) = some bS
  kC : PySem.W.kitOne K (.ref C) (.ref cC) = some false
  kT : PySem.W.kitOne K (.ref C) (.ref cT) = some false
theorem all_mk {l : PySem.W.OpenLaw} {w : World} {K : PySem.W.Frag} {h : Heap} {mg : Str → Option Value} {fa : Addr} (X : K.In h) (G : h.Ns mainGlobals mg) (hfa : mg "law" = some (.ref fa))
    (d0 : ∃ f, DefIn K "is_whole" Pl.s_is_whole f)
    (d1 : ∃ f, DefIn K "is_word" Pl.s_is_word f)
    (d2 : ∃ f, DefIn K "are_words" Pl.s_are_words f)
    (d3 : ∃ f, DefIn K "is_code" Pl.s_is_code f)
    (d4 : ∃ f, DefIn K "is_place" Pl.s_is_place f)
    (d5 : ∃ f, DefIn K "are_places" Pl.s_are_places f)
    (d6 : ∃ f, DefIn K "words_at" Pl.s_words_at f)
    (d7 : ∃ f, DefIn K "joined" Pl.s_joined f)
    (d8 : ∃ f, DefIn K "check_code" Pl.s_check_code f)
    (d9 : ∃ f, DefIn K "text_of" Pl.s_text_of f)
    (d10 : ∃ f, DefIn K "noted" Pl.s_noted f)
    (d11 : ∃ f, DefIn K "grouped" Pl.s_grouped f)
    (d12 : ∃ f, DefIn K "standing" Pl.s_standing f)
    (d13 : ∃ f, DefIn K "marks_behind" Pl.s_marks_behind f)
    (d14 : ∃ f, DefIn K "unrolled" Pl.s_unrolled f)
    (d15 : ∃ f, DefIn K "copied" Pl.s_copied f)
    (d16 : ∃ f, DefIn K "marks_closed" Pl.s_marks_closed f)
    (d17 : ∃ f, DefIn K "check_asked" Pl.s_check_asked f)
    (d18 : ∃ f, DefIn K "chains_to_marks" Pl.s_chains_to_marks f)
    (d19 : ∃ f, DefIn K "read" Pl.s_read f)
    (d20 : ∃ f, DefIn K "ways_from_marks" Pl.s_ways_from_marks f)
    (d21 : ∃ f, DefIn K "how_many" Pl.s_how_many f)
    (d22 : ∃ f, DefIn K "_law_code" Pl.s_law_code f)
    (d23 : ∃ f, DefIn K "_law_stands" Pl.s_law_stands f)
    (d24 : ∃ f, DefIn K "_law_numbers" Pl.s_law_numbers f)
    (d25 : ∃ f, DefIn K "_law_text" Pl.s_law_text f)
    (d26 : ∃ f, DefIn K "_law_due" Pl.s_law_due f)
    (d27 : ∃ f, DefIn K "law" Pl.s_law f)
    (b0 : PySem.W.nsIn K mainGlobals "isinstance" = some none)
    (b1 : PySem.W.nsIn K mainGlobals "int" = some none)
    (b2 : PySem.W.nsIn K mainGlobals "bool" = some none)
    (b3 : PySem.W.nsIn K mainGlobals "str" = some none)
    (b4 : PySem.W.nsIn K mainGlobals "list" = some none)
    (b5 : PySem.W.nsIn K mainGlobals "dict" = some none)
    (b6 : PySem.W.nsIn K mainGlobals "all" = some none)
    (b7 : PySem.W.nsIn K mainGlobals "any" = some none)
    (b8 : PySem.W.nsIn K mainGlobals "len" = some none)
    (b9 : PySem.W.nsIn K mainGlobals "range" = some none)
    (b10 : PySem.W.nsIn K mainGlobals "sorted" = some none)
    (b11 : PySem.W.nsIn K mainGlobals "sum" = some none)
    (b12 : PySem.W.nsIn K mainGlobals "enumerate" = some none)
    (b13 : PySem.W.nsIn K mainGlobals "max" = some none)
    (b14 : PySem.W.nsIn K mainGlobals "ValueError" = some none)
    (gL : ∃ x t, PySem.W.nsIn K mainGlobals "LETTERS" = some (some (.str x t)) ∧ x = Str.ofString "abcdefghijklmnopqrstuvwxyz") {c0 c1 cA cR cS cC cT : Addr}
    (r0 : RefIn K "BadCode" c0) (r1 : RefIn K "BadText" c1)
    (tA : PySem.W.nsIn K mainGlobals "Answer" = some (some (.ref cA)))
    (tR : PySem.W.nsIn K mainGlobals "Reading" = some (some (.ref cR)))
    (tS : PySem.W.nsIn K mainGlobals "Stuck" = some (some (.ref cS)))
    (tC : PySem.W.nsIn K mainGlobals "Clash" = some (some (.ref cC)))
    (tT : PySem.W.nsIn K mainGlobals "Tails" = some (some (.ref cT)))
    (aR : AnsIn K cR "places" cA cR cS cC cT true false) (aS : AnsIn K cS "marks" cA cR cS cC cT false true)
    (m0 : ∃ f fd, MthIn K cR "__init__" "Reading.__init__" Pl.c_Reading_init f fd)
    (m1 : ∃ f fd, MthIn K cR "shows" "Reading.shows" Pl.c_Reading_shows f fd)
    (m2 : ∃ f fd, MthIn K cS "__init__" "Stuck.__init__" Pl.c_Stuck_init f fd)
    (m3 : ∃ f fd, MthIn K cS "shows" "Stuck.shows" Pl.c_Stuck_shows f fd)
    : ∃ fd : FuncData, (∀ (s : Shared) (v : Value), BindsTo s fd ⟨[v], []⟩ [("_law_script", v)]) ∧ ∀ base : Heap, K.In base → base.Ns mainGlobals mg → FnOk l.prog w K mg base CX0 7 fa fd ["_law_script"] (spLaw K) := by
  have B : Bare mg := ⟨PySem.W.mg_none_of X G b0, PySem.W.mg_none_of X G b1, PySem.W.mg_none_of X G b2, PySem.W.mg_none_of X G b3, PySem.W.mg_none_of X G b4, PySem.W.mg_none_of X G b5, PySem.W.mg_none_of X G b6, PySem.W.mg_none_of X G b7, PySem.W.mg_none_of X G b8, PySem.W.mg_none_of X G b9, PySem.W.mg_none_of X G b10, PySem.W.mg_none_of X G b11, PySem.W.mg_none_of X G b12, PySem.W.mg_none_of X G b13, PySem.W.mg_none_of X G b14⟩
  have L : ∃ t, mg "LETTERS" = some (.str "abcdefghijklmnopqrstuvwxyz" t) := by
    obtain ⟨x, t, e, rfl⟩ := gL
    exact ⟨t, PySem.W.mg_of X G e⟩
  have Z0 : Exc K mg "BadCode" c0 := ⟨PySem.W.mg_of X G r0.a, r0.ok⟩
  have Z1 : Exc K mg "BadText" c1 := ⟨PySem.W.mg_of X G r1.a, r1.ok⟩
  have D_is_whole := DefIn.is (ps := ["value"]) X G d0 fun _ _ _ _ _ _ us hl => match us, hl with | [_], _ => rfl
  have D_is_word := DefIn.is (ps := ["value", "letters"]) X G d1 fun _ _ _ _ _ _ us hl => match us, hl with | [_, _], _ => rfl
  have D_are_words := DefIn.is (ps := ["values", "letters"]) X G d2 fun _ _ _ _ _ _ us hl => match us, hl with | [_, _], _ => rfl
  have D_is_code := DefIn.is (ps := ["value"]) X G d3 fun _ _ _ _ _ _ us hl => match us, hl with | [_], _ => rfl
  have D_is_place := DefIn.is (ps := ["value", "count"]) X G d4 fun _ _ _ _ _ _ us hl => match us, hl with | [_, _], _ => rfl
  have D_are_places := DefIn.is (ps := ["values", "count"]) X G d5 fun _ _ _ _ _ _ us hl => match us, hl with | [_, _], _ => rfl
  have D_words_at := DefIn.is (ps := ["code", "places"]) X G d6 fun _ _ _ _ _ _ us hl => match us, hl with | [_, _], _ => rfl
  have D_joined := DefIn.is (ps := ["code", "places"]) X G d7 fun _ _ _ _ _ _ us hl => match us, hl with | [_, _], _ => rfl
  have D_check_code := DefIn.is (ps := ["value"]) X G d8 fun _ _ _ _ _ _ us hl => match us, hl with | [_], _ => rfl
  have D_text_of := DefIn.is (ps := ["code", "places"]) X G d9 fun _ _ _ _ _ _ us hl => match us, hl with | [_, _], _ => rfl
  have D_noted := DefIn.is (ps := ["values"]) X G d10 fun _ _ _ _ _ _ us hl => match us, hl with | [_], _ => rfl
  have D_grouped := DefIn.is (ps := ["words"]) X G d11 fun _ _ _ _ _ _ us hl => match us, hl with | [_], _ => rfl
  have D_standing := DefIn.is (ps := ["groups", "text", "mark"]) X G d12 fun _ _ _ _ _ _ us hl => match us, hl with | [_, _, _], _ => rfl
  have D_marks_behind := DefIn.is (ps := ["groups", "text", "mark"]) X G d13 fun _ _ _ _ _ _ us hl => match us, hl with | [_, _, _], _ => rfl
  have D_unrolled := DefIn.is (ps := ["chain"]) X G d14 fun _ _ _ _ _ _ us hl => match us, hl with | [_], _ => rfl
  have D_copied := DefIn.is (ps := ["value"]) X G d15 fun _ _ _ _ _ _ us hl => match us, hl with | [_], _ => rfl
  have D_marks_closed := DefIn.is (ps := ["code", "text", "known"]) X G d16 fun _ _ _ _ _ _ us hl => match us, hl with | [_, _, _], _ => rfl
  have D_check_asked := DefIn.is (ps := ["code", "text"]) X G d17 fun _ _ _ _ _ _ us hl => match us, hl with | [_, _], _ => rfl
  have D_chains_to_marks := DefIn.is (ps := ["groups", "text"]) X G d18 fun _ _ _ _ _ _ us hl => match us, hl with | [_, _], _ => rfl
  have D_read := DefIn.is (ps := ["code", "text"]) X G d19 fun _ _ _ _ _ _ us hl => match us, hl with | [_, _], _ => rfl
  have D_ways_from_marks := DefIn.is (ps := ["groups", "text", "kept"]) X G d20 fun _ _ _ _ _ _ us hl => match us, hl with | [_, _, _], _ => rfl
  have D_how_many := DefIn.is (ps := ["code", "text"]) X G d21 fun _ _ _ _ _ _ us hl => match us, hl with | [_, _], _ => rfl
  have D_law_code := DefIn.is (ps := ["_law_script"]) X G d22 fun _ _ _ _ _ _ us hl => match us, hl with | [_], _ => rfl
  have D_law_stands := DefIn.is (ps := ["_law_word", "_law_text_here", "_law_at"]) X G d23 fun _ _ _ _ _ _ us hl => match us, hl with | [_, _, _], _ => rfl
  have D_law_numbers := DefIn.is (ps := ["_law_found"]) X G d24 fun _ _ _ _ _ _ us hl => match us, hl with | [_], _ => rfl
  have D_law_text := DefIn.is (ps := ["_law_code_here", "_law_script"]) X G d25 fun _ _ _ _ _ _ us hl => match us, hl with | [_, _], _ => rfl
  have D_law_due := DefIn.is (ps := ["_law_code_here", "_law_text_here", "_law_found"]) X G d26 fun _ _ _ _ _ _ us hl => match us, hl with | [_, _, _], _ => rfl
  obtain ⟨g0, gd0, ga0, gf0, F0⟩ := m0
  have B0 := F0.binds (ps := ["self", "places"]) fun _ _ _ _ _ _ us hl => match us, hl with | [_, _], _ => rfl
  obtain ⟨g1, gd1, ga1, gf1, F1⟩ := m1
  have B1 := F1.binds (ps := ["self", "code", "text"]) fun _ _ _ _ _ _ us hl => match us, hl with | [_, _, _], _ => rfl
  obtain ⟨g2, gd2, ga2, gf2, F2⟩ := m2
  have B2 := F2.binds (ps := ["self", "marks"]) fun _ _ _ _ _ _ us hl => match us, hl with | [_, _], _ => rfl
  obtain ⟨g3, gd3, ga3, gf3, F3⟩ := m3
  have B3 := F3.binds (ps := ["self", "code", "text"]) fun _ _ _ _ _ _ us hl => match us, hl with | [_, _, _], _ => rfl
  obtain ⟨f, a, oc, od, kV, doc, pm, an, cdv, ct, osl, lk, c, k⟩ := d27
  have e := hfa.symm.trans (PySem.W.mg_of X G a)
  cases e
  have FL := fun_mk (x := "law") (qual := "law") (st := Pl.s_law) lk c k
  refine ⟨PySem.W.fnOf "law" "law" (defArgs Pl.s_law) (defBody Pl.s_law) (defScope Pl.s_law) .none kV doc pm an cdv ct, fun s v => .of_eq rfl, fun base _ _ => ?_⟩
  have Cwhole := ok_is_whole (P := l.prog) (w := w) (base := base) D_is_whole B
  have Cword := ok_is_word (P := l.prog) (w := w) (base := base) D_is_word B
  have Cwords := ok_are_words D_are_words B Cword
  have Ccode := ok_is_code D_is_code L Cwords
  have Cplace := ok_is_place D_is_place Cwhole
  have Cplaces := ok_are_places D_are_places B Cplace
  have Cwat := ok_words_at (P := l.prog) (w := w) (base := base) D_words_at
  have Cjoin := ok_joined D_joined Cwat
  have Cchk := ok_check_code D_check_code Z0 Ccode
  have Cask := ok_check_asked D_check_asked B L Z1 Cchk
  have Cgrp := ok_grouped (P := l.prog) (w := w) (base := base) D_grouped B
  have Cstd := ok_standing (P := l.prog) (w := w) (base := base) D_standing B
  have Cways := ok_ways D_ways_from_marks B Cstd
  have Chow := ok_how_many D_how_many B Cask Cgrp Cways
  have Ctext := ok_text_of2 D_text_of B Cchk Cplaces Cjoin
  have Cnot := ok_noted (P := l.prog) (w := w) (base := base) D_noted B
  have Cbeh := ok_behind D_marks_behind Cstd
  have Cunr := ok_unrolled (P := l.prog) (w := w) (base := base) D_unrolled
  have Ccop := ok_copied (P := l.prog) (w := w) (base := base) D_copied B
  have Cclo := ok_closed D_marks_closed Cgrp Cbeh
  have Ccha := ok_chains D_chains_to_marks B Cstd
  have OR : OneF l.prog w K mg base "Reading" cR "places" (spShowsR cR) := ⟨PySem.W.mg_of X G tR, aR.cl, aR.na, ⟨g0, gd0, ⟨aR.mak, ga0, gf0, aR.kp⟩, ok_initReading F0 aR.cl aR.na Ccop, B0⟩, ⟨g1, gd1, ⟨ga1, gf1, F1.kp⟩, ok_showsR F1 B aR.cl aR.na Ccode Cplaces Cjoin, B1⟩⟩
  have OS : OneF l.prog w K mg base "Stuck" cS "marks" (spShowsS cS) := ⟨PySem.W.mg_of X G tS, aS.cl, aS.na, ⟨g2, gd2, ⟨aS.mak, ga2, gf2, aS.kp⟩, ok_initStuck F2 aS.cl aS.na Ccop, B2⟩, ⟨g3, gd3, ⟨ga3, gf3, F3.kp⟩, ok_showsS F3 B aS.cl aS.na Ccode Cplaces Cnot Cclo, B3⟩⟩
  have CL : Clss l.prog w K mg base cA cR cS cC cT := ⟨OR, OS, aR.ty, aS.ty, PySem.W.mg_of X G tA, PySem.W.mg_of X G tC, PySem.W.mg_of X G tT, aR.kA, aR.kR, aR.kS, aR.kC, aR.kT, aS.kA, aS.kR, aS.kS, aS.kC, aS.kT⟩
  have Cread := ok_read D_read B Cask Cgrp Ccha Cunr OR OS
  have Lst := ok_stands (P := l.prog) (w := w) (base := base) D_law_stands B
  have Lnu := ok_numbers (P := l.prog) (w := w) (base := base) D_law_numbers B
  have Llc := ok_law_code (P := l.prog) (w := w) (base := base) D_law_code B
  have Llt := ok_law_text (P := l.prog) (w := w) (base := base) D_law_text B
  have Ldu := ok_due D_law_due B OR.there aR.ty aS.ty aR.na aS.na aR.kR aS.kR Lst
  exact ok_law2 FL B CL Llc Llt Cread Chow Ldu Lnu Ctext
end L2


set_option Elab.async false
set_option linter.all false
set_option maxRecDepth 100000
set_option maxHeartbeats 0
namespace L2
open PySem PySem.Spec PySem.W PyProof.Rows Tw
/-! ### the top's run, over trees: one look of the kernel's, no part of the heap is written out -/
/-- a step that is let by -/
def letT (tb : String → Option Builtin) (p : Program) (w : World) (m : Nat) (ann : Option Value) (x : SharedT × Thread) : Option (SharedT × Thread) := bif stepOk m ann x.2 then stepT (denote tb) p w x.1 x.2 else none
/-- steps until the top is through, k at the most -/
def runT (tb : String → Option Builtin) (p : Program) (w : World) (m : Nat) (ann : Option Value) (k : Nat) : SharedT × Thread → Option SharedT :=
  Nat.rec (fun _ => none) (fun _ more x => bif through x.2 then some x.1 else (letT tb p w m ann x).bind more) k
theorem letT_let {tb : String → Option Builtin} {p : Program} {w : World} {m : Nat} {ann : Option Value} {x y : SharedT × Thread} (h : letT tb p w m ann x = some y) : stepOk m ann x.2 = true ∧ step (denote tb) p w x.1.abs x.2 = .go y.1.abs y.2 := by
  unfold letT at h
  cases q : stepOk m ann x.2 <;> rw [q] at h
  · exact nomatch h
  · exact ⟨rfl, stepT_spec h⟩
theorem runT_spec {tb : String → Option Builtin} {p : Program} {w : World} {m : Nat} {ann : Option Value} {r : SharedT} (k : Nat) : ∀ x : SharedT × Thread, runT tb p w m ann k x = some r → topRun tb p w m ann k x.1.abs x.2 = some r.abs := by
  induction k with
  | zero => exact fun x h => nomatch h
  | succ k ih =>
    intro x h
    have h : (bif through x.2 then some x.1 else (letT tb p w m ann x).bind (runT tb p w m ann k)) = some r := h
    rw [topRun]
    cases q : through x.2 <;> rw [q] at h
    · obtain ⟨y, e1, e2⟩ := Option.bind_eq_some_iff.mp h
      obtain ⟨o1, o2⟩ := letT_let e1
      rw [o1, o2]
      exact ih y e2
    · exact congrArg some (congrArg SharedT.abs (Option.some.inj h))
noncomputable def bootT (P : Params) : BT := (.node (boot_o_0 P) (.node (boot_o_1 P) (.node (boot_o_3 P) (.node (boot_o_7 P) .nil .nil) .nil) (.node (boot_o_5 P) (.node (boot_o_9 P) .nil .nil) .nil)) (.node (boot_o_2 P) (.node (boot_o_4 P) (.node (boot_o_8 P) .nil .nil) .nil) (.node (boot_o_6 P) (.node (boot_o_10 P) .nil .nil) .nil)))
noncomputable def S0T (w : World) (os : OsState) : SharedT := ⟨bootT w.params, 11, {}, #[], boot_drawn, boot_toks, os⟩
theorem S0T_abs (w : World) (os : OsState) : (S0T w os).abs = ⟨boot_heap w.params, Array.mk [], boot_drawn, boot_toks, os⟩ := by kernel_rfl
noncomputable def topT (p : Program) (w : World) (os : OsState) : Option SharedT := runT treeTable p w 11 (some (.ref 6)) 20000 (S0T w os, topStub p)
noncomputable def okT (p : Program) (w : World) (s : Shared) : Bool := staticsOk (importedModules p.main.body) (boot_heap w.params) s.heap && namesBound p s.heap && gensDone s && laidKept (boot_heap w.params) s.heap
theorem shared_eq {a : Shared} {h : Heap} {g : Array GenState} {d : Drawn} {t : Nat} (e1 : h = a.heap) (e2 : g = a.gens) (e3 : d = a.drawn) (e4 : t = a.toks) : (⟨h, g, d, t, a.os⟩ : Shared) = a := by
  cases a
  subst e1 e2 e3 e4
  rfl
theorem ends_of {tb : String → Option Builtin} {p : Program} {w : World} {N m : Nat} {ann : Option Value} {a r : Shared} (ha : fencedOpening tb p w N = some a) (h1 : (a.heap.isNs mainGlobals && a.gens.size == 0) = true) (h2 : a.heap.objs.size = m) (h3 : a.heap.nsMap mainGlobals "__annotations__" = ann)
    (run : topRun tb p w m ann N a (topStub p) = some r) (ok : (staticsOk (importedModules p.main.body) a.heap r.heap && namesBound p r.heap && gensDone r && laidKept a.heap r.heap) = true) : openEnds tb p w N = some r := by
  subst h2 h3
  rw [openEnds, ha, Option.bind_some, topFrom, h1]
  dsimp only
  rw [run, Option.bind_some, ok]
theorem left_of {p q : Program} {Xt : Shared → Bool} {α : Type} {Yf : Shared → α} {Ya : World → α}
    (open_ : ∀ w : World, (fencedOpening treeTable p w 20000).map (fun s => (s.heap, s.gens, s.drawn, s.toks)) = some (boot_heap w.params, Array.mk [], boot_drawn, boot_toks))
    (size : ∀ w : World, ((boot_heap w.params).isNs mainGlobals && (Array.mk [] : Array GenState).size == 0, (boot_heap w.params).objs.size, (boot_heap w.params).nsMap mainGlobals "__annotations__") = (true, 11, some (.ref 6)))
    (h : ∀ w os, ∃ s, topT p w os = some s ∧ okT p w s.abs = true ∧ openSeen q [] (importedModules p.main.body) Xt true s.abs = openGood q [] ∧ Yf s.abs = Ya w) : LeftO p q [] Xt Yf Ya 20000 true := fun w => by
  obtain ⟨a, ea, eb⟩ := Option.map_eq_some_iff.mp (open_ w)
  have u1 : a.heap = boot_heap w.params := congrArg (·.1) eb
  have u2 : a.gens = Array.mk [] := congrArg (·.2.1) eb
  obtain ⟨s, r, l1, l2, l3⟩ := h w a.os
  have top := runT_spec _ _ r
  have e0 : (S0T w a.os).abs = a := (S0T_abs w a.os).trans (shared_eq u1.symm u2.symm (congrArg (·.2.2.1) eb).symm (congrArg (·.2.2.2) eb).symm)
  rw [show (S0T w a.os, topStub p).1.abs = a from e0] at top
  have ends := ends_of ea (by rw [u1, u2]; exact congrArg (·.1) (size w)) (by rw [u1]; exact congrArg (·.2.1) (size w)) (by rw [u1]; exact congrArg (·.2.2) (size w)) top (by rw [u1]; exact l1)
  rw [ends, Option.map_some, l2, l3]
theorem map_some {α β : Type} {x : Option α} {f : α → β} {b : β} (h : x.map f = some b) {s : α} (e : x = some s) : f s = b := by
  rw [e] at h
  exact Option.some.inj h
/-! ### all that stands in the heap -/
def fragL : Nat → List Obj → List (Addr × Obj)
  | _, [] => []
  | a, o :: os => match alive o with
    | some o' => (a, o') :: fragL (a + 1) os
    | none => fragL (a + 1) os
def fragH (h : Heap) : PySem.W.Frag := fragL 0 h.objs.toList
theorem fragL_at {a : Nat} {o : Obj} : ∀ {os : List Obj} {n : Nat}, (fragL n os).lookup a = some o → ∃ o', n ≤ a ∧ os[a - n]? = some o' ∧ alive o' = some o
  | [], _, h => nomatch h
  | u :: os, n, h => by
    have go : (fragL (n + 1) os).lookup a = some o → ∃ o', n ≤ a ∧ (u :: os)[a - n]? = some o' ∧ alive o' = some o := fun q => by
      obtain ⟨o', h1, h2, h3⟩ := fragL_at q
      refine ⟨o', by omega, ?_, h3⟩
      rw [show a - n = (a - (n + 1)) + 1 by omega]
      exact h2
    unfold fragL at h
    cases q : alive u with
    | none => rw [q] at h; exact go h
    | some u' =>
      rw [q] at h
      rw [List.lookup_cons] at h
      by_cases e : a = n
      · subst e
        rw [show (a == a) = true from beq_self_eq_true a] at h
        cases h
        exact ⟨u, Nat.le_refl _, by simp, q⟩
      · rw [show (a == n) = false from beq_false_of_ne e] at h
        exact go h
theorem fragH_in (h : Heap) : (fragH h).In h := fun a o e => by
  obtain ⟨o', _, h2, h3⟩ := fragL_at e
  rw [Nat.sub_zero] at h2
  unfold Heap.get?
  rw [← Array.getElem?_toList, h2]
  show (match some o' with | some ⟨_, _, .freed, _⟩ => none | o => o) = some o
  rw [← h3]
  obtain ⟨c, d, dt, sl⟩ := o'
  cases dt <;> rfl
def bareFd (fd : FuncData) : FuncData := { fd with kwdefaults := .none, doc := .none, pyModule := .none, annotations := none, code := .none, closureTuple := .none }
def defSeen (K : PySem.W.Frag) (x : Str) : Option (FuncData × Bool) := match PySem.W.nsIn K mainGlobals x with
  | some (some (.ref f)) => match K.lookup f with
    | some ⟨_, _, .func fd, _⟩ => some (bareFd fd, PySem.W.codeIn K fd.code x && PySem.W.keepIn K (.ref f))
    | _ => none
  | _ => none
def defDue (x : Str) (st : Stmt) : Option (FuncData × Bool) := some (PySem.W.fnOf x x (defArgs st) (defBody st) (defScope st) .none .none .none .none none .none .none, true)
theorem DefIn.of_seen {K : PySem.W.Frag} {x : Str} {st : Stmt} (h : defSeen K x = defDue x st) : ∃ f, DefIn K x st f := by
  unfold defSeen defDue at h
  split at h
  next f e =>
    split at h
    next oc od fd osl l =>
      obtain ⟨e1, e2⟩ := Prod.mk.inj (Option.some.inj h)
      rw [Bool.and_eq_true] at e2
      obtain ⟨nm, qn, ps, bd, sc, gl, cl, df, kd, dc, pm, an, cd, ct, bl⟩ := fd
      unfold bareFd PySem.W.fnOf at e1
      simp only [FuncData.mk.injEq] at e1
      obtain ⟨rfl, rfl, rfl, rfl, rfl, rfl, rfl, rfl, _, _, _, _, _, _, rfl⟩ := e1
      exact ⟨f, e, oc, od, kd, dc, pm, an, cd, ct, osl, l, e2.1, e2.2⟩
    next => cases h
  next => cases h
def loneIn (K : PySem.W.Frag) (x : Str) : Bool := match PySem.W.nsIn K mainGlobals x with
  | some none => true
  | _ => false
theorem lone_of {K : PySem.W.Frag} {x : Str} (h : loneIn K x = true) : PySem.W.nsIn K mainGlobals x = some none := by
  unfold loneIn at h
  split at h
  · assumption
  · cases h
def adr (K : PySem.W.Frag) (x : Str) : Addr := match PySem.W.nsIn K mainGlobals x with
  | some (some (.ref a)) => a
  | _ => 0
def adrIn (K : PySem.W.Frag) (x : Str) : Bool := match PySem.W.nsIn K mainGlobals x with
  | some (some (.ref _)) => true
  | _ => false
theorem adr_of {K : PySem.W.Frag} {x : Str} (h : adrIn K x = true) : PySem.W.nsIn K mainGlobals x = some (some (.ref (adr K x))) := by
  unfold adrIn at h
  unfold adr
  split at h
  next a e => rw [e]
  next => cases h
def strIn (K : PySem.W.Frag) (x : Str) : Option Str := match PySem.W.nsIn K mainGlobals x with
  | some (some (.str y _)) => some y
  | _ => none
def intIn (K : PySem.W.Frag) (x : Str) : Option Int := match PySem.W.nsIn K mainGlobals x with
  | some (some (.int y _)) => some y
  | _ => none
theorem str_of {K : PySem.W.Frag} {x y : Str} (h : strIn K x = some y) : ∃ z t, PySem.W.nsIn K mainGlobals x = some (some (.str z t)) ∧ z = y := by
  unfold strIn at h
  split at h
  next z t e => exact ⟨z, t, e, Option.some.inj h⟩
  next => cases h
theorem int_of {K : PySem.W.Frag} {x : Str} {y : Int} (h : intIn K x = some y) : ∃ z t, PySem.W.nsIn K mainGlobals x = some (some (.int z t)) ∧ z = y := by
  unfold intIn at h
  split at h
  next z t e => exact ⟨z, t, e, Option.some.inj h⟩
  next => cases h
theorem at_ {α : Type} {l l' : List α} (h : l = l') (i : Nat) {a b : α} (ea : l[i]? = some a) (eb : l'[i]? = some b) : a = b := by
  rw [h, eb] at ea
  exact (Option.some.inj ea).symm
abbrev AS := List Bool × List (Option (Option Value)) × List (Option Bool)
def ansSeen (K : PySem.W.Frag) (x fld : Str) : AS :=
  ([PySem.W.plainGet K (adr K x) Str.empty, PySem.W.hasDictIn K (adr K x), PySem.W.plainOver K (adr K x), PySem.W.makesIn K (adr K x), PySem.W.keepIn K (.ref (adr K x))],
   [PySem.W.findIn K (.ref (adr K x)) "__setattr__", PySem.W.findIn K (.ref (adr K x)) fld, PySem.W.findIn K (.ref (adr K x)) "__class__", PySem.W.specialIn K (.builtin "object.__class__") "__get__"],
   [PySem.W.takesIn K (.builtin "object.__class__"), PySem.W.mroIn K (adr K x) (.type "object"), PySem.W.kitOne K (.ref (adr K x)) (.ref (adr K "Answer")), PySem.W.kitOne K (.ref (adr K x)) (.ref (adr K "Reading")), PySem.W.kitOne K (.ref (adr K x)) (.ref (adr K "Stuck")),
    PySem.W.kitOne K (.ref (adr K x)) (.ref (adr K "Clash")), PySem.W.kitOne K (.ref (adr K x)) (.ref (adr K "Tails"))])
def ansDue (bR bS : Bool) : AS :=
  ([true, true, true, true, true], [some (some (.builtin "object.__setattr__")), some none, some (some (.builtin "object.__class__")), some (some (.builtin "getset_descriptor.__get__"))], [some true, some true, some true, some bR, some bS, some false, some false])
theorem ans_of {K : PySem.W.Frag} {x fld : Str} {bR bS : Bool} (h : ansSeen K x fld = ansDue bR bS) : AnsIn K (adr K x) fld (adr K "Answer") (adr K "Reading") (adr K "Stuck") (adr K "Clash") (adr K "Tails") bR bS := by
  obtain ⟨h1, h23⟩ := Prod.mk.inj h
  obtain ⟨h2, h3⟩ := Prod.mk.inj h23
  have cl : Cls K (adr K x) := ⟨at_ h1 0 rfl rfl, at_ h1 1 rfl rfl, at_ h1 2 rfl rfl, at_ h2 0 rfl rfl⟩
  exact ⟨cl, at_ h1 3 rfl rfl, at_ h1 4 rfl rfl, at_ h2 1 rfl rfl, ⟨cl, at_ h2 2 rfl rfl, at_ h2 3 rfl rfl, at_ h3 0 rfl rfl, at_ h3 1 rfl rfl⟩, at_ h3 2 rfl rfl, at_ h3 3 rfl rfl, at_ h3 4 rfl rfl, at_ h3 5 rfl rfl, at_ h3 6 rfl rfl⟩
def mthSeen (K : PySem.W.Frag) (x m qual : Str) : Option (FuncData × Bool) := match PySem.W.findIn K (.ref (adr K x)) m with
  | some (some (.ref f)) => match K.lookup f with
    | some ⟨_, _, .func fd, _⟩ => some (bareFd fd, PySem.W.codeIn K fd.code qual && PySem.W.keepIn K (.ref f) && PySem.W.isFn K (.ref f))
    | _ => none
  | _ => none
def mthDue (m qual : Str) (st : Stmt) : Option (FuncData × Bool) := some (PySem.W.fnOf m qual (defArgs st) (defBody st) (defScope st) .none .none .none .none none .none .none, true)
theorem mth_of {K : PySem.W.Frag} {x m qual : Str} {st : Stmt} (h : mthSeen K x m qual = mthDue m qual st) : ∃ f fd, MthIn K (adr K x) m qual st f fd := by
  unfold mthSeen mthDue at h
  split at h
  next f e =>
    split at h
    next oc od fd osl l =>
      obtain ⟨e1, e2⟩ := Prod.mk.inj (Option.some.inj h)
      rw [Bool.and_eq_true, Bool.and_eq_true] at e2
      obtain ⟨nm, qn, ps, bd, sc, gl, cl, df, kd, dc, pm, an, cd, ct, bl⟩ := fd
      unfold bareFd PySem.W.fnOf at e1
      simp only [FuncData.mk.injEq] at e1
      obtain ⟨rfl, rfl, rfl, rfl, rfl, rfl, rfl, rfl, _, _, _, _, _, _, rfl⟩ := e1
      exact ⟨f, _, e, e2.2, fun_mk l e2.1.1 e2.1.2⟩
    next => cases h
  next => cases h
abbrev SeenT := List (Option (FuncData × Bool)) × List Bool × Option Str × AS × AS × List (Option (FuncData × Bool))
def seenK (K : PySem.W.Frag) : SeenT :=
  ([defSeen K "is_whole",
    defSeen K "is_word",
    defSeen K "are_words",
    defSeen K "is_code",
    defSeen K "is_place",
    defSeen K "are_places",
    defSeen K "words_at",
    defSeen K "joined",
    defSeen K "check_code",
    defSeen K "text_of",
    defSeen K "noted",
    defSeen K "grouped",
    defSeen K "standing",
    defSeen K "marks_behind",
    defSeen K "unrolled",
    defSeen K "copied",
    defSeen K "marks_closed",
    defSeen K "check_asked",
    defSeen K "chains_to_marks",
    defSeen K "read",
    defSeen K "ways_from_marks",
    defSeen K "how_many",
    defSeen K "_law_code",
    defSeen K "_law_stands",
    defSeen K "_law_numbers",
    defSeen K "_law_text",
    defSeen K "_law_due",
    defSeen K "law"],
   [loneIn K "isinstance", loneIn K "int", loneIn K "bool", loneIn K "str", loneIn K "list", loneIn K "dict", loneIn K "all", loneIn K "any", loneIn K "len", loneIn K "range", loneIn K "sorted", loneIn K "sum", loneIn K "enumerate", loneIn K "max", loneIn K "ValueError", adrIn K "Answer", adrIn K "Reading", adrIn K "Stuck", adrIn K "Clash", adrIn K "Tails", adrIn K "BadCode", adrIn K "BadText", PySem.W.excIn K (adr K "BadCode") bmVE "ValueError.__new__", PySem.W.excIn K (adr K "BadText") bmVE "ValueError.__new__"],
   strIn K "LETTERS", ansSeen K "Reading" "places", ansSeen K "Stuck" "marks", [mthSeen K "Reading" "__init__" "Reading.__init__", mthSeen K "Reading" "shows" "Reading.shows", mthSeen K "Stuck" "__init__" "Stuck.__init__", mthSeen K "Stuck" "shows" "Stuck.shows"])
def seenDue : SeenT :=
  ([defDue "is_whole" Pl.s_is_whole,
    defDue "is_word" Pl.s_is_word,
    defDue "are_words" Pl.s_are_words,
    defDue "is_code" Pl.s_is_code,
    defDue "is_place" Pl.s_is_place,
    defDue "are_places" Pl.s_are_places,
    defDue "words_at" Pl.s_words_at,
    defDue "joined" Pl.s_joined,
    defDue "check_code" Pl.s_check_code,
    defDue "text_of" Pl.s_text_of,
    defDue "noted" Pl.s_noted,
    defDue "grouped" Pl.s_grouped,
    defDue "standing" Pl.s_standing,
    defDue "marks_behind" Pl.s_marks_behind,
    defDue "unrolled" Pl.s_unrolled,
    defDue "copied" Pl.s_copied,
    defDue "marks_closed" Pl.s_marks_closed,
    defDue "check_asked" Pl.s_check_asked,
    defDue "chains_to_marks" Pl.s_chains_to_marks,
    defDue "read" Pl.s_read,
    defDue "ways_from_marks" Pl.s_ways_from_marks,
    defDue "how_many" Pl.s_how_many,
    defDue "_law_code" Pl.s_law_code,
    defDue "_law_stands" Pl.s_law_stands,
    defDue "_law_numbers" Pl.s_law_numbers,
    defDue "_law_text" Pl.s_law_text,
    defDue "_law_due" Pl.s_law_due,
    defDue "law" Pl.s_law],
   [true, true, true, true, true, true, true, true, true, true, true, true, true, true, true, true, true, true, true, true, true, true, true, true],
   some (Str.ofString "abcdefghijklmnopqrstuvwxyz"), ansDue true false, ansDue false true, [mthDue "__init__" "Reading.__init__" Pl.c_Reading_init, mthDue "shows" "Reading.shows" Pl.c_Reading_shows, mthDue "__init__" "Stuck.__init__" Pl.c_Stuck_init, mthDue "shows" "Stuck.shows" Pl.c_Stuck_shows])
theorem seen_mk {l : PySem.W.OpenLaw} {w : World} {K : PySem.W.Frag} {h : Heap} {mg : Str → Option Value} {fa : Addr} (X : K.In h) (G : h.Ns mainGlobals mg) (hfa : mg "law" = some (.ref fa)) (S : seenK K = seenDue) :
    ∃ fd : FuncData, (∀ (s : Shared) (v : Value), BindsTo s fd ⟨[v], []⟩ [("_law_script", v)]) ∧ ∀ base : Heap, K.In base → base.Ns mainGlobals mg → FnOk l.prog w K mg base CX0 7 fa fd ["_law_script"] (spLaw K) := by
  obtain ⟨S1, S⟩ := Prod.mk.inj S
  obtain ⟨S2, S⟩ := Prod.mk.inj S
  obtain ⟨S3, S⟩ := Prod.mk.inj S
  obtain ⟨S4, S⟩ := Prod.mk.inj S
  obtain ⟨S5, S6⟩ := Prod.mk.inj S
  exact all_mk X G hfa (DefIn.of_seen (at_ S1 0 rfl rfl)) (DefIn.of_seen (at_ S1 1 rfl rfl)) (DefIn.of_seen (at_ S1 2 rfl rfl)) (DefIn.of_seen (at_ S1 3 rfl rfl)) (DefIn.of_seen (at_ S1 4 rfl rfl)) (DefIn.of_seen (at_ S1 5 rfl rfl)) (DefIn.of_seen (at_ S1 6 rfl rfl)) (DefIn.of_seen (at_ S1 7 rfl rfl)) (DefIn.of_seen (at_ S1 8 rfl rfl)) (DefIn.of_seen (at_ S1 9 rfl rfl)) (DefIn.of_seen (at_ S1 10 rfl rfl)) (DefIn.of_seen (at_ S1 11 rfl rfl)) (DefIn.of_seen (at_ S1 12 rfl rfl)) (DefIn.of_seen (at_ S1 13 rfl rfl)) (DefIn.of_seen (at_ S1 14 rfl rfl)) (DefIn.of_seen (at_ S1 15 rfl rfl)) (DefIn.of_seen (at_ S1 16 rfl rfl)) (DefIn.of_seen (at_ S1 17 rfl rfl)) (DefIn.of_seen (at_ S1 18 rfl rfl)) (DefIn.of_seen (at_ S1 19 rfl rfl)) (DefIn.of_seen (at_ S1 20 rfl rfl)) (DefIn.of_seen (at_ S1 21 rfl rfl)) (DefIn.of_seen (at_ S1 22 rfl rfl)) (DefIn.of_seen (at_ S1 23 rfl rfl)) (DefIn.of_seen (at_ S1 24 rfl rfl)) (DefIn.of_seen (at_ S1 25 rfl rfl)) (DefIn.of_seen (at_ S1 26 rfl rfl)) (DefIn.of_seen (at_ S1 27 rfl rfl))
    (lone_of (at_ S2 0 rfl rfl)) (lone_of (at_ S2 1 rfl rfl)) (lone_of (at_ S2 2 rfl rfl)) (lone_of (at_ S2 3 rfl rfl)) (lone_of (at_ S2 4 rfl rfl)) (lone_of (at_ S2 5 rfl rfl)) (lone_of (at_ S2 6 rfl rfl)) (lone_of (at_ S2 7 rfl rfl)) (lone_of (at_ S2 8 rfl rfl)) (lone_of (at_ S2 9 rfl rfl)) (lone_of (at_ S2 10 rfl rfl)) (lone_of (at_ S2 11 rfl rfl)) (lone_of (at_ S2 12 rfl rfl)) (lone_of (at_ S2 13 rfl rfl)) (lone_of (at_ S2 14 rfl rfl))
    (str_of S3) ⟨adr_of (at_ S2 20 rfl rfl), at_ S2 22 rfl rfl⟩ ⟨adr_of (at_ S2 21 rfl rfl), at_ S2 23 rfl rfl⟩
    (adr_of (at_ S2 15 rfl rfl)) (adr_of (at_ S2 16 rfl rfl)) (adr_of (at_ S2 17 rfl rfl)) (adr_of (at_ S2 18 rfl rfl)) (adr_of (at_ S2 19 rfl rfl)) (ans_of S4) (ans_of S5)
    (mth_of (at_ S6 0 rfl rfl)) (mth_of (at_ S6 1 rfl rfl)) (mth_of (at_ S6 2 rfl rfl)) (mth_of (at_ S6 3 rfl rfl))
noncomputable def hook : Hook where
  α := SeenT
  obs := fun s => seenK (fragH s.heap)
  val := fun _ => seenDue
  says := fun _ h => ∃ K : PySem.W.Frag, K.In h ∧ seenK K = seenDue
  of := fun _ s e => ⟨fragH s.heap, fragH_in _, e⟩
  keeps := fun _ _ _ ⟨K, x, e⟩ k => ⟨K, x.keeps k, e⟩
theorem walk2 {l : PySem.W.OpenLaw} {q : Program} {loose : List Str} {XP : (Str → Option Value) → Heap → Prop} {d : DefRec} (hn : l.most = some 63) (hdf : d.params.defaults = []) (hnm : d.name = "law") :
    PySem.W.WalkO q loose XP hook.says l.row.toRowW d [] (fun f vs => PySem.call f vs) := by
  refine Att.attach_call hn hdf fun w s₀ s₁ mg mb fa o pm cd doc a vs ns G Y ho hd hcd hmg hobj hints hlen hg => ?_
  obtain ⟨K, KX, S⟩ := Y
  rw [hnm] at hmg
  obtain ⟨fd, hb, hF⟩ := seen_mk (l := l) (w := w) KX G.T.g hmg S
  exact law_call (sp := spLaw K) (CX := CX0) (k := 7) KX G.T.g G.T.b G.T.builtins G.T.nolimit hg hobj hints (Nat.le_trans hlen (by decide)) ⟨rfl, by decide, by decide⟩ hF hb (fun H hO hS => ⟨a, ns, rfl, hS, hlen, fun _ => rfl⟩) fun _ _ _ z => z
noncomputable def look0 (p q : Program) (R : WRecords) (w : World) (os : OsState) := (topT p w os).map fun s => (okT p w s.abs, s.abs.heap.bltView)
theorem look0_r : look0 = look0 := rfl
name_quick look0Q for L2.look0 by L2.look0_r
noncomputable def look1 (p q : Program) (R : WRecords) (w : World) (os : OsState) := (topT p w os).map fun s => seen ((recsOf q).map (·.name)) (ownsOf q) [] { s.abs with gens := #[] }
theorem look1_r : look1 = look1 := rfl
name_quick look1Q for L2.look1 by L2.look1_r
noncomputable def look2 (p q : Program) (R : WRecords) (w : World) (os : OsState) := (topT p w os).map fun s => (openSeen q [] (importedModules p.main.body) (fun s => xlAt q [] s && recOk R s) true s.abs).2.2.1
theorem look2_r : look2 = look2 := rfl
name_quick look2Q for L2.look2 by L2.look2_r
noncomputable def look3 (p q : Program) (R : WRecords) (w : World) (os : OsState) := (topT p w os).map fun s => tabsOk q s.abs
theorem look3_r : look3 = look3 := rfl
name_quick look3Q for L2.look3 by L2.look3_r
noncomputable def look4 (p q : Program) (R : WRecords) (w : World) (os : OsState) := (topT p w os).map fun s => (pinSeenD q (drecsOf q) s.abs, plainSeenD q [] s.abs, clsSeenW q [] s.abs)
theorem look4_r : look4 = look4 := rfl
name_quick look4Q for L2.look4 by L2.look4_r
noncomputable def look5 (p q : Program) (R : WRecords) (w : World) (os : OsState) := (topT p w os).map fun s => plainSeenE q (looseW q []) s.abs
theorem look5_r : look5 = look5 := rfl
name_quick look5Q for L2.look5 by L2.look5_r
noncomputable def look6 (p q : Program) (R : WRecords) (w : World) (os : OsState) := (topT p w os).map fun s => wideSeen q s.abs
theorem look6_r : look6 = look6 := rfl
name_quick look6Q for L2.look6 by L2.look6_r
noncomputable def look7 (p q : Program) (R : WRecords) (w : World) (os : OsState) := (topT p w os).map fun s => seenK (fragH s.abs.heap)
theorem look7_r : look7 = look7 := rfl
name_quick look7Q for L2.look7 by L2.look7_r
end L2


set_option Elab.async false
set_option linter.all false
set_option maxRecDepth 100000
set_option maxHeartbeats 0
namespace L2
open PySem PySem.Spec PySem.W PyProof.Rows Tw
def vw : Program := view PySem.Challenge.pw_tworeadings_k02_whole_read [1, 2, 3, 4, 6, 7, 8, 9, 10, 11, 12, 13, 14, 15, 16, 17, 18, 19, 20, 21, 23, 24, 25, 26, 27, 28, 29, 30, 31, 32, 34, 35, 36, 37, 38, 40, 41, 42, 43, 44, 45]
def XtL : Shared → Bool := fun s => xlAt vw [] s && recOk (RowW.records PySem.Challenge.rw_tworeadings_k02_whole_read.row.toRowW) s
theorem hop (w : World) : (fencedOpening treeTable PySem.Challenge.pw_tworeadings_k02_whole_read w 20000).map (fun s => (s.heap, s.gens, s.drawn, s.toks)) = some (boot_heap w.params, Array.mk [], boot_drawn, boot_toks) := boot_open (by kernel_rfl) (by decide) (fun s => by kernel_rfl) w
theorem hsz (w : World) : ((boot_heap w.params).isNs mainGlobals && (Array.mk [] : Array GenState).size == 0, (boot_heap w.params).objs.size, (boot_heap w.params).nsMap mainGlobals "__annotations__") = (true, 11, some (.ref 6)) := by kernel_rfl
theorem look0_q (w : World) (os : OsState) : PySem.W.Fast.look0Q PySem.Challenge.pw_tworeadings_k02_whole_read vw (RowW.records PySem.Challenge.rw_tworeadings_k02_whole_read.row.toRowW) w os = some ((true, bltViewBooted)) := by kernel_rfl
theorem look1_q (w : World) (os : OsState) : PySem.W.Fast.look1Q PySem.Challenge.pw_tworeadings_k02_whole_read vw (RowW.records PySem.Challenge.rw_tworeadings_k02_whole_read.row.toRowW) w os = some (expectedOf vw) := by kernel_rfl
theorem look2_q (w : World) (os : OsState) : PySem.W.Fast.look2Q PySem.Challenge.pw_tworeadings_k02_whole_read vw (RowW.records PySem.Challenge.rw_tworeadings_k02_whole_read.row.toRowW) w os = some (true) := by kernel_rfl
theorem look3_q (w : World) (os : OsState) : PySem.W.Fast.look3Q PySem.Challenge.pw_tworeadings_k02_whole_read vw (RowW.records PySem.Challenge.rw_tworeadings_k02_whole_read.row.toRowW) w os = some (true) := by kernel_rfl
theorem look4_q (w : World) (os : OsState) : PySem.W.Fast.look4Q PySem.Challenge.pw_tworeadings_k02_whole_read vw (RowW.records PySem.Challenge.rw_tworeadings_k02_whole_read.row.toRowW) w os = some ((pinGoodD (drecsOf vw), plainGoodD vw [], clsGoodW vw [])) := by kernel_rfl
theorem look5_q (w : World) (os : OsState) : PySem.W.Fast.look5Q PySem.Challenge.pw_tworeadings_k02_whole_read vw (RowW.records PySem.Challenge.rw_tworeadings_k02_whole_read.row.toRowW) w os = some (plainGoodE vw (looseW vw [])) := by kernel_rfl
theorem look6_q (w : World) (os : OsState) : PySem.W.Fast.look6Q PySem.Challenge.pw_tworeadings_k02_whole_read vw (RowW.records PySem.Challenge.rw_tworeadings_k02_whole_read.row.toRowW) w os = some (wideGood vw) := by kernel_rfl
theorem look7_q (w : World) (os : OsState) : PySem.W.Fast.look7Q PySem.Challenge.pw_tworeadings_k02_whole_read vw (RowW.records PySem.Challenge.rw_tworeadings_k02_whole_read.row.toRowW) w os = some (seenDue) := by kernel_rfl
theorem left : LeftO PySem.Challenge.pw_tworeadings_k02_whole_read vw [] XtL hook.obs hook.val 20000 true := left_of hop hsz fun w os => by
  have h0 := look0_q w os
  rw [← PySem.W.Fast.look0Q_eq] at h0
  have h1 := look1_q w os
  rw [← PySem.W.Fast.look1Q_eq] at h1
  have h2 := look2_q w os
  rw [← PySem.W.Fast.look2Q_eq] at h2
  have h3 := look3_q w os
  rw [← PySem.W.Fast.look3Q_eq] at h3
  have h4 := look4_q w os
  rw [← PySem.W.Fast.look4Q_eq] at h4
  have h5 := look5_q w os
  rw [← PySem.W.Fast.look5Q_eq] at h5
  have h6 := look6_q w os
  rw [← PySem.W.Fast.look6Q_eq] at h6
  have h7 := look7_q w os
  rw [← PySem.W.Fast.look7Q_eq] at h7
  obtain ⟨s, e, l0⟩ := Option.map_eq_some_iff.mp h0
  obtain ⟨a0, a1⟩ := Prod.mk.inj l0
  obtain ⟨b0, b1⟩ := Prod.mk.inj (map_some h4 e)
  obtain ⟨b1, b2⟩ := Prod.mk.inj b1
  exact ⟨s, e, a0, Prod.ext (map_some h1 e) (Prod.ext a1 (Prod.ext (map_some h2 e) (Prod.ext (map_some h3 e) (Prod.ext b0 (Prod.ext (map_some h5 e) (Prod.ext b1 (Prod.ext (map_some h6 e) b2))))))), map_some h7 e⟩
end L2
open PySem PySem.W PyProof.Rows
theorem PySem.Challenge.cw_tworeadings_k02_whole_read_holds : PySem.Challenge.rw_tworeadings_k02_whole_read.Holds := by
  w_on; o_law
  refine holds_open (q := L2.vw) (loose := []) (Xt := L2.XtL) (XP := XL L2.vw []) (Yf := Hook.obs L2.hook) (Ya := Hook.val L2.hook) (YP := Hook.says L2.hook) (N := 20000) L2.left (Hook.of L2.hook) (Hook.keeps L2.hook) (fun s e => xl_of s (Bool.and_eq_true_iff.mp e).1) XL.keeps (by rfl) (by rfl) (by rfl)
    (fun s e => recFacts_of (Bool.and_eq_true_iff.mp e).2) (by rfl) (by first | assumption | decide +kernel) (by decide +kernel) ⟨rfl, rfl, rfl, rfl, rfl, by decide +kernel⟩ ?hw ?hc
  case hw => w_witness2
  case hc => exact L2.walk2 (l := PySem.Challenge.rw_tworeadings_k02_whole_read) rfl rfl rfl

