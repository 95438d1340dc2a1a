import PyProof.Rows.All
import Wide.All
import OpenK.AllK
import Wide.FinOn
import Lean
import PyProof.EqAt
import PyProof.EqKinds
import PyProof.TupleCall
import PyProof.StrBlockL
import PyProof.StationsW
import PyProof.Rows.StrPadFill
import PyProof.Rows.StrPad
import PyProof.Rows.SeqMore
import KE.KSortKey
import PyProof.Rows.SortStr
import PyProof.ListRange
import KE.KLam
import PyProof.Rows.SortRuns
import PyProof.CollectWalk
import PyProof.DictWalks
import PyProof.ZipIter
import PyProof.Rows.ZipGen
import PyProof.Rows.SortKeyStr
import PySem.Challenge.RW_tworeadings_k05_whole_lengths
set_option Elab.async false
set_option linter.all false
set_option maxRecDepth 100000
/-! THE HAND LAYER, for ints, bools, texts, own classes, DICTS (int and text keys), calls, loops. Paste it whole ahead of your own text; what your proof does not reach may be deleted. -/
namespace L2
open PySem PySem.Spec PyProof.Rows

/-- a key: an int or a str -/
abbrev Key := Sum Int Str
def keyIs : Key → Value → Bool
  | .inl k, v => Value.isInt k v
  | .inr x, v => Value.isStrOf x v
def keyH (w : World) : Key → Int
  | .inl k => hashInt k
  | .inr x => hashStr w x
theorem keyIs_shape : ∀ {k : Key} {v : Value}, keyIs k v = true → (∃ i t, k = Sum.inl i ∧ v = Value.int i t) ∨ (∃ x t, k = Sum.inr x ∧ v = Value.str x t)
  | .inl i, v, h => by
    obtain ⟨t, e⟩ := Value.isInt_shape (k := i) (v := v) h
    exact .inl ⟨i, t, rfl, e⟩
  | .inr x, v, h => by
    obtain ⟨t, e⟩ := Value.isStrOf_shape (x := x) (v := v) h
    exact .inr ⟨x, t, rfl, e⟩
theorem keyIs_int (i : Int) (t : Tok) : keyIs (.inl i) (.int i t) = true := by simp [keyIs, Value.isInt]
theorem keyIs_str (x : Str) (t : Tok) : keyIs (.inr x) (.str x t) = true := by simp [keyIs, Value.isStrOf]
theorem key_ll (a b : Int) : decide ((Sum.inl a : Key) = Sum.inl b) = (a == b) := by
  by_cases e : a = b
  · subst e; simp
  · have h : ¬ (Sum.inl a : Key) = Sum.inl b := fun q => e (Sum.inl.inj q)
    rw [decide_eq_false h]
    exact (beq_eq_false_iff_ne.mpr e).symm
theorem key_rr (a b : Str) : decide ((Sum.inr a : Key) = Sum.inr b) = decide (a = b) := by
  by_cases e : a = b
  · subst e; simp
  · have h : ¬ (Sum.inr a : Key) = Sum.inr b := fun q => e (Sum.inr.inj q)
    rw [decide_eq_false h, decide_eq_false e]
theorem key_lr (a : Int) (b : Str) : decide ((Sum.inl a : Key) = Sum.inr b) = false := decide_eq_false (fun q => nomatch q)
theorem key_rl (a : Str) (b : Int) : decide ((Sum.inr a : Key) = Sum.inl b) = false := decide_eq_false (fun q => nomatch q)

def mixKind (prog : Program) (w : World) : PySem.KeyKind prog w Key where
  is := keyIs
  hash := keyH w
  inj := fun v a b ha hb => by
    rcases keyIs_shape ha with ⟨i, t, rfl, rfl⟩ | ⟨x, t, rfl, rfl⟩
    · rcases keyIs_shape hb with ⟨j, u, rfl, e⟩ | ⟨y, u, rfl, e⟩
      · injection e with e1 _; rw [e1]
      · exact nomatch e
    · rcases keyIs_shape hb with ⟨j, u, rfl, e⟩ | ⟨y, u, rfl, e⟩
      · exact nomatch e
      · injection e with e1 _; rw [e1]
  byValue := fun k v h => by
    rcases keyIs_shape h with ⟨i, t, rfl, rfl⟩ | ⟨x, t, rfl, rfl⟩ <;> rfl
  pyHash := fun hv h => by
    rcases keyIs_shape hv with ⟨i, t, rfl, rfl⟩ | ⟨x, t, rfl, rfl⟩
    · exact wpAny_pyHash_int h
    · exact wpAny_pyHash_str h
  eqBool := fun hu hv h => by
    rcases keyIs_shape hu with ⟨i, t, rfl, rfl⟩ | ⟨x, t, rfl, rfl⟩
    · rcases keyIs_shape hv with ⟨j, u, rfl, rfl⟩ | ⟨y, u, rfl, rfl⟩
      · rw [key_ll] at h; exact wpAny_eqBool_int h
      · rw [key_lr] at h; exact SeqAt.EqAt.int_str i t y u _ _ _ _ h
    · rcases keyIs_shape hv with ⟨j, u, rfl, rfl⟩ | ⟨y, u, rfl, rfl⟩
      · rw [key_rl] at h; exact SeqAt.EqAt.str_int x t j u _ _ _ _ h
      · rw [key_rr] at h; exact wpAny_eqBool_str h
  «strs» := fun k x t v h => by
    rcases keyIs_shape h with ⟨i, u, rfl, e⟩ | ⟨y, u, rfl, e⟩
    · exact nomatch e
    · injection e with e1 _
      subst e1
      cases v <;> rfl

theorem mixKind_is (prog : Program) (w : World) (k : Key) (v : Value) : (mixKind prog w).is k v = keyIs k v := rfl
theorem mixKind_int (prog : Program) (w : World) (i : Int) (t : Tok) : (mixKind prog w).is (.inl i) (.int i t) = true := keyIs_int i t
theorem mixKind_str (prog : Program) (w : World) (x : Str) (t : Tok) : (mixKind prog w).is (.inr x) (.str x t) = true := keyIs_str x t
end L2

namespace L2
open PySem PySem.Spec PyProof.Rows

/-- a value, without the heap -/
inductive V where
  | non | bl (b : Bool) | int (i : Int) | str (x : Str) | byt (b : Array UInt8) | flt (b : UInt64) | ref (a : Addr) | ty (n : String)
  deriving DecidableEq

def RelV : V → Value → Prop
  | .non, u => u = Value.none
  | .bl b, u => u = Value.bool b
  | .int i, u => ∃ t, u = Value.int i t
  | .str x, u => ∃ t, u = Value.str x t
  | .byt b, u => ∃ t, u = Value.bytes b t
  | .flt b, u => ∃ t, u = Value.float b t
  | .ref a, u => u = Value.ref a
  | .ty n, u => u = Value.type n

abbrev Vals : List V → List Value → Prop := Paired RelV
theorem Vals.length {xs : List V} {us : List Value} (r : Vals xs us) : xs.length = us.length := Paired.length r
theorem Vals.get : ∀ {xs : List V} {us : List Value} {i : Nat} {x : V}, Vals xs us → xs[i]? = some x → ∃ u, us[i]? = some u ∧ RelV x u
  | _, _, _, _, .nil, e => by simp at e
  | _, _, 0, _, .cons r _, e => by simp at e; subst e; exact ⟨_, rfl, r⟩
  | _, _, i + 1, x, .cons _ t, e => by
    obtain ⟨u, h1, h2⟩ := Vals.get (i := i) (x := x) t (by simpa using e)
    exact ⟨u, by simpa using h1, h2⟩
theorem Vals.set {x : V} {u : Value} (r : RelV x u) : ∀ {xs : List V} {us : List Value} (i : Nat), Vals xs us → Vals (xs.set i x) (us.set i u)
  | _, _, _, .nil => .nil
  | _, _, 0, .cons _ t => .cons r t
  | _, _, i + 1, .cons q t => .cons q (Vals.set r i t)
theorem Vals.append : ∀ {xs ys : List V} {us ws : List Value}, Vals xs us → Vals ys ws → Vals (xs ++ ys) (us ++ ws)
  | _, _, _, _, .nil, s => s
  | _, _, _, _, .cons r t, s => .cons r (Vals.append t s)
theorem Vals.take : ∀ {xs : List V} {us : List Value} (n : Nat), Vals xs us → Vals (xs.take n) (us.take n)
  | _, _, 0, _ => .nil
  | _, _, _ + 1, .nil => .nil
  | _, _, n + 1, .cons r t => .cons r (Vals.take n t)
theorem Vals.drop : ∀ {xs : List V} {us : List Value} (n : Nat), Vals xs us → Vals (xs.drop n) (us.drop n)
  | _, _, 0, r => r
  | _, _, _ + 1, .nil => .nil
  | _, _, n + 1, .cons _ t => Vals.drop n t
theorem Vals.none_of : ∀ {xs : List V} {us : List Value} {i : Nat}, Vals xs us → xs[i]? = none → us[i]? = none := fun {xs us i} r e => by
  have h1 := r.length
  have h2 : xs.length ≤ i := List.getElem?_eq_none_iff.mp e
  exact List.getElem?_eq_none_iff.mpr (by omega)

def RelO : Option V → Option Value → Prop
  | some v, some u => RelV v u
  | none, none => True
  | _, _ => False
def KV {κ : Type} : List (κ × V) → List (κ × Value) → Prop := Paired fun (p : κ × V) (q : κ × Value) => p.1 = q.1 ∧ RelV p.2 q.2

/-- a key of a dict (00_mix): an int or a text -/
def kV : Key → V
  | .inl i => .int i
  | .inr x => .str x

/-- what stands at a tracked address -/
inductive HO where
  /-- a list -/
  | lst (xs : List V)
  /-- a tuple (never changes) -/
  | tup (xs : List V)
  /-- a dict whose keys are ints and texts; one whose keys are tuples of ints and texts (the empty one is both) -/
  | dK (kvs : List (Key × V)) | dT (kvs : List (List Key × V))
  /-- a set of ints: its members, its size -/
  | set (S : Int → Bool) (n : Nat)
  /-- an instance of the class at C, its dict at dx, its attributes -/
  | ins (C dx : Addr) (fs : List (Str × V))
  /-- the dict of the instance at x -/
  | own (x : Addr)
  /-- the dict of an exception -/
  | xd (fs : List (Str × V))
  /-- a bound method, f of x -/
  | met (f x : Addr)
  /-- a range object lo, lo + 1, .. below hi -/
  | rng (lo hi : Int)
  /-- a thing that is known to the object (the script; a dict while a loop walks it): read, never written while it is so -/
  | frz (o : Obj) (u : HO)
  /-- a code object's table -/
  | tbl (ps : Array Value)
  /-- any other thing, by what is true of its one object (a def of one's own: SetO a S n := HO.ext fun h => ..) -/
  | ext (φ : Heap → Prop)

abbrev Hp := Addr → Option HO
def upd (H : Hp) (a : Addr) (o : HO) : Hp := fun b => if b = a then some o else H b
theorem upd_same {H : Hp} {a : Addr} {o : HO} : upd H a o a = some o := by unfold upd; rw [if_pos rfl]
theorem upd_ne {H : Hp} {a b : Addr} {o : HO} (h : b ≠ a) : upd H a o b = H b := by unfold upd; rw [if_neg h]
/-- two objects of different content stand apart -/
theorem ne_of {H : Hp} {a b : Addr} {o u : HO} (h : H a = some o) (h' : H b = some u) (d : o ≠ u) : a ≠ b := by
  intro e; subst e; rw [h] at h'; exact d (Option.some.inj h')
theorem ne_of_none {H : Hp} {a b : Addr} {o : HO} (h : H a = some o) (h' : H b = none) : a ≠ b := by
  intro e; subst e; rw [h] at h'; cases h'

section
variable (P : Program) (w : World)
def ObjOk (H : Hp) (h : Heap) (a : Addr) : HO → Prop
  | .lst xs => xs.length ≤ sizeLine ∧ ∃ (its : List Value) (n : Nat), Vals xs its ∧ h.get? a = some { cls := .type "list", data := .seq its.toArray n }
  | .tup xs => xs.length ≤ sizeLine ∧ ∃ its : List Value, Vals xs its ∧ IsTup h a its.toArray
  | .dK kvs => kvs.length ≤ sizeLine ∧ (a == sysModules) = false ∧ ∃ vs, KV kvs vs ∧ h.DictOf (mixKind P w) a vs
  | .dT kvs => kvs.length ≤ sizeLine ∧ (a == sysModules) = false ∧ ∃ xs : List (List Key × Addr × Value),
      Paired (fun (p : List Key × V) (q : List Key × Addr × Value) => p.1 = q.1 ∧ H q.2.1 = some (.tup (p.1.map kV)) ∧ RelV p.2 q.2.2) kvs xs ∧
      ∃ o es ep, h.get? a = some o ∧ o.ExactDict ∧ o.data = .dict es ep ∧ es.toList = xs.map (entryOfKey (tupleKind (mixKind P w))) ∧ (xs.map (·.1)).Nodup
  | .set S n => h.SetOf (intKind P w) a S n
  | .ins C dx fs => H dx = some (.own a) ∧ fs.length ≤ 1000 ∧ dx ≠ a ∧ h.get? a = some (PySem.W.instObj C dx) ∧
      ∃ mA, h.Ns1 dx mA ∧ (∀ f, RelO (fs.lookup f) (mA f)) ∧ PySem.Within mA (fs.map (·.1))
  | .own _ => ∃ o, h.get? a = some o
  | .xd fs => ∃ mA, h.Ns1 a mA ∧ ∀ f, RelO (fs.lookup f) (mA f)
  | .rng lo hi => ∃ t u v, h.get? a = some { cls := .type "range", data := .fields #[.int lo t, .int hi u, .int 1 v] }
  | .frz o u => h.get? a = some o ∧ ObjOk H h a u
  | .tbl ps => h.get? a = some { cls := .none, data := .fields ps }
  | .met f x => h.get? a = some (PySem.W.methodObj (.ref f) (.ref x))
  | .ext φ => φ h ∧ (∃ o, h.get? a = some o) ∧ ∀ h1 h2 : Heap, φ h1 → (∀ o, h1.get? a = some o → h2.get? a = some o) → φ h2
/-- the abstract heap is held -/
def HOk (H : Hp) (h : Heap) : Prop := ∀ a o, H a = some o → ObjOk P w H h a o
end

section
variable {P : Program} {w : World} {H H' : Hp} {h h' : Heap} {a : Addr} {o : HO}
theorem ObjOk.lt (x : ObjOk P w H h a o) : a < h.objs.size := by
  cases o with
  | lst xs => obtain ⟨_, _, _, _, e⟩ := x; exact Heap.lt_size e
  | tup xs => obtain ⟨_, _, _, p⟩ := x; exact p.lt
  | dK kvs => obtain ⟨_, _, _, _, o, _, _, e, _⟩ := x; exact Heap.lt_size e
  | dT kvs => obtain ⟨_, _, _, _, o, _, _, e, _⟩ := x; exact Heap.lt_size e
  | set S n => obtain ⟨o, _, _, _, e, _⟩ := x; exact Heap.lt_size e
  | ins C dx fs => obtain ⟨_, _, _, e, _⟩ := x; exact Heap.lt_size e
  | own y => obtain ⟨_, e⟩ := x; exact Heap.lt_size e
  | xd fs => obtain ⟨_, ⟨_, _, _, e, _⟩, _⟩ := x; exact Heap.lt_size e
  | rng lo hi => obtain ⟨_, _, _, e⟩ := x; exact Heap.lt_size e
  | frz ob u => obtain ⟨e, _⟩ := x; exact Heap.lt_size e
  | tbl ps => exact Heap.lt_size (show h.get? a = some _ from x)
  | met f y => exact Heap.lt_size (show h.get? a = some _ from x)
  | ext φ => obtain ⟨_, ⟨_, e⟩, _⟩ := x; exact Heap.lt_size e
theorem Paired.mapP {α β : Type} {F G : α → β → Prop} : ∀ {l₁ : List α} {l₂ : List β}, Paired F l₁ l₂ → (∀ a b, F a b → G a b) → Paired G l₁ l₂
  | _, _, .nil, _ => .nil
  | _, _, .cons r t, f => .cons (f _ _ r) (Paired.mapP t f)
/-- what an object's description leans on: its own object, its own dict, the tuples -/
theorem ObjOk.stay (x : ObjOk P w H h a o) (k : ∀ b u, (b = a ∨ H b = some (.own a)) → h.get? b = some u → h'.get? b = some u)
    (ho : ∀ b, H b = some (.own a) → H' b = some (.own a)) (ht : ∀ b xs, H b = some (.tup xs) → H' b = some (.tup xs)) : ObjOk P w H' h' a o := by
  induction o with
  | lst xs => obtain ⟨z, its, n, r, e⟩ := x; exact ⟨z, its, n, r, k _ _ (.inl rfl) e⟩
  | tup xs => obtain ⟨z, its, r, ob, e, c⟩ := x; exact ⟨z, its, r, ob, k _ _ (.inl rfl) e, c⟩
  | dK kvs => obtain ⟨z, y, vs, r, ob, es, ep, e, c⟩ := x; exact ⟨z, y, vs, r, ob, es, ep, k _ _ (.inl rfl) e, c⟩
  | dT kvs =>
    obtain ⟨z, y, xs, r, ob, es, ep, e, c⟩ := x
    exact ⟨z, y, xs, Paired.mapP r fun p q z => ⟨z.1, ht _ _ z.2.1, z.2.2⟩, ob, es, ep, k _ _ (.inl rfl) e, c⟩
  | set S n => obtain ⟨ob, es, ep, t, e, c⟩ := x; exact ⟨ob, es, ep, t, k _ _ (.inl rfl) e, c⟩
  | ins C dx fs =>
    obtain ⟨d, z, ne, e, mA, ⟨od, es, ep, e2, c⟩, r⟩ := x
    exact ⟨ho _ d, z, ne, k _ _ (.inl rfl) e, mA, ⟨od, es, ep, k _ _ (.inr d) e2, c⟩, r⟩
  | own y => obtain ⟨ob, e⟩ := x; exact ⟨ob, k _ _ (.inl rfl) e⟩
  | xd fs => obtain ⟨mA, ⟨od, es, ep, e, c⟩, r⟩ := x; exact ⟨mA, ⟨od, es, ep, k _ _ (.inl rfl) e, c⟩, r⟩
  | rng lo hi => obtain ⟨t, u, v, e⟩ := x; exact ⟨t, u, v, k _ _ (.inl rfl) e⟩
  | frz ob u ih => obtain ⟨e, q⟩ := x; exact ⟨k _ _ (.inl rfl) e, ih q⟩
  | tbl ps =>
    have e : h.get? a = some { cls := .none, data := .fields ps } := x
    show h'.get? a = some { cls := .none, data := .fields ps }
    exact k a _ (.inl rfl) e
  | met f y =>
    have e : h.get? a = some (PySem.W.methodObj (.ref f) (.ref y)) := x
    show h'.get? a = some (PySem.W.methodObj (.ref f) (.ref y))
    exact k a _ (.inl rfl) e
  | ext φ => obtain ⟨p, ⟨o, e⟩, st⟩ := x; exact ⟨st _ _ p fun o q => k _ _ (.inl rfl) q, ⟨o, k _ _ (.inl rfl) e⟩, st⟩
theorem HOk.lt (x : HOk P w H h) (e : H a = some o) : a < h.objs.size := (x a o e).lt
theorem HOk.fresh (x : HOk P w H h) (e : h.objs.size ≤ a) : H a = none := by
  cases q : H a with
  | none => rfl
  | some u => exact absurd (Nat.lt_of_lt_of_le (x.lt q) e) (Nat.lt_irrefl _)
/-- every object of the heap is kept -/
theorem HOk.kept (x : HOk P w H h) (k : ∀ b u, h.get? b = some u → h'.get? b = some u) : HOk P w H h' := fun a o e =>
  (x a o e).stay (fun b u _ q => k b u q) (fun _ q => q) fun _ _ q => q
/-- a new object is laid and tracked -/
theorem HOk.laid (x : HOk P w H h) (k : ∀ b u, h.get? b = some u → h'.get? b = some u) (hp : h.objs.size ≤ a) (new : ObjOk P w (upd H a o) h' a o) : HOk P w (upd H a o) h' := fun b u e => by
  have hn := x.fresh hp
  by_cases hb : b = a
  · subst hb; rw [upd_same] at e; cases e; exact new
  · rw [upd_ne hb] at e
    exact (x b u e).stay (fun c v _ q => k c v q) (fun c q => by rw [upd_ne (ne_of_none q hn)]; exact q) fun c xs q => by rw [upd_ne (ne_of_none q hn)]; exact q
end

/-- what may be read as u: it is u, or a known u -/
def Rd (H : Hp) (a : Addr) (u : HO) : Prop := H a = some u ∨ ∃ o, H a = some (.frz o u)
theorem Rd.ok {P : Program} {w : World} {H : Hp} {h : Heap} {a : Addr} {u : HO} (r : Rd H a u) (x : HOk P w H h) : ObjOk P w H h a u := by
  rcases r with r | ⟨o, r⟩
  · exact x a u r
  · obtain ⟨_, q⟩ := x a _ r
    exact q
/-- what may be written -/
def Mut : Option HO → Prop
  | some (.lst _) => True
  | some (.dK _) => True
  | some (.dT _) => True
  | some (.set _ _) => True
  | some (.ins _ _ _) => True
  | some (.ext _) => True
  | _ => False
section
variable {P : Program} {w : World} {H : Hp} {h h' : Heap} {x e : Addr} {o' : HO}
/-- the object at e is changed: x itself, or the dict of the instance x -/
theorem HOk.write (ok : HOk P w H h) (mu : Mut (H x)) (he : e = x ∨ H e = some (.own x)) (k : ∀ b u, b ≠ e → h.get? b = some u → h'.get? b = some u) (heo : ∃ u, h'.get? e = some u)
    (new : ObjOk P w (upd H x o') h' x o') : HOk P w (upd H x o') h' := fun b u q => by
  have nown : ∀ c y, H c = some (.own y) → c ≠ x := fun c y r z => by subst z; rw [r] at mu; exact mu
  have ntup : ∀ c xs, H c = some (.tup xs) → c ≠ x := fun c xs r z => by subst z; rw [r] at mu; exact mu
  by_cases hb : b = x
  · subst hb; rw [upd_same] at q; cases q; exact new
  · rw [upd_ne hb] at q
    by_cases hbe : b = e
    · have q' : H b = some (.own x) := by
        rcases he with z | z
        · exact absurd (hbe.trans z) hb
        · rw [hbe]; exact z
      rw [q] at q'; cases q'
      obtain ⟨v, hv⟩ := heo
      exact ⟨v, by rw [hbe]; exact hv⟩
    · refine (ok b u q).stay (fun c v hc r => k c v ?_ r) (fun c r => by rw [upd_ne (nown c b r)]; exact r) fun c xs r => by rw [upd_ne (ntup c xs r)]; exact r
      rcases hc with rfl | hc
      · exact hbe
      · rintro rfl
        rcases he with z | z
        · exact nown c b hc z
        · rw [hc] at z; cases z; exact hb rfl
end

/-! ### kept unless tracked; of the frames at fs (the callers') the slots may change (an exception that passes writes there); of the records at ex (iterators) nothing is said -/
structure Un (fs ex : List Addr) (H H' : Hp) (h h' : Heap) : Prop where
  keep : ∀ b o, h.get? b = some o → H b = none → b ∉ fs → b ∉ ex → h'.get? b = some o
  slot : ∀ b o, h.get? b = some o → H b = none → b ∈ fs → b ∉ ex → ∃ sl, h'.get? b = some { o with slots := sl }
  free : ∀ b o, h.get? b = some o → H b = none → b ∉ ex → H' b = none
  there : ∀ b o, h.get? b = some o → b ∉ ex → ∃ o', h'.get? b = some o'
  tups : ∀ b xs, H b = some (.tup xs) → H' b = some (.tup xs)
  frzs : ∀ b o u, H b = some (.frz o u) → H' b = some (.frz o u)
  tbls : ∀ b ps, H b = some (.tbl ps) → ∃ more, H' b = some (.tbl (ps ++ more))
section
variable {fs fs' ex ex' : List Addr} {H H1 H2 : Hp} {h h1 h2 h' : Heap} {a x e : Addr} {o : HO}
theorem Un.any (u : Un fs ex H H1 h h1) {b : Addr} {ob : Obj} (q : h.get? b = some ob) (n : H b = none) (hx : b ∉ ex) : ∃ sl, h1.get? b = some { ob with slots := sl } := by
  by_cases hb : b ∈ fs
  · exact u.slot b ob q n hb hx
  · exact ⟨ob.slots, u.keep b ob q n hb hx⟩
theorem Un.kept (k : ∀ b u, h.get? b = some u → h'.get? b = some u) : Un fs ex H H h h' :=
  ⟨fun b ob q _ _ _ => k b ob q, fun b ob q _ _ _ => ⟨ob.slots, k b ob q⟩, fun _ _ _ n _ => n, fun b ob q _ => ⟨ob, k b ob q⟩, fun _ _ q => q, fun _ _ _ q => q, fun _ ps q => ⟨#[], by rw [q]; simp⟩⟩
theorem Un.refl : Un fs ex H H h h := Un.kept fun _ _ q => q
theorem Un.laid (k : ∀ b u, h.get? b = some u → h'.get? b = some u) (hp : h.objs.size ≤ a) (hn : H a = none) : Un fs ex H (upd H a o) h h' where
  keep := fun b u q _ _ _ => k b u q
  slot := fun b u q _ _ _ => ⟨u.slots, k b u q⟩
  free := fun b u q n _ => by rw [upd_ne (Nat.ne_of_lt (Nat.lt_of_lt_of_le (Heap.lt_size q) hp))]; exact n
  there := fun b u q _ => ⟨u, k b u q⟩
  tups := fun b xs q => by rw [upd_ne (ne_of_none q hn)]; exact q
  frzs := fun b u xs q => by rw [upd_ne (ne_of_none q hn)]; exact q
  tbls := fun b ps q => ⟨#[], by rw [upd_ne (ne_of_none q hn), q]; simp⟩
theorem Un.write (mu : Mut (H x)) (he : e = x ∨ H e = some (.own x)) (k : ∀ b u, b ≠ e → h.get? b = some u → h'.get? b = some u) (heo : ∃ u, h'.get? e = some u) : Un fs ex H (upd H x o) h h' := by
  have hx : ∀ b, H b = none → b ≠ x := fun b n z => by subst z; rw [n] at mu; exact mu
  have hb : ∀ b, H b = none → b ≠ e := fun b n z => by
    subst z
    rcases he with r | r
    · exact hx b n r
    · rw [n] at r; cases r
  have hm : ∀ b u, H b = some u → ¬ Mut (some u) → b ≠ x := fun b u q nm z => by subst z; rw [q] at mu; exact nm mu
  refine ⟨fun b u q n _ _ => k b u (hb b n) q, fun b u q n _ _ => ⟨u.slots, k b u (hb b n) q⟩, fun b u q n _ => by rw [upd_ne (hx b n)]; exact n, fun b u q _ => ?_,
    fun b xs q => by rw [upd_ne (hm b _ q fun z => z)]; exact q, fun b u xs q => by rw [upd_ne (hm b _ q fun z => z)]; exact q, fun b ps q => ⟨#[], by rw [upd_ne (hm b _ q fun z => z), q]; simp⟩⟩
  by_cases hbe : b = e
  · subst hbe; exact heo
  · exact ⟨u, k b u hbe q⟩
end

/-! ### the heap without what is tracked -/
def trk (h : Heap) (H : Hp) : List Addr := (List.range h.objs.size).filter fun a => (H a).isSome
def hidT (h : Heap) (H : Hp) : Heap := PySem.W.hideAll h (trk h H)
theorem hidT_size (h : Heap) (H : Hp) : (hidT h H).objs.size = h.objs.size := PySem.W.hideAll_size _ _
theorem hidT_get {h : Heap} {H : Hp} {b : Addr} {o : Obj} (e : h.get? b = some o) (n : H b = none) : (hidT h H).get? b = some o :=
  PySem.W.hideAll_get _ e fun hm => by
    have q : (H b).isSome = true := (List.mem_filter.mp hm).2
    rw [n] at q; simp at q
theorem of_hidT {h : Heap} {H : Hp} {b : Addr} {o : Obj} (e : (hidT h H).get? b = some o) : h.get? b = some o ∧ H b = none := by
  have e' : h.get? b = some o := PySem.W.of_hideAll (trk h H) e
  refine ⟨e', ?_⟩
  cases q : H b with
  | none => rfl
  | some x =>
    have hm : b ∈ trk h H := List.mem_filter.mpr ⟨List.mem_range.mpr (Heap.lt_size e'), by simp [q]⟩
    have z : (hidT h H).get? b = none := PySem.W.hideAll_none (trk h H) hm
    rw [z] at e; cases e

/-! ### OpenK's ledger, filled with every new object but one -/
def allNews (g h : Heap) (L : Addr) : List (Addr × Obj) := (List.range h.objs.size).filterMap fun a => if a = L ∨ (g.get? a).isSome = true then none else (h.get? a).map fun o => (a, o)
theorem mem_allNews {g h : Heap} {L a : Addr} {o : Obj} (h1 : a ≠ L) (h2 : g.get? a = none) (h3 : h.get? a = some o) : (a, o) ∈ allNews g h L :=
  List.mem_filterMap.mpr ⟨a, List.mem_range.mpr (Heap.lt_size h3), by simp [h1, h2, h3]⟩
theorem of_mem_allNews {g h : Heap} {L : Addr} {p : Addr × Obj} (hp : p ∈ allNews g h L) : p.1 ≠ L ∧ g.get? p.1 = none ∧ h.get? p.1 = some p.2 := by
  obtain ⟨b, _, e⟩ := List.mem_filterMap.mp hp
  split at e
  · cases e
  · rename_i hn
    cases q : h.get? b with
    | none => rw [q] at e; simp at e
    | some u =>
      rw [q] at e
      simp only [Option.map_some, Option.some.injEq] at e
      subst e
      refine ⟨fun z => hn (.inl z), ?_, q⟩
      show g.get? b = none
      cases r : g.get? b with
      | none => rfl
      | some v => exact (hn (.inr (by simp [r]))).elim
theorem news_all {g h : Heap} {L : Addr} : News g L h (allNews g h L) := fun p hp => let ⟨a, b, c⟩ := of_mem_allNews hp; ⟨c, a, b⟩
end L2

namespace L2
open PySem PySem.Spec PyProof.Rows

/-- the module's facts, over the base: the heap at the law's entry without what is tracked there -/
structure Mod (K : PySem.W.Frag) (mg : Str → Option Value) (base : Heap) : Prop where
  kin : K.In base
  glob : base.Ns mainGlobals mg
  blt : ∃ mb, base.Ns builtinsNs mb ∧ ∀ x : Str, x ≠ "__name__" → mb x = bootBuiltins x
  nolimit : base.NoLimit

/-- the context: a def's body (or a comprehension's block) running. base: fixed through the whole law; s₀, H₀: the entry; outer: the frames whose slots others may change (a def's callers); stack: all frames that run;
   ex: iterators that were made ahead of the entry and are walked here (a comprehension's); fn: the names whose cells were made at the entry (a def: all; a comprehension's block: its own); calm: not within an except suite; pn: pins that every state bears; xe: what is wanted of an exception that leaves the code -/
structure Cx where
  prog : Program
  w : World
  K : PySem.W.Frag
  mg : Str → Option Value
  base : Heap
  A : Around
  N : List Str
  s₀ : Shared
  H₀ : Hp
  env : Env
  outer : List Env
  stack : List Env
  ex : List Addr
  fn : Str → Bool
  calm : Bool
  pn : List (Addr × Obj)
  xe : Value → Shared → Prop
/-- the callers' frames -/
def frs (l : List Env) : List Addr := l.filterMap (·.frame)
abbrev Cx.fs (X : Cx) : List Addr := frs X.outer

def Vis (sc : Scope) (x : Str) : Prop := sc.names.lookup x = some .local ∨ sc.names.lookup x = some .cell ∨ sc.names.lookup x = some .free
def Loc (sc : Scope) (x : Str) : Prop := sc.names.lookup x = some .local ∨ sc.names.lookup x = some .cell
def Look (env : Env) (h : Heap) (m : Str → Option Value) (x : Str) (u : Value) : Prop :=
  (env.kindOf x = some .local ∧ m x = some u) ∨ ((env.kindOf x = some .cell ∨ env.kindOf x = some .free) ∧ ∃ c, env.cells.lookup x = some c ∧ h.IsCell c (some u))

structure Cx.Ok (X : Cx) : Prop where
  mod : Mod X.K X.mg X.base
  kind : X.env.scope.kind = .function
  glob : X.env.globals = mainGlobals
  blt : X.env.builtins = builtinsNs
  above : X.s₀.heap.objs.size ≤ X.env.locals
  inj : ∀ x y c, X.env.cells.lookup x = some c → X.env.cells.lookup y = some c → x = y
  has : ∀ x, (X.env.kindOf x = some .cell ∨ X.env.kindOf x = some .free) → ∃ c, X.env.cells.lookup x = some c
  cab : ∀ x c, X.fn x = true → X.env.cells.lookup x = some c → X.s₀.heap.objs.size ≤ c
  hd : X.calm = true → X.A.handled = none
  frames : X.A.frames = some X.stack
  stk : X.stack = X.outer ∨ (X.stack = X.env :: X.outer ∧ X.env.frame = some X.env.locals)
  exf : ∀ b ∈ X.ex, b ≠ X.env.locals ∧ ∀ x c, X.env.cells.lookup x = some c → c ≠ b
  bs : ∀ b o, X.base.get? b = some o → X.s₀.heap.get? b = some o ∧ X.H₀ b = none
  bsz : X.base.objs.size ≤ X.s₀.heap.objs.size
  noex : ∀ b o, X.base.get? b = some o → b ∉ X.ex
  exfs : ∀ b ∈ X.ex, b ∉ X.fs
  funs : X.s₀.heap.FunFrames X.base X.outer
  frf : ∀ b ∈ X.fs, X.H₀ b = none

structure Inv (X : Cx) (pins : List (Addr × Obj)) (σ : List (Option V)) (H : Hp) (s : Shared) : Prop where
  ok : X.Ok
  os : s.os = X.s₀.os
  bare : AllBare s.gens
  base : Un X.fs X.ex X.H₀ H X.s₀.heap s.heap
  loc : ∃ m, s.heap.Ns X.env.locals m ∧ ∀ (i : Nat) (x : Str) (v : V), X.N[i]? = some x → σ[i]? = some (some v) → Vis X.env.scope x → ∃ u, RelV v u ∧ Look X.env s.heap m x u
  cell : ∀ x c, X.env.cells.lookup x = some c → ∃ v, s.heap.IsCell c v
  free : H X.env.locals = none
  freeC : ∀ x c, X.env.cells.lookup x = some c → H c = none
  pin : ∀ p ∈ X.pn ++ pins, s.heap.get? p.1 = some p.2 ∧ H p.1 = none ∧ p.1 ≠ X.env.locals ∧ p.1 ∉ X.fs ∧ ∀ v, p.2.data ≠ .cell v
  hok : HOk X.prog X.w H s.heap
  len : σ.length = X.N.length

section
variable {X : Cx} {pins : List (Addr × Obj)} {σ : List (Option V)} {H H' : Hp} {s : Shared} {h' : Heap}

theorem Cx.Ok.nofr (ok : X.Ok) {b : Addr} {o : Obj} (e : X.base.get? b = some o) : b ∉ X.fs := fun hb => by
  have := (ok.funs.mem hb).1
  rw [e] at this; cases this
theorem Inv.bs (I : Inv X pins σ H s) : ∀ b o, X.base.get? b = some o → s.heap.get? b = some o ∧ H b = none := fun b o e =>
  ⟨I.base.keep b o (I.ok.bs b o e).1 (I.ok.bs b o e).2 (I.ok.nofr e) (I.ok.noex b o e), I.base.free b o (I.ok.bs b o e).1 (I.ok.bs b o e).2 (I.ok.noex b o e)⟩
theorem Inv.bk (I : Inv X pins σ H s) : ∀ b o, X.base.get? b = some o → s.heap.get? b = some o := fun b o e => (I.bs b o e).1
theorem Inv.mod (I : Inv X pins σ H s) : Mod X.K X.mg X.base := I.ok.mod
theorem Inv.kIn (I : Inv X pins σ H s) : X.K.In s.heap := I.ok.mod.kin.keeps I.bk
theorem Inv.nolimit (I : Inv X pins σ H s) : s.heap.NoLimit := I.ok.mod.nolimit.keeps I.bk
/-- the frame over the base: for OpenK's rules (K.In X.base is I.mod.kin) -/
theorem Inv.fr (I : Inv X pins σ H s) : ∃ m, Fr X.base X.env.locals s.heap m :=
  let ⟨m, hn, _⟩ := I.loc
  ⟨m, hn, I.bk, Nat.le_trans I.ok.bsz I.ok.above⟩
theorem Inv.lt (I : Inv X pins σ H s) : X.env.locals < s.heap.objs.size := let ⟨_, hn, _⟩ := I.loc; hn.lt
theorem Inv.sz (I : Inv X pins σ H s) : X.s₀.heap.objs.size ≤ s.heap.objs.size := Nat.le_trans I.ok.above (Nat.le_of_lt I.lt)
theorem Inv.nofs (I : Inv X pins σ H s) {a : Addr} (h : s.heap.objs.size ≤ a) : a ∉ X.fs := fun hb => by
  obtain ⟨_, o, ho, _⟩ := I.ok.funs.mem hb
  exact absurd (Nat.lt_of_lt_of_le (Heap.lt_size ho) (Nat.le_trans I.sz h)) (Nat.lt_irrefl _)
theorem Inv.cne (I : Inv X pins σ H s) : ∀ x c, X.env.cells.lookup x = some c → c ≠ X.env.locals := fun x c e z => by
  obtain ⟨v, o, ho, hd⟩ := I.cell x c e
  obtain ⟨m, ⟨o', es, ep, ho', hd', _⟩, _⟩ := I.loc
  rw [z, ho'] at ho; cases ho; rw [hd'] at hd; cases hd
theorem Inv.funs (I : Inv X pins σ H s) : s.heap.FunFrames X.base X.outer := by
  have all : ∀ (l : List Env), (∀ b ∈ frs l, b ∈ X.fs) → X.s₀.heap.FunFrames X.base l → s.heap.FunFrames X.base l := by
    intro l
    induction l with
    | nil => intro _ _; trivial
    | cons env r ih =>
      intro hs hl
      obtain ⟨hk, ⟨L, o, hf, hn, ho, hd⟩, hr⟩ := hl
      have hL : L ∈ X.fs := hs L (by unfold frs; rw [List.filterMap_cons, hf]; exact List.mem_cons_self)
      obtain ⟨sl, e⟩ := I.base.slot L o ho (I.ok.frf L hL) hL fun z => I.ok.exfs L z hL
      exact ⟨hk, ⟨L, _, hf, hn, e, hd⟩, ih (fun b hb => hs b (by unfold frs; rw [List.filterMap_cons, hf]; exact List.mem_cons_of_mem _ hb)) hr⟩
  exact all X.outer (fun _ hb => hb) I.ok.funs

/-- the frames that run, for a call -/
theorem Inv.stack (I : Inv X pins σ H s) : s.heap.FunFrames X.base X.stack := by
  rcases I.ok.stk with e | ⟨e, hf⟩
  · rw [e]; exact I.funs
  · rw [e]
    obtain ⟨m, hn, _⟩ := I.loc
    refine .cons (by rw [I.ok.kind]; decide) hf hn ?_ I.funs
    exact Heap.get?_none_of_le (Nat.le_trans I.ok.bsz I.ok.above)
theorem Inv.stkSub (I : Inv X pins σ H s) : ∀ b ∈ frs X.stack, b ∈ X.env.locals :: X.fs := fun b hb => by
  rcases I.ok.stk with e | ⟨e, hf⟩
  · rw [e] at hb; exact List.mem_cons_of_mem _ hb
  · rw [e] at hb
    unfold frs at hb
    rw [List.filterMap_cons, hf] at hb
    exact hb
theorem Inv.stkFree (I : Inv X pins σ H s) : ∀ b ∈ frs X.stack, H b = none := fun b hb => by
  rcases List.mem_cons.mp (I.stkSub b hb) with e | hb
  · rw [e]; exact I.free
  · obtain ⟨_, o, ho, _⟩ := I.ok.funs.mem hb
    exact I.base.free b o ho (I.ok.frf b hb) fun z => I.ok.exfs b z hb

/-- THE STEP: the untracked objects but the frame and the records at ch are kept (the callers' frames up to slots), the frame's map is kept, the new abstract heap is held -/
theorem Inv.step {g' : Array GenState} {t' : Nat} {d' : Drawn} {ch : List Addr} (I : Inv X pins σ H s)
    (hch : ∀ b ∈ ch, (b ∈ X.ex ∨ X.s₀.heap.objs.size ≤ b) ∧ b ≠ X.env.locals ∧ (∀ x c, X.env.cells.lookup x = some c → c ≠ b) ∧ ∀ p ∈ X.pn ++ pins, p.1 ≠ b)
    (keep : ∀ b o, b ≠ X.env.locals → b ∉ X.fs → b ∉ ch → s.heap.get? b = some o → H b = none → h'.get? b = some o)
    (slot : ∀ b o, b ≠ X.env.locals → b ∈ X.fs → b ∉ ch → s.heap.get? b = some o → H b = none → ∃ sl, h'.get? b = some { o with slots := sl }) (free : ∀ b o, b ∉ ch → s.heap.get? b = some o → H b = none → H' b = none)
    (there : ∀ b o, b ∉ ch → s.heap.get? b = some o → ∃ o', h'.get? b = some o')
    (tups : ∀ b xs, H b = some (.tup xs) → H' b = some (.tup xs)) (frzs : ∀ b o u, H b = some (.frz o u) → H' b = some (.frz o u)) (tbls : ∀ b ps, H b = some (.tbl ps) → ∃ more, H' b = some (.tbl (ps ++ more)))
    (ns : ∀ m, s.heap.Ns X.env.locals m → h'.Ns X.env.locals m) (hok : HOk X.prog X.w H' h') (hg : AllBare g') :
    Inv X pins σ H' { s with heap := h', gens := g', drawn := d', toks := t' } := by
  have neL : ∀ b o, X.s₀.heap.get? b = some o → b ≠ X.env.locals := fun b o e => Nat.ne_of_lt (Nat.lt_of_lt_of_le (Heap.lt_size e) I.ok.above)
  have neC : ∀ b o, X.s₀.heap.get? b = some o → b ∉ X.ex → b ∉ ch := fun b o e hx hb => by
    rcases (hch b hb).1 with z | z
    · exact hx z
    · exact absurd (Nat.lt_of_lt_of_le (Heap.lt_size e) z) (Nat.lt_irrefl _)
  have cellK : ∀ x c, X.env.cells.lookup x = some c → ∀ v, s.heap.IsCell c v → h'.IsCell c v := fun x c e v ⟨o, ho, hd⟩ => by
    have nch : c ∉ ch := fun z => (hch c z).2.2.1 x c e rfl
    by_cases hc : c ∈ X.fs
    · obtain ⟨sl, q⟩ := slot c o (I.cne x c e) hc nch ho (I.freeC x c e)
      exact ⟨_, q, hd⟩
    · exact ⟨o, keep c o (I.cne x c e) hc nch ho (I.freeC x c e), hd⟩
  refine ⟨I.ok, I.os, hg, ⟨fun b o e n hb hx => ?_, fun b o e n hb hx => ?_, fun b o e n hx => ?_, fun b o e hx => ?_, fun b xs e => tups b xs (I.base.tups b xs e), fun b o xs e => frzs b o xs (I.base.frzs b o xs e), fun b ps e => ?_⟩, ?_, fun x c e => ?_, ?_, fun x c e => ?_, fun p hp => ?_, hok, I.len⟩
  · exact keep b o (neL b o e) hb (neC b o e hx) (I.base.keep b o e n hb hx) (I.base.free b o e n hx)
  · obtain ⟨sl, e1⟩ := I.base.slot b o e n hb hx
    obtain ⟨sl', e2⟩ := slot b _ (neL b o e) hb (neC b o e hx) e1 (I.base.free b o e n hx)
    exact ⟨sl', e2⟩
  · obtain ⟨o', e1⟩ := I.base.there b o e hx
    exact free b o' (neC b o e hx) e1 (I.base.free b o e n hx)
  · obtain ⟨o', e1⟩ := I.base.there b o e hx
    exact there b o' (neC b o e hx) e1
  · obtain ⟨m1, e1⟩ := I.base.tbls b ps e
    obtain ⟨m2, e2⟩ := tbls b _ e1
    exact ⟨m1 ++ m2, by rw [e2, Array.append_assoc]⟩
  · obtain ⟨m, hn, hl⟩ := I.loc
    refine ⟨m, ns m hn, fun i x v e1 e2 e3 => ?_⟩
    obtain ⟨u, r, l⟩ := hl i x v e1 e2 e3
    refine ⟨u, r, ?_⟩
    rcases l with l | ⟨k, c, e, z⟩
    · exact .inl l
    · exact .inr ⟨k, c, e, cellK x c e _ z⟩
  · obtain ⟨v, z⟩ := I.cell x c e
    exact ⟨v, cellK x c e v z⟩
  · obtain ⟨m, ⟨o, _, _, ho, _⟩, _⟩ := I.loc
    exact free _ o (fun z => (hch _ z).2.1 rfl) ho I.free
  · obtain ⟨v, o, ho, hd⟩ := I.cell x c e
    exact free c o (fun z => (hch c z).2.2.1 x c e rfl) ho (I.freeC x c e)
  · obtain ⟨e, n, ne, nf, d⟩ := I.pin p hp
    have nch : p.1 ∉ ch := fun z => (hch p.1 z).2.2.2 p hp rfl
    exact ⟨keep p.1 p.2 ne nf nch e n, free p.1 p.2 nch e n, ne, nf, d⟩
/-- .. where the frame's own object is kept too -/
theorem Inv.un {t' : Nat} (I : Inv X pins σ H s) (u : Un X.fs [] H H' s.heap h') (hok : HOk X.prog X.w H' h') : Inv X pins σ H' { s with heap := h', toks := t' } := by
  obtain ⟨m, ⟨o, es, ep, ho, r⟩, _⟩ := id I.loc
  obtain ⟨sl, hL⟩ := u.any ho I.free (by simp)
  exact I.step (g' := s.gens) (d' := s.drawn) (ch := []) (fun _ z => nomatch z) (fun b o _ hb _ e n => u.keep b o e n hb (by simp)) (fun b o _ hb _ e n => u.slot b o e n hb (by simp)) (fun b o _ e n => u.free b o e n (by simp)) (fun b o _ e => u.there b o e (by simp)) u.tups u.frzs u.tbls (fun m' hm => by
    obtain ⟨o', es', ep', ho', r'⟩ := hm
    rw [ho] at ho'; cases ho'
    exact ⟨_, es', ep', hL, r'⟩) hok I.bare
/-- behind a call (or a comprehension's block): the slots of this frame may have changed too, the records at ch may have turned -/
theorem Inv.call {g' : Array GenState} {t' : Nat} {d' : Drawn} {ch : List Addr} (I : Inv X pins σ H s) (u : Un (frs X.stack) ch H H' s.heap h') (hok : HOk X.prog X.w H' h') (hg : AllBare g')
    (hch : ∀ b ∈ ch, (b ∈ X.ex ∨ X.s₀.heap.objs.size ≤ b) ∧ b ≠ X.env.locals ∧ (∀ x c, X.env.cells.lookup x = some c → c ≠ b) ∧ ∀ p ∈ X.pn ++ pins, p.1 ≠ b) :
    Inv X pins σ H' { s with heap := h', gens := g', drawn := d', toks := t' } := by
  obtain ⟨m, ⟨o, es, ep, ho, r⟩, _⟩ := id I.loc
  obtain ⟨sl, hL⟩ := u.any ho I.free fun z => (hch _ z).2.1 rfl
  exact I.step (ch := ch) hch (fun b o hL hb hc e n => u.keep b o e n (fun z => (List.mem_cons.mp (I.stkSub b z)).elim hL hb) hc) (fun b o _ _ hc e n => u.any e n hc) (fun b o hc e n => u.free b o e n hc) (fun b o hc e => u.there b o e hc) u.tups u.frzs u.tbls (fun m' hm => by
    obtain ⟨o', es', ep', ho', r'⟩ := hm
    rw [ho] at ho'; cases ho'
    exact ⟨_, es', ep', hL, r'⟩) hok hg
/-- an untracked record of ours (an iterator) has turned -/
theorem Inv.turned {t' : Nat} {it : Addr} (I : Inv X pins σ H s) (k : ∀ b o, b ≠ it → s.heap.get? b = some o → h'.get? b = some o) (hn : H it = none) (hL : it ≠ X.env.locals)
    (h1 : it ∈ X.ex ∨ X.s₀.heap.objs.size ≤ it) (h2 : ∀ x c, X.env.cells.lookup x = some c → c ≠ it) (h3 : ∀ p ∈ X.pn ++ pins, p.1 ≠ it) : Inv X pins σ H { s with heap := h', toks := t' } := by
  have nit : ∀ b u, H b = some u → b ≠ it := fun b u e z => by rw [z, hn] at e; cases e
  refine I.step (g' := s.gens) (d' := s.drawn) (ch := [it]) (fun b hb => ?_) (fun b o _ _ hc e _ => k b o (fun z => hc (by simp [z])) e) (fun b o _ _ hc e _ => ⟨o.slots, k b o (fun z => hc (by simp [z])) e⟩) (fun _ _ _ _ n => n)
    (fun b o hc e => ⟨o, k b o (fun z => hc (by simp [z])) e⟩) (fun _ _ e => e) (fun _ _ _ e => e) (fun b ps e => ⟨#[], by rw [e]; simp⟩) (fun m hm => ?_) (fun b u e => ?_) I.bare
  · have e : b = it := by simpa using hb
    subst e
    exact ⟨h1, hL, h2, h3⟩
  · obtain ⟨o, es, ep, ho, r⟩ := hm
    exact ⟨o, es, ep, k _ o (Ne.symm hL) ho, r⟩
  · refine (I.hok b u e).stay (fun c v hc q => k c v ?_ q) (fun _ q => q) fun _ _ q => q
    rcases hc with z | z
    · rw [z]; exact nit b u e
    · exact nit c _ z
theorem Inv.tok (I : Inv X pins σ H s) (t : Nat) : Inv X pins σ H { s with toks := t } := I.un (h' := s.heap) (t' := t) Un.refl I.hok
/-- all objects kept -/
theorem Inv.kept {t' : Nat} (I : Inv X pins σ H s) (k : ∀ b u, s.heap.get? b = some u → h'.get? b = some u) : Inv X pins σ H { s with heap := h', toks := t' } := I.un (Un.kept k) (I.hok.kept k)
/-- a new object laid and tracked -/
theorem Inv.laid {a : Addr} {o : HO} {t' : Nat} (I : Inv X pins σ H s) (k : ∀ b u, s.heap.get? b = some u → h'.get? b = some u) (hp : s.heap.objs.size ≤ a) (new : ObjOk X.prog X.w (upd H a o) h' a o) :
    Inv X pins σ (upd H a o) { s with heap := h', toks := t' } := I.un (Un.laid k hp (I.hok.fresh hp)) (I.hok.laid k hp new)
/-- an object written -/
theorem Inv.write {x e : Addr} {o : HO} {t' : Nat} (I : Inv X pins σ H s) (mu : Mut (H x)) (he : e = x ∨ H e = some (.own x)) (k : ∀ b u, b ≠ e → s.heap.get? b = some u → h'.get? b = some u) (heo : ∃ u, h'.get? e = some u)
    (new : ObjOk X.prog X.w (upd H x o) h' x o) : Inv X pins σ (upd H x o) { s with heap := h', toks := t' } := I.un (Un.write mu he k heo) (I.hok.write mu he k heo new)
theorem Inv.pins_of {pins' : List (Addr × Obj)} (I : Inv X pins σ H s) (h : ∀ p ∈ pins', s.heap.get? p.1 = some p.2 ∧ H p.1 = none ∧ p.1 ≠ X.env.locals ∧ p.1 ∉ X.fs ∧ ∀ v, p.2.data ≠ .cell v) : Inv X pins' σ H s :=
  ⟨I.ok, I.os, I.bare, I.base, I.loc, I.cell, I.free, I.freeC, fun p hp => (List.mem_append.mp hp).elim (fun z => I.pin p (List.mem_append_left _ z)) (h p), I.hok, I.len⟩

theorem nodup_ix {N : List Str} (hN : N.Nodup) {i j : Nat} {x : Str} (a : N[i]? = some x) (b : N[j]? = some x) : i = j := by
  obtain ⟨h1, e1⟩ := List.getElem?_eq_some_iff.mp a
  obtain ⟨h2, e2⟩ := List.getElem?_eq_some_iff.mp b
  exact (List.getElem_inj hN).mp (e1.trans e2.symm)

/-- a name is stored; what changed -/
theorem store_ok2 {M : Model} {A : Around} {E : Value → Shared → Prop} {i : Nat} {x : Str} {v : V} {u : Value} {Q : Unit → Shared → Prop} (I : Inv X pins σ H s) (hN : X.N.Nodup) (hi : X.N[i]? = some x) (hx : Loc X.env.scope x) (r : RelV v u)
    (h : ∀ s', Inv X pins (σ.set i (some v)) H s' → (∃ a, Heap.SameBut a s.heap s'.heap ∧ (a = X.env.locals ∨ X.env.cells.lookup x = some a)) → Q () s') (hf : X.fn x = true ∨ X.env.scope.names.lookup x = some .local := by first | exact .inl rfl | exact .inr rfl | assumption) : wpAny M A (storeName X.env x u) Q E s := by
  obtain ⟨m, hn, hl⟩ := id I.loc
  have hcls : (X.env.scope.kind == .class || (X.env.scope.kind == .module && X.env.locals != X.env.globals)) = false := by rw [I.ok.kind]; rfl
  have hiσ : i < σ.length := by rw [I.len]; exact (List.getElem?_eq_some_iff.mp hi).1
  have cne := I.cne
  have tracked : ∀ {a : Addr} {h' : Heap}, (∃ o, s.heap.get? a = some o ∧ H a = none) → Heap.SameBut a s.heap h' → HOk X.prog X.w H h' := fun {a h'} ha hs b ob e => by
    obtain ⟨_, _, hfree⟩ := ha
    refine (I.hok b ob e).stay (fun c w' hc q => (hs.2 c ?_).trans q) (fun _ q => q) fun _ _ q => q
    rintro rfl
    rcases hc with rfl | hc
    · rw [hfree] at e; cases e
    · rw [hfree] at hc; cases hc
  rcases hx with hk | hk
  · refine wpAny_storeName_local hk hn (fun h' hn' hs => ?_) hcls
    obtain ⟨oL, _, _, hoL, _⟩ := id hn
    refine h _ ⟨I.ok, I.os, I.bare, ⟨fun b o e n hb hx => ?_, fun b o e n hb hx => ?_, I.base.free, fun b o e hx => ?_, I.base.tups, I.base.frzs, I.base.tbls⟩, ⟨_, hn', fun j y v' e1 e2 e3 => ?_⟩, fun y c e => ?_, I.free, I.freeC, fun p hp => ?_, tracked ⟨oL, hoL, I.free⟩ hs, by simpa using I.len⟩ ⟨_, hs, .inl rfl⟩
    · exact (hs.2 b (Nat.ne_of_lt (Nat.lt_of_lt_of_le (Heap.lt_size e) I.ok.above))).trans (I.base.keep b o e n hb hx)
    · obtain ⟨sl, e1⟩ := I.base.slot b o e n hb hx
      exact ⟨sl, (hs.2 b (Nat.ne_of_lt (Nat.lt_of_lt_of_le (Heap.lt_size e) I.ok.above))).trans e1⟩
    · obtain ⟨o', e1⟩ := I.base.there b o e hx
      exact ⟨o', (hs.2 b (Nat.ne_of_lt (Nat.lt_of_lt_of_le (Heap.lt_size e) I.ok.above))).trans e1⟩
    · by_cases hj : j = i
      · subst hj
        rw [hi] at e1; cases e1
        rw [List.getElem?_set_self hiσ] at e2
        cases e2
        exact ⟨u, r, .inl ⟨hk, by simp⟩⟩
      · rw [List.getElem?_set_ne (Ne.symm hj)] at e2
        obtain ⟨u', r', q⟩ := hl j y v' e1 e2 e3
        refine ⟨u', r', ?_⟩
        rcases q with ⟨k, e⟩ | ⟨k, c, e, z⟩
        · refine .inl ⟨k, ?_⟩
          have : y ≠ x := fun e => hj (nodup_ix hN e1 (e ▸ hi))
          simp [this, e]
        · exact .inr ⟨k, c, e, z.sameBut hs (cne y c e)⟩
    · obtain ⟨w', z⟩ := I.cell y c e
      exact ⟨w', z.sameBut hs (cne y c e)⟩
    · obtain ⟨e, n, ne, nf, d⟩ := I.pin p hp
      exact ⟨(hs.2 p.1 ne).trans e, n, ne, nf, d⟩
  · have hfn : X.fn x = true := by
      rcases hf with z | z
      · exact z
      · rw [z] at hk; cases hk
    obtain ⟨c, hc⟩ := I.ok.has x (.inl hk)
    obtain ⟨w', z⟩ := I.cell x c hc
    refine wpAny_storeName_cell I.ok.kind hk hc z (fun h' hc' hs => ?_)
    obtain ⟨oc, hoc, hocd⟩ := id z
    refine h { s with heap := h' } ⟨I.ok, I.os, I.bare, ⟨fun b o e n hb hx => ?_, fun b o e n hb hx => ?_, I.base.free, fun b o e hx => ?_, I.base.tups, I.base.frzs, I.base.tbls⟩, ⟨m, hn.sameBut hs (Ne.symm (cne x c hc)), fun j y v' e1 e2 e3 => ?_⟩, fun y c' e => ?_, I.free, I.freeC, fun p hp => ?_, tracked ⟨oc, hoc, I.freeC x c hc⟩ hs, by simpa using I.len⟩ ⟨c, hs, .inr hc⟩
    · exact (hs.2 b (Nat.ne_of_lt (Nat.lt_of_lt_of_le (Heap.lt_size e) (I.ok.cab x c hfn hc)))).trans (I.base.keep b o e n hb hx)
    · obtain ⟨sl, e1⟩ := I.base.slot b o e n hb hx
      exact ⟨sl, (hs.2 b (Nat.ne_of_lt (Nat.lt_of_lt_of_le (Heap.lt_size e) (I.ok.cab x c hfn hc)))).trans e1⟩
    · obtain ⟨o', e1⟩ := I.base.there b o e hx
      exact ⟨o', (hs.2 b (Nat.ne_of_lt (Nat.lt_of_lt_of_le (Heap.lt_size e) (I.ok.cab x c hfn hc)))).trans e1⟩
    · by_cases hj : j = i
      · subst hj
        rw [hi] at e1; cases e1
        rw [List.getElem?_set_self hiσ] at e2
        cases e2
        exact ⟨u, r, .inr ⟨.inl hk, c, hc, hc'⟩⟩
      · rw [List.getElem?_set_ne (Ne.symm hj)] at e2
        obtain ⟨u', r', q⟩ := hl j y v' e1 e2 e3
        refine ⟨u', r', ?_⟩
        rcases q with q | ⟨k, c', e, z'⟩
        · exact .inl q
        · refine .inr ⟨k, c', e, z'.sameBut hs ?_⟩
          rintro rfl
          exact hj (nodup_ix hN e1 (I.ok.inj _ _ _ e hc ▸ hi))
    · by_cases hcc : c' = c
      · subst hcc; exact ⟨_, hc'⟩
      · obtain ⟨w2, z2⟩ := I.cell y c' e
        exact ⟨w2, z2.sameBut hs hcc⟩
    · obtain ⟨e, n, ne, nf, d⟩ := I.pin p hp
      refine ⟨(hs.2 p.1 ?_).trans e, n, ne, nf, d⟩
      intro q
      rw [q, hoc] at e
      have q' : oc = p.2 := Option.some.inj e
      exact d w' (by rw [← q']; exact hocd)
theorem store_ok {M : Model} {A : Around} {E : Value → Shared → Prop} {i : Nat} {x : Str} {v : V} {u : Value} {Q : Unit → Shared → Prop} (I : Inv X pins σ H s) (hN : X.N.Nodup) (hi : X.N[i]? = some x) (hx : Loc X.env.scope x) (r : RelV v u)
    (h : ∀ s', Inv X pins (σ.set i (some v)) H s' → Q () s') (hf : X.fn x = true ∨ X.env.scope.names.lookup x = some .local := by first | exact .inl rfl | exact .inr rfl | assumption) : wpAny M A (storeName X.env x u) Q E s :=
  store_ok2 I hN hi hx r (fun s' I' _ => h s' I') hf
/-- behind a call or a block, the state as it is -/
theorem Inv.call' {s' : Shared} {ch : List Addr} (I : Inv X pins σ H s) (ho : s'.os = s.os) (u : Un (frs X.stack) ch H H' s.heap s'.heap) (hok : HOk X.prog X.w H' s'.heap) (hg : AllBare s'.gens)
    (hch : ∀ b ∈ ch, (b ∈ X.ex ∨ X.s₀.heap.objs.size ≤ b) ∧ b ≠ X.env.locals ∧ (∀ x c, X.env.cells.lookup x = some c → c ≠ b) ∧ ∀ p ∈ X.pn ++ pins, p.1 ≠ b) : Inv X pins σ H' s' := by
  obtain ⟨h', g', d', t', o'⟩ := s'
  have e : o' = s.os := ho
  subst e
  exact I.call (g' := g') (t' := t') (d' := d') u hok hg hch
end

/-! ### the judgements -/
/-- an exception: its class, its own dict's address (where it has one), the abstract heap behind it -/
abbrev XK := Value → Option Addr → Hp → Prop
abbrev St := List (Option V)
abbrev VK := V → Hp → Prop
/-- an expression's reading; a test's; an argument list's -/
abbrev TE := St → Hp → VK → Prop
abbrev TT := St → Hp → (Bool → Hp → Prop) → Prop
abbrev TA := St → Hp → (List V → Hp → Prop) → Prop
/-- what is wanted behind a statement -/
structure Ends where
  nx : St → Hp → Prop
  rt : VK
  bk : St → Hp → Prop := fun _ _ => False
  ct : St → Hp → Prop := fun _ _ => False
abbrev TS := Ends → St → Hp → Prop

def EP (X : Cx) (pins : List (Addr × Obj)) (σ : St) (Q : VK) (u : Value) (s' : Shared) : Prop := ∃ v H', Inv X pins σ H' s' ∧ RelV v u ∧ Q v H'
def TP (X : Cx) (pins : List (Addr × Obj)) (σ : St) (Q : Bool → Hp → Prop) (b : Bool) (s' : Shared) : Prop := ∃ H', Inv X pins σ H' s' ∧ Q b H'
def AP (X : Cx) (pins : List (Addr × Obj)) (σ : St) (Q : List V → Hp → Prop) (us : List Value) (s' : Shared) : Prop := ∃ vs H', Inv X pins σ H' s' ∧ Vals vs us ∧ Q vs H'
def SP (X : Cx) (pins : List (Addr × Obj)) (D : Ends) (f : Flow) (s' : Shared) : Prop :=
  match f with
  | .next => ∃ σ' H', Inv X pins σ' H' s' ∧ D.nx σ' H'
  | .brk => ∃ σ' H', Inv X pins σ' H' s' ∧ D.bk σ' H'
  | .cont => ∃ σ' H', Inv X pins σ' H' s' ∧ D.ct σ' H'
  | .ret u => ∃ v σ' H', Inv X pins σ' H' s' ∧ RelV v u ∧ D.rt v H'

def PE (X : Cx) (e : Expr) (t : TE) : Prop :=
  ∀ (pins : List (Addr × Obj)) (s : Shared) (σ : St) (H : Hp) (Q : VK), Inv X pins σ H s → t σ H Q → wpAny (model X.prog X.w) X.A (eval e X.env) (EP X pins σ Q) X.xe s
def PT (X : Cx) (e : Expr) (t : TT) : Prop :=
  ∀ (pins : List (Addr × Obj)) (s : Shared) (σ : St) (H : Hp) (Q : Bool → Hp → Prop), Inv X pins σ H s → t σ H Q → wpAny (model X.prog X.w) X.A (isTrue e X.env (eval e X.env)) (TP X pins σ Q) X.xe s
/-- a test whatever its 'whole' is (and, or) -/
def PW (X : Cx) (e : Expr) (t : TT) : Prop :=
  ∀ (whole : Sem Value) (pins : List (Addr × Obj)) (s : Shared) (σ : St) (H : Hp) (Q : Bool → Hp → Prop), Inv X pins σ H s → t σ H Q → wpAny (model X.prog X.w) X.A (isTrue e X.env whole) (TP X pins σ Q) X.xe s
theorem PW.pt {X : Cx} {e : Expr} {t : TT} (h : PW X e t) : PT X e t := h _
/-- an argument list (no star), from the left -/
def PA (X : Cx) (es : List Expr) (t : TA) : Prop :=
  ∀ (pos : Pos) (pins : List (Addr × Obj)) (s : Shared) (σ : St) (H : Hp) (Q : List V → Hp → Prop), Inv X pins σ H s → t σ H Q → wpAny (model X.prog X.w) X.A (spliced (backTo pos (starEach es X.env))) (AP X pins σ Q) X.xe s
def PS (X : Cx) (st : Stmt) (t : TS) : Prop :=
  ∀ (pins : List (Addr × Obj)) (s : Shared) (σ : St) (H : Hp) (D : Ends), Inv X pins σ H s → t D σ H → wpAny (model X.prog X.w) X.A (exec st X.env) (SP X pins D) X.xe s
def PSs (X : Cx) (st : List Stmt) (t : TS) : Prop :=
  ∀ (pins : List (Addr × Obj)) (s : Shared) (σ : St) (H : Hp) (D : Ends), Inv X pins σ H s → t D σ H → wpAny (model X.prog X.w) X.A (execs st X.env) (SP X pins D) X.xe s
/-- weaken the end -/
theorem thn {α : Type} {t : Sem α} {Q Q' : α → Shared → Prop} {M : Model} {A : Around} {E : Value → Shared → Prop} {s : Shared} (h : wpAny M A t Q E s) (hQ : ∀ a s, Q a s → Q' a s) : wpAny M A t Q' E s := wpAny_mono h hQ fun _ _ x => x
end L2

namespace L2
open PySem PySem.Spec PyProof.Rows
section
variable {X : Cx}

/-- two expressions in a row -/
theorem bin {a b : Expr} {ta tb : TE} (ha : PE X a ta) (hb : PE X b tb) {pins : List (Addr × Obj)} {s : Shared} {σ : St} {H : Hp} {R : V → V → Hp → Prop} (I : Inv X pins σ H s) (h : ta σ H fun x H1 => tb σ H1 fun y H2 => R x y H2)
    {α : Type} {Q : α → Shared → Prop} {f : Value → Value → Sem α}
    (hf : ∀ v u s2 x y H2, Inv X pins σ H2 s2 → RelV x v → RelV y u → R x y H2 → wpAny (model X.prog X.w) X.A (f v u) Q X.xe s2) :
    wpAny (model X.prog X.w) X.A (eval a X.env) (fun v s₁ => wpAny (model X.prog X.w) X.A (eval b X.env) (fun u s₂ => wpAny (model X.prog X.w) X.A (f v u) Q X.xe s₂) X.xe s₁) X.xe s := by
  refine thn (ha pins s σ H _ I h) fun v s1 ⟨x, H1, I1, r1, q1⟩ => ?_
  refine thn (hb pins s1 σ H1 _ I1 q1) fun u s2 ⟨y, H2, I2, r2, q2⟩ => ?_
  exact hf v u s2 x y H2 I2 r1 r2 q2

/-! ### names and constants -/
def tVar (i : Nat) : TE := fun σ H Q => ∃ v, σ[i]? = some (some v) ∧ Q v H
def tC (v : V) : TE := fun _ H Q => Q v H
theorem pe_var {i : Nat} {x : Str} {pos : Pos} (hN : X.N[i]? = some x) (hv : Vis X.env.scope x) (hd : (x == ("__debug__" : Str)) = false := by decide) (hcd : (x == ("__classdict__" : Str)) = false := by decide) : PE X (.Name x pos) (tVar i) := by
  intro pins s σ H Q I h
  obtain ⟨v, e, h⟩ := h
  obtain ⟨m, hn, hl⟩ := I.loc
  obtain ⟨u, r, l⟩ := hl i x v hN e hv
  have fin : EP X pins σ Q u s := ⟨v, H, I, r, h⟩
  rcases l with ⟨hk, hm⟩ | ⟨hk, c, hc, hcell⟩
  · exact wpAny_Name (wpAny_loadName_local I.ok.kind hk hn hm fin) hd
  · rcases hk with hk | hk
    · exact wpAny_Name (wpAny_loadName_cell I.ok.kind hk hc hcell fin) hd
    · exact wpAny_Name (wpAny_loadName_free I.ok.kind hk hc hcell fin hcd) hd
theorem pe_int {i j pos} : PE X (.Constant (.int i) j pos) (tC (.int i)) := fun _ _ _ H _ I h => wpAny_Constant_int ⟨.int i, H, I.tok _, ⟨_, rfl⟩, h⟩
theorem pe_bl {b j pos} : PE X (.Constant (.bool b) j pos) (tC (.bl b)) := fun _ _ _ H _ I h => Constant_bool ⟨.bl b, H, I, rfl, h⟩
theorem pe_non {j pos} : PE X (.Constant .none j pos) (tC .non) := fun _ _ _ H _ I h => Constant_none ⟨.non, H, I, rfl, h⟩
theorem pe_str {x j pos} : PE X (.Constant (.str x) j pos) (tC (.str x)) := fun _ _ _ H _ I h => Calls.Constant_str ⟨.str x, H, I.tok _, ⟨_, rfl⟩, h⟩

/-- a global name of the def -/
def Gl (X : Cx) (x : Str) : Prop := X.env.kindOf x = some .globalImplicit
theorem ld_glob {E : Value → Shared → Prop} {pins : List (Addr × Obj)} {s : Shared} {σ : St} {H : Hp} {x : Str} {u : Value} {pos : Pos} {Q : Value → Shared → Prop} (I : Inv X pins σ H s) (hg : Gl X x) (hm : X.mg x = some u) (h : Q u s)
    (hd : (x == ("__debug__" : Str)) = false := by decide) : wpAny (model X.prog X.w) X.A (eval (.Name x pos) X.env) Q E s :=
  Calls.Name_function_global I.ok.kind hg (Calls.loadGlobal_global (by rw [I.ok.glob]; exact I.mod.glob.keeps I.bk) hm h) hd
theorem ld_blt {E : Value → Shared → Prop} {pins : List (Addr × Obj)} {s : Shared} {σ : St} {H : Hp} {x : Str} {u : Value} {pos : Pos} {Q : Value → Shared → Prop} (I : Inv X pins σ H s) (hg : Gl X x) (hm : X.mg x = none) (hv : bootBuiltins x = some u) (h : Q u s)
    (hn : x ≠ "__name__" := by decide) (hd : (x == ("__debug__" : Str)) = false := by decide) : wpAny (model X.prog X.w) X.A (eval (.Name x pos) X.env) Q E s := by
  obtain ⟨mb, h1, h2⟩ := I.mod.blt
  exact Calls.Name_function_global I.ok.kind hg (Calls.loadGlobal_builtin (by rw [I.ok.glob]; exact I.mod.glob.keeps I.bk) hm (by rw [I.ok.blt]; exact h1.keeps I.bk) ((h2 x hn).trans hv) h) hd
/-- a module's constant, a class, a function, as a value -/
theorem pe_glob {x : Str} {v : V} {u : Value} {pos : Pos} (hg : Gl X x) (hm : X.mg x = some u) (r : RelV v u) (hd : (x == ("__debug__" : Str)) = false := by decide) : PE X (.Name x pos) (tC v) :=
  fun _ _ _ H _ I h => ld_glob I hg hm ⟨v, H, I, r, h⟩ hd
theorem pe_bltn {x : Str} {v : V} {u : Value} {pos : Pos} (hg : Gl X x) (hm : X.mg x = none) (hv : bootBuiltins x = some u) (r : RelV v u) (hn : x ≠ "__name__" := by decide) (hd : (x == ("__debug__" : Str)) = false := by decide) : PE X (.Name x pos) (tC v) :=
  fun _ _ _ H _ I h => ld_blt I hg hm hv ⟨v, H, I, r, h⟩ hn hd

/-! ### arithmetic -/
variable {a b : Expr} {ta tb : TE} {pos : Pos}

/-! ### comparisons -/
def PC (X : Cx) (op : CmpOp) (a b : Expr) (t : TE) : Prop :=
  ∀ (pins : List (Addr × Obj)) (s : Shared) (σ : St) (H : Hp) (Q : VK), Inv X pins σ H s → t σ H Q →
    wpAny (model X.prog X.w) X.A (eval a X.env) (fun v s₁ => wpAny (model X.prog X.w) X.A (eval b X.env) (fun u s₂ => wpAny (model X.prog X.w) X.A (compareOp op v u) (EP X pins σ Q) X.xe s₂) X.xe s₁) X.xe s
theorem nobehind (b : Expr) {op : CmpOp} (h : op ≠ .In) (h2 : op ≠ .NotIn) : behindInMarks op b = false := by
  have e1 : (op == CmpOp.In) = false := by cases op <;> first | rfl | exact absurd rfl h
  have e2 : (op == CmpOp.NotIn) = false := by cases op <;> first | rfl | exact absurd rfl h2
  cases b <;> simp [behindInMarks, e1, e2]
/-- is None -/
def tIsN (ta : TE) : TE := fun σ H Q => ta σ H fun x H1 => Q (.bl (decide (x = .non))) H1
def tNotN (ta : TE) : TE := fun σ H Q => ta σ H fun x H1 => Q (.bl (!decide (x = .non))) H1
theorem RelV.none_iff {x : V} {v : Value} (r : RelV x v) : (v == Value.none) = decide (x = .non) := by
  cases x with
  | non => cases r; rfl
  | bl _ => cases r; rfl
  | int _ => obtain ⟨t, rfl⟩ := r; rfl
  | str _ => obtain ⟨t, rfl⟩ := r; rfl
  | byt _ => obtain ⟨t, rfl⟩ := r; rfl
  | flt _ => obtain ⟨t, rfl⟩ := r; rfl
  | ref _ => cases r; rfl
  | ty _ => cases r; rfl
theorem pc_isN {j pos'} (ha : PE X a ta) : PC X .Is a (.Constant .none j pos') (tIsN ta) := by
  intro pins s σ H Q I h
  refine thn (ha pins s σ H _ I h) fun v s1 ⟨x, H1, I1, r1, q1⟩ => ?_
  exact Constant_none (is_none_gen ⟨.bl _, H1, I1, by rw [r1.none_iff]; rfl, q1⟩)
theorem pc_notN {j pos'} (ha : PE X a ta) : PC X .IsNot a (.Constant .none j pos') (tNotN ta) := by
  intro pins s σ H Q I h
  refine thn (ha pins s σ H _ I h) fun v s1 ⟨x, H1, I1, r1, q1⟩ => ?_
  exact Constant_none (isnot_none_gen ⟨.bl _, H1, I1, by rw [r1.none_iff]; rfl, q1⟩)
/-- a comparison as a value, as a test -/
def tB (t : TE) : TT := fun σ H Q => t σ H fun x H1 => ∃ c, x = .bl c ∧ Q c H1
theorem pt_cmp {op : CmpOp} {t : TE} (h : PC X op a b t) (h1 : behindInMarks op b = false := by first | exact nobehind _ (by decide) (by decide) | rfl) : PT X (.Compare a [op] [b] pos) (tB t) := by
  intro pins s σ H Q I hw
  refine wpAny_isTrue_Compare1 (thn (h pins s σ H _ I hw) fun v s1 h1 => thn h1 fun u s2 h2 => thn h2 fun c s3 ⟨x, H1, I1, r1, q1⟩ => ?_) h1
  obtain ⟨d, rfl, q⟩ := q1
  cases r1
  exact wpAny_truthy_bool ⟨H1, I1, q⟩
/-- an expression whose value is a bool, as a test -/
theorem pt_val {e : Expr} {t : TE} (h : PE X e t) (he : ∀ whole, isTrue e X.env whole = (do let v ← whole; standAt e.pos; holding [v] (truthy v)) := by intro _; rfl) : PT X e (tB t) := by
  intro pins s σ H Q I hw
  refine isTrue_plain (thn (h pins s σ H _ I hw) fun v s1 ⟨x, H1, I1, r1, q1⟩ => ?_) (he _)
  obtain ⟨d, rfl, q⟩ := q1
  cases r1
  exact wpAny_truthy_bool ⟨H1, I1, q⟩

/-! ### and, or, not -/
variable {tA tB' : TT} {rest : List Expr}
def tAnd (t u : TT) : TT := fun σ H Q => t σ H fun c H1 => if c = true then u σ H1 Q else Q false H1
def tOr (t u : TT) : TT := fun σ H Q => t σ H fun c H1 => if c = true then Q true H1 else u σ H1 Q
def tNot (t : TT) : TT := fun σ H Q => t σ H fun c H1 => Q (!c) H1
theorem pw_and1 (ha : PT X a tA) : PW X (.BoolOp .And [a] pos) tA := by
  intro wh pins s σ H Q I h
  refine isTrue_and (thn (ha pins s σ H Q I h) fun c s1 e => ?_)
  cases c with
  | true => exact isTrue_and_nil e
  | false => exact e
theorem pw_or1 (ha : PT X a tA) : PW X (.BoolOp .Or [a] pos) tA := by
  intro wh pins s σ H Q I h
  refine isTrue_or (thn (ha pins s σ H Q I h) fun c s1 e => ?_)
  cases c with
  | false => exact isTrue_or_nil e
  | true => exact e
theorem pw_and (ha : PT X a tA) (hb : PW X (.BoolOp .And (b :: rest) pos) tB') : PW X (.BoolOp .And (a :: b :: rest) pos) (tAnd tA tB') := by
  intro wh pins s σ H Q I h
  refine isTrue_and (thn (ha pins s σ H _ I h) fun c s1 ⟨H1, I1, q1⟩ => ?_)
  cases c with
  | true => exact hb wh pins s1 σ H1 Q I1 q1
  | false => exact ⟨H1, I1, q1⟩
theorem pw_or (ha : PT X a tA) (hb : PW X (.BoolOp .Or (b :: rest) pos) tB') : PW X (.BoolOp .Or (a :: b :: rest) pos) (tOr tA tB') := by
  intro wh pins s σ H Q I h
  refine isTrue_or (thn (ha pins s σ H _ I h) fun c s1 ⟨H1, I1, q1⟩ => ?_)
  cases c with
  | true => exact ⟨H1, I1, q1⟩
  | false => exact hb wh pins s1 σ H1 Q I1 q1
theorem pt_not (ha : PT X a tA) : PT X (.UnaryOp .Not a pos) (tNot tA) := by
  intro pins s σ H Q I h
  exact isTrue_not (ha pins s σ H (fun c H1 => Q (!c) H1) I h)
/-- .. as values (bools) -/
def tAndV (ta tb : TE) : TE := fun σ H Q => ta σ H fun x H1 => ∃ c, x = .bl c ∧ if c = true then tb σ H1 Q else Q (.bl false) H1
def tNotV (ta : TE) : TE := fun σ H Q => ta σ H fun x H1 => ∃ c, x = .bl c ∧ Q (.bl (!c)) H1
theorem pe_one {op} {t : TE} (h : PE X a t) : PE X (.BoolOp op [a] pos) t := fun pins s σ H Q I hw => BoolOp_one (h pins s σ H Q I hw)
theorem pe_and (ha : PE X a ta) (hb : PE X (.BoolOp .And (b :: rest) pos) tb) : PE X (.BoolOp .And (a :: b :: rest) pos) (tAndV ta tb) := by
  intro pins s σ H Q I h
  refine BoolOp_and (thn (ha pins s σ H _ I h) fun v s1 ⟨x, H1, I1, r1, q1⟩ => ?_)
  obtain ⟨c, rfl, q1⟩ := q1
  cases r1
  refine wpAny_truthy_bool ?_
  cases c with
  | true => exact hb pins s1 σ H1 Q I1 q1
  | false => exact ⟨.bl false, H1, I1, rfl, q1⟩
theorem pe_not (ha : PE X a ta) : PE X (.UnaryOp .Not a pos) (tNotV ta) := by
  intro pins s σ H Q I h
  refine UnaryOp_ (thn (ha pins s σ H _ I h) fun v s1 ⟨x, H1, I1, r1, q1⟩ => ?_)
  obtain ⟨c, rfl, q1⟩ := q1
  cases r1
  exact not_of (wpAny_truthy_bool ⟨.bl (!c), H1, I1, rfl, q1⟩)
end
end L2

namespace L2
open PySem PySem.Spec PyProof.Rows

/-! ### a list, a tuple that is read: tracked, frozen, or an object of the module -/
def SqL (K : PySem.W.Frag) (H : Hp) (a : Addr) (xs : List V) : Prop :=
  Rd H a (.lst xs) ∨
    ∃ (o : Obj) (its : Array Value) (n : Nat), K.lookup a = some o ∧ o.cls = .type "list" ∧ o.dict = none ∧ o.data = .seq its n ∧ its.size ≤ sizeLine ∧ Vals xs its.toList
def SqT (K : PySem.W.Frag) (H : Hp) (a : Addr) (xs : List V) : Prop :=
  Rd H a (.tup xs) ∨
    ∃ (o : Obj) (its : Array Value) (n : Nat), K.lookup a = some o ∧ o.cls = .type "tuple" ∧ o.data = .seq its n ∧ its.size ≤ sizeLine ∧ Vals xs its.toList
def absV : Value → Option V
  | .none => some .non
  | .bool b => some (.bl b)
  | .int i _ => some (.int i)
  | .str x _ => some (.str x)
  | .bytes b _ => some (.byt b)
  | .float b _ => some (.flt b)
  | .ref a => some (.ref a)
  | .type n => some (.ty n)
  | _ => none
theorem RelV.abs {x : V} {u : Value} (r : RelV x u) : absV u = some x := by
  cases x with
  | non => cases r; rfl
  | bl _ => cases r; rfl
  | int _ => obtain ⟨t, rfl⟩ := r; rfl
  | str _ => obtain ⟨t, rfl⟩ := r; rfl
  | byt _ => obtain ⟨t, rfl⟩ := r; rfl
  | flt _ => obtain ⟨t, rfl⟩ := r; rfl
  | ref _ => cases r; rfl
  | ty _ => cases r; rfl
theorem RelV.inj {x y : V} {u : Value} (r : RelV x u) (q : RelV y u) : x = y := Option.some.inj (r.abs.symm.trans q.abs)
theorem Vals.inj : ∀ {xs ys : List V} {us : List Value}, Vals xs us → Vals ys us → xs = ys
  | _, _, _, .nil, .nil => rfl
  | _, _, _, .cons r t, .cons r' t' => by rw [r.inj r', Vals.inj t t']
section
variable {X : Cx} {pins : List (Addr × Obj)} {σ : St} {H : Hp} {s : Shared} {a : Addr} {xs ys : List V}
theorem SqL.of {K : PySem.W.Frag} (h : H a = some (.lst xs)) : SqL K H a xs := .inl (.inl h)
theorem SqT.of {K : PySem.W.Frag} (h : H a = some (.tup xs)) : SqT K H a xs := .inl (.inl h)
theorem Inv.list (I : Inv X pins σ H s) (h : SqL X.K H a xs) : ∃ its : List Value, Vals xs its ∧ PlainL s.heap a its.toArray ∧ xs.length ≤ sizeLine := by
  rcases h with h | ⟨o, its, n, hk, hc, hd, hs, hz, r⟩
  · obtain ⟨z, its, n, r, e⟩ := h.ok I.hok
    exact ⟨its, r, ⟨_, n, e, rfl, rfl, rfl⟩, z⟩
  · refine ⟨its.toList, r, ⟨o, n, I.kIn a o hk, hc, hd, by simpa using hs⟩, ?_⟩
    have e := r.length
    simp only [Array.length_toList] at e
    omega
theorem Inv.tuple (I : Inv X pins σ H s) (h : SqT X.K H a xs) : ∃ its : List Value, Vals xs its ∧ IsTup s.heap a its.toArray ∧ xs.length ≤ sizeLine := by
  rcases h with h | ⟨o, its, n, hk, hc, hs, hz, r⟩
  · obtain ⟨z, its, r, p⟩ := h.ok I.hok
    exact ⟨its, r, p, z⟩
  · refine ⟨its.toList, r, ⟨o, I.kIn a o hk, hc, n, by simpa using hs⟩, ?_⟩
    have e := r.length
    simp only [Array.length_toList] at e
    omega
theorem Inv.list_inj (I : Inv X pins σ H s) (h : SqL X.K H a xs) (h' : SqL X.K H a ys) : xs = ys := by
  obtain ⟨its, r, ⟨o, n, e, _, _, d⟩, _⟩ := I.list h
  obtain ⟨its', r', ⟨o', n', e', _, _, d'⟩, _⟩ := I.list h'
  rw [e] at e'; cases e'
  rw [d] at d'
  injection d' with d1 _
  have : its = its' := by simpa using congrArg Array.toList d1
  subst this
  exact r.inj r'
end

/-! ### another wish about exceptions -/
abbrev Cx.wish (X : Cx) (E : Value → Shared → Prop) : Cx := { X with xe := E }
/-- no exception leaves -/
abbrev Cx.nox (X : Cx) : Cx := X.wish fun _ _ => False
theorem Cx.Ok.wish {X : Cx} (ok : X.Ok) (E : Value → Shared → Prop) : (X.wish E).Ok :=
  ⟨ok.mod, ok.kind, ok.glob, ok.blt, ok.above, ok.inj, ok.has, ok.cab, ok.hd, ok.frames, ok.stk, ok.exf, ok.bs, ok.bsz, ok.noex, ok.exfs, ok.funs, ok.frf⟩
theorem Cx.Ok.unwish {X : Cx} {E : Value → Shared → Prop} (ok : (X.wish E).Ok) : X.Ok :=
  ⟨ok.mod, ok.kind, ok.glob, ok.blt, ok.above, ok.inj, ok.has, ok.cab, ok.hd, ok.frames, ok.stk, ok.exf, ok.bs, ok.bsz, ok.noex, ok.exfs, ok.funs, ok.frf⟩
section
variable {X : Cx} {pins : List (Addr × Obj)} {σ : St} {H : Hp} {s : Shared} {E : Value → Shared → Prop}
theorem Inv.wish (I : Inv X pins σ H s) (E : Value → Shared → Prop) : Inv (X.wish E) pins σ H s := ⟨I.ok.wish E, I.os, I.bare, I.base, I.loc, I.cell, I.free, I.freeC, I.pin, I.hok, I.len⟩
theorem Inv.unwish (I : Inv (X.wish E) pins σ H s) : Inv X pins σ H s := ⟨I.ok.unwish, I.os, I.bare, I.base, I.loc, I.cell, I.free, I.freeC, I.pin, I.hok, I.len⟩
theorem SP.unwish {D : Ends} {f : Flow} {s' : Shared} (h : SP (X.wish E) pins D f s') : SP X pins D f s' := by
  cases f with
  | next => obtain ⟨σ', H', I, q⟩ := h; exact ⟨σ', H', I.unwish, q⟩
  | brk => obtain ⟨σ', H', I, q⟩ := h; exact ⟨σ', H', I.unwish, q⟩
  | cont => obtain ⟨σ', H', I, q⟩ := h; exact ⟨σ', H', I.unwish, q⟩
  | ret u => obtain ⟨v, σ', H', I, r, q⟩ := h; exact ⟨v, σ', H', I.unwish, r, q⟩
theorem PSs.nox {st : List Stmt} {t : TS} (h : PSs X.nox st t) : PSs X st t := fun pins s σ H D I hw =>
  wpAny_mono (h pins s σ H D (I.wish _) hw) (fun _ _ q => q.unwish) fun _ _ z => False.elim z
end

/-! ### blocks and small statements -/
section
variable {X : Cx} {st : Stmt} {rest : List Stmt} {t u : TS} {e : Expr} {te : TE} {pos : Pos}
def tNext : TS := fun D σ H => D.nx σ H
def tSeq (t u : TS) : TS := fun D σ H => t { D with nx := u D } σ H
theorem pss_nil : PSs X [] tNext := fun _ _ σ H _ I h => wpAny_execs_nil ⟨σ, H, I, h⟩
theorem pss_cons (h1 : PS X st t) (h2 : PSs X rest u) : PSs X (st :: rest) (tSeq t u) := by
  intro pins s σ H D I h
  refine wpAny_execs_cons (thn (h1 pins s σ H { D with nx := u D } I h) fun f s1 q => ?_)
  cases f with
  | next =>
    obtain ⟨σ', H', I', q⟩ := q
    exact h2 pins s1 σ' H' D I' q
  | ret v => exact q
  | brk => exact q
  | cont => exact q
theorem pss_one (h1 : PS X st t) : PSs X [st] t := by
  intro pins s σ H D I h
  refine wpAny_execs_cons (thn (h1 pins s σ H D I h) fun f s1 q => ?_)
  cases f with
  | next => exact wpAny_execs_nil q
  | ret v => exact q
  | brk => exact q
  | cont => exact q
/-- in a def's body nothing is shown -/
theorem Inv.quiet {pins : List (Addr × Obj)} {σ : St} {H : Hp} {s : Shared} (I : Inv X pins σ H s) : interactive X.env = false := by simp [interactive, I.ok.kind]
/-- an expression whose value is dropped -/
def tDrop (te : TE) : TS := fun D σ H => te σ H fun _ H1 => D.nx σ H1
theorem ps_expr (he : PE X e te) (hs : swapsWith e none pos.line X.env = pure false := by rfl) : PS X (.Expr e pos) (tDrop te) := by
  intro pins s σ H D I h
  exact wpAny_Expr_any (thn (he pins s σ H _ I h) fun v s1 ⟨x, H1, I1, r1, q1⟩ => ⟨σ, H1, I1, q1⟩) I.quiet hs
def tRet (te : TE) : TS := fun D σ H => te σ H D.rt
theorem ps_ret (he : PE X e te) : PS X (.Return (some e) pos) (tRet te) := by
  intro pins s σ H D I h
  exact wpAny_Return_some (thn (he pins s σ H _ I h) fun v s1 ⟨x, H1, I1, r1, q1⟩ => ⟨x, σ, H1, I1, r1, q1⟩)
def tIfS (c : TT) (t u : TS) : TS := fun D σ H => c σ H fun b H1 => if b = true then t D σ H1 else u D σ H1
theorem ps_if {c : Expr} {a b : List Stmt} {tc : TT} (hc : PT X c tc) (ha : PSs X a t) (hb : PSs X b u) : PS X (.If c a b pos) (tIfS tc t u) := by
  intro pins s σ H D I h
  refine wpAny_If (thn (hc pins s σ H _ I h) fun d s1 ⟨H1, I1, q1⟩ => ?_)
  cases d with
  | true => exact ha pins s1 σ H1 D I1 q1
  | false => exact hb pins s1 σ H1 D I1 q1
/-- code that the proof never comes to -/
def tNever : TS := fun _ _ _ => False
theorem pss_never {sts : List Stmt} : PSs X sts tNever := fun _ _ _ _ _ _ h => h.elim
end

/-! ### targets -/
abbrev TG := V → St → Hp → (St → Hp → Prop) → Prop
abbrev TGs := List V → St → Hp → (St → Hp → Prop) → Prop
def PG (X : Cx) (target : Expr) (t : TG) : Prop :=
  ∀ (pins : List (Addr × Obj)) (s : Shared) (σ : St) (H : Hp) (v : V) (u : Value) (Q : St → Hp → Prop), Inv X pins σ H s → RelV v u → t v σ H Q →
    wpAny (model X.prog X.w) X.A (assign target X.env u) (fun _ s' => ∃ σ' H', Inv X pins σ' H' s' ∧ Q σ' H') X.xe s
/-- several targets, one after another -/
def PGs (X : Cx) (ts : List Expr) (t : TGs) : Prop :=
  ∀ (pins : List (Addr × Obj)) (s : Shared) (σ : St) (H : Hp) (vs : List V) (us : List Value) (Q : St → Hp → Prop), Inv X pins σ H s → Vals vs us → t vs σ H Q →
    wpAny (model X.prog X.w) X.A (assignInOrder ((assignEach ts X.env).map (·.2)) us) (fun _ s' => ∃ σ' H', Inv X pins σ' H' s' ∧ Q σ' H') X.xe s
/-- o[i] = v, by values -/
abbrev TSet := V → V → V → Hp → (Hp → Prop) → Prop
def PSet (X : Cx) (t : TSet) : Prop :=
  ∀ (pins : List (Addr × Obj)) (s : Shared) (σ : St) (H : Hp) (o i v : V) (ov iv u : Value) (Q : Hp → Prop), Inv X pins σ H s → RelV o ov → RelV i iv → RelV v u → t o i v H Q →
    wpAny (model X.prog X.w) X.A (setItem ov iv u) (fun _ s' => ∃ H', Inv X pins σ H' s' ∧ Q H') X.xe s
section
variable {X : Cx} {pos : Pos}
def gName (i : Nat) : TG := fun v σ H Q => Q (σ.set i (some v)) H
theorem pg_name {i : Nat} {x : Str} (hN : X.N.Nodup) (hi : X.N[i]? = some x) (hx : Loc X.env.scope x) (hf : X.fn x = true ∨ X.env.scope.names.lookup x = some .local := by first | exact .inl rfl | exact .inr rfl | assumption) : PG X (.Name x pos) (gName i) := by
  intro pins s σ H v u Q I r h
  exact wpAny_assign_Name (store_ok I hN hi hx r (fun s' I' => ⟨_, H, I', h⟩) hf)
def gNil : TGs := fun vs σ H Q => vs = [] ∧ Q σ H
def gCons (t : TG) (u : TGs) : TGs := fun vs σ H Q => ∃ v r, vs = v :: r ∧ t v σ H fun σ' H' => u r σ' H' Q
theorem pgs_nil : PGs X [] gNil := by
  intro pins s σ H vs us Q I r h
  obtain ⟨e, h⟩ := h
  subst e
  cases r
  exact assignInOrder_nil ⟨σ, H, I, h⟩
theorem pgs_cons {e : Expr} {es : List Expr} {t : TG} {u : TGs} (h1 : PG X e t) (h2 : PGs X es u)
    (hs : (assignEach (e :: es) X.env).map (·.2) = assign e X.env :: (assignEach es X.env).map (·.2) := by rfl) : PGs X (e :: es) (gCons t u) := by
  intro pins s σ H vs us Q I r h
  obtain ⟨v, vr, e1, h⟩ := h
  subst e1
  cases r with
  | cons r rr =>
    rw [hs]
    refine assignInOrder_cons (thn (h1 pins s σ H _ _ _ I r h) fun _ s1 ⟨σ1, H1, I1, q1⟩ => ?_)
    exact h2 pins s1 σ1 H1 _ _ Q I1 rr q1
/-- (a, b, ..) = a tuple of that length -/
def gTup (K : PySem.W.Frag) (n : Nat) (t : TGs) : TG := fun v σ H Q => ∃ a xs, v = .ref a ∧ SqT K H a xs ∧ xs.length = n ∧ t xs σ H Q
theorem pg_tup {es : List Expr} {k : Nat} {t : TGs} {n : Nat} (hc : X.calm = true) (h : PGs X es t)
    (hn : (assignEach es X.env).length = n := by rfl) (hst : (assignEach es X.env).findIdx? (·.1) = none := by rfl) : PG X (.Tuple es k pos) (gTup X.K n t) := by
  intro pins s σ H v u Q I r hw
  obtain ⟨a, xs, e1, hq, hl, hw⟩ := hw
  subst e1
  cases r
  obtain ⟨its, rv, ht, hz⟩ := I.tuple hq
  refine assign_Tuple_tuple (I.ok.hd hc) ht (by simp [hn, ← hl, rv.length]) hst fun h' hx => ?_
  have I1 : Inv X pins σ H { s with heap := h' } := I.kept (t' := s.toks) fun b o e => hx b o (Nat.ne_of_lt (Heap.lt_size e)) e
  exact h pins _ σ H xs _ Q I1 (by simpa using rv) hw
/-- o[i] = .. -/
def gSub (to ti : TE) (t : TSet) : TG := fun v σ H Q => to σ H fun o H1 => ti σ H1 fun i H2 => t o i v H2 fun H3 => Q σ H3
theorem pg_sub {o i : Expr} {to ti : TE} {t : TSet} (ho : PE X o to) (hi : PE X i ti) (hs : PSet X t)
    (ha : ∀ v, assign (.Subscript o i pos) X.env v = (do
      let ov ← holding [v] (eval o X.env)
      let iv ← holding [v, ov] (eval i X.env)
      standAt pos
      holding [v, ov, iv] (setItem ov iv v)
      release [v, ov, iv] []) := by intro _; rfl) : PG X (.Subscript o i pos) (gSub to ti t) := by
  intro pins s σ H v u Q I r h
  rw [ha]
  refine wpAny_bind (wpAny_holding (thn (ho pins s σ H _ I h) fun ov s1 ⟨x, H1, I1, r1, q1⟩ => ?_))
  refine wpAny_bind (wpAny_holding (thn (hi pins s1 σ H1 _ I1 q1) fun iv s2 ⟨y, H2, I2, r2, q2⟩ => ?_))
  refine wpAny_bind (wpAny_standAt (wpAny_bind (wpAny_holding (thn (hs pins s2 σ H2 x y v ov iv u _ I2 r1 r2 r q2) fun _ s3 ⟨H3, I3, q3⟩ => ?_))))
  exact wpAny_release ⟨σ, H3, I3, q3⟩
/-- target = value -/
def tAsg (te : TE) (g : TG) : TS := fun D σ H => te σ H fun x H1 => g x σ H1 D.nx
theorem ps_asg {tg e : Expr} {te : TE} {g : TG} (he : PE X e te) (hg : PG X tg g) (hs : swapsWithSole [tg] e pos.line X.env = pure false := by rfl) (hw : swappedStores [tg] e X.env = pure none := by rfl)
    (h1 : (assignEach [tg] X.env).map (·.2) = [assign tg X.env] := by rfl) : PS X (.Assign [tg] e pos) (tAsg te g) := by
  intro pins s σ H D I h
  refine wpAny_Assign_stores (thn (he pins s σ H _ I h) fun v s1 ⟨x, H1, I1, r1, q1⟩ => ?_) hs hw
  rw [h1]
  exact thn (hg pins s1 σ H1 x v _ I1 r1 q1) fun _ s2 q => q
/-- name = value -/
theorem ps_set {i : Nat} {x : Str} {e : Expr} {te : TE} {pos' : Pos} (hN : X.N.Nodup) (hi : X.N[i]? = some x) (hx : Loc X.env.scope x) (he : PE X e te) (hs : swapsWith e (some (.Name x pos')) pos.line X.env = pure false := by rfl) (hf : X.fn x = true ∨ X.env.scope.names.lookup x = some .local := by first | exact .inl rfl | exact .inr rfl | assumption) :
    PS X (.Assign [.Name x pos'] e pos) (tAsg te (gName i)) := by
  intro pins s σ H D I h
  refine wpAny_Assign_Name (thn (he pins s σ H _ I h) fun v s1 ⟨y, H1, I1, r1, q1⟩ => ?_) hs
  exact store_ok I1 hN hi hx r1 (fun s2 I2 => ⟨_, H1, I2, q1⟩) hf
end

/-! ### while -/
section
variable {X : Cx} {pos : Pos}
/-- the invariant W with its measure -/
def tWhile (c : TT) (tb : TS) : TS := fun D σ H => ∃ W : Nat → St → Hp → Prop, (∃ m, W m σ H) ∧ ∀ m σ H, W m σ H →
  c σ H fun b H1 => if b = true then ∃ N : St → Hp → Prop, (∀ σ' H', N σ' H' → ∃ m', m' < m ∧ W m' σ' H') ∧ tb { D with nx := N, ct := N, bk := D.nx } σ H1 else D.nx σ H1
theorem ps_while {c : Expr} {body : List Stmt} {tc : TT} {tb : TS} (hp : PassesOwn (model X.prog X.w) X.A X.env X.xe) (hc : PT X c tc) (hb : PSs X body tb) : PS X (.While c body [] pos) (tWhile tc tb) := by
  intro pins s σ H D I h
  obtain ⟨W, ⟨m0, w0⟩, turn⟩ := h
  refine wpAny_While (codeAny_whileLoop (fun n s' => ∃ σ' H', Inv X pins σ' H' s' ∧ W n σ' H') ?_ m0 ⟨σ, H, I, w0⟩)
  rintro n s1 ⟨σ1, H1, I1, w1⟩
  refine wpAny_passesOwn hp (thn (hc pins s1 σ1 H1 _ I1 (turn n σ1 H1 w1)) fun b s2 ⟨H2, I2, q2⟩ => ?_)
  cases b with
  | true =>
    obtain ⟨N, hN, q2⟩ := q2
    rw [if_pos rfl]
    refine wpAny_passesOwn hp (thn (hb pins s2 σ1 H2 _ I2 q2) fun f s3 q3 => ?_)
    cases f with
    | next =>
      obtain ⟨σ3, H3, I3, n3⟩ := q3
      obtain ⟨m', hm, w3⟩ := hN σ3 H3 n3
      exact ⟨m', hm, σ3, H3, I3, w3⟩
    | cont =>
      obtain ⟨σ3, H3, I3, n3⟩ := q3
      obtain ⟨m', hm, w3⟩ := hN σ3 H3 n3
      exact ⟨m', hm, σ3, H3, I3, w3⟩
    | brk => exact q3
    | ret v => exact q3
  | false =>
    rw [if_neg Bool.false_ne_true]
    exact wpAny_execs_nil ⟨σ1, H2, I2, q2⟩
end

/-! ### what a loop or a comprehension walks -/
/-- at turn i: it yields x (the heap may grow), or it stops -/
structure It where
  go : Nat → Hp → Prop
  yld : Nat → Hp → V → Hp → Prop
  stop : Nat → Hp → Prop
/-- the iterator's own objects may turn: they are not the frame's, not pinned, younger than the entry (or a comprehension's own) -/
def FpOk (X : Cx) (pins : List (Addr × Obj)) (H : Hp) (b : Addr) : Prop :=
  H b = none ∧ b ≠ X.env.locals ∧ b ∉ X.fs ∧ (b ∈ X.ex ∨ X.s₀.heap.objs.size ≤ b) ∧ (∀ x c, X.env.cells.lookup x = some c → c ≠ b) ∧ ∀ p ∈ X.pn ++ pins, p.1 ≠ b
theorem Inv.fpOk {X : Cx} {pins : List (Addr × Obj)} {σ : St} {H H' : Hp} {s : Shared} {b : Addr} (I : Inv X pins σ H s) (hb : s.heap.objs.size ≤ b) (hn : H' b = none) : FpOk X pins H' b := by
  refine ⟨hn, Nat.ne_of_gt (Nat.lt_of_lt_of_le I.lt hb), I.nofs hb, .inr (Nat.le_trans I.sz hb), fun x c e z => ?_, fun p hp z => ?_⟩
  · obtain ⟨v, q⟩ := I.cell x c e
    exact absurd (Nat.lt_of_lt_of_le q.lt (by rw [z]; exact hb)) (Nat.lt_irrefl _)
  · exact absurd (Nat.lt_of_lt_of_le (Heap.lt_size (I.pin p hp).1) (by rw [z]; exact hb)) (Nat.lt_irrefl _)
structure Turn (P : Program) (w : World) (K : PySem.W.Frag) (tg : Expr) (J : It) (fp : List Addr) (it : Addr) (tn : Nat → Heap → Prop) : Prop where
  mem : it ∈ fp
  obj : ∀ i h, tn i h → ∀ b ∈ fp, ∃ o, h.get? b = some o ∧ ∀ v, o.data ≠ .cell v
  keep : ∀ i h h', tn i h → (∀ b ∈ fp, ∀ o, h.get? b = some o → h'.get? b = some o) → tn i h'
  item : ∀ (X : Cx), X.prog = P → X.w = w → X.K = K → X.calm = true → ∀ (i : Nat) (pins : List (Addr × Obj)) (s : Shared) (σ : St) (H : Hp) (E : Value → Shared → Prop), Inv X pins σ H s → (∀ b ∈ fp, FpOk X pins H b) → tn i s.heap → J.go i H →
    wpAny (model P w) X.A (pyNext (.ref it)) (fun r s1 => ∃ u, r = some u ∧
      wpAny (model P w) X.A (letOwnedTupleGo tg (.ref it) u) (fun _ s2 => ∃ x H', Inv X pins σ H' s2 ∧ RelV x u ∧ J.yld i H x H' ∧ tn (i + 1) s2.heap ∧ ∀ b ∈ fp, H' b = none) E s1) E s
  done : ∀ (X : Cx), X.prog = P → X.w = w → X.K = K → X.calm = true → ∀ (i : Nat) (pins : List (Addr × Obj)) (s : Shared) (σ : St) (H : Hp) (E : Value → Shared → Prop), Inv X pins σ H s → (∀ b ∈ fp, FpOk X pins H b) → tn i s.heap → J.stop i H →
    wpAny (model P w) X.A (pyNext (.ref it)) (fun r s1 => r = none ∧ Inv X pins σ H s1) E s
  self : ∀ (A : Around) (i : Nat) (s : Shared) (Q : Value → Shared → Prop) (E : Value → Shared → Prop), tn i s.heap → Q (.ref it) s → wpAny (model P w) A (pyIter (.ref it)) Q E s
abbrev TI := St → Hp → (It → Hp → Prop) → Prop
/-- an iterator has come -/
def PIE (X : Cx) (pins : List (Addr × Obj)) (σ : St) (tg : Expr) (R : It → Hp → Prop) (itv : Value) (s2 : Shared) : Prop :=
  ∃ (it : Addr) (fp : List Addr) (tn : Nat → Heap → Prop) (J : It) (H' : Hp), itv = .ref it ∧ Inv X pins σ H' s2 ∧ Turn X.prog X.w X.K tg J fp it tn ∧ tn 0 s2.heap ∧ (∀ b ∈ fp, FpOk X pins H' b) ∧ R J H'
def PI (X : Cx) (tg iter : Expr) (wi : TI) : Prop :=
  ∀ (pins : List (Addr × Obj)) (s : Shared) (σ : St) (H : Hp) (R : It → Hp → Prop), Inv X pins σ H s → wi σ H R →
    wpAny (model X.prog X.w) X.A (eval iter X.env) (fun v s1 => wpAny (model X.prog X.w) X.A (pyIter v) (PIE X pins σ tg R) X.xe s1) X.xe s

/-- the step ahead of the store is nothing for an iterator that keeps no tuple -/
theorem go_of {M : Model} {A : Around} {E : Value → Shared → Prop} {s : Shared} {tg : Expr} {it : Addr} {u : Value} {o : Obj} {n : String} {vs : Array Value} {Q : Unit → Shared → Prop} (ho : s.heap.get? it = some o) (hc : o.cls = .type n) (hd : o.data = .fields vs)
    (hn : ["enumerate", "zip", "dict_itemiterator", "dict_reverseitemiterator", "odict_iterator", "itertools.zip_longest", "itertools.pairwise"].contains n = false) (hQ : Q () s) : wpAny M A (letOwnedTupleGo tg (.ref it) u) Q E s := by
  unfold letOwnedTupleGo
  cases tg <;> first
    | exact wpAny_pure hQ
    | (cases u <;> first
        | exact wpAny_pure hQ
        | (refine wpAny_bind (wpAny_load ho ?_)
           rw [hc, hd]
           show wpAny M A (if (["enumerate", "zip", "dict_itemiterator", "dict_reverseitemiterator", "odict_iterator", "itertools.zip_longest", "itertools.pairwise"].contains n && vs[0]? == some (rawInt _)) = true then _ else _) Q E s
           rw [if_neg (by intro h; rw [hn, Bool.false_and] at h; cases h)]
           exact wpAny_pure hQ))

/-- the list at a, as it stands at each turn (a loop may append to it) -/
def Itl (K : PySem.W.Frag) (a : Addr) : It :=
  ⟨fun i H => ∃ xs x, SqL K H a xs ∧ xs[i]? = some x, fun i H x H' => H' = H ∧ ∀ xs, SqL K H a xs → xs[i]? = some x, fun i H => ∃ xs, SqL K H a xs ∧ xs.length ≤ i⟩
/-- lo, lo + 1, .. (n of them) -/
def Itr (lo : Int) (n : Nat) : It := ⟨fun i _ => i < n, fun i H x H' => H' = H ∧ x = .int (lo + i), fun i _ => n ≤ i⟩
theorem turn_list {P : Program} {w : World} {K : PySem.W.Frag} {tg : Expr} (a it : Addr) : Turn P w K tg (Itl K a) [it] it (fun i h => h.IsListIter it a i) where
  mem := by simp
  obj := fun i h st b hb => by
    have e : b = it := by simpa using hb
    subst e
    obtain ⟨o, e, c, d⟩ := st
    exact ⟨o, e, fun v z => by rw [d] at z; cases z⟩
  keep := fun i h h' st k => st.at fun o e => k it (by simp) o e
  item := by
    intro X hP hw hK hc i pins s σ H E I hf st hg
    subst hP hw hK
    obtain ⟨xs, x, hq, hx⟩ := hg
    obtain ⟨its, rv, p, hz⟩ := I.list hq
    obtain ⟨u, hu, ru⟩ := rv.get hx
    obtain ⟨f0, f1, f2, f3, f4, f5⟩ := hf it (by simp)
    refine wpAny_pyNext_list_item st p.isList (x := u) (by simpa using hu) fun h' st' sb => ?_
    have I1 : Inv X pins σ H { s with heap := h' } := I.turned (t' := s.toks) (fun b o hb e => (sb.2 b hb).trans e) f0 f1 f3 f4 f5
    obtain ⟨o, e, c, d⟩ := id st'
    exact ⟨u, rfl, go_of (s := { s with heap := h' }) e c d (by decide) ⟨x, H, I1, ru, ⟨rfl, fun ys hy => by rw [I.list_inj hy hq]; exact hx⟩, st', fun b hb => (hf b hb).1⟩⟩
  done := by
    intro X hP hw hK hc i pins s σ H E I hf st hg
    subst hP hw hK
    obtain ⟨xs, hq, hx⟩ := hg
    obtain ⟨its, rv, p, hz⟩ := I.list hq
    obtain ⟨f0, f1, f2, f3, f4, f5⟩ := hf it (by simp)
    have hl := rv.length
    exact wpAny_pyNext_list_end (I.ok.hd hc) st p.isList (by simp; omega) fun h' eb => ⟨rfl, I.turned (t' := s.toks) (fun b o hb e => eb b o hb e) f0 f1 f3 f4 f5⟩
  self := fun _ _ _ _ _ st h => wpAny_pyIter_listiter st h
theorem turn_range {P : Program} {w : World} {K : PySem.W.Frag} {tg : Expr} (it : Addr) (lo : Int) (n : Nat) : Turn P w K tg (Itr lo n) [it] it (fun i h => IsRangeIter h it (lo + (i : Nat) * 1) ((n : Int) - (i : Nat)) 1) where
  mem := by simp
  obj := fun i h st b hb => by
    have e : b = it := by simpa using hb
    subst e
    exact ⟨_, st, fun v z => by
      have z' : Data.fields _ = Data.cell v := z
      cases z'⟩
  keep := fun i h h' st k => k it (by simp) _ st
  item := by
    intro X hP hw hK hc i pins s σ H E I hf st hg
    subst hP hw hK
    obtain ⟨f0, f1, f2, f3, f4, f5⟩ := hf it (by simp)
    have W := Walks.range (prog := X.prog) (w := X.w) (I.ok.hd hc) it lo 1 n
    refine W.item i s _ _ hg st fun v h' tk hv st' kk => ?_
    obtain ⟨t, rfl⟩ := hv
    have I1 : Inv X pins σ H { s with heap := h', toks := tk } := I.turned (fun b o hb e => kk b o (by simpa using hb) e) f0 f1 f3 f4 f5
    refine ⟨_, rfl, go_of (s := { s with heap := h', toks := tk }) (n := "range_iterator") st' rfl rfl (by decide) ⟨.int (lo + i), H, I1, ⟨t, ?_⟩, ⟨rfl, rfl⟩, st', fun b hb => (hf b hb).1⟩⟩
    rw [Int.mul_one]
  done := by
    intro X hP hw hK hc i pins s σ H E I hf st hg
    subst hP hw hK
    obtain ⟨f0, f1, f2, f3, f4, f5⟩ := hf it (by simp)
    exact wpAny_pyNext_range_end (I.ok.hd hc) st (by have : n ≤ i := hg; omega) fun h' eb => ⟨rfl, I.turned (t' := s.toks) (fun b o hb e => eb b o hb e) f0 f1 f3 f4 f5⟩
  self := fun _ _ _ _ _ st h => wpAny_pyIter_rangeiter st h
end L2

namespace L2
open PySem PySem.Spec PyProof.Rows
section
variable {X : Cx} {tg : Expr}
def iList (K : PySem.W.Frag) (tl : TE) : TI := fun σ H R => tl σ H fun x H1 => ∃ a, x = .ref a ∧ (∃ xs, SqL K H1 a xs) ∧ R (Itl K a) H1
theorem pi_list {l : Expr} {tl : TE} (hl : PE X l tl) : PI X tg l (iList X.K tl) := by
  intro pins s σ H R I h
  refine thn (hl pins s σ H _ I h) fun v s1 ⟨x, H1, I1, r1, q1⟩ => ?_
  obtain ⟨a, e, ⟨xs, hq⟩, q⟩ := q1
  subst e
  cases r1
  obtain ⟨its, rv, p, hz⟩ := I1.list hq
  refine wpAny_pyIter_list p.isList ?_
  refine ⟨s1.heap.objs.size, [s1.heap.objs.size], _, _, H1, rfl, I1.kept (t' := s1.toks) fun b o e => Heap.get?_push_of_some _ e, turn_list a _, ⟨_, Heap.get?_push_size _ rfl, rfl, rfl⟩, fun b hb => ?_, q⟩
  have e : b = s1.heap.objs.size := by simpa using hb
  subst e
  exact I1.fpOk (Nat.le_refl _) (I1.hok.fresh (Nat.le_refl _))
/-- a range object just made, walked -/
theorem range_it {pins : List (Addr × Obj)} {σ : St} {H : Hp} {s : Shared} {R : It → Hp → Prop} {E : Value → Shared → Prop} {lo hi : Int} {t u v : Tok} {tk : Nat} (I : Inv X pins σ H s) (h1 : -(2 ^ 62) ≤ lo) (h2 : lo < 2 ^ 62) (h3 : -(2 ^ 62) ≤ hi) (h4 : hi < 2 ^ 62)
    (q : R (Itr lo (hi - lo).toNat) H) : wpAny (model X.prog X.w) X.A (pyIter (.ref s.heap.objs.size)) (PIE X pins σ tg R) E { s with heap := s.heap.push { cls := .type "range", data := .fields #[.int lo t, .int hi u, .int 1 v] }, toks := tk } := by
  refine wpAny_pyIter_range (IsRange.new ..) (small_one h1 h2 h3 h4) ?_
  have I1 : Inv X pins σ H { s with heap := s.heap.push { cls := .type "range", data := .fields #[.int lo t, .int hi u, .int 1 v] }, toks := tk } := I.kept fun b o e => Heap.get?_push_of_some _ e
  refine ⟨(s.heap.push { cls := .type "range", data := .fields #[.int lo t, .int hi u, .int 1 v] }).objs.size, [(s.heap.push { cls := .type "range", data := .fields #[.int lo t, .int hi u, .int 1 v] }).objs.size], _, _, H, rfl,
    I1.kept (t' := tk) fun b o e => Heap.get?_push_of_some _ e, turn_range _ lo (hi - lo).toNat, ?_, fun b hb => ?_, q⟩
  · have e1 : lo + ((0 : Nat) : Int) * 1 = lo := by simp
    have e2 : (((hi - lo).toNat : Nat) : Int) - ((0 : Nat) : Int) = Builtin.Range.rangeSize lo hi 1 := by rw [rangeSize_one]; split <;> omega
    show IsRangeIter _ _ (lo + ((0 : Nat) : Int) * 1) ((((hi - lo).toNat : Nat) : Int) - ((0 : Nat) : Int)) 1
    rw [e1, e2]
    exact Heap.get?_push_size _ rfl
  · have e : b = (s.heap.push { cls := .type "range", data := .fields #[.int lo t, .int hi u, .int 1 v] }).objs.size := by simpa using hb
    subst e
    exact I1.fpOk (Nat.le_refl _) (I1.hok.fresh (Nat.le_refl _))
def iRng1 (ta : TA) : TI := fun σ H R => ta σ H fun vs H1 => ∃ j : Int, vs = [.int j] ∧ -(2 ^ 62) ≤ j ∧ j < 2 ^ 62 ∧ R (Itr 0 j.toNat) H1
def iRng2 (ta : TA) : TI := fun σ H R => ta σ H fun vs H1 => ∃ i j : Int, vs = [.int i, .int j] ∧ (-(2 ^ 62) ≤ i ∧ i < 2 ^ 62 ∧ -(2 ^ 62) ≤ j ∧ j < 2 ^ 62) ∧ R (Itr i (j - i).toNat) H1
theorem pi_range1 {a : Expr} {ta : TA} {p pos : Pos} (hg : Gl X "range") (hm : X.mg "range" = none) (ha : PA X [a] ta) (hs : starEach [a] X.env = [(false, eval a X.env)] := by rfl) : PI X tg (.Call (.Name "range" p) [a] [] pos) (iRng1 ta) := by
  intro pins s σ H R I h
  refine Call_ (ld_blt I hg hm boot_range (PyProof.Rows.callWith_type1 (thn (ha pos pins s σ H _ I h) fun us s1 ⟨vs, H1, I1, r1, q1⟩ => ?_) hs rfl))
  obtain ⟨j, e, q1, q2, q⟩ := q1
  subst e
  cases r1 with
  | cons r rr =>
    cases rr
    obtain ⟨t, rfl⟩ := r
    exact call_range_1 (range_it I1 (by omega) (by omega) q1 q2 (by simpa using q))
theorem pi_range2 {a b : Expr} {ta : TA} {p pos : Pos} (hg : Gl X "range") (hm : X.mg "range" = none) (ha : PA X [a, b] ta) (hs : starEach [a, b] X.env = [(false, eval a X.env), (false, eval b X.env)] := by rfl) (hs2 : starEach [b] X.env = [(false, eval b X.env)] := by rfl) :
    PI X tg (.Call (.Name "range" p) [a, b] [] pos) (iRng2 ta) := by
  intro pins s σ H R I h
  refine Call_ (ld_blt I hg hm boot_range (PyProof.Rows.callWith_type1 (thn (ha pos pins s σ H _ I h) fun us s1 ⟨vs, H1, I1, r1, q1⟩ => ?_) (by rw [hs, hs2]) (by rw [hs2]; rfl)))
  obtain ⟨i, j, e, ⟨q1, q2, q3, q4⟩, q⟩ := q1
  subst e
  cases r1 with
  | cons r rr =>
    cases rr with
    | cons r' rr =>
      cases rr
      obtain ⟨t, rfl⟩ := r
      obtain ⟨t', rfl⟩ := r'
      exact call_range_2 (range_it I1 q1 q2 q3 q4 q)

/-! ### for -/
/-- W: the invariant by the turn and a measure; N: what the body is to reach -/
def tFor (wi : TI) (g : TG) (tb : TS) : TS := fun D σ H => wi σ H fun J H1 => ∃ W : Nat → Nat → St → Hp → Prop, (∃ m, W 0 m σ H1) ∧ ∀ i m σ H, W i m σ H →
  (J.stop i H ∧ D.nx σ H) ∨ (J.go i H ∧ ∃ N : St → Hp → Prop, (∀ σ' H', N σ' H' → ∃ m', m' < m ∧ W (i + 1) m' σ' H') ∧ ∀ x H', J.yld i H x H' → g x σ H' fun σ2 H2 => tb { D with nx := N, ct := N, bk := D.nx } σ2 H2)
/-- the records at fp as they stand -/
def pinsAt (fp : List Addr) (h : Heap) : List (Addr × Obj) := fp.filterMap fun b => (h.get? b).map fun o => (b, o)
theorem mem_pinsAt {fp : List Addr} {h : Heap} {b : Addr} {o : Obj} (hb : b ∈ fp) (e : h.get? b = some o) : (b, o) ∈ pinsAt fp h := List.mem_filterMap.mpr ⟨b, hb, by rw [e]; rfl⟩
theorem of_pinsAt {fp : List Addr} {h : Heap} {p : Addr × Obj} (hp : p ∈ pinsAt fp h) : p.1 ∈ fp ∧ h.get? p.1 = some p.2 := by
  obtain ⟨b, hb, e⟩ := List.mem_filterMap.mp hp
  cases q : h.get? b with
  | none => rw [q] at e; cases e
  | some o =>
    rw [q] at e
    have e' : (b, o) = p := Option.some.inj e
    subst e'
    exact ⟨hb, q⟩
theorem Inv.pinned {pins : List (Addr × Obj)} {σ : St} {H : Hp} {s : Shared} {fp : List Addr} (I : Inv X pins σ H s) (hf : ∀ b ∈ fp, FpOk X pins H b) (ho : ∀ b ∈ fp, ∃ o, s.heap.get? b = some o ∧ ∀ v, o.data ≠ .cell v) : Inv X (pins ++ pinsAt fp s.heap) σ H s :=
  I.pins_of fun p hp => (List.mem_append.mp hp).elim (fun z => I.pin p (List.mem_append_right _ z)) fun z => by
    obtain ⟨hb, e⟩ := of_pinsAt z
    obtain ⟨f0, f1, f2, _⟩ := hf p.1 hb
    obtain ⟨o, e', d⟩ := ho p.1 hb
    rw [e] at e'; cases e'
    exact ⟨e, f0, f1, f2, d⟩
theorem Inv.unpinned {pins pl : List (Addr × Obj)} {σ : St} {H : Hp} {s : Shared} (I : Inv X (pins ++ pl) σ H s) : Inv X pins σ H s := I.pins_of fun p hp => I.pin p (List.mem_append_right _ (List.mem_append_left _ hp))
theorem ps_for {iter : Expr} {body : List Stmt} {wi : TI} {g : TG} {tb : TS} {pos : Pos} (hp : PassesOwn (model X.prog X.w) X.A X.env X.xe) (hc : X.calm = true) (hi : PI X tg iter wi) (hg : PG X tg g) (hb : PSs X body tb)
    (hs : ∀ x, foldedSetIterable iter X.env x = pure x := by intro _; rfl) : PS X (.For tg iter body [] pos) (tFor wi g tb) := by
  intro pins s σ H D I h
  refine wpAny_For (thn (hi pins s σ H _ I h) fun v s1 h1 => thn h1 fun itv s2 h2 => ?_) hs
  obtain ⟨it, fp, tn, J, H2, e, I2, T, st2, f2, W, ⟨m0, w0⟩, turn⟩ := h2
  subst e
  -- what stays true of the iterator's objects through the loop
  have stat : ∀ {H' : Hp}, (∀ b ∈ fp, H' b = none) → ∀ b ∈ fp, FpOk X pins H' b := fun hn b hb => ⟨hn b hb, (f2 b hb).2⟩
  refine codeAny_forLoop_any (fun n s' => ∃ i σ' H', Inv X pins σ' H' s' ∧ tn i s'.heap ∧ (∀ b ∈ fp, H' b = none) ∧ W i n σ' H') ?_ m0 ⟨0, σ, H2, I2, st2, fun b hb => (f2 b hb).1, w0⟩
  rintro n s3 ⟨i, σ3, H3, I3, st3, fr3, w3⟩
  rcases turn i n σ3 H3 w3 with ⟨stop, qn⟩ | ⟨go, N, hN, step⟩
  · refine wpAny_passesOwn hp (thn (T.done X rfl rfl rfl hc i pins s3 σ3 H3 X.xe I3 (stat fr3) st3 stop) fun r s4 ⟨hr, I4⟩ => ?_)
    subst hr
    exact wpAny_execs_nil ⟨σ3, H3, I4, qn⟩
  · refine wpAny_passesOwn hp (thn (T.item X rfl rfl rfl hc i pins s3 σ3 H3 X.xe I3 (stat fr3) st3 go) fun r s4 ⟨u, hr, h4⟩ => ?_)
    subst hr
    refine wpAny_passesOwn hp (thn h4 fun _ s5 ⟨x, H5, I5, r5, y5, st5, fr5⟩ => ?_)
    have I5' := I5.pinned (stat fr5) (T.obj _ _ st5)
    refine wpAny_passesOwn hp (thn (hg _ s5 σ3 H5 x u _ I5' r5 (step x H5 y5)) fun _ s6 ⟨σ6, H6, I6, q6⟩ => ?_)
    refine wpAny_passesOwn hp (thn (hb _ s6 σ6 H6 _ I6 q6) fun f s7 q7 => ?_)
    have again : ∀ {σ7 : St} {H7 : Hp}, Inv X (pins ++ pinsAt fp s5.heap) σ7 H7 s7 → N σ7 H7 → ∃ m, m < n ∧ ∃ i σ' H', Inv X pins σ' H' s7 ∧ tn i s7.heap ∧ (∀ b ∈ fp, H' b = none) ∧ W i m σ' H' := fun {σ7 H7} I7 n7 => by
      obtain ⟨m', hm, w7⟩ := hN σ7 H7 n7
      refine ⟨m', hm, i + 1, σ7, H7, I7.unpinned, T.keep _ _ _ st5 fun b hb o e => (I7.pin (b, o) (List.mem_append_right _ (List.mem_append_right _ (mem_pinsAt hb e)))).1, fun b hb => ?_, w7⟩
      obtain ⟨o, e, d⟩ := T.obj _ _ st5 b hb
      exact (I7.pin (b, o) (List.mem_append_right _ (List.mem_append_right _ (mem_pinsAt hb e)))).2.1
    cases f with
    | next => obtain ⟨σ7, H7, I7, n7⟩ := q7; exact again I7 n7
    | cont => obtain ⟨σ7, H7, I7, n7⟩ := q7; exact again I7 n7
    | brk => obtain ⟨σ7, H7, I7, q7⟩ := q7; exact ⟨σ7, H7, I7.unpinned, q7⟩
    | ret v => obtain ⟨x7, σ7, H7, I7, r7, q7⟩ := q7; exact ⟨x7, σ7, H7, I7.unpinned, r7, q7⟩
end

/-! ### the forms one uses -/
/-- over a list that the body leaves as it is -/
theorem for_list {K : PySem.W.Frag} {a : Addr} {xs : List V} {g : TG} {tb : TS} {D : Ends} {σ : St} {H : Hp} (Pv : Nat → St → Hp → Prop) (h0 : Pv 0 σ H) (hl : ∀ i σ H, i ≤ xs.length → Pv i σ H → SqL K H a xs)
    (hs : ∀ i x σ H, xs[i]? = some x → Pv i σ H → g x σ H fun σ2 H2 => tb { D with nx := Pv (i + 1), ct := Pv (i + 1), bk := D.nx } σ2 H2) (hd : ∀ σ H, Pv xs.length σ H → D.nx σ H) :
    ∃ W : Nat → Nat → St → Hp → Prop, (∃ m, W 0 m σ H) ∧ ∀ i m σ H, W i m σ H →
      ((Itl K a).stop i H ∧ D.nx σ H) ∨ ((Itl K a).go i H ∧ ∃ N : St → Hp → Prop, (∀ σ' H', N σ' H' → ∃ m', m' < m ∧ W (i + 1) m' σ' H') ∧ ∀ x H', (Itl K a).yld i H x H' → g x σ H' fun σ2 H2 => tb { D with nx := N, ct := N, bk := D.nx } σ2 H2) := by
  refine ⟨fun i m σ H => m = xs.length - i ∧ i ≤ xs.length ∧ Pv i σ H, ⟨xs.length, by simp, Nat.zero_le _, h0⟩, ?_⟩
  rintro i m σ H ⟨rfl, hi, p⟩
  have q := hl i σ H hi p
  by_cases hlt : i < xs.length
  · refine .inr ⟨⟨xs, xs[i], q, by simp [hlt]⟩, Pv (i + 1), fun σ' H' p' => ⟨xs.length - (i + 1), by omega, rfl, hlt, p'⟩, fun x H' y => ?_⟩
    obtain ⟨e, y⟩ := y
    subst e
    exact hs i x σ _ (y xs q) p
  · have e : i = xs.length := by omega
    subst e
    exact .inl ⟨⟨xs, q, Nat.le_refl _⟩, hd σ H p⟩
theorem for_range {lo : Int} {n : Nat} {g : TG} {tb : TS} {D : Ends} {σ : St} {H : Hp} (Pv : Nat → St → Hp → Prop) (h0 : Pv 0 σ H)
    (hs : ∀ i σ H, i < n → Pv i σ H → g (.int (lo + i)) σ H fun σ2 H2 => tb { D with nx := Pv (i + 1), ct := Pv (i + 1), bk := D.nx } σ2 H2) (hd : ∀ σ H, Pv n σ H → D.nx σ H) :
    ∃ W : Nat → Nat → St → Hp → Prop, (∃ m, W 0 m σ H) ∧ ∀ i m σ H, W i m σ H →
      ((Itr lo n).stop i H ∧ D.nx σ H) ∨ ((Itr lo n).go i H ∧ ∃ N : St → Hp → Prop, (∀ σ' H', N σ' H' → ∃ m', m' < m ∧ W (i + 1) m' σ' H') ∧ ∀ x H', (Itr lo n).yld i H x H' → g x σ H' fun σ2 H2 => tb { D with nx := N, ct := N, bk := D.nx } σ2 H2) := by
  refine ⟨fun i m σ H => m = n - i ∧ i ≤ n ∧ Pv i σ H, ⟨n, by simp, Nat.zero_le _, h0⟩, ?_⟩
  rintro i m σ H ⟨rfl, hi, p⟩
  by_cases hlt : i < n
  · refine .inr ⟨hlt, Pv (i + 1), fun σ' H' p' => ⟨n - (i + 1), by omega, rfl, hlt, p'⟩, fun x H' y => ?_⟩
    obtain ⟨e, y⟩ := y
    subst e y
    exact hs i σ _ hlt p
  · have e : i = n := by omega
    subst e
    exact .inl ⟨Nat.le_refl _, hd σ H p⟩
/-- while, by a word and a measure of the state -/
theorem while_by {c : TT} {tb : TS} {D : Ends} {σ : St} {H : Hp} (Pv : St → Hp → Prop) (μ : St → Hp → Nat) (h0 : Pv σ H)
    (hs : ∀ σ H, Pv σ H → c σ H fun b H1 => if b = true then tb { D with nx := fun σ' H' => Pv σ' H' ∧ μ σ' H' < μ σ H, ct := fun σ' H' => Pv σ' H' ∧ μ σ' H' < μ σ H, bk := D.nx } σ H1 else D.nx σ H1)
    (mono : ∀ σ H Q Q', (∀ b H1, Q b H1 → Q' b H1) → c σ H Q → c σ H Q') : tWhile c tb D σ H := by
  refine ⟨fun m σ H => m = μ σ H ∧ Pv σ H, ⟨_, rfl, h0⟩, ?_⟩
  rintro m σ H ⟨rfl, p⟩
  refine mono σ H _ _ (fun b H1 q => ?_) (hs σ H p)
  cases b with
  | true => exact ⟨_, fun σ' H' ⟨p', l⟩ => ⟨_, l, rfl, p'⟩, q⟩
  | false => exact q
end L2

namespace L2
open PySem PySem.Spec PyProof.Rows

abbrev R2 := V → V → Hp → VK → Prop
/-- a two-place operation on values: f is binaryOp op, inplaceOp op or compareOp op -/
def OpR (X : Cx) (f : Value → Value → Sem Value) (r : R2) : Prop :=
  ∀ (pins : List (Addr × Obj)) (s : Shared) (σ : St) (H : Hp) (x y : V) (v u : Value) (Q : VK), Inv X pins σ H s → RelV x v → RelV y u → r x y H Q →
    wpAny (model X.prog X.w) X.A (f v u) (EP X pins σ Q) X.xe s
/-- a one-place operation -/
def UnR (X : Cx) (f : Value → Sem Value) (r : V → Hp → VK → Prop) : Prop :=
  ∀ (pins : List (Addr × Obj)) (s : Shared) (σ : St) (H : Hp) (x : V) (v : Value) (Q : VK), Inv X pins σ H s → RelV x v → r x H Q →
    wpAny (model X.prog X.w) X.A (f v) (EP X pins σ Q) X.xe s
/-- a call of a value that is known (a builtin, a type) with values -/
def CallR (X : Cx) (f : Value) (r : List V → Hp → VK → Prop) : Prop :=
  ∀ (pins : List (Addr × Obj)) (s : Shared) (σ : St) (H : Hp) (xs : List V) (us : List Value) (Q : VK), Inv X pins σ H s → Vals xs us → r xs H Q →
    wpAny (model X.prog X.w) X.A (call f us) (EP X pins σ Q) X.xe s
/-- a value's truth -/
def TruR (X : Cx) (r : V → Hp → (Bool → Hp → Prop) → Prop) : Prop :=
  ∀ (pins : List (Addr × Obj)) (s : Shared) (σ : St) (H : Hp) (x : V) (v : Value) (Q : Bool → Hp → Prop), Inv X pins σ H s → RelV x v → r x H Q →
    wpAny (model X.prog X.w) X.A (truthy v) (TP X pins σ Q) X.xe s

def tOp (r : R2) (ta tb : TE) : TE := fun σ H Q => ta σ H fun x H1 => tb σ H1 fun y H2 => r x y H2 Q
def tUn (r : V → Hp → VK → Prop) (ta : TE) : TE := fun σ H Q => ta σ H fun x H1 => r x H1 Q
/-- ints in, under C, and a value out -/
def rI (C : Int → Int → Prop) (g : Int → Int → V) : R2 := fun x y H Q => ∃ i j, x = .int i ∧ y = .int j ∧ C i j ∧ Q (g i j) H
def rI0 (g : Int → Int → V) : R2 := fun x y H Q => ∃ i j, x = .int i ∧ y = .int j ∧ Q (g i j) H
def rU (g : Int → V) : V → Hp → VK → Prop := fun x H Q => ∃ i, x = .int i ∧ Q (g i) H

section
variable {X : Cx} {a b c : Expr} {ta tb tc : TE} {pos : Pos}

theorem binT (ha : PE X a ta) (hb : PE X b tb) {pins : List (Addr × Obj)} {s : Shared} {σ : St} {H : Hp} {R : V → V → Hp → Prop} (I : Inv X pins σ H s)
    (h : ta σ H fun x H1 => tb σ H1 fun y H2 => R x y H2) {Q : Value → Shared → Prop} {f : Value → Value → Sem Value}
    (hf : ∀ v u s2 x y H2, Inv X pins σ H2 s2 → RelV x v → RelV y u → R x y H2 → wpAny (model X.prog X.w) X.A (f v u) Q X.xe s2) :
    wpAny (model X.prog X.w) X.A (eval a X.env) (fun v s₁ => wpAny (model X.prog X.w) X.A (eval b X.env) (fun u s₂ => wpAny (model X.prog X.w) X.A (f v u) Q X.xe s₂) X.xe s₁) X.xe s := by
  refine thn (ha pins s σ H _ I h) fun v s1 ⟨x, H1, I1, r1, q1⟩ => ?_
  refine thn (hb pins s1 σ H1 _ I1 q1) fun u s2 ⟨y, H2, I2, r2, q2⟩ => ?_
  exact hf v u s2 x y H2 I2 r1 r2 q2

theorem pe_op {op : Operator} {r : R2} (ho : OpR X (binaryOp op) r) (ha : PE X a ta) (hb : PE X b tb) : PE X (.BinOp a op b pos) (tOp r ta tb) := by
  intro pins s σ H Q I h
  exact wpAny_BinOp (binT ha hb I h fun v u s2 x y H2 I2 rx ry q => ho pins s2 σ H2 x y v u Q I2 rx ry q)
theorem pe_un {op : UnaryOp} {r : V → Hp → VK → Prop} (ho : UnR X (unaryOp op) r) (ha : PE X a ta) : PE X (.UnaryOp op a pos) (tUn r ta) := by
  intro pins s σ H Q I h
  exact UnaryOp_ (thn (ha pins s σ H _ I h) fun v s1 ⟨x, H1, I1, r1, q1⟩ => ho pins s1 σ H1 x v Q I1 r1 q1)

/-! ### ints -/
theorem opI {f : Value → Value → Sem Value} {C : Int → Int → Prop} {g : Int → Int → Int}
    (rule : ∀ (i j : Int) (t u : Tok) (s : Shared) (Q : Value → Shared → Prop) (E : Value → Shared → Prop), C i j → Q (.int (g i j) s.toks) { s with toks := s.toks + 1 } → wpAny (model X.prog X.w) X.A (f (.int i t) (.int j u)) Q E s) :
    OpR X f (rI C fun i j => .int (g i j)) := by
  intro pins s σ H x y v u Q I rx ry h
  obtain ⟨i, j, rfl, rfl, hc, q⟩ := h
  obtain ⟨t, rfl⟩ := rx
  obtain ⟨t', rfl⟩ := ry
  exact rule i j t t' s _ _ hc ⟨.int (g i j), H, I.tok _, ⟨_, rfl⟩, q⟩
theorem opI0 {f : Value → Value → Sem Value} {g : Int → Int → Int}
    (rule : ∀ (i j : Int) (t u : Tok) (s : Shared) (Q : Value → Shared → Prop) (E : Value → Shared → Prop), Q (.int (g i j) s.toks) { s with toks := s.toks + 1 } → wpAny (model X.prog X.w) X.A (f (.int i t) (.int j u)) Q E s) :
    OpR X f (rI0 fun i j => .int (g i j)) := by
  intro pins s σ H x y v u Q I rx ry h
  obtain ⟨i, j, rfl, rfl, q⟩ := h
  obtain ⟨t, rfl⟩ := rx
  obtain ⟨t', rfl⟩ := ry
  exact rule i j t t' s _ _ ⟨.int (g i j), H, I.tok _, ⟨_, rfl⟩, q⟩
theorem opB0 {f : Value → Value → Sem Value} {g : Int → Int → Bool}
    (rule : ∀ (i j : Int) (t u : Tok) (s : Shared) (Q : Value → Shared → Prop) (E : Value → Shared → Prop), Q (.bool (g i j)) s → wpAny (model X.prog X.w) X.A (f (.int i t) (.int j u)) Q E s) :
    OpR X f (rI0 fun i j => .bl (g i j)) := by
  intro pins s σ H x y v u Q I rx ry h
  obtain ⟨i, j, rfl, rfl, q⟩ := h
  obtain ⟨t, rfl⟩ := rx
  obtain ⟨t', rfl⟩ := ry
  exact rule i j t t' s _ _ ⟨.bl (g i j), H, I, rfl, q⟩

def CDiv (i j : Int) : Prop := 0 < j ∧ j < 1073741824
def CMul (i j : Int) : Prop := (-(2 ^ 64) < i ∧ i < 2 ^ 64) ∨ (-(2 ^ 64) < j ∧ j < 2 ^ 64)
theorem CMul.ok {i j : Int} (h : CMul i j) : IntMulOk i j := by
  rcases h with ⟨h1, h2⟩ | ⟨h1, h2⟩
  · exact .of_left (intBits_le_64 h1 h2)
  · exact .of_right (intBits_le_64 h1 h2)

theorem op_add : OpR X (binaryOp .Add) (rI0 fun i j => .int (i + j)) := opI0 fun _ _ _ _ _ _ _ q => add_int q
theorem op_sub : OpR X (binaryOp .Sub) (rI0 fun i j => .int (i - j)) := opI0 fun _ _ _ _ _ _ _ q => sub_int q
theorem op_mul : OpR X (binaryOp .Mult) (rI CMul fun i j => .int (i * j)) := opI fun _ _ _ _ _ _ _ hc q => mul_int q hc.ok
/-- // by a positive divisor -/
theorem op_fdiv : OpR X (binaryOp .FloorDiv) (rI CDiv fun i j => .int (i / j)) := opI fun i j _ _ _ _ _ hc q => by
  have h1 : (0 : Int) < j := hc.1
  have h2 : j < 1073741824 := hc.2
  exact floordiv_int (by omega) (by rw [Int.fdiv_eq_ediv_of_nonneg i (by omega)]; exact q) (.inl (PyProof.noPylong_small (by omega)))
/-- % by a positive divisor of any size -/
theorem op_mod : OpR X (binaryOp .Mod) (rI (fun _ j => 0 < j) fun i j => .int (i % j)) := opI fun i j _ _ _ _ _ hc q => by
  have h1 : (0 : Int) < j := hc
  exact mod_int' (by omega) (by rw [Int.fmod_eq_emod_of_nonneg i (by omega)]; exact q)


theorem unI {f : Value → Sem Value} {g : Int → Int}
    (rule : ∀ (i : Int) (t : Tok) (s : Shared) (Q : Value → Shared → Prop) (E : Value → Shared → Prop), Q (.int (g i) s.toks) { s with toks := s.toks + 1 } → wpAny (model X.prog X.w) X.A (f (.int i t)) Q E s) :
    UnR X f (rU fun i => .int (g i)) := by
  intro pins s σ H x v Q I rx h
  obtain ⟨i, rfl, q⟩ := h
  obtain ⟨t, rfl⟩ := rx
  exact rule i t s _ _ ⟨.int (g i), H, I.tok _, ⟨_, rfl⟩, q⟩
theorem un_neg : UnR X (unaryOp .USub) (rU fun i => .int (-i)) := unI fun _ _ _ _ _ q => neg_int q

/-! ### bools among ints: n += (a < b) -/
end

/-! ### comparisons -/
/-- the scalars that == tells apart as data does -/
def scal : V → V → Bool
  | .non, .non => true | .non, .int _ => true | .int _, .non => true | .non, .bl _ => true | .bl _, .non => true | .non, .str _ => true | .str _, .non => true
  | .int _, .int _ => true | .bl _, .bl _ => true | .str _, .str _ => true | .byt _, .byt _ => true
  | .int _, .str _ => true | .str _, .int _ => true | .bl _, .str _ => true | .str _, .bl _ => true
  | _, _ => false
def rEq : R2 := fun x y H Q => scal x y = true ∧ Q (.bl (decide (x = y))) H
def rNe : R2 := fun x y H Q => scal x y = true ∧ Q (.bl (!decide (x = y))) H

theorem dec_int {i j : Int} : decide (V.int i = V.int j) = (i == j) := by
  rw [Bool.eq_iff_iff]
  simp
theorem dec_bl {i j : Bool} : decide (V.bl i = V.bl j) = (i == j) := by
  rw [Bool.eq_iff_iff]
  simp
theorem dec_str {i j : Str} : decide (V.str i = V.str j) = (i == j) := by
  rw [Bool.eq_iff_iff]
  simp
theorem dec_byt {i j : Array UInt8} : decide (V.byt i = V.byt j) = (i.toList == j.toList) := by
  rw [Bool.eq_iff_iff]
  cases i
  cases j
  simp

section
variable {X : Cx} {a b c : Expr} {ta tb tc : TE} {pos : Pos}
theorem fin_bl {pins : List (Addr × Obj)} {σ : St} {H : Hp} {s : Shared} {Q : VK} {k k' : Bool} (I : Inv X pins σ H s) (q : Q (.bl k) H) (e : k = k') : EP X pins σ Q (.bool k') s := by
  subst e
  exact ⟨.bl k, H, I, rfl, q⟩
theorem op_eq : OpR X (compareOp .Eq) rEq := by
  intro pins s σ H x y v u Q I rx ry h
  obtain ⟨hs, q⟩ := h
  cases x with
  | non =>
    cases rx
    cases y with
    | non => cases ry; exact PySem.EqNone.eq_none_none (fin_bl I q (by simp))
    | bl j => cases ry; exact PySem.EqNone.eq_none_bool (fin_bl I q (by simp))
    | int j => obtain ⟨t', rfl⟩ := ry; exact PySem.EqNone.eq_none_int (fin_bl I q (by simp))
    | str j => obtain ⟨t', rfl⟩ := ry; exact PySem.EqNone.eq_none_str (fin_bl I q (by simp))
    | _ => exact absurd (show false = true from hs) Bool.false_ne_true
  | bl i =>
    cases rx
    cases y with
    | non => cases ry; exact PySem.EqNone.eq_bool_none (fin_bl I q (by simp))
    | bl j => cases ry; exact eq_bool (fin_bl I q dec_bl)
    | str j => obtain ⟨t', rfl⟩ := ry; exact PySem.EqMixed.eq_bool_str (fin_bl I q (by simp))
    | _ => exact absurd (show false = true from hs) Bool.false_ne_true
  | int i =>
    obtain ⟨t, rfl⟩ := rx
    cases y with
    | non => cases ry; exact PySem.EqNone.eq_int_none (fin_bl I q (by simp))
    | int j => obtain ⟨t', rfl⟩ := ry; exact eq_int (fin_bl I q dec_int)
    | str j => obtain ⟨t', rfl⟩ := ry; exact PySem.EqMixed.eq_int_str (fin_bl I q (by simp))
    | _ => exact absurd (show false = true from hs) Bool.false_ne_true
  | str i =>
    obtain ⟨t, rfl⟩ := rx
    cases y with
    | non => cases ry; exact PySem.EqNone.eq_str_none (fin_bl I q (by simp))
    | bl j => cases ry; exact PySem.EqMixed.eq_str_bool (fin_bl I q (by simp))
    | int j => obtain ⟨t', rfl⟩ := ry; exact PySem.EqMixed.eq_str_int (fin_bl I q (by simp))
    | str j => obtain ⟨t', rfl⟩ := ry; exact eq_str (fin_bl I q dec_str)
    | _ => exact absurd (show false = true from hs) Bool.false_ne_true
  | byt i =>
    obtain ⟨t, rfl⟩ := rx
    cases y with
    | byt j => obtain ⟨t', rfl⟩ := ry; exact PySem.W.eq_bytes (fin_bl I q dec_byt)
    | _ => exact absurd (show false = true from hs) Bool.false_ne_true
  | _ => cases y <;> exact absurd (show false = true from hs) Bool.false_ne_true
theorem op_ne : OpR X (compareOp .NotEq) rNe := by
  intro pins s σ H x y v u Q I rx ry h
  obtain ⟨hs, q⟩ := h
  cases x with
  | non =>
    cases rx
    cases y with
    | non => cases ry; exact PySem.EqNone.ne_none_none (fin_bl I q (by simp))
    | bl j => cases ry; exact PySem.EqNone.ne_none_bool (fin_bl I q (by simp))
    | int j => obtain ⟨t', rfl⟩ := ry; exact PySem.EqNone.ne_none_int (fin_bl I q (by simp))
    | str j => obtain ⟨t', rfl⟩ := ry; exact PySem.EqNone.ne_none_str (fin_bl I q (by simp))
    | _ => exact absurd (show false = true from hs) Bool.false_ne_true
  | bl i =>
    cases rx
    cases y with
    | non => cases ry; exact PySem.EqNone.ne_bool_none (fin_bl I q (by simp))
    | bl j => cases ry; exact ne_bool (fin_bl I q (congrArg not dec_bl))
    | str j => obtain ⟨t', rfl⟩ := ry; exact PySem.EqMixed.ne_bool_str (fin_bl I q (by simp))
    | _ => exact absurd (show false = true from hs) Bool.false_ne_true
  | int i =>
    obtain ⟨t, rfl⟩ := rx
    cases y with
    | non => cases ry; exact PySem.EqNone.ne_int_none (fin_bl I q (by simp))
    | int j => obtain ⟨t', rfl⟩ := ry; exact ne_int (fin_bl I q (congrArg not dec_int))
    | str j => obtain ⟨t', rfl⟩ := ry; exact PySem.EqMixed.ne_int_str (fin_bl I q (by simp))
    | _ => exact absurd (show false = true from hs) Bool.false_ne_true
  | str i =>
    obtain ⟨t, rfl⟩ := rx
    cases y with
    | non => cases ry; exact PySem.EqNone.ne_str_none (fin_bl I q (by simp))
    | bl j => cases ry; exact PySem.EqMixed.ne_str_bool (fin_bl I q (by simp))
    | int j => obtain ⟨t', rfl⟩ := ry; exact PySem.EqMixed.ne_str_int (fin_bl I q (by simp))
    | str j => obtain ⟨t', rfl⟩ := ry; exact ne_str (fin_bl I q (congrArg not dec_str))
    | _ => exact absurd (show false = true from hs) Bool.false_ne_true
  | byt i =>
    obtain ⟨t, rfl⟩ := rx
    cases y with
    | byt j => obtain ⟨t', rfl⟩ := ry; exact PySem.W.ne_bytes (fin_bl I q (congrArg not dec_byt))
    | _ => exact absurd (show false = true from hs) Bool.false_ne_true
  | _ => cases y <;> exact absurd (show false = true from hs) Bool.false_ne_true

theorem op_lt : OpR X (compareOp .Lt) (rI0 fun i j => .bl (decide (i < j))) := opB0 fun _ _ _ _ _ _ _ q => lt_int q
theorem op_le : OpR X (compareOp .LtE) (rI0 fun i j => .bl (decide (i ≤ j))) := opB0 fun _ _ _ _ _ _ _ q => le_int q
theorem op_gt : OpR X (compareOp .Gt) (rI0 fun i j => .bl (decide (j < i))) := opB0 fun _ _ _ _ _ _ _ q => gt_int q
theorem op_ge : OpR X (compareOp .GtE) (rI0 fun i j => .bl (decide (j ≤ i))) := opB0 fun _ _ _ _ _ _ _ q => ge_int q




theorem nomark (b : Expr) {op : CmpOp} (h : op ≠ .In := by decide) (h2 : op ≠ .NotIn := by decide) : behindInMarks op b = false := by
  have e1 : (op == CmpOp.In) = false := by cases op <;> first | rfl | exact absurd rfl h
  have e2 : (op == CmpOp.NotIn) = false := by cases op <;> first | rfl | exact absurd rfl h2
  cases b <;> simp [behindInMarks, e1, e2]
/-- a comparison as a value; hm: nomark b, or (for in, not in) by with_unfolding_all rfl -/
theorem pe_cmpR {op : CmpOp} {r : R2} (ho : OpR X (compareOp op) r) (ha : PE X a ta) (hb : PE X b tb) (hm : behindInMarks op b = false) : PE X (.Compare a [op] [b] pos) (tOp r ta tb) := by
  intro pins s σ H Q I h
  exact wpAny_Compare1 (binT ha hb I h fun v u s2 x y H2 I2 rx ry q => ho pins s2 σ H2 x y v u Q I2 rx ry q) hm
/-- a reading of a value as a test -/
def tTest (t : TE) : TT := fun σ H Q => t σ H fun x H' => ∃ k, x = .bl k ∧ Q k H'
theorem pt_cmpR {op : CmpOp} {r : R2} (ho : OpR X (compareOp op) r) (ha : PE X a ta) (hb : PE X b tb) (hm : behindInMarks op b = false) : PT X (.Compare a [op] [b] pos) (tTest (tOp r ta tb)) := by
  intro pins s σ H Q I h
  refine wpAny_isTrue_Compare1 (thn (ha pins s σ H _ I h) fun v s1 ⟨x, H1, I1, r1, q1⟩ => thn (hb pins s1 σ H1 _ I1 q1) fun u s2 ⟨y, H2, I2, r2, q2⟩ =>
    thn (ho pins s2 σ H2 x y v u _ I2 r1 r2 q2) fun c s3 ⟨z, H3, I3, r3, k, e, q3⟩ => ?_) hm
  subst e
  cases r3
  exact wpAny_truthy_bool ⟨H3, I3, q3⟩
/-- a op1 b op2 c -/
def tChain (r r' : R2) (ta tb tc : TE) : TE := fun σ H Q => ta σ H fun x H1 => tb σ H1 fun y H2 => r x y H2 fun z H3 => ∃ k, z = .bl k ∧
  (if k = true then tc σ H3 fun w' H4 => r' y w' H4 Q else Q (.bl false) H3)
theorem pe_chain {op op' : CmpOp} {r r' : R2} (ho : OpR X (compareOp op) r) (ho' : OpR X (compareOp op') r') (ha : PE X a ta) (hb : PE X b tb) (hc : PE X c tc)
    (hm : lastMarks [op, op'] [b, c] = false := by with_unfolding_all rfl) : PE X (.Compare a [op, op'] [b, c] pos) (tChain r r' ta tb tc) := by
  intro pins s σ H Q I h
  refine Compare_chain (thn (ha pins s σ H _ I h) fun v s1 ⟨x, H1, I1, r1, q1⟩ => chain_link (thn (hb pins s1 σ H1 _ I1 q1) fun u s2 ⟨y, H2, I2, r2, q2⟩ =>
    thn (ho pins s2 σ H2 x y v u _ I2 r1 r2 q2) fun d s3 ⟨z, H3, I3, r3, k, e, q3⟩ => ?_)) hm
  subst e
  cases r3
  refine wpAny_truthy_bool ?_
  cases k with
  | false => exact ite_ff ⟨.bl false, H3, I3, rfl, q3⟩
  | true => exact ite_tt (chain_last (thn (hc pins s3 σ H3 _ I3 q3) fun w' s4 ⟨z', H4, I4, r4, q4⟩ => ho' pins s4 σ H4 y z' u w' Q I4 r2 r4 q4))

/-! ### truth -/
/-- a value's truth by the abstract heap -/
def TruV (K : PySem.W.Frag) (x : V) (H : Hp) (k : Bool) : Prop :=
  match x with
  | .non => k = false
  | .bl b => k = b
  | .int i => k = (i != 0)
  | .str y => y.length ≤ sizeLine ∧ k = ((y.length : Int) != 0)
  | .byt y => y.size ≤ sizeLine ∧ k = ((y.size : Int) != 0)
  | .ref p => (∃ xs, SqL K H p xs ∧ k = !xs.isEmpty) ∨ (∃ xs, SqT K H p xs ∧ k = !xs.isEmpty) ∨ ∃ kvs, H p = some (.dK kvs) ∧ k = !kvs.isEmpty
  | _ => False
theorem isEmpty_kv {κ : Type} {kvs : List (κ × V)} {vs : List (κ × Value)} (r : KV kvs vs) : (!vs.isEmpty) = !kvs.isEmpty := by
  cases r <;> rfl
theorem isEmpty_of {xs : List V} {its : List Value} (r : Vals xs its) : (!its.toArray.isEmpty) = !xs.isEmpty := by
  cases r <;> simp
theorem line63 : (sizeLine : Nat) < 2 ^ 63 := by rw [sizeLine_eq]; decide
theorem tru_ok : TruR X (fun x H Q => ∃ k, TruV X.K x H k ∧ Q k H) := by
  intro pins s σ H x v Q I rx h
  obtain ⟨k, e, q⟩ := h
  have hl := line63
  have hs : sizeLine = 16777216 := sizeLine_eq
  cases x with
  | non =>
    cases rx
    have e' : k = false := e
    subst e'
    exact truthy_none ⟨H, I, q⟩
  | bl b =>
    cases rx
    have e' : k = b := e
    subst e'
    exact wpAny_truthy_bool ⟨H, I, q⟩
  | int i =>
    obtain ⟨t, rfl⟩ := rx
    have e' : k = (i != 0) := e
    subst e'
    exact PySem.P.truthy_int ⟨H, I, q⟩
  | str y =>
    obtain ⟨t, rfl⟩ := rx
    obtain ⟨hy, e'⟩ : y.length ≤ sizeLine ∧ k = ((y.length : Int) != 0) := e
    subst e'
    exact PySem.P.truthy_str (by omega) ⟨H, I.tok _, q⟩
  | byt y =>
    obtain ⟨t, rfl⟩ := rx
    obtain ⟨hy, e'⟩ : y.size ≤ sizeLine ∧ k = ((y.size : Int) != 0) := e
    subst e'
    exact PySem.W.truthy_bytes (by omega) ⟨H, I.tok _, q⟩
  | ref p =>
    cases rx
    have e' : (∃ xs, SqL X.K H p xs ∧ k = !xs.isEmpty) ∨ (∃ xs, SqT X.K H p xs ∧ k = !xs.isEmpty) ∨ ∃ kvs, H p = some (.dK kvs) ∧ k = !kvs.isEmpty := e
    rcases e' with ⟨xs, hx, e'⟩ | ⟨xs, hx, e'⟩ | ⟨kvs, hx, e'⟩
    · subst e'
      obtain ⟨its, r, pl, hz⟩ := I.list hx
      have hlen := r.length
      exact wpAny_truthy_list pl.isList (by simp only [List.size_toArray]; omega) ⟨H, I.tok _, by rw [isEmpty_of r]; exact q⟩
    · subst e'
      obtain ⟨its, r, pl, hz⟩ := I.tuple hx
      have hlen := r.length
      exact truthy_tuple pl (by simp only [List.size_toArray]; omega) ⟨H, I.tok _, by rw [isEmpty_of r]; exact q⟩
    · subst e'
      obtain ⟨hz, hS, vs, r, m⟩ : kvs.length ≤ sizeLine ∧ (p == sysModules) = false ∧ ∃ vs, KV kvs vs ∧ s.heap.DictOf (mixKind X.prog X.w) p vs := I.hok p _ hx
      have hlen : kvs.length = vs.length := Paired.length r
      exact wpAny_truthy_dict hS m (by omega) ⟨H, I.tok _, by rw [isEmpty_kv r]; exact q⟩
  | _ => exact (show False from e).elim
/-- any expression whose test is its value's truth (a name, a call, a subscript, a field ..: he by fun _ => rfl) -/
theorem pt_truth (ha : PE X a ta) (he : ∀ whole, isTrue a X.env whole = (do let v ← whole; standAt a.pos; holding [v] (truthy v))) :
    PT X a (fun σ H Q => ta σ H fun x H' => ∃ k, TruV X.K x H' k ∧ Q k H') := by
  intro pins s σ H Q I h
  exact isTrue_plain (thn (ha pins s σ H _ I h) fun v s1 ⟨x, H1, I1, r1, q1⟩ => tru_ok pins s1 σ H1 x v Q I1 r1 q1) (he _)

/-! ### strs and bytes -/
theorem op_add_str : OpR X (binaryOp .Add) (fun x y H Q => ∃ i j, x = .str i ∧ y = .str j ∧ i.length + j.length ≤ sizeLine ∧ Q (.str (i ++ j)) H) := by
  intro pins s σ H x y v u Q I rx ry h
  obtain ⟨i, j, rfl, rfl, hz, q⟩ := h
  obtain ⟨t, rfl⟩ := rx
  obtain ⟨t', rfl⟩ := ry
  exact add_str (fun t' tk => ⟨.str (i ++ j), H, I.tok _, ⟨_, rfl⟩, q⟩) hz


/-! ### scalar builtins, by CallR -/
theorem vals1 {x : V} {us : List Value} (r : Vals [x] us) : ∃ u, us = [u] ∧ RelV x u := by
  cases r with
  | cons r1 r2 => cases r2; exact ⟨_, rfl, r1⟩
theorem vals2 {x y : V} {us : List Value} (r : Vals [x, y] us) : ∃ u w', us = [u, w'] ∧ RelV x u ∧ RelV y w' := by
  cases r with
  | cons r1 r2 =>
    cases r2 with
    | cons r3 r4 => cases r4; exact ⟨_, _, rfl, r1, r3⟩
theorem call_min2 (hc : X.calm = true) : CallR X (.builtin "min") (fun xs H Q => ∃ i j, xs = [.int i, .int j] ∧ Q (.int (if j < i then j else i)) H) := by
  intro pins s σ H xs us Q I r h
  obtain ⟨i, j, rfl, q⟩ := h
  obtain ⟨u, w', rfl, ⟨t, rfl⟩, ⟨t', rfl⟩⟩ := vals2 r
  refine min_two_ints (I.ok.hd hc) fun h' tk k => ⟨_, H, I.kept k, ?_, q⟩
  by_cases hj : j < i
  · rw [if_pos hj, if_pos hj]; exact ⟨_, rfl⟩
  · rw [if_neg hj, if_neg hj]; exact ⟨_, rfl⟩
end
end L2

namespace L2
open PySem PySem.Spec PyProof.Rows

/-! ### an instance, its attributes a map -/
structure ObjM (h : Heap) (x dx C : Addr) (mA : Str → Option Value) : Prop where
  obj : h.get? x = some (PySem.W.instObj C dx)
  ns : h.Ns1 dx mA
  ne : dx ≠ x

theorem lookIn_ns {h : Heap} {dx : Addr} {mA : Str → Option Value} (n : h.Ns1 dx mA) : ∃ od, h.get? dx = some od ∧ ∀ name, PySem.W.lookIn name od = some (mA name) := by
  obtain ⟨o, es, ep, ho, hd, hk, _, hm⟩ := n
  refine ⟨o, ho, fun name => ?_⟩
  have e := hm name
  unfold nsFind findBy at e
  rw [← Array.find?_toList] at e
  unfold PySem.W.lookIn
  rw [hd]
  dsimp only
  split
  · rename_i y q
    rw [q] at e
    exact congrArg some e
  · rename_i q
    rw [q] at e
    have a : es.toList.any (·.refKey) = false := by
      rw [List.any_eq_false]
      intro y hy
      obtain ⟨z, t, hkey⟩ := hk y (Array.mem_toList_iff.mp hy)
      simp [DictEntry.refKey, hkey]
    have a' : ¬ es.toList.any (·.refKey) = true := by rw [a]; exact Bool.false_ne_true
    rw [if_neg a']
    exact congrArg some e

theorem ObjM.look {h : Heap} {x dx C : Addr} {mA : Str → Option Value} (I : ObjM h x dx C mA) : ∃ od, PySem.W.InstAt h x (PySem.W.instObj C dx) C (some od) ∧ ∀ name, PySem.W.lookIn name od = some (mA name) :=
  let ⟨od, ho, hl⟩ := lookIn_ns I.ns
  ⟨od, ⟨I.obj, rfl, rfl, ho⟩, hl⟩

section
variable {prog : Program} {w : World} {A : Around} {E : Value → Shared → Prop} {s : Shared} {K : PySem.W.Frag} {x dx C f : Addr} {mA : Str → Option Value} {name : Str} {v : Value}

theorem get_map {expr : Bool} {Q : Value → Shared → Prop} (X : K.In s.heap) (I : ObjM s.heap x dx C mA) (hg : PySem.W.plainGet K C name = true) (hh : PySem.W.hasDictIn K C = true)
    (ha : PySem.W.findIn K (.ref C) name = some none) (hv : mA name = some v) (hv' : PySem.W.handedIn v = true) (h : Q v { s with toks := s.toks + 1 }) :
    wpAny (model prog w) A (getAttr (.ref x) name expr) Q E s := by
  obtain ⟨od, J, hl⟩ := I.look
  exact PySem.W.get_value X J (PySem.W.plainGet_of hg).1 (PySem.W.findObj_own hh ha rfl (by rw [hl, hv])) hv' h


theorem get_meth {pl : Sem Bool} {Q : Value × List Value → Shared → Prop} (X : K.In s.heap) (I : ObjM s.heap x dx C mA) (hg : PySem.W.plainGet K C name = true)
    (hf : PySem.W.findIn K (.ref C) name = some (some (.ref f))) (ht : PySem.W.isFn K (.ref f) = true) (hv : mA name = none) (h : Q (.ref f, [.ref x]) s) :
    wpAny (model prog w) A (getMethod (.ref x) name pl) Q E s := by
  obtain ⟨od, J, hl⟩ := I.look
  exact PySem.W.method_fn X J (PySem.W.plainGet_of hg).1 (PySem.W.plainGet_of hg).2 hf (beq_iff_eq.mp ht) (by show (PySem.W.lookIn name od).map (·.isSome) = some false; rw [hl, hv]; rfl) h

theorem set_map {ns : List Str} {Q : Unit → Shared → Prop} (X : K.In s.heap) (I : ObjM s.heap x dx C mA)
    (hs : PySem.W.findIn K (.ref C) "__setattr__" = some (some (.builtin "object.__setattr__"))) (hp : PySem.W.plainOver K C = true) (ht : PySem.W.takerIn K C name = some none) (hh : PySem.W.hasDictIn K C = true)
    (hw : PySem.Within mA ns) (hsz : ns.length ≤ sizeLine)
    (h : ∀ h', ObjM h' x dx C (fun y => if y = name then some v else mA y) → Heap.SameBut dx s.heap h' → Q () { s with heap := h', toks := s.toks + 2 }) :
    wpAny (model prog w) A (setAttr (.ref x) name v) Q E s := by
  obtain ⟨od, J, hl⟩ := I.look
  refine PySem.W.set_plain X J hs (PySem.W.osa_open (s := { s with toks := s.toks + 1 }) (r := none) X J hp ht fun b => ?_)
  obtain ⟨cd, hc, hd'⟩ := PySem.W.any_some hh
  have hx : s.heap.get? x = some ⟨.ref C, some dx, .plain, #[]⟩ := I.obj
  refine wpAny_bind (wpAny_pure (wpAny_bind (wpAny_bind (wpAny_loadPart hx (wpAny_bind (PySem.W.Looks.here (s := { s with toks := s.toks + 1 }) (PySem.W.looks_clsIn X hc) ?_))))))
  rw [hd']
  refine wpAny_pure (a := some dx) (wpAny_bind (wpAny_pure (wpAny_bind ?_)))
  refine wpAny_nsSet1 (s := { s with toks := s.toks + 1 }) I.ns fun h' hn2 hs2 => ?_
  obtain ⟨oD, esD, epD, hoD, hdD, hcD⟩ := hn2.count (PySem.Within.cons name v hw)
  refine wpAny_bind (wpAny_lookBehind hoD (by rw [hdD]; exact pastItsLine_dict (Nat.le_trans hcD (by rw [List.length_cons]; omega))) ?_)
  exact wpAny_pure (h _ ⟨(hs2.2 _ (Ne.symm I.ne)).trans I.obj, hn2, I.ne⟩ hs2)

/-- C(..): the dict at the heap's end, the instance behind it; then its __init__ -/
theorem make_map {R : Result → Shared → Prop} {vs : List Value} {kw : List (Str × Value)} (X : K.In s.heap) (hm : PySem.W.makesIn K C = true)
    (hi : PySem.W.findIn K (.ref C) "__init__" = some (some (.ref f))) (hf : PySem.W.typeIn K (.ref f) = some (.type "function"))
    (h : codeAny (model prog w) (A.under (.builtin "type.__call__" ⟨.ref C :: vs, kw⟩)) (.call (.ref f) ⟨.ref (s.heap.objs.size + 1) :: vs, kw⟩) (PySem.W.InitBack (s.heap.objs.size + 1) R)
      { s with heap := (s.heap.push PySem.W.emptyDict).push (PySem.W.instObj C s.heap.objs.size) }) :
    codeAny (model prog w) A (.call (.ref C) ⟨vs, kw⟩) R s := by
  obtain ⟨hh, g, d, t, os⟩ := s
  exact PySem.W.make_core (PySem.W.makes_of X hm) (PySem.W.looks_findIn X hi) (fun self => PySem.W.bind_fn X self hf) (.inl rfl) h
/-- C() where there is no __init__ but object's -/
theorem make_map0 {R : Result → Shared → Prop} (X : K.In s.heap) (hm : PySem.W.makesIn K C = true)
    (hi : PySem.W.findIn K (.ref C) "__init__" = some (some (.builtin "object.__init__")))
    (hb : ∀ self, PySem.W.Looks (model prog w) s.heap (bindSpecial (.builtin "object.__init__") self) (.builtin "object.__init__", [self]))
    (h : codeAny (model prog w) (A.under (.builtin "type.__call__" ⟨[.ref C], []⟩)) (.call (.builtin "object.__init__") ⟨[.ref (s.heap.objs.size + 1)], []⟩) (PySem.W.InitBack (s.heap.objs.size + 1) R)
      { s with heap := (s.heap.push PySem.W.emptyDict).push (PySem.W.instObj C s.heap.objs.size) }) :
    codeAny (model prog w) A (.call (.ref C) ⟨[], []⟩) R s := by
  obtain ⟨hh, g, d, t, os⟩ := s
  exact PySem.W.make_core (PySem.W.makes_of X hm) (PySem.W.looks_findIn X hi) hb (.inr ⟨rfl, rfl⟩) h
end

/-! ### the attributes as a list of pairs -/
def putF (f : Str) (v : V) : List (Str × V) → List (Str × V)
  | [] => [(f, v)]
  | (g, x) :: r => if g = f then (g, v) :: r else (g, x) :: putF f v r
theorem lookup_putF (f g : Str) (v : V) : ∀ fs : List (Str × V), (putF f v fs).lookup g = if g = f then some v else fs.lookup g
  | [] => by
    show List.lookup g [(f, v)] = _
    by_cases h : g = f
    · have hb : (g == f) = true := beq_iff_eq.mpr h
      simp only [List.lookup, hb, if_pos h]
    · have hb : (g == f) = false := beq_eq_false_iff_ne.mpr h
      simp only [List.lookup, hb, if_neg h]
  | (k, x) :: r => by
    have ih := lookup_putF f g v r
    rw [show putF f v ((k, x) :: r) = (if k = f then (k, v) :: r else (k, x) :: putF f v r) from rfl]
    by_cases hk : k = f
    · rw [if_pos hk]
      by_cases h : g = k
      · have hb : (g == k) = true := beq_iff_eq.mpr h
        simp only [List.lookup, hb, if_pos (h.trans hk)]
      · have hb : (g == k) = false := beq_eq_false_iff_ne.mpr h
        simp only [List.lookup, hb, if_neg (fun e : g = f => h (e.trans hk.symm))]
    · rw [if_neg hk]
      by_cases h : g = k
      · have hb : (g == k) = true := beq_iff_eq.mpr h
        simp only [List.lookup, hb, if_neg (fun e : g = f => hk (h.symm.trans e))]
      · have hb : (g == k) = false := beq_eq_false_iff_ne.mpr h
        simp only [List.lookup, hb]
        exact ih
theorem keys_putF (f : Str) (v : V) : ∀ fs : List (Str × V), f ∈ (putF f v fs).map (·.1) ∧ ∀ g, g ∈ fs.map (·.1) → g ∈ (putF f v fs).map (·.1)
  | [] => ⟨by simp [putF], fun g h => by simp at h⟩
  | (k, x) :: r => by
    obtain ⟨i1, i2⟩ := keys_putF f v r
    rw [show putF f v ((k, x) :: r) = (if k = f then (k, v) :: r else (k, x) :: putF f v r) from rfl]
    by_cases hk : k = f
    · rw [if_pos hk]
      subst hk
      exact ⟨by simp, fun g h => by simpa using h⟩
    · rw [if_neg hk]
      refine ⟨?_, fun g h => ?_⟩
      · rw [List.map_cons]
        exact List.mem_cons_of_mem _ i1
      · rw [List.map_cons] at h ⊢
        rcases List.mem_cons.mp h with e | e
        · exact List.mem_cons.mpr (.inl e)
        · exact List.mem_cons_of_mem _ (i2 g e)
theorem length_putF (f : Str) (v : V) : ∀ fs : List (Str × V), (putF f v fs).length ≤ fs.length + 1
  | [] => by simp [putF]
  | (k, x) :: r => by
    have ih := length_putF f v r
    rw [show putF f v ((k, x) :: r) = (if k = f then (k, v) :: r else (k, x) :: putF f v r) from rfl]
    by_cases hk : k = f
    · rw [if_pos hk, List.length_cons, List.length_cons]; omega
    · rw [if_neg hk, List.length_cons, List.length_cons]; omega

theorem RelO.some_of {v : V} {o : Option Value} (r : RelO (some v) o) : ∃ u, o = some u ∧ RelV v u := by
  cases o with
  | none => exact (show False from r).elim
  | some u => exact ⟨u, rfl, r⟩
theorem RelO.none_of {o : Option Value} (r : RelO none o) : o = none := by
  cases o with
  | none => rfl
  | some u => exact (show False from r).elim
theorem handed_of {v : V} {u : Value} (r : RelV v u) : PySem.W.handedIn u = true := by
  cases v with
  | non => cases (show u = Value.none from r); rfl
  | bl b => cases (show u = Value.bool b from r); rfl
  | int i => obtain ⟨t, e⟩ := (show ∃ t, u = Value.int i t from r); cases e; rfl
  | str x => obtain ⟨t, e⟩ := (show ∃ t, u = Value.str x t from r); cases e; rfl
  | byt b => obtain ⟨t, e⟩ := (show ∃ t, u = Value.bytes b t from r); cases e; rfl
  | flt b => obtain ⟨t, e⟩ := (show ∃ t, u = Value.float b t from r); cases e; rfl
  | ref a => cases (show u = Value.ref a from r); rfl
  | ty n => cases (show u = Value.type n from r); rfl

section
variable {P : Program} {w : World} {H H' : Hp} {h h' : Heap} {a C dx : Addr} {fs fs' : List (Str × V)}
theorem ins_get (hok : HOk P w H h) (e : H a = some (.ins C dx fs)) : ∃ mA, ObjM h a dx C mA ∧ (∀ f, RelO (fs.lookup f) (mA f)) ∧ PySem.Within mA (fs.map (·.1)) ∧ fs.length ≤ 1000 ∧ H dx = some (.own a) := by
  obtain ⟨d, z, ne, ob, mA, n, r, q⟩ := (show ObjOk P w H h a (.ins C dx fs) from hok a _ e)
  exact ⟨mA, ⟨ob, n, ne⟩, r, q, z, d⟩
end

/-! ### what of the text a class must have -/
structure Cls (K : PySem.W.Frag) (C : Addr) : Prop where
  pg : PySem.W.plainGet K C Str.empty = true
  hd : PySem.W.hasDictIn K C = true
  po : PySem.W.plainOver K C = true
  sa : PySem.W.findIn K (.ref C) "__setattr__" = some (some (.builtin "object.__setattr__"))
theorem Cls.get {K : PySem.W.Frag} {C : Addr} (c : Cls K C) (f : Str) : PySem.W.plainGet K C f = true := c.pg
/-- no class of it has the name -/
def NoAttr (K : PySem.W.Frag) (C : Addr) (f : Str) : Prop := PySem.W.findIn K (.ref C) f = some none
theorem NoAttr.taker {K : PySem.W.Frag} {C : Addr} {f : Str} (n : NoAttr K C f) : PySem.W.takerIn K C f = some none := by
  unfold PySem.W.takerIn
  rw [show PySem.W.findIn K (.ref C) f = some none from n]
  rfl
/-- a method: a plain def of the class or of one above it -/
structure Meth (K : PySem.W.Frag) (C : Addr) (m : Str) (f : Addr) : Prop where
  at_ : PySem.W.findIn K (.ref C) m = some (some (.ref f))
  fn : PySem.W.isFn K (.ref f) = true
  kp : PySem.W.keepIn K (.ref f) = true

section
variable {X : Cx} {pins : List (Addr × Obj)} {σ : St} {H : Hp} {s : Shared} {a C dx : Addr} {fs : List (Str × V)} {f : Str} {v : V} {A : Around} {E : Value → Shared → Prop}

theorem getattr_ok {b : Bool} {Q : Value → Shared → Prop} (I : Inv X pins σ H s) (e : H a = some (.ins C dx fs)) (c : Cls X.K C) (n : NoAttr X.K C f) (l : fs.lookup f = some v)
    (h : ∀ u s', Inv X pins σ H s' → RelV v u → Q u s') : wpAny (model X.prog X.w) A (getAttr (.ref a) f b) Q E s := by
  obtain ⟨mA, O, r, _, _, _⟩ := ins_get I.hok e
  obtain ⟨u, hu, ru⟩ := RelO.some_of (v := v) (o := mA f) (by rw [← l]; exact r f)
  exact get_map I.kIn O (c.get f) c.hd n hu (handed_of ru) (h u _ (I.tok _) ru)


theorem getmeth_ok {m : Str} {g : Addr} {pl : Sem Bool} {Q : Value × List Value → Shared → Prop} (I : Inv X pins σ H s) (e : H a = some (.ins C dx fs)) (c : Cls X.K C) (k : Meth X.K C m g) (l : fs.lookup m = none)
    (h : Q (.ref g, [.ref a]) s) : wpAny (model X.prog X.w) A (getMethod (.ref a) m pl) Q E s := by
  obtain ⟨mA, O, r, _, _, _⟩ := ins_get I.hok e
  have hn : mA m = none := RelO.none_of (by rw [← l]; exact r m)
  exact get_meth I.kIn O (c.get m) k.at_ k.fn hn h

theorem setattr_ok {y : V} {u : Value} {Q : Unit → Shared → Prop} (I : Inv X pins σ H s) (e : H a = some (.ins C dx fs)) (c : Cls X.K C) (n : NoAttr X.K C f) (hl : fs.length < 1000) (ry : RelV y u)
    (h : ∀ s', Inv X pins σ (upd H a (.ins C dx (putF f y fs))) s' → Q () s') : wpAny (model X.prog X.w) A (setAttr (.ref a) f u) Q E s := by
  obtain ⟨mA, O, r, wi, _, ho⟩ := ins_get I.hok e
  have hz : (fs.map (·.1)).length ≤ sizeLine := by rw [List.length_map, sizeLine_eq]; omega
  refine set_map I.kIn O c.sa c.po n.taker c.hd wi hz fun h' O' sb => h _ ?_
  have hd : ∃ o, h'.get? dx = some o := let ⟨o, _, _, e', _⟩ := O'.ns; ⟨o, e'⟩
  refine I.write (x := a) (e := dx) (by rw [e]; exact True.intro) (.inr ho) (fun b q hb z => (sb.2 b hb).trans z) hd ?_
  refine ⟨by rw [upd_ne O.ne]; exact ho, ?_, O.ne, O'.obj, _, O'.ns, fun g => ?_, fun g hg => ?_⟩
  · have := length_putF f y fs; omega
  · show RelO ((putF f y fs).lookup g) (if g = f then some u else mA g)
    rw [lookup_putF]
    by_cases q : g = f
    · rw [if_pos q, if_pos q]; exact ry
    · rw [if_neg q, if_neg q]; exact r g
  · by_cases q : g = f
    · rw [q]; exact (keys_putF f y fs).1
    · refine (keys_putF f y fs).2 g (wi g fun z => hg ?_)
      show (if g = f then some u else mA g) = none
      rw [if_neg q]; exact z

/-- a new instance, tracked, without attributes -/
theorem Inv.made (I : Inv X pins σ H s) : Inv X pins σ (upd (upd H s.heap.objs.size (.own (s.heap.objs.size + 1))) (s.heap.objs.size + 1) (.ins C s.heap.objs.size []))
    { s with heap := (s.heap.push PySem.W.emptyDict).push (PySem.W.instObj C s.heap.objs.size) } := by
  have e1 : (s.heap.push PySem.W.emptyDict).get? s.heap.objs.size = some PySem.W.emptyDict := Heap.get?_push_size s.heap rfl
  have e2 : ((s.heap.push PySem.W.emptyDict).push (PySem.W.instObj C s.heap.objs.size)).get? (s.heap.objs.size + 1) = some (PySem.W.instObj C s.heap.objs.size) := by
    have := Heap.get?_push_size (s.heap.push PySem.W.emptyDict) (o := PySem.W.instObj C s.heap.objs.size) rfl
    rwa [Heap.size_push] at this
  have e3 : (s.heap.push PySem.W.emptyDict).Ns s.heap.objs.size (fun _ => none) := ⟨PySem.W.emptyDict, #[], _, e1, rfl, (fun e he => absurd he (by simp)), fun _ => rfl⟩
  have I1 := I.laid (a := s.heap.objs.size) (o := .own (s.heap.objs.size + 1)) (h' := s.heap.push PySem.W.emptyDict) (t' := s.toks) (fun b u q => Heap.get?_push_of_some _ q) (Nat.le_refl _) ⟨_, e1⟩
  refine I1.laid (a := s.heap.objs.size + 1) (o := .ins C s.heap.objs.size []) (t' := s.toks) (fun b u q => Heap.get?_push_of_some _ q) (Nat.le_of_eq (Heap.size_push _ _)) ?_
  have ne : s.heap.objs.size ≠ s.heap.objs.size + 1 := Nat.ne_of_lt (Nat.lt_succ_self _)
  refine ⟨by rw [upd_ne ne, upd_same], Nat.zero_le _, ne, e2, fun _ => none, (Heap.Ns1.of_empty e3).at fun o q => Heap.get?_push_of_some _ q, fun _ => True.intro, fun y hy => absurd rfl hy⟩

/-- e.f where nothing but the object is asked: through attributeBase (super) and the last hold -/
theorem attr_of {prog : Program} {w : World} {env : Env} {e : Expr} {f : Str} {pos : Pos} {s : Shared} {Q : Value → Shared → Prop} (hb : attributeBase e f env (eval e env) = eval e env)
    (h : wpAny (model prog w) A (eval e env) (fun o s₁ => wpAny (model prog w) A (getAttr o f true) Q E s₁) E s) : wpAny (model prog w) A (eval (.Attribute e f pos) env) Q E s :=
  Attribute_any_ h (by rw [arm_eval_Attribute, hb])
end

/-! ### readings and rules -/
/-- e.f, an attribute of the instance -/
def tFld (K : PySem.W.Frag) (ta : TE) (f : Str) : TE := fun σ H Q => ta σ H fun x H1 => ∃ a C dx fs v, x = .ref a ∧ H1 a = some (.ins C dx fs) ∧ Cls K C ∧ NoAttr K C f ∧ fs.lookup f = some v ∧ Q v H1
/-- e.f = value -/
def sFld (K : PySem.W.Frag) (ta tv : TE) (f : Str) : TS := fun D σ H => tv σ H fun y H1 => ta σ H1 fun x H2 => ∃ a C dx fs, x = .ref a ∧ H2 a = some (.ins C dx fs) ∧ Cls K C ∧ NoAttr K C f ∧ fs.length < 1000 ∧
  D.nx σ (upd H2 a (.ins C dx (putF f y fs)))

section
variable {X : Cx} {o e value : Expr} {f : Str} {pos pos' tpos : Pos} {ta tv : TE}
theorem pe_fld (he : PE X e ta) (hb : attributeBase e f X.env (eval e X.env) = eval e X.env) : PE X (.Attribute e f pos) (tFld X.K ta f) := by
  intro pins s σ H Q I h
  refine attr_of hb (thn (he pins s σ H _ I h) fun u s1 ⟨x, H1, I1, rx, a, C, dx, fs, v, ex, ea, c, n, l, q⟩ => ?_)
  subst ex
  obtain rfl : u = Value.ref a := rx
  exact getattr_ok I1 ea c n l fun u' s2 I2 ru => ⟨v, H1, I2, ru, q⟩
theorem ps_fld (ha : PE X o ta) (hv : PE X value tv) (hs : swapsWith value (some (.Attribute o f pos')) pos.line X.env = pure false) : PS X (.Assign [.Attribute o f pos'] value pos) (sFld X.K ta tv f) := by
  intro pins s σ H D I h
  refine plainObj_wpAny_Assign_Attribute (thn (hv pins s σ H _ I h) fun u s1 ⟨y, H1, I1, ry, q⟩ => thn (ha pins s1 σ H1 _ I1 q) fun ov s2 ⟨x, H2, I2, rx, a, C, dx, fs, ex, ea, c, n, l, q2⟩ => ?_) hs
  subst ex
  obtain rfl : ov = Value.ref a := rx
  exact setattr_ok I2 ea c n l ry fun s3 I3 => ⟨σ, _, I3, q2⟩

/-- what is between an instance and its method: the tree of a method call -/
theorem methcall_of {pl : Sem Bool} {m : Str} {apos : Pos} {args : List Expr} {pins : List (Addr × Obj)} {s : Shared} {σ : St} {H : Hp} {Q : Value → Shared → Prop} {te : TE} (he : PE X e te) (I : Inv X pins σ H s)
    (h : te σ H fun x H1 => ∃ a C dx fs g, x = .ref a ∧ H1 a = some (.ins C dx fs) ∧ Cls X.K C ∧ Meth X.K C m g ∧ fs.lookup m = none ∧
      ∀ s1, Inv X pins σ H1 s1 → wpAny (model X.prog X.w) X.A (callWith pos (.ref g) [.ref a] (backTo pos (starEach args X.env)) (backToKw pos (keywordEach [] X.env))) Q X.xe s1)
    (ht : eval (.Call (.Attribute e m apos) args [] pos) X.env = (do
      let ov ← eval e X.env
      standAt apos.atName
      let (f, first) ← holding [ov] (getMethod ov m pl)
      callWith pos f first (backTo pos (starEach args X.env)) (backToKw pos (keywordEach [] X.env)))) :
    wpAny (model X.prog X.w) X.A (eval (.Call (.Attribute e m apos) args [] pos) X.env) Q X.xe s := by
  refine PySem.W.methodCall_KW (pl := pl) (thn (he pins s σ H _ I h) fun u s1 ⟨x, H1, I1, rx, a, C, dx, fs, g, ex, ea, c, k, l, q⟩ => ?_) ht
  subst ex
  obtain rfl : u = Value.ref a := rx
  exact getmeth_ok I1 ea c k l (q s1 I1)
end

/-! ### isinstance -/
section
variable {X : Cx} {pins : List (Addr × Obj)} {σ : St} {H : Hp} {s : Shared} {A : Around} {E : Value → Shared → Prop} {Q : Value → Shared → Prop} {c : Value} {b : Bool}
/-- the type of a value, as the fragment's deciders take it; for an instance its class -/
inductive TyOf (K : PySem.W.Frag) (H : Hp) : V → Value → Prop where
  | non : TyOf K H .non (.type "NoneType")
  | bl (x : Bool) : TyOf K H (.bl x) (.type "bool")
  | int (i : Int) : TyOf K H (.int i) (.type "int")
  | str (x : Str) : TyOf K H (.str x) (.type "str")
  | flt (x : UInt64) : TyOf K H (.flt x) (.type "float")
  | lst {a : Addr} {xs : List V} (e : H a = some (.lst xs)) : TyOf K H (.ref a) (.type "list")
  | frz {a : Addr} {o : Obj} {xs : List V} (e : H a = some (.frz o (.lst xs))) : TyOf K H (.ref a) (.type "list")
  | tup {a : Addr} {xs : List V} (e : H a = some (.tup xs)) : TyOf K H (.ref a) (.type "tuple")
  | dK {a : Addr} {kvs : List (Key × V)} (e : H a = some (.dK kvs)) : TyOf K H (.ref a) (.type "dict")
  | dT {a : Addr} {kvs : List (List Key × V)} (e : H a = some (.dT kvs)) : TyOf K H (.ref a) (.type "dict")
  | ins {a C dx : Addr} {fs : List (Str × V)} (e : H a = some (.ins C dx fs)) (cl : Cls K C) (ha : PySem.W.findIn K (.ref C) "__class__" = some (some (.builtin "object.__class__")))
      (hn : PySem.W.specialIn K (.builtin "object.__class__") "__get__" = some (some (.builtin "getset_descriptor.__get__"))) (htk : PySem.W.takesIn K (.builtin "object.__class__") = some true)
      (hm : PySem.W.mroIn K C (.type "object") = some true) : TyOf K H (.ref a) (.ref C)
/-- isinstance(x, c) for one class c, a built-in or an own one: kitOne's answer -/
theorem isinst_ok {x : V} {u t : Value} (I : Inv X pins σ H s) (rx : RelV x u) (ty : TyOf X.K H x t) (e : PySem.W.kitOne X.K t c = some b) (h : ∀ tk, Q (.bool b) { s with toks := tk }) :
    wpAny (model X.prog X.w) A (call (.builtin "isinstance") [u, c]) Q E s := by
  cases ty with
  | non => cases (show u = Value.none from rx); exact PySem.W.kia_one PySem.W.kitx_none I.kIn True.intro e (fun z => nomatch z) h
  | bl y => cases (show u = Value.bool y from rx); exact PySem.W.kia_one PySem.W.kitx_bool I.kIn True.intro e (fun z => nomatch z) h
  | int i => obtain ⟨t, q⟩ := (show ∃ t, u = Value.int i t from rx); cases q; exact PySem.W.kia_one PySem.W.kitx_int I.kIn True.intro e (fun z => nomatch z) h
  | str y => obtain ⟨t, q⟩ := (show ∃ t, u = Value.str y t from rx); cases q; exact PySem.W.kia_one PySem.W.kitx_str I.kIn True.intro e (fun z => nomatch z) h
  | flt y => obtain ⟨t, q⟩ := (show ∃ t, u = Value.float y t from rx); cases q; exact PySem.W.kia_one PySem.W.kitx_float I.kIn True.intro e (fun z => nomatch z) h
  | @lst a xs ea =>
    cases (show u = Value.ref a from rx)
    obtain ⟨_, _, n, _, h1⟩ := (show ObjOk X.prog X.w H s.heap a (.lst xs) from I.hok a _ ea)
    exact PySem.W.kia_one PySem.W.kitx_list I.kIn ⟨_, h1, rfl⟩ e (fun z => nomatch z) h
  | @frz a ob xs ea =>
    cases (show u = Value.ref a from rx)
    obtain ⟨_, _, _, n, _, h1⟩ := (show ObjOk X.prog X.w H s.heap a (.frz ob (.lst xs)) from I.hok a _ ea)
    exact PySem.W.kia_one PySem.W.kitx_list I.kIn ⟨_, h1, rfl⟩ e (fun z => nomatch z) h
  | @tup a xs ea =>
    cases (show u = Value.ref a from rx)
    obtain ⟨_, _, _, p⟩ := (show ObjOk X.prog X.w H s.heap a (.tup xs) from I.hok a _ ea)
    obtain ⟨o, h1, h2, _⟩ := p
    exact PySem.W.kia_one PySem.W.kitx_tuple I.kIn ⟨o, h1, h2⟩ e (fun z => nomatch z) h
  | @dK a kvs ea =>
    cases (show u = Value.ref a from rx)
    obtain ⟨_, _, vs, _, p⟩ := (show ObjOk X.prog X.w H s.heap a (.dK kvs) from I.hok a _ ea)
    obtain ⟨o, es, ep, h1, h2, _⟩ := p
    exact PySem.W.kia_one PySem.W.kitx_dict I.kIn ⟨o, h1, h2.1⟩ e (fun z => nomatch z) h
  | @dT a kvs ea =>
    cases (show u = Value.ref a from rx)
    obtain ⟨_, _, xs, _, o, es, ep, h1, h2, _⟩ := (show ObjOk X.prog X.w H s.heap a (.dT kvs) from I.hok a _ ea)
    exact PySem.W.kia_one PySem.W.kitx_dict I.kIn ⟨o, h1, h2.1⟩ e (fun z => nomatch z) h
  | @ins a C dx fs ea cl ha hn htk hm =>
    cases (show u = Value.ref a from rx)
    obtain ⟨mA, O, _⟩ := ins_get I.hok ea
    obtain ⟨od, J, _⟩ := O.look
    exact PySem.W.kia_one (PySem.W.kitx_own (cl.get _) cl.hd ha hn htk hm) I.kIn J e (fun z => nomatch z) h
end
end L2

namespace L2
open PySem PySem.Spec PyProof.Rows

/-! ### room -/
structure Room (k : Nat) (A : Around) : Prop where
  hd : A.handled = none
  dp : A.depth + 3 * k + 5 < recursionLimit
  un : A.units + 16 * k + 200 < cLine
theorem Room.mono {j k : Nat} {A : Around} (r : Room k A) (h : j ≤ k) : Room j A := ⟨r.hd, by have := r.dp; omega, by have := r.un; omega⟩
theorem Room.deeper {k : Nat} {A : Around} (r : Room (k + 1) A) (env : Env) : Room k (A.deeper env) :=
  ⟨r.hd, by have := r.dp; show A.depth + 1 + 3 * k + 5 < _; omega, by have := r.un; show A.units + 3 + 16 * k + 200 < _; omega⟩
theorem make_depth {A : Around} {C : Addr} {us : List Value} {kw : List (Str × Value)} : (A.under (.builtin "type.__call__" ⟨.ref C :: us, kw⟩)).depth = A.depth + 1 := by
  first | rfl | simp [Around.under, Code.weight, Code.isCreation, Code.isGuard, Code.isCaller, Code.frames, Code.isFrame, guardIds]
theorem make_units {A : Around} {C : Addr} {us : List Value} {kw : List (Str × Value)} : (A.under (.builtin "type.__call__" ⟨.ref C :: us, kw⟩)).units = A.units + 1 := by
  first | rfl | simp [Around.under, Code.cUnits, Code.frames, Code.isFrame]
theorem Room.make {k : Nat} {A : Around} (r : Room (k + 1) A) (C : Addr) (us : List Value) (kw : List (Str × Value)) : Room k (A.under (.builtin "type.__call__" ⟨.ref C :: us, kw⟩)) :=
  ⟨r.hd, by have := r.dp; rw [make_depth]; omega, by have := r.un; rw [make_units]; omega⟩
theorem Room.depth {k : Nat} {A : Around} (r : Room k A) : A.depth < recursionLimit := by have := r.dp; omega
theorem Room.units {k : Nat} {A : Around} (r : Room k A) : A.units + 64 < cLine := by have := r.un; omega

/-! ### argument lists and displays -/
def tNil : TA := fun _ H Q => Q [] H
def tCons (ta : TE) (tr : TA) : TA := fun σ H Q => ta σ H fun x H1 => tr σ H1 fun xs H2 => Q (x :: xs) H2
section
variable {X : Cx} {e : Expr} {es : List Expr} {te : TE} {t : TA} {pos : Pos}
theorem pa_nil : PA X [] tNil := fun _ _ _ _ H Q I h => Calls.spliced_nil ⟨[], H, I, .nil, h⟩
theorem pa_cons (ha : PE X e te) (hr : PA X es t) (hs : starEach (e :: es) X.env = (false, eval e X.env) :: starEach es X.env := by rfl) : PA X (e :: es) (tCons te t) := by
  intro pos pins s σ H Q I h
  rw [hs]
  show wpAny _ _ (spliced ((false, eval e X.env) :: backTo pos (starEach es X.env))) _ _ s
  refine Calls.spliced_cons (thn (ha pins s σ H _ I h) fun u s1 ⟨x, H1, I1, r1, q1⟩ => ?_)
  exact thn (hr pos pins s1 σ H1 _ I1 q1) fun us s2 ⟨xs, H2, I2, r2, q2⟩ => ⟨x :: xs, H2, I2, .cons r1 r2, q2⟩

/-- a tuple, a list of written items -/
def tTup (t : TA) : TE := fun σ H Q => t σ H fun xs H1 => xs.length ≤ sizeLine ∧ ∀ p, H1 p = none → Q (.ref p) (upd H1 p (.tup xs))
def tLst (t : TA) : TE := fun σ H Q => t σ H fun xs H1 => xs.length ≤ sizeLine ∧ ∀ p, H1 p = none → Q (.ref p) (upd H1 p (.lst xs))
theorem pe_tup {x1} (h : PA X es t) : PE X (.Tuple es x1 pos) (tTup t) := by
  intro pins s σ H Q I hq
  refine wpAny_Tuple_spliced (thn (h pos pins s σ H _ I hq) fun us s1 ⟨xs, H1, I1, r, z, q⟩ => ⟨by rw [← r.length]; exact z, ?_⟩)
  have hf : H1 s1.heap.objs.size = none := I1.hok.fresh (Nat.le_refl _)
  refine ⟨.ref s1.heap.objs.size, upd H1 s1.heap.objs.size (.tup xs), I1.laid (t' := s1.toks) (fun b u e => Heap.get?_push_of_some _ e) (Nat.le_refl _) ?_, rfl, q _ hf⟩
  exact ⟨z, us, r, ⟨_, Heap.get?_push_size _ rfl, rfl, _, rfl⟩⟩
theorem pe_lst (h : PA X es t) : PE X (.List es pos) (tLst t) := by
  intro pins s σ H Q I hq
  refine wpAny_List_spliced (thn (h pos pins s σ H _ I hq) fun us s1 ⟨xs, H1, I1, r, z, q⟩ => ⟨by rw [← r.length]; exact z, ?_⟩)
  have hf : H1 s1.heap.objs.size = none := I1.hok.fresh (Nat.le_refl _)
  refine ⟨.ref s1.heap.objs.size, upd H1 s1.heap.objs.size (.lst xs), I1.laid (t' := s1.toks) (fun b u e => Heap.get?_push_of_some _ e) (Nat.le_refl _) ?_, rfl, q _ hf⟩
  exact ⟨z, us, 0, r, Heap.get?_push_size _ rfl⟩
end

/-! ### what a def promises -/
/-- a def's promise: the bound arguments in the parameters' order, the heap, the wanted end, the wanted exception -/
abbrev Sp := List V → Hp → VK → XK → Prop
/-- how an exception lies behind a call (file 08 gives it): the callers' frames, abstract heap and state ahead of the call, the wish, the exception, the state -/
abbrev CXT := List Env → Hp → Shared → XK → Value → Shared → Prop

/-- the state at a call -/
structure Env0 (P : Program) (w : World) (K : PySem.W.Frag) (mg : Str → Option Value) (base : Heap) (A : Around) (outer : List Env) (s : Shared) (H : Hp) : Prop where
  frames : A.frames = some outer
  mod : Mod K mg base
  bs : ∀ b o, base.get? b = some o → s.heap.get? b = some o ∧ H b = none
  bsz : base.objs.size ≤ s.heap.objs.size
  funs : s.heap.FunFrames base outer
  frf : ∀ b ∈ frs outer, H b = none
  hok : HOk P w H s.heap
  bare : AllBare s.gens
/-- a call's end -/
def CE (outer : List Env) (P : Program) (w : World) (H : Hp) (s : Shared) (Q : VK) (u : Value) (s' : Shared) : Prop :=
  ∃ v H', s'.os = s.os ∧ AllBare s'.gens ∧ Un (frs outer) [] H H' s.heap s'.heap ∧ HOk P w H' s'.heap ∧ RelV v u ∧ Q v H'
def CR (CX : CXT) (outer : List Env) (P : Program) (w : World) (H : Hp) (s : Shared) (Q : VK) (E : XK) (r : Result) (s' : Shared) : Prop :=
  match r with
  | .ok (.ret u) => CE outer P w H s Q u s'
  | .ok _ => False
  | .error e => CX outer H s E e s'
structure FnOk (P : Program) (w : World) (K : PySem.W.Frag) (mg : Str → Option Value) (base : Heap) (CX : CXT) (k : Nat) (f : Addr) (fd : FuncData) (ps : List Str) (sp : Sp) : Prop where
  len : ∀ vs H Q E, sp vs H Q E → vs.length = ps.length
  run : ∀ (A : Around) (outer : List Env) (s : Shared) (H : Hp) (args : Args) (us : List Value) (vs : List V) (Q : VK) (E : XK), Room k A → Env0 P w K mg base A outer s H → BindsTo s fd args (ps.zip us) → Vals vs us → sp vs H Q E →
    codeAny (model P w) A (.call (.ref f) args) (CR CX outer P w H s Q E) s

theorem Env0.make {P : Program} {w : World} {K : PySem.W.Frag} {mg : Str → Option Value} {base : Heap} {A : Around} {outer : List Env} {s : Shared} {H : Hp} (e : Env0 P w K mg base A outer s H) (C : Addr) (us : List Value) (kw : List (Str × Value)) :
    Env0 P w K mg base (A.under (.builtin "type.__call__" ⟨.ref C :: us, kw⟩)) outer s H := ⟨by first | exact e.frames | (simpa [Around.under, Code.envs, Code.isFrame, pushEnvs] using e.frames), e.mod, e.bs, e.bsz, e.funs, e.frf, e.hok, e.bare⟩

section
variable {X : Cx} {pins : List (Addr × Obj)} {σ : St} {H : Hp} {s s' : Shared}
/-- from a body: what a callee wants -/
theorem Inv.env0 (I : Inv X pins σ H s) : Env0 X.prog X.w X.K X.mg X.base X.A X.stack s H :=
  ⟨I.ok.frames, I.ok.mod, I.bs, Nat.le_trans I.ok.bsz I.sz, I.stack, I.stkFree, I.hok, I.bare⟩
/-- behind a call -/
theorem Inv.after {Q : VK} {u : Value} (I : Inv X pins σ H s) (h : CE X.stack X.prog X.w H s Q u s') : EP X pins σ Q u s' := by
  obtain ⟨v, H', os, bare, un, hok, r, q⟩ := h
  obtain ⟨hh, g, d, t, os'⟩ := s'
  obtain rfl : os' = s.os := os
  exact ⟨v, H', I.call (h' := hh) (g' := g) (d' := d) (t' := t) (ch := []) un hok bare (fun b z => absurd z (by simp)), r, q⟩
end

/-! ### calls -/
/-- f(..): the written arguments, then the defaults dvs; E: what is wanted of an exception -/
def tCall (sp : Sp) (dvs : List V) (E : XK) (t : TA) : TE := fun σ H Q => t σ H fun vs H1 => sp (vs ++ dvs) H1 Q E
/-- o.m(..) of an instance of the class at C -/
def tMeth (C : Addr) (m : Str) (sp : Sp) (dvs : List V) (E : XK) (ta : TE) (t : TA) : TE := fun σ H Q => ta σ H fun x H1 => ∃ a dx fs, x = .ref a ∧ H1 a = some (.ins C dx fs) ∧ fs.lookup m = none ∧
  t σ H1 fun vs H2 => sp (x :: (vs ++ dvs)) H2 Q E
/-- C(..): a new instance and its dict, then __init__ -/
def tMake (C : Addr) (sp : Sp) (dvs : List V) (E : XK) (t : TA) : TE := fun σ H Q => t σ H fun vs H1 => ∀ x dx, H1 x = none → H1 dx = none → dx ≠ x →
  sp (.ref x :: (vs ++ dvs)) (upd (upd H1 dx (.own x)) x (.ins C dx [])) (fun v H2 => v = .non ∧ Q (.ref x) H2) E

/-- how the parameters are bound: us the positional arguments, kw the keywords' values by name, ds the defaults that fill up -/
def Binds (K : PySem.W.Frag) (fd : FuncData) (ps : List Str) (ds : List Value) : Prop :=
  ∀ (s : Shared) (us : List Value), K.In s.heap → (us ++ ds).length = ps.length → BindsTo s fd ⟨us, []⟩ (ps.zip (us ++ ds))
/-- every parameter is given -/
theorem Binds.all {K : PySem.W.Frag} {fd : FuncData} {ps : List Str} (h : ∀ us : List Value, us.length = ps.length → bindArgs fd ⟨us, []⟩ = pure (ps.zip us)) : Binds K fd ps [] := fun s us _ hl => by
  rw [List.append_nil] at hl ⊢
  exact .of_eq (h us hl)

/-- an exception of a callee reaches what this body wants of exceptions -/
def Passes (CX : CXT) (X : Cx) (E : XK) : Prop := ∀ (pins : List (Addr × Obj)) (σ : St) (H : Hp) (s : Shared) (e : Value) (s' : Shared), Inv X pins σ H s → CX X.stack H s E e s' → X.xe e s'

section
variable {X : Cx} {CX : CXT} {k : Nat} {f C : Addr} {fd : FuncData} {ps : List Str} {sp : Sp} {dvs : List V} {ds : List Value} {E : XK} {x m : Str} {p pos apos : Pos} {e o : Expr} {es : List Expr} {ta : TE} {t : TA}

/-- the callee runs -/
theorem run_fn {pins : List (Addr × Obj)} {σ : St} {H : Hp} {s : Shared} {Q : VK} {us : List Value} {vs : List V} (F : FnOk X.prog X.w X.K X.mg X.base CX k f fd ps sp) (hr : Room k X.A) (hb : Binds X.K fd ps ds) (hd : Vals dvs ds) (hx : Passes CX X E)
    (I : Inv X pins σ H s) (r : Vals vs us) (h : sp (vs ++ dvs) H Q E) : wpAny (model X.prog X.w) X.A (call (.ref f) us) (EP X pins σ Q) X.xe s := by
  have r2 : Vals (vs ++ dvs) (us ++ ds) := r.append hd
  have hl : (us ++ ds).length = ps.length := by rw [← r2.length]; exact F.len _ _ _ _ h
  refine wpAny_call (codeAny_mono (F.run X.A X.stack s H ⟨us, []⟩ (us ++ ds) (vs ++ dvs) Q E hr I.env0 (hb s us I.kIn hl) r2 h) fun r s' hq => ?_)
  cases r with
  | error e => exact hx pins σ H s e s' I hq
  | ok fl =>
    cases fl with
    | ret u => exact I.after hq
    | next => exact False.elim hq
    | brk => exact False.elim hq
    | cont => exact False.elim hq

theorem pe_call (F : FnOk X.prog X.w X.K X.mg X.base CX k f fd ps sp) (hr : Room k X.A) (hg : Gl X x) (hm : X.mg x = some (.ref f)) (hk : PySem.W.keepIn X.K (.ref f) = true) (hb : Binds X.K fd ps ds) (hd : Vals dvs ds) (hx : Passes CX X E)
    (ha : PA X (e :: es) t) (hdb : (x == ("__debug__" : Str)) = false := by decide) (he : starEach (e :: es) X.env = (false, eval e X.env) :: starEach es X.env := by rfl) (hpl : (backTo pos (starEach es X.env)).any (·.1) = false := by rfl) :
    PE X (.Call (.Name x p) (e :: es) [] pos) (tCall sp dvs E t) := by
  intro pins s σ H Q I h
  refine wpAny_Call_Name_kw (ld_glob I hg hm ?_ hdb)
  refine PySem.W.callWith_K (h₀ := X.base) I.ok.mod.kin hk (thn (ha pos pins s σ H _ I h) fun us s1 ⟨vs, H1, I1, r, q⟩ => ⟨I1.kIn, ?_⟩) he hpl
  exact run_fn F hr hb hd hx I1 r q

/-- o.m(e, ..) -/
theorem pe_meth {pl : Sem Bool} (he : PE X o ta) (c : Cls X.K C) (hm : Meth X.K C m f) (F : FnOk X.prog X.w X.K X.mg X.base CX k f fd ps sp) (hr : Room k X.A) (hb : Binds X.K fd ps ds) (hd : Vals dvs ds) (hx : Passes CX X E) (ha : PA X (e :: es) t)
    (hst : starEach (e :: es) X.env = (false, eval e X.env) :: starEach es X.env := by rfl) (hpl : (backTo pos (starEach es X.env)).any (·.1) = false := by rfl)
    (ht : eval (.Call (.Attribute o m apos) (e :: es) [] pos) X.env = (do
      let ov ← eval o X.env
      standAt apos.atName
      let (f, first) ← holding [ov] (getMethod ov m pl)
      callWith pos f first (backTo pos (starEach (e :: es) X.env)) (backToKw pos (keywordEach [] X.env))) := by rfl) :
    PE X (.Call (.Attribute o m apos) (e :: es) [] pos) (tMeth C m sp dvs E ta t) := by
  intro pins s σ H Q I h
  refine PySem.W.methodCall_KW (pl := pl) (thn (he pins s σ H _ I h) fun u s1 ⟨x, H1, I1, rx, a, dx, fs, ex, ea, l, q⟩ => ?_) ht
  subst ex
  obtain rfl : u = Value.ref a := rx
  refine getmeth_ok I1 ea c hm l ?_
  refine PySem.W.callWith_K (first := [.ref a]) (h₀ := X.base) I.ok.mod.kin hm.kp (thn (ha pos pins s1 σ H1 _ I1 q) fun us s2 ⟨vs, H2, I2, r, q2⟩ => ⟨I2.kIn, ?_⟩) hst hpl
  exact run_fn (us := .ref a :: us) (vs := .ref a :: vs) F hr hb hd hx I2 (.cons rfl r) q2

/-- what a class must have to be made -/
structure Mk (K : PySem.W.Frag) (C f : Addr) : Prop where
  makes : PySem.W.makesIn K C = true
  init : PySem.W.findIn K (.ref C) "__init__" = some (some (.ref f))
  fn : PySem.W.isFn K (.ref f) = true
  kp : PySem.W.keepIn K (.ref C) = true

theorem run_make {pins : List (Addr × Obj)} {σ : St} {H : Hp} {s : Shared} {Q : VK} {us : List Value} {vs : List V} (M : Mk X.K C f) (F : FnOk X.prog X.w X.K X.mg X.base CX k f fd ps sp) (hr : Room (k + 1) X.A) (hb : Binds X.K fd ps ds) (hd : Vals dvs ds)
    (hx : Passes CX X E) (I : Inv X pins σ H s) (r : Vals vs us)
    (h : ∀ x dx, H x = none → H dx = none → dx ≠ x → sp (.ref x :: (vs ++ dvs)) (upd (upd H dx (.own x)) x (.ins C dx [])) (fun v H2 => v = .non ∧ Q (.ref x) H2) E) :
    wpAny (model X.prog X.w) X.A (call (.ref C) us) (EP X pins σ Q) X.xe s := by
  have hq := h (s.heap.objs.size + 1) s.heap.objs.size (I.hok.fresh (Nat.le_succ _)) (I.hok.fresh (Nat.le_refl _)) (Nat.ne_of_lt (Nat.lt_succ_self _))
  have I2 := Inv.made (C := C) I
  have r2 : Vals (V.ref (s.heap.objs.size + 1) :: (vs ++ dvs)) (Value.ref (s.heap.objs.size + 1) :: (us ++ ds)) := .cons rfl (r.append hd)
  have hl : (Value.ref (s.heap.objs.size + 1) :: us ++ ds).length = ps.length := by
    have e := r2.length
    rw [F.len _ _ _ _ hq] at e
    exact e.symm
  refine wpAny_call (make_map (f := f) I.kIn M.makes M.init (beq_iff_eq.mp M.fn) (codeAny_mono (F.run _ X.stack _ _ ⟨Value.ref (s.heap.objs.size + 1) :: us, []⟩ (Value.ref (s.heap.objs.size + 1) :: (us ++ ds)) _ _ E (hr.make C us [])
    (I2.env0.make C us []) (hb _ (Value.ref (s.heap.objs.size + 1) :: us) I2.kIn hl) r2 hq) fun r s' hq' => ?_))
  cases r with
  | error e => exact hx pins σ _ _ e s' I2 hq'
  | ok fl =>
    cases fl with
    | ret u =>
      obtain ⟨v, H', I3, rv, ev, q3⟩ := I2.after hq'
      subst ev
      exact ⟨rv, ⟨V.ref (s.heap.objs.size + 1), H', I3, rfl, q3⟩⟩
    | next => exact False.elim hq'
    | brk => exact False.elim hq'
    | cont => exact False.elim hq'
theorem pe_make (M : Mk X.K C f) (F : FnOk X.prog X.w X.K X.mg X.base CX k f fd ps sp) (hr : Room (k + 1) X.A) (hg : Gl X x) (hm : X.mg x = some (.ref C)) (hb : Binds X.K fd ps ds) (hd : Vals dvs ds) (hx : Passes CX X E)
    (ha : PA X (e :: es) t) (hdb : (x == ("__debug__" : Str)) = false := by decide) (he : starEach (e :: es) X.env = (false, eval e X.env) :: starEach es X.env := by rfl) (hpl : (backTo pos (starEach es X.env)).any (·.1) = false := by rfl) :
    PE X (.Call (.Name x p) (e :: es) [] pos) (tMake C sp dvs E t) := by
  intro pins s σ H Q I h
  refine wpAny_Call_Name_kw (ld_glob I hg hm ?_ hdb)
  refine PySem.W.callWith_K (h₀ := X.base) I.ok.mod.kin M.kp (thn (ha pos pins s σ H _ I h) fun us s1 ⟨vs, H1, I1, r, q⟩ => ⟨I1.kIn, ?_⟩) he hpl
  exact run_make M F hr hb hd hx I1 r q
end

/-! ### keywords -/
section
variable {X : Cx} {CX : CXT} {k : Nat} {f C : Addr} {fd : FuncData} {ps ks : List Str} {sp : Sp} {E : XK} {x m : Str} {p pos apos kpos : Pos} {e o : Expr} {es : List Expr} {kws : List Keyword} {te ta : TE} {t tk : TA} {nm : Option Str}

variable {g : List Value → List Value → List Value} {gV : List V → List V → List V}
end

/-! ### a def's body keeps its promise -/
/-- names: the parameters first -/
structure FnScope (N P : List Str) (sc : Scope) : Prop where
  kind : sc.kind = .function
  co : sc.isCoroutine = false
  gen : sc.isGenerator = false
  nd : N.Nodup
  pre : N.take P.length = P
  par : ∀ x ∈ P, sc.names.lookup x = some .local ∨ sc.names.lookup x = some .cell
  nofree : ∀ y ∈ sc.names, y.2 ≠ .free

theorem bindL_out {kindOf : Str → Option NameKind} {x : Str} : ∀ {binds : List (Str × Value)} {m : Str → Option Value}, (∀ v, (x, v) ∉ binds) → bindL kindOf binds m x = m x
  | [], _, _ => rfl
  | (n, v) :: r, m, h => by
    unfold bindL
    rw [bindL_out fun w hw => h w (List.mem_cons_of_mem _ hw)]
    split
    · have : x ≠ n := by rintro rfl; exact h v List.mem_cons_self
      simp [this]
    · rfl
theorem bindC_out {kindOf : Str → Option NameKind} {x : Str} : ∀ {binds : List (Str × Value)} {m : Str → Option Value}, (∀ v, (x, v) ∉ binds) → bindC kindOf binds m x = m x
  | [], _, _ => rfl
  | (n, v) :: r, m, h => by
    unfold bindC
    rw [bindC_out fun w hw => h w (List.mem_cons_of_mem _ hw)]
    split
    · rfl
    · have : x ≠ n := by rintro rfl; exact h v List.mem_cons_self
      simp [this]
theorem bindL_get {kindOf : Str → Option NameKind} {x : Str} {v : Value} : ∀ {P : List Str} {vs : List Value} {i : Nat} {m : Str → Option Value}, P.Nodup → P[i]? = some x → vs[i]? = some v → kindOf x = some .local →
    bindL kindOf (P.zip vs) m x = some v
  | [], _, _, _, _, h, _, _ => by simp at h
  | _ :: _, [], _, _, _, _, h, _ => by simp at h
  | p :: P, w :: vs, 0, m, nd, h1, h2, hk => by
    simp at h1 h2; subst h1; subst h2
    show bindL kindOf ((p, w) :: P.zip vs) m p = _
    unfold bindL
    rw [bindL_out fun v hv => (List.nodup_cons.mp nd).1 (List.of_mem_zip hv).1, if_pos hk]
    simp
  | p :: P, w :: vs, i + 1, m, nd, h1, h2, hk => by
    show bindL kindOf ((p, w) :: P.zip vs) m x = _
    unfold bindL
    exact bindL_get (i := i) (List.nodup_cons.mp nd).2 (by simpa using h1) (by simpa using h2) hk
theorem bindC_get {kindOf : Str → Option NameKind} {x : Str} {v : Value} : ∀ {P : List Str} {vs : List Value} {i : Nat} {m : Str → Option Value}, P.Nodup → P[i]? = some x → vs[i]? = some v → kindOf x ≠ some .local →
    bindC kindOf (P.zip vs) m x = some v
  | [], _, _, _, _, h, _, _ => by simp at h
  | _ :: _, [], _, _, _, _, h, _ => by simp at h
  | p :: P, w :: vs, 0, m, nd, h1, h2, hk => by
    simp at h1 h2; subst h1; subst h2
    show bindC kindOf ((p, w) :: P.zip vs) m p = _
    unfold bindC
    rw [bindC_out fun v hv => (List.nodup_cons.mp nd).1 (List.of_mem_zip hv).1, if_neg hk]
    simp
  | p :: P, w :: vs, i + 1, m, nd, h1, h2, hk => by
    show bindC kindOf ((p, w) :: P.zip vs) m x = _
    unfold bindC
    exact bindC_get (i := i) (List.nodup_cons.mp nd).2 (by simpa using h1) (by simpa using h2) hk

/-- the names' values at the entry -/
def start (N : List Str) (vs : List V) : St := vs.map some ++ List.replicate (N.length - vs.length) none

/-- the context of a def's body, at its entry; an exception leaves the frame, then lies as CX says -/
def cxOf (CX : CXT) (P : Program) (w : World) (K : PySem.W.Frag) (mg : Str → Option Value) (base : Heap) (N : List Str) (qual : Str) (scope : Scope) (f : Addr) (cd : Value) (A : Around) (outer : List Env) (s : Shared) (H : Hp) (E : XK) : Cx where
  prog := P
  w := w
  K := K
  mg := mg
  base := base
  A := A.deeper (envOfC qual scope s.heap.objs.size f cd)
  N := N
  s₀ := s
  H₀ := H
  env := envOfC qual scope s.heap.objs.size f cd
  outer := outer
  stack := envOfC qual scope s.heap.objs.size f cd :: outer
  ex := []
  calm := true
  fn := fun _ => true
  pn := []
  xe := fun e s' => wpAny (model P w) (A.deeper (envOfC qual scope s.heap.objs.size f cd)) (leaving (envOfC qual scope s.heap.objs.size f cd) e) (fun _ s'' => CX outer H s E e s'') (fun e' s'' => CX outer H s E e' s'') s'

theorem cell_has {sc : Scope} {n : Nat} {x : Str} (h : sc.names.lookup x = some .cell) : ∃ c, (cellsFrom n sc.names []).lookup x = some c := by
  have q := PySem.W.cellsFrom_some sc.names n [] (.inl h)
  exact Option.isSome_iff_exists.mp q

theorem inv_start {CX : CXT} {P : Program} {w : World} {K : PySem.W.Frag} {mg : Str → Option Value} {base : Heap} {N ps : List Str} {qual : Str} {scope : Scope} {f : Addr} {cd : Value} {A : Around} {outer : List Env} {s s1 : Shared} {H : Hp} {E : XK} {us : List Value} {vs : List V}
    (S : FnScope N ps scope) (hd : A.handled = none) (e0 : Env0 P w K mg base A outer s H) (hl : vs.length = ps.length) (r : Vals vs us)
    (x : InCallC s s.heap.objs.size (bindL (envOfC qual scope s.heap.objs.size f cd).kindOf (ps.zip us) fun _ => none) (cellsFrom (s.heap.objs.size + 1) scope.names []) (bindC (envOfC qual scope s.heap.objs.size f cd).kindOf (ps.zip us) fun _ => none) s1) :
    Inv (cxOf CX P w K mg base N qual scope f cd A outer s H E) [] (start N vs) H s1 := by
  have hpl : ps.length ≤ N.length := by have := congrArg List.length S.pre; rw [List.length_take] at this; omega
  obtain ⟨h1, tk, rfl, hk⟩ := x.done
  have noA : ∀ b : Addr, b ∉ (cxOf CX P w K mg base N qual scope f cd A outer s H E).ex := fun b z => absurd (show b ∈ ([] : List Addr) from z) (by simp)
  refine ⟨⟨e0.mod, S.kind, rfl, rfl, Nat.le_refl _, fun y z c h1 h2 => ?_, fun y hy => ?_, fun y c _ h => ?_, fun _ => hd, Around.frames_deeper e0.frames, .inr ⟨rfl, rfl⟩, fun b z => absurd z (noA b), e0.bs, e0.bsz, fun b _ _ => noA b, fun b z => absurd z (noA b), e0.funs, e0.frf⟩,
    rfl, e0.bare, Un.kept hk, ⟨_, x.toInCall.ns, fun i y v h1 h2 h3 => ?_⟩, fun y c h => ⟨_, x.cell y c h⟩, e0.hok.fresh (Nat.le_refl _), fun y c h => ?_, fun p hp => absurd (show p ∈ ([] : List (Addr × Obj)) from hp) (by simp), e0.hok.kept hk, ?_⟩
  · exact name_of_addr x.apart (PySem.mem_of_lookup h1) (PySem.mem_of_lookup h2)
  · have hy : scope.names.lookup y = some .cell ∨ scope.names.lookup y = some .free := hy
    rcases hy with hy | hy
    · exact cell_has hy
    · exact absurd rfl (S.nofree _ (PySem.mem_of_lookup hy))
  · exact Nat.le_of_lt (x.above y c (PySem.mem_of_lookup h))
  · have hi : i < vs.length := by
      unfold start at h2
      by_cases hi : i < vs.length
      · exact hi
      · rw [List.getElem?_append_right (by simpa using hi)] at h2
        rw [List.getElem?_replicate] at h2
        split at h2 <;> cases h2
    have ha : vs[i]? = some v := by
      unfold start at h2
      rw [List.getElem?_append_left (by simpa using hi), List.getElem?_map] at h2
      cases e : vs[i]? with
      | none => rw [e] at h2; cases h2
      | some a => rw [e] at h2; cases h2; rfl
    obtain ⟨u, hu, rv⟩ := r.get ha
    have hp : ps[i]? = some y := by
      rw [← S.pre, List.getElem?_take_of_lt (by omega)]; exact h1
    have ndP : ps.Nodup := by rw [← S.pre]; exact S.nd.sublist (List.take_sublist _ _)
    refine ⟨u, rv, ?_⟩
    rcases S.par y (List.mem_of_getElem? hp) with k | k
    · exact .inl ⟨k, bindL_get ndP hp hu k⟩
    · obtain ⟨c, e⟩ := cell_has (n := s.heap.objs.size + 1) k
      refine .inr ⟨.inl k, c, e, ?_⟩
      have q := x.cell y c e
      rw [bindC_get ndP hp hu (by show scope.names.lookup y ≠ _; rw [k]; decide)] at q
      exact q
  · exact e0.hok.fresh (Nat.le_of_lt (x.above y c (PySem.mem_of_lookup h)))
  · unfold start
    show _ = N.length
    rw [List.length_append, List.length_map, List.length_replicate]
    omega

/-- THE RULE: a def (or a method) of the text, by its body. The body's reading t is chosen for each entry; it is run at the parameters' values -/
theorem fn_of {CX : CXT} {P : Program} {w : World} {K : PySem.W.Frag} {mg : Str → Option Value} {base : Heap} {k : Nat} {f : Addr} {name qual : Str} {params : Arguments} {body : List Stmt} {scope : Scope} {dV kV doc pm cdv ct oc : Value} {an od : Option Addr}
    {osl : Array (Option Value)} {N ps : List Str} {sp : Sp} (lk : K.lookup f = some ⟨oc, od, .func (PySem.W.fnOf name qual params body scope dV kV doc pm an cdv ct), osl⟩) (hcd : PySem.W.codeIn K cdv qual = true) (S : FnScope N ps scope)
    (len : ∀ vs H Q E, sp vs H Q E → vs.length = ps.length)
    (hbody : ∀ (A : Around) (outer : List Env) (s : Shared) (H : Hp) (vs : List V) (Q : VK) (E : XK), Room k (A.deeper (envOfC qual scope s.heap.objs.size f cdv)) → sp vs H Q E →
      ∃ t, PSs (cxOf CX P w K mg base N qual scope f cdv A outer s H E) body t ∧ t { nx := fun _ H' => Q .non H', rt := Q } (start N vs) H) :
    FnOk P w K mg base CX (k + 1) f (PySem.W.fnOf name qual params body scope dV kV doc pm an cdv ct) ps sp := by
  refine ⟨len, fun A outer s H args us vs Q E hr e0 hb r hsp => ?_⟩
  have hl := len _ _ _ _ hsp
  have KX : K.In s.heap := e0.mod.kin.keeps fun b o e => (e0.bs b o e).1
  have lim : s.heap.NoLimit := e0.mod.nolimit.keeps fun b o e => (e0.bs b o e).1
  have hkind : ∀ y ∈ ps.zip us, scope.names.lookup y.1 = some .local ∨ (scope.names.lookup y.1 = some .cell ∧ ((cellsFrom (s.heap.objs.size + 1) scope.names []).lookup y.1).isSome = true) := fun ⟨n, v⟩ hy => by
    rcases S.par n (List.of_mem_zip hy).1 with q | q
    · exact .inl q
    · exact .inr ⟨q, PySem.W.cellsFrom_some _ _ _ (.inl q)⟩
  refine codeAny_call_function hr.depth (KX _ _ lk) rfl S.co S.gen rfl (PySem.W.codeRec_of KX hcd) (hb _ _ _ _ ?_)
  refine wpAny_newFunctionEnv_cells S.kind hkind fun env he s1 x => ?_
  subst he
  refine ⟨lim.keeps x.toInCall.keep, codeAny_func ?_⟩
  obtain ⟨t, ht, hq⟩ := hbody A outer s H vs Q E (hr.deeper _) hsp
  have I : Inv (cxOf CX P w K mg base N qual scope f cdv A outer s H E) [] (start N vs) H s1 := inv_start S hr.hd e0 hl r x
  refine wpAny_mono (ht [] s1 (start N vs) H _ I hq) (fun fl s' hs => ?_) fun e s' hs => hs
  have fin : ∀ {σ' : St} {H' : Hp} {v : V} {u : Value}, Inv (cxOf CX P w K mg base N qual scope f cdv A outer s H E) [] σ' H' s' → RelV v u → Q v H' → CE outer P w H s Q u s' :=
    fun {σ' H' v u} J rv q => ⟨v, H', J.os, J.bare, J.base, J.hok, rv, q⟩
  cases fl with
  | ret u =>
    obtain ⟨v, σ', H', J, rv, q⟩ := hs
    exact fin J rv q
  | next =>
    obtain ⟨σ', H', J, q⟩ := hs
    exact fin (v := V.non) (u := Value.none) J rfl q
  | brk =>
    obtain ⟨_, _, _, q⟩ := hs
    exact False.elim q
  | cont =>
    obtain ⟨_, _, _, q⟩ := hs
    exact False.elim q
end L2

namespace L2
open PySem PySem.Spec PyProof.Rows
section
variable {X : Cx} {x : Str} {p pos : Pos} {e : Expr} {es : List Expr} {t : TA} {id T : String} {r : List V → Hp → VK → Prop}

def tCB (r : List V → Hp → VK → Prop) (t : TA) : TE := fun σ H Q => t σ H fun vs H1 => r vs H1 Q
/-- f(e, ..), f a built-in function -/
theorem pe_callB (hc : CallR X (.builtin id) r) (hg : Gl X x) (hm : X.mg x = none) (hv : bootBuiltins x = some (.builtin id)) (ha : PA X (e :: es) t) (hn : x ≠ "__name__" := by decide) (hdb : (x == ("__debug__" : Str)) = false := by decide)
    (he : starEach (e :: es) X.env = (false, eval e X.env) :: starEach es X.env := by rfl) (hpl : (backTo pos (starEach es X.env)).any (·.1) = false := by rfl) : PE X (.Call (.Name x p) (e :: es) [] pos) (tCB r t) := by
  intro pins s σ H Q I h
  refine wpAny_Call_Name_kw (ld_blt I hg hm hv ?_ hn hdb)
  exact PyProof.Rows.callWith_builtin1 (thn (ha pos pins s σ H _ I h) fun us s1 ⟨vs, H1, I1, r1, q1⟩ => hc pins s1 σ H1 vs us Q I1 r1 q1) he hpl
/-- T(e, ..), T a built-in type -/
theorem pe_callTy (hc : CallR X (.type T) r) (hg : Gl X x) (hm : X.mg x = none) (hv : bootBuiltins x = some (.type T)) (ha : PA X (e :: es) t) (hn : x ≠ "__name__" := by decide) (hdb : (x == ("__debug__" : Str)) = false := by decide)
    (he : starEach (e :: es) X.env = (false, eval e X.env) :: starEach es X.env := by rfl) (hpl : (backTo pos (starEach es X.env)).any (·.1) = false := by rfl) : PE X (.Call (.Name x p) (e :: es) [] pos) (tCB r t) := by
  intro pins s σ H Q I h
  refine wpAny_Call_Name_kw (ld_blt I hg hm hv ?_ hn hdb)
  exact PyProof.Rows.callWith_type1 (thn (ha pos pins s σ H _ I h) fun us s1 ⟨vs, H1, I1, r1, q1⟩ => hc pins s1 σ H1 vs us Q I1 r1 q1) he hpl
end
end L2

namespace L2
open PySem PySem.Spec PyProof.Rows

/-! ### lists of pairs as tables -/
section
variable {κ : Type} [DecidableEq κ]
def valV (kvs : List (κ × V)) (k : κ) : Option V := (kvs.find? fun kv => decide (kv.1 = k)).map (·.2)
/-- in its place, or at the end -/
def putK (kvs : List (κ × V)) (k : κ) (v : V) : List (κ × V) :=
  if (kvs.any fun kv => decide (kv.1 = k)) = true then kvs.map (fun kv => if kv.1 = k then (kv.1, v) else kv) else kvs ++ [(k, v)]

theorem valV_pos {p : κ × V} {r : List (κ × V)} {k : κ} (e : p.1 = k) : valV (p :: r) k = some p.2 := by simp [valV, List.find?_cons, e]
theorem valV_neg {p : κ × V} {r : List (κ × V)} {k : κ} (e : ¬ p.1 = k) : valV (p :: r) k = valV r k := by simp [valV, List.find?_cons, e]
theorem valV_any (k : κ) : ∀ kvs : List (κ × V), (kvs.any fun kv => decide (kv.1 = k)) = (valV kvs k).isSome
  | [] => rfl
  | p :: r => by
    rw [List.any_cons]
    by_cases e : p.1 = k
    · simp only [valV_pos e, decide_eq_true e, Bool.true_or, Option.isSome_some]
    · rw [valV_neg e, decide_eq_false e, Bool.false_or]; exact valV_any k r
theorem valV_map (k j : κ) (y : V) : ∀ kvs : List (κ × V), valV (kvs.map fun kv => if kv.1 = k then (kv.1, y) else kv) j = (valV kvs j).map fun x => if j = k then y else x
  | [] => rfl
  | p :: r => by
    have ih := valV_map k j y r
    rw [List.map_cons]
    by_cases h : p.1 = k
    · rw [if_pos h]
      by_cases e : p.1 = j
      · rw [valV_pos (p := (p.1, y)) e, valV_pos e, Option.map_some, if_pos (e.symm.trans h)]
      · rw [valV_neg (p := (p.1, y)) e, valV_neg e, ih]
    · rw [if_neg h]
      by_cases e : p.1 = j
      · rw [valV_pos (p := p) e, valV_pos e, Option.map_some, if_neg (fun z => h (e.trans z))]
      · rw [valV_neg (p := p) e, valV_neg e, ih]
theorem valV_snoc (k j : κ) (y : V) : ∀ kvs : List (κ × V), valV kvs k = none → valV (kvs ++ [(k, y)]) j = if j = k then some y else valV kvs j
  | [], _ => by
    by_cases e : k = j
    · rw [if_pos e.symm]; exact valV_pos (p := (k, y)) e
    · rw [if_neg (fun z => e z.symm)]; exact valV_neg (p := (k, y)) e
  | p :: r, hn => by
    rw [List.cons_append]
    have hk : ¬ p.1 = k := fun z => by rw [valV_pos z] at hn; cases hn
    rw [valV_neg hk] at hn
    have ih := valV_snoc k j y r hn
    by_cases e : p.1 = j
    · rw [valV_pos e, valV_pos e, if_neg (fun z => hk (e.trans z))]
    · rw [valV_neg e, valV_neg e, ih]
theorem valV_put (kvs : List (κ × V)) (k j : κ) (y : V) : valV (putK kvs k y) j = if j = k then some y else valV kvs j := by
  unfold putK
  by_cases a : (kvs.any fun kv => decide (kv.1 = k)) = true
  · rw [if_pos a, valV_map]
    rw [valV_any] at a
    by_cases e : j = k
    · obtain ⟨x, hx⟩ := Option.isSome_iff_exists.mp a
      rw [if_pos e, e, hx, Option.map_some, if_pos rfl]
    · rw [if_neg e]
      cases valV kvs j with
      | none => rfl
      | some x => rw [Option.map_some, if_neg e]
  · rw [if_neg a]
    refine valV_snoc k j y kvs ?_
    rw [valV_any] at a
    cases q : valV kvs k with
    | none => rfl
    | some x => rw [q] at a; exact (a rfl).elim
theorem length_putK (kvs : List (κ × V)) (k : κ) (v : V) : (putK kvs k v).length ≤ kvs.length + 1 := by
  unfold putK
  split
  · rw [List.length_map]; omega
  · rw [List.length_append, List.length_cons, List.length_nil]; omega
theorem putK_new {kvs : List (κ × V)} {k : κ} (v : V) (h : valV kvs k = none) : putK kvs k v = kvs ++ [(k, v)] := by
  unfold putK
  rw [valV_any, h]
  exact if_neg (by decide)

theorem RelO.isSome_eq {o : Option V} {u : Option Value} (r : RelO o u) : o.isSome = u.isSome := by
  cases o with
  | none => cases u with
    | none => rfl
    | some _ => exact (show False from r).elim
  | some _ => cases u with
    | none => exact (show False from r).elim
    | some _ => rfl
theorem RelO.getD {o : Option V} {u : Option Value} {d : V} {d' : Value} (r : RelO o u) (rd : RelV d d') : RelV (o.getD d) (u.getD d') := by
  cases o with
  | none => cases u with
    | none => exact rd
    | some _ => exact (show False from r).elim
  | some _ => cases u with
    | none => exact (show False from r).elim
    | some _ => exact r

/-- raw tables of the same keys -/
theorem KV.val {kvs : List (κ × V)} {vs : List (κ × Value)} (r : KV kvs vs) (k : κ) : RelO (valV kvs k) (valueAt vs k) := by
  unfold KV at r
  induction r with
  | nil => exact True.intro
  | @cons p q ps qs h t ih =>
    obtain ⟨h1, h2⟩ := h
    by_cases e : p.1 = k
    · have e' : q.1 = k := h1.symm.trans e
      have b : valueAt (q :: qs) k = some q.2 := by simp [valueAt, List.find?_cons, e']
      rw [valV_pos e, b]; exact h2
    · have e' : ¬ q.1 = k := fun z => e (h1.trans z)
      have b : valueAt (q :: qs) k = valueAt qs k := by simp [valueAt, List.find?_cons, e']
      rw [valV_neg e, b]; exact ih
theorem KV.any {kvs : List (κ × V)} {vs : List (κ × Value)} (r : KV kvs vs) (k : κ) : (kvs.any fun kv => decide (kv.1 = k)) = vs.any fun kv => decide (kv.1 = k) := by
  unfold KV at r
  induction r with
  | nil => rfl
  | cons h t ih => rw [List.any_cons, List.any_cons, ih, h.1]
theorem KV.repl {kvs : List (κ × V)} {vs : List (κ × Value)} (r : KV kvs vs) (k : κ) {y : V} {u : Value} (ry : RelV y u) :
    KV (kvs.map fun kv => if kv.1 = k then (kv.1, y) else kv) (vs.map fun kv => if kv.1 = k then (kv.1, u) else kv) := by
  unfold KV at r ⊢
  induction r with
  | nil => exact .nil
  | @cons p q ps qs h t ih =>
    rw [List.map_cons, List.map_cons]
    refine .cons ?_ ih
    obtain ⟨h1, h2⟩ := h
    by_cases e : p.1 = k
    · rw [if_pos e, if_pos (h1.symm.trans e)]; exact ⟨h1, ry⟩
    · rw [if_neg e, if_neg (fun z => e (h1.trans z))]; exact ⟨h1, h2⟩
theorem KV.put {kvs : List (κ × V)} {vs : List (κ × Value)} (r : KV kvs vs) (k : κ) {y : V} {u : Value} (ry : RelV y u) : KV (putK kvs k y) (stored vs k u) := by
  unfold putK stored
  rw [r.any k]
  by_cases e : (vs.any fun kv => decide (kv.1 = k)) = true
  · rw [if_pos e, if_pos e]; exact r.repl k ry
  · rw [if_neg e, if_neg e]; exact Paired.snoc r ⟨rfl, ry⟩
theorem KV.length {kvs : List (κ × V)} {vs : List (κ × Value)} (r : KV kvs vs) : kvs.length = vs.length := Paired.length r
end


/-! ### a tracked dict, its keys ints and texts or tuples of these -/
theorem kV_is {P : Program} {w : World} {k : Key} {u : Value} (r : RelV (kV k) u) : (mixKind P w).is k u = true := by
  cases k with
  | inl i => obtain ⟨t, e⟩ := (show ∃ t, u = Value.int i t from r); subst e; exact mixKind_int P w i t
  | inr x => obtain ⟨t, e⟩ := (show ∃ t, u = Value.str x t from r); subst e; exact mixKind_str P w x t
theorem items_are {P : Program} {w : World} : ∀ {ks : List Key} {us : List Value}, Vals (ks.map kV) us → ItemsAre (mixKind P w) ks us
  | [], _, r => by rw [List.map_nil] at r; cases r; exact .nil
  | k :: ks, _, r => by
    rw [List.map_cons] at r
    cases r with
    | cons h t => exact .cons (kV_is h) (items_are t)

/-- raw entries of a dict with tuple keys -/
abbrev KT (H : Hp) : List (List Key × V) → List (List Key × Addr × Value) → Prop := Paired fun p q => p.1 = q.1 ∧ H q.2.1 = some (.tup (p.1.map kV)) ∧ RelV p.2 q.2.2
theorem KT.val {H : Hp} {kvs : List (List Key × V)} {xs : List (List Key × Addr × Value)} (r : KT H kvs xs) (k : List Key) : RelO (valV kvs k) ((atKey xs k).map (·.2)) := by
  induction r with
  | nil => exact True.intro
  | @cons p q ps qs h t ih =>
    obtain ⟨h1, _, h2⟩ := h
    by_cases e : p.1 = k
    · have e' : q.1 = k := h1.symm.trans e
      have b : atKey (q :: qs) k = some q.2 := by simp [atKey, List.find?_cons, e']
      rw [valV_pos e, b]; exact h2
    · have e' : ¬ q.1 = k := fun z => e (h1.trans z)
      have b : atKey (q :: qs) k = atKey qs k := by simp [atKey, List.find?_cons, e']
      rw [valV_neg e, b]; exact ih
theorem KT.repl {H : Hp} {kvs : List (List Key × V)} {xs : List (List Key × Addr × Value)} (r : KT H kvs xs) (k : List Key) {y : V} {u : Value} (ry : RelV y u) :
    KT H (kvs.map fun kv => if kv.1 = k then (kv.1, y) else kv) (xs.map (putAt k u)) := by
  induction r with
  | nil => exact .nil
  | @cons p q ps qs h t ih =>
    rw [List.map_cons, List.map_cons]
    refine .cons ?_ ih
    obtain ⟨h1, h2, h3⟩ := h
    unfold putAt
    by_cases e : p.1 = k
    · rw [if_pos e, if_pos (h1.symm.trans e)]; exact ⟨h1, h2, ry⟩
    · rw [if_neg e, if_neg (fun z => e (h1.trans z))]; exact ⟨h1, h2, h3⟩
theorem KT.put {H : Hp} {kvs : List (List Key × V)} {xs : List (List Key × Addr × Value)} (r : KT H kvs xs) (k : List Key) {b : Addr} {y : V} {u : Value} (hb : H b = some (.tup (k.map kV))) (ry : RelV y u) :
    KT H (putK kvs k y) (storedH xs k b u) := by
  have e : (kvs.any fun kv => decide (kv.1 = k)) = (atKey xs k).isSome := by
    rw [valV_any, (r.val k).isSome_eq, Option.isSome_map]
  unfold putK storedH
  rw [e]
  by_cases q : (atKey xs k).isSome = true
  · rw [if_pos q, if_pos q]; exact r.repl k ry
  · rw [if_neg q, if_neg q]; exact Paired.snoc r ⟨rfl, hb, ry⟩
theorem KT.keeps {H H' : Hp} {kvs : List (List Key × V)} {xs : List (List Key × Addr × Value)} (r : KT H kvs xs) (ht : ∀ b ys, H b = some (.tup ys) → H' b = some (.tup ys)) : KT H' kvs xs :=
  Paired.mapP r fun _ _ z => ⟨z.1, ht _ _ z.2.1, z.2.2⟩

section
variable {P : Program} {w : World} {H : Hp} {h : Heap} {a : Addr}
theorem rd_of {u : HO} (ok : HOk P w H h) (e : Rd H a u) : ObjOk P w H h a u := e.ok ok
theorem dk_rd {kvs : List (Key × V)} (ok : HOk P w H h) (e : Rd H a (.dK kvs)) : kvs.length ≤ sizeLine ∧ (a == sysModules) = false ∧ ∃ vs, KV kvs vs ∧ h.DictOf (mixKind P w) a vs :=
  show ObjOk P w H h a (.dK kvs) from rd_of ok e
theorem dk_of {kvs : List (Key × V)} (ok : HOk P w H h) (e : H a = some (.dK kvs)) : kvs.length ≤ sizeLine ∧ (a == sysModules) = false ∧ ∃ vs, KV kvs vs ∧ h.DictOf (mixKind P w) a vs := dk_rd ok (.inl e)
/-- a tracked tuple of ints and texts is a key -/
theorem key_of {ks : List Key} (ok : HOk P w H h) (e : H a = some (.tup (ks.map kV))) : (tupleKind (mixKind P w)).is h ks a := by
  obtain ⟨_, its, r, o, h1, h2, n, h3⟩ := (show ObjOk P w H h a (.tup (ks.map kV)) from ok a _ e)
  exact ⟨o, its.toArray, n, h1, h2, h3, by simpa using items_are r⟩
theorem dt_rd {kvs : List (List Key × V)} (ok : HOk P w H h) (e : Rd H a (.dT kvs)) : kvs.length ≤ sizeLine ∧ (a == sysModules) = false ∧
    ∃ xs, KT H kvs xs ∧ h.DictOfH (tupleKind (mixKind P w)) a xs := by
  obtain ⟨z, y, xs, r, o, es, ep, h1, h2, h3, h4, h5⟩ := (show ObjOk P w H h a (.dT kvs) from rd_of ok e)
  refine ⟨z, y, xs, r, o, es, ep, h1, h2, h3, h4, fun x hx => ?_, h5⟩
  have all : ∀ {l : List (List Key × V)} {m : List (List Key × Addr × Value)}, KT H l m → ∀ x ∈ m, (tupleKind (mixKind P w)).is h x.1 x.2.1 := by
    intro l m q
    induction q with
    | nil => intro x hx; exact nomatch hx
    | @cons p q ps qs hq t ih =>
      intro x hx
      rcases List.mem_cons.mp hx with e | hx
      · subst e
        exact key_of ok (by rw [← hq.1]; exact hq.2.1)
      · exact ih x hx
  exact all r x hx
theorem dt_of {kvs : List (List Key × V)} (ok : HOk P w H h) (e : H a = some (.dT kvs)) : kvs.length ≤ sizeLine ∧ (a == sysModules) = false ∧
    ∃ xs, KT H kvs xs ∧ h.DictOfH (tupleKind (mixKind P w)) a xs := dt_rd ok (.inl e)
end

/-- what the dict at a holds at the key y -/
def DGet (H : Hp) (a : Addr) (y : V) (r : Option V) : Prop :=
  (∃ kvs k, Rd H a (.dK kvs) ∧ y = kV k ∧ r = valV kvs k) ∨ ∃ kvs k b, Rd H a (.dT kvs) ∧ y = .ref b ∧ H b = some (.tup (k.map kV)) ∧ r = valV kvs k
/-- the heap behind a[y] = v -/
def DPut (H : Hp) (a : Addr) (y v : V) (H' : Hp) : Prop :=
  (∃ kvs k, H a = some (.dK kvs) ∧ y = kV k ∧ kvs.length < sizeLine ∧ H' = upd H a (.dK (putK kvs k v))) ∨
  ∃ kvs k b, H a = some (.dT kvs) ∧ y = .ref b ∧ H b = some (.tup (k.map kV)) ∧ kvs.length < sizeLine ∧ H' = upd H a (.dT (putK kvs k v))


section
variable {X : Cx} {pins : List (Addr × Obj)} {σ : St} {H : Hp} {s : Shared} {a : Addr} {y v : V} {u r : Value} {o : Option V} {A : Around} {E : Value → Shared → Prop}

theorem Inv.big (I : Inv X pins σ H s) : sysModules < s.heap.objs.size := by
  have h : mainGlobals < s.heap.objs.size := (I.mod.glob.keeps I.bk).lt
  exact Nat.lt_trans (by decide) h

/-- d[y], there -/
theorem d_getItem {Q : Value → Shared → Prop} (hu : A.units + 1 < cLine) (I : Inv X pins σ H s) (g : DGet H a y (some v)) (ry : RelV y u) (h : ∀ w' s', Inv X pins σ H s' → RelV v w' → Q w' s') :
    wpAny (model X.prog X.w) A (getItem (.ref a) u) Q E s := by
  rcases g with ⟨kvs, k, e, ey, l⟩ | ⟨kvs, k, b, e, ey, eb, l⟩
  · subst ey
    obtain ⟨z, hd, vs, rel, dd⟩ := dk_rd I.hok e
    obtain ⟨w', hw, rw'⟩ := RelO.some_of (v := v) (o := valueAt vs k) (by rw [l]; exact rel.val k)
    exact wpAny_getItem_of (kV_is ry) dd.mapOf hw (h w' _ (I.tok _) rw')
  · subst ey
    cases (show u = Value.ref b from ry)
    obtain ⟨z, hd, xs, rel, dd⟩ := dt_rd I.hok e
    obtain ⟨w', hw, rw'⟩ := RelO.some_of (v := v) (o := (atKey xs k).map (·.2)) (by rw [l]; exact rel.val k)
    obtain ⟨p, hp, hp2⟩ := Option.map_eq_some_iff.mp hw
    refine wpAny_getItem_heap (tupleKind_room_in1 hu) (key_of I.hok eb) dd hp ?_
    rw [hp2]
    exact h w' _ (I.tok _) rw'
/-- y in d -/
theorem d_in {Q : Value → Shared → Prop} (hu : A.units + 1 < cLine) (I : Inv X pins σ H s) (g : DGet H a y o) (ry : RelV y u) (h : ∀ s', Inv X pins σ H s' → Q (.bool o.isSome) s') :
    wpAny (model X.prog X.w) A (compareOp .In u (.ref a)) Q E s := by
  rcases g with ⟨kvs, k, e, ey, l⟩ | ⟨kvs, k, b, e, ey, eb, l⟩
  · subst ey
    obtain ⟨z, hd, vs, rel, dd⟩ := dk_rd I.hok e
    refine wpAny_in_of (kV_is ry) hd dd.mapOf ?_
    rw [← (rel.val k).isSome_eq, ← l]
    exact h _ (I.tok _)
  · subst ey
    cases (show u = Value.ref b from ry)
    obtain ⟨z, hd, xs, rel, dd⟩ := dt_rd I.hok e
    refine wpAny_in_heap (tupleKind_room_in1 hu) (key_of I.hok eb) hd dd ?_
    have q := (rel.val k).isSome_eq
    rw [Option.isSome_map] at q
    rw [← q, ← l]
    exact h _ (I.tok _)
theorem d_notIn {Q : Value → Shared → Prop} (hu : A.units + 1 < cLine) (I : Inv X pins σ H s) (g : DGet H a y o) (ry : RelV y u) (h : ∀ s', Inv X pins σ H s' → Q (.bool (!o.isSome)) s') :
    wpAny (model X.prog X.w) A (compareOp .NotIn u (.ref a)) Q E s := by
  rcases g with ⟨kvs, k, e, ey, l⟩ | ⟨kvs, k, b, e, ey, eb, l⟩
  · subst ey
    obtain ⟨z, hd, vs, rel, dd⟩ := dk_rd I.hok e
    refine wpAny_notIn_of (kV_is ry) hd dd.mapOf ?_
    rw [← (rel.val k).isSome_eq, ← l]
    exact h _ (I.tok _)
  · subst ey
    cases (show u = Value.ref b from ry)
    obtain ⟨z, hd, xs, rel, dd⟩ := dt_rd I.hok e
    refine wpAny_notIn_heap (tupleKind_room_in1 hu) (key_of I.hok eb) hd dd ?_
    have q := (rel.val k).isSome_eq
    rw [Option.isSome_map] at q
    rw [← q, ← l]
    exact h _ (I.tok _)
/-- a dict's object is replaced -/
theorem d_write {h' : Heap} {t' : Nat} {ob : HO} (I : Inv X pins σ H s) (mu : Mut (H a)) (hs : Heap.SameBut a s.heap h') (he : ∃ q, h'.get? a = some q) (new : ObjOk X.prog X.w (upd H a ob) h' a ob) :
    Inv X pins σ (upd H a ob) { s with heap := h', toks := t' } :=
  I.write (x := a) (e := a) mu (.inl rfl) (fun b q hb z => (hs.2 b hb).trans z) he new
theorem dk_new {P : Program} {w : World} {H' : Hp} {h' : Heap} {kvs : List (Key × V)} {vs : List (Key × Value)} (z : kvs.length ≤ sizeLine) (hd : (a == sysModules) = false) (rel : KV kvs vs) (dd : h'.DictOf (mixKind P w) a vs) :
    ObjOk P w H' h' a (.dK kvs) := ⟨z, hd, vs, rel, dd⟩
/-- d[y] = v -/
theorem d_setItem {H' : Hp} {Q : Unit → Shared → Prop} (hu : A.units + 1 < cLine) (I : Inv X pins σ H s) (g : DPut H a y v H') (ry : RelV y u) (rv : RelV v r) (h : ∀ s', Inv X pins σ H' s' → Q () s') :
    wpAny (model X.prog X.w) A (setItem (.ref a) u r) Q E s := by
  rcases g with ⟨kvs, k, e, ey, l, eH⟩ | ⟨kvs, k, b, e, ey, eb, l, eH⟩
  · subst ey eH
    obtain ⟨z, hd, vs, rel, dd⟩ := dk_of I.hok e
    have hz : vs.length ≤ sizeLine := by rw [← rel.length]; exact z
    have hl : (putK kvs k v).length ≤ sizeLine := by have := length_putK kvs k v; omega
    refine wpAny_setItem_pairs (hsz := hz) (kV_is ry) dd fun h' dd' hs => h _ ?_
    have he : ∃ q, h'.get? a = some q := let ⟨q, _, _, hq, _⟩ := dd'; ⟨q, hq⟩
    exact d_write I (by rw [e]; exact True.intro) hs he (dk_new hl hd (rel.put k rv) dd')
  · subst ey eH
    cases (show u = Value.ref b from ry)
    obtain ⟨z, hd, xs, rel, dd⟩ := dt_of I.hok e
    have hz : xs.length ≤ sizeLine := by rw [← Paired.length rel]; exact z
    have hl : (putK kvs k v).length ≤ sizeLine := by have := length_putK kvs k v; omega
    refine wpAny_setItem_heap (hsz := hz) (tupleKind_room_in1 hu) (key_of I.hok eb) dd fun h' dd' hs => h _ ?_
    obtain ⟨q, es, ep, hq, h2, h3, h4, _, h5⟩ := dd'
    refine d_write I (by rw [e]; exact True.intro) hs ⟨q, hq⟩ ⟨hl, hd, _, (rel.put k eb rv).keeps fun c ys ec => ?_, q, es, ep, hq, h2, h3, h4, h5⟩
    rw [upd_ne (ne_of ec e (fun z => nomatch z))]
    exact ec
end

section
variable {X : Cx} {pins : List (Addr × Obj)} {σ : St} {H : Hp} {s : Shared} {a : Addr} {kvs : List (Key × V)} {k : Key} {u : Value} {A : Around} {E : Value → Shared → Prop}
end


/-! ### readings and rules -/
/-- the element of a subscription, not a slice -/
def NoSl (i : Expr) : Prop := ∀ ov iv, subscripted i false ov iv = operate [ov, iv] (getItem ov iv)
theorem subD_of {prog : Program} {w : World} {A : Around} {E : Value → Shared → Prop} {s : Shared} {env : Env} {value slice : Expr} {pos : Pos} {T id : String} {Q : Value → Shared → Prop}
    (hl : typeLookup (.type T) "__getitem__" = pure (some (.builtin id))) (hs : NoSl slice)
    (h : wpAny (model prog w) A (eval value env) (fun o s₁ => wpAny (model prog w) A (eval slice env) (fun i s₂ => s₂.TypeIs o T ∧ wpAny (model prog w) A (getItem o i) Q E s₂) E s₁) E s) :
    wpAny (model prog w) A (eval (.Subscript value slice pos) env) Q E s := by
  refine Subscript_ (wpAny_mono h (fun o s₁ h₁ => wpAny_mono h₁ (fun i s₂ h₂ => ?_) fun _ _ x => x) fun _ _ x => x)
  obtain ⟨hT, h₂⟩ := h₂
  unfold subscriptTail
  refine wpAny_bind ?_
  rw [getitemInPython_of_ne hT.not_modules]
  refine wpAny_bind (wpAny_specialOf hT hl ?_)
  have fin : wpAny (model prog w) A (subscripted slice false o i) (fun r s₃ => wpAny (model prog w) A (letTemporaryGo value o r >>= fun _ => pure r) Q E s₃) E s₂ := by
    rw [hs o i]
    exact wpAny_operating (wpAny_mono h₂ (fun r s₃ h₃ => wpAny_bind (wpAny_letTemporaryGo (wpAny_pure h₃))) fun _ _ x => x)
  first
    | exact wpAny_pure (wpAny_bind fin)
    | exact wpAny_bind (wpAny_pure (wpAny_bind fin))
    | exact wpAny_bind fin

theorem dict_typeIs {X : Cx} {pins : List (Addr × Obj)} {σ : St} {H : Hp} {s : Shared} {a : Addr} {y : V} {o : Option V} (I : Inv X pins σ H s) (g : DGet H a y o) : s.TypeIs (.ref a) "dict" := by
  rcases g with ⟨kvs, k, e, _, _⟩ | ⟨kvs, k, b, e, _, _, _⟩
  · obtain ⟨_, _, vs, _, dd⟩ := dk_rd I.hok e
    exact dd.typeIs
  · obtain ⟨_, _, xs, _, dd⟩ := dt_rd I.hok e
    exact dd.typeIs

/-- d[y] -/
def tDGet (td ty : TE) : TE := fun σ H Q => td σ H fun x H1 => ty σ H1 fun y H2 => ∃ a v, x = .ref a ∧ DGet H2 a y (some v) ∧ Q v H2
/-- y in d, y not in d -/
def tDIn (ty td : TE) : TE := fun σ H Q => ty σ H fun y H1 => td σ H1 fun x H2 => ∃ a o, x = .ref a ∧ DGet H2 a y o ∧ Q (.bl o.isSome) H2
def tDNotIn (ty td : TE) : TE := fun σ H Q => ty σ H fun y H1 => td σ H1 fun x H2 => ∃ a o, x = .ref a ∧ DGet H2 a y o ∧ Q (.bl (!o.isSome)) H2
/-- d[y] = v -/
def sDPut (td ty tv : TE) : TS := fun D σ H => tv σ H fun v H1 => td σ H1 fun x H2 => ty σ H2 fun y H3 => ∃ a H4, x = .ref a ∧ DPut H3 a y v H4 ∧ D.nx σ H4

section
variable {X : Cx} {o i e value : Expr} {pos pos' tpos : Pos} {td ty tv : TE}
theorem pe_dget (hu : X.A.units + 1 < cLine) (ho : PE X o td) (hi : PE X i ty) (hs : NoSl i) : PE X (.Subscript o i pos) (tDGet td ty) := by
  intro pins s σ H Q I h
  refine subD_of PySem.F.slot_dict_getitem.lookup hs (thn (ho pins s σ H _ I h) fun u s1 ⟨x, H1, I1, rx, q1⟩ => thn (hi pins s1 σ H1 _ I1 q1) fun iv s2 ⟨y, H2, I2, ry, a, v, ex, g, q2⟩ => ?_)
  subst ex
  obtain rfl : u = Value.ref a := rx
  exact ⟨dict_typeIs I2 g, d_getItem hu I2 g ry fun w' s3 I3 rw' => ⟨v, H2, I3, rw', q2⟩⟩
theorem pc_din (hu : X.A.units + 1 < cLine) (hi : PE X i ty) (ho : PE X o td) : PC X .In i o (tDIn ty td) := by
  intro pins s σ H Q I h
  refine thn (hi pins s σ H _ I h) fun iv s1 ⟨y, H1, I1, ry, q1⟩ => thn (ho pins s1 σ H1 _ I1 q1) fun u s2 ⟨x, H2, I2, rx, a, ov, ex, g, q2⟩ => ?_
  subst ex
  obtain rfl : u = Value.ref a := rx
  exact d_in hu I2 g ry fun s3 I3 => ⟨.bl ov.isSome, H2, I3, rfl, q2⟩
theorem pc_dnotin (hu : X.A.units + 1 < cLine) (hi : PE X i ty) (ho : PE X o td) : PC X .NotIn i o (tDNotIn ty td) := by
  intro pins s σ H Q I h
  refine thn (hi pins s σ H _ I h) fun iv s1 ⟨y, H1, I1, ry, q1⟩ => thn (ho pins s1 σ H1 _ I1 q1) fun u s2 ⟨x, H2, I2, rx, a, ov, ex, g, q2⟩ => ?_
  subst ex
  obtain rfl : u = Value.ref a := rx
  exact d_notIn hu I2 g ry fun s3 I3 => ⟨.bl (!ov.isSome), H2, I3, rfl, q2⟩
theorem ps_dput (hu : X.A.units + 1 < cLine) (ho : PE X o td) (hi : PE X i ty) (hv : PE X value tv) (hs : swapsWith value (some (.Subscript o i pos')) pos.line X.env = pure false) :
    PS X (.Assign [.Subscript o i pos'] value pos) (sDPut td ty tv) := by
  intro pins s σ H D I h
  refine wpAny_Assign_Subscript (thn (hv pins s σ H _ I h) fun r s1 ⟨v, H1, I1, rv, q1⟩ => thn (ho pins s1 σ H1 _ I1 q1) fun u s2 ⟨x, H2, I2, rx, q2⟩ => thn (hi pins s2 σ H2 _ I2 q2) fun iv s3 ⟨y, H3, I3, ry, a, H4, ex, g, q3⟩ => ?_) hs
  subst ex
  obtain rfl : u = Value.ref a := rx
  exact d_setItem hu I3 g ry rv fun s4 I4 => ⟨σ, H4, I4, q3⟩
end


/-! ### displays -/
theorem dk_empty {P : Program} {w : World} {H : Hp} (h : Heap) (hb : sysModules < h.objs.size) : ObjOk P w H (h.push { cls := .type "dict", data := .dict #[] }) h.objs.size (.dK []) :=
  ⟨Nat.zero_le _, beq_eq_false_iff_ne.mpr (Ne.symm (Nat.ne_of_lt hb)), [], .nil, Heap.DictOf.new h⟩
theorem dt_empty {P : Program} {w : World} {H : Hp} (h : Heap) (hb : sysModules < h.objs.size) : ObjOk P w H (h.push { cls := .type "dict", data := .dict #[] }) h.objs.size (.dT []) :=
  ⟨Nat.zero_le _, beq_eq_false_iff_ne.mpr (Ne.symm (Nat.ne_of_lt hb)), [], .nil, _, #[], 0, Heap.get?_push_size _ rfl, ⟨rfl, rfl, rfl⟩, rfl, rfl, List.nodup_nil⟩
/-- {}, to be a dict of the kind that is wanted -/
def tDNewK : TE := fun _ H Q => ∀ p, H p = none → Q (.ref p) (upd H p (.dK []))
def tDNewT : TE := fun _ H Q => ∀ p, H p = none → Q (.ref p) (upd H p (.dT []))
section
variable {X : Cx} {pos : Pos}
theorem pe_dnewK : PE X (.Dict [] [] pos) tDNewK := fun pins s σ H Q I h =>
  wpAny_Dict_empty ⟨.ref s.heap.objs.size, _, I.laid (a := s.heap.objs.size) (o := .dK []) (t' := s.toks) (fun _ _ q => Heap.get?_push_of_some _ q) (Nat.le_refl _) (dk_empty s.heap I.big), rfl, h _ (I.hok.fresh (Nat.le_refl _))⟩
theorem pe_dnewT : PE X (.Dict [] [] pos) tDNewT := fun pins s σ H Q I h =>
  wpAny_Dict_empty ⟨.ref s.heap.objs.size, _, I.laid (a := s.heap.objs.size) (o := .dT []) (t' := s.toks) (fun _ _ q => Heap.get?_push_of_some _ q) (Nat.le_refl _) (dt_empty s.heap I.big), rfl, h _ (I.hok.fresh (Nat.le_refl _))⟩
end




/-! ### methods -/
/-- a method call o.m(e) of a built-in, with one argument: what must be seen of the text -/
structure M1 (X : Cx) (o : Expr) (m : Str) (apos : Pos) (e : Expr) (cpos : Pos) : Prop where
  base : attributeBase o m X.env (eval o X.env) = eval o X.env
  few : ((backTo cpos (starEach [e] X.env)).all (fun x => !x.1) && (backToKw cpos (keywordEach [] X.env)).all (fun x => x.1.isSome)
    && decide (([e] : List Expr).length + ([] : List Keyword).length + (if ([] : List Keyword).isEmpty then 0 else 1) < 30)) = true
  line : (apos.endLine == cpos.line) = true
  trees : backTo cpos (starEach [e] X.env) = [(false, eval e X.env)]
structure M2 (X : Cx) (o : Expr) (m : Str) (apos : Pos) (e f : Expr) (cpos : Pos) : Prop where
  base : attributeBase o m X.env (eval o X.env) = eval o X.env
  few : ((backTo cpos (starEach [e, f] X.env)).all (fun x => !x.1) && (backToKw cpos (keywordEach [] X.env)).all (fun x => x.1.isSome)
    && decide (([e, f] : List Expr).length + ([] : List Keyword).length + (if ([] : List Keyword).isEmpty then 0 else 1) < 30)) = true
  line : (apos.endLine == cpos.line) = true
  trees : backTo cpos (starEach [e, f] X.env) = [(false, eval e X.env), (false, eval f X.env)]

/-- a is a dict, whatever its keys -/
def IsD (H : Hp) (a : Addr) : Prop := (∃ kvs, Rd H a (.dK kvs)) ∨ ∃ kvs, Rd H a (.dT kvs)
theorem isD_at {X : Cx} {pins : List (Addr × Obj)} {σ : St} {H : Hp} {s : Shared} {a : Addr} (I : Inv X pins σ H s) (d : IsD H a) :
    s.TypeIs (.ref a) "dict" ∧ (∀ b, Value.ref a = .ref b → ∃ ob, s.heap.get? b = some ob ∧ ob.dict = none) ∧ (a == sysModules) = false := by
  rcases d with ⟨kvs, e⟩ | ⟨kvs, e⟩
  · obtain ⟨_, hd, vs, _, dd⟩ := dk_rd I.hok e
    refine ⟨dd.typeIs, fun b q => ?_, hd⟩
    cases q
    obtain ⟨ob, _, _, h1, h2, _⟩ := dd
    exact ⟨ob, h1, h2.2.1⟩
  · obtain ⟨_, hd, xs, _, dd⟩ := dt_rd I.hok e
    refine ⟨dd.typeIs, fun b q => ?_, hd⟩
    cases q
    obtain ⟨ob, _, _, h1, h2, _⟩ := dd
    exact ⟨ob, h1, h2.2.1⟩

section
variable {X : Cx} {pins : List (Addr × Obj)} {σ : St} {H : Hp} {s : Shared} {a : Addr} {y d : V} {u r : Value} {o : Option V} {A : Around} {E : Value → Shared → Prop}
/-- d.get(y) -/
theorem d_get1 {Q : Value → Shared → Prop} (hu : A.units + 1 < cLine) (I : Inv X pins σ H s) (g : DGet H a y o) (ry : RelV y u) (h : ∀ w' s', Inv X pins σ H s' → RelV (o.getD .non) w' → Q w' s') :
    wpAny (model X.prog X.w) A (call (.builtin "dict.get") [.ref a, u]) Q E s := by
  rcases g with ⟨kvs, k, e, ey, l⟩ | ⟨kvs, k, b, e, ey, eb, l⟩
  · subst ey
    obtain ⟨z, hd, vs, rel, dd⟩ := dk_rd I.hok e
    refine call_meetsIn PySem.F.slot_dict_get dd.typeIs PySem.F.entry_dict_get (PySem.F.args_dict_get_2 _ _) (meets_dict_get (mixKind X.prog X.w) a (kV_is ry) hd) ⟨_, dd.mapOf, h _ _ (I.tok _) ?_⟩
    rw [l]
    exact (rel.val k).getD rfl
  · subst ey
    cases (show u = Value.ref b from ry)
    obtain ⟨z, hd, xs, rel, dd⟩ := dt_rd I.hok e
    refine call_meetsIn PySem.F.slot_dict_get dd.typeIs PySem.F.entry_dict_get (PySem.F.args_dict_get_2 _ _) (meetsH_dict_get (tupleKind (mixKind X.prog X.w)) a b hd) ⟨tupleKind_room_in1 hu, k, xs, key_of I.hok eb, dd, h _ _ (I.tok _) ?_⟩
    rw [l]
    exact (rel.val k).getD rfl
end

def tDGet1 (td ty : TE) : TE := fun σ H Q => td σ H fun x H1 => ∃ a, x = .ref a ∧ IsD H1 a ∧ ty σ H1 fun y H2 => ∃ o, DGet H2 a y o ∧ Q (o.getD .non) H2
section
variable {X : Cx} {o e f : Expr} {apos cpos : Pos} {td ty tx : TE}
theorem pe_dget1 (hu : X.A.units + 1 < cLine) (ho : PE X o td) (he : PE X e ty) (m : M1 X o "get" apos e cpos) : PE X (.Call (.Attribute o "get" apos) [e] [] cpos) (tDGet1 td ty) := by
  intro pins s σ H Q I h
  refine wpAny_Call_method m.base m.few m.line PySem.F.plainAttrs_dict PySem.F.slot_dict_get PySem.F.type_dict_get (thn (ho pins s σ H _ I h) fun u s1 ⟨x, H1, I1, rx, a, ex, d, q1⟩ => ?_)
  subst ex
  obtain rfl : u = Value.ref a := rx
  obtain ⟨t1, t2, _⟩ := isD_at I1 d
  refine ⟨t1, t2, ?_⟩
  rw [m.trees]
  refine Calls.callWith_builtin rfl (Calls.evalArgs_plain (Calls.spliced_cons (thn (he pins s1 σ H1 _ I1 q1) fun iv s2 ⟨y, H2, I2, ry, ov, g, q2⟩ => Calls.spliced_nil ?_)))
  exact d_get1 hu I2 g ry fun w' s3 I3 rw' => ⟨_, H2, I3, rw', q2⟩
end

/-! ### dict(d): a copy -/
section
variable {X : Cx} {pins : List (Addr × Obj)} {σ : St} {H : Hp} {s : Shared} {a : Addr} {kvs : List (Key × V)} {A : Around} {E : Value → Shared → Prop}
end


section
variable {X : Cx} {pins : List (Addr × Obj)} {σ : St} {H : Hp} {s : Shared} {a : Addr} {y : V} {u : Value} {A : Around} {E : Value → Shared → Prop}
end
end L2

namespace HT
open PySem PyProof.Rows



section
open PySem.SeqAt
open PySem.AutoSeq1 (wpAny_loadPart')
open PySem.MeetsSeq PySem.MeetsSeq2 PySem.MeetsSeq3

end

section
variable {prog : Program} {w : World} {A : Around} {E : Value → Shared → Prop} {s : Shared}



/-! ### t[a:b], not the whole -/
/-- a slice's bound as a place among n (d where it is left out) -/
def sIx (n d : Nat) : Option Int → Nat
  | none => d
  | some v => if v < 0 then (v + (n : Int)).toNat else min v.toNat n
theorem sIx_none (n d : Nat) : sIx n d none = d := rfl
theorem sIx_nat (n d k : Nat) : sIx n d (some (k : Int)) = min k n := by
  show (if (k : Int) < 0 then ((k : Int) + (n : Int)).toNat else min (k : Int).toNat n) = min k n
  rw [if_neg (by omega), Int.toNat_natCast]
theorem sIx_le (n d : Nat) (hd : d ≤ n) (o : Option Int) : sIx n d o ≤ n := by
  cases o with
  | none => exact hd
  | some v =>
    show (if v < 0 then (v + (n : Int)).toNat else min v.toNat n) ≤ n
    by_cases hv : v < 0
    · rw [if_pos hv]; omega
    · rw [if_neg hv]; exact Nat.min_le_right _ _

end
end HT

namespace L2
open PySem PySem.Spec PyProof.Rows

/-! ### the parts of a slice -/
abbrev TO := St → Hp → (Option Int → Hp → Prop) → Prop
/-- a slice's part (left out, or an int) -/
def PO (X : Cx) (e : Option Expr) (t : TO) : Prop :=
  ∀ (pins : List (Addr × Obj)) (s : Shared) (σ : St) (H : Hp) (Q : Option Int → Hp → Prop), Inv X pins σ H s → t σ H Q →
    wpAny (model X.prog X.w) X.A (evalPart e X.env) (fun u s' => ∃ o H', Inv X pins σ H' s' ∧ IsPart u o ∧ Q o H') X.xe s
def tNoPart : TO := fun _ H Q => Q none H
def tPart (t : TE) : TO := fun σ H Q => t σ H fun x H1 => ∃ i, x = .int i ∧ Q (some i) H1

theorem intsAre_of {ns : List Int} : ∀ {us : List Value}, Vals (ns.map V.int) us → IntsAre us ns := by
  induction ns with
  | nil => intro us r; rw [List.map_nil] at r; cases r; exact .nil
  | cons n ns ih =>
    intro us r
    rw [List.map_cons] at r
    cases r with
    | cons r1 r2 =>
      obtain ⟨t, e⟩ := r1
      subst e
      exact .cons n t (ih r2)

section
variable {X : Cx} {e : Expr} {te : TE} {lo hi : Option Expr} {tl th : TO} {pos p2 : Pos}

theorem po_none : PO X none tNoPart := by
  intro pins s σ H Q I h
  rw [evalPart_none]
  exact wpAny_pure ⟨none, H, I, .none, h⟩
theorem po_some (h : PE X e te) : PO X (some e) (tPart te) := by
  intro pins s σ H Q I hw
  rw [evalPart_some]
  refine thn (h pins s σ H _ I hw) fun u s1 ⟨x, H1, I1, r1, q1⟩ => ?_
  obtain ⟨i, rfl, q⟩ := q1
  obtain ⟨t, rfl⟩ := r1
  exact ⟨some i, H1, I1, .int i t, q⟩

/-- what a slice of a value is, by values: the slice object stands at sl -/
def SlR (X : Cx) (r : V → Option Int → Option Int → Hp → VK → Prop) : Prop :=
  ∀ (pins : List (Addr × Obj)) (s : Shared) (σ : St) (H : Hp) (x : V) (v vl vu : Value) (lo hi : Option Int) (sl : Addr) (Q : VK), Inv X pins σ H s → RelV x v → s.heap.IsSliceOf sl vl vu .none → IsPart vl lo → IsPart vu hi → r x lo hi H Q →
    ∃ T id, typeLookup (.type T) "__getitem__" = pure (some (.builtin id)) ∧ s.TypeIs v T ∧ wpAny (model X.prog X.w) X.A (getItem v (.ref sl)) (EP X pins σ Q) X.xe s
def tSl (r : V → Option Int → Option Int → Hp → VK → Prop) (te : TE) (tl th : TO) : TE := fun σ H Q => te σ H fun x H1 => tl σ H1 fun l H2 => th σ H2 fun u H3 => r x l u H3 Q
/-- a[lo:hi], any a -/
theorem pe_slice {r : V → Option Int → Option Int → Hp → VK → Prop} (hr : SlR X r) (he : PE X e te) (hl : PO X lo tl) (hu : PO X hi th) : PE X (.Subscript e (.Slice lo hi none p2) pos) (tSl r te tl th) := by
  intro pins s σ H Q I h
  refine Subscript_ (thn (he pins s σ H _ I h) fun v s1 ⟨x, H1, I1, r1, q1⟩ => ?_)
  refine wpAny_Slice (thn (hl pins s1 σ H1 _ I1 q1) fun vl s2 ⟨l, H2, I2, pl, q2⟩ => thn (hu pins s2 σ H2 _ I2 q2) fun vu s3 ⟨u, H3, I3, pu, q3⟩ => ?_)
  rw [evalPart_none]
  refine wpAny_pure ?_
  have I4 : Inv X pins σ H3 { s3 with heap := s3.heap.push { cls := .type "slice", data := .fields #[vl, vu, .none] } } := I3.kept (t' := s3.toks) fun b ob q => Heap.get?_push_of_some _ q
  obtain ⟨T, id, hT, ht, hg⟩ := hr pins { s3 with heap := s3.heap.push { cls := .type "slice", data := .fields #[vl, vu, .none] } } σ H3 x v vl vu l u s3.heap.objs.size Q I4 r1 (Heap.IsSliceOf.new ..) pl pu q3
  show wpAny (model X.prog X.w) X.A (subscriptTail e (.Slice lo hi none p2) v (.ref s3.heap.objs.size)) (EP X pins σ Q) X.xe { s3 with heap := s3.heap.push { cls := .type "slice", data := .fields #[vl, vu, .none] } }
  exact tail_any (ops := [.ref s3.heap.objs.size, v]) ht hT hg (by with_unfolding_all rfl)

/-- the items of xs[lo:hi] -/
def cutV (xs : List V) (lo hi : Option Int) : List V := (xs.drop (HT.sIx xs.length 0 lo)).take (HT.sIx xs.length xs.length hi - HT.sIx xs.length 0 lo)
theorem cutV_length (xs : List V) (lo hi : Option Int) : (cutV xs lo hi).length ≤ xs.length := by
  unfold cutV
  rw [List.length_take, List.length_drop]
  omega

/-! ### t < u, t + u -/
end
end L2

namespace L2
open PySem PySem.Spec PyProof.Rows

/-! ### places -/
/-- the place that an index of any sign means -/
def ixN (n : Nat) (i : Int) : Option Nat := if 0 ≤ i then (if i < n then some i.toNat else none) else if -(n : Int) ≤ i then some (i + n).toNat else none
def atI {α : Type} (xs : List α) (i : Int) : Option α := (ixN xs.length i).bind fun j => xs[j]?
theorem ixN_seq {n : Nat} {i : Int} {j : Nat} (h : ixN n i = some j) : seqIndex? i n = some j ∧ j < n ∧ -(n : Int) ≤ i ∧ i < n := by
  unfold ixN at h
  by_cases h0 : 0 ≤ i
  · rw [if_pos h0] at h
    by_cases h1 : i < n
    · rw [if_pos h1] at h
      have e : i.toNat = j := Option.some.inj h
      exact ⟨by rw [seqIndex_of h0 h1, e], by omega, by omega, h1⟩
    · rw [if_neg h1] at h; cases h
  · rw [if_neg h0] at h
    by_cases h1 : -(n : Int) ≤ i
    · rw [if_pos h1] at h
      have e : (i + n).toNat = j := Option.some.inj h
      exact ⟨by rw [seqIndex_neg (by omega) h1, e], by omega, h1, by omega⟩
    · rw [if_neg h1] at h; cases h
theorem atI_get {α : Type} {xs : List α} {i : Int} {v : α} (h : atI xs i = some v) : ∃ j, seqIndex? i xs.length = some j ∧ xs[j]? = some v ∧ j < xs.length ∧ -(xs.length : Int) ≤ i ∧ i < xs.length := by
  unfold atI at h
  cases e : ixN xs.length i with
  | none => rw [e] at h; cases h
  | some j =>
    rw [e] at h
    obtain ⟨h1, h2, h3, h4⟩ := ixN_seq e
    exact ⟨j, h1, h, h2, h3, h4⟩
theorem atI_nat {α : Type} {xs : List α} {j : Nat} {v : α} (h : xs[j]? = some v) : atI xs (j : Int) = some v := by
  have hj : j < xs.length := (List.getElem?_eq_some_iff.mp h).1
  have e : ixN xs.length (j : Int) = some j := by
    unfold ixN
    rw [if_pos (by omega), if_pos (by omega)]; simp
  unfold atI; rw [e]; exact h
theorem atI_last {α : Type} (xs : List α) (v : α) : atI (xs ++ [v]) (-1) = some v := by
  have hl : (xs ++ [v]).length = xs.length + 1 := by simp
  have e : ixN (xs ++ [v]).length (-1) = some xs.length := by
    unfold ixN
    rw [hl, if_neg (by decide), if_pos (by omega)]
    congr 1
    omega
  unfold atI
  rw [e]
  show (xs ++ [v])[xs.length]? = some v
  simp

/-! ### what may be subscripted -/
/-- what stands as an index of a plain subscript -/
def PlainIx (b : Expr) : Prop := ∀ o i, subscripted b false o i = operate [o, i] (getItem o i)
/-- a subscript by values -/
def IxR (X : Cx) (r : R2) : Prop :=
  ∀ (value slice : Expr) (pins : List (Addr × Obj)) (s : Shared) (σ : St) (H : Hp) (x y : V) (v u : Value) (Q : VK), Inv X pins σ H s → RelV x v → RelV y u → r x y H Q →
    subscripted slice false v u = operate [v, u] (getItem v u) → wpAny (model X.prog X.w) X.A (subscriptTail value slice v u) (EP X pins σ Q) X.xe s
/-- a call of a builtin's method by values: the receiver, the arguments -/
def MtR (X : Cx) (id : String) (r : V → List V → Hp → VK → Prop) : Prop :=
  ∀ (pins : List (Addr × Obj)) (s : Shared) (σ : St) (H : Hp) (x : V) (xs : List V) (v : Value) (us : List Value) (Q : VK), Inv X pins σ H s → RelV x v → Vals xs us → r x xs H Q →
    wpAny (model X.prog X.w) X.A (call (.builtin id) (v :: us)) (EP X pins σ Q) X.xe s
section
variable {X : Cx} {a b : Expr} {ta tb : TE} {pos : Pos}
/-- a[b] -/
theorem pe_ix {r : R2} (hr : IxR X r) (ha : PE X a ta) (hb : PE X b tb) (hs : PlainIx b) : PE X (.Subscript a b pos) (tOp r ta tb) := by
  intro pins s σ H Q I h
  exact Subscript_ (binT ha hb I h fun v u s2 x y H2 I2 rx ry q => hr a b pins s2 σ H2 x y v u Q I2 rx ry q (hs _ _))

def rIxL (K : PySem.W.Frag) : R2 := fun x y H Q => ∃ p xs i v, x = .ref p ∧ y = .int i ∧ SqL K H p xs ∧ atI xs i = some v ∧ Q v H
def rIxT (K : PySem.W.Frag) : R2 := fun x y H Q => ∃ p xs i v, x = .ref p ∧ y = .int i ∧ SqT K H p xs ∧ atI xs i = some v ∧ Q v H
def rIxS : R2 := fun x y H Q => ∃ z i c, x = .str z ∧ y = .int i ∧ z.length ≤ sizeLine ∧ atI z.cps.toList i = some c ∧ Q (.str ⟨#[c]⟩) H
theorem ix_list : IxR X (rIxL X.K) := by
  intro value slice pins s σ H x y v u Q I rx ry h hs
  obtain ⟨p, xs, i, z, rfl, rfl, hq, he, q⟩ := h
  cases rx
  obtain ⟨t, rfl⟩ := ry
  obtain ⟨its, r, pl, hz⟩ := I.list hq
  obtain ⟨j, h1, h2, h3, h4, h5⟩ := atI_get he
  obtain ⟨w, ew, rw'⟩ := r.get h2
  have hl := r.length
  have hn := line63
  have fin : EP X pins σ Q w s := ⟨z, H, I, rw', q⟩
  by_cases h0 : 0 ≤ i
  · have hj : i.toNat = j := by
      rw [seqIndex_of h0 h5] at h1
      exact Option.some.inj h1
    exact item_listR pl.isList h0 (by omega) (by rw [hj]; simpa using ew) fin hs
  · have hj : (i + (its.toArray.size : Int)).toNat = j := by
      rw [seqIndex_neg (by omega) h4] at h1
      rw [List.size_toArray, ← hl]
      exact Option.some.inj h1
    exact subscriptTail_builtinR (x := w) pl.isList.typeIs slot_list_getitem.lookup
      (wpAny_getItem_list_neg (Q := fun r s' => r = w ∧ EP X pins σ Q r s') pl.isList (by omega) (by rw [List.size_toArray] <;> omega) (by omega) (by rw [hj]; simpa using ew) ⟨rfl, fin⟩) hs
theorem ix_tup : IxR X (rIxT X.K) := by
  intro value slice pins s σ H x y v u Q I rx ry h hs
  obtain ⟨p, xs, i, z, rfl, rfl, hq, he, q⟩ := h
  cases rx
  obtain ⟨t, rfl⟩ := ry
  obtain ⟨its, r, pl, hz⟩ := I.tuple hq
  obtain ⟨j, h1, h2, h3, h4, h5⟩ := atI_get he
  obtain ⟨w, ew, rw'⟩ := r.get h2
  have hl := r.length
  have hn := line63
  have fin : EP X pins σ Q w s := ⟨z, H, I, rw', q⟩
  exact subscriptTail_builtinR (x := w) pl.typeIs slot_tuple_getitem.lookup
    (getItem_tuple (j := j) (Q := fun r s' => r = w ∧ EP X pins σ Q r s') pl (by omega) (by omega) (by rw [List.size_toArray, ← hl]; exact h1) (by simpa using ew) ⟨rfl, fin⟩) hs
theorem ix_str : IxR X rIxS := by
  intro value slice pins s σ H x y v u Q I rx ry h hs
  obtain ⟨z, i, c, rfl, rfl, hz, he, q⟩ := h
  obtain ⟨t, rfl⟩ := rx
  obtain ⟨t', rfl⟩ := ry
  obtain ⟨j, h1, h2, h3, h4, h5⟩ := atI_get he
  have hl : z.cps.toList.length = z.length := by simp [Str.length]
  rw [hl] at h1 h4 h5
  have hn := line63
  exact tail_any (typeIs_str s z t) slot_str_getitem.lookup (getItem_str (c := c) (by
    have e1 : decide (i < -(2 ^ 63 : Int)) = false := decide_eq_false (by omega)
    have e2 : decide (i ≥ 2 ^ 63) = false := decide_eq_false (by omega)
    rw [e1, e2, Bool.or_false]) (by rw [h1]; simpa using h2) ⟨.str ⟨#[c]⟩, H, I.tok _, ⟨_, rfl⟩, q⟩) hs

/-! ### xs[i] = v, any sign -/
/-- the list's object behind a store -/
theorem mapSeq_set (its : List Value) (n j : Nat) (u : Value) : Obj.mapSeq (·.setIfInBounds j u) { cls := .type "list", data := .seq its.toArray n } = { cls := .type "list", data := .seq (its.set j u).toArray n } := by
  simp [Obj.mapSeq]
theorem Inv.lst {pins : List (Addr × Obj)} {σ : St} {H : Hp} {s : Shared} {p : Addr} {xs : List V} (I : Inv X pins σ H s) (h : H p = some (.lst xs)) :
    ∃ (its : List Value) (n : Nat), Vals xs its ∧ s.heap.get? p = some { cls := .type "list", data := .seq its.toArray n } ∧ xs.length ≤ sizeLine := by
  obtain ⟨z, its, n, r, e⟩ := I.hok p _ h
  exact ⟨its, n, r, e, z⟩
/-- the list at p is written by an update of its object -/
theorem Inv.lstUpd {pins : List (Addr × Obj)} {σ : St} {H : Hp} {s : Shared} {p : Addr} {xs ys : List V} {its its' : List Value} {n n' : Nat} {f : Obj → Obj} (I : Inv X pins σ H s) (h : H p = some (.lst xs))
    (ho : s.heap.get? p = some { cls := .type "list", data := .seq its.toArray n }) (hf : f { cls := .type "list", data := .seq its.toArray n } = { cls := .type "list", data := .seq its'.toArray n' }) (r : Vals ys its') (hz : ys.length ≤ sizeLine) (t : Nat) :
    Inv X pins σ (upd H p (.lst ys)) { s with heap := s.heap.update p f, toks := t } := by
  have e : (s.heap.update p f).get? p = some { cls := .type "list", data := .seq its'.toArray n' } := by
    rw [Heap.get?_update_self f ho (by rw [hf] <;> rfl), hf]
  refine I.write (x := p) (e := p) (by rw [h]; trivial) (.inl rfl) (fun b u hb q => (Heap.get?_update_other _ _ (Ne.symm hb)).trans q) ⟨_, e⟩ ?_
  exact ⟨hz, its', n', r, e⟩
def rSetL : V → V → V → Hp → (Hp → Prop) → Prop := fun o i v H Q => ∃ p xs k j, o = .ref p ∧ i = .int k ∧ H p = some (.lst xs) ∧ ixN xs.length k = some j ∧ Q (upd H p (.lst (xs.set j v)))
theorem set_list : PSet X rSetL := by
  intro pins s σ H o i v ov iv u Q I ro ri rv h
  obtain ⟨p, xs, k, j, rfl, rfl, hp, hj, q⟩ := h
  cases ro
  obtain ⟨t, rfl⟩ := ri
  obtain ⟨its, n, r, ho, hz⟩ := I.lst hp
  obtain ⟨h1, h2, h3, h4⟩ := ixN_seq hj
  have hl := r.length
  have hn := line63
  have I' : Inv X pins σ (upd H p (.lst (xs.set j v))) { s with heap := s.heap.update p (Obj.mapSeq (·.setIfInBounds j u)) } :=
    I.lstUpd hp ho (mapSeq_set its n j u) (r.set rv j) (by rw [List.length_set]; exact hz) s.toks
  by_cases h0 : 0 ≤ k
  · have hk : k.toNat = j := by
      rw [seqIndex_of h0 h4] at h1
      exact Option.some.inj h1
    exact PySem.W.ki_setAt ho h0 (by omega) (by rw [List.size_toArray, ← hl]; exact h4) (by rw [hk]; exact ⟨_, I', q⟩)
  · have hk : (k + (its.toArray.size : Int)).toNat = j := by
      rw [seqIndex_neg (by omega) h3] at h1
      rw [List.size_toArray, ← hl]
      exact Option.some.inj h1
    exact PySem.W.ki_setBack ho (by omega) (by rw [List.size_toArray, ← hl]; exact h3) (by omega) (by rw [hk]; exact ⟨_, I', q⟩)

/-! ### slices -/
theorem slice_bounds (lo hi : Option Int) (n : Nat) : (sliceBounds lo hi none n).1 = ((HT.sIx n 0 lo : Nat) : Int) ∧ (sliceBounds lo hi none n).2.1 = ((HT.sIx n n hi : Nat) : Int) ∧ (sliceBounds lo hi none n).2.2 = 1 := by
  refine ⟨?_, ?_, rfl⟩
  · cases lo with
    | none => simp [sliceBounds, HT.sIx]
    | some i =>
      simp only [sliceBounds, HT.sIx, Option.getD_none, show (1 : Int) > 0 by decide, if_true]
      by_cases h : i < 0
      · simp only [h, if_true] <;> omega
      · simp only [h, if_false] <;> omega
  · cases hi with
    | none => simp [sliceBounds, HT.sIx]
    | some i =>
      simp only [sliceBounds, HT.sIx, Option.getD_none, show (1 : Int) > 0 by decide, if_true]
      by_cases h : i < 0
      · simp only [h, if_true] <;> omega
      · simp only [h, if_false] <;> omega
theorem slicePick_cut (its : List Value) (lo hi : Option Int) : slicePick its.toArray lo hi none = ((its.drop (HT.sIx its.length 0 lo)).take (HT.sIx its.length its.length hi - HT.sIx its.length 0 lo)).toArray := by
  obtain ⟨h1, h2, h3⟩ := slice_bounds lo hi its.toArray.size
  unfold slicePick
  rw [h1, h2, h3]
  simp only [sliceRange_one, pick_run, List.size_toArray] <;> rfl
/-- xs[lo:hi] of a list: a new list -/
def rSlL (K : PySem.W.Frag) : V → Option Int → Option Int → Hp → VK → Prop := fun x lo hi H Q => ∃ a xs, x = .ref a ∧ SqL K H a xs ∧ ∀ p, H p = none → Q (.ref p) (upd H p (.lst (cutV xs lo hi)))
theorem sl_list : SlR X (rSlL X.K) := by
  intro pins s σ H x v vl vu lo hi sl Q I rx hs pl pu h
  obtain ⟨a, xs, rfl, hx, q⟩ := h
  cases rx
  obtain ⟨its, r, ht, hz⟩ := I.list hx
  have hlen := r.length
  refine ⟨"list", _, slot_list_getitem.lookup, ht.isList.typeIs, ?_⟩
  refine wpAny_getItem_list_slice ht.isList hs pl pu .none (by simp) ?_ (by rw [List.size_toArray] <;> omega)
  rw [slicePick_cut, ← hlen]
  refine ⟨.ref s.heap.objs.size, _, I.laid (t' := s.toks) (o := .lst (cutV xs lo hi)) (fun b ob q => Heap.get?_push_of_some _ q) (Nat.le_refl _) ?_, rfl, q _ (I.hok.fresh (Nat.le_refl _))⟩
  exact ⟨Nat.le_trans (cutV_length xs lo hi) hz, _, 0, (r.drop (HT.sIx xs.length 0 lo)).take (HT.sIx xs.length xs.length hi - HT.sIx xs.length 0 lo), Heap.get?_push_size _ rfl⟩

/-! ### in, not in: flat items -/

/-! ### len, list(x), tuple(x) of any list or tuple that is read -/
theorem call_len_seq : CallR X (.builtin "len") (fun xs H Q => ∃ p ys, xs = [.ref p] ∧ (SqL X.K H p ys ∨ SqT X.K H p ys) ∧ Q (.int ys.length) H) := by
  intro pins s σ H xs us Q I r h
  obtain ⟨p, ys, rfl, hq, q⟩ := h
  obtain ⟨u, rfl, rx⟩ := vals1 r
  cases rx
  have hn := line63
  rcases hq with hq | hq
  · obtain ⟨its, r', pl, hz⟩ := I.list hq
    have hlen := r'.length
    exact Calls.call_len_list pl.isList (by simp only [List.size_toArray] <;> omega) ⟨.int ys.length, H, I.tok _, ⟨s.toks + 1, by rw [List.size_toArray, hlen]⟩, q⟩
  · obtain ⟨its, r', pl, hz⟩ := I.tuple hq
    have hlen := r'.length
    exact len_tuple pl (by simp only [List.size_toArray] <;> omega) ⟨.int ys.length, H, I.tok _, ⟨s.toks + 1, by rw [List.size_toArray, hlen]⟩, q⟩
theorem call_len_str : CallR X (.builtin "len") (fun xs H Q => ∃ z, xs = [.str z] ∧ z.length ≤ sizeLine ∧ Q (.int z.length) H) := by
  intro pins s σ H xs us Q I r h
  obtain ⟨z, rfl, hz, q⟩ := h
  obtain ⟨u, rfl, t, rfl⟩ := vals1 r
  have hn := line63
  exact len_str (by omega) ⟨.int z.length, H, I.tok _, ⟨_, rfl⟩, q⟩
theorem call_list_of : CallR X (.type "list") (fun xs H Q => ∃ p ys, xs = [.ref p] ∧ (SqL X.K H p ys ∨ SqT X.K H p ys) ∧ ∀ l, H l = none → Q (.ref l) (upd H l (.lst ys))) := by
  intro pins s σ H xs us Q I r h
  obtain ⟨p, ys, rfl, hq, q⟩ := h
  obtain ⟨u, rfl, rx⟩ := vals1 r
  cases rx
  have fin : ∀ (its : List Value), Vals ys its → ys.length ≤ sizeLine → ∀ (h' : Heap) (c' : Nat), (∀ b o', s.heap.get? b = some o' → h'.get? b = some o') →
      h'.get? s.heap.objs.size = some { cls := .type "list", dict := none, data := .seq its.toArray c', slots := #[] } → EP X pins σ Q (.ref s.heap.objs.size) { s with heap := h' } := fun its r' hz h' c' kp e =>
    ⟨.ref s.heap.objs.size, _, I.laid (t' := s.toks) kp (Nat.le_refl _) (show ObjOk X.prog X.w _ h' _ (.lst ys) from ⟨hz, its, c', r', e⟩), rfl, q _ (I.hok.fresh (Nat.le_refl _))⟩
  rcases hq with hq | hq
  · obtain ⟨its, r', pl, hz⟩ := I.list hq
    have hlen := r'.length
    obtain ⟨o, ho, hc, n, hd⟩ := pl.isList
    exact call_list_seq p (.inl rfl) ho hc hd (fun h' c' kp e => fin its r' hz h' c' kp e) (by simp only [List.size_toArray] <;> omega)
  · obtain ⟨its, r', pl, hz⟩ := I.tuple hq
    have hlen := r'.length
    obtain ⟨o, ho, hc, n, hd⟩ := pl
    exact call_list_seq p (.inr rfl) ho hc hd (fun h' c' kp e => fin its r' hz h' c' kp e) (by simp only [List.size_toArray] <;> omega)

/-! ### the call of a builtin's method: o.m(..) -/
/-- the value is of that builtin type -/
def tyV (K : PySem.W.Frag) (T : String) (x : V) (H : Hp) : Prop := match x with
  | .str _ => T = "str"
  | .int _ => T = "int"
  | .ref p => (T = "list" ∧ ∃ xs, SqL K H p xs) ∨ (T = "tuple" ∧ ∃ o, K.lookup p = some o ∧ o.cls = .type "tuple" ∧ o.dict = none) ∨
      (T = "dict" ∧ ((∃ kvs, H p = some (.dK kvs)) ∨ ∃ kvs, H p = some (.dT kvs))) ∨ (T = "set" ∧ ∃ S n, H p = some (.set S n))
  | _ => False
theorem tyV_is {pins : List (Addr × Obj)} {σ : St} {H : Hp} {s : Shared} {T : String} {x : V} {v : Value} (I : Inv X pins σ H s) (r : RelV x v) (ty : tyV X.K T x H) :
    s.TypeIs v T ∧ ∀ a, v = .ref a → ∃ ob, s.heap.get? a = some ob ∧ ob.dict = none := by
  cases x with
  | str z =>
    obtain ⟨t, rfl⟩ := r
    cases (show T = "str" from ty)
    exact ⟨typeIs_str s z t, fun _ e => nomatch e⟩
  | int i =>
    obtain ⟨t, rfl⟩ := r
    cases (show T = "int" from ty)
    exact ⟨typeIs_int s i t, fun _ e => nomatch e⟩
  | ref p =>
    cases r
    rcases ty with ⟨rfl, xs, hq⟩ | ⟨rfl, o, hk, hc, hd⟩ | ⟨rfl, hk⟩ | ⟨rfl, S, n, hk⟩
    · obtain ⟨its, _, pl, _⟩ := I.list hq
      refine ⟨pl.isList.typeIs, fun a e => ?_⟩
      cases e
      obtain ⟨o, n, e, c, hd, _⟩ := pl
      exact ⟨o, e, hd⟩
    · refine ⟨⟨o, I.kIn p o hk, hc⟩, fun a e => ?_⟩
      cases e
      exact ⟨o, I.kIn _ o hk, hd⟩
    · have z : ∃ o, s.heap.get? p = some o ∧ o.ExactDict := by
        rcases hk with ⟨kvs, hk⟩ | ⟨kvs, hk⟩
        · obtain ⟨_, _, _, _, o, _, _, e, ex, _⟩ := I.hok p _ hk
          exact ⟨o, e, ex⟩
        · obtain ⟨_, _, _, _, o, _, _, e, ex, _⟩ := I.hok p _ hk
          exact ⟨o, e, ex⟩
      obtain ⟨o, e, ex⟩ := z
      refine ⟨⟨o, e, ex.1⟩, fun a e2 => ?_⟩
      cases e2
      exact ⟨o, e, ex.2.1⟩
    · obtain ⟨o, _, _, _, e, ex, _⟩ := I.hok p _ hk
      refine ⟨⟨o, e, ex.1⟩, fun a e2 => ?_⟩
      cases e2
      exact ⟨o, e, ex.2.1⟩
  | _ => exact False.elim ty
def tBM0 (K : PySem.W.Frag) (T : String) (r : V → List V → Hp → VK → Prop) (to : TE) : TE := fun σ H Q => to σ H fun x H1 => tyV K T x H1 ∧ r x [] H1 Q
def tBM (K : PySem.W.Frag) (T : String) (r : V → List V → Hp → VK → Prop) (to : TE) (t : TA) : TE := fun σ H Q => to σ H fun x H1 => tyV K T x H1 ∧ t σ H1 fun xs H2 => r x xs H2 Q
variable {o e : Expr} {es : List Expr} {to : TE} {t : TA} {name : Str} {apos cpos : Pos} {T id : String} {r : V → List V → Hp → VK → Prop}
theorem pe_bm0 (pa : PlainAttrs T) (slot : Slot T name id) (hty : typeOf (.builtin id) = pure (.type "method_descriptor")) (hm : MtR X id r) (ho : PE X o to)
    (hbase : attributeBase o name X.env (eval o X.env) = eval o X.env := by rfl) (hline : (apos.endLine == cpos.line) = true := by rfl) : PE X (.Call (.Attribute o name apos) [] [] cpos) (tBM0 X.K T r to) := by
  intro pins s σ H Q I h
  refine wpAny_Call_method0_late hbase hline (thn (ho pins s σ H _ I h) fun v s1 ⟨x, H1, I1, r1, ty, q1⟩ => ?_)
  obtain ⟨h1, h2⟩ := tyV_is I1 r1 ty
  exact ⟨T, id, pa, slot, hty, h1, h2, Calls.callWith_builtin rfl (PySem.evalArgs_none (hm pins s1 σ H1 x [] v [] Q I1 r1 .nil q1))⟩
theorem pe_bm (pa : PlainAttrs T) (slot : Slot T name id) (hty : typeOf (.builtin id) = pure (.type "method_descriptor")) (hm : MtR X id r) (ho : PE X o to) (ha : PA X (e :: es) t)
    (hbase : attributeBase o name X.env (eval o X.env) = eval o X.env := by rfl)
    (hfew : ((backTo cpos (starEach (e :: es) X.env)).all (fun x => !x.1) && (backToKw cpos (keywordEach [] X.env)).all (fun x => x.1.isSome)
      && decide ((e :: es).length + ([] : List Keyword).length + (if ([] : List Keyword).isEmpty then 0 else 1) < 30)) = true := by rfl)
    (hline : (apos.endLine == cpos.line) = true := by rfl) (hs : starEach (e :: es) X.env = (false, eval e X.env) :: starEach es X.env := by rfl) (hplain : (backTo cpos (starEach es X.env)).any (·.1) = false := by rfl) :
    PE X (.Call (.Attribute o name apos) (e :: es) [] cpos) (tBM X.K T r to t) := by
  intro pins s σ H Q I h
  refine wpAny_Call_method_late hbase hfew hline rfl (thn (ho pins s σ H _ I h) fun v s1 ⟨x, H1, I1, r1, ty, q1⟩ => ?_)
  obtain ⟨h1, h2⟩ := tyV_is I1 r1 ty
  refine ⟨T, id, pa, slot, hty, h1, h2, ?_⟩
  have hA := ha cpos pins s1 σ H1 _ I1 q1
  rw [hs] at hA ⊢
  refine Calls.callWith_builtin (by show (false || (backTo cpos (starEach es X.env)).any (·.1)) = false; rw [hplain] <;> rfl) (Calls.evalArgs_plain ?_)
  exact thn hA fun us s2 ⟨vs, H2, I2, r2, q2⟩ => hm pins s2 σ H2 x vs v us Q I2 r1 r2 q2
/- xs.append(e), list.index on a module's tuple .. are MtR facts of 06m -/
end
end L2

namespace L2
open PySem PySem.Spec PyProof.Rows

def MtM (X : Cx) (id : String) (r : V → List V → Hp → VK → Prop) : Prop :=
  ∀ (pins : List (Addr × Obj)) (s : Shared) (σ : St) (H : Hp) (x : V) (xs : List V) (v : Value) (us : List Value) (Q : VK), Inv X pins σ H s → RelV x v → Vals xs us → r x xs H Q →
    wpAny (model X.prog X.w) X.A (call (.builtin id) (v :: us)) (EP X pins σ Q) X.xe s

/-! ### lists of values -/
theorem Vals.one : ∀ {x : V} {us : List Value}, Vals [x] us → ∃ u, us = [u] ∧ RelV x u
  | _, _, .cons r .nil => ⟨_, rfl, r⟩
theorem Vals.zero : ∀ {us : List Value}, Vals [] us → us = []
  | _, .nil => rfl
theorem Vals.dropLast {xs : List V} {us : List Value} (h : Vals xs us) : Vals xs.dropLast us.dropLast := by
  induction h with
  | nil => exact .nil
  | cons r t ih =>
    cases t with
    | nil => exact .nil
    | cons q t' => exact .cons r ih
theorem Vals.rep {xs : List V} {us : List Value} (h : Vals xs us) : ∀ k : Nat, Vals (List.replicate k xs).flatten (List.replicate k us).flatten
  | 0 => .nil
  | k + 1 => by
    rw [List.replicate_succ, List.replicate_succ, List.flatten_cons, List.flatten_cons]
    exact Vals.append h (Vals.rep h k)
theorem erase_last {α : Type} (l : List α) : l.eraseIdx (l.length - 1) = l.dropLast := by
  induction l with
  | nil => rfl
  | cons a r ih =>
    cases r with
    | nil => rfl
    | cons b r =>
      have e : (a :: b :: r).length - 1 = ((b :: r).length - 1) + 1 := by
        have h1 : (a :: b :: r).length = r.length + 2 := rfl
        have h2 : (b :: r).length = r.length + 1 := rfl
        omega
      rw [e, List.eraseIdx_cons_succ, ih]
      all_goals rfl
theorem foldl_rep (its : List Value) : ∀ (k : Nat) (acc : List Value),
    List.foldl (fun x1 x2 => x1 ++ x2) acc.toArray (List.replicate k its.toArray) = (acc ++ (List.replicate k its).flatten).toArray
  | 0, acc => by simp
  | k + 1, acc => by
    have e : acc.toArray ++ its.toArray = (acc ++ its).toArray := by simp
    have e2 : (acc ++ its) ++ (List.replicate k its).flatten = acc ++ (List.replicate (k + 1) its).flatten := by
      rw [List.replicate_succ, List.flatten_cons, List.append_assoc]
    rw [← e2, ← foldl_rep its k (acc ++ its), ← e, List.replicate_succ, List.foldl_cons]

section
variable {X : Cx} {pins : List (Addr × Obj)} {σ : St} {H : Hp} {s : Shared} {l b : Addr} {xs ys zs : List V}

/-! ### the two steps: a tracked list is rewritten, a new list is laid -/
theorem Inv.lset {its its' : List Value} {n : Nat} {f : Array Value → Array Value} {t' : Nat} (I : Inv X pins σ H s) (hH : H l = some (.lst xs))
    (e : s.heap.get? l = some { cls := .type "list", data := .seq its.toArray n }) (hf : f its.toArray = its'.toArray) (hv : Vals ys its') (hz : ys.length ≤ sizeLine) :
    Inv X pins σ (upd H l (.lst ys)) { s with heap := s.heap.update l (Obj.mapSeq f), toks := t' } := by
  have q := PySem.IsL.update e f
  rw [hf] at q
  refine I.write (x := l) (e := l) (by rw [hH]; exact trivial) (.inl rfl) (fun b' u hb hu => (Heap.get?_update_other s.heap (Obj.mapSeq f) (Ne.symm hb)).trans hu) ⟨_, q⟩ ?_
  exact ⟨hz, its', _, hv, q⟩
theorem Inv.lnew {its : List Value} {t' : Nat} (I : Inv X pins σ H s) (hv : Vals ys its) (hz : ys.length ≤ sizeLine) :
    Inv X pins σ (upd H s.heap.objs.size (.lst ys)) { s with heap := s.heap.push { cls := .type "list", data := .seq its.toArray }, toks := t' } :=
  I.laid (fun _ _ q => Heap.get?_push_of_some _ q) (Nat.le_refl _) ⟨hz, its, 0, hv, Heap.get?_push_size _ rfl⟩
theorem Inv.fresh (I : Inv X pins σ H s) : H s.heap.objs.size = none := I.hok.fresh (Nat.le_refl _)
theorem Inv.lstM (I : Inv X pins σ H s) (hH : H l = some (.lst xs)) : xs.length ≤ sizeLine ∧ ∃ (its : List Value) (n : Nat), Vals xs its ∧ xs.length = its.length ∧ s.heap.get? l = some { cls := .type "list", data := .seq its.toArray n } := by
  obtain ⟨z, its, n, r, e⟩ := I.hok l _ hH
  exact ⟨z, its, n, r, r.length, e⟩

theorem notLongL {n : Nat} (h : n ≤ sizeLine) : Builtin.List.listTooLong n = false := by
  unfold Builtin.List.listTooLong
  exact decide_eq_false (by omega)
end

section
variable {X : Cx}

/-! ### methods -/
def rAppend : V → List V → Hp → VK → Prop := fun x vs H Q => ∃ l xs y, x = .ref l ∧ vs = [y] ∧ H l = some (.lst xs) ∧ xs.length < sizeLine ∧ Q .non (upd H l (.lst (xs ++ [y])))
theorem mt_append : MtM X "list.append" rAppend := by
  intro pins s σ H x vs v us Q I rx rv h
  obtain ⟨l, xs, y, rfl, rfl, hH, hz, q⟩ := h
  cases rx
  obtain ⟨u, rfl, ru⟩ := rv.one
  obtain ⟨z, its, n, r, hl, e⟩ := I.lstM hH
  refine call_meets F.slot_list_append ⟨_, e, rfl⟩ F.entry_list_append (F.args_list_append_2 _ _) (PySem.list_append l its.toArray n u (by rw [List.size_toArray]; omega)) ⟨e, ?_⟩
  refine ⟨.non, _, I.lset (its' := its ++ [u]) hH e (by simp) (r.append (.cons ru .nil)) ?_, rfl, q⟩
  rw [List.length_append, List.length_singleton]
  omega

def rExtend : V → List V → Hp → VK → Prop := fun x vs H Q => ∃ l b xs zs, x = .ref l ∧ vs = [.ref b] ∧ H l = some (.lst xs) ∧ H b = some (.lst zs) ∧ xs.length + zs.length ≤ sizeLine ∧ Q .non (upd H l (.lst (xs ++ zs)))
theorem mt_extend : MtM X "list.extend" rExtend := by
  intro pins s σ H x vs v us Q I rx rv h
  obtain ⟨l, b, xs, zs, rfl, rfl, hH, hB, hz, q⟩ := h
  cases rx
  obtain ⟨u, rfl, ru⟩ := rv.one
  cases ru
  obtain ⟨z, its, n, r, hl, e⟩ := I.lstM hH
  obtain ⟨z2, its2, n2, r2, hl2, e2⟩ := I.lstM hB
  have hsz : its.toArray.size + its2.toArray.size ≤ sizeLine := by rw [List.size_toArray, List.size_toArray]; omega
  have hlong : ¬ (!its.toArray.isEmpty && Builtin.List.listTooLong (its.toArray.size + its2.toArray.size)) = true := by
    rw [notLongL hsz, Bool.and_false]
    exact Bool.false_ne_true
  refine call_meets F.slot_list_extend ⟨_, e, rfl⟩ F.entry_list_extend (F.args_list_extend_2 _ _)
    (AutoSeq1.list_extend_list_list_0 l its.toArray n b its2.toArray n2 hlong (by rw [List.size_toArray]; omega) (by omega)) ⟨e, e2, ?_⟩
  refine ⟨.non, _, I.lset (its' := its ++ its2) hH e (by simp) (r.append r2) ?_, rfl, q⟩
  rw [List.length_append]
  omega

def rPop : V → List V → Hp → VK → Prop := fun x vs H Q => ∃ l xs y, x = .ref l ∧ vs = [] ∧ H l = some (.lst xs) ∧ xs[xs.length - 1]? = some y ∧ Q y (upd H l (.lst xs.dropLast))
theorem mt_pop : MtM X "list.pop" rPop := by
  intro pins s σ H x vs v us Q I rx rv h
  obtain ⟨l, xs, y, rfl, rfl, hH, hy, q⟩ := h
  cases rx
  have hus := rv.zero
  subst hus
  obtain ⟨z, its, n, r, hl, e⟩ := I.lstM hH
  obtain ⟨u, hu, ru⟩ := r.get hy
  have hy' : its.toArray[its.toArray.size - 1]? = some u := by
    show its.toArray[its.length - 1]? = some u
    rw [← Array.getElem?_toList, ← hl]
    exact hu
  refine call_meets F.slot_list_pop ⟨_, e, rfl⟩ F.entry_list_pop (F.args_list_pop_1 _) (MeetsSeq.list_pop_last l its.toArray n u hy' (by rw [List.size_toArray]; omega)) ⟨e, ?_⟩
  refine ⟨y, _, I.lset (its' := its.dropLast) hH e ?_ r.dropLast ?_, ru, q⟩
  · show its.toArray.eraseIdxIfInBounds (its.toArray.size - 1) = its.dropLast.toArray
    rw [List.size_toArray, List.eraseIdxIfInBounds_toArray, erase_last]
  · rw [List.length_dropLast]
    omega




/-! ### list + list, list += list, list * int -/
def rCat : R2 := fun x y H Q => ∃ l b xs zs, x = .ref l ∧ y = .ref b ∧ H l = some (.lst xs) ∧ H b = some (.lst zs) ∧ xs.length + zs.length ≤ sizeLine ∧ ∀ p, H p = none → Q (.ref p) (upd H p (.lst (xs ++ zs)))
theorem op_cat : OpR X (binaryOp .Add) rCat := by
  intro pins s σ H x y v u Q I rx ry h
  obtain ⟨l, b, xs, zs, rfl, rfl, hH, hB, hz, q⟩ := h
  cases rx
  cases ry
  obtain ⟨z, its, n, r, hl, e⟩ := I.lstM hH
  obtain ⟨z2, its2, n2, r2, hl2, e2⟩ := I.lstM hB
  refine PySem.P.add_list e e2 ?_ (by rw [List.size_toArray, List.size_toArray]; omega)
  have ea : its.toArray ++ its2.toArray = (its ++ its2).toArray := by simp
  rw [ea]
  exact ⟨.ref _, _, I.lnew (t' := s.toks) (r.append r2) (by rw [List.length_append]; omega), rfl, q _ I.fresh⟩
/-- a list times an int (a negative one is nothing) -/
def rRep : R2 := fun x y H Q => ∃ l k xs, x = .ref l ∧ y = .int k ∧ H l = some (.lst xs) ∧ -(2 ^ 63) ≤ k ∧ k < 2 ^ 63 ∧ xs.length * k.toNat ≤ sizeLine ∧
  ∀ p, H p = none → Q (.ref p) (upd H p (.lst (List.replicate k.toNat xs).flatten))
theorem len_rep {α : Type} (xs : List α) (k : Nat) : (List.replicate k xs).flatten.length = k * xs.length := by
  induction k with
  | zero => simp
  | succ k ih => rw [List.replicate_succ, List.flatten_cons, List.length_append, ih, Nat.succ_mul, Nat.add_comm]
theorem op_rep : OpR X (binaryOp .Mult) rRep := by
  intro pins s σ H x y v u Q I rx ry h
  obtain ⟨l, k, xs, rfl, rfl, hH, h1, h2, hz, q⟩ := h
  cases rx
  obtain ⟨t, rfl⟩ := ry
  obtain ⟨z, its, n, r, hl, e⟩ := I.lstM hH
  have hlen : its.toArray.size * k.toNat ≤ sizeLine := by rw [List.size_toArray, ← hl]; exact hz
  have hcap : ¬ its.toArray.size * k.toNat > (2 ^ 63 - 1) / 8 := by
    have : (sizeLine : Nat) ≤ (2 ^ 63 - 1) / 8 := by decide
    omega
  have hfit : ¬ (!Builtin.List.listFitsIndex k) = true := by
    rw [fitsIndex_both h1 h2]
    exact Bool.false_ne_true
  have hlong : ¬ Builtin.List.listTooLong (its.toArray.size * k.toNat) = true := by
    rw [notLongL hlen]
    exact Bool.false_ne_true
  have hnew : List.foldl (fun x1 x2 => x1 ++ x2) #[] (List.replicate (if its.toArray.isEmpty = true then 0 else k.toNat) its.toArray) = (List.replicate k.toNat its).flatten.toArray := by
    have f0 : ∀ m : Nat, List.foldl (fun x1 x2 => x1 ++ x2) #[] (List.replicate m its.toArray) = (List.replicate m its).flatten.toArray := fun m => by
      have := foldl_rep its m []
      rw [List.nil_append] at this
      exact this
    rw [f0]
    cases its with
    | nil => simp
    | cons a r' => rw [if_neg (by simp)]
  refine wpAny_binaryOp_repeat_ref (T := "list") (U := "int") (by decide) ⟨_, e, rfl⟩ (fun s' => typeIs_int s' k t) noFill_list_mul F.fills_int_mul F.slot_int_rmul repeat_list F.slot_int_index.lookup
    (call_meets F.slot_int_rmul (typeIs_int s k t) F.entry_int_rmul (F.args_int_rmul_2 _ _) (int___rmul___int_list k t l its.toArray n)
      ⟨e, rfl, ⟨_, e, rfl⟩, call_meets F.slot_list_mul ⟨_, e, rfl⟩ F.entry_list_mul (F.args_list_mul_2 _ _) (AutoListH.list___mul___list_int_3 l its.toArray n k t hfit hcap hlong) ⟨e, ?_⟩⟩)
  rw [hnew]
  exact ⟨.ref _, _, I.lnew (t' := s.toks) (r.rep k.toNat) (by rw [len_rep, Nat.mul_comm]; exact hz), rfl, q _ I.fresh⟩

/-! ### del xs[i] -/
end

/-! ### xs[a:b] = ys -/
section
variable {prog : Program} {w : World} {A : Around} {E : Value → Shared → Prop} {s : Shared}
end

section
variable {X : Cx}
end
end L2

namespace Att
open PySem PySem.W PySem.Calls PyProof.Rows

/-! ### the script -/
theorem ints_of_wellAll {P : Params} {h : Heap} : ∀ (ns : List Int) (vs : List Value), WellAll P h vs (ns.map WData.int) → IntsAre vs ns := by
  intro ns
  induction ns with
  | nil =>
    intro vs w
    rw [List.map_nil] at w
    cases w
    exact .nil
  | cons n ns ih =>
    intro vs w
    rw [List.map_cons] at w
    cases w with
    | cons a b =>
      cases a
      exact .cons _ _ (ih _ b)

theorem script_of {l : OpenLaw} {n : Nat} (hn : l.most = some n) {P : Params} {h : Heap} {args : List WData} {vals : List Value}
    (hpre : l.row.toRowW.claim.pre args = true) (hwl : WellAll P h vals args) :
    ∃ a vs ns, vals = [Value.ref a] ∧ args = [WData.list (ns.map WData.int)] ∧ h.get? a = some { cls := .type "list", data := .seq vs.toArray } ∧ IntsAre vs ns ∧ ns.length ≤ n := by
  have hsh : WShape.hasAll [] args [.list .int] = true := (pre_splitW hpre).1
  have hc : l.pre.holds [] { args := args } = true := (pre_splitW hpre).2
  obtain ⟨d, r, rfl, h1, h2⟩ := hasAllW_cons hsh
  obtain rfl := hasAllW_nil h2
  obtain ⟨xs, rfl, h3⟩ := hasW_list h1
  obtain ⟨ns, rfl⟩ := items_int h3
  have hlen : ns.length ≤ n := by
    unfold OpenLaw.pre at hc
    have h4 : (WTm.not (.lt (.lit (.int (n : Int))) (.len (.arg 0)))).holds [] { args := [.list (ns.map .int)] } = true := by
      have h4 := (holds_andW hc).1
      rw [hn] at h4
      exact h4
    have h5 := condW_of h4 (w_not (w_lt w_lit (w_len_list (w_arg rfl))))
    rw [List.length_map] at h5
    refine Nat.le_of_not_lt fun q => ?_
    have q' : (n : Int) < ((ns.length : Nat) : Int) := by omega
    first
      | (rw [decide_eq_true q'] at h5; exact absurd h5 (by decide))
      | (simp at h5; omega)
  cases hwl with
  | cons w1 w2 =>
    cases w2
    cases w1 with
    | list ho hall => exact ⟨_, _, ns, rfl, rfl, ho, ints_of_wellAll ns _ hall, hlen⟩

theorem post_true (l : OpenLaw) (args : List WData) : l.row.toRowW.claim.post args (.bool true) args = true :=
  postW_of (r := l.row.toRowW) (X := (true == true))
    (show WShape.has [] (.bool true) .bool = true by first | rfl | decide | simp [WShape.has, WShape.arms, WShape.armsAll])
    (show (WTm.eq .res (.lit (.bool true))).value [] { args := args, res := some (.bool true), after := args } = some (.bool (true == true)) from w_eq_bool (w_res rfl) w_lit) rfl

/-! ### the attachment: holds_open's last premise (the goal 'hc' behind k_head) from a wpAny of the law's body -/

/-- the same from a codeAny of the CALL (for a layer whose function contracts speak of calls) -/
theorem attach_call {l : OpenLaw} {n : Nat} {q : Program} {loose : List Str} {XP : (Str → Option Value) → Heap → Prop} {YP : World → Heap → Prop} {d : DefRec}
    (hn : l.most = some n) (hdf : d.params.defaults = [])
    (call : ∀ (w : World) (s₀ s₁ : Shared) (mg mb : Str → Option Value) (fa : Addr) (o : Obj) (pm cd doc : Value) (a : Addr) (vs : List Value) (ns : List Int),
      Ground q loose [] XP w s₀ mg mb s₁.heap → YP w s₁.heap →
      s₁.heap.get? fa = some o → o.data = .func (docDef d.name d.params d.body d.scope pm cd doc) → s₁.heap.CodeRec cd d.name → mg d.name = some (.ref fa) →
      s₁.heap.get? a = some { cls := .type "list", data := .seq vs.toArray } → IntsAre vs ns → ns.length ≤ n → s₁.gens = #[] →
      codeAny (model l.prog w) callerA (.call (.ref fa) ⟨[.ref a], []⟩) (fun r s' => r = .ok (.ret (.bool true)) ∧ OldK s₁.heap s'.heap ∧ s'.os = s₁.os ∧ AllBare s'.gens) s₁) :
    WalkO q loose XP YP l.row.toRowW d [] (fun f vs => PySem.call f vs) := by
  intro w s₀ s₁ mg mb G Y fa o pm cd doc dV kV ho hd hcd hD hmg hg args vals as hpre hlay hrd hwl hlo
  obtain rfl : dV = .none := Dflts.none hD hdf
  obtain rfl : kV = .none := Dflts.noKw hD
  obtain ⟨a, vs, ns, rfl, rfl, hobj, hints, hlen⟩ := script_of hn hpre hwl
  refine enter_call (codeAny_mono (call w s₀ s₁ mg mb fa o pm cd doc a vs ns G Y ho (fd_plain hd) hcd hmg hobj hints hlen hg) fun r s' hq => ?_)
  obtain ⟨rfl, h2, h3, h4⟩ := hq
  exact ⟨.inl ⟨.bool true, .bool true, [], rfl, fun _ => rfl, .bool true, post_true l _, fun _ => ⟨List.Pairwise.nil, fun _ hm => (nomatch hm)⟩⟩, h2, h3, h4⟩


/-! ### rules over ANY heap (no ledger) from facts about the written part K: the library's own take a ledger (News) for what they write -/
section
variable {prog : Program} {w : World} {A : Around} {E : Value → Shared → Prop} {s : Shared} {K : Frag}





/-! the whole heap as the ledger: makes every rule that writes through a ledger a rule over any heap -/

end
end Att

namespace L2
open PySem PySem.Spec PyProof.Rows

theorem vals_ints : ∀ {vs : List Value} {ns : List Int}, IntsAre vs ns → Vals (ns.map V.int) vs
  | _, _, .nil => .nil
  | _, _, .cons n t h => .cons ⟨t, rfl⟩ (vals_ints h)


end L2

namespace L2
open PySem PySem.Spec PyProof.Rows


end L2

/- THE LAST THEOREM (shape; LID, My.* are yours):
   My.Adr: a structure of the addresses that your layer names (classes, functions); My.Txt K t: a structure (Prop) of the equations over K;
   My.txt_mk : {K} {implicit addresses ..} (e1 : nsIn K mainGlobals "law" = some (some (.ref f))) (e2 : K.lookup f = some ⟨oc, od, .func (fnOf "law" "law" params body scope dV kV doc pm an cdv ct), sl⟩) (e3 : codeIn K cdv "law" = true) .. : ∃ t, My.Txt K t

set_option maxRecDepth 100000 in
set_option maxHeartbeats 0 in
theorem PySem.Challenge.cw_LID_holds : PySem.Challenge.rw_LID.Holds := by
  w_on; o_law; k_head; (case hw => w_witness2)
  k_fill
  refine L2.walk_of (l := PySem.Challenge.rw_LID) (n := 63) (k := 40) (x := "script") (CX := fun w => ..) (sp := fun _ => My.sp_law) rfl (by decide) rfl ⟨rfl, by decide, by decide⟩ (fun w h Y => PySem.W.kIn_of Y) ?F ?S ?C
  case F =>
    intro w mg fa h KX G hmg
    have T : ∃ t, My.Txt (L2.KOf KX) t := by
      dsimp only [L2.KOf]                          -- K must stand as «<heap const> w.params» for k_is
      refine' My.txt_mk ?e1 ?e2 ?e3 ..
      (case e1 => PySem.W.k_is)                    -- in the order: a name -> its address -> its object -> its parts
      (case e2 => PySem.W.k_is)
      ..
    obtain ⟨t, T⟩ := T
    have e0 := hmg.symm.trans (PySem.W.mg_of KX G T.law)
    cases e0                                       -- fa is the law's own address
    exact ⟨_, fun s u => .of_eq rfl, fun base kb nb => My.law_fn T kb nb⟩     -- if «.of_eq rfl» comes too early: refine' ⟨_, ?b, fun base kb nb => My.law_fn T kb nb⟩; exact fun s u => .of_eq rfl
  case S => exact fun w H a ns hl hO hS => ..
  case C => exact ..
(the tactic k_is has no namespace: write k_is) -/

/-! SHORT WORDS over the layer: a def of the text, its body, what a loop and a test want. -/
namespace L2
open PySem PySem.Spec PyProof.Rows

/-! ### the text by places -/
/-- the j-th statement of a class's body -/
def inClass (s : Stmt) (j : Nat) : Stmt := match s with
  | .ClassDef _ _ _ body _ _ _ _ _ _ _ => body.getD j (.Pass ⟨0, 0, 0, 0⟩)
  | _ => .Pass ⟨0, 0, 0, 0⟩
def defArgs (s : Stmt) : Arguments := match s with
  | .FunctionDef _ a _ _ _ _ _ _ _ _ => a
  | _ => { posonlyargs := [], args := [], vararg := none, kwonlyargs := [], kw_defaults := [], kwarg := none, defaults := [] }
def defBody (s : Stmt) : List Stmt := match s with
  | .FunctionDef _ _ b _ _ _ _ _ _ _ => b
  | _ => []
def defScope (s : Stmt) : Scope := match s with
  | .FunctionDef _ _ _ _ _ _ sc _ _ _ => sc
  | _ => { kind := .function, names := [], isGenerator := false, isCoroutine := false }

/-! ### no exception leaves a def -/
abbrev CX0 : CXT := fun _ _ _ _ _ _ => False
abbrev E0 : XK := fun _ _ _ => False
theorem pass0 {X : Cx} : Passes CX0 X E0 := fun _ _ _ _ _ _ _ h => h.elim

/-! ### a def (or method) of the text as it stands behind the top -/
structure Fun (K : PySem.W.Frag) (x qual : Str) (st : Stmt) (f : Addr) (fd : FuncData) : Prop where
  ex : ∃ (oc : Value) (od : Option Addr) (kV doc pm : Value) (an : Option Addr) (cdv ct : Value) (osl : Array (Option Value)),
    fd = PySem.W.fnOf x qual (defArgs st) (defBody st) (defScope st) .none kV doc pm an cdv ct ∧ K.lookup f = some ⟨oc, od, .func fd, osl⟩ ∧ PySem.W.codeIn K cdv qual = true
  kp : PySem.W.keepIn K (.ref f) = true
section
variable {P : Program} {w : World} {K : PySem.W.Frag} {mg : Str → Option Value} {base : Heap}
/-- THE RULE for a def: its body as a term of rules, and the reading of that term -/
theorem Fun.ok {x qual : Str} {st : Stmt} {f : Addr} {fd : FuncData} {N ps : List Str} {k : Nat} {sp : Sp} (F : Fun K x qual st f fd) (S : FnScope N ps (defScope st)) (len : ∀ vs H Q E, sp vs H Q E → vs.length = ps.length)
    (hbody : ∀ (cdv : Value) (A : Around) (outer : List Env) (s : Shared) (H : Hp) (vs : List V) (Q : VK) (E : XK), Room k (A.deeper (envOfC qual (defScope st) s.heap.objs.size f cdv)) → sp vs H Q E →
      ∃ t, PSs (cxOf CX0 P w K mg base N qual (defScope st) f cdv A outer s H E).nox (defBody st) t ∧ t { nx := fun _ H' => Q .non H', rt := Q } (start N vs) H) : FnOk P w K mg base CX0 (k + 1) f fd ps sp := by
  obtain ⟨oc, od, kV, doc, pm, an, cdv, ct, osl, rfl, lk, hcd⟩ := F.ex
  refine fn_of lk hcd S len fun A outer s H vs Q E hr hsp => ?_
  obtain ⟨t, h, q⟩ := hbody cdv A outer s H vs Q E hr hsp
  exact ⟨t, h.nox, q⟩
/-- how its arguments bind (no defaults): h is «fun _ _ _ _ _ _ us hl => match us, hl with | [_, _], _ => rfl», one _ a parameter -/
theorem Fun.binds {x qual : Str} {st : Stmt} {f : Addr} {fd : FuncData} {ps : List Str} (F : Fun K x qual st f fd)
    (h : ∀ (kV doc pm : Value) (an : Option Addr) (cdv ct : Value) (us : List Value), us.length = ps.length → bindArgs (PySem.W.fnOf x qual (defArgs st) (defBody st) (defScope st) .none kV doc pm an cdv ct) ⟨us, []⟩ = pure (ps.zip us)) : Binds K fd ps [] := by
  obtain ⟨oc, od, kV, doc, pm, an, cdv, ct, osl, rfl, lk, hcd⟩ := F.ex
  exact .all (h kV doc pm an cdv ct)
theorem fun_mk {x qual : Str} {st : Stmt} {f : Addr} {oc : Value} {od an : Option Addr} {osl : Array (Option Value)} {kV doc pm cdv ct : Value} (l : K.lookup f = some ⟨oc, od, .func (PySem.W.fnOf x qual (defArgs st) (defBody st) (defScope st) .none kV doc pm an cdv ct), osl⟩)
    (c : PySem.W.codeIn K cdv qual = true) (k : PySem.W.keepIn K (.ref f) = true) : Fun K x qual st f (PySem.W.fnOf x qual (defArgs st) (defBody st) (defScope st) .none kV doc pm an cdv ct) := ⟨⟨oc, od, kV, doc, pm, an, cdv, ct, osl, rfl, l, c⟩, k⟩
end
theorem hu_of {A : Around} {k : Nat} (hr : Room k A) : A.units + 1 < cLine := Nat.lt_of_le_of_lt (Nat.add_le_add_left (by decide : 1 ≤ 64) _) hr.units

/-! ### expressions in short: the name that stands in the i-th slot -/
section
variable {X : Cx}
theorem pv (i : Nat) {x : Str} {pos : Pos} (hN : X.N[i]? = some x := by rfl) (hv : Vis X.env.scope x := by first | exact Or.inl rfl | exact Or.inr (Or.inl rfl) | exact Or.inr (Or.inr rfl)) (hd : (x == ("__debug__" : Str)) = false := by decide)
    (hcd : (x == ("__classdict__" : Str)) = false := by decide) : PE X (.Name x pos) (tVar i) := pe_var hN hv hd hcd
end

/-! ### tests -/
theorem iteF {A B : Prop} (h : B) : if false = true then A else B := by
  rw [if_neg Bool.false_ne_true]
  exact h
theorem iteT {A B : Prop} (h : A) : if true = true then A else B := by
  rw [if_pos rfl]
  exact h

/-! ### heaps -/
/-- all that was tracked is as it was -/
def Same (H H' : Hp) : Prop := ∀ b o, H b = some o → H' b = some o

/-! ### a dict's pairs: keys that differ -/
section
variable {κ : Type} [DecidableEq κ]
end
end L2


set_option Elab.async false
set_option linter.all false
set_option maxRecDepth 100000
namespace Tw
open PySem
/-! texts as lists of codes -/
abbrev W := List Nat
def st (l : W) : Str := ⟨l.toArray⟩
theorem st_cps (l : W) : (st l).cps.toList = l := rfl
theorem st_of (x : Str) : st x.cps.toList = x := by cases x; rfl
theorem st_inj {a b : W} (h : st a = st b) : a = b := by
  have := congrArg (fun s : Str => s.cps.toList) h
  exact this
theorem st_eq {a b : W} : st a = st b ↔ a = b := ⟨st_inj, fun h => by rw [h]⟩
theorem st_len (l : W) : (st l).length = l.length := by simp [st, Str.length]
theorem st_app (a b : W) : st a ++ st b = st (a ++ b) := by
  show (⟨a.toArray ++ b.toArray⟩ : Str) = _
  simp [st]
/-- y begins x -/
theorem st_starts (x y : W) : Txt.startswith (st x) (st y) = y.isPrefixOf x := by
  unfold Txt.startswith Builtin.Str.subAt
  rw [st_len, st_len]
  simp only [Nat.zero_add, st]
  rw [Bool.eq_iff_iff, Bool.and_eq_true, decide_eq_true_iff, List.isPrefixOf_iff_prefix, beq_iff_eq]
  constructor
  · rintro ⟨h1, h2⟩
    have h3 := congrArg Array.toList h2
    rw [List.prefix_iff_eq_take]
    simpa using h3.symm
  · intro h
    refine ⟨h.length_le, ?_⟩
    have h3 := List.prefix_iff_eq_take.mp h
    apply Array.ext'
    simpa using h3.symm
theorem takeWhile_len_all {p : Nat → Bool} : ∀ {l : W}, (l.takeWhile p).length = l.length → ∀ c ∈ l, p c = true
  | [], _, _, h => nomatch h
  | a :: l, e, c, h => by
    rw [List.takeWhile_cons] at e
    split at e
    · rename_i hp
      rcases List.mem_cons.mp h with rfl | h
      · exact hp
      · exact takeWhile_len_all (by simpa using e) c h
    · simp at e
theorem takeWhile_all {p : Nat → Bool} : ∀ {l : W}, (∀ c ∈ l, p c = true) → l.takeWhile p = l
  | [], _ => rfl
  | a :: l, h => by rw [List.takeWhile_cons, h a List.mem_cons_self]; simp [takeWhile_all fun c hc => h c (List.mem_cons_of_mem _ hc)]
theorem takeWhile_le {p : Nat → Bool} (l : W) : (l.takeWhile p).length ≤ l.length := (List.takeWhile_sublist p).length_le
theorem strSub_nil {x : W} {i j : Nat} : Builtin.Str.strSub (st x) i j = st [] ↔ min j x.length ≤ i := by
  unfold Builtin.Str.strSub st
  constructor
  · intro h
    have := congrArg (fun s : Str => s.cps.toList.length) h
    simp at this
    omega
  · intro h
    congr 1
    apply Array.ext'
    apply List.eq_nil_of_length_eq_zero
    simp
    omega
theorem st_lstrip (x y : W) : (Txt.lstripChars (st x) (st y) = st []) ↔ ∀ c ∈ x, c ∈ y := by
  unfold Txt.lstripChars Txt.stripBy stripSame stripped stripLo stripHi
  simp only [if_true, Bool.false_eq_true, if_false, st_len, st_cps]
  have hc : ∀ c, (st y).cps.contains c = true ↔ c ∈ y := fun c => by simp [st]
  split
  · rename_i h
    have h0 : (x.takeWhile (st y).cps.contains).length = 0 := by simpa using h
    rw [st_eq]
    constructor
    · rintro rfl; intro c h; nomatch h
    · intro h
      cases x with
      | nil => rfl
      | cons a r => rw [List.takeWhile_cons, (hc a).mpr (h a List.mem_cons_self)] at h0; simp at h0
  · rw [strSub_nil, Nat.min_self]
    constructor
    · intro h c hm
      exact (hc c).mp (takeWhile_len_all (Nat.le_antisymm (takeWhile_le _) h) c hm)
    · intro h
      rw [takeWhile_all fun c hm => (hc c).mpr (h c hm)]
      exact Nat.le_refl _
theorem st_strip (x y : W) : (Txt.stripChars (st x) (st y) = st []) ↔ ∀ c ∈ x, c ∈ y := by
  unfold Txt.stripChars Txt.stripBy stripSame stripped stripLo stripHi
  simp only [if_true, st_len, st_cps]
  have hc : ∀ c, (st y).cps.contains c = true ↔ c ∈ y := fun c => by simp [st]
  generalize hn : (x.takeWhile (st y).cps.contains).length = n
  have hnl : n ≤ x.length := hn ▸ takeWhile_le _
  split
  · rename_i h
    have h0 : n = 0 := by
      have := (Bool.and_eq_true _ _ ▸ h).1
      simpa using this
    rw [st_eq]
    constructor
    · rintro rfl; intro c h; nomatch h
    · intro h
      cases x with
      | nil => rfl
      | cons a r => rw [List.takeWhile_cons, (hc a).mpr (h a List.mem_cons_self)] at hn; simp at hn; omega
  · rename_i hsame
    rw [strSub_nil]
    constructor
    · intro h c hm
      by_cases hx : n = x.length
      · exact (hc c).mp (takeWhile_len_all (hn.trans hx) c hm)
      · exfalso
        -- the rest behind n begins with a sign that stays
        have hlt : n < x.length := by omega
        obtain ⟨d, r, e⟩ : ∃ d r, x.drop n = d :: r := by
          cases q : x.drop n with
          | nil => have := List.drop_eq_nil_iff.mp q; omega
          | cons d r => exact ⟨d, r, rfl⟩
        have hd : (st y).cps.contains d = false := by
          have e2 : x.dropWhile (st y).cps.contains = d :: r := by
            rw [← e, ← hn]
            have e3 := List.takeWhile_append_dropWhile (p := (st y).cps.contains) (l := x)
            conv => rhs; rw [← e3]
            rw [show ((List.takeWhile (st y).cps.contains x ++ List.dropWhile (st y).cps.contains x).takeWhile (st y).cps.contains).length = (List.takeWhile (st y).cps.contains x).length by rw [e3]]
            rw [List.drop_left]
          have e4 : (x.dropWhile (st y).cps.contains).head? = some d := by rw [e2]; rfl
          cases q : (st y).cps.contains d with
          | false => rfl
          | true => exact absurd q (by have := List.head?_dropWhile_not (st y).cps.contains x; rw [e4] at this; simpa using this)
        have hlen : (((x.drop n).reverse).takeWhile (st y).cps.contains).length ≤ r.length := by
          rw [e, List.reverse_cons]
          have : ∀ (l : W), ((l ++ [d]).takeWhile (st y).cps.contains).length ≤ l.length := by
            intro l
            induction l with
            | nil => rw [List.nil_append, List.takeWhile_cons, hd]; simp
            | cons a t ih => rw [List.cons_append, List.takeWhile_cons]; split <;> simp; omega
          simpa using this r.reverse
        have hr : r.length + 1 = x.length - n := by
          have := congrArg List.length e
          simpa using this.symm
        omega
    · intro h
      have : n = x.length := by rw [← hn, takeWhile_all fun c hm => (hc c).mpr (h c hm)]
      omega
end Tw


set_option Elab.async false
set_option linter.all false
set_option maxRecDepth 100000
set_option maxHeartbeats 4000000
namespace L2
open PySem PySem.Spec PyProof.Rows
/-! ### a rule that keeps the frame's map and a list of all other objects -/
section
variable {X : Cx} {pins : List (Addr × Obj)} {σ : St} {H : Hp} {s : Shared}
theorem ns_one {h : Heap} {a : Addr} {m m' : Str → Option Value} (x : h.Ns a m) (y : h.Ns a m') : m = m' := by
  obtain ⟨o, es, ep, e, d, _, f⟩ := x
  obtain ⟨o', es', ep', e', d', _, f'⟩ := y
  rw [e] at e'; cases e'
  rw [d] at d'; cases d'
  funext n
  rw [← f n, ← f' n]
/-- what any rule of the library's News kind may take, and what its end gives back -/
theorem Inv.byNews (I : Inv X pins σ H s) : ∃ m, Fr X.base X.env.locals s.heap m ∧ News X.base X.env.locals s.heap (allNews X.base s.heap X.env.locals) ∧
    ∀ (h' : Heap) (t' : Nat), Fr X.base X.env.locals h' m → News X.base X.env.locals h' (allNews X.base s.heap X.env.locals) → Inv X pins σ H { s with heap := h', toks := t' } := by
  obtain ⟨m, hm⟩ := I.fr
  refine ⟨m, hm, news_all, fun h' t' F N => ?_⟩
  have keep : ∀ b o, b ≠ X.env.locals → s.heap.get? b = some o → h'.get? b = some o := fun b o hb e => by
    cases q : X.base.get? b with
    | some u =>
      have := I.bk b u q
      rw [e] at this; cases this
      exact F.keep b _ q
    | none => exact (N (b, o) (mem_allNews hb q e)).1
  have hL : ∃ o, h'.get? X.env.locals = some o := by
    obtain ⟨o, _, _, e, _⟩ := F.ns
    exact ⟨o, e⟩
  refine I.step (g' := s.gens) (d' := s.drawn) (ch := []) (fun _ z => nomatch z) (fun b o h1 _ _ e _ => keep b o h1 e) (fun b o h1 _ _ e _ => ⟨o.slots, keep b o h1 e⟩) (fun _ _ _ _ n => n)
    (fun b o _ e => ?_) (fun _ _ e => e) (fun _ _ _ e => e) (fun b ps e => ⟨#[], by rw [e]; simp⟩) (fun m' hm' => ?_) (fun b u e => ?_) I.bare
  · by_cases hb : b = X.env.locals
    · subst hb; exact hL
    · exact ⟨o, keep b o hb e⟩
  · rw [← ns_one hm.ns hm']; exact F.ns
  · refine (I.hok b u e).stay (fun c v hc q => keep c v ?_ q) (fun _ q => q) fun _ _ q => q
    rintro rfl
    rcases hc with z | z
    · subst z; rw [I.free] at e; cases e
    · rw [I.free] at z; cases z
end

/-! ### isinstance -/
def cV : V → Value
  | .ty n => .type n
  | .ref a => .ref a
  | _ => .none
def isCls : V → Prop
  | .ty _ => True
  | .ref _ => True
  | _ => False
def rIsi (K : PySem.W.Frag) : List V → Hp → VK → Prop := fun xs H Q => ∃ x c t b, xs = [x, c] ∧ isCls c ∧ TyOf K H x t ∧ PySem.W.kitOne K t (cV c) = some b ∧ Q (.bl b) H
section
variable {X : Cx}
theorem call_isi : CallR X (.builtin "isinstance") (rIsi X.K) := by
  intro pins s σ H xs us Q I r h
  obtain ⟨x, c, t, b, rfl, hc, ty, e, q⟩ := h
  obtain ⟨u, w', rfl, rx, rc⟩ := vals2 r
  have ec : w' = cV c := by
    cases c with
    | ty n => exact rc
    | ref a => exact rc
    | _ => exact False.elim hc
  subst ec
  exact isinst_ok I rx ty e fun tk => ⟨.bl b, H, I.tok tk, rfl, q⟩
end

/-! ### all, any, sum of a list -/
section
variable {X : Cx}
theorem bools_of : ∀ {bs : List Bool} {us : List Value}, Vals (bs.map V.bl) us → us = bs.map Value.bool
  | [], _, r => by cases r; rfl
  | b :: bs, _, r => by
    cases r with
    | cons r1 r2 => rw [bools_of r2, List.map_cons, show _ = Value.bool b from r1]
theorem boolsAre : ∀ (bs : List Bool), LSm.BoolsAre (bs.map Value.bool) bs := by
  intro bs
  induction bs with
  | nil => exact .nil
  | cons b bs ih => exact .cons b ih
theorem call_all_bl (hc : X.calm = true) : CallR X (.builtin "all") (fun xs H Q => ∃ (p : Addr) (bs : List Bool), xs = [.ref p] ∧ SqL X.K H p (bs.map V.bl) ∧ Q (.bl (bs.all id)) H) := by
  intro pins s σ H xs us Q I r h
  obtain ⟨p, bs, rfl, hq, q⟩ := h
  obtain ⟨u, rfl, rx⟩ := vals1 r
  cases rx
  obtain ⟨its, r', pl, hz⟩ := I.list hq
  have e := bools_of r'
  subst e
  obtain ⟨m, F, N, back⟩ := I.byNews
  exact LSm.all_bools F N (I.ok.hd hc) pl.isList (boolsAre bs) fun h' tk F' N' => ⟨.bl _, H, back h' tk F' N', rfl, q⟩
theorem call_any_bl (hc : X.calm = true) : CallR X (.builtin "any") (fun xs H Q => ∃ (p : Addr) (bs : List Bool), xs = [.ref p] ∧ SqL X.K H p (bs.map V.bl) ∧ Q (.bl (bs.any id)) H) := by
  intro pins s σ H xs us Q I r h
  obtain ⟨p, bs, rfl, hq, q⟩ := h
  obtain ⟨u, rfl, rx⟩ := vals1 r
  cases rx
  obtain ⟨its, r', pl, hz⟩ := I.list hq
  have e := bools_of r'
  subst e
  obtain ⟨m, F, N, back⟩ := I.byNews
  exact LSm.any_bools F N (I.ok.hd hc) pl.isList (boolsAre bs) fun h' tk F' N' => ⟨.bl _, H, back h' tk F' N', rfl, q⟩
theorem call_sum_int (hc : X.calm = true) : CallR X (.builtin "sum") (fun xs H Q => ∃ (p : Addr) (ns : List Int), xs = [.ref p] ∧ SqL X.K H p (ns.map V.int) ∧ Q (.int ns.sum) H) := by
  intro pins s σ H xs us Q I r h
  obtain ⟨p, ns, rfl, hq, q⟩ := h
  obtain ⟨u, rfl, rx⟩ := vals1 r
  cases rx
  obtain ⟨its, r', pl, hz⟩ := I.list hq
  obtain ⟨m, F, N, back⟩ := I.byNews
  exact LSm.sum_ints F N (I.ok.hd hc) pl.isList (intsAre_of r') fun h' tk t' F' N' => ⟨.int _, H, back h' tk F' N', ⟨t', rfl⟩, q⟩

/-! ### methods of texts -/
open Tw
abbrev sv (l : W) : V := .str (st l)
theorem mt_starts : MtR X "str.startswith" (fun x xs H Q => ∃ (a b : W), x = sv a ∧ xs = [sv b] ∧ Q (.bl (b.isPrefixOf a)) H) := by
  intro pins s σ H x xs v us Q I rx rs h
  obtain ⟨a, b, rfl, rfl, q⟩ := h
  obtain ⟨t, rfl⟩ := rx
  obtain ⟨u, rfl, t', rfl⟩ := vals1 rs
  refine SC.startswith ⟨.bl _, H, I, rfl, ?_⟩
  rw [st_starts]
  exact q
theorem mt_lstrip : MtR X "str.lstrip" (fun x xs H Q => ∃ (a b : W), x = sv a ∧ xs = [sv b] ∧ a.length ≤ sizeLine ∧ ∀ c, (c = [] ↔ ∀ z ∈ a, z ∈ b) → Q (sv c) H) := by
  intro pins s σ H x xs v us Q I rx rs h
  obtain ⟨a, b, rfl, rfl, hz, q⟩ := h
  obtain ⟨t, rfl⟩ := rx
  obtain ⟨u, rfl, t', rfl⟩ := vals1 rs
  refine SC.lstripChars (fun t' k => ⟨.str _, H, I.tok k, ⟨t', rfl⟩, ?_⟩) (by rw [st_len]; exact hz)
  have z := q (Txt.lstripChars (st a) (st b)).cps.toList (by rw [← st_eq, st_of]; exact st_lstrip a b)
  unfold sv at z
  rw [st_of] at z
  exact z
theorem mt_strip : MtR X "str.strip" (fun x xs H Q => ∃ (a b : W), x = sv a ∧ xs = [sv b] ∧ a.length ≤ sizeLine ∧ ∀ c, (c = [] ↔ ∀ z ∈ a, z ∈ b) → Q (sv c) H) := by
  intro pins s σ H x xs v us Q I rx rs h
  obtain ⟨a, b, rfl, rfl, hz, q⟩ := h
  obtain ⟨t, rfl⟩ := rx
  obtain ⟨u, rfl, t', rfl⟩ := vals1 rs
  refine SC.stripChars (fun t' k => ⟨.str _, H, I.tok k, ⟨t', rfl⟩, ?_⟩) (by rw [st_len]; exact hz)
  have z := q (Txt.stripChars (st a) (st b)).cps.toList (by rw [← st_eq, st_of]; exact st_strip a b)
  unfold sv at z
  rw [st_of] at z
  exact z
theorem strsAre_of : ∀ {ls : List W} {us : List Value}, Vals (ls.map sv) us → StrsAre us (ls.map st)
  | [], _, r => by cases r; exact .nil
  | l :: ls, _, r => by
    cases r with
    | cons r1 r2 => obtain ⟨t, rfl⟩ := r1; exact .cons _ t (strsAre_of r2)
end
end L2


set_option Elab.async false
set_option linter.all false
set_option maxRecDepth 100000
set_option maxHeartbeats 4000000
namespace L2
open PySem PySem.Spec PyProof.Rows
/-! ### list comprehensions: one clause, at most one test -/
/-- the cells that a block takes from around it -/
def clOf (names : List (Str × NameKind)) (cells : List (Str × Addr)) : List (Str × Addr) :=
  names.foldl (fun cs x => if x.2 == .free then (match cells.lookup x.1 with | some c => (x.1, c) :: cs | none => cs) else cs) []
theorem clOf_mem {cells : List (Str × Addr)} : ∀ {names : List (Str × NameKind)} {cs : List (Str × Addr)} {x : Str} {c : Addr},
    (names.foldl (fun cs x => if x.2 == .free then (match cells.lookup x.1 with | some c => (x.1, c) :: cs | none => cs) else cs) cs).lookup x = some c → cs.lookup x = some c ∨ cells.lookup x = some c
  | [], _, _, _, h => .inl h
  | y :: names, cs, x, c, h => by
    rw [List.foldl_cons] at h
    rcases clOf_mem h with h | h
    · split at h
      · split at h
        · rename_i c' e
          rw [List.lookup_cons] at h
          split at h
          · rename_i hb
            have hx : x = y.1 := by simpa using hb
            cases h
            exact .inr (by rw [hx]; exact e)
          · exact .inl h
        · exact .inl h
      · exact .inl h
    · exact .inr h
theorem clOf_keep {cells : List (Str × Addr)} : ∀ {names : List (Str × NameKind)} {cs : List (Str × Addr)} {x : Str}, (∃ c, cs.lookup x = some c) →
    ∃ c, (names.foldl (fun cs x => if x.2 == .free then (match cells.lookup x.1 with | some c => (x.1, c) :: cs | none => cs) else cs) cs).lookup x = some c
  | [], _, _, h => h
  | y :: names, cs, x, h => by
    rw [List.foldl_cons]
    refine clOf_keep ?_
    split
    · split
      · rw [List.lookup_cons]
        split
        · exact ⟨_, rfl⟩
        · exact h
      · exact h
    · exact h
theorem clOf_has {cells : List (Str × Addr)} : ∀ {names : List (Str × NameKind)} {cs : List (Str × Addr)} {x : Str}, (x, NameKind.free) ∈ names → (∃ c, cells.lookup x = some c) →
    ∃ c, (names.foldl (fun cs x => if x.2 == .free then (match cells.lookup x.1 with | some c => (x.1, c) :: cs | none => cs) else cs) cs).lookup x = some c
  | y :: names, cs, x, h, hc => by
    rw [List.foldl_cons]
    rcases List.mem_cons.mp h with h | h
    · subst h
      obtain ⟨c, e⟩ := hc
      refine clOf_keep ⟨c, ?_⟩
      simp [e]
    · exact clOf_has h hc
theorem closure_of {scope : Scope} {env : Env} (h : ∀ x, (x, NameKind.free) ∈ scope.names → ∃ c, env.cells.lookup x = some c) : closureFor scope env = pure (clOf scope.names env.cells) := by
  unfold closureFor clOf
  generalize hcs : ([] : List (Str × Addr)) = cs
  clear hcs
  show (do let r ← forIn scope.names cs _; pure r) = _
  have : ∀ (names : List (Str × NameKind)) (cs : List (Str × Addr)), (∀ x, (x, NameKind.free) ∈ names → ∃ c, env.cells.lookup x = some c) →
      (forIn names cs fun (x : Str × NameKind) (r : List (Str × Addr)) => (match x with | (name, kind) => if (kind == NameKind.free) = true then do let a ← cellOf env name; pure (ForInStep.yield ((name, a) :: r)) else pure (ForInStep.yield r) : Sem (ForInStep (List (Str × Addr))))) =
        pure (names.foldl (fun cs x => if x.2 == .free then (match env.cells.lookup x.1 with | some c => (x.1, c) :: cs | none => cs) else cs) cs) := by
    intro names
    induction names with
    | nil => intro cs _; rfl
    | cons y r ih =>
      intro cs h
      obtain ⟨n, k⟩ := y
      rw [List.forIn_cons, List.foldl_cons]
      have hr := fun cs => ih cs fun x hx => h x (List.mem_cons_of_mem _ hx)
      by_cases hk : k = .free
      · subst hk
        obtain ⟨c, e⟩ := h n List.mem_cons_self
        simp only [beq_self_eq_true, if_true, cellOf, e, pure_bind]
        exact hr _
      · have hb : (k == NameKind.free) = false := by simpa using hk
        simp only [hb, Bool.false_eq_true, if_false, pure_bind]
        exact hr _
  rw [this scope.names cs h]
  rfl

/-- the names of a block: its own ones none, those from around it by their places there -/
def subSt (js : List (Option Nat)) (σ : St) : St := js.map fun j => j.bind fun j => (σ[j]?).join
/-- N, oN: the names around, by place and by kind; sN: the block's kinds; N', js: its names, each with its place around where it is taken from there -/
def compOne (N : List Str) (oN sN : List (Str × NameKind)) (x : Str) : Option Nat → Bool
  | none => true
  | some j => decide (N[j]? = some x) && decide (oN.lookup x = some .cell) && decide (sN.lookup x = some .free)
def compOk (N : List Str) (oN sN : List (Str × NameKind)) : List Str → List (Option Nat) → Bool
  | [], [] => true
  | x :: N', j :: js => compOne N oN sN x j && compOk N oN sN N' js
  | [], _ :: _ => false
  | _ :: _, [] => false
theorem compOk_len {N : List Str} {oN sN : List (Str × NameKind)} : ∀ {N' : List Str} {js : List (Option Nat)}, compOk N oN sN N' js = true → N'.length = js.length
  | [], [], _ => rfl
  | x :: N', j :: js, h => by
    have h' : (compOne N oN sN x j && compOk N oN sN N' js) = true := h
    rw [Bool.and_eq_true] at h'
    simp [compOk_len h'.2]
  | [], _ :: _, h => nomatch h
  | _ :: _, [], h => nomatch h
theorem compOk_get {N : List Str} {oN sN : List (Str × NameKind)} : ∀ {N' : List Str} {js : List (Option Nat)} {i j : Nat}, compOk N oN sN N' js = true → js[i]? = some (some j) →
    ∃ x, N'[i]? = some x ∧ N[j]? = some x ∧ oN.lookup x = some .cell ∧ sN.lookup x = some .free
  | [], [], _, _, _, e => by simp at e
  | x :: N', k :: js, 0, j, h, e => by
    have h' : (compOne N oN sN x k && compOk N oN sN N' js) = true := h
    rw [Bool.and_eq_true] at h'
    simp at e
    subst e
    have h1 := h'.1
    simp only [compOne, Bool.and_eq_true, decide_eq_true_eq] at h1
    exact ⟨x, rfl, h1.1.1, h1.1.2, h1.2⟩
  | x :: N', k :: js, i + 1, j, h, e => by
    have h' : (compOne N oN sN x k && compOk N oN sN N' js) = true := h
    rw [Bool.and_eq_true] at h'
    obtain ⟨y, q, r⟩ := compOk_get (i := i) (j := j) h'.2 (by simpa using e)
    exact ⟨y, by simpa using q, r⟩
  | [], _ :: _, _, _, h, _ => nomatch h
  | _ :: _, [], _, _, h, _ => nomatch h

/-- the context of a block -/
def cxComp (X : Cx) (scope : Scope) (N' : List Str) (C : Addr) (fp : List Addr) (s₀ : Shared) (H₀ : Hp) : Cx where
  prog := X.prog
  w := X.w
  K := X.K
  mg := X.mg
  base := X.base
  A := X.A
  N := N'
  s₀ := s₀
  H₀ := H₀
  env := compEnvC scope (clOf scope.names X.env.cells) C X.env
  outer := X.stack
  stack := X.stack
  ex := fp
  fn := fun _ => false
  calm := true
  pn := []
  xe := fun _ _ => False

/-- the tests of a clause -/
def PTs (X : Cx) (ifs : List Expr) (t : TT) : Prop :=
  ∀ (pins : List (Addr × Obj)) (s : Shared) (σ : St) (H : Hp) (Q : Bool → Hp → Prop), Inv X pins σ H s → t σ H Q →
    wpAny (model X.prog X.w) X.A (forIn ifs true fun c r => if r = true then do let ok ← isTrue c X.env (eval c X.env); pure (ForInStep.yield ok) else pure (ForInStep.yield r)) (TP X pins σ Q) X.xe s
def tYes : TT := fun _ H Q => Q true H
section
variable {X : Cx}
theorem pts_nil : PTs X [] tYes := fun _ _ _ H _ I h => wpAny_tests_nil ⟨H, I, h⟩
theorem pts_one {c : Expr} {t : TT} (h : PT X c t) : PTs X [c] t := fun pins s σ H Q I q => wpAny_tests_one (h pins s σ H Q I q)
end

/-- the loop of a block -/
theorem comp_loop {prog : Program} {w : World} {A : Around} {R : Result → Shared → Prop} {s : Shared} {elt target iter : Expr} {ifs : List Expr} {scope : Scope} {pos : Pos} {it acc : Value} {env : Env} (I : Nat → Shared → Prop)
    (turn : ∀ n s, I n s → wpAny (model prog w) A (pyNext it) (fun r s₁ => match r with
      | none => R (.ok .next) s₁
      | some v => wpAny (model prog w) A (letOwnedTupleGo target it v) (fun _ s₁' => wpAny (model prog w) A (assign target env v) (fun _ s₂ =>
          wpAny (model prog w) A (forIn ifs true fun c r => if r = true then do let ok ← isTrue c env (eval c env); pure (ForInStep.yield ok) else pure (ForInStep.yield r)) (fun ok s₃ =>
            if ok = true then wpAny (model prog w) A (eval elt env) (fun x s₄ =>
              wpAny (model prog w) A (call (.builtin "list.append") [acc, x]) (fun _ s₅ => ∃ m, m < n ∧ I m s₅) (fun _ _ => False) s₄) (fun _ _ => False) s₃
            else ∃ m, m < n ∧ I m s₃) (fun _ _ => False) s₂) (fun _ _ => False) s₁') (fun _ _ => False) s₁) (fun _ _ => False) s)
    (n : Nat) (h : I n s) :
    codeAny (model prog w) A (.compLoop (.ListComp elt [⟨target, iter, ifs, 0⟩] scope pos) 0 it acc env) R s := by
  have no {E : Value → Shared → Prop} : ∀ (e : Value) (s' : Shared), False → E e s' := fun _ _ f => f.elim
  have one : ∀ (n : Nat) (s : Shared), I n s → _ := fun n s hI => turn n s hI
  refine codeAny_loop rfl I (fun n s hI => wpAny_noted ?_) n h
  rw [compTurn_list]
  refine wpAny_bind (wpAny_standAt ?_)
  refine wpAny_bind (wpAny_mono (one n s hI) (fun r s₁ h₁ => ?_) no)
  cases r with
  | none => exact wpAny_pure h₁
  | some v =>
    refine wpAny_bind (wpAny_mono h₁ (fun _ s₁' h₁' => ?_) no)
    refine wpAny_bind (wpAny_mono h₁' (fun _ s₂ h₂ => wpAny_bind (wpAny_mono h₂ (fun ok s₃ h₃ => ?_) no)) no)
    cases ok with
    | false => exact wpAny_pure ⟨rfl, h₃⟩
    | true => exact wpAny_bind (wpAny_bind (wpAny_mono h₃ (fun x s₄ h₄ => wpAny_bind (wpAny_mono h₄ (fun _ s₅ h₅ => wpAny_pure (wpAny_pure ⟨rfl, h₅⟩)) no)) no))

/-- what is wanted of a block: D the new list; W the invariant by the turn and a measure -/
def tBlock (J : It) (js : List (Option Nat)) (g : TG) (tt : TT) (te : TE) (σ : St) (H1 : Hp) (Q : VK) : Prop :=
  ∀ D, H1 D = none → ∃ W : Nat → Nat → St → Hp → Prop, (∃ m, W 0 m (subSt js σ) (upd H1 D (.lst []))) ∧ ∀ i m σ' H', W i m σ' H' →
    (J.stop i H' ∧ Q (.ref D) H') ∨ (J.go i H' ∧ ∃ N : St → Hp → Prop, (∀ σ2 H2, N σ2 H2 → ∃ m', m' < m ∧ W (i + 1) m' σ2 H2) ∧
      ∀ x H2, J.yld i H' x H2 → g x σ' H2 fun σ2 H3 => tt σ2 H3 fun ok H4 => if ok = true then te σ2 H4 fun y H5 => ∃ ys, H5 D = some (.lst ys) ∧ ys.length < sizeLine ∧ N σ2 (upd H5 D (.lst (ys ++ [y]))) else N σ2 H4)
def tComp (wi : TI) (js : List (Option Nat)) (g : TG) (tt : TT) (te : TE) : TE := fun σ H Q => wi σ H fun J H1 => tBlock J js g tt te σ H1 Q

section
variable {X : Cx} {tg iter elt : Expr} {ifs : List Expr} {scope : Scope} {pos : Pos} {N' : List Str} {js : List (Option Nat)} {g : TG} {tt : TT} {te : TE}
/-- the kinds of a block's names -/
structure BlkScope (X : Cx) (scope : Scope) (N' : List Str) (js : List (Option Nat)) : Prop where
  kind : scope.kind = .function
  nocell : ∀ x ∈ scope.names, x.2 ≠ .cell
  locs : ∀ x ∈ scope.names, x.2 = .local → scope.names.lookup x.1 = some .local
  frees : ∀ x ∈ scope.names, x.2 = .free → X.env.scope.names.lookup x.1 = some .cell
  ok : compOk X.N X.env.scope.names scope.names N' js = true

def blkB (N : List Str) (oN : List (Str × NameKind)) (scope : Scope) (N' : List Str) (js : List (Option Nat)) : Bool :=
  decide (scope.kind = .function) && (scope.names.all (fun x => decide (x.2 ≠ .cell)) && (scope.names.all (fun x => !decide (x.2 = .local) || decide (scope.names.lookup x.1 = some .local)) &&
    (scope.names.all (fun x => !decide (x.2 = .free) || decide (oN.lookup x.1 = some .cell)) && compOk N oN scope.names N' js)))
theorem BlkScope.of {N : List Str} {oN : List (Str × NameKind)} (h : blkB N oN scope N' js = true) (e1 : N = X.N := by rfl) (e2 : oN = X.env.scope.names := by rfl) : BlkScope X scope N' js := by
  subst e1 e2
  unfold blkB at h
  rw [Bool.and_eq_true, Bool.and_eq_true, Bool.and_eq_true, Bool.and_eq_true, decide_eq_true_iff, List.all_eq_true, List.all_eq_true, List.all_eq_true] at h
  obtain ⟨h1, h2, h3, h4, h5⟩ := h
  refine ⟨h1, fun x hx => by simpa using h2 x hx, fun x hx z => ?_, fun x hx z => ?_, h5⟩
  · have := h3 x hx
    simpa [z] using this
  · have := h4 x hx
    simpa [z] using this
theorem relabel_free {env : Env} {names : List (Str × NameKind)} {x : Str} (h : names.lookup x = some .free) (h1 : env.scope.kind = .function) (h2 : env.kindOf x = some .cell) :
    (names.map fun (n, k) => if (k == NameKind.free && env.scope.kind == .function && env.kindOf n == some .cell) then (n, NameKind.cell) else (n, k)).lookup x = some .cell := by
  induction names with
  | nil => exact nomatch h
  | cons y r ih =>
    obtain ⟨n, k⟩ := y
    rw [List.map_cons]
    by_cases hn : x = n
    · subst hn
      have hk : k = .free := by simpa [List.lookup_cons] using h
      subst hk
      simp [h1, h2, List.lookup_cons]
    · have b : (x == n) = false := beq_false_of_ne hn
      have up := ih (by simpa [List.lookup_cons, b] using h)
      dsimp only
      split <;> (rw [List.lookup_cons, b]; exact up)
theorem relabel_inv {env : Env} : ∀ {names : List (Str × NameKind)} {x : Str}, (∀ y ∈ names, y.2 ≠ .cell) →
    ((names.map fun (n, k) => if (k == NameKind.free && env.scope.kind == .function && env.kindOf n == some .cell) then (n, NameKind.cell) else (n, k)).lookup x = some .cell ∨
     (names.map fun (n, k) => if (k == NameKind.free && env.scope.kind == .function && env.kindOf n == some .cell) then (n, NameKind.cell) else (n, k)).lookup x = some .free) → (x, NameKind.free) ∈ names
  | [], _, _, h => by simp at h
  | (n, k) :: r, x, hn, h => by
    have ih := @relabel_inv env r x (fun y hy => hn y (List.mem_cons_of_mem _ hy))
    have hk := hn (n, k) List.mem_cons_self
    by_cases hx : x = n
    · subst hx
      by_cases hc : (k == NameKind.free && env.scope.kind == .function && env.kindOf x == some .cell) = true
      · have : k = .free := by
          have := (Bool.and_eq_true _ _ ▸ (Bool.and_eq_true _ _ ▸ hc).1).1
          simpa using this
        subst this
        exact List.mem_cons_self
      · rw [List.map_cons] at h
        simp only [if_neg hc] at h
        simp [List.lookup_cons] at h
        rcases h with h | h
        · exact absurd h hk
        · subst h; exact List.mem_cons_self
    · refine List.mem_cons_of_mem _ (ih ?_)
      rw [List.map_cons] at h
      have hb : (x == n) = false := by simpa using hx
      by_cases hc : (k == NameKind.free && env.scope.kind == .function && env.kindOf n == some .cell) = true
      · simp only [if_pos hc, List.lookup_cons, hb] at h; exact h
      · simp only [if_neg hc, List.lookup_cons, hb] at h; exact h

/-- an untracked object of ours that no one knows changes -/
theorem Inv.gone {pins : List (Addr × Obj)} {σ : St} {H : Hp} {s : Shared} {C : Addr} {h' : Heap} (I : Inv X pins σ H s) (hs : Heap.SameBut C s.heap h') (h : FpOk X pins H C) : Inv X pins σ H { s with heap := h' } :=
  I.turned (t' := s.toks) (it := C) (fun b o hb e => (hs.2 b hb).trans e) h.1 h.2.1 h.2.2.2.1 h.2.2.2.2.1 h.2.2.2.2.2

/-- the block has run: X's state again, the new list at D, the block's own dict at C -/
theorem comp_core {pins : List (Addr × Obj)} {σ : St} {H2 : Hp} {s2 : Shared} {J : It} {it : Addr} {fp : List Addr} {tn : Nat → Heap → Prop} {Q : VK} {E : Value → Shared → Prop} {RR : Value → Addr → Result → Shared → Prop}
    (B : BlkScope X scope N' js) (hc : X.calm = true)
    (hb : ∀ C fp s₀ H₀, PG (cxComp X scope N' C fp s₀ H₀) tg g ∧ PTs (cxComp X scope N' C fp s₀ H₀) ifs tt ∧ PE (cxComp X scope N' C fp s₀ H₀) elt te)
    (I2 : Inv X pins σ H2 s2) (T : Turn X.prog X.w X.K tg J fp it tn) (st2 : tn 0 s2.heap) (f2 : ∀ b ∈ fp, FpOk X pins H2 b) (h : tBlock J js g tt te σ H2 Q)
    (hR : ∀ D C s' H' m, Inv X pins σ H' s' → s'.heap.Ns C m → FpOk X pins H' C → Q (.ref D) H' → RR (.ref D) C (.ok .next) s') :
    wpAny (model X.prog X.w) X.A (newList []) (fun acc s₃ => wpAny (model X.prog X.w) X.A (newFunctionEnv scope X.env.globals (clOf scope.names X.env.cells) [] X.env.qual none .none (some X.env)) (fun cenv s₄ =>
      codeAny (model X.prog X.w) X.A (.compStart (.ListComp elt [⟨tg, iter, ifs, 0⟩] scope pos) 0 (.ref it) acc { cenv with scope := relabel scope X.env }) (RR acc cenv.locals) s₄) E s₃) E s2 := by
  have hD0 : H2 s2.heap.objs.size = none := I2.hok.fresh (Nat.le_refl _)
  obtain ⟨W, ⟨m0, w0⟩, turn⟩ := h s2.heap.objs.size hD0
  have I3 : Inv X pins σ (upd H2 s2.heap.objs.size (.lst [])) { s2 with heap := s2.heap.push { cls := .type "list", dict := none, data := .seq ([] : List Value).toArray } } :=
    I2.laid (t' := s2.toks) (fun b u e => Heap.get?_push_of_some _ e) (Nat.le_refl _) (show ObjOk X.prog X.w _ _ _ (.lst []) from ⟨Nat.zero_le _, [], 0, .nil, Heap.get?_push_size _ rfl⟩)
  refine wpAny_newObj_type (wpAny_newFunctionEnv B.nocell (by intro y hy; simp at hy) (fun h₁ hns₁ hsb₁ => ?_) B.kind)
  dsimp only at hns₁ hsb₁ ⊢
  generalize hs3 : ({ s2 with heap := s2.heap.push { cls := .type "list", dict := none, data := .seq ([] : List Value).toArray } } : Shared) = s3 at I3
  generalize hH3 : upd H2 s2.heap.objs.size (.lst []) = H3 at I3 w0
  generalize hD : s2.heap.objs.size = D at w0 turn hD0 hH3
  have e3 : s2.heap.push { cls := .type "list", dict := none, data := .seq ([] : List Value).toArray } = s3.heap := by rw [← hs3]
  have hDs : D < s3.heap.objs.size := by rw [← e3, Heap.size_push, hD]; exact Nat.lt_succ_self _
  rw [e3] at hns₁ hsb₁ ⊢
  have et : s2.toks = s3.toks := by rw [← hs3]
  generalize hC : s3.heap.objs.size = C at hns₁ hsb₁ ⊢
  -- all that stood is kept
  have kept : ∀ b o, s3.heap.get? b = some o → h₁.get? b = some o := fun b o e =>
    (hsb₁.2 b (by rw [← hC]; exact Nat.ne_of_lt (Heap.lt_size e))).trans (Heap.get?_push_of_some _ e)
  have hfn : ∀ x c, (clOf scope.names X.env.cells).lookup x = some c → X.env.cells.lookup x = some c := fun x c e => by
    rcases clOf_mem e with e | e
    · simp at e
    · exact e
  have okind : X.env.scope.kind = .function := I2.ok.kind
  have hcells : ∀ x, (x, NameKind.free) ∈ scope.names → ∃ c, X.env.cells.lookup x = some c := fun x hx =>
    I2.ok.has x (.inl (B.frees _ hx rfl))
  -- the iterator's objects are old
  have flt : ∀ b ∈ fp, b < s2.heap.objs.size := fun b hb => by
    obtain ⟨o, e, _⟩ := T.obj _ _ st2 b hb
    exact Heap.lt_size e
  have f3 : ∀ b ∈ fp, FpOk X pins H3 b := fun b hb => ⟨by rw [← hH3, upd_ne (by rw [← hD]; exact Nat.ne_of_lt (flt b hb))]; exact (f2 b hb).1, (f2 b hb).2⟩
  have flt3 : ∀ b ∈ fp, b < C := fun b hb => by
    rw [← hC, ← e3, Heap.size_push]; exact Nat.lt_succ_of_lt (flt b hb)
  let X' : Cx := cxComp X scope N' C fp s3 H3
  have Ok' : X'.Ok := by
    refine ⟨I3.ok.mod, B.kind, I3.ok.glob, I3.ok.blt, Nat.le_of_eq hC, fun x y c h1 h2 => I3.ok.inj x y c (hfn x c h1) (hfn y c h2), fun x hx => ?_, (fun x c z => nomatch z), fun _ => I3.ok.hd hc, I3.ok.frames, .inl rfl,
      fun b hb => ⟨Nat.ne_of_lt (flt3 b hb), fun x c e => (f3 b hb).2.2.2.2.1 x c (hfn x c e)⟩, I3.bs, Nat.le_trans I3.ok.bsz I3.sz, fun b o e hb => ?_, fun b hb hf => ?_, I3.stack, I3.stkFree⟩
    · have hx' : (x, NameKind.free) ∈ scope.names := relabel_inv B.nocell hx
      exact clOf_has hx' (hcells x hx')
    · obtain ⟨_, _, _, h4, _⟩ := f3 b hb
      rcases h4 with h4 | h4
      · exact I3.ok.noex b o e h4
      · exact absurd (Nat.lt_of_lt_of_le (Nat.lt_of_lt_of_le (Heap.lt_size e) I3.ok.bsz) h4) (Nat.lt_irrefl _)
    · rcases List.mem_cons.mp (I3.stkSub b hf) with z | z
      · exact (f3 b hb).2.1 z
      · exact (f3 b hb).2.2.1 z
  have hfreshC : H3 C = none := I3.hok.fresh (Nat.le_of_eq hC)
  have I4 : Inv X' [] (subSt js σ) H3 { s3 with heap := h₁, toks := s3.toks + ([] : List (Str × Value)).length } := by
    refine ⟨Ok', rfl, I3.bare, Un.kept kept, ⟨_, hns₁, fun i x v e1 e2 e3 => ?_⟩, fun x c e => ?_, hfreshC, fun x c e => I3.freeC x c (hfn x c e), fun p hp => absurd (show p ∈ ([] : List (Addr × Obj)) from hp) (by simp), I3.hok.kept kept, ?_⟩
    · -- a name from around
      have ej : ∃ j, js[i]? = some (some j) ∧ σ[j]? = some (some v) := by
        unfold subSt at e2
        rw [List.getElem?_map] at e2
        cases q : js[i]? with
        | none => rw [q] at e2; cases e2
        | some j =>
          rw [q] at e2
          cases j with
          | none => simp at e2
          | some j =>
            refine ⟨j, rfl, ?_⟩
            simp at e2
            cases q2 : σ[j]? with
            | none => rw [q2] at e2; simp at e2
            | some o => rw [q2] at e2; simp at e2; rw [e2]
      obtain ⟨j, q1, q2⟩ := ej
      obtain ⟨y, z1, z2, z3, z4⟩ := compOk_get B.ok q1
      have hy : y = x := by
        have e1' : N'[i]? = some x := e1
        rw [z1] at e1'; exact Option.some.inj e1'
      subst hy
      obtain ⟨m, hn, hl⟩ := I3.loc
      obtain ⟨u, r, l⟩ := hl j y v z2 q2 (.inr (.inl z3))
      refine ⟨u, r, .inr ?_⟩
      rcases l with ⟨k, _⟩ | ⟨k, c, ec, z⟩
      · have : X.env.kindOf y = some .cell := z3
        rw [this] at k; cases k
      · have hfree : (y, NameKind.free) ∈ scope.names := PySem.mem_of_lookup z4
        obtain ⟨c', ec'⟩ := clOf_has (cs := []) hfree ⟨c, ec⟩
        have : c' = c := by have := hfn y c' ec'; rw [ec] at this; exact (Option.some.inj this).symm
        subst this
        refine ⟨.inl (relabel_free z4 okind z3), c', ec', ?_⟩
        obtain ⟨o, ho, hd⟩ := z
        exact ⟨o, kept _ o ho, hd⟩
    · obtain ⟨v, o, ho, hd⟩ := I3.cell x c (hfn x c e)
      exact ⟨v, o, kept _ o ho, hd⟩
    · unfold subSt
      rw [List.length_map]
      exact (compOk_len B.ok).symm
  obtain ⟨hg, htt, hte⟩ := hb C fp s3 H3
  have stat : ∀ {H' : Hp}, (∀ b ∈ fp, H' b = none) → ∀ b ∈ fp, FpOk X' [] H' b := fun hn b hb =>
    ⟨hn b hb, Nat.ne_of_lt (flt3 b hb), fun z => by
      rcases List.mem_cons.mp (I3.stkSub b z) with z | z
      · exact (f3 b hb).2.1 z
      · exact (f3 b hb).2.2.1 z, .inl hb, fun x c e => (f3 b hb).2.2.2.2.1 x c (hfn x c e), fun p hp => absurd (show p ∈ ([] : List (Addr × Obj)) from hp) (by simp)⟩
  have st4 : tn 0 h₁ := T.keep _ _ _ st2 fun b hb o e => kept b o (by rw [← e3]; exact Heap.get?_push_of_some _ e)
  have loop : ∀ s₃ : Shared, s₃ = { s2 with heap := h₁, toks := s2.toks + ([] : List (Str × Value)).length } →
      codeAny (model X.prog X.w) X.A (.compLoop (.ListComp elt [⟨tg, iter, ifs, 0⟩] scope pos) 0 (.ref it) (.ref D) X'.env) (RR (.ref D) C) s₃ := by
    rintro s₃ rfl
    refine comp_loop (fun n s' => ∃ i σ' H', Inv X' [] σ' H' s' ∧ tn i s'.heap ∧ (∀ b ∈ fp, H' b = none) ∧ W i n σ' H') ?_ m0 ⟨0, subSt js σ, H3, ?_, st4, fun b hb => (f3 b hb).1, w0⟩
    · rintro n s5 ⟨i, σ5, H5, I5, st5, fr5, w5⟩
      rcases turn i n σ5 H5 w5 with ⟨stop, qn⟩ | ⟨go, N, hN, step⟩
      · refine thn (T.done X' rfl rfl rfl rfl i [] s5 σ5 H5 X'.xe I5 (stat fr5) st5 stop) fun r s6 ⟨hr, I6⟩ => ?_
        subst hr
        obtain ⟨m, hn6, _⟩ := I6.loc
        have Ib : Inv X pins σ H5 s6 := by
          exact I3.call' (ch := fp) I6.os I6.base I6.hok I6.bare fun b hb => ⟨(f3 b hb).2.2.2.1, (f3 b hb).2.1, (f3 b hb).2.2.2.2.1, (f3 b hb).2.2.2.2.2⟩
        refine hR D C s6 H5 m Ib hn6 ?_ qn
        have hC3 : s3.heap.objs.size ≤ C := Nat.le_of_eq hC
        exact I3.fpOk hC3 I6.free
      · refine thn (T.item X' rfl rfl rfl rfl i [] s5 σ5 H5 X'.xe I5 (stat fr5) st5 go) fun r s6 ⟨u, hr, h6⟩ => ?_
        subst hr
        refine thn h6 fun _ s7 ⟨x, H7, I7, r7, y7, st7, fr7⟩ => ?_
        have I7' := I7.pinned (stat fr7) (T.obj _ _ st7)
        refine thn (hg _ s7 σ5 H7 x u _ I7' r7 (step x H7 y7)) fun _ s8 ⟨σ8, H8, I8, q8⟩ => ?_
        have again : ∀ {σ9 : St} {H9 : Hp} {s9 : Shared}, Inv X' ([] ++ pinsAt fp s7.heap) σ9 H9 s9 → N σ9 H9 → ∃ m, m < n ∧ ∃ i σ' H', Inv X' [] σ' H' s9 ∧ tn i s9.heap ∧ (∀ b ∈ fp, H' b = none) ∧ W i m σ' H' := fun {σ9 H9 s9} I9 n9 => by
          obtain ⟨m', hm, w9⟩ := hN σ9 H9 n9
          refine ⟨m', hm, i + 1, σ9, H9, I9.unpinned, T.keep _ _ _ st7 fun b hb o e => (I9.pin (b, o) (List.mem_append_right _ (List.mem_append_right _ (mem_pinsAt hb e)))).1, fun b hb => ?_, w9⟩
          obtain ⟨o, e, d⟩ := T.obj _ _ st7 b hb
          exact (I9.pin (b, o) (List.mem_append_right _ (List.mem_append_right _ (mem_pinsAt hb e)))).2.1
        refine thn (htt _ s8 σ8 H8 _ I8 q8) fun ok s9 ⟨H9, I9, q9⟩ => ?_
        cases ok with
        | false => exact again I9 q9
        | true =>
          refine thn (hte _ s9 σ8 H9 _ I9 q9) fun v s10 ⟨y, H10, I10, ry, ys, hys, hlen, n10⟩ => ?_
          refine thn (mt_append (X := X') _ s10 σ8 H10 (.ref D) [y] (.ref D) [v] (fun z H' => N σ8 H') I10 rfl (.cons ry .nil) ⟨D, ys, y, rfl, rfl, hys, hlen, n10⟩) fun _ s11 ⟨_, H11, I11, _, n11⟩ => again I11 n11
    · have e : ({ s2 with heap := h₁, toks := s2.toks + ([] : List (Str × Value)).length } : Shared) = { s3 with heap := h₁, toks := s3.toks + ([] : List (Str × Value)).length } := by rw [← hs3]
      rw [e]
      exact I4
  exact codeAny_compStart_list (loop _ rfl) (T.self X.A 0 _ _ _ st4 (loop _ rfl))

/-- [elt for tg in iter if c] -/
theorem pe_comp {wi : TI} (B : BlkScope X scope N' js) (hc : X.calm = true) (hi : PI X tg iter wi)
    (hb : ∀ C fp s₀ H₀, PG (cxComp X scope N' C fp s₀ H₀) tg g ∧ PTs (cxComp X scope N' C fp s₀ H₀) ifs tt ∧ PE (cxComp X scope N' C fp s₀ H₀) elt te)
    (hs : ∀ x, foldedSetIterable iter X.env x = pure x := by intro _; rfl) : PE X (.ListComp elt [⟨tg, iter, ifs, 0⟩] scope pos) (tComp wi js g tt te) := by
  intro pins s σ H Q I h
  rw [eval_ListComp]
  have hcells : ∀ x, (x, NameKind.free) ∈ scope.names → ∃ c, X.env.cells.lookup x = some c := fun x hx => I.ok.has x (.inl (B.frees _ hx rfl))
  refine wpAny_comprehension_free (use := none) rfl hs (closure_of hcells) B.kind B.locs (thn (hi pins s σ H _ I h) fun v s1 h1 => thn h1 fun itv s2 h2 => ?_)
  obtain ⟨it, fp, tn, J, H2, e, I2, T, st2, f2, hR⟩ := h2
  subst e
  refine comp_core (RR := fun acc C => compPost (model X.prog X.w) X.A X.xe none (EP X pins σ Q) acc C) B hc hb I2 T st2 f2 hR ?_
  intro D C s' H' m I' hn hf q
  exact ⟨m, hn, fun h' hs' => ⟨.ref D, H', I'.gone hs' hf, rfl, q⟩⟩
/-- y = [elt for tg in iter if c] -/
theorem ps_setC {wi : TI} {i : Nat} {y : Str} {py spos : Pos} (B : BlkScope X scope N' js) (hc : X.calm = true) (hi : PI X tg iter wi)
    (hb : ∀ C fp s₀ H₀, PG (cxComp X scope N' C fp s₀ H₀) tg g ∧ PTs (cxComp X scope N' C fp s₀ H₀) ifs tt ∧ PE (cxComp X scope N' C fp s₀ H₀) elt te)
    (hN : X.N.Nodup) (hy : X.N[i]? = some y) (hx : Loc X.env.scope y)
    (hsw : swapsWith (.ListComp elt [⟨tg, iter, ifs, 0⟩] scope pos) (some (.Name y py)) spos.line X.env = pure true := by rfl)
    (hs : ∀ x, foldedSetIterable iter X.env x = pure x := by intro _; rfl) (hf : X.fn y = true ∨ X.env.scope.names.lookup y = some .local := by first | exact .inl rfl | exact .inr rfl) :
    PS X (.Assign [.Name y py] (.ListComp elt [⟨tg, iter, ifs, 0⟩] scope pos) spos) (tAsg (tComp wi js g tt te) (gName i)) := by
  intro pins s σ H D I h
  have hcells : ∀ x, (x, NameKind.free) ∈ scope.names → ∃ c, X.env.cells.lookup x = some c := fun x hx => I.ok.has x (.inl (B.frees _ hx rfl))
  rw [exec_Assign_Name_used _ _ _ _ hsw]
  refine wpAny_bind (wpAny_standAt (wpAny_bind ?_))
  show wpAny _ X.A (do let _ ← comprehension (.ListComp elt [⟨tg, iter, ifs, 0⟩] scope pos) scope X.env _ (newList []) false (eval iter X.env) (some (assign (.Name y py) X.env))) _ _ s
  refine wpAny_bind (wpAny_mono (wpAny_comprehension_free (use := some (assign (.Name y py) X.env)) (Q := fun _ s' => SP X pins D .next s') rfl hs (closure_of hcells) B.kind B.locs
    (thn (hi pins s σ H _ I h) fun v s1 h1 => thn h1 fun itv s2 h2 => ?_)) (fun _ s' hq => wpAny_pure (wpAny_pure hq)) fun _ _ e => e)
  obtain ⟨it, fp, tn, J, H2, e, I2, T, st2, f2, hR⟩ := h2
  subst e
  refine comp_core (RR := fun acc C => compPost (model X.prog X.w) X.A X.xe (some (assign (.Name y py) X.env)) (fun _ s' => SP X pins D .next s') acc C) B hc hb I2 T st2 f2 hR ?_
  intro L C s' H' m I' hn hfp q
  show wpAny _ X.A (assign (.Name y py) X.env (.ref L)) _ _ _
  refine wpAny_assign_Name (store_ok2 I' hN hy hx (show RelV (.ref L) (.ref L) from rfl) (fun s'' I'' ⟨a, hs'', ha⟩ => ?_) hf)
  have hCa : C ≠ a := by
    rcases ha with ha | ha
    · rw [ha]; exact hfp.2.1
    · exact (hfp.2.2.2.2.1 y a ha).symm
  exact ⟨m, hn.sameBut hs'' hCa, fun h' hs' => ⟨_, H', I''.gone hs' hfp, q⟩⟩
end
end L2


set_option Elab.async false
set_option linter.all false
set_option maxRecDepth 100000
set_option maxHeartbeats 4000000
namespace L2
open PySem PySem.Spec PyProof.Rows
/-! ### the heap grows: what stood stands, a dict may have been shut -/
def Ext (H H' : Hp) : Prop := ∀ b o, H b = some o → H' b = some o ∨ ((∃ kvs, o = .dK kvs) ∧ ∃ ob, H' b = some (.frz ob o))
section
variable {H H1 H2 : Hp} {a b l : Addr} {o : HO} {xs : List V} {K : PySem.W.Frag}
theorem Ext.refl (H : Hp) : Ext H H := fun _ _ h => .inl h
theorem Ext.trans (x : Ext H H1) (y : Ext H1 H2) : Ext H H2 := fun b o h => by
  rcases x b o h with h1 | ⟨⟨kvs, e⟩, ob, h1⟩
  · exact y b o h1
  · rcases y b _ h1 with h2 | ⟨⟨kvs', e'⟩, _⟩
    · exact .inr ⟨⟨kvs, e⟩, ob, h2⟩
    · cases e'
theorem Ext.keep (x : Ext H H1) (h : H b = some o) (hn : ∀ kvs, o ≠ .dK kvs) : H1 b = some o := by
  rcases x b o h with h1 | ⟨⟨kvs, e⟩, _⟩
  · exact h1
  · exact absurd e (hn kvs)
theorem Ext.lst (x : Ext H H1) (h : H b = some (.lst xs)) : H1 b = some (.lst xs) := x.keep h fun _ e => nomatch e
theorem Ext.ins {C dx : Addr} {fs : List (Str × V)} (x : Ext H H1) (h : H b = some (.ins C dx fs)) : H1 b = some (.ins C dx fs) := x.keep h fun _ e => nomatch e
theorem Ext.free (x : Ext H H1) (h : H1 l = none) : H l = none := by
  cases q : H l with
  | none => rfl
  | some o =>
    rcases x l o q with h1 | ⟨_, ob, h1⟩
    · rw [h] at h1; cases h1
    · rw [h] at h1; cases h1
theorem Ext.new (h : H l = none) : Ext H (upd H l o) := fun b u e => .inl (by rw [upd_ne (ne_of_none e h)]; exact e)
theorem Ext.newer (x : Ext H H1) (h : H1 l = none) : Ext H (upd H1 l o) := x.trans (Ext.new h)
/-- a store at an address that was not there ahead -/
theorem Ext.over (x : Ext H H1) (h : H l = none) : Ext H (upd H1 l o) := fun b u e => by
  rw [upd_ne (ne_of_none e h)]; exact x b u e
theorem Ext.sqL (x : Ext H H1) (h : SqL K H a xs) : SqL K H1 a xs := by
  rcases h with (h | ⟨ob, h⟩) | h
  · exact .inl (.inl (x.lst h))
  · exact .inl (.inr ⟨ob, x.keep h fun _ e => nomatch e⟩)
  · exact .inr h
theorem Ext.rdK {kvs : List (Key × V)} (x : Ext H H1) (h : Rd H a (.dK kvs)) : Rd H1 a (.dK kvs) := by
  rcases h with h | ⟨ob, h⟩
  · rcases x a _ h with h1 | ⟨_, ob, h1⟩
    · exact .inl h1
    · exact .inr ⟨ob, h1⟩
  · exact .inr ⟨ob, x.keep h fun _ e => nomatch e⟩
end

/-! ### what only grows the heap -/
def PureT (tt : TT) (σ : St) (H : Hp) (b : Bool) : Prop := ∀ Q : Bool → Hp → Prop, (∀ H', Ext H H' → Q b H') → tt σ H Q
def PureE (te : TE) (σ : St) (H : Hp) (Φ : V → Hp → Prop) : Prop := ∀ Q : VK, (∀ v H', Ext H H' → Φ v H' → Q v H') → te σ H Q

/-- all but lists and dicts stands as it stood -/
def Keep (H H' : Hp) : Prop := ∀ b o, H b = some o → (∀ xs, o ≠ .lst xs) → (∀ kvs, o ≠ .dK kvs) → H' b = some o
theorem Ext.kp {H H' : Hp} (x : Ext H H') : Keep H H' := fun _ _ h _ hn => x.keep h hn
theorem Keep.over {H : Hp} {D : Addr} {ys zs : List V} (h : H D = some (.lst ys)) : Keep H (upd H D (.lst zs)) := fun b o e hl _ => by
  have : b ≠ D := fun z => by subst z; rw [h] at e; cases e; exact hl _ rfl
  rw [upd_ne this]; exact e
theorem Paired.imp2 {α β : Type} {F G : α → β → Prop} (h : ∀ a b, F a b → G a b) : ∀ {xs : List α} {ys : List β}, Paired F xs ys → Paired G xs ys
  | _, _, .nil => .nil
  | _, _, .cons r t => .cons (h _ _ r) (Paired.imp2 h t)
/-- a block over things known by their number, each element pure: p the test, Φ the element -/
theorem block_pure {J : It} {n : Nat} {f : Nat → V} {tt : TT} {te : TE} {σ : St} {H1 : Hp} {Q : VK} {j0 : Option Nat} {jr : List (Option Nat)} (hn : n ≤ sizeLine)
    (hgo : ∀ i H', Ext H1 H' → i < n → J.go i H') (hyl : ∀ i H' x H2, Ext H1 H' → i < n → J.yld i H' x H2 → x = f i ∧ H2 = H') (hst : ∀ H', Ext H1 H' → J.stop n H')
    (p : Nat → Bool) (Φ : Nat → V → Hp → Prop) (hm : ∀ i v H' H2, Keep H' H2 → Φ i v H' → Φ i v H2)
    (htt : ∀ i H', Ext H1 H' → i < n → PureT tt (some (f i) :: subSt jr σ) H' (p i))
    (hte : ∀ i H', Ext H1 H' → i < n → p i = true → PureE te (some (f i) :: subSt jr σ) H' (Φ i))
    (hQ : ∀ D H' ys, H1 D = none → Ext H1 H' → H' D = some (.lst ys) → Paired (fun i y => Φ i y H') ((List.range n).filter p) ys → Q (.ref D) H') :
    tBlock J (j0 :: jr) (gName 0) tt te σ H1 Q := by
  intro D hD
  refine ⟨fun i m σ' H' => m = n - i ∧ i ≤ n ∧ (∃ y, σ' = y :: subSt jr σ) ∧ Ext H1 H' ∧ ∃ ys, H' D = some (.lst ys) ∧ Paired (fun i y => Φ i y H') ((List.range i).filter p) ys,
    ⟨n, by simp, Nat.zero_le _, ⟨_, rfl⟩, Ext.new hD, [], upd_same, .nil⟩, ?_⟩
  rintro i m σ' H' ⟨rfl, hi, ⟨y, rfl⟩, x, ys, hys, hp⟩
  by_cases hlt : i < n
  · refine .inr ⟨hgo i H' x hlt, fun σ2 H2 => (∃ y, σ2 = y :: subSt jr σ) ∧ Ext H1 H2 ∧ ∃ ys, H2 D = some (.lst ys) ∧ Paired (fun i y => Φ i y H2) ((List.range (i + 1)).filter p) ys, fun σ2 H2 h => ⟨n - (i + 1), by omega, rfl, hlt, h⟩, ?_⟩
    intro v H2 hy
    obtain ⟨rfl, rfl⟩ := hyl i H' v H2 x hlt hy
    refine htt i _ x hlt _ fun H4 x4 => ?_
    have er : (List.range (i + 1)).filter p = (List.range i).filter p ++ (if p i then [i] else []) := by
      rw [List.range_succ, List.filter_append]
      cases hpi : p i <;> simp [hpi]
    cases hpi : p i with
    | false =>
      rw [if_neg (by decide)]
      refine ⟨⟨_, rfl⟩, x.trans x4, ys, x4.lst hys, ?_⟩
      rw [er, hpi]
      simpa using Paired.imp2 (fun i y h => hm i y _ _ x4.kp h) hp
    | true =>
      rw [if_pos rfl]
      refine hte i _ (x.trans x4) hlt hpi _ fun w H5 x5 hw => ?_
      have hy5 := x5.lst (x4.lst hys)
      have hlen : ys.length = ((List.range i).filter p).length := hp.length.symm
      have hle : ((List.range i).filter p).length ≤ i := Nat.le_trans (List.length_filter_le _ _) (by simp)
      refine ⟨ys, hy5, by omega, ⟨_, rfl⟩, Ext.over ((x.trans x4).trans x5) hD, ys ++ [w], upd_same, ?_⟩
      rw [er, hpi]
      have k := Keep.over (zs := ys ++ [w]) hy5
      exact Paired.snoc (Paired.imp2 (fun i y h => hm i y _ _ k (hm i y _ _ (x4.trans x5).kp h)) hp) (hm i w _ _ k hw)
  · have e : i = n := by omega
    subst e
    exact .inl ⟨hst H' x, hQ D H' ys hD x hys hp⟩
/-- .. over a list -/
theorem block_list {K : PySem.W.Frag} {a : Addr} {xs : List V} {tt : TT} {te : TE} {σ : St} {H1 : Hp} {Q : VK} {j0 : Option Nat} {jr : List (Option Nat)} (hS : SqL K H1 a xs) (hn : xs.length ≤ sizeLine)
    (p : V → Bool) (Φ : V → V → Hp → Prop) (hm : ∀ x v H' H2, Keep H' H2 → Φ x v H' → Φ x v H2)
    (htt : ∀ x H', x ∈ xs → Ext H1 H' → PureT tt (some x :: subSt jr σ) H' (p x))
    (hte : ∀ x H', x ∈ xs → Ext H1 H' → p x = true → PureE te (some x :: subSt jr σ) H' (Φ x))
    (hQ : ∀ D H' ys, H1 D = none → Ext H1 H' → H' D = some (.lst ys) → Paired (fun x y => Φ x y H') (xs.filter p) ys → Q (.ref D) H') :
    tBlock (Itl K a) (j0 :: jr) (gName 0) tt te σ H1 Q := by
  have get : ∀ i, i < xs.length → ∃ x, xs[i]? = some x ∧ x ∈ xs ∧ xs.getD i .non = x := fun i hi => ⟨xs[i], by simp [hi], by simp, by simp [hi]⟩
  refine block_pure (n := xs.length) (f := fun i => xs.getD i .non) hn (fun i H' x hi => ?_) (fun i H' v H2 x hi hy => ?_) (fun H' x => ⟨xs, x.sqL hS, Nat.le_refl _⟩) (fun i => p (xs.getD i .non)) (fun i => Φ (xs.getD i .non)) (fun i => hm _) (fun i H' x hi => ?_) (fun i H' x hi hp => ?_) (fun D H' ys h1 h2 h3 h4 => hQ D H' ys h1 h2 h3 ?_)
  · obtain ⟨v, e, _⟩ := get i hi
    exact ⟨xs, v, x.sqL hS, e⟩
  · obtain ⟨v', e, _, e'⟩ := get i hi
    obtain ⟨h1, h2⟩ := hy
    have := h2 xs (x.sqL hS)
    rw [e] at this
    exact ⟨by rw [e']; exact (Option.some.inj this).symm, h1⟩
  · obtain ⟨v, e, hv, e'⟩ := get i hi
    rw [e']; exact htt v H' hv x
  · obtain ⟨v, e, hv, e'⟩ := get i hi
    rw [e'] at hp ⊢; exact hte v H' hv x hp
  · have e1 : xs = (List.range xs.length).map fun i => xs.getD i .non := by
      apply List.ext_getElem
      · simp
      · intro i h1 h2
        simp [List.getElem?_eq_getElem h1]
    have e2 : xs.filter p = ((List.range xs.length).filter fun i => p (xs.getD i .non)).map fun i => xs.getD i .non := by
      conv => lhs; rw [e1]
      rw [List.filter_map]
      rfl
    rw [e2]
    have : ∀ {is : List Nat} {ys : List V}, Paired (fun i y => Φ (xs.getD i .non) y H') is ys → Paired (fun x y => Φ x y H') (is.map fun i => xs.getD i .non) ys := by
      intro is ys h
      induction h with
      | nil => exact .nil
      | cons r _ ih => exact .cons r ih
    exact this h4
/-- .. by a function -/
theorem block_map {K : PySem.W.Frag} {a : Addr} {xs : List V} {tt : TT} {te : TE} {σ : St} {H1 : Hp} {Q : VK} {j0 : Option Nat} {jr : List (Option Nat)} (hS : SqL K H1 a xs) (hn : xs.length ≤ sizeLine)
    (p : V → Bool) (f : V → V)
    (htt : ∀ x H', x ∈ xs → Ext H1 H' → PureT tt (some x :: subSt jr σ) H' (p x))
    (hte : ∀ x H', x ∈ xs → Ext H1 H' → p x = true → PureE te (some x :: subSt jr σ) H' (fun v _ => v = f x))
    (hQ : ∀ D H', H1 D = none → Ext H1 H' → H' D = some (.lst ((xs.filter p).map f)) → Q (.ref D) H') :
    tBlock (Itl K a) (j0 :: jr) (gName 0) tt te σ H1 Q := by
  refine block_list hS hn p (fun x v _ => v = f x) (fun _ _ _ _ _ h => h) htt hte fun D H' ys h1 h2 h3 h4 => hQ D H' h1 h2 ?_
  have : ∀ {as : List V} {ys : List V}, Paired (fun x y => y = f x) as ys → ys = as.map f := by
    intro as ys h
    induction h with
    | nil => rfl
    | cons r _ ih => rw [r, ih]; rfl
  rw [h3, this h4]
/-- .. without a test -/
theorem block_map1 {K : PySem.W.Frag} {a : Addr} {xs : List V} {te : TE} {σ : St} {H1 : Hp} {Q : VK} {j0 : Option Nat} {jr : List (Option Nat)} (hS : SqL K H1 a xs) (hn : xs.length ≤ sizeLine) (f : V → V)
    (hte : ∀ x H', x ∈ xs → Ext H1 H' → PureE te (some x :: subSt jr σ) H' (fun v _ => v = f x))
    (hQ : ∀ D H', H1 D = none → Ext H1 H' → H' D = some (.lst (xs.map f)) → Q (.ref D) H') :
    tBlock (Itl K a) (j0 :: jr) (gName 0) tYes te σ H1 Q :=
  block_map hS hn (fun _ => true) f (fun _ H' _ _ Q h => h H' (Ext.refl _)) (fun x H' hx x1 _ => hte x H' hx x1) fun D H' h1 h2 h3 => hQ D H' h1 h2 (by rw [List.filter_eq_self.mpr (fun _ _ => rfl)] at h3; exact h3)
end L2


set_option Elab.async false
set_option linter.all false
set_option maxRecDepth 100000
set_option maxHeartbeats 4000000
namespace L2
open PySem PySem.Spec PyProof.Rows
/-! ### a walk over a dict's keys: the dict is shut meanwhile -/
section
variable {X : Cx} {pins : List (Addr × Obj)} {σ : St} {H : Hp} {s : Shared} {a : Addr} {kvs : List (Key × V)}
theorem Inv.shut {o : Obj} (I : Inv X pins σ H s) (h : H a = some (.dK kvs)) (e : s.heap.get? a = some o) : Inv X pins σ (upd H a (.frz o (.dK kvs))) s := by
  have hne : ∀ b u, H b = some u → (∀ kvs, u ≠ .dK kvs) → b ≠ a := fun b u q hn z => by subst z; rw [h] at q; cases q; exact hn _ rfl
  have un : Un X.fs [] H (upd H a (.frz o (.dK kvs))) s.heap s.heap :=
    ⟨fun b ob q _ _ _ => q, fun b ob q _ _ _ => ⟨ob.slots, q⟩, fun b ob q n _ => by rw [upd_ne (fun z => by subst z; rw [h] at n; cases n)]; exact n, fun b ob q _ => ⟨ob, q⟩,
      fun b xs q => by rw [upd_ne (hne b _ q fun _ z => nomatch z)]; exact q, fun b ob u q => by rw [upd_ne (hne b _ q fun _ z => nomatch z)]; exact q,
      fun b ps q => ⟨#[], by rw [upd_ne (hne b _ q fun _ z => nomatch z), q]; simp⟩⟩
  have hok : HOk X.prog X.w (upd H a (.frz o (.dK kvs))) s.heap := fun b u q => by
    have stay : ∀ {b u}, ObjOk X.prog X.w H s.heap b u → ObjOk X.prog X.w (upd H a (.frz o (.dK kvs))) s.heap b u := fun z =>
      z.stay (fun _ _ _ q => q) (fun c q => by rw [upd_ne (hne c _ q fun _ z => nomatch z)]; exact q) fun c xs q => by rw [upd_ne (hne c _ q fun _ z => nomatch z)]; exact q
    by_cases hb : b = a
    · subst hb
      rw [upd_same] at q
      cases q
      exact ⟨e, stay (I.hok _ _ h)⟩
    · rw [upd_ne hb] at q
      exact stay (I.hok b u q)
  exact I.un (h' := s.heap) (t' := s.toks) un hok

theorem key_rel {k : Key} {u : Value} (h : (mixKind X.prog X.w).is k u = true) : RelV (kV k) u := by
  rw [mixKind_is] at h
  rcases keyIs_shape h with ⟨i, t, rfl, rfl⟩ | ⟨x, t, rfl, rfl⟩
  · exact ⟨t, rfl⟩
  · exact ⟨t, rfl⟩
def Itd (a : Addr) (o : Obj) (kvs : List (Key × V)) : It :=
  ⟨fun i H => i < kvs.length ∧ H a = some (.frz o (.dK kvs)), fun i H x H' => H' = H ∧ ∃ p, kvs[i]? = some p ∧ x = kV p.1, fun i H => kvs.length ≤ i ∧ H a = some (.frz o (.dK kvs))⟩
theorem KV.get {κ : Type} : ∀ {kvs : List (κ × V)} {vs : List (κ × Value)} {i : Nat} {p : κ × V}, KV kvs vs → kvs[i]? = some p → ∃ u, vs[i]? = some (p.1, u) ∧ RelV p.2 u
  | _, _, _, _, .nil, e => by simp at e
  | _, (k, u) :: _, 0, _, .cons r _, e => by simp at e; subst e; exact ⟨u, by simp [r.1], r.2⟩
  | _, _, i + 1, p, .cons _ t, e => by
    obtain ⟨u, h1, h2⟩ := KV.get (i := i) (p := p) t (by simpa using e)
    exact ⟨u, by simpa using h1, h2⟩
theorem turn_dict {P : Program} {w : World} {K : PySem.W.Frag} {tg : Expr} {o : Obj} {es : Array DictEntry} {ep : Nat} (a it : Addr) (ho : o.data = .dict es ep) :
    Turn P w K tg (Itd a o kvs) [it] it (fun i h => h.IsKeyIter it a i kvs.length ep) where
  mem := by simp
  obj := fun i h st b hb => by
    have e : b = it := by simpa using hb
    subst e
    obtain ⟨ob, e, c, d⟩ := st
    exact ⟨ob, e, fun v z => by rw [d] at z; cases z⟩
  keep := fun i h h' st k => st.at fun o e => k it (by simp) o e
  item := by
    intro X hP hw hK hc i pins s σ H E I hf st hg
    subst hP hw hK
    obtain ⟨hi, hH⟩ := hg
    obtain ⟨eo, hz, hs, vs, kv, od⟩ := I.hok a _ hH
    have hl : kvs.length = vs.length := Paired.length kv
    obtain ⟨ob, es', ep', e', ex, d', r⟩ := id od
    rw [eo] at e'; cases e'
    rw [ho] at d'; cases d'
    have at' : s.heap.DictAt (mixKind X.prog X.w) a vs ep := ⟨o, es, eo, ex, ho, r⟩
    obtain ⟨p, hp⟩ : ∃ p, kvs[i]? = some p := ⟨kvs[i], by simp [hi]⟩
    obtain ⟨u, hu, ru⟩ := KV.get kv hp
    obtain ⟨f0, f1, f2, f3, f4, f5⟩ := hf it (by simp)
    refine wpAny_pyNext_dict_item (hl ▸ st) at' hu fun key h' hkey st' sb => ?_
    have I1 : Inv X pins σ H { s with heap := h' } := I.turned (t' := s.toks) (fun b o hb e => (sb.2 b hb).trans e) f0 f1 f3 f4 f5
    obtain ⟨ob, e, c, d⟩ := id st'
    exact ⟨key, rfl, go_of (s := { s with heap := h' }) e c d (by decide) ⟨kV p.1, H, I1, key_rel hkey, ⟨rfl, p, hp, rfl⟩, hl ▸ st', fun b hb => (hf b hb).1⟩⟩
  done := by
    intro X hP hw hK hc i pins s σ H E I hf st hg
    subst hP hw hK
    obtain ⟨hi, hH⟩ := hg
    obtain ⟨eo, hz, hs, vs, kv, od⟩ := I.hok a _ hH
    have hl : kvs.length = vs.length := Paired.length kv
    obtain ⟨ob, es', ep', e', ex, d', r⟩ := id od
    rw [eo] at e'; cases e'
    rw [ho] at d'; cases d'
    have at' : s.heap.DictAt (mixKind X.prog X.w) a vs ep := ⟨o, es, eo, ex, ho, r⟩
    obtain ⟨f0, f1, f2, f3, f4, f5⟩ := hf it (by simp)
    exact wpAny_pyNext_dict_end (I.ok.hd hc) (hl ▸ st) at' (by simp; omega) fun h' eb => ⟨rfl, I.turned (t' := s.toks) (fun b o hb e => eb b o hb e) f0 f1 f3 f4 f5⟩
  self := fun _ _ _ _ _ st h => wpAny_pyIter_keyiter st h
def iDict (tl : TE) : TI := fun σ H R => tl σ H fun x H1 => ∃ a kvs, x = .ref a ∧ Rd H1 a (.dK kvs) ∧ ∀ o H2, Ext H1 H2 → H2 a = some (.frz o (.dK kvs)) → (∀ b, b ≠ a → H2 b = H1 b) → R (Itd a o kvs) H2
theorem pi_dict {l tg : Expr} {tl : TE} (hl : PE X l tl) : PI X tg l (iDict tl) := by
  intro pins s σ H R I h
  refine thn (hl pins s σ H _ I h) fun v s1 ⟨x, H1, I1, r1, q1⟩ => ?_
  obtain ⟨a, kvs, e, rd, q⟩ := q1
  subst e
  cases r1
  have ⟨o, H2, I2, hH2, x2, ne2⟩ : ∃ o H2, Inv X pins σ H2 s1 ∧ H2 a = some (.frz o (.dK kvs)) ∧ Ext H1 H2 ∧ ∀ b, b ≠ a → H2 b = H1 b := by
    rcases rd with h | ⟨o, h⟩
    · obtain ⟨_, _, _, _, o, _, _, e, _⟩ := I1.hok a _ h
      refine ⟨o, _, I1.shut h e, upd_same, fun b u q2 => ?_, fun b hb => upd_ne hb⟩
      by_cases hb : b = a
      · subst hb
        rw [h] at q2
        cases q2
        exact .inr ⟨⟨_, rfl⟩, o, upd_same⟩
      · exact .inl (by rw [upd_ne hb]; exact q2)
    · exact ⟨o, H1, I1, h, Ext.refl _, fun _ _ => rfl⟩
  obtain ⟨eo, hz, hs, vs, kv, od⟩ := I2.hok a _ hH2
  have hll : kvs.length = vs.length := Paired.length kv
  obtain ⟨ob, es, ep, e', ex, d', r⟩ := id od
  rw [eo] at e'; cases e'
  have at' : s1.heap.DictAt (mixKind X.prog X.w) a vs ep := ⟨o, es, eo, ex, d', r⟩
  refine wpAny_pyIter_dict hs at' ?_
  refine ⟨s1.heap.objs.size, [s1.heap.objs.size], _, _, H2, rfl, I2.kept (t' := s1.toks) fun b o e => Heap.get?_push_of_some _ e, turn_dict (es := es) (ep := ep) a _ d', ?_, fun b hb => ?_, q o H2 x2 hH2 ne2⟩
  · rw [hll]
    exact ⟨_, Heap.get?_push_size _ rfl, rfl, rfl⟩
  · have e : b = s1.heap.objs.size := by simpa using hb
    subst e
    exact I2.fpOk (Nat.le_refl _) (I2.hok.fresh (Nat.le_refl _))
end
end L2


set_option Elab.async false
set_option linter.all false
set_option maxRecDepth 100000
set_option maxHeartbeats 4000000
namespace L2
open PySem PySem.Spec PyProof.Rows Tw
/-! ### slices of texts -/
def cutL {α : Type} (xs : List α) (lo hi : Option Int) : List α := (xs.drop (HT.sIx xs.length 0 lo)).take (HT.sIx xs.length xs.length hi - HT.sIx xs.length 0 lo)
theorem cutL_length {α : Type} (xs : List α) (lo hi : Option Int) : (cutL xs lo hi).length ≤ xs.length := by
  unfold cutL; rw [List.length_take, List.length_drop]; omega
theorem filterMap_run {α : Type} : ∀ (xs : List α) (a n : Nat), ((List.range n).map fun k => a + k).filterMap (fun i => xs[i]?) = (xs.drop a).take n := by
  intro xs a n
  induction n generalizing a with
  | zero => simp
  | succ n ih =>
    rw [List.range_succ_eq_map, List.map_cons, List.filterMap_cons, List.map_map]
    have e : ((List.range n).map ((fun k => a + k) ∘ Nat.succ)) = (List.range n).map fun k => (a + 1) + k := by
      apply List.map_congr_left; intro k _; simp; omega
    rw [e, ih (a + 1), Nat.add_zero]
    cases h : xs[a]? with
    | none =>
      have := List.getElem?_eq_none_iff.mp h
      rw [List.drop_of_length_le this, List.drop_of_length_le (by omega)]
      simp
    | some x =>
      obtain ⟨h1, h2⟩ := List.getElem?_eq_some_iff.mp h
      rw [List.drop_eq_getElem_cons h1, List.take_succ_cons, h2]
theorem strIdx (lo hi : Option Int) (n : Nat) : Builtin.Str.strSliceIndices lo hi 1 n = (List.range (HT.sIx n n hi - HT.sIx n 0 lo)).map fun k => HT.sIx n 0 lo + k := by
  obtain ⟨h1, h2, h3⟩ := slice_bounds lo hi n
  have e : Builtin.Str.strSliceIndices lo hi 1 n = sliceRange (sliceBounds lo hi none n).1 (sliceBounds lo hi none n).2.1 (sliceBounds lo hi none n).2.2 := rfl
  rw [e, h1, h2, h3]
  unfold sliceRange
  simp only [show (1 : Int) > 0 by decide, if_true]
  have e2 : ((if ((HT.sIx n 0 lo : Nat) : Int) < ((HT.sIx n n hi : Nat) : Int) then (((HT.sIx n n hi : Nat) : Int) - ((HT.sIx n 0 lo : Nat) : Int) + 1 - 1) / 1 else 0 : Int)).toNat = HT.sIx n n hi - HT.sIx n 0 lo := by
    split <;> simp <;> omega
  rw [e2]
  apply List.map_congr_left
  intro k _
  omega
def IsPart.opt {v : Value} {o : Option Int} (p : IsPart v o) : ∃ q : Option (Int × Tok), v = partValue q ∧ q.map (·.1) = o := by
  cases p with
  | none => exact ⟨none, rfl, rfl⟩
  | int i t => exact ⟨some (i, t), rfl, rfl⟩
def rSlS : V → Option Int → Option Int → Hp → VK → Prop := fun x lo hi H Q => ∃ a, x = sv a ∧ a.length ≤ sizeLine ∧ Q (sv (cutL a lo hi)) H
section
variable {X : Cx}
theorem sl_str : SlR X rSlS := by
  intro pins s σ H x v vl vu lo hi sl Q I rx hs pl pu h
  obtain ⟨a, rfl, hz, q⟩ := h
  obtain ⟨t, rfl⟩ := rx
  obtain ⟨ql, rfl, el⟩ := IsPart.opt pl
  obtain ⟨qu, rfl, eu⟩ := IsPart.opt pu
  refine ⟨"str", _, PySem.F.slot_str_getitem.lookup, typeIs_str s _ t, ?_⟩
  refine wpAny_getItem_str_slice (l := ql) (u := qu) (st := none) hs rfl ?_
  have hp : ((slicePicked (st a) ql qu none).filterMap ((st a).cps[·]?)) = cutL a lo hi := by
    unfold slicePicked
    rw [el, eu, st_len]
    show (Builtin.Str.strSliceIndices lo hi 1 a.length).filterMap _ = _
    rw [strIdx]
    have : (fun i : Nat => (st a).cps[i]?) = fun i : Nat => a[i]? := by funext i; show (a.toArray)[i]? = a[i]?; simp
    rw [this, filterMap_run]
    rfl
  unfold sliceMade
  split
  · rename_i hc
    have hl : (slicePicked (st a) ql qu none).length = a.length := by
      have := (Bool.and_eq_true _ _ ▸ hc).2
      rw [st_len] at this
      simpa using this
    have hfull : cutL a lo hi = a := by
      have e : (slicePicked (st a) ql qu none).length = HT.sIx a.length a.length hi - HT.sIx a.length 0 lo := by
        unfold slicePicked
        rw [el, eu, st_len]
        show (Builtin.Str.strSliceIndices lo hi 1 a.length).length = _
        rw [strIdx, List.length_map, List.length_range]
      have h1 := HT.sIx_le a.length a.length (Nat.le_refl _) hi
      unfold cutL
      have h0 : HT.sIx a.length 0 lo = 0 ∨ a.length = 0 := by omega
      rcases h0 with h0 | h0
      · rw [h0, List.drop_zero, List.take_of_length_le (by omega)]
      · have : a = [] := List.eq_nil_of_length_eq_zero h0
        subst this; simp
    rw [hfull] at q
    exact ⟨sv a, H, I, ⟨t, rfl⟩, q⟩
  · show Made.post (.str ⟨_⟩) _ _
    rw [hp]
    exact ⟨by rw [show (⟨(cutL a lo hi).toArray⟩ : Str) = st (cutL a lo hi) from rfl, st_len]; exact Nat.le_trans (cutL_length a lo hi) hz, sv (cutL a lo hi), H, I.tok _, ⟨_, rfl⟩, q⟩

/-! ### == of lists of ints, of texts -/
def rEqLI (K : PySem.W.Frag) (neg : Bool) : R2 := fun x y H Q => ∃ (p q : Addr) (ns ms : List Int), x = .ref p ∧ y = .ref q ∧ SqL K H p (ns.map V.int) ∧ SqL K H q (ms.map V.int) ∧ Q (.bl (if neg then !decide (ns = ms) else decide (ns = ms))) H
theorem op_neLI (hu : X.A.units + 64 < cLine) : OpR X (compareOp .NotEq) (rEqLI X.K true) := by
  intro pins s σ H x y v u Q I rx ry h
  obtain ⟨p, q, ns, ms, rfl, rfl, hp, hq, k⟩ := h
  cases rx
  cases ry
  obtain ⟨its, r, pl, _⟩ := I.list hp
  obtain ⟨its', r', pl', _⟩ := I.list hq
  exact PySem.W.ke_ne_ints pl.isList pl'.isList (intsAre_of r) (intsAre_of r') hu ⟨.bl _, H, I, rfl, k⟩
/-! ### sorted, of fewer than 64 -/
theorem ints_vals : ∀ {ns : List Int} {us : List Value}, IntsAre us ns → Vals (ns.map V.int) us
  | _, _, .nil => .nil
  | _, _, .cons _ t r => .cons ⟨t, rfl⟩ (ints_vals r)
end
end L2


set_option Elab.async false
set_option linter.all false
set_option maxRecDepth 100000
set_option maxHeartbeats 4000000
namespace PySem
open PySem.Calls

section
variable {prog : Program} {w : World} {K : Type} [DecidableEq K] {knd : KeyKind prog w K} {A : Around} {R : Result → Shared → Prop}
end
end PySem


set_option Elab.async false
set_option linter.all false
set_option maxRecDepth 100000
set_option maxHeartbeats 4000000
namespace L2
open PySem PySem.Spec PyProof.Rows Tw
section
variable {X : Cx}
end
end L2


set_option Elab.async false
set_option linter.all false
set_option maxRecDepth 100000
set_option maxHeartbeats 4000000
namespace L2
open PySem PySem.Spec PyProof.Rows Tw
/-! ### a def of the text, and what it promises, as its callers take it -/
/-- the def stands under its name -/
def Def (K : PySem.W.Frag) (mg : Str → Option Value) (x qual : Str) (st : Stmt) (ps : List Str) : Prop :=
  ∃ f fd, Fun K x qual st f fd ∧ mg x = some (.ref f) ∧ PySem.W.keepIn K (.ref f) = true ∧ Binds K fd ps []
/-- .. and keeps a promise -/
def Cal (P : Program) (w : World) (K : PySem.W.Frag) (mg : Str → Option Value) (base : Heap) (CX : CXT) (k : Nat) (x : Str) (ps : List Str) (sp : Sp) : Prop :=
  ∃ f fd, FnOk P w K mg base CX k f fd ps sp ∧ mg x = some (.ref f) ∧ PySem.W.keepIn K (.ref f) = true ∧ Binds K fd ps []
section
variable {X : Cx} {CX : CXT} {k : Nat} {x : Str} {ps : List Str} {sp : Sp} {E : XK} {p pos : Pos} {e : Expr} {es : List Expr} {t : TA}
theorem pe_callF (C : Cal X.prog X.w X.K X.mg X.base CX k x ps sp) (hr : Room k X.A) (ha : PA X (e :: es) t) (hx : Passes CX X E) (hg : Gl X x := by rfl) (hdb : (x == ("__debug__" : Str)) = false := by decide)
    (he : starEach (e :: es) X.env = (false, eval e X.env) :: starEach es X.env := by rfl) (hpl : (backTo pos (starEach es X.env)).any (·.1) = false := by rfl) : PE X (.Call (.Name x p) (e :: es) [] pos) (tCall sp [] E t) := by
  obtain ⟨f, fd, F, hm, hk, hb⟩ := C
  exact pe_call F hr hg hm hk hb .nil hx ha hdb he hpl
theorem Def.cal {P : Program} {w : World} {K : PySem.W.Frag} {mg : Str → Option Value} {base : Heap} {qual : Str} {st : Stmt} (D : Def K mg x qual st ps)
    (h : ∀ f fd, Fun K x qual st f fd → FnOk P w K mg base CX k f fd ps sp) : Cal P w K mg base CX k x ps sp := by
  obtain ⟨f, fd, F, hm, hk, hb⟩ := D
  exact ⟨f, fd, h f fd F, hm, hk, hb⟩
end
/-! ### plain data -/
def IsDt (K : PySem.W.Frag) (H : Hp) (v : V) : Prop := ∃ n, TyOf K H v (.type n)
def isIntV : V → Bool | .int _ => true | .bl _ => true | _ => false
def isBoolV : V → Bool | .bl _ => true | _ => false
def isStrV : V → Bool | .str _ => true | _ => false
section
variable {K : PySem.W.Frag} {H : Hp} {v : V}
theorem isi_int (h : IsDt K H v) : ∃ t, TyOf K H v t ∧ PySem.W.kitOne K t (.type "int") = some (isIntV v) := by
  obtain ⟨n, ty⟩ := h
  refine ⟨_, ty, ?_⟩
  cases ty <;> kernel_rfl
theorem isi_bool (h : IsDt K H v) : ∃ t, TyOf K H v t ∧ PySem.W.kitOne K t (.type "bool") = some (isBoolV v) := by
  obtain ⟨n, ty⟩ := h
  refine ⟨_, ty, ?_⟩
  cases ty <;> kernel_rfl
theorem isi_str (h : IsDt K H v) : ∃ t, TyOf K H v t ∧ PySem.W.kitOne K t (.type "str") = some (isStrV v) := by
  obtain ⟨n, ty⟩ := h
  refine ⟨_, ty, ?_⟩
  cases ty <;> kernel_rfl
theorem isi_list (h : IsDt K H v) : ∃ t b, TyOf K H v t ∧ PySem.W.kitOne K t (.type "list") = some b ∧ (b = true ↔ ∃ a xs, v = .ref a ∧ Rd H a (.lst xs)) := by
  obtain ⟨n, ty⟩ := h
  have no : ∀ {a : Addr} {o : HO}, H a = some o → (∀ xs, o ≠ .lst xs) → (∀ ob xs, o ≠ .frz ob (.lst xs)) → ¬ ∃ b xs, V.ref a = .ref b ∧ Rd H b (.lst xs) := by
    rintro a o e h1 h2 ⟨b, xs, hb, hr⟩
    cases hb
    rcases hr with q | ⟨ob, q⟩
    · rw [e] at q; cases q; exact h1 _ rfl
    · rw [e] at q; cases q; exact h2 _ _ rfl
  refine ⟨_, ?b, ty, ?_, ?_⟩
  case b => exact (match v with | .ref a => (match H a with | some (.lst _) => true | some (.frz _ (.lst _)) => true | _ => false) | _ => false)
  · cases ty with
    | lst e => dsimp only; rw [e]; kernel_rfl
    | frz e => dsimp only; rw [e]; kernel_rfl
    | tup e => dsimp only; rw [e]; kernel_rfl
    | dK e => dsimp only; rw [e]; kernel_rfl
    | dT e => dsimp only; rw [e]; kernel_rfl
    | _ => kernel_rfl
  · cases ty with
    | lst e => dsimp only; rw [e]; exact ⟨fun _ => ⟨_, _, rfl, .inl e⟩, fun _ => rfl⟩
    | frz e => dsimp only; rw [e]; exact ⟨fun _ => ⟨_, _, rfl, .inr ⟨_, e⟩⟩, fun _ => rfl⟩
    | tup e => dsimp only; rw [e]; exact ⟨(fun z => nomatch z), fun z => absurd z (no e (fun _ => by simp) fun _ _ => by simp)⟩
    | dK e => dsimp only; rw [e]; exact ⟨(fun z => nomatch z), fun z => absurd z (no e (fun _ => by simp) fun _ _ => by simp)⟩
    | dT e => dsimp only; rw [e]; exact ⟨(fun z => nomatch z), fun z => absurd z (no e (fun _ => by simp) fun _ _ => by simp)⟩
    | _ => exact ⟨(fun z => nomatch z), fun ⟨a, xs, e, _⟩ => nomatch e⟩
end
end L2


set_option linter.all false
namespace Pl
open PySem L2
def top (i : Nat) : Stmt := PySem.Challenge.pw_tworeadings_k05_whole_lengths.main.body.getD i (.Pass ⟨0, 0, 0, 0⟩)
abbrev s_is_whole : Stmt := top 6
abbrev s_is_word : Stmt := top 7
abbrev s_are_words : Stmt := top 8
abbrev s_is_code : Stmt := top 9
abbrev s_is_place : Stmt := top 10
abbrev s_are_places : Stmt := top 11
abbrev s_words_at : Stmt := top 12
abbrev s_joined : Stmt := top 13
abbrev s_check_code : Stmt := top 14
abbrev s_noted : Stmt := top 15
abbrev s_in_order : Stmt := top 16
abbrev s_count_below : Stmt := top 17
abbrev s_grouped : Stmt := top 18
abbrev s_standing : Stmt := top 19
abbrev s_marks_behind : Stmt := top 20
abbrev s_unrolled : Stmt := top 21
abbrev s_copied : Stmt := top 23
abbrev s_are_tails : Stmt := top 24
abbrev s_rests_known : Stmt := top 25
abbrev s_tails_closed : Stmt := top 26
abbrev s_none_begins_next : Stmt := top 27
abbrev s_is_count : Stmt := top 28
abbrev s_are_lengths : Stmt := top 29
abbrev s_spread : Stmt := top 30
abbrev s_overfull : Stmt := top 31
abbrev c_Clash_init : Stmt := inClass (top 33) 0
abbrev c_Clash_shows : Stmt := inClass (top 33) 1
abbrev c_Tails_init : Stmt := inClass (top 34) 0
abbrev c_Tails_shows : Stmt := inClass (top 34) 1
abbrev c_Begins_init : Stmt := inClass (top 35) 0
abbrev c_Begins_shows : Stmt := inClass (top 35) 1
abbrev c_Words_init : Stmt := inClass (top 36) 0
abbrev c_Words_shows : Stmt := inClass (top 36) 1
abbrev c_Full_shows : Stmt := inClass (top 37) 0
abbrev s_check_lengths : Stmt := top 40
abbrev s_first_free : Stmt := top 41
abbrev s_of_lengths : Stmt := top 42
abbrev c_Rest_init : Stmt := inClass (top 45) 0
abbrev s_rest_numbers : Stmt := top 46
abbrev s_first_rests : Stmt := top 47
abbrev s_places_begun : Stmt := top 48
abbrev s_rests_behind : Stmt := top 49
abbrev s_take_new : Stmt := top 50
abbrev s_all_rests : Stmt := top 51
abbrev s_once : Stmt := top 52
abbrev s_law_words : Stmt := top 54
abbrev s_law_full : Stmt := top 55
abbrev s_law : Stmt := top 56
def lamPos : Pos := ⟨32, 42, 32, 69⟩
def lamQual : Str := ("in_order" ++ ".<locals>." : Str) ++ "<lambda>"
end Pl


set_option Elab.async false
set_option linter.all false
set_option maxRecDepth 100000
set_option maxHeartbeats 4000000
namespace L2
open PySem PySem.Spec PyProof.Rows Tw
/-! ### short forms -/
theorem iteT' {c A B : Prop} [Decidable c] (hc : c) (h : A) : if c then A else B := by rw [if_pos hc]; exact h
theorem iteF' {c A B : Prop} [Decidable c] (hc : ¬ c) (h : B) : if c then A else B := by rw [if_neg hc]; exact h
/-- builtin names that the text leaves alone -/
structure Bare (mg : Str → Option Value) : Prop where
  isi : mg "isinstance" = none
  int : mg "int" = none
  bool : mg "bool" = none
  str : mg "str" = none
  list : mg "list" = none
  dict : mg "dict" = none
  all : mg "all" = none
  any : mg "any" = none
  len : mg "len" = none
  range : mg "range" = none
  sorted : mg "sorted" = none
  sum : mg "sum" = none
  enumerate : mg "enumerate" = none
  max : mg "max" = none
  valueError : mg "ValueError" = none
abbrev tIsi (K : PySem.W.Frag) (te : TE) (c : V) : TE := tCB (rIsi K) (tCons te (tCons (tC c) tNil))
section
variable {X : Cx} {e : Expr} {te : TE} {p q pos : Pos}
theorem pe_isi {cv : V} {c : Expr} (hm : X.mg "isinstance" = none) (he : PE X e te) (hc : PE X c (tC cv)) (hg : Gl X "isinstance" := by rfl)
    (hs1 : starEach (e :: [c]) X.env = (false, eval e X.env) :: starEach [c] X.env := by rfl) (hs2 : starEach (c :: []) X.env = (false, eval c X.env) :: starEach [] X.env := by rfl)
    (hpl : (backTo pos (starEach [c] X.env)).any (·.1) = false := by rfl) : PE X (.Call (.Name "isinstance" p) [e, c] [] pos) (tIsi X.K te cv) := by
  exact pe_callB (r := rIsi X.K) call_isi hg hm boot_isinstance (pa_cons he (pa_cons hc pa_nil hs2) hs1) (by decide) (by decide) hs1 hpl
theorem pe_isi_int (B : Bare X.mg) (he : PE X e te) (hg : Gl X "isinstance" := by rfl) (hg2 : Gl X "int" := by rfl)
    (hs1 : starEach (e :: [.Name "int" q]) X.env = (false, eval e X.env) :: starEach [.Name "int" q] X.env := by rfl) : PE X (.Call (.Name "isinstance" p) [e, .Name "int" q] [] pos) (tIsi X.K te (.ty "int")) :=
  pe_isi B.isi he (pe_bltn hg2 B.int boot_int rfl) hg hs1 rfl rfl
theorem pe_isi_bool (B : Bare X.mg) (he : PE X e te) (hg : Gl X "isinstance" := by rfl) (hg2 : Gl X "bool" := by rfl)
    (hs1 : starEach (e :: [.Name "bool" q]) X.env = (false, eval e X.env) :: starEach [.Name "bool" q] X.env := by rfl) : PE X (.Call (.Name "isinstance" p) [e, .Name "bool" q] [] pos) (tIsi X.K te (.ty "bool")) :=
  pe_isi B.isi he (pe_bltn hg2 B.bool boot_bool rfl) hg hs1 rfl rfl
theorem pe_isi_str (B : Bare X.mg) (he : PE X e te) (hg : Gl X "isinstance" := by rfl) (hg2 : Gl X "str" := by rfl)
    (hs1 : starEach (e :: [.Name "str" q]) X.env = (false, eval e X.env) :: starEach [.Name "str" q] X.env := by rfl) : PE X (.Call (.Name "isinstance" p) [e, .Name "str" q] [] pos) (tIsi X.K te (.ty "str")) :=
  pe_isi B.isi he (pe_bltn hg2 B.str boot_str rfl) hg hs1 rfl rfl
theorem pe_isi_list (B : Bare X.mg) (he : PE X e te) (hg : Gl X "isinstance" := by rfl) (hg2 : Gl X "list" := by rfl)
    (hs1 : starEach (e :: [.Name "list" q]) X.env = (false, eval e X.env) :: starEach [.Name "list" q] X.env := by rfl) : PE X (.Call (.Name "isinstance" p) [e, .Name "list" q] [] pos) (tIsi X.K te (.ty "list")) :=
  pe_isi B.isi he (pe_bltn hg2 B.list boot_list rfl) hg hs1 rfl rfl
end
/-! ### tworeadings.codes -/
section
variable {P : Program} {w : World} {K : PySem.W.Frag} {mg : Str → Option Value} {base : Heap}
def spIsWhole (K : PySem.W.Frag) : Sp := fun vs H Q _ => ∃ v, vs = [v] ∧ IsDt K H v ∧ Q (.bl (isIntV v && !isBoolV v)) H
theorem ok_is_whole (D : Def K mg "is_whole" "is_whole" Pl.s_is_whole ["value"]) (B : Bare mg) : Cal P w K mg base CX0 1 "is_whole" ["value"] (spIsWhole K) := by
  have sc : FnScope ["value"] ["value"] (defScope Pl.s_is_whole) := ⟨rfl, rfl, rfl, by decide +kernel, rfl, by decide +kernel, by decide +kernel⟩
  refine D.cal fun f fd F => F.ok sc (fun vs H Q E h => ?_) (fun cdv A outer s H vs Q E hr h => ?_)
  · obtain ⟨v, rfl, _⟩ := h
    rfl
  · obtain ⟨v, rfl, hd, k⟩ := h
    refine ⟨_, pss_one (ps_ret (pe_and (pe_isi_int B (pv 0)) (pe_one (pe_not (pe_isi_bool B (pv 0)))))), ?_⟩
    obtain ⟨t, ty, e⟩ := isi_int hd
    refine ⟨_, rfl, _, _, t, _, rfl, trivial, ty, e, _, rfl, ?_⟩
    cases hi : isIntV v with
    | false =>
      rw [hi] at k
      exact iteF k
    | true =>
      refine iteT ?_
      obtain ⟨t, ty, e⟩ := isi_bool hd
      refine ⟨_, rfl, _, _, t, _, rfl, trivial, ty, e, _, rfl, ?_⟩
      rw [hi] at k
      exact k

/-- a text of these letters, one or more -/
def isWordV (letters : W) : V → Bool
  | .str x => decide (x.cps.toList ≠ []) && x.cps.toList.all fun c => letters.contains c
  | _ => false
def spIsWord (K : PySem.W.Frag) : Sp := fun vs H Q _ => ∃ v letters, vs = [v, sv letters] ∧ IsDt K H v ∧ (∀ x, v = .str x → x.length ≤ sizeLine) ∧ Q (.bl (isWordV letters v)) H
theorem ok_is_word (D : Def K mg "is_word" "is_word" Pl.s_is_word ["value", "letters"]) (B : Bare mg) : Cal P w K mg base CX0 1 "is_word" ["value", "letters"] (spIsWord K) := by
  have sc : FnScope ["value", "letters"] ["value", "letters"] (defScope Pl.s_is_word) := ⟨rfl, rfl, rfl, by decide +kernel, rfl, by decide +kernel, by decide +kernel⟩
  refine D.cal fun f fd F => F.ok sc (fun vs H Q E h => ?_) (fun cdv A outer s H vs Q E hr h => ?_)
  · obtain ⟨v, l, rfl, _⟩ := h
    rfl
  · obtain ⟨v, letters, rfl, hd, hz, k⟩ := h
    refine ⟨_, pss_one (ps_ret (pe_and (pe_isi_str B (pv 0)) (pe_and (pe_cmpR op_ne (pv 0) pe_str (nomark _)) (pe_one (pe_cmpR op_eq (pe_bm PySem.F.plainAttrs_str PySem.F.slot_str_lstrip PySem.F.type_str_lstrip mt_lstrip (pv 0) (pa_cons (pv 1) pa_nil)) pe_str (nomark _)))))), ?_⟩
    obtain ⟨t, ty, e⟩ := isi_str hd
    refine ⟨_, rfl, _, _, t, _, rfl, trivial, ty, e, _, rfl, ?_⟩
    cases v with
    | str x =>
      refine iteT ?_
      refine ⟨_, rfl, rfl, _, rfl, ?_⟩
      obtain ⟨a, rfl⟩ : ∃ a, x = st a := ⟨x.cps.toList, (st_of x).symm⟩
      by_cases ha : a = []
      · subst ha
        exact iteF' (by decide +kernel) k
      · refine iteT' (by rw [Bool.not_eq_true', decide_eq_false_iff_not]; intro z; exact ha (st_inj (V.str.inj z))) ?_
        refine ⟨_, rfl, rfl, _, rfl, a, letters, rfl, rfl, by have := hz _ rfl; rw [st_len] at this; exact this, fun c hc => ⟨rfl, ?_⟩⟩
        have e : isWordV letters (.str (st a)) = decide (sv c = V.str (st [])) := by
          show (decide (a ≠ []) && a.all fun z => letters.contains z) = _
          rw [Bool.eq_iff_iff, Bool.and_eq_true, decide_eq_true_iff, List.all_eq_true, decide_eq_true_iff]
          constructor
          · rintro ⟨_, h2⟩
            rw [hc.mpr fun z hz => by simpa using h2 z hz]
          · intro z
            exact ⟨ha, fun y hy => by simpa using hc.mp (st_inj (V.str.inj z)) y hy⟩
        rw [e] at k
        exact k
    | _ => exact iteF k

/-- an argument that may be a list of data -/
def LstArg (K : PySem.W.Frag) (H : Hp) (v : V) : Prop := IsDt K H v ∧ ∀ a xs, v = .ref a → Rd H a (.lst xs) → xs.length ≤ sizeLine ∧ ∀ y ∈ xs, ∀ H', Ext H H' → IsDt K H' y
/-- b: it is a list whose members are all so -/
def AllSo (H : Hp) (v : V) (p : V → Bool) (b : Bool) : Prop := (∀ a xs, v = .ref a → Rd H a (.lst xs) → b = xs.all p) ∧ ((∀ a xs, ¬ (v = .ref a ∧ Rd H a (.lst xs))) → b = false)
theorem Rd.inj {H : Hp} {a : Addr} {xs ys : List V} (h : Rd H a (.lst xs)) (h' : Rd H a (.lst ys)) : xs = ys := by
  rcases h with h | ⟨o, h⟩ <;> rcases h' with h' | ⟨o', h'⟩ <;> rw [h] at h' <;> cases h' <;> rfl
theorem AllSo.of {H : Hp} {a : Addr} {xs : List V} {p : V → Bool} (h : Rd H a (.lst xs)) : AllSo H (.ref a) p (xs.all p) :=
  ⟨fun b ys e h' => by cases e; rw [h.inj h'], fun z => absurd ⟨rfl, h⟩ (z a xs)⟩
theorem AllSo.eq {H : Hp} {a : Addr} {xs : List V} {p : V → Bool} {b : Bool} (h : Rd H a (.lst xs)) (q : AllSo H (.ref a) p b) : b = xs.all p := q.1 a xs rfl h
def spAreWords (K : PySem.W.Frag) : Sp := fun vs H Q _ => ∃ v letters, vs = [v, sv letters] ∧ LstArg K H v ∧ (∀ a xs, v = .ref a → Rd H a (.lst xs) → ∀ x, V.str x ∈ xs → x.length ≤ sizeLine) ∧
  ∀ b H', Ext H H' → AllSo H v (isWordV letters) b → Q (.bl b) H'
theorem ok_are_words (D : Def K mg "are_words" "are_words" Pl.s_are_words ["values", "letters"]) (B : Bare mg) (C1 : Cal P w K mg base CX0 1 "is_word" ["value", "letters"] (spIsWord K)) :
    Cal P w K mg base CX0 2 "are_words" ["values", "letters"] (spAreWords K) := by
  have sc : FnScope ["values", "letters"] ["values", "letters"] (defScope Pl.s_are_words) := ⟨rfl, rfl, rfl, by decide +kernel, rfl, by decide +kernel, by decide +kernel⟩
  refine D.cal fun f fd F => F.ok sc (fun vs H Q E h => ?_) (fun cdv A outer s H vs Q E hr h => ?_)
  · obtain ⟨v, l, rfl, _⟩ := h
    rfl
  · obtain ⟨v, letters, rfl, ⟨hd, hl⟩, hz, k⟩ := h
    have nd : (["value", "letters"] : List Str).Nodup := by decide +kernel
    refine ⟨_, pss_one (ps_ret (pe_and (pe_isi_list B (pv 0)) (pe_one (pe_callB (call_all_bl rfl) (by rfl) B.all Boot.«all» (pa_cons
      (pe_comp (N' := ["value", "letters"]) (js := [none, some 1]) (.of (by kernel_rfl)) rfl (pi_list (pv 0)) fun C fp s₀ H₀ => ⟨pg_name (i := 0) nd rfl (Or.inl rfl), pts_nil,
        pe_callF C1 hr (pa_cons (pv 0) (pa_cons (pv 1) pa_nil)) pass0⟩) pa_nil))))), ?_⟩
    obtain ⟨t, b, ty, e, hb⟩ := isi_list hd
    refine ⟨_, rfl, _, _, t, _, rfl, trivial, ty, e, _, rfl, ?_⟩
    cases b with
    | false =>
      refine iteF (k false H (Ext.refl _) ⟨fun a xs e h => ?_, fun _ => rfl⟩)
      exact absurd (hb.mpr ⟨a, xs, e, h⟩) (by decide)
    | true =>
      refine iteT ?_
      obtain ⟨a, xs, rfl, hr2⟩ := hb.mp rfl
      have hq : SqL K H a xs := .inl hr2
      refine ⟨_, rfl, a, rfl, ⟨xs, hq⟩, ?_⟩
      obtain ⟨hl1, hl2⟩ := hl a xs rfl hr2
      refine block_map1 hq hl1 (fun y => .bl (isWordV letters y)) (fun y H' hy x1 Q' k' => ?_) (fun D H' _ x1 hD => ?_)
      · exact ⟨_, rfl, _, rfl, y, letters, rfl, hl2 y hy H' x1, fun x e => hz a xs rfl hr2 x (e ▸ hy), k' _ H' (Ext.refl _) rfl⟩
      · refine ⟨D, xs.map (isWordV letters), rfl, SqL.of (by rw [hD, List.map_map]; rfl), ?_⟩
        have := k (xs.all (isWordV letters)) H' x1 (AllSo.of hr2)
        rw [List.all_map]
        exact this
/-- the letters a to z -/
def az : W := [97, 98, 99, 100, 101, 102, 103, 104, 105, 106, 107, 108, 109, 110, 111, 112, 113, 114, 115, 116, 117, 118, 119, 120, 121, 122]
theorem az_eq : (Str.ofString "abcdefghijklmnopqrstuvwxyz") = st az := by decide +kernel
def spIsCode (K : PySem.W.Frag) : Sp := fun vs H Q _ => ∃ v, vs = [v] ∧ LstArg K H v ∧ (∀ a xs, v = .ref a → Rd H a (.lst xs) → ∀ x, V.str x ∈ xs → x.length ≤ sizeLine) ∧ ∀ b H', Ext H H' → AllSo H v (isWordV az) b → Q (.bl b) H'
theorem ok_is_code (D : Def K mg "is_code" "is_code" Pl.s_is_code ["value"]) (L : ∃ t, mg "LETTERS" = some (.str "abcdefghijklmnopqrstuvwxyz" t)) (C1 : Cal P w K mg base CX0 2 "are_words" ["values", "letters"] (spAreWords K)) :
    Cal P w K mg base CX0 3 "is_code" ["value"] (spIsCode K) := by
  have sc : FnScope ["value"] ["value"] (defScope Pl.s_is_code) := ⟨rfl, rfl, rfl, by decide +kernel, rfl, by decide +kernel, by decide +kernel⟩
  obtain ⟨tk, hL⟩ := L
  refine D.cal fun f fd F => F.ok sc (fun vs H Q E h => ?_) (fun cdv A outer s H vs Q E hr h => ?_)
  · obtain ⟨v, rfl, _⟩ := h
    rfl
  · obtain ⟨v, rfl, hl, hz, k⟩ := h
    refine ⟨_, pss_one (ps_ret (pe_callF C1 hr (pa_cons (pv 0) (pa_cons (pe_glob (v := sv az) (by rfl) hL ⟨tk, by rw [az_eq]⟩) pa_nil)) pass0)), ?_⟩
    exact ⟨_, rfl, v, az, rfl, hl, hz, k⟩
end
end L2


set_option linter.all false
namespace Tw
end Tw


set_option Elab.async false
set_option linter.all false
set_option maxRecDepth 100000
set_option maxHeartbeats 4000000
namespace L2
open PySem PySem.Spec PyProof.Rows Tw
section
variable {P : Program} {w : World} {K : PySem.W.Frag} {mg : Str → Option Value} {base : Heap}
/-- a list of words stands at a; of places -/
def CodeAt (K : PySem.W.Frag) (H : Hp) (a : Addr) (ws : List W) : Prop := SqL K H a (ws.map sv) ∧ ws.length ≤ 10000 ∧ ∀ x ∈ ws, x.length ≤ 10000
def PlacesAt (K : PySem.W.Frag) (H : Hp) (a : Addr) (r : List Nat) : Prop := SqL K H a (r.map fun (i : Nat) => V.int i) ∧ r.length ≤ 100000
theorem Ext.code {H H' : Hp} {a : Addr} {ws : List W} (x : Ext H H') (h : CodeAt K H a ws) : CodeAt K H' a ws := ⟨x.sqL h.1, h.2⟩
theorem small_line {n : Nat} (h : n ≤ 1000000) : n ≤ sizeLine := Nat.le_trans h (by decide)
def spWordsAt (K : PySem.W.Frag) : Sp := fun vs H Q _ => ∃ (a b : Addr) (ws : List W) (r : List Nat), vs = [.ref a, .ref b] ∧ CodeAt K H a ws ∧ PlacesAt K H b r ∧ (∀ i ∈ r, i < ws.length) ∧
  ∀ D H', H D = none → Ext H H' → H' D = some (.lst ((r.map fun i => ws.getD i []).map sv)) → Q (.ref D) H'
theorem ok_words_at (D : Def K mg "words_at" "words_at" Pl.s_words_at ["code", "places"]) : Cal P w K mg base CX0 1 "words_at" ["code", "places"] (spWordsAt K) := by
  have sc : FnScope ["code", "places"] ["code", "places"] (defScope Pl.s_words_at) := ⟨rfl, rfl, rfl, by decide +kernel, rfl, by decide +kernel, by decide +kernel⟩
  refine D.cal fun f fd F => F.ok sc (fun vs H Q E h => ?_) (fun cdv A outer s H vs Q E hr h => ?_)
  · obtain ⟨_, _, _, _, rfl, _⟩ := h
    rfl
  · obtain ⟨a, b, ws, r, rfl, hc, hp, hin, k⟩ := h
    have nd : (["place", "code"] : List Str).Nodup := by decide +kernel
    refine ⟨_, pss_one (ps_ret (pe_comp (N' := ["place", "code"]) (js := [none, some 0]) (.of (by kernel_rfl)) rfl (pi_list (pv 1)) fun C fp s₀ H₀ => ⟨pg_name (i := 0) nd rfl (Or.inl rfl), pts_nil,
        pe_ix (r := rIxL K) ix_list (pv 1) (pv 0) (fun _ _ => rfl)⟩)), ?_⟩
    refine ⟨_, rfl, b, rfl, ⟨_, hp.1⟩, ?_⟩
    refine block_map1 hp.1 (by rw [List.length_map]; exact small_line (by have := hp.2; omega)) (fun y => match y with | .int i => sv (ws.getD i.toNat []) | _ => .non) (fun y H' hy x1 Q' k' => ?_) (fun D H' h1 x1 hD => ?_)
    · obtain ⟨i, hi, rfl⟩ := List.mem_map.mp hy
      have hlt := hin i hi
      have hc' := (x1.code hc).1
      refine ⟨_, rfl, _, rfl, a, _, (i : Int), sv (ws.getD i []), rfl, rfl, hc', atI_nat (by rw [List.getElem?_map]; simp [hlt]), k' _ H' (Ext.refl _) rfl⟩
    · refine k D H' h1 x1 ?_
      rw [hD, List.map_map, List.map_map]
      rfl
end
end L2


set_option Elab.async false
set_option linter.all false
set_option maxRecDepth 100000
set_option maxHeartbeats 1500000
namespace L2
open PySem
/-! ### trees that write no third field: what an exception's context was, it is -/
def Soft (f : Obj → Obj) : Prop := ∀ o vs, o.data = .fields vs → ∃ vs', (f o).data = .fields vs' ∧ vs'[2]? = vs[2]?
def Mild {α : Type} : Sem α → Prop
  | .rule _ k => Mild (k ())
  | .at _ k => Mild (k ())
  | .load _ _ k => ∀ o, Mild (k o)
  | .update _ _ f k => Soft f ∧ Mild (k ())
  | .alloc _ k => ∀ n, Mild (k n)
  | .loadIfAlive _ k => ∀ o, Mild (k o)
  | .point _ k => Mild (k ())
  | .fresh k => ∀ n, Mild (k n)
  | .ask k => ∀ x, Mild (k x)
  | .handled _ k => ∀ x, Mild (k x)
  | .stack k => ∀ x, Mild (k x)
  | .thread k => ∀ x, Mild (k x)
  | .pure _ => True
  | .raise _ => True
  | .unsupported _ => True
  | .finish _ => True
  | _ => False
/-- the third field of the record at e -/
def Third (e : Addr) (v : Value) (h : Heap) : Prop := ∃ o vs, h.get? e = some o ∧ o.data = .fields vs ∧ vs[2]? = some v
theorem Third.upd {e a : Addr} {v : Value} {h : Heap} {f : Obj → Obj} (x : Third e v h) (hf : Soft f) : Third e v (h.update a f) := by
  obtain ⟨o, vs, h1, h2, h3⟩ := x
  by_cases z : a = e
  · subst z
    obtain ⟨vs', g1, g2⟩ := hf o vs h2
    exact ⟨f o, vs', Heap.get?_update_self f h1 (Obj.isFreed_of_fields g1), g1, g2.trans h3⟩
  · exact ⟨o, vs, (Heap.get?_update_other _ _ z).trans h1, h2, h3⟩
theorem mild_wp {α : Type} {M : Model} {Γ : Ctx} {e : Addr} {v : Value} : ∀ {t : Sem α} {Q : α → Pos → Shared → Prop} {E : Value → Pos → Shared → Prop} {p : Pos} {s : Shared}, Mild t → Third e v s.heap → Sem.wp M Γ t Q E p s →
    Sem.wp M Γ t (fun a p' s' => Q a p' s' ∧ Third e v s'.heap) (fun x p' s' => E x p' s' ∧ Third e v s'.heap) p s := by
  intro t
  induction t with
  | pure a => exact fun _ x h => ⟨h, x⟩
  | raise u => exact fun _ x h => ⟨h, x⟩
  | unsupported u => exact fun _ _ h => h
  | finish u => exact fun _ _ h => h
  | rule _ k ih => exact fun m x h => ih () m x h
  | «at» _ k ih => exact fun m x h => ih () m x h
  | load a _ k ih => exact fun m x h => h.imp fun o q => ⟨q.1, ih o (m o) x q.2⟩
  | update a _ f k ih => exact fun m x h => ⟨h.1, ih () m.2 (x.upd m.1) h.2⟩
  | alloc o k ih => exact fun m x h => ih _ (m _) (let ⟨u, vs, q⟩ := x; ⟨u, vs, Heap.get?_push_of_some _ q.1, q.2⟩) h
  | loadIfAlive a k ih => exact fun m x h => ih _ (m _) x h
  | point _ k ih => exact fun m x h => ih () m x h
  | fresh k ih => exact fun m x h => ih _ (m _) x h
  | ask k ih => exact fun m x h => ih _ (m _) x h
  | handled _ k ih => exact fun m x h => ih _ (m _) x h
  | stack k ih => exact fun m x h => ih _ (m _) x h
  | thread k ih => exact fun m x h => ih _ (m _) x h
  | _ => exact fun m _ _ => m.elim
theorem Mild.bind {α β : Type} {f : α → Sem β} : ∀ {t : Sem α}, Mild t → (∀ a, Mild (f a)) → Mild (t.bind f) := by
  intro t
  induction t with
  | pure a => exact fun _ h => h a
  | raise u => exact fun _ _ => trivial
  | unsupported u => exact fun _ _ => trivial
  | finish u => exact fun _ _ => trivial
  | rule _ k ih => exact fun m h => ih () m h
  | «at» _ k ih => exact fun m h => ih () m h
  | load a _ k ih => exact fun m h o => ih o (m o) h
  | update a _ f k ih => exact fun m h => ⟨m.1, ih () m.2 h⟩
  | alloc o k ih => exact fun m h n => ih n (m n) h
  | loadIfAlive a k ih => exact fun m h o => ih o (m o) h
  | point _ k ih => exact fun m h => ih () m h
  | fresh k ih => exact fun m h n => ih n (m n) h
  | ask k ih => exact fun m h n => ih n (m n) h
  | handled _ k ih => exact fun m h n => ih n (m n) h
  | stack k ih => exact fun m h n => ih n (m n) h
  | thread k ih => exact fun m h n => ih n (m n) h
  | _ => exact fun m _ => m.elim
/-- .. and so every promise of such a tree may be told with the field -/
theorem wpAny_third {α : Type} {M : Model} {A : Around} {t : Sem α} {Q : α → Shared → Prop} {E : Value → Shared → Prop} {s : Shared} {e : Addr} {v : Value} (m : Mild t) (x : Third e v s.heap) (h : wpAny M A t Q E s) :
    wpAny M A t (fun a s' => Q a s' ∧ Third e v s'.heap) (fun u s' => E u s' ∧ Third e v s'.heap) s := fun Γ p g => mild_wp m x (h Γ p g)
theorem mild_field (v : Value) (i : Nat) : Mild (field v i) := by
  have f : Mild (fieldsOf v) := by
    cases v with
    | ref a =>
      intro o
      show Mild (match o.data with | .fields vs => pure vs | _ => unsupported "internal:no-fields")
      split <;> trivial
    | _ => trivial
  refine f.bind fun vs => ?_
  split <;> trivial
theorem soft_set {i : Nat} (h : i ≠ 2) (x : Value) : Soft (Obj.mapFields (·.setIfInBounds i x)) := fun o vs e => ⟨_, Obj.data_mapFields e _, by rw [Array.getElem?_setIfInBounds_ne h]⟩
theorem mild_set {i : Nat} (h : i ≠ 2) (v x : Value) : Mild (setField v i x) := by
  cases v with
  | ref a =>
    intro o
    show Mild (match o.data with | .fields vs => if i < vs.size then update a (Obj.mapFields (·.setIfInBounds i x)) else unsupported "internal:no-such-field" | _ => unsupported "internal:write-to-non-record")
    split
    · split
      · exact ⟨soft_set h x, trivial⟩
      · trivial
    · trivial
  | _ => trivial
theorem mild_flight (v : Value) (f : Option Addr) : Mild (setFlight v f) := by
  refine (mild_field v 1).bind fun tb => ?_
  split
  · exact mild_set (by decide) _ _
  · trivial
theorem mild_back (env : Env) (outer : List Env) : Mild (behindIsImport env outer) := by
  unfold behindIsImport
  split
  · trivial
  · split
    · trivial
    · exact (mild_field _ _).bind fun _ => trivial
theorem mild_ready : ∀ l : List Env, Mild (readyFrames l)
  | [] => trivial
  | env :: outer => by
    unfold readyFrames
    cases env.frame with
    | none => trivial
    | some f =>
      intro o
      show Mild (if (o.slots.getD 3 none).isSome = true then pure () else _)
      split
      · trivial
      · refine (mild_back env outer).bind fun im => ?_
        have kb : Mild (keptBack env im outer) := by
          unfold keptBack
          cases outer with
          | nil =>
            dsimp only
            split
            · trivial
            · intro x; trivial
          | cons c r => trivial
        exact kb.bind fun b => ⟨fun o vs e => ⟨vs, e, rfl⟩, mild_ready outer⟩
theorem mild_newRec (ty : String) (vs : List Value) : Mild (newFields ty vs) := by
  unfold newFields newObj
  dsimp only
  split
  · trivial
  · exact fun n => trivial
theorem mild_note (v : Value) (env : Env) : Mild (noteFrame v env) := by
  unfold noteFrame
  cases env.frame with
  | none => trivial
  | some f =>
    have tail : ∀ head : Value, Mild (do setField v 1 (← EntryCells.newEntry head (← frameOf env) .none (rawInt f) .none (← entryPlaceOf f (head != .none)))) := fun head => by
      have fr : Mild (frameOf env) := by
        unfold frameOf
        refine Mild.bind (show Mild frameEnvs from fun _ => trivial) fun l => Mild.bind ?_ fun r => by split <;> trivial
        unfold frameObject
        split
        · trivial
        · exact (mild_ready _).bind fun _ => trivial
      have pl : Mild (entryPlaceOf f (head != .none)) := by
        unfold entryPlaceOf
        exact Mild.bind (show Mild stack from fun _ => trivial) fun acts => by split <;> trivial
      have ne : ∀ a l, Mild (EntryCells.newEntry head a .none (rawInt f) .none l) := fun a l => mild_newRec "traceback" _
      exact fr.bind fun a => pl.bind fun l => (ne a l).bind fun b => mild_set (by decide) v b
    refine (mild_field v 1).bind fun head => ?_
    split
    · refine (mild_field head 3).bind fun x => ?_
      split
      · trivial
      · exact (mild_set (by decide) head .none).bind fun _ => tail head
    · exact tail head
theorem mild_leave (env : Env) (v : Value) : Mild (leaving env v) := (mild_note v env).bind fun _ => mild_flight v none
end L2


set_option Elab.async false
set_option linter.all false
set_option maxRecDepth 100000
set_option maxHeartbeats 4000000
namespace L2
open PySem PySem.Spec PyProof.Rows
/-! ### exceptions that leave a def -/
section
variable {P : Program} {w : World} {H : Hp} {h : Heap} {a : Addr} {o : HO}
theorem ObjOk.there (x : ObjOk P w H h a o) : ∃ ob, h.get? a = some ob := by
  cases o with
  | lst xs => obtain ⟨_, _, _, _, e⟩ := x; exact ⟨_, e⟩
  | tup xs => obtain ⟨_, _, _, ob, e, _⟩ := x; exact ⟨_, e⟩
  | dK kvs => obtain ⟨_, _, _, _, ob, _, _, e, _⟩ := x; exact ⟨_, e⟩
  | dT kvs => obtain ⟨_, _, _, _, ob, _, _, e, _⟩ := x; exact ⟨_, e⟩
  | set S n => obtain ⟨ob, _, _, _, e, _⟩ := x; exact ⟨_, e⟩
  | ins C dx fs => obtain ⟨_, _, _, e, _⟩ := x; exact ⟨_, e⟩
  | own y => exact x
  | xd fs => obtain ⟨_, ⟨_, _, _, e, _⟩, _⟩ := x; exact ⟨_, e⟩
  | rng lo hi => obtain ⟨_, _, _, e⟩ := x; exact ⟨_, e⟩
  | frz ob u => exact ⟨_, x.1⟩
  | tbl ps => exact ⟨_, (show h.get? a = some _ from x)⟩
  | met f y => exact ⟨_, (show h.get? a = some _ from x)⟩
  | ext φ => exact x.2.1
end
/-- an exception has left a call that began at (H, s) -/
structure Flies (P : Program) (w : World) (outer : List Env) (H : Hp) (s : Shared) (ea : Addr) (cls : Value) (H' : Hp) (s' : Shared) : Prop where
  os : s'.os = s.os
  bare : AllBare s'.gens
  un : Un (frs outer) [] H H' s.heap s'.heap
  hok : HOk P w H' s'.heap
  fly : ∃ B a0, Heap.FlyingW B outer ea cls a0 s'.heap ∧ ∀ b o, s'.heap.get? b = some o → b ∉ frs outer → ((∃ o', s.heap.get? b = some o') ∨ ∃ u, H' b = some u) → B.get? b = some o
  ctx : Third ea .none s'.heap
def CX1 (P : Program) (w : World) : CXT := fun outer H s E e s' => ∃ ea cls H', e = .ref ea ∧ Flies P w outer H s ea cls H' s' ∧ E cls none H'
section
variable {X : Cx} {pins : List (Addr × Obj)} {σ : St} {H1 H' : Hp} {s1 s' : Shared} {ea : Addr} {cls a0 : Value} {B h' : Heap}
theorem mv_un (I : Inv X pins σ H1 s1) (I' : Inv X pins σ H' s') (hex : X.ex = [])
    (hB : ∀ b o, s'.heap.get? b = some o → b ∉ frs X.stack → ((∃ o', s1.heap.get? b = some o') ∨ ∃ u, H' b = some u) → h'.get? b = some o) (up : s'.heap.UpToSlots h') :
    Un X.fs [] X.H₀ H' X.s₀.heap h' ∧ HOk X.prog X.w H' h' := by
  have nx : ∀ b, b ∉ X.ex := fun b => by rw [hex]; simp
  have old : ∀ b o, X.s₀.heap.get? b = some o → b ∉ X.fs → b ∉ frs X.stack := fun b o e hb hs => by
    rcases List.mem_cons.mp (I.stkSub b hs) with z | z
    · have l := Nat.lt_of_lt_of_le (Heap.lt_size e) I.ok.above
      rw [z] at l
      exact Nat.lt_irrefl _ l
    · exact hb z
  refine ⟨⟨fun b o q n hf _ => ?_, fun b o q n hf _ => ?_, fun b o q n _ => I'.base.free b o q n (nx b), fun b o q _ => ?_, I'.base.tups, I'.base.frzs, I'.base.tbls⟩, fun a o e => ?_⟩
  · exact hB b o (I'.base.keep b o q n hf (nx b)) (old b o q hf) (.inl (I.base.there b o q (nx b)))
  · obtain ⟨sl, q1⟩ := I'.base.slot b o q n hf (nx b)
    obtain ⟨_, o1, ho1, hd⟩ := I.ok.funs.mem hf
    rw [q] at ho1
    cases ho1
    obtain ⟨sl2, q2⟩ := up b _ q1 hd
    exact ⟨sl2, q2⟩
  · obtain ⟨o1, q1⟩ := I'.base.there b o q (nx b)
    by_cases hs : b ∈ frs X.stack
    · obtain ⟨_, o2, q2, hd⟩ := I'.stack.mem hs
      obtain ⟨sl, q3⟩ := up b o2 q2 hd
      exact ⟨_, q3⟩
    · exact ⟨o1, hB b o1 q1 hs (.inl (I.base.there b o q (nx b)))⟩
  · refine (I'.hok a o e).stay (fun b u hb q => ?_) (fun _ q => q) fun _ _ q => q
    have tr : ∃ v, H' b = some v := by
      rcases hb with z | z
      · exact ⟨_, z ▸ e⟩
      · exact ⟨_, z⟩
    refine hB b u q (fun hs => ?_) (.inr tr)
    obtain ⟨v, hv⟩ := tr
    rw [I'.stkFree b hs] at hv
    cases hv
theorem flies_of (I : Inv X pins σ H1 s1) (I' : Inv X pins σ H' s') (hex : X.ex = [])
    (hB : ∀ b o, s'.heap.get? b = some o → b ∉ frs X.stack → ((∃ o', s1.heap.get? b = some o') ∨ ∃ u, H' b = some u) → B.get? b = some o)
    (fl : Heap.FlyingW B X.outer ea cls a0 h') (up : s'.heap.UpToSlots h') (cx : Third ea .none h') : Flies X.prog X.w X.outer X.H₀ X.s₀ ea cls H' { s' with heap := h' } := by
  obtain ⟨un, hok⟩ := mv_un (h' := h') I I' hex (fun b o q hs c => fl.1 b o (hB b o q hs c)) up
  refine ⟨I'.os, I'.bare, un, hok, ⟨B, a0, fl, fun b o q hf c => ?_⟩, cx⟩
  have nx : ∀ b, b ∉ X.ex := fun b => by rw [hex]; simp
  have hs : b ∉ frs X.stack := fun hs => by
    rcases List.mem_cons.mp (I.stkSub b hs) with z | z
    · rcases c with ⟨o', e⟩ | ⟨u, e⟩
      · have l := Nat.lt_of_lt_of_le (Heap.lt_size e) I.ok.above
        rw [z] at l
        exact Nat.lt_irrefl _ l
      · rw [z, I'.free] at e
        cases e
    · exact hf z
  have ⟨o2, q2⟩ : ∃ o2, s'.heap.get? b = some o2 := by
    rcases c with ⟨o', e⟩ | ⟨u, e⟩
    · exact I'.base.there b o' e (nx b)
    · exact (I'.hok b u e).there
  have c1 : (∃ o', s1.heap.get? b = some o') ∨ ∃ u, H' b = some u := by
    rcases c with ⟨o', e⟩ | c
    · exact .inl (I.base.there b o' e (nx b))
    · exact .inr c
  have q3 := hB b o2 q2 hs c1
  have q4 := fl.1 b o2 q3
  have q' : h'.get? b = some o := q
  rw [q'] at q4
  cases q4
  exact q3
end
section
variable {P : Program} {w : World} {K : PySem.W.Frag} {mg : Str → Option Value} {base : Heap} {N : List Str} {qual : Str} {scope : Scope} {f : Addr} {cd : Value} {A : Around} {outer : List Env} {s : Shared} {H : Hp} {E : XK}
/-- an exception made here goes out -/
def Raises (X : Cx) (E : XK) : Prop := ∀ (pins : List (Addr × Obj)) (σ : St) (H1 : Hp) (s1 : Shared) (h2 : Heap) (ea : Addr) (cls : Value) (args : List Value), Inv X pins σ H1 s1 → Heap.MadeExcOf s1.heap h2 ea cls args → E cls none H1 → X.xe (.ref ea) { s1 with heap := h2 }
theorem raisesX : Raises (cxOf (CX1 P w) P w K mg base N qual scope f cd A outer s H E) E := by
  intro pins σ H1 s1 h2 ea cls args I hm q
  show wpAny _ _ (leaving _ (.ref ea)) _ _ _
  have hin : ∀ env ∈ (cxOf (CX1 P w) P w K mg base N qual scope f cd A outer s H E).stack, ∀ a, env.frame = some a → a ∈ frs (cxOf (CX1 P w) P w K mg base N qual scope f cd A outer s H E).stack := fun env he a ha => List.mem_filterMap.mpr ⟨env, he, ha⟩
  have cx0 : Third ea .none h2 := let ⟨t, ht, _⟩ := hm.there; ⟨_, _, ht, rfl, rfl⟩
  have on := wpAny_leaves_madeW (M := model P w) (E := fun _ _ => False) (Q := fun _ s2 => ∃ h' t, s2 = { s1 with heap := h' } ∧ Heap.FlyingW (PySem.W.hideAll s1.heap (frs (cxOf (CX1 P w) P w K mg base N qual scope f cd A outer s H E).stack)) outer ea cls (.ref t) h' ∧ h2.UpToSlots h')
    (s := { s1 with heap := h2 }) (A := A.deeper (envOfC qual scope s.heap.objs.size f cd)) (env := envOfC qual scope s.heap.objs.size f cd) (outer := outer) (h := s1.heap) I.ok.frames rfl
    (fun b o z => PySem.W.of_hideAll _ z) (PySem.W.funFrames_hide I.stack hin) hm fun h' t fl ht htn up => ⟨h', t, rfl, fl, up⟩
  refine wpAny_mono (wpAny_third (mild_leave _ _) cx0 on) (fun _ s2 q2 => ?_) fun _ _ z => z.1.elim
  obtain ⟨⟨h', t, rfl, fl, up⟩, cx⟩ := q2
  exact ⟨ea, cls, H1, rfl, flies_of (X := cxOf (CX1 P w) P w K mg base N qual scope f cd A outer s H E) (s1 := s1) (s' := s1) (h' := h') I I rfl (fun b o z hs _ => PySem.W.hideAll_get _ z hs) fl ((Heap.UpToSlots.of_keeps hm.keeps).trans up) cx, q⟩
/-- THE RULE for a def that may raise -/
theorem Fun.okX {x : Str} {st : Stmt} {fd : FuncData} {ps : List Str} {k : Nat} {sp : Sp} (F : Fun K x qual st f fd) (S : FnScope N ps (defScope st)) (len : ∀ vs H Q E, sp vs H Q E → vs.length = ps.length)
    (hbody : ∀ (cdv : Value) (A : Around) (outer : List Env) (s : Shared) (H : Hp) (vs : List V) (Q : VK) (E : XK), Room k (A.deeper (envOfC qual (defScope st) s.heap.objs.size f cdv)) → sp vs H Q E →
      ∃ t, PSs (cxOf (CX1 P w) P w K mg base N qual (defScope st) f cdv A outer s H E) (defBody st) t ∧ t { nx := fun _ H' => Q .non H', rt := Q } (start N vs) H) : FnOk P w K mg base (CX1 P w) (k + 1) f fd ps sp := by
  obtain ⟨oc, od, kV, doc, pm, an, cdv, ct, osl, rfl, lk, hcd⟩ := F.ex
  exact fn_of lk hcd S len fun A outer s H vs Q E hr hsp => hbody cdv A outer s H vs Q E hr hsp
end
/-! ### raise C(..), C an own class under ValueError -/
theorem exc_at {K : PySem.W.Frag} {h : Heap} {C : Addr} {bmB : List Value} {newId : String} (X : K.In h) (q : PySem.W.excIn K C bmB newId = true) :
    ∃ bm N nm qn bs hd sn sub ab col dd k0 k1 k2 k3 k5 mN, h.get? C = some (excClassObj nm qn C N bs bm hd sn sub ab col dd k0 k1 k2 k3 k5 newId) ∧ h.Ns N mN ∧ mN "__init__" = none ∧ OwnTail h bmB bm := by
  unfold PySem.W.excIn at q
  split at q
  next dd cd sl ho =>
    split at q
    next C1 bm e0 e1 e2 e3 nn e5 hmro hslots =>
      simp only [Bool.and_eq_true, beq_iff_eq, Bool.not_eq_true'] at q
      obtain ⟨⟨⟨⟨⟨rfl, rfl⟩, del⟩, tl⟩, okN⟩, noI⟩ := q
      obtain ⟨c1, c2, c3, c4, c5, c6, c7, c8, c9, c10, c11⟩ := cd
      dsimp only at hmro del okN noI
      subst hmro del
      have es : sl = #[e0, e1, e2, e3, some (.builtin nn), e5] := by
        obtain ⟨ll⟩ := sl
        dsimp only at hslots
        rw [hslots]
      subst es
      exact ⟨bm, c4, c1, c5, c2, c6, c7, c8, c9, c10, dd, e0, e1, e2, e3, e5, _, X _ _ ho, .of_isNs (PySem.W.isNs_of_in X okN), PySem.W.nsMap_none_of_in X okN noI, PySem.W.tail_of_in X tl⟩
    next => cases q
  next => cases q
def bmVE : List Value := [.type "ValueError", .type "Exception", .type "BaseException", .type "object"]
/-- an own class of exceptions under ValueError, by its name -/
structure Exc (K : PySem.W.Frag) (mg : Str → Option Value) (x : Str) (C : Addr) : Prop where
  there : mg x = some (.ref C)
  ok : PySem.W.excIn K C bmVE "ValueError.__new__" = true
def tRaise (E : XK) (c : Value) (te : TE) : TS := fun _ σ H => tCons te tNil σ H fun xs H1 => xs.length ≤ 10 ∧ E c none H1
theorem ps_raise {X : Cx} {E : XK} {x : Str} {C : Addr} {e : Expr} {te : TE} {np cpos pos : Pos} (hR : Raises X E) (hc : X.calm = true) (Z : Exc X.K X.mg x C) (he : PE X e te) (hg : Gl X x := by rfl) (hd : (x == ("__debug__" : Str)) = false := by decide)
    (hs : starEach [e] X.env = (false, eval e X.env) :: starEach [] X.env := by rfl) (hpl : (backTo cpos (starEach [e] X.env)).any (·.1) = false := by rfl) :
    PS X (.Raise (some (.Call (.Name x np) [e] [] cpos)) none pos) (tRaise E (.ref C) te) := by
  intro pins s σ H D I h
  obtain ⟨bm, N, nm, qn, bs, hdc, sn, sub, ab, col, dd, k0, k1, k2, k3, k5, mN, hC, hN, hni, T⟩ := exc_at I.mod.kin Z.ok
  refine wpAny_Raise_call_subT (bmB := bmVE) (nm := nm) (q := qn) (C := C) (N := N) (bs := bs) (bm := bm) (hdct := hdc) (sn := sn) (sub := sub) (ab := ab) (col := col) (dd := dd) (k0 := k0) (k1 := k1) (k2 := k2) (k3 := k3) (k5 := k5) (mN := mN) PySem.F.excBase_ValueError (T.hasType PySem.F.excBase_ValueError.hasBase) (I.ok.hd hc) hpl hni (ld_glob I hg Z.there ⟨rfl, ?_⟩ hd)
  have sp := (pa_cons he pa_nil hs) cpos pins s σ H _ I h
  rw [hs] at sp ⊢
  refine Calls.evalArgs_plain (wpAny_mono sp (fun us s₂ hq => ?_) fun _ _ z => z)
  obtain ⟨xs, H2, I2, r, hl, q2⟩ := hq
  have hl2 : us.length ≤ sizeLine := by
    rw [← r.length]
    exact Nat.le_trans hl (by decide)
  exact ⟨rfl, hl2, I2.bk _ _ hC, hN.keeps I2.bk, T.keeps I2.bk, fun h' ea hm => hR pins σ H2 s₂ h' ea _ _ I2 hm q2⟩
end L2


set_option Elab.async false
set_option linter.all false
set_option maxRecDepth 100000
set_option maxHeartbeats 4000000
namespace L2
open PySem PySem.Spec PyProof.Rows
/-! ### try .. except C as n -/
section
variable {X : Cx} {pins : List (Addr × Obj)} {σ : St} {H H1 H' : Hp} {s s1 s' : Shared} {ea : Addr} {cls a0 : Value} {B h' : Heap} {W : Value → Shared → Prop} {pn : List (Addr × Obj)}
end
end L2


set_option Elab.async false
set_option linter.all false
set_option maxRecDepth 100000
set_option maxHeartbeats 4000000
namespace L2
open PySem PySem.Spec PyProof.Rows Tw
/-! ### d.setdefault(k, x) -/
def tDSd (td ty tx : TE) : TE := fun σ H Q => td σ H fun x H1 => ∃ a, x = .ref a ∧ IsD H1 a ∧ ty σ H1 fun y H2 => tx σ H2 fun z H3 => ∃ kvs k, H3 a = some (.dK kvs) ∧ y = kV k ∧
  (∀ v, valV kvs k = some v → Q v H3) ∧ (valV kvs k = none → kvs.length < sizeLine ∧ Q z (upd H3 a (.dK (putK kvs k z))))
section
variable {X : Cx} {o e f : Expr} {apos cpos : Pos} {td ty tx : TE}
theorem pe_dsd (ho : PE X o td) (he : PE X e ty) (hf : PE X f tx) (m : M2 X o "setdefault" apos e f cpos) : PE X (.Call (.Attribute o "setdefault" apos) [e, f] [] cpos) (tDSd td ty tx) := by
  intro pins s σ H Q I h
  refine wpAny_Call_method m.base m.few m.line PySem.F.plainAttrs_dict PySem.F.slot_dict_setdefault PySem.F.type_dict_setdefault (thn (ho pins s σ H _ I h) fun u s1 ⟨x, H1, I1, rx, a, ex, d, q1⟩ => ?_)
  subst ex
  obtain rfl : u = Value.ref a := rx
  obtain ⟨t1, t2, _⟩ := isD_at I1 d
  refine ⟨t1, t2, ?_⟩
  rw [m.trees]
  refine Calls.callWith_builtin rfl (Calls.evalArgs_plain (Calls.spliced_cons (thn (he pins s1 σ H1 _ I1 q1) fun iv s2 ⟨y, H2, I2, ry, q2⟩ =>
    Calls.spliced_cons (thn (hf pins s2 σ H2 _ I2 q2) fun fv s3 ⟨z, H3, I3, rz, kvs, k, ea, ey, q3, q4⟩ => Calls.spliced_nil ?_))))
  subst ey
  obtain ⟨hz, hd, vs, rel, dd⟩ := dk_of I3.hok ea
  have rv := rel.val k
  refine call_meetsIn PySem.F.slot_dict_setdefault dd.typeIs PySem.F.entry_dict_setdefault (PySem.F.args_dict_setdefault_3 _ _ _) (kt_meets_setdefault (mixKind X.prog X.w) a (kV_is ry) hd fv)
    ⟨vs, dd, by rw [← rel.length]; exact hz, fun w' hw => ?_, fun hn h' dd' hs => ?_⟩
  · cases l : valV kvs k with
    | none => rw [l, hw] at rv; exact rv.elim
    | some v => rw [l, hw] at rv; exact ⟨v, H3, I3.tok _, rv, q3 v l⟩
  · cases l : valV kvs k with
    | some v => rw [l, hn] at rv; exact rv.elim
    | none =>
      obtain ⟨hl, q5⟩ := q4 l
      have hl2 : (putK kvs k z).length ≤ sizeLine := by have := length_putK kvs k z; omega
      have he : ∃ q, h'.get? a = some q := let ⟨q, _, _, hq, _⟩ := dd'; ⟨q, hq⟩
      exact ⟨z, _, d_write I3 (by rw [ea]; exact True.intro) hs he (dk_new hl2 hd (rel.put k rz) dd'), rz, q5⟩
end
/-! ### for i, x in enumerate(l) -/
section
variable {X : Cx} {pins : List (Addr × Obj)} {σ : St} {H H' : Hp} {s : Shared} {h' : Heap}
theorem upd_keep {b t : Addr} {o u : HO} (e : H b = some o) (hn : H t = none) : upd H t u b = some o := by rw [upd_ne (ne_of_none e hn)]; exact e
/-- two records of ours turned, a new tuple laid -/
theorem Inv.turned2 {e it t : Addr} {xs : List V} {tk : Nat} (I : Inv X pins σ H s) (k : ∀ b o, b ≠ e → b ≠ it → s.heap.get? b = some o → h'.get? b = some o) (he : FpOk X pins H e) (hi : FpOk X pins H it) (ht : s.heap.objs.size ≤ t)
    (new : ObjOk X.prog X.w (upd H t (.tup xs)) h' t (.tup xs)) (hle : ∃ o, h'.get? e = some o) (hli : ∃ o, h'.get? it = some o) : Inv X pins σ (upd H t (.tup xs)) { s with heap := h', toks := tk } := by
  have hn : H t = none := I.hok.fresh ht
  have nch : ∀ b, b ∉ [e, it] → b ≠ e ∧ b ≠ it := fun b hb => ⟨fun z => hb (by simp [z]), fun z => hb (by simp [z])⟩
  refine I.step (g' := s.gens) (d' := s.drawn) (ch := [e, it]) (fun b hb => ?_) (fun b o _ _ hc q _ => k b o (nch b hc).1 (nch b hc).2 q) (fun b o _ _ hc q _ => ⟨o.slots, k b o (nch b hc).1 (nch b hc).2 q⟩)
    (fun b o _ q n => by rw [upd_ne (Nat.ne_of_lt (Nat.lt_of_lt_of_le (Heap.lt_size q) ht))]; exact n) (fun b o hc q => ⟨o, k b o (nch b hc).1 (nch b hc).2 q⟩) (fun b ys q => upd_keep q hn) (fun b o u q => upd_keep q hn)
    (fun b ps q => ⟨#[], by rw [upd_keep q hn]; simp⟩) (fun m hm => ?_) (fun b u q => ?_) I.bare
  · rcases List.mem_cons.mp hb with z | hb
    · rw [z]; exact ⟨he.2.2.2.1, he.2.1, he.2.2.2.2.1, he.2.2.2.2.2⟩
    · have z : b = it := by simpa using hb
      rw [z]; exact ⟨hi.2.2.2.1, hi.2.1, hi.2.2.2.2.1, hi.2.2.2.2.2⟩
  · obtain ⟨o, es, ep, ho, r⟩ := hm
    exact ⟨o, es, ep, k _ o he.2.1.symm hi.2.1.symm ho, r⟩
  · by_cases hb : b = t
    · subst hb
      rw [upd_same] at q
      cases q
      exact new
    · rw [upd_ne hb] at q
      refine (I.hok b u q).stay (fun c v hc z => k c v ?_ ?_ z) (fun c z => upd_keep z hn) fun c ys z => upd_keep z hn
      · rintro rfl
        rcases hc with z | z
        · rw [← z, he.1] at q; cases q
        · rw [he.1] at z; cases z
      · rintro rfl
        rcases hc with z | z
        · rw [← z, hi.1] at q; cases q
        · rw [hi.1] at z; cases z
end
/-- (0, x0), (1, x1), ..: a new tuple each -/
def Ite (K : PySem.W.Frag) (a : Addr) : It :=
  ⟨fun i H => ∃ xs x, SqL K H a xs ∧ xs[i]? = some x, fun i H v H' => ∃ t, v = .ref t ∧ H t = none ∧ ∀ xs, SqL K H a xs → ∃ x, xs[i]? = some x ∧ H' = upd H t (.tup [.int i, x]), fun i H => ∃ xs, SqL K H a xs ∧ xs.length ≤ i⟩
theorem turn_enum {P : Program} {w : World} {K : PySem.W.Frag} {elts : List Expr} {x1} {pos : Pos} (a e it : Addr) (hne : e ≠ it) :
    Turn P w K (.Tuple elts x1 pos) (Ite K a) [e, it] e (fun i h => (∃ old, IsEnum h e it i old) ∧ h.IsListIter it a i) where
  mem := by simp
  obj := fun i h st b hb => by
    obtain ⟨⟨old, st1⟩, o, h1, c, d⟩ := st
    rcases List.mem_cons.mp hb with z | hb
    · subst z
      exact ⟨_, st1, fun v z => by
        have z' : Data.fields _ = Data.cell v := z
        cases z'⟩
    · have z : b = it := by simpa using hb
      subst z
      exact ⟨o, h1, fun v z => by rw [d] at z; cases z⟩
  keep := fun i h h' st k => ⟨let ⟨old, q⟩ := st.1; ⟨old, k e (by simp) _ q⟩, st.2.at fun o q => k it (by simp) o q⟩
  item := by
    intro X hP hw hK hc i pins s σ H E I hf st hg
    subst hP hw hK
    obtain ⟨xs, x, hq, hx⟩ := hg
    obtain ⟨⟨old, he⟩, hit⟩ := st
    obtain ⟨its, rv, p, hz⟩ := I.list hq
    obtain ⟨u, hu, ru⟩ := rv.get hx
    refine wpAny_pyNext_enum_item he hit p.isList (x := u) (by simpa using hu) hne fun h' ho hit' hT hsz hk => ?_
    have hfr : H s.heap.objs.size = none := I.hok.fresh (Nat.le_refl _)
    have I1 : Inv X pins σ (upd H s.heap.objs.size (.tup [.int i, x])) { s with heap := h', toks := s.toks + 1 } :=
      I.turned2 hk (hf e (by simp)) (hf it (by simp)) (Nat.le_refl _) ⟨by show 2 ≤ sizeLine; decide, [.int i s.toks, u], .cons ⟨_, rfl⟩ (.cons ru .nil), ⟨_, hT, rfl, _, rfl⟩⟩ ⟨_, ho⟩ (let ⟨o, q, _⟩ := hit'; ⟨o, q⟩)
    refine ⟨_, rfl, wpAny_letOwnedTupleGo_enum (s := { s with heap := h', toks := s.toks + 1 }) ho fun h2 he2 sb2 => ?_⟩
    have hlt : e < s.heap.objs.size := Heap.lt_size he
    have ilt : it < s.heap.objs.size := let ⟨o, q, _⟩ := hit; Heap.lt_size q
    obtain ⟨f0, f1, f2, f3, f4, f5⟩ := hf e (by simp)
    have I2 := I1.turned (h' := h2) (t' := s.toks + 1) (it := e) (fun b o hb q => (sb2.2 b hb).trans q) (by rw [upd_ne (Nat.ne_of_lt hlt)]; exact f0) f1 f3 f4 f5
    refine ⟨.ref s.heap.objs.size, _, I2, rfl, ⟨_, rfl, hfr, fun ys hy => ⟨x, by rw [I.list_inj hy hq]; exact hx, rfl⟩⟩, ⟨⟨_, by simpa using he2⟩, hit'.at fun o q => (sb2.2 it hne.symm).trans q⟩, fun b hb => ?_⟩
    have hb' : b < s.heap.objs.size := by
      rcases List.mem_cons.mp hb with z | hb
      · rw [z]; exact hlt
      · have z : b = it := by simpa using hb
        rw [z]; exact ilt
    rw [upd_ne (Nat.ne_of_lt hb')]
    exact (hf b hb).1
  done := by
    intro X hP hw hK hc i pins s σ H E I hf st hg
    subst hP hw hK
    obtain ⟨xs, hq, hx⟩ := hg
    obtain ⟨⟨old, he⟩, hit⟩ := st
    obtain ⟨its, rv, p, hz⟩ := I.list hq
    have hl := rv.length
    obtain ⟨f0, f1, f2, f3, f4, f5⟩ := hf it (by simp)
    exact wpAny_pyNext_enum_end (I.ok.hd hc) he hit p.isList (by simp; omega) fun h' eb => ⟨rfl, I.turned (t' := s.toks) (it := it) (fun b o hb q => eb b o hb q) f0 f1 f3 f4 f5⟩
  self := fun _ _ _ _ _ st h => let ⟨⟨_, he⟩, _⟩ := st; wpAny_pyIter_enum he h
def iEnum (K : PySem.W.Frag) (ta : TA) : TI := fun σ H R => ta σ H fun vs H1 => ∃ a, vs = [.ref a] ∧ (∃ xs, SqL K H1 a xs) ∧ R (Ite K a) H1
theorem pi_enum {X : Cx} {a : Expr} {ta : TA} {p pos tpos : Pos} {elts : List Expr} {x1} (hg : Gl X "enumerate") (hm : X.mg "enumerate" = none) (ha : PA X [a] ta) (hs : starEach [a] X.env = [(false, eval a X.env)] := by rfl) :
    PI X (.Tuple elts x1 tpos) (.Call (.Name "enumerate" p) [a] [] pos) (iEnum X.K ta) := by
  intro pins s σ H R I h
  refine Call_ (ld_blt I hg hm boot_enumerate (PyProof.Rows.callWith_type1 (thn (ha pos pins s σ H _ I h) fun us s1 ⟨vs, H1, I1, r1, q1⟩ => ?_) hs rfl))
  obtain ⟨l, ev, ⟨xs, hq⟩, q⟩ := q1
  subst ev
  obtain ⟨u, rfl, ru⟩ := vals1 r1
  cases ru
  obtain ⟨its, rv, pl, hz⟩ := I1.list hq
  refine call_enumerate_list pl.isList fun h' he hit hsz hk => ?_
  refine wpAny_pyIter_enum (s := { s1 with heap := h' }) he ?_
  have I2 : Inv X pins σ H1 { s1 with heap := h', toks := s1.toks } := I1.kept (t' := s1.toks) hk
  refine ⟨s1.heap.objs.size + 1, [s1.heap.objs.size + 1, s1.heap.objs.size], _, _, H1, rfl, I2, turn_enum l _ _ (Nat.succ_ne_self _), ⟨⟨_, by simpa using he⟩, hit⟩, fun b hb => ?_, q⟩
  have hb' : s1.heap.objs.size ≤ b := by
    rcases List.mem_cons.mp hb with z | hb
    · rw [z]; exact Nat.le_succ _
    · have z : b = s1.heap.objs.size := by simpa using hb
      rw [z]; exact Nat.le_refl _
  obtain ⟨f0, f1, f2, f3, f4, f5⟩ := I1.fpOk hb' (I1.hok.fresh hb')
  exact ⟨f0, f1, f2, f3, f4, f5⟩
/-! ### a call of a reckoned def -/
/-! ### range(hi, lo, -1) -/
def Itd1 (hi : Int) (n : Nat) : It := ⟨fun i _ => i < n, fun i H x H' => H' = H ∧ x = .int (hi - i), fun i _ => n ≤ i⟩
theorem turn_down {P : Program} {w : World} {K : PySem.W.Frag} {tg : Expr} (it : Addr) (hi : Int) (n : Nat) : Turn P w K tg (Itd1 hi n) [it] it (fun i h => IsRangeIter h it (hi + (i : Nat) * (-1)) ((n : Int) - (i : Nat)) (-1)) where
  mem := by simp
  obj := fun i h st b hb => by
    have e : b = it := by simpa using hb
    subst e
    exact ⟨_, st, fun v z => by
      have z' : Data.fields _ = Data.cell v := z
      cases z'⟩
  keep := fun i h h' st k => k it (by simp) _ st
  item := by
    intro X hP hw hK hc i pins s σ H E I hf st hg
    subst hP hw hK
    obtain ⟨f0, f1, f2, f3, f4, f5⟩ := hf it (by simp)
    have W := Walks.range (prog := X.prog) (w := X.w) (I.ok.hd hc) it hi (-1) n
    refine W.item i s _ _ hg st fun v h' tk hv st' kk => ?_
    obtain ⟨t, rfl⟩ := hv
    have I1 : Inv X pins σ H { s with heap := h', toks := tk } := I.turned (fun b o hb e => kk b o (by simpa using hb) e) f0 f1 f3 f4 f5
    refine ⟨_, rfl, go_of (s := { s with heap := h', toks := tk }) (n := "range_iterator") st' rfl rfl (by decide) ⟨.int (hi - i), H, I1, ⟨t, ?_⟩, ⟨rfl, rfl⟩, st', fun b hb => (hf b hb).1⟩⟩
    rw [show hi + (i : Int) * (-1) = hi - i by omega]
  done := by
    intro X hP hw hK hc i pins s σ H E I hf st hg
    subst hP hw hK
    obtain ⟨f0, f1, f2, f3, f4, f5⟩ := hf it (by simp)
    exact wpAny_pyNext_range_end (I.ok.hd hc) st (by have : n ≤ i := hg; omega) fun h' eb => ⟨rfl, I.turned (t' := s.toks) (fun b o hb e => eb b o hb e) f0 f1 f3 f4 f5⟩
  self := fun _ _ _ _ _ st h => wpAny_pyIter_rangeiter st h
def iDown (ta : TA) : TI := fun σ H R => ta σ H fun vs H1 => ∃ i j : Int, vs = [.int i, .int j, .int (-1)] ∧ (-1000000000 ≤ i ∧ i ≤ 1000000000 ∧ -1000000000 ≤ j ∧ j ≤ 1000000000) ∧ R (Itd1 i (i - j).toNat) H1
theorem small_down {a b : Int} (ha : -1000000000 ≤ a) (ha' : a ≤ 1000000000) (hb : -1000000000 ≤ b) (hb' : b ≤ 1000000000) : Builtin.Range.small a b (-1) = true := by
  unfold Builtin.Range.small
  rw [PySem.W.rangeSize_down]
  simp only [Builtin.Range.rangeFitsLong, Bool.and_eq_true, Bool.or_eq_true, decide_eq_true_eq, beq_iff_eq, show ¬ ((-1 : Int) > 0) by decide, if_false]
  split <;> omega
theorem pi_down {X : Cx} {tg a b c : Expr} {ta : TA} {p pos : Pos} (hg : Gl X "range") (hm : X.mg "range" = none) (ha : PA X [a, b, c] ta) (hs : starEach [a, b, c] X.env = (false, eval a X.env) :: starEach [b, c] X.env := by rfl)
    (hs2 : (backTo pos (starEach [b, c] X.env)).any (·.1) = false := by rfl) : PI X tg (.Call (.Name "range" p) [a, b, c] [] pos) (iDown ta) := by
  intro pins s σ H R I h
  refine Call_ (ld_blt I hg hm boot_range (PyProof.Rows.callWith_type1 (thn (ha pos pins s σ H _ I h) fun us s1 ⟨vs, H1, I1, r1, q1⟩ => ?_) hs hs2))
  obtain ⟨i, j, e, ⟨q1, q2, q3, q4⟩, q⟩ := q1
  subst e
  obtain ⟨u1, u2, u3, rfl, ⟨t1, rfl⟩, ⟨t2, rfl⟩, ⟨t3, rfl⟩⟩ : ∃ u1 u2 u3, us = [u1, u2, u3] ∧ RelV (.int i) u1 ∧ RelV (.int j) u2 ∧ RelV (.int (-1)) u3 := by
    cases r1 with
    | cons a1 r1 => cases r1 with
      | cons a2 r1 => cases r1 with
        | cons a3 r1 => cases r1; exact ⟨_, _, _, rfl, a1, a2, a3⟩
  refine call_range_3 (by decide) ?_ (.inl (PyProof.noPylong_small (by omega)))
  refine wpAny_pyIter_range (IsRange.new ..) (small_down q1 q2 q3 q4) ?_
  have I2 : Inv X pins σ H1 { s1 with heap := s1.heap.push { cls := .type "range", data := .fields #[.int i t1, .int j t2, .int (-1) t3] }, toks := s1.toks } := I1.kept fun b o e => Heap.get?_push_of_some _ e
  refine ⟨(s1.heap.push { cls := .type "range", data := .fields #[.int i t1, .int j t2, .int (-1) t3] }).objs.size, [(s1.heap.push { cls := .type "range", data := .fields #[.int i t1, .int j t2, .int (-1) t3] }).objs.size], _, _, H1, rfl,
    I2.kept (t' := s1.toks) fun b o e => Heap.get?_push_of_some _ e, turn_down _ i (i - j).toNat, ?_, fun b hb => ?_, q⟩
  · have e1 : i + ((0 : Nat) : Int) * (-1) = i := by simp
    have e2 : (((i - j).toNat : Nat) : Int) - ((0 : Nat) : Int) = Builtin.Range.rangeSize i j (-1) := by rw [PySem.W.rangeSize_downNat]; simp
    show IsRangeIter _ _ (i + ((0 : Nat) : Int) * (-1)) ((((i - j).toNat : Nat) : Int) - ((0 : Nat) : Int)) (-1)
    rw [e1, e2]
    exact Heap.get?_push_size _ rfl
  · have e : b = (s1.heap.push { cls := .type "range", data := .fields #[.int i t1, .int j t2, .int (-1) t3] }).objs.size := by simpa using hb
    subst e
    exact I2.fpOk (Nat.le_refl _) (I2.hok.fresh (Nat.le_refl _))
end L2


set_option Elab.async false
set_option linter.all false
namespace Tw
/-! ### words in groups, by length: the mirror -/
def addNew {α : Type} [DecidableEq α] (l : List α) (x : α) : List α := if x ∈ l then l else l ++ [x]
theorem mem_addNew {α : Type} [DecidableEq α] {l : List α} {x y : α} : y ∈ addNew l x ↔ y ∈ l ∨ y = x := by
  unfold addNew
  split
  · rename_i h
    exact ⟨.inl, fun z => z.elim id fun e => e ▸ h⟩
  · simp
theorem nd_addNew {α : Type} [DecidableEq α] {l : List α} {x : α} (h : l.Nodup) : (addNew l x).Nodup := by
  unfold addNew
  split
  · exact h
  · rename_i hx
    rw [List.nodup_append]
    exact ⟨h, by simp, fun a ha b hb => by rw [List.mem_singleton.mp hb]; intro e; exact hx (e ▸ ha)⟩
def lensOf (ws : List W) : List Nat := ws.foldl (fun acc x => addNew acc x.length) []
def wordsOf (ws : List W) (n : Nat) : List W := ws.foldl (fun acc x => if x.length = n then addNew acc x else acc) []
def placesOf (ws : List W) (x : W) : List Nat := (List.range ws.length).filter fun i => decide (ws[i]? = some x)
theorem lensOf_snoc (ws : List W) (x : W) : lensOf (ws ++ [x]) = addNew (lensOf ws) x.length := by
  unfold lensOf; rw [List.foldl_append]; rfl
theorem wordsOf_snoc (ws : List W) (x : W) (n : Nat) : wordsOf (ws ++ [x]) n = if x.length = n then addNew (wordsOf ws n) x else wordsOf ws n := by
  unfold wordsOf; rw [List.foldl_append]; rfl
theorem snoc_ind {α : Type} {P : List α → Prop} (h0 : P []) (hs : ∀ l x, P l → P (l ++ [x])) : ∀ l, P l := by
  intro l
  have : ∀ n, ∀ l : List α, l.length = n → P l := by
    intro n
    induction n with
    | zero => intro l hl; rw [List.eq_nil_of_length_eq_zero hl]; exact h0
    | succ n ih =>
      intro l hl
      have hne : l ≠ [] := fun e => by rw [e] at hl; cases hl
      rw [← List.dropLast_concat_getLast hne]
      exact hs _ _ (ih _ (by simp [hl]))
  exact this _ l rfl
theorem mem_lensOf (ws : List W) (n : Nat) : n ∈ lensOf ws ↔ ∃ x ∈ ws, x.length = n := by
  induction ws using snoc_ind with
  | h0 => simp [lensOf]
  | hs ws x ih =>
    rw [lensOf_snoc, mem_addNew, ih]
    constructor
    · rintro (⟨y, hy, e⟩ | e)
      · exact ⟨y, List.mem_append_left _ hy, e⟩
      · exact ⟨x, by simp, e.symm⟩
    · rintro ⟨y, hy, e⟩
      rcases List.mem_append.mp hy with hy | hy
      · exact .inl ⟨y, hy, e⟩
      · rw [List.mem_singleton.mp hy] at e; exact .inr e.symm
theorem nd_lensOf (ws : List W) : (lensOf ws).Nodup := by
  induction ws using snoc_ind with
  | h0 => exact List.nodup_nil
  | hs ws x ih => rw [lensOf_snoc]; exact nd_addNew ih
theorem lensOf_len (ws : List W) : (lensOf ws).length ≤ ws.length := by
  induction ws using snoc_ind with
  | h0 => exact Nat.le_refl _
  | hs ws x ih =>
    rw [lensOf_snoc]
    unfold addNew
    split <;> simp <;> omega
theorem mem_wordsOf (ws : List W) (n : Nat) (x : W) : x ∈ wordsOf ws n ↔ x ∈ ws ∧ x.length = n := by
  induction ws using snoc_ind with
  | h0 => simp [wordsOf]
  | hs ws y ih =>
    rw [wordsOf_snoc, List.mem_append, List.mem_singleton]
    split
    · rename_i hy
      rw [mem_addNew, ih]
      constructor
      · rintro (⟨a, b⟩ | e)
        · exact ⟨.inl a, b⟩
        · exact ⟨.inr e, by rw [e]; exact hy⟩
      · rintro ⟨a | a, b⟩
        · exact .inl ⟨a, b⟩
        · exact .inr a
    · rename_i hy
      rw [ih]
      constructor
      · rintro ⟨a, b⟩; exact ⟨.inl a, b⟩
      · rintro ⟨a | a, b⟩
        · exact ⟨a, b⟩
        · exact absurd (a ▸ b) hy
theorem wordsOf_len (ws : List W) (n : Nat) : (wordsOf ws n).length ≤ ws.length := by
  induction ws using snoc_ind with
  | h0 => exact Nat.le_refl _
  | hs ws x ih =>
    rw [wordsOf_snoc]
    unfold addNew
    split
    · split <;> simp <;> omega
    · simp; omega
theorem placesOf_snoc (ws : List W) (x y : W) : placesOf (ws ++ [x]) y = placesOf ws y ++ if x = y then [ws.length] else [] := by
  unfold placesOf
  rw [List.length_append, List.length_singleton, List.range_succ, List.filter_append]
  congr 1
  · apply List.filter_congr
    intro i hi
    rw [List.getElem?_append_left (List.mem_range.mp hi)]
  · simp [List.filter_cons]
theorem mem_placesOf (ws : List W) (x : W) (i : Nat) : i ∈ placesOf ws x ↔ ws[i]? = some x := by
  unfold placesOf
  rw [List.mem_filter, List.mem_range, decide_eq_true_iff]
  exact ⟨fun h => h.2, fun h => ⟨(List.getElem?_eq_some_iff.mp h).1, h⟩⟩
theorem placesOf_len (ws : List W) (x : W) : (placesOf ws x).length ≤ ws.length := by
  unfold placesOf
  exact Nat.le_trans (List.length_filter_le _ _) (by simp)
theorem placesOf_none {ws : List W} {x : W} (h : x ∉ ws) : placesOf ws x = [] := by
  rw [List.eq_nil_iff_forall_not_mem]
  intro i hi
  rw [mem_placesOf] at hi
  exact h (List.mem_of_getElem? hi)
/-- the lengths of the words that stand at a mark, in the groups' order -/
def cut (t : W) (m n : Nat) : W := (t.drop m).take n
def standL (ws : List W) (t : W) (m : Nat) : List Nat := (lensOf ws).filter fun n => decide (n ≤ t.length - m) && decide (cut t m n ∈ ws)
theorem mem_standL (ws : List W) (t : W) (m n : Nat) (hm : m ≤ t.length) : n ∈ standL ws t m ↔ cut t m n ∈ ws ∧ n ≤ t.length - m ∧ (cut t m n).length = n := by
  unfold standL
  rw [List.mem_filter, Bool.and_eq_true, decide_eq_true_iff, decide_eq_true_iff, mem_lensOf]
  have hl : n ≤ t.length - m → (cut t m n).length = n := fun h => by unfold cut; simp; omega
  constructor
  · rintro ⟨_, h1, h2⟩; exact ⟨h2, h1, hl h1⟩
  · rintro ⟨h1, h2, h3⟩; exact ⟨⟨_, h1, h3⟩, h2, h1⟩
/-! ### how many readings of what is behind a mark -/
end Tw


set_option Elab.async false
set_option linter.all false
set_option maxRecDepth 100000
set_option maxHeartbeats 4000000
namespace L2
open PySem PySem.Spec PyProof.Rows Tw
theorem valV_of {α : Type} {κ : α → Key} {v : α → V} : ∀ {l : List α}, (∀ a ∈ l, ∀ b ∈ l, κ a = κ b → a = b) → ∀ {a : α}, a ∈ l → valV (l.map fun a => (κ a, v a)) (κ a) = some (v a)
  | [], _, _, h => nomatch h
  | b :: l, inj, a, h => by
    rw [List.map_cons]
    by_cases e : κ b = κ a
    · have := inj b List.mem_cons_self a h e
      subst this
      exact valV_pos rfl
    · rw [valV_neg (p := (κ b, v b)) e]
      rcases List.mem_cons.mp h with z | z
      · exact absurd (by rw [z]) e
      · exact valV_of (fun x hx y hy => inj x (List.mem_cons_of_mem _ hx) y (List.mem_cons_of_mem _ hy)) z
theorem valV_no {α : Type} {κ : α → Key} {v : α → V} {k : Key} : ∀ {l : List α}, (∀ a ∈ l, κ a ≠ k) → valV (l.map fun a => (κ a, v a)) k = none
  | [], _ => rfl
  | b :: l, h => by
    rw [List.map_cons, valV_neg (p := (κ b, v b)) (h b List.mem_cons_self)]
    exact valV_no fun a ha => h a (List.mem_cons_of_mem _ ha)
theorem lenK_inj {a b : Nat} (e : (.inl (a : Int) : Key) = .inl (b : Int)) : a = b := by have := Sum.inl.inj e; omega
theorem wK_inj {a b : W} (e : (.inr (st a) : Key) = .inr (st b)) : a = b := st_inj (Sum.inr.inj e)
theorem upd_k {H : Hp} {b t : Addr} {o u : HO} (e : H b = some o) (hn : b ≠ t) : upd H t u b = some o := by rw [upd_ne hn]; exact e
theorem small1000000 {n : Nat} (h : n ≤ 1000000) : n < sizeLine := Nat.lt_of_le_of_lt h (by decide)
abbrev intsV (r : List Nat) : List V := r.map fun (i : Nat) => V.int i
/-- groups at g, by lengths L: the dicts d n, the lists f x -/
structure GL (H : Hp) (g : Addr) (ws : List W) (L : List Nat) (d : Nat → Addr) (f : W → Addr) : Prop where
  gd : H g = some (.dK (L.map fun (n : Nat) => ((.inl (n : Int) : Key), V.ref (d n))))
  inn : ∀ n ∈ L, H (d n) = some (.dK ((wordsOf ws n).map fun (x : W) => ((.inr (st x) : Key), V.ref (f x))))
  lst : ∀ x ∈ ws, H (f x) = some (.lst (intsV (placesOf ws x)))
  dinj : ∀ n ∈ L, ∀ m ∈ L, d n = d m → n = m
  finj : ∀ x ∈ ws, ∀ y ∈ ws, f x = f y → x = y
  dg : ∀ n ∈ L, d n ≠ g
  cov : ∀ x ∈ ws, x.length ∈ L
section
variable {H : Hp} {g l : Addr} {ws : List W} {L : List Nat} {d : Nat → Addr} {f : W → Addr} {x : W} {n : Nat} {o : HO}
theorem GL.new (G : GL H g ws L d f) (h : H l = none) : GL (upd H l o) g ws L d f :=
  ⟨upd_keep G.gd h, fun n hn => upd_keep (G.inn n hn) h, fun x hx => upd_keep (G.lst x hx) h, G.dinj, G.finj, G.dg, G.cov⟩
theorem GL.len (G : GL H g ws L d f) (hn : n ∉ L) (h : H l = none) :
    GL (upd (upd H l (.dK [])) g (.dK (putK (L.map fun (n : Nat) => ((.inl (n : Int) : Key), V.ref (d n))) (.inl (n : Int)) (.ref l)))) g ws (L ++ [n]) (fun k => if k = n then l else d k) f := by
  have lg : l ≠ g := (ne_of_none G.gd h).symm
  have hd : ∀ m ∈ L, (if m = n then l else d m) = d m := fun m hm => if_neg fun (e : m = n) => hn (e ▸ hm)
  refine ⟨?_, fun m hm => ?_, fun x hx => ?_, fun m hm k hk e => ?_, G.finj, fun m hm => ?_, fun x hx => List.mem_append_left _ (G.cov x hx)⟩
  · rw [upd_same, putK_new _ (valV_no (κ := fun n : Nat => (.inl (n : Int) : Key)) fun a ha e => hn (lenK_inj (b := n) e ▸ ha)), List.map_append]
    congr 2
    · congr 1
      · apply List.map_congr_left
        intro m hm
        rw [hd m hm]
      · simp
  · rcases List.mem_append.mp hm with hm | hm
    · show upd (upd H l (.dK [])) g _ (if m = n then l else d m) = _
      rw [hd m hm]
      exact upd_k (upd_keep (G.inn m hm) h) (G.dg m hm)
    · have e : m = n := by simpa using hm
      subst e
      show upd (upd H l (.dK [])) g _ (if m = m then l else d m) = _
      rw [if_pos rfl, upd_ne lg, upd_same]
      have : wordsOf ws m = [] := by
        rw [List.eq_nil_iff_forall_not_mem]
        intro x hx
        obtain ⟨h1, h2⟩ := (mem_wordsOf ws m x).mp hx
        exact hn (h2 ▸ G.cov x h1)
      rw [this]; rfl
  · exact upd_k (upd_keep (G.lst x hx) h) (ne_of (G.lst x hx) G.gd (by simp))
  · have dn : ∀ m ∈ L, d m ≠ l := fun m hm => ne_of_none (G.inn m hm) h
    rcases List.mem_append.mp hm with hm | hm <;> rcases List.mem_append.mp hk with hk | hk
    · replace e : (if m = n then l else d m) = (if k = n then l else d k) := e
      rw [hd m hm, hd k hk] at e
      exact G.dinj m hm k hk e
    · have ek : k = n := by simpa using hk
      replace e : (if m = n then l else d m) = (if k = n then l else d k) := e
      rw [hd m hm, if_pos ek] at e
      exact absurd e (dn m hm)
    · have em : m = n := by simpa using hm
      replace e : (if m = n then l else d m) = (if k = n then l else d k) := e
      rw [hd k hk, if_pos em] at e
      exact absurd e.symm (dn k hk)
    · have em : m = n := by simpa using hm
      have ek : k = n := by simpa using hk
      rw [em, ek]
  · rcases List.mem_append.mp hm with hm | hm
    · show (if m = n then l else d m) ≠ g
      rw [hd m hm]; exact G.dg m hm
    · have em : m = n := by simpa using hm
      show (if m = n then l else d m) ≠ g
      rw [if_pos em]; exact lg
theorem GL.more (G : GL H g ws L d f) (hx : x ∈ ws) : GL (upd H (f x) (.lst (intsV (placesOf ws x) ++ [.int (ws.length : Nat)]))) g (ws ++ [x]) L d f := by
  have hl := G.lst x hx
  have all : ∀ y, y ∈ ws ++ [x] → y ∈ ws := fun y hy => by
    rcases List.mem_append.mp hy with z | z
    · exact z
    · rw [List.mem_singleton.mp z]; exact hx
  refine ⟨upd_k G.gd (ne_of G.gd hl (by simp)), fun m hm => ?_, fun y hy => ?_, G.dinj, fun a ha b hb => G.finj a (all a ha) b (all b hb), G.dg, fun y hy => G.cov y (all y hy)⟩
  · have : wordsOf (ws ++ [x]) m = wordsOf ws m := by
      rw [wordsOf_snoc]
      split
      · rename_i e
        unfold addNew
        rw [if_pos ((mem_wordsOf ws m x).mpr ⟨hx, e⟩)]
      · rfl
    rw [this]
    exact upd_k (G.inn m hm) (ne_of (G.inn m hm) hl (by simp))
  · rw [placesOf_snoc]
    by_cases e : x = y
    · subst e
      rw [upd_same, if_pos rfl]
      simp [intsV]
    · rw [if_neg e, List.append_nil]
      exact upd_k (G.lst y (all y hy)) fun z => e (G.finj y (all y hy) x hx z).symm
theorem GL.word (G : GL H g ws L d f) (hx : x ∉ ws) (hn : x.length ∈ L) (h : H l = none) :
    GL (upd (upd (upd H l (.lst [])) (d x.length) (.dK (putK ((wordsOf ws x.length).map fun (x : W) => ((.inr (st x) : Key), V.ref (f x))) (.inr (st x)) (.ref l)))) l (.lst ([] ++ [.int (ws.length : Nat)]))) g (ws ++ [x]) L d (fun y => if y = x then l else f y) := by
  have hf : ∀ y ∈ ws, (if y = x then l else f y) = f y := fun y hy => if_neg fun (e : y = x) => hx (e ▸ hy)
  have fl : ∀ y ∈ ws, f y ≠ l := fun y hy => ne_of_none (G.lst y hy) h
  have dl : ∀ m ∈ L, d m ≠ l := fun m hm => ne_of_none (G.inn m hm) h
  refine ⟨?_, fun m hm => ?_, fun y hy => ?_, G.dinj, fun a ha b hb e => ?_, G.dg, fun y hy => ?_⟩
  · exact upd_k (upd_k (upd_keep G.gd h) (G.dg _ hn).symm) (ne_of_none G.gd h)
  · rw [upd_ne (dl m hm), wordsOf_snoc]
    by_cases e : x.length = m
    · subst e
      rw [upd_same, if_pos rfl]
      have nx : x ∉ wordsOf ws x.length := fun z => hx ((mem_wordsOf ws _ x).mp z).1
      unfold addNew
      rw [if_neg nx, putK_new _ (valV_no (κ := fun x : W => (.inr (st x) : Key)) fun a ha e => nx (by have z := wK_inj (a := a) (b := x) e; rw [z] at ha; exact ha)), List.map_append]
      congr 2
      congr 1
      · apply List.map_congr_left
        intro y hy
        rw [hf y ((mem_wordsOf ws _ y).mp hy).1]
      · simp
    · have dne : d m ≠ d x.length := fun z => e (G.dinj _ hm _ hn z).symm
      rw [if_neg e, upd_ne dne, upd_ne (dl m hm), G.inn m hm]
      congr 2
      apply List.map_congr_left
      intro y hy
      rw [hf y ((mem_wordsOf ws _ y).mp hy).1]
  · rw [placesOf_snoc]
    rcases List.mem_append.mp hy with hy | hy
    · have e : ¬ x = y := fun e => hx (e ▸ hy)
      rw [if_neg e, List.append_nil]
      show upd _ l _ (if y = x then l else f y) = _
      rw [hf y hy]
      exact upd_k (upd_k (upd_keep (G.lst y hy) h) (ne_of (G.lst y hy) (G.inn _ hn) (by simp))) (fl y hy)
    · have e : y = x := by simpa using hy
      subst e
      show upd _ l _ (if y = y then l else f y) = _
      rw [if_pos rfl, if_pos rfl, upd_same, placesOf_none hx]
      simp [intsV]
  · rcases List.mem_append.mp ha with ha | ha <;> rcases List.mem_append.mp hb with hb | hb
    · replace e : (if a = x then l else f a) = (if b = x then l else f b) := e
      rw [hf a ha, hf b hb] at e
      exact G.finj a ha b hb e
    · have eb : b = x := by simpa using hb
      replace e : (if a = x then l else f a) = (if b = x then l else f b) := e
      rw [hf a ha, if_pos eb] at e
      exact absurd e (fl a ha)
    · have ea : a = x := by simpa using ha
      replace e : (if a = x then l else f a) = (if b = x then l else f b) := e
      rw [hf b hb, if_pos ea] at e
      exact absurd e.symm (fl b hb)
    · have ea : a = x := by simpa using ha
      have eb : b = x := by simpa using hb
      rw [ea, eb]
  · rcases List.mem_append.mp hy with hy | hy
    · exact G.cov y hy
    · have e : y = x := by simpa using hy
      rw [e]; exact hn
end
/-! ### the forms of for -/
theorem for_enum {K : PySem.W.Frag} {a : Addr} {xs : List V} {g : TG} {tb : TS} {D : Ends} {σ : St} {H : Hp} (Pv : Nat → St → Hp → Prop) (h0 : Pv 0 σ H) (hl : ∀ i σ H, i ≤ xs.length → Pv i σ H → SqL K H a xs)
    (hs : ∀ i x t σ H, xs[i]? = some x → Pv i σ H → H t = none → g (.ref t) σ (upd H t (.tup [.int i, x])) fun σ2 H2 => tb { D with nx := Pv (i + 1), ct := Pv (i + 1), bk := D.nx } σ2 H2) (hd : ∀ σ H, Pv xs.length σ H → D.nx σ H) :
    ∃ W : Nat → Nat → St → Hp → Prop, (∃ m, W 0 m σ H) ∧ ∀ i m σ H, W i m σ H →
      ((Ite K a).stop i H ∧ D.nx σ H) ∨ ((Ite K a).go i H ∧ ∃ N : St → Hp → Prop, (∀ σ' H', N σ' H' → ∃ m', m' < m ∧ W (i + 1) m' σ' H') ∧ ∀ x H', (Ite K a).yld i H x H' → g x σ H' fun σ2 H2 => tb { D with nx := N, ct := N, bk := D.nx } σ2 H2) := by
  refine ⟨fun i m σ H => m = xs.length - i ∧ i ≤ xs.length ∧ Pv i σ H, ⟨xs.length, by simp, Nat.zero_le _, h0⟩, ?_⟩
  rintro i m σ H ⟨rfl, hi, p⟩
  have q := hl i σ H hi p
  by_cases hlt : i < xs.length
  · refine .inr ⟨⟨xs, xs[i], q, by simp [hlt]⟩, Pv (i + 1), fun σ' H' p' => ⟨xs.length - (i + 1), by omega, rfl, hlt, p'⟩, fun x H' y => ?_⟩
    obtain ⟨t, rfl, ht, y⟩ := y
    obtain ⟨x, hx, rfl⟩ := y xs q
    exact hs i x t σ H hx p ht
  · have e : i = xs.length := by omega
    subst e
    exact .inl ⟨⟨xs, q, Nat.le_refl _⟩, hd σ H p⟩
theorem for_dict {a : Addr} {o : Obj} {kvs : List (Key × V)} {g : TG} {tb : TS} {D : Ends} {σ : St} {H : Hp} (Pv : Nat → St → Hp → Prop) (h0 : Pv 0 σ H) (hl : ∀ i σ H, i ≤ kvs.length → Pv i σ H → H a = some (.frz o (.dK kvs)))
    (hs : ∀ i p σ H, kvs[i]? = some p → Pv i σ H → g (kV p.1) σ H fun σ2 H2 => tb { D with nx := Pv (i + 1), ct := Pv (i + 1), bk := D.nx } σ2 H2) (hd : ∀ σ H, Pv kvs.length σ H → D.nx σ H) :
    ∃ W : Nat → Nat → St → Hp → Prop, (∃ m, W 0 m σ H) ∧ ∀ i m σ H, W i m σ H →
      ((Itd a o kvs).stop i H ∧ D.nx σ H) ∨ ((Itd a o kvs).go i H ∧ ∃ N : St → Hp → Prop, (∀ σ' H', N σ' H' → ∃ m', m' < m ∧ W (i + 1) m' σ' H') ∧ ∀ x H', (Itd a o kvs).yld i H x H' → g x σ H' fun σ2 H2 => tb { D with nx := N, ct := N, bk := D.nx } σ2 H2) := by
  refine ⟨fun i m σ H => m = kvs.length - i ∧ i ≤ kvs.length ∧ Pv i σ H, ⟨kvs.length, by simp, Nat.zero_le _, h0⟩, ?_⟩
  rintro i m σ H ⟨rfl, hi, p⟩
  have q := hl i σ H hi p
  by_cases hlt : i < kvs.length
  · refine .inr ⟨⟨hlt, q⟩, Pv (i + 1), fun σ' H' p' => ⟨kvs.length - (i + 1), by omega, rfl, hlt, p'⟩, fun x H' y => ?_⟩
    obtain ⟨rfl, kv, hkv, rfl⟩ := y
    exact hs i kv σ _ hkv p
  · have e : i = kvs.length := by omega
    subst e
    exact .inl ⟨⟨Nat.le_refl _, q⟩, hd σ H p⟩
theorem for_down {hi : Int} {n : Nat} {g : TG} {tb : TS} {D : Ends} {σ : St} {H : Hp} (Pv : Nat → St → Hp → Prop) (h0 : Pv 0 σ H)
    (hs : ∀ i σ H, i < n → Pv i σ H → g (.int (hi - i)) σ H fun σ2 H2 => tb { D with nx := Pv (i + 1), ct := Pv (i + 1), bk := D.nx } σ2 H2) (hd : ∀ σ H, Pv n σ H → D.nx σ H) :
    ∃ W : Nat → Nat → St → Hp → Prop, (∃ m, W 0 m σ H) ∧ ∀ i m σ H, W i m σ H →
      ((Itd1 hi n).stop i H ∧ D.nx σ H) ∨ ((Itd1 hi n).go i H ∧ ∃ N : St → Hp → Prop, (∀ σ' H', N σ' H' → ∃ m', m' < m ∧ W (i + 1) m' σ' H') ∧ ∀ x H', (Itd1 hi n).yld i H x H' → g x σ H' fun σ2 H2 => tb { D with nx := N, ct := N, bk := D.nx } σ2 H2) := by
  refine ⟨fun i m σ H => m = n - i ∧ i ≤ n ∧ Pv i σ H, ⟨n, by simp, Nat.zero_le _, h0⟩, ?_⟩
  rintro i m σ H ⟨rfl, hi, p⟩
  by_cases hlt : i < n
  · refine .inr ⟨hlt, Pv (i + 1), fun σ' H' p' => ⟨n - (i + 1), by omega, rfl, hlt, p'⟩, fun x H' y => ?_⟩
    obtain ⟨e, y⟩ := y
    subst e y
    exact hs i σ _ hlt p
  · have e : i = n := by omega
    subst e
    exact .inl ⟨Nat.le_refl _, hd σ H p⟩
end L2


set_option Elab.async false
set_option linter.all false
set_option maxRecDepth 100000
set_option maxHeartbeats 4000000
namespace L2
open PySem PySem.Spec PyProof.Rows Tw
section
variable {P : Program} {w : World} {K : PySem.W.Frag} {mg : Str → Option Value} {base : Heap}
def spGrouped (K : PySem.W.Frag) : Sp := fun vs H Q _ => ∃ (a : Addr) (ws : List W), vs = [.ref a] ∧ CodeAt K H a ws ∧ ∀ g d f H', H g = none → Ext H H' → GL H' g ws (lensOf ws) d f → Q (.ref g) H'
theorem ok_grouped (D : Def K mg "grouped" "grouped" Pl.s_grouped ["words"]) (B : Bare mg) : Cal P w K mg base CX0 1 "grouped" ["words"] (spGrouped K) := by
  have sc : FnScope ["words", "groups", "place", "word"] ["words"] (defScope Pl.s_grouped) := ⟨rfl, rfl, rfl, by decide +kernel, rfl, by decide +kernel, by decide +kernel⟩
  refine D.cal fun f fd F => F.ok sc (fun vs H Q E h => ?_) (fun cdv A outer s H vs Q E hr h => ?_)
  · obtain ⟨_, _, rfl, _⟩ := h
    rfl
  · obtain ⟨a, ws, rfl, hc, k⟩ := h
    have hu := hu_of hr
    refine ⟨_, pss_cons (ps_set (i := 1) sc.nd rfl (Or.inl rfl) pe_dnewK)
      (pss_cons (ps_for PassesOwn.never rfl (pi_enum (by rfl) B.enumerate (pa_cons (pv 0) pa_nil)) (pg_tup rfl (pgs_cons (pg_name (i := 2) sc.nd rfl (Or.inl rfl)) (pgs_cons (pg_name (i := 3) sc.nd rfl (Or.inl rfl)) pgs_nil)))
        (pss_cons (ps_if (pt_cmp (pc_dnotin hu (pe_callB call_len_str (by rfl) B.len PySem.boot_len (pa_cons (pv 3) pa_nil)) (pv 1)))
          (pss_one (ps_dput hu (pv 1) (pe_callB call_len_str (by rfl) B.len PySem.boot_len (pa_cons (pv 3) pa_nil)) pe_dnewK rfl)) pss_nil)
        (pss_one (ps_expr (pe_bm PySem.F.plainAttrs_list PySem.F.slot_list_append PySem.F.type_list_append mt_append
          (pe_dsd (pe_dget hu (pv 1) (pe_callB call_len_str (by rfl) B.len PySem.boot_len (pa_cons (pv 3) pa_nil)) (fun _ _ => rfl)) (pv 3) (pe_lst pa_nil) ⟨rfl, rfl, rfl, rfl⟩) (pa_cons (pv 2) pa_nil))))))
      (pss_one (ps_ret (pv 1)))), ?_⟩
    intro g hg
    refine ⟨_, rfl, a, rfl, ⟨_, (Ext.new hg).sqL hc.1⟩, for_enum (K := K) (a := a) (xs := ws.map sv) (fun i σ H2 => ∃ (d : Nat → Addr) (f : W → Addr) (p v : Option V), σ = [some (.ref a), some (.ref g), p, v] ∧ Ext H H2 ∧ (∀ n ∈ lensOf (ws.take i), H (d n) = none) ∧
      (∀ x ∈ ws.take i, H (f x) = none) ∧ GL H2 g (ws.take i) (lensOf (ws.take i)) d f) ?_ ?_ ?_ ?_⟩
    · refine ⟨fun _ => g, fun _ => g, none, none, rfl, Ext.new hg, fun n hn => ?_, fun x hx => ?_, ?_⟩
      · simp [lensOf] at hn
      · simp at hx
      · exact ⟨upd_same, fun n hn => by simp [lensOf] at hn, fun x hx => by simp at hx, fun n hn => by simp [lensOf] at hn, fun x hx => by simp at hx, fun n hn => by simp [lensOf] at hn, fun x hx => by simp at hx⟩
    · rintro i σ H2 hi ⟨d, f, p, v, rfl, x2, _⟩
      exact x2.sqL hc.1
    · rintro i y t σ H2 hy ⟨d, f, p, v, rfl, x2, hd, hf, G⟩ ht
      obtain ⟨x, hx, rfl⟩ : ∃ x, ws[i]? = some x ∧ sv x = y := by
        rw [List.getElem?_map] at hy
        cases q : ws[i]? with
        | none => rw [q] at hy; cases hy
        | some x => rw [q] at hy; exact ⟨x, rfl, by simpa using hy⟩
      have hlt : i < ws.length := (List.getElem?_eq_some_iff.mp hx).1
      have hw : ws.take (i + 1) = ws.take i ++ [x] := by rw [List.take_succ, hx]; rfl
      have hil : (ws.take i).length = i := by rw [List.length_take]; omega
      have hwl := hc.2.1
      have hxl : x.length ≤ 10000 := hc.2.2 x (List.mem_of_getElem? hx)
      have hsz : (st x).length ≤ sizeLine := by rw [st_len]; exact small_line (by omega)
      have ek : V.int ((st x).length : Nat) = kV (.inl (x.length : Int)) := by rw [st_len]; rfl
      have hLl : (lensOf (ws.take i)).length ≤ i := by have := lensOf_len (ws.take i); omega
      refine ⟨t, _, rfl, SqT.of upd_same, rfl, _, _, rfl, _, _, rfl, rfl, ?_⟩
      have x3 := x2.newer (o := .tup [.int i, sv x]) ht
      have G3 := G.new (o := .tup [.int i, sv x]) ht
      generalize upd H2 t (.tup [.int i, sv x]) = H3 at x3 G3
      have second : ∀ (H4 : Hp) (L : List Nat) (d : Nat → Addr), Ext H H4 → (∀ n ∈ L, H (d n) = none) → GL H4 g (ws.take i) L d f → x.length ∈ L → L = lensOf (ws.take (i + 1)) →
          tDrop (tBM K "list" rAppend (tDSd (tDGet (tVar 1) (tCB (fun xs H Q => ∃ z, xs = [.str z] ∧ z.length ≤ sizeLine ∧ Q (.int z.length) H) (tCons (tVar 3) tNil))) (tVar 3) (tLst tNil)) (tCons (tVar 2) tNil))
            { nx := fun σ H2 => ∃ (d : Nat → Addr) (f : W → Addr) (p v : Option V), σ = [some (.ref a), some (.ref g), p, v] ∧ Ext H H2 ∧ (∀ n ∈ lensOf (ws.take (i + 1)), H (d n) = none) ∧ (∀ x ∈ ws.take (i + 1), H (f x) = none) ∧ GL H2 g (ws.take (i + 1)) (lensOf (ws.take (i + 1))) d f, rt := Q }
            [some (.ref a), some (.ref g), some (.int i), some (sv x)] H4 := by
        intro H4 L d x4 hd4 G4 hxL eL
        subst eL
        have hnd := nd_lensOf (ws.take (i + 1))
        refine ⟨_, rfl, _, rfl, st x, rfl, hsz, g, .ref (d x.length), rfl, ?_, d x.length, rfl, .inl ⟨_, .inl (G4.inn _ hxL)⟩, _, rfl, by show 0 ≤ sizeLine; exact Nat.zero_le _, fun l hl => ?_⟩
        · rw [ek]
          exact .inl ⟨_, _, .inl G4.gd, rfl, (valV_of (κ := fun n : Nat => (.inl (n : Int) : Key)) (v := fun n => V.ref (d n)) (fun a _ b _ e => lenK_inj e) hxL).symm⟩
        · have G5 := G4.new (o := .lst []) hl
          have x5 := x4.newer (o := .lst []) hl
          refine ⟨_, .inr (st x), G5.inn _ hxL, rfl, fun v hv => ?_, fun hv => ?_⟩
          · have hxw : x ∈ ws.take i := by
              by_cases h : x ∈ ws.take i
              · exact h
              · rw [valV_no (κ := fun x : W => (.inr (st x) : Key)) (fun a ha e => h (wK_inj (b := x) e ▸ ((mem_wordsOf _ _ a).mp ha).1))] at hv
                cases hv
            rw [valV_of (κ := fun x : W => (.inr (st x) : Key)) (fun a _ b _ e => wK_inj e) ((mem_wordsOf _ _ x).mpr ⟨hxw, rfl⟩)] at hv
            cases hv
            refine ⟨.inl ⟨rfl, _, SqL.of (G5.lst x hxw)⟩, _, rfl, f x, _, _, rfl, rfl, G5.lst x hxw, ?_, ?_⟩
            · rw [List.length_map]
              have := placesOf_len (ws.take i) x
              exact small1000000 (by omega)
            · refine ⟨d, f, _, _, rfl, x5.over (hf x hxw), hd4, fun y hy => ?_, ?_⟩
              · rw [hw] at hy
                rcases List.mem_append.mp hy with hy | hy
                · exact hf y hy
                · rw [List.mem_singleton.mp hy]; exact hf x hxw
              · have G6 := G5.more hxw
                rw [hil] at G6
                rw [← hw] at G6
                exact G6
          · have hxw : x ∉ ws.take i := fun h => by
              rw [valV_of (κ := fun x : W => (.inr (st x) : Key)) (fun a _ b _ e => wK_inj e) ((mem_wordsOf _ _ x).mpr ⟨h, rfl⟩)] at hv
              cases hv
            have dl : l ≠ d x.length := (ne_of_none (G4.inn _ hxL) hl).symm
            refine ⟨?_, .inl ⟨rfl, _, SqL.of (upd_k upd_same dl)⟩, _, rfl, l, [], _, rfl, rfl, upd_k upd_same dl, by decide, ?_⟩
            · rw [List.length_map]
              have := wordsOf_len (ws.take i) x.length
              exact small1000000 (by omega)
            · refine ⟨d, fun y => if y = x then l else f y, _, _, rfl, (x5.over (hd4 _ hxL)).over (x4.free hl), hd4, fun y hy => ?_, ?_⟩
              · rw [hw] at hy
                show H (if y = x then l else f y) = none
                split
                · exact x4.free hl
                · rename_i hne
                  rcases List.mem_append.mp hy with hy | hy
                  · exact hf y hy
                  · exact absurd (List.mem_singleton.mp hy) hne
              · have G6 := G4.word hxw hxL hl
                rw [hil] at G6
                rw [← hw] at G6
                exact G6
      refine ⟨_, rfl, st x, rfl, hsz, _, rfl, g, _, rfl, .inl ⟨_, (.inl (x.length : Int) : Key), .inl G3.gd, ek, rfl⟩, _, rfl, ?_⟩
      by_cases hk : x.length ∈ lensOf (ws.take i)
      · rw [valV_of (κ := fun n : Nat => (.inl (n : Int) : Key)) (fun a _ b _ e => lenK_inj e) hk]
        refine iteF' (by simp) ?_
        refine second H3 _ d x3 hd G3 hk ?_
        rw [hw, lensOf_snoc]
        unfold addNew
        rw [if_pos hk]
      · rw [valV_no (κ := fun n : Nat => (.inl (n : Int) : Key)) (fun a ha e => hk (lenK_inj (b := x.length) e ▸ ha))]
        refine iteT' (by decide) ?_
        intro dd hdd
        have hg3 := upd_keep (u := .dK []) G3.gd hdd
        refine ⟨_, rfl, _, rfl, st x, rfl, hsz, g, _, rfl, .inl ⟨_, (.inl (x.length : Int) : Key), hg3, ek, by rw [List.length_map]; exact small1000000 (by omega), rfl⟩, ?_⟩
        refine second _ (lensOf (ws.take i) ++ [x.length]) (fun k => if k = x.length then dd else d k) ((x3.newer hdd).over hg) (fun n hn => ?_) (G3.len hk hdd) (by simp) ?_
        · show H (if n = x.length then dd else d n) = none
          split
          · exact x3.free hdd
          · rename_i hne
            rcases List.mem_append.mp hn with hn | hn
            · exact hd n hn
            · exact absurd (List.mem_singleton.mp hn) hne
        · rw [hw, lensOf_snoc]
          unfold addNew
          rw [if_neg hk]
    · rintro σ H2 ⟨d, f, p, v, rfl, x2, _, _, G⟩
      rw [List.length_map, List.take_length] at G
      exact ⟨_, rfl, k g d f H2 hg x2 G⟩
end
end L2


set_option Elab.async false
set_option linter.all false
set_option maxRecDepth 100000
set_option maxHeartbeats 4000000
namespace L2
open PySem PySem.Spec PyProof.Rows Tw
/-- the groups as they are read -/
structure GR (H : Hp) (g : Addr) (ws : List W) (d : Nat → Addr) (f : W → Addr) : Prop where
  gd : Rd H g (.dK ((lensOf ws).map fun (n : Nat) => ((.inl (n : Int) : Key), V.ref (d n))))
  inn : ∀ n ∈ lensOf ws, Rd H (d n) (.dK ((wordsOf ws n).map fun (x : W) => ((.inr (st x) : Key), V.ref (f x))))
  lst : ∀ x ∈ ws, H (f x) = some (.lst (intsV (placesOf ws x)))
section
variable {H H' : Hp} {g : Addr} {ws : List W} {d : Nat → Addr} {f : W → Addr} {L : List Nat}
theorem GL.rd (G : GL H g ws (lensOf ws) d f) : GR H g ws d f := ⟨.inl G.gd, fun n hn => .inl (G.inn n hn), G.lst⟩
theorem Ext.gr (x : Ext H H') (G : GR H g ws d f) : GR H' g ws d f := ⟨x.rdK G.gd, fun n hn => x.rdK (G.inn n hn), fun y hy => x.lst (G.lst y hy)⟩
end
def Stood (f : W → Addr) (t : W) (m n : Nat) (v : V) (H : Hp) : Prop := ∃ a, v = .ref a ∧ H a = some (.tup [.int ((m : Int) + (n : Int)), .ref (f (cut t m n))])
theorem Stood.keep {f : W → Addr} {t : W} {m n : Nat} {v : V} {H H' : Hp} (h : Stood f t m n v H) (k : Keep H H') : Stood f t m n v H' := by
  obtain ⟨a, e, z⟩ := h
  exact ⟨a, e, k a _ z (fun _ => by simp) fun _ => by simp⟩
theorem Keep.trans' {H H1 H2 : Hp} (a : Keep H H1) (b : Keep H1 H2) : Keep H H2 := fun c o e h1 h2 => b c o (a c o e h1 h2) h1 h2
theorem keep_new {H : Hp} {l : Addr} {o : HO} (h : H l = none) : Keep H (upd H l o) := (Ext.new h).kp
theorem cut_run' (t : W) (m n : Nat) (h : m ≤ t.length) : cutL t (some (m : Int)) (some ((m : Int) + (n : Int))) = cut t m n := by
  unfold cutL cut
  rw [HT.sIx_nat, show ((m : Int) + (n : Int)) = ((m + n : Nat) : Int) by omega, HT.sIx_nat, Nat.min_eq_left h]
  by_cases h2 : m + n ≤ t.length
  · rw [Nat.min_eq_left h2, Nat.add_sub_cancel_left]
  · rw [Nat.min_eq_right (by omega), List.take_of_length_le (by simp), List.take_of_length_le (by simp; omega)]
theorem kget {α : Type} {l : List α} {κ : α → Key} {v : α → V} {i : Nat} {p : Key × V} (h : (l.map fun a => (κ a, v a))[i]? = some p) : ∃ a, l[i]? = some a ∧ p = (κ a, v a) := by
  rw [List.getElem?_map] at h
  cases q : l[i]? with
  | none => rw [q] at h; cases h
  | some a => rw [q] at h; exact ⟨a, rfl, by simpa using h.symm⟩
theorem take_snoc {α : Type} {l : List α} {i : Nat} {a : α} (h : l[i]? = some a) : l.take (i + 1) = l.take i ++ [a] := by rw [List.take_succ, h]; rfl
section
variable {P : Program} {w : World} {K : PySem.W.Frag} {mg : Str → Option Value} {base : Heap}
def spStanding (K : PySem.W.Frag) : Sp := fun vs H Q _ => ∃ (g : Addr) (ws : List W) (d : Nat → Addr) (f : W → Addr) (t : W) (m : Nat), vs = [.ref g, sv t, .int (m : Int)] ∧ GR H g ws d f ∧ ws.length ≤ 10000 ∧ t.length ≤ 1000000 ∧ m ≤ t.length ∧
  ∀ D H' ys, H D = none → Ext H H' → (∀ b o, b ≠ g → H b = some o → H' b = some o) → H' D = some (.lst ys) → Paired (fun n v => Stood f t m n v H') (standL ws t m) ys → Q (.ref D) H'
theorem ok_standing (D : Def K mg "standing" "standing" Pl.s_standing ["groups", "text", "mark"]) (B : Bare mg) : Cal P w K mg base CX0 1 "standing" ["groups", "text", "mark"] (spStanding K) := by
  have sc : FnScope ["groups", "text", "mark", "left", "found", "length", "places"] ["groups", "text", "mark"] (defScope Pl.s_standing) := ⟨rfl, rfl, rfl, by decide +kernel, rfl, by decide +kernel, by decide +kernel⟩
  refine D.cal fun f fd F => F.ok sc (fun vs H Q E h => ?_) (fun cdv A outer s H vs Q E hr h => ?_)
  · obtain ⟨_, _, _, _, _, _, rfl, _⟩ := h
    rfl
  · obtain ⟨g, ws, d, f, t, m, rfl, G, hwl, htl, hmt, k⟩ := h
    have hu := hu_of hr
    refine ⟨_, pss_cons (ps_set (i := 3) sc.nd rfl (Or.inl rfl) (pe_op op_sub (pe_callB call_len_str (by rfl) B.len PySem.boot_len (pa_cons (pv 1) pa_nil)) (pv 2)))
      (pss_cons (ps_set (i := 4) sc.nd rfl (Or.inl rfl) (pe_lst pa_nil))
      (pss_cons (ps_for PassesOwn.never rfl (pi_dict (pv 0)) (pg_name (i := 5) sc.nd rfl (Or.inl rfl))
        (pss_one (ps_if (pt_cmpR op_le (pv 5) (pv 3) (nomark _))
          (pss_cons (ps_set (i := 6) sc.nd rfl (Or.inl rfl) (pe_dget1 hu (pe_dget hu (pv 0) (pv 5) (fun _ _ => rfl)) (pe_slice (r := rSlS) sl_str (pv 1) (po_some (pv 2)) (po_some (pe_op op_add (pv 2) (pv 5)))) ⟨rfl, rfl, rfl, rfl⟩))
          (pss_one (ps_if (pt_cmp (pc_notN (pv 6)))
            (pss_one (ps_expr (pe_bm PySem.F.plainAttrs_list PySem.F.slot_list_append PySem.F.type_list_append mt_append (pv 4) (pa_cons (pe_tup (pa_cons (pe_op op_add (pv 2) (pv 5)) (pa_cons (pv 6) pa_nil))) pa_nil)))) pss_nil)))
          pss_nil)))
      (pss_one (ps_ret (pv 4))))), ?_⟩
    have hsz : (st t).length ≤ sizeLine := by rw [st_len]; exact small_line htl
    refine ⟨_, rfl, st t, rfl, hsz, _, rfl, _, _, rfl, rfl, by show 0 ≤ sizeLine; exact Nat.zero_le _, fun D hD => ?_⟩
    have x1 : Ext H (upd H D (.lst [])) := Ext.new hD
    refine ⟨_, rfl, g, _, rfl, (x1.gr G).gd, fun o H2 x2 hH2 ne2 => ?_⟩
    have hDg : D ≠ g := by
      rintro rfl
      rcases G.gd with z | ⟨_, z⟩ <;> rw [hD] at z <;> cases z
    let p : Nat → Bool := fun n => decide (n ≤ t.length - m) && decide (cut t m n ∈ ws)
    refine for_dict (a := g) (o := o) (fun i σ H3 => ∃ (ln pl : Option V) (ys : List V), σ = [some (.ref g), some (sv t), some (.int (m : Int)), some (.int (((st t).length : Int) - (m : Int))), some (.ref D), ln, pl] ∧ H3 g = some (.frz o (.dK ((lensOf ws).map fun (n : Nat) => ((.inl (n : Int) : Key), V.ref (d n))))) ∧ (∀ b o, b ≠ g → H b = some o → H3 b = some o) ∧ Ext H H3 ∧ H3 D = some (.lst ys) ∧
      Paired (fun n v => Stood f t m n v H3) (((lensOf ws).take i).filter p) ys) ?_ ?_ ?_ ?_
    · exact ⟨none, none, [], rfl, hH2, fun b o hb e => by rw [ne2 b hb]; exact upd_keep e hD, x1.trans x2, by rw [ne2 D hDg]; exact upd_same, .nil⟩
    · rintro i σ H3 _ ⟨ln, pl, ys, rfl, x3, _⟩
      exact x3
    · rintro i q σ H3 hq ⟨ln, pl, ys, rfl, x3, kb, x4, hys, hp⟩
      obtain ⟨n, hn, rfl⟩ := kget hq
      have hnm : n ∈ lensOf ws := List.mem_of_getElem? hn
      have G4 := x4.gr G
      have et : (lensOf ws).take (i + 1) = (lensOf ws).take i ++ [n] := take_snoc hn
      have ys_len : ys.length ≤ 10000 := by
        rw [← hp.length]
        have h1 := List.length_filter_le p ((lensOf ws).take i)
        have h2 := List.length_take_le i (lensOf ws)
        have h3 := lensOf_len ws
        have h4 : ((lensOf ws).take i).length ≤ (lensOf ws).length := by rw [List.length_take]; omega
        omega
      have skip : p n = false → ∀ l0 p0 : Option V, ∃ (ln pl : Option V) (ys : List V), [some (.ref g), some (sv t), some (.int (m : Int)), some (.int (((st t).length : Int) - (m : Int))), some (.ref D), l0, p0] = [some (.ref g), some (sv t), some (.int (m : Int)), some (.int (((st t).length : Int) - (m : Int))), some (.ref D), ln, pl] ∧ H3 g = some (.frz o (.dK ((lensOf ws).map fun (n : Nat) => ((.inl (n : Int) : Key), V.ref (d n))))) ∧ (∀ b o, b ≠ g → H b = some o → H3 b = some o) ∧ Ext H H3 ∧ H3 D = some (.lst ys) ∧
          Paired (fun n v => Stood f t m n v H3) (((lensOf ws).take (i + 1)).filter p) ys := fun hpn l0 p0 => by
        refine ⟨l0, p0, ys, rfl, x3, kb, x4, hys, ?_⟩
        rw [et, List.filter_append]
        simp [hpn]
        exact hp
      refine ⟨_, rfl, _, rfl, _, _, rfl, rfl, _, rfl, ?_⟩
      by_cases hle : n ≤ t.length - m
      · refine iteT' (by rw [decide_eq_true_iff, st_len]; omega) ?_
        have ec := cut_run' t m n hmt
        have hcl : (cut t m n).length = n := by unfold cut; simp; omega
        refine ⟨_, rfl, _, rfl, g, .ref (d n), rfl, .inl ⟨_, (.inl (n : Int) : Key), G4.gd, rfl, (valV_of (κ := fun n : Nat => (.inl (n : Int) : Key)) (v := fun n => V.ref (d n)) (fun a _ b _ e => lenK_inj e) hnm).symm⟩, d n, rfl, .inl ⟨_, G4.inn n hnm⟩, _, rfl, _, rfl, _, rfl, _, rfl, _, rfl, _, _, rfl, rfl, _, rfl, t, rfl, small_line htl, ?_⟩
        rw [ec]
        refine ⟨_, .inl ⟨_, (.inr (st (cut t m n)) : Key), G4.inn n hnm, rfl, rfl⟩, ?_⟩
        by_cases hc : cut t m n ∈ ws
        · rw [valV_of (κ := fun x : W => (.inr (st x) : Key)) (fun a _ b _ e => wK_inj e) ((mem_wordsOf ws n _).mpr ⟨hc, hcl⟩)]
          refine ⟨_, rfl, _, rfl, iteT' (by simp) ?_⟩
          refine ⟨_, rfl, .inl ⟨rfl, _, SqL.of hys⟩, _, rfl, _, rfl, _, _, rfl, rfl, _, rfl, by show 2 ≤ sizeLine; decide, fun tp htp => ?_⟩
          have hys' := upd_keep (u := .tup [.int ((m : Int) + (n : Int)), .ref (f (cut t m n))]) hys htp
          refine ⟨D, ys, _, rfl, rfl, hys', small1000000 (by omega), ?_⟩
          have k2 := (keep_new htp).trans' (Keep.over (zs := ys ++ [.ref tp]) hys')
          refine ⟨_, _, ys ++ [.ref tp], rfl, ?_, fun b o hb e => upd_k (upd_keep (kb b o hb e) htp) (ne_of_none e hD), (x4.newer htp).over hD, upd_same, ?_⟩
          · exact upd_k (upd_keep x3 htp) hDg.symm
          · rw [et, List.filter_append]
            have hpn : p n = true := by simp [p, hle, hc]
            simp only [List.filter_cons, hpn, if_true, List.filter_nil]
            exact Paired.snoc (Paired.imp2 (fun n v h => h.keep k2) hp) ⟨tp, rfl, by rw [upd_ne (ne_of_none hys htp).symm, upd_same]; rfl⟩
        · rw [valV_no (κ := fun x : W => (.inr (st x) : Key)) (fun a ha e => hc (wK_inj (b := cut t m n) e ▸ ((mem_wordsOf ws n a).mp ha).1))]
          refine ⟨_, rfl, _, rfl, iteF' (by simp) ?_⟩
          exact skip (by simp [p, hc]) _ _
      · refine iteF' (by rw [decide_eq_true_iff, st_len]; omega) ?_
        exact skip (by simp [p]; intro z; exact absurd z hle) _ _
    · rintro σ H3 ⟨ln, pl, ys, rfl, x3, kb, x4, hys, hp⟩
      rw [List.length_map, List.take_length] at hp
      exact ⟨_, rfl, k D H3 ys hD x4 kb hys hp⟩
end
end L2


set_option Elab.async false
set_option linter.all false
set_option maxRecDepth 100000
set_option maxHeartbeats 4000000
namespace L2
open PySem PySem.Spec PyProof.Rows Tw
theorem pg_tupK {X : Cx} {K : PySem.W.Frag} {es : List Expr} {k : Nat} {t : TGs} {n : Nat} {pos : Pos} (h : X.K = K) (hc : X.calm = true) (hp : PGs X es t) (hn : (assignEach es X.env).length = n := by rfl)
    (hst : (assignEach es X.env).findIdx? (·.1) = none := by rfl) : PG X (.Tuple es k pos) (gTup K n t) := by subst h; exact pg_tup hc hp hn hst
theorem paired_get {α β : Type} {R : α → β → Prop} : ∀ {l : List α} {r : List β}, Paired R l r → ∀ {i : Nat} {y : β}, r[i]? = some y → ∃ x, l[i]? = some x ∧ R x y
  | _, _, .nil, _, _, e => by simp at e
  | _, _, .cons h t, 0, _, e => by simp at e; subst e; exact ⟨_, rfl, h⟩
  | _, _, .cons h t, i + 1, y, e => by
    obtain ⟨x, e1, e2⟩ := paired_get t (i := i) (y := y) (by simpa using e)
    exact ⟨x, by simpa using e1, e2⟩
end L2


set_option Elab.async false
set_option linter.all false
set_option maxRecDepth 100000
set_option maxHeartbeats 4000000
namespace L2
open PySem PySem.Spec PyProof.Rows Tw
def Sz (H : Hp) (v : V) : Prop := ∀ a xs, v = .ref a → Rd H a (.lst xs) → ∀ x, V.str x ∈ xs → x.length ≤ sizeLine
section
variable {P : Program} {w : World} {K : PySem.W.Frag} {mg : Str → Option Value} {base : Heap} {cCode cText cRead cNumber cPlaces cLengths : Addr}
def spCheckCode (K : PySem.W.Frag) (c : Addr) : Sp := fun vs H Q E => ∃ v, vs = [v] ∧ LstArg K H v ∧ Sz H v ∧ ∀ b H', Ext H H' → AllSo H v (isWordV az) b → (b = true → Q .non H') ∧ (b = false → E (.ref c) none H')
theorem ok_check_code (D : Def K mg "check_code" "check_code" Pl.s_check_code ["value"]) (Z : Exc K mg "BadCode" cCode) (C1 : Cal P w K mg base CX0 3 "is_code" ["value"] (spIsCode K)) :
    Cal P w K mg base (CX1 P w) 4 "check_code" ["value"] (spCheckCode K cCode) := by
  have sc : FnScope ["value"] ["value"] (defScope Pl.s_check_code) := ⟨rfl, rfl, rfl, by decide +kernel, rfl, by decide +kernel, by decide +kernel⟩
  refine D.cal fun f fd F => F.okX sc (fun vs H Q E h => ?_) (fun cdv A outer s H vs Q E hr h => ?_)
  · obtain ⟨_, rfl, _⟩ := h
    rfl
  · obtain ⟨v, rfl, hl, hz, k⟩ := h
    refine ⟨_, pss_one (ps_if (pt_not (pt_val (pe_callF C1 hr (pa_cons (pv 0) pa_nil) pass0))) (pss_one (ps_raise raisesX rfl Z pe_str)) pss_nil), ?_⟩
    refine ⟨_, rfl, v, rfl, hl, hz, fun b H' x1 hA => ⟨_, rfl, ?_⟩⟩
    cases b with
    | true => exact iteF ((k true H' x1 hA).1 rfl)
    | false => exact iteT ⟨by decide, (k false H' x1 hA).2 rfl⟩
end
end L2


set_option Elab.async false
set_option linter.all false
set_option maxRecDepth 100000
set_option maxHeartbeats 4000000
namespace L2
open PySem PySem.Spec PyProof.Rows Tw
/-! ### max(.., default=d) of ints -/
/-- ints are drawn, one by one -/
structure Drw (X : Cx) (pins : List (Addr × Obj)) (σ : St) (H : Hp) (it : Addr) (fp : List Addr) (tn : Nat → Heap → Prop) (ns : List Int) : Prop where
  item : ∀ (i : Nat) (n : Int) (s : Shared) (Q : Option Value → Shared → Prop) (E : Value → Shared → Prop), ns[i]? = some n → Inv X pins σ H s → tn i s.heap →
    (∀ t s', Inv X pins σ H s' → tn (i + 1) s'.heap → (∀ b o, b ∉ fp → s.heap.get? b = some o → s'.heap.get? b = some o) → Q (some (.int n t)) s') → wpAny (model X.prog X.w) X.A (pyNext (.ref it)) Q E s
  done : ∀ (s : Shared) (Q : Option Value → Shared → Prop) (E : Value → Shared → Prop), Inv X pins σ H s → tn ns.length s.heap →
    (∀ s', Inv X pins σ H s' → (∀ b o, b ∉ fp → s.heap.get? b = some o → s'.heap.get? b = some o) → Q none s') → wpAny (model X.prog X.w) X.A (pyNext (.ref it)) Q E s
  keep : ∀ i h h', tn i h → (∀ b ∈ fp, ∀ o, h.get? b = some o → h'.get? b = some o) → tn i h'
def mxStep (b : Option Int) (n : Int) : Option Int := match b with | none => some n | some m => some (if m < n then n else m)
def mxOf (ns : List Int) : Option Int := ns.foldl mxStep none
def BestIs : Option Int → List Value → Prop
  | none, vb => vb = []
  | some m, vb => ∃ t, vb = [.int m t, .int m t]
theorem max_loop {X : Cx} {pins : List (Addr × Obj)} {σ : St} {H : Hp} {it S : Addr} {fp : List Addr} {tn : Nat → Heap → Prop} {ns : List Int} {A : Around} {R : Result → Shared → Prop} (hA : A.in1 = X.A) (W : Drw X pins σ H it fp tn ns) (hSf : S ∉ fp) (hS : FpOk X pins H S) (dv : Value)
    (fin : ∀ s' u, Inv X pins σ H s' → (match mxOf ns with | none => u = dv | some m => ∃ t, u = .int m t) → R (.ok (.ret u)) s') :
    ∀ (k i : Nat) (s : Shared) (b : Option Int) (vb : List Value) (c : Nat), ns.length - i = k → i ≤ ns.length → Inv X pins σ H s → tn i s.heap → s.heap.get? S = some { cls := .type "list", data := .seq vb.toArray c } → b = (ns.take i).foldl mxStep none → BestIs b vb →
      codeAny (model X.prog X.w) A (.builtin "max.loop" ⟨[.ref it, .none, .ref S], [("default", dv)]⟩) R s := by
  have nm : (toString "max" ++ toString ".loop" : String) = "max.loop" := by decide
  intro k
  induction k with
  | zero =>
    intro i s b vb c hk hi I st hSo hb hv
    have ei : i = ns.length := by omega
    subst ei
    rw [List.take_length] at hb
    refine codeAny_builtin PySem.F.entry_max_loop ?_
    rw [Around.under_plainId PySem.F.plain_max_loop _, hA]
    show wpAny _ X.A (seqItems? (.ref S) >>= _) _ _ s
    refine wpAny_bind (wpAny_seqItems hSo rfl ?_)
    show wpAny _ X.A (tryCatch (pyNext (.ref it)) _ >>= _) _ _ s
    refine wpAny_bind (wpAny_tryCatch (W.done s _ _ I st fun s1 I1 kp => ?_))
    have hS1 := kp S _ hSf hSo
    cases b with
    | none =>
      subst hv
      show wpAny _ X.A (rule _ >>= _) _ _ _
      refine wpAny_bind (wpAny_rule (wpAny_pure ?_))
      exact fin s1 dv I1 (by unfold mxOf; rw [← hb])
    | some m =>
      obtain ⟨t, rfl⟩ := hv
      show wpAny _ X.A (updateSeq S (fun _ => #[]) >>= _) _ _ _
      refine wpAny_bind (wpAny_updateSeq hS1 rfl (wpAny_bind (wpAny_letGo (wpAny_pure ?_))))
      refine fin _ _ (I1.turned (t' := s1.toks) (it := S) (fun b o hb e => (Heap.get?_update_other _ _ (Ne.symm hb)).trans e) hS.1 hS.2.1 hS.2.2.2.1 hS.2.2.2.2.1 hS.2.2.2.2.2) ?_
      unfold mxOf
      rw [← hb]
      exact ⟨t, rfl⟩
  | succ k ih =>
    intro i s b vb c hk hi I st hSo hb hv
    have hlt : i < ns.length := by omega
    have hn : ns[i]? = some ns[i] := List.getElem?_eq_getElem hlt
    have hb' : ∀ n, ns[i]? = some n → (ns.take (i + 1)).foldl mxStep none = mxStep b n := fun n hn => by rw [take_snoc hn, List.foldl_append, ← hb]; rfl
    refine codeAny_builtin PySem.F.entry_max_loop ?_
    rw [Around.under_plainId PySem.F.plain_max_loop _, hA]
    show wpAny _ X.A (seqItems? (.ref S) >>= _) _ _ s
    refine wpAny_bind (wpAny_seqItems hSo rfl ?_)
    show wpAny _ X.A (tryCatch (pyNext (.ref it)) _ >>= _) _ _ s
    refine wpAny_bind (wpAny_tryCatch (W.item i _ s _ _ hn I st fun t s1 I1 st1 kp => ?_))
    have hS1 := kp S _ hSf hSo
    generalize hnn : ns[i] = n at hn
    have turnS : ∀ f, Inv X pins σ H { s1 with heap := s1.heap.update S (Obj.mapSeq f) } := fun f => I1.turned (t' := s1.toks) (it := S) (fun b o hb e => (Heap.get?_update_other _ _ (Ne.symm hb)).trans e) hS.1 hS.2.1 hS.2.2.2.1 hS.2.2.2.2.1 hS.2.2.2.2.2
    have tnS : ∀ f, tn (i + 1) (s1.heap.update S (Obj.mapSeq f)) := fun f => W.keep _ _ _ st1 fun b hbf o e => (Heap.get?_update_other _ _ (fun z : S = b => hSf (z ▸ hbf))).trans e
    cases b with
    | none =>
      subst hv
      show wpAny _ X.A (updateSeq S (fun _ => #[.int n t, .int n t]) >>= _) _ _ _
      refine wpAny_bind (wpAny_updateSeq hS1 rfl ?_)
      rw [nm]
      refine wpAny_pure ⟨plainId_quiet PySem.F.plain_max_loop _, ?_⟩
      exact ih (i + 1) _ (some n) [.int n t, .int n t] _ (by omega) hlt (turnS _) (tnS _) (Heap.get?_update_self _ hS1 rfl) (hb' n hn).symm ⟨t, rfl⟩
    | some m =>
      obtain ⟨u, rfl⟩ := hv
      show wpAny _ X.A (tryCatch (holding [.int n t, .int n t] (richCompare .Gt (.int n t) (.int m u) >>= _)) _ >>= _) _ _ _
      refine wpAny_bind (wpAny_tryCatch (wpAny_holding (wpAny_bind (richCompare_gives (op := .Gt) (typeIs_int s1 _ t) (typeIs_int s1 _ u) PySem.F.slot_int_gt PySem.F.entry_int_gt (PySem.F.args_int_gt_2 _ _) (gives_int_gt _ _ t u) (fun x => nomatch x) ?_))))
      refine wpAny_bind (wpAny_holding (wpAny_truthy_bool ?_))
      refine wpAny_bind (wpAny_letGo (wpAny_pure ?_))
      by_cases hgt : n > m
      · rw [decide_eq_true hgt]
        simp only [if_true]
        refine wpAny_bind (wpAny_updateSeq hS1 rfl (wpAny_bind (wpAny_letGo ?_)))
        rw [nm]
        refine wpAny_pure ⟨plainId_quiet PySem.F.plain_max_loop _, ?_⟩
        refine ih (i + 1) _ (some n) [.int n t, .int n t] _ (by omega) hlt (turnS _) (tnS _) (Heap.get?_update_self _ hS1 rfl) ?_ ⟨t, rfl⟩
        rw [hb' n hn]
        show _ = some (if m < n then n else m)
        rw [if_pos hgt]
      · rw [decide_eq_false hgt]
        simp only [Bool.false_eq_true, if_false]
        refine wpAny_bind (wpAny_letGo ?_)
        rw [nm]
        refine wpAny_pure ⟨plainId_quiet PySem.F.plain_max_loop _, ?_⟩
        refine ih (i + 1) _ (some m) [.int m u, .int m u] _ (by omega) hlt I1 st1 hS1 ?_ ⟨u, rfl⟩
        rw [hb' n hn]
        show _ = some (if m < n then n else m)
        rw [if_neg hgt]
end L2


set_option Elab.async false
set_option linter.all false
set_option maxRecDepth 100000
set_option maxHeartbeats 4000000
namespace L2
open PySem PySem.Spec PyProof.Rows Tw
def Cx.in1 (X : Cx) : Cx := { X with A := X.A.in1 }
section
variable {X : Cx} {pins : List (Addr × Obj)} {σ : St} {H : Hp} {s : Shared}
theorem Inv.in1 (I : Inv X pins σ H s) : Inv X.in1 pins σ H s :=
  ⟨⟨I.ok.mod, I.ok.kind, I.ok.glob, I.ok.blt, I.ok.above, I.ok.inj, I.ok.has, I.ok.cab, I.ok.hd, I.ok.frames, I.ok.stk, I.ok.exf, I.ok.bs, I.ok.bsz, I.ok.noex, I.ok.exfs, I.ok.funs, I.ok.frf⟩, I.os, I.bare, I.base, I.loc, I.cell, I.free, I.freeC, I.pin, I.hok, I.len⟩
theorem Inv.ofIn1 (I : Inv X.in1 pins σ H s) : Inv X pins σ H s :=
  ⟨⟨I.ok.mod, I.ok.kind, I.ok.glob, I.ok.blt, I.ok.above, I.ok.inj, I.ok.has, I.ok.cab, I.ok.hd, I.ok.frames, I.ok.stk, I.ok.exf, I.ok.bs, I.ok.bsz, I.ok.noex, I.ok.exfs, I.ok.funs, I.ok.frf⟩, I.os, I.bare, I.base, I.loc, I.cell, I.free, I.freeC, I.pin, I.hok, I.len⟩
theorem args_maxD (v dv : Value) : argsOk "max" ⟨[v], [("default", dv)]⟩ := by unfold argsOk; kernel_rfl
theorem call_maxD {v dv : Value} {Q : Value → Shared → Prop} {E : Value → Shared → Prop} 
    (h : wpAny (model X.prog X.w) X.A.in1 (pyIter v) (fun itv s2 => ∃ it fp tn ns H', itv = .ref it ∧ Inv X.in1 pins σ H' s2 ∧ Drw X.in1 pins σ H' it fp tn ns ∧ tn 0 s2.heap ∧ (∀ b ∈ fp, b < s2.heap.objs.size) ∧
      ∀ s' u, Inv X pins σ H' s' → (match mxOf ns with | none => u = dv | some m => ∃ t, u = .int m t) → Q u s') E s) : wpAny (model X.prog X.w) X.A (call (.builtin "max") [v] [("default", dv)]) Q E s := by
  have nm : (toString "max" ++ toString ".loop" : String) = "max.loop" := by decide
  refine wpAny_call (codeAny_call_builtin PySem.F.plain_max PySem.F.entry_max ?_)
  have fin : ∀ {R : Fin → Shared → Prop}, wpAny (model X.prog X.w) X.A.in1 (Builtin.«max» ⟨[v], [("default", dv)]⟩) R E s → wpAny (model X.prog X.w) X.A.in1 (checkBuiltinCall "max" ⟨[v], [("default", dv)]⟩) (fun _ s => wpAny (model X.prog X.w) X.A.in1 (Builtin.«max» ⟨[v], [("default", dv)]⟩) R E s) E s := fun {R} hc => by
    simp only [checkBuiltinCall, PySem.F.kind_max]
    have ha := args_maxD v dv
    cases hsig : Manifest.signature? "max" with
    | none => exact wpAny_pure hc
    | some sig =>
      simp only [argsOk, hsig] at ha
      have h2 : Bind.checkArgs "max" sig ⟨[v], [("default", dv)]⟩ = pure () := ha
      show wpAny _ X.A.in1 (Bind.checkArgs "max" sig ⟨[v], [("default", dv)]⟩) _ _ s
      rw [h2]
      exact wpAny_pure hc
  refine fin ?_
  show wpAny _ X.A.in1 (Builtin.Builtins.bindParams "max" ["key", "default"] 0 ⟨[], [("default", dv)]⟩ >>= _) _ _ s
  refine wpAny_bind (wpAny_of_eq (show Builtin.Builtins.bindParams "max" ["key", "default"] 0 ⟨[], [("default", dv)]⟩ = pure [none, some dv] from rfl) ?_)
  refine wpAny_bind (wpAny_pure ?_)
  refine wpAny_bind (wpAny_mono h (fun itv s2 h2 => ?_) fun _ _ e => e)
  obtain ⟨it, fp, tn, ns, H', rfl, I2, W, st, hfp, hQ⟩ := h2
  refine wpAny_bind (wpAny_newObj_type ?_)
  have hSf : s2.heap.objs.size ∉ fp := fun hm => Nat.lt_irrefl _ (hfp _ hm)
  rw [nm]
  refine wpAny_pure ⟨plainId_quiet PySem.F.plain_max_loop _, ?_⟩
  have I3 : Inv X.in1 pins σ H' { s2 with heap := s2.heap.push { cls := .type "list", data := .seq ([] : List Value).toArray } } := I2.kept (t' := s2.toks) fun b o e => Heap.get?_push_of_some _ e
  refine max_loop (X := X.in1) (A := X.A) rfl W hSf (I2.fpOk (Nat.le_refl _) (I2.hok.fresh (Nat.le_refl _))) dv (fun s' u I' hu => hQ s' u I'.ofIn1 hu) _ 0 _ none [] 0 rfl (Nat.zero_le _) I3 (W.keep _ _ _ st fun b _ o e => Heap.get?_push_of_some _ e) (Heap.get?_push_size _ rfl) rfl rfl
/-- a list draws -/
theorem drw_list {a it : Addr} {ns : List Int} (hc : X.calm = true) (hq : SqL X.K H a (ns.map V.int)) (hf : FpOk X pins H it) : Drw X pins σ H it [it] (fun i h => h.IsListIter it a i) ns where
  item := by
    intro i n s Q E hn I st h
    obtain ⟨its, rv, p, hz⟩ := I.list hq
    obtain ⟨u, hu, t, rfl⟩ := rv.get (i := i) (x := V.int n) (by rw [List.getElem?_map, hn]; rfl)
    obtain ⟨f0, f1, f2, f3, f4, f5⟩ := hf
    refine wpAny_pyNext_list_item st p.isList (x := .int n t) (by simpa using hu) fun h' st' sb => ?_
    exact h t _ (I.turned (t' := s.toks) (it := it) (fun b o hb e => (sb.2 b hb).trans e) f0 f1 f3 f4 f5) st' fun b o hb e => (sb.2 b fun z => hb (by simp [z])).trans e
  done := by
    intro s Q E I st h
    obtain ⟨its, rv, p, hz⟩ := I.list hq
    have hl := rv.length
    rw [List.length_map] at hl
    obtain ⟨f0, f1, f2, f3, f4, f5⟩ := hf
    exact wpAny_pyNext_list_end (I.ok.hd hc) st p.isList (by simp; omega) fun h' eb => h _ (I.turned (t' := s.toks) (it := it) (fun b o hb e => eb b o hb e) f0 f1 f3 f4 f5) fun b o hb e => eb b o (fun z => hb (by simp [z])) e
  keep := fun i h h' st k => st.at fun o e => k it (by simp) o e
end
/-! ### the rules -/
def mxV (ns : List Int) (d : V) : V := match mxOf ns with | none => d | some m => .int m
def tMaxL (K : PySem.W.Frag) (te : TA) (td : TE) : TE := fun σ H Q => te σ H fun xs H1 => td σ H1 fun d H2 => ∃ a ns, xs = [.ref a] ∧ SqL K H2 a (ns.map V.int) ∧ Q (mxV ns d) H2
theorem mxV_rel {ns : List Int} {d : V} {dv u : Value} (r : RelV d dv) (h : match mxOf ns with | none => u = dv | some m => ∃ t, u = .int m t) : RelV (mxV ns d) u := by
  unfold mxV
  cases q : mxOf ns with
  | none => rw [q] at h; rw [h]; exact r
  | some m => rw [q] at h; exact h
section
variable {X : Cx} {e d : Expr} {te : TA} {td : TE} {p pos kpos : Pos}
theorem pe_maxL (hc : X.calm = true) (hm : X.mg "max" = none) (he : PA X [e] te) (hd : PE X d td) (hg : Gl X "max" := by rfl)
    (hb : backTo pos (starEach [e] X.env) = (false, eval e X.env) :: backTo pos (starEach [] X.env) := by rfl) (hpl : (backTo pos (starEach [e] X.env)).any (·.1) = false := by rfl) : PE X (.Call (.Name "max" p) [e] [⟨some "default", d, kpos⟩] pos) (tMaxL X.K te td) := by
  intro pins s σ H Q I h
  refine wpAny_Call_Name_kw (ld_blt I hg hm Boot.«max» ?_)
  refine PyProof.Rows.callWith_kw (thn (he pos pins s σ H _ I h) fun us s1 ⟨xs, H1, I1, r1, q1⟩ => ?_) hb hpl rfl rfl
  refine PyProof.Rows.kws_cons (thn (hd pins s1 σ H1 _ I1 q1) fun dv s2 ⟨dx, H2, I2, rd, a, ns, e1, hq, q2⟩ => PyProof.Rows.kws_nil ?_)
  subst e1
  obtain ⟨u, rfl, ru⟩ := vals1 r1
  cases ru
  refine call_maxD (pins := pins) (σ := σ) ?_
  obtain ⟨its, rv, pl, hz⟩ := I2.list hq
  refine wpAny_pyIter_list pl.isList ?_
  have hfr : H2 s2.heap.objs.size = none := I2.hok.fresh (Nat.le_refl _)
  refine ⟨s2.heap.objs.size, [s2.heap.objs.size], _, ns, H2, rfl, (I2.kept (t' := s2.toks) fun b o e => Heap.get?_push_of_some _ e).in1, drw_list hc hq (I2.in1.fpOk (Nat.le_refl _) hfr), ⟨_, Heap.get?_push_size _ rfl, rfl, rfl⟩, fun b hb => ?_, fun s' u I' hu => ⟨_, H2, I', mxV_rel rd hu, q2⟩⟩
  have : b = s2.heap.objs.size := by simpa using hb
  rw [this, Heap.size_push]
  exact Nat.lt_succ_self _
end
end L2


set_option Elab.async false
set_option linter.all false
set_option maxRecDepth 100000
set_option maxHeartbeats 4000000
namespace L2
open PySem PySem.Spec PyProof.Rows Tw
/-- words of letters, at a -/
structure CodeL (H : Hp) (a : Addr) (ws : List W) : Prop where
  at_ : H a = some (.lst (ws.map sv))
  ok : ∀ x ∈ ws, isWordV az (sv x) = true
  few : ws.length ≤ 10000
  short : ∀ x ∈ ws, x.length ≤ 10000
section
variable {H H' : Hp} {a : Addr} {ws : List W} {K : PySem.W.Frag}
theorem CodeL.code (h : CodeL H a ws) : CodeAt K H a ws := ⟨SqL.of h.at_, h.few, h.short⟩
theorem CodeL.ext (h : CodeL H a ws) (x : Ext H H') : CodeL H' a ws := ⟨x.lst h.at_, h.ok, h.few, h.short⟩
theorem CodeL.arg (h : CodeL H a ws) : LstArg K H (.ref a) := by
  refine ⟨⟨_, .lst h.at_⟩, fun b xs e hr => ?_⟩
  cases e
  have := hr.inj (.inl h.at_)
  subst this
  refine ⟨by rw [List.length_map]; exact small_line (by have := h.few; omega), fun y hy H' _ => ?_⟩
  obtain ⟨x, _, rfl⟩ := List.mem_map.mp hy
  exact ⟨_, .str _⟩
theorem CodeL.sz (h : CodeL H a ws) : Sz H (.ref a) := fun b xs e hr x hx => by
  cases e
  have := hr.inj (.inl h.at_)
  subst this
  obtain ⟨y, hy, e⟩ := List.mem_map.mp hx
  cases e
  rw [st_len]
  exact small_line (by have := h.short y hy; omega)
theorem CodeL.all (h : CodeL H a ws) {b : Bool} (q : AllSo H (.ref a) (isWordV az) b) : b = true := by
  rw [q.eq (.inl h.at_), List.all_eq_true]
  intro y hy
  obtain ⟨x, hx, rfl⟩ := List.mem_map.mp hy
  exact h.ok x hx
end
end L2


set_option Elab.async false
set_option linter.all false
set_option maxRecDepth 100000
set_option maxHeartbeats 4000000
namespace L2
open PySem PySem.Spec PyProof.Rows Tw
end L2


set_option Elab.async false
set_option linter.all false
set_option maxRecDepth 100000
set_option maxHeartbeats 4000000
namespace L2
open PySem PySem.Spec PyProof.Rows Tw
def IntsL (H : Hp) (a : Addr) (r : List Nat) : Prop := H a = some (.lst (intsV r)) ∧ r.length ≤ 100000
section
variable {H H' : Hp} {a : Addr} {r : List Nat} {K : PySem.W.Frag}
theorem IntsL.arg (h : IntsL H a r) : LstArg K H (.ref a) := by
  refine ⟨⟨_, .lst h.1⟩, fun b xs e hr => ?_⟩
  cases e
  have := hr.inj (.inl h.1)
  subst this
  refine ⟨by rw [List.length_map]; exact small_line (by have := h.2; omega), fun y hy H' _ => ?_⟩
  obtain ⟨x, _, rfl⟩ := List.mem_map.mp hy
  exact ⟨_, .int _⟩
end
section
variable {P : Program} {w : World} {K : PySem.W.Frag} {mg : Str → Option Value} {base : Heap} {cCode cText cRead cNumber cPlaces cLengths : Addr}
end
end L2


set_option Elab.async false
set_option linter.all false
set_option maxRecDepth 100000
set_option maxHeartbeats 4000000
namespace L2
open PySem PySem.Spec PyProof.Rows Tw
/-! ### lists of bools compared; a text times a number -/
end L2


set_option Elab.async false
set_option linter.all false
set_option maxRecDepth 100000
set_option maxHeartbeats 4000000
namespace L2
open PySem PySem.Spec PyProof.Rows Tw
section
variable {X : Cx}
theorem op_eqL0 (hu : X.A.units < cLine) : OpR X (compareOp .Eq) (fun x y H Q => ∃ (p q : Addr) (xs : List V), x = .ref p ∧ y = .ref q ∧ SqL X.K H p xs ∧ SqL X.K H q [] ∧ Q (.bl (decide (xs = []))) H) := by
  intro pins s σ H x y v u Q I rx ry h
  obtain ⟨p, q, xs, rfl, rfl, hp, hq, k⟩ := h
  cases rx
  cases ry
  obtain ⟨its, r, pl, _⟩ := I.list hp
  obtain ⟨its', r', pl', _⟩ := I.list hq
  have e' : its' = [] := List.eq_nil_of_length_eq_zero (by rw [← r'.length]; rfl)
  subst e'
  cases xs with
  | nil =>
    have e : its = [] := List.eq_nil_of_length_eq_zero (by rw [← r.length]; rfl)
    subst e
    exact SeqAt.eq_listAt (e := fun _ => true) pl.isList pl'.isList rfl hu (fun j h1 _ => absurd h1 (Nat.not_lt_zero j)) ⟨.bl _, H, I, rfl, k⟩
  | cons x0 xs =>
    have hl := r.length
    refine SeqAt.eq_list_lengthsAt pl.isList pl'.isList ?_ hu ⟨.bl false, H, I, rfl, by simpa using k⟩
    simp only [List.size_toArray, ← hl]
    simp
/-! ### a text told backwards -/
end
end L2


set_option Elab.async false
set_option linter.all false
set_option maxRecDepth 100000
set_option maxHeartbeats 2000000
namespace L2
open PySem PySem.Spec PyProof.Rows Tw
seal PSs PS PE PT PW PA PG PGs PI PC
theorem call_isi_s {X : Cx} {K : PySem.W.Frag} (h : X.K = K) : CallR X (.builtin "isinstance") (rIsi K) := by subst h; exact call_isi
end L2


set_option Elab.async false
set_option linter.all false
set_option maxRecDepth 100000
set_option maxHeartbeats 2000000
namespace L2
open PySem PySem.Spec PyProof.Rows Tw
seal PSs PS PE PT PW PA PG PGs PI PC
theorem s_one (c : Nat) : (⟨#[c]⟩ : Str) = st [c] := rfl
theorem mod_nat {i k : Int} (hk : 0 < k) : ∃ n : Nat, i % k = (n : Int) ∧ (n : Int) < k := ⟨(i % k).toNat, by have := Int.emod_nonneg i (by omega : k ≠ 0); omega, by have := Int.emod_lt_of_pos i hk; have := Int.emod_nonneg i (by omega : k ≠ 0); omega⟩
theorem mod_ix {α : Type} {xs : List α} {i k : Int} (hk : 0 < k) (hl : k ≤ xs.length) : ∃ v, atI xs (i % k) = some v ∧ v ∈ xs := by
  obtain ⟨n, e, l⟩ := mod_nat (i := i) hk
  have hn : n < xs.length := by omega
  exact ⟨xs[n], by rw [e]; exact atI_nat (by simp [hn]), by simp⟩
theorem sE : Str.ofString "" = st [] := by decide +kernel
end L2


set_option Elab.async false
set_option linter.all false
set_option maxRecDepth 100000
set_option maxHeartbeats 2000000
namespace L2
open PySem PySem.Spec PyProof.Rows Tw
seal PSs PS PE PT PW PA PG PGs PI PC
/-! ### ljust, rstrip, index -/
/-- without the letters at the end that are among these -/
def rstripW (a b : W) : W := (a.reverse.dropWhile fun c => b.contains c).reverse
theorem takeWhile_drop {p : Nat → Bool} (l : W) : l.dropWhile p = l.drop (l.takeWhile p).length := by
  induction l with
  | nil => rfl
  | cons a l ih =>
    rw [List.dropWhile_cons, List.takeWhile_cons]
    cases p a with
    | true => simp only [if_true, List.length_cons, List.drop_succ_cons]; exact ih
    | false => rfl
theorem rstripW_take (a b : W) : rstripW a b = a.take (a.length - (a.reverse.takeWhile fun c => b.contains c).length) := by
  unfold rstripW
  rw [takeWhile_drop, List.drop_reverse, List.reverse_reverse]
theorem st_rstrip (a b : W) : Txt.rstripChars (st a) (st b) = st (rstripW a b) := by
  unfold Txt.rstripChars Txt.stripBy stripSame stripped stripLo stripHi
  simp only [if_true, Bool.false_eq_true, if_false, st_len, st_cps, List.drop_zero]
  have hc : (st b).cps.contains = fun c => b.contains c := by funext c; simp [Tw.st]
  rw [hc, rstripW_take]
  split
  · rename_i h
    have h : a.length - (a.reverse.takeWhile fun c => b.contains c).length = a.length := by simpa using h
    rw [h, List.take_length]
  · show (⟨a.toArray.extract 0 _⟩ : Str) = ⟨_⟩
    simp
section
variable {X : Cx}
theorem mt_ljust : MtR X "str.ljust" (fun x xs H Q => ∃ (a : W) (n c : Nat), x = sv a ∧ xs = [.int (n : Int), sv [c]] ∧ n ≤ 100000 ∧ Q (sv (a ++ List.replicate (n - a.length) c)) H) := by
  intro pins s σ H x xs v us Q I rx rs h
  obtain ⟨a, n, c, rfl, rfl, hn, q⟩ := h
  obtain ⟨t, rfl⟩ := rx
  cases rs with
  | cons r1 rs =>
    cases rs with
    | cons r2 rs =>
      cases rs
      obtain ⟨t1, rfl⟩ := r1
      obtain ⟨t2, rfl⟩ := r2
      refine ljust_fill (padOk_of (by omega) (by omega)) (by rw [st_len]; rfl) fun t' k => ⟨.str _, H, I.tok k, ⟨t', rfl⟩, ?_⟩
      have e : Txt.ljustF (st a) (n : Int) ((st [c]).cps.getD 0 0) = st (a ++ List.replicate (n - a.length) c) := by
        unfold Txt.ljustF
        rw [st_len]
        split
        · rename_i h
          rw [show n - a.length = 0 by omega]
          simp
        · show (⟨Array.replicate 0 _ ++ a.toArray ++ Array.replicate _ _⟩ : Str) = ⟨_⟩
          simp [Tw.st]
      rw [e]
      exact q
theorem mt_rstrip : MtR X "str.rstrip" (fun x xs H Q => ∃ (a b : W), x = sv a ∧ xs = [sv b] ∧ a.length ≤ sizeLine ∧ Q (sv (rstripW a b)) H) := by
  intro pins s σ H x xs v us Q I rx rs h
  obtain ⟨a, b, rfl, rfl, hz, q⟩ := h
  obtain ⟨t, rfl⟩ := rx
  obtain ⟨u, rfl, t', rfl⟩ := vals1 rs
  refine SC.rstripChars (fun t' k => ⟨.str _, H, I.tok k, ⟨t', rfl⟩, ?_⟩) (by rw [st_len]; exact hz)
  rw [st_rstrip]
  exact q
theorem az_at : ∀ k : Fin 26, Builtin.Str.occurrences (st az) (st [97 + k.val]) 0 (st az).length 1 = [k.val] := by decide +kernel
theorem mt_index : MtR X "str.index" (fun x xs H Q => ∃ k : Nat, k < 26 ∧ x = sv az ∧ xs = [sv [97 + k]] ∧ Q (.int (k : Int)) H) := by
  intro pins s σ H x xs v us Q I rx rs h
  obtain ⟨k, hk, rfl, rfl, q⟩ := h
  obtain ⟨t, rfl⟩ := rx
  obtain ⟨u, rfl, t', rfl⟩ := vals1 rs
  exact SC.index (az_at ⟨k, hk⟩) ⟨.int _, H, I.tok _, ⟨_, rfl⟩, q⟩
end
theorem az_get {k : Nat} (h : k < 26) : az[k]? = some (97 + k) := by
  have : ∀ k : Fin 26, az[k.val]? = some (97 + k.val) := by decide
  exact this ⟨k, h⟩
theorem cutL_init (a : W) : cutL a none (some (-1)) = a.dropLast := by
  have e : HT.sIx a.length a.length (some (-1)) = a.length - 1 := by
    show (if (-1 : Int) < 0 then ((-1 : Int) + (a.length : Int)).toNat else min (-1 : Int).toNat a.length) = _
    rw [if_pos (by decide)]
    omega
  unfold cutL
  rw [e, List.dropLast_eq_take]
  rfl
/-! ### words as numbers -/
/-- letters from a on, q of them -/
def Dg (q : Nat) (w : W) : Prop := ∀ c ∈ w, 97 ≤ c ∧ c < 97 + q
/-- what number a word is, of q letters -/
def vl (q : Nat) (w : W) : Nat := w.foldl (fun n c => n * q + (c - 97)) 0
theorem vl_snoc (q : Nat) (w : W) (c : Nat) : vl q (w ++ [c]) = vl q w * q + (c - 97) := by unfold vl; rw [List.foldl_append]; rfl
theorem vl_lt {q : Nat} {w : W} (h : Dg q w) : vl q w < q ^ w.length := by
  have key : ∀ (r : W), Dg q r.reverse → vl q r.reverse < q ^ r.length := by
    intro r
    induction r with
    | nil => intro _; exact Nat.lt_succ_self 0
    | cons c r ih =>
      intro h
      rw [List.reverse_cons] at h ⊢
      have h1 := ih fun d hd => h d (List.mem_append_left _ hd)
      have h2 := h c (List.mem_append_right _ (List.mem_singleton.mpr rfl))
      rw [vl_snoc, List.length_cons, Nat.pow_succ]
      have : (vl q r.reverse + 1) * q ≤ q ^ r.length * q := Nat.mul_le_mul_right _ h1
      rw [Nat.add_mul] at this
      omega
  have := key w.reverse (by rw [List.reverse_reverse]; exact h)
  rw [List.reverse_reverse, List.length_reverse] at this
  exact this
theorem vl_zeros (q : Nat) (w : W) : ∀ m : Nat, vl q (w ++ List.replicate m 97) = vl q w * q ^ m
  | 0 => by simp
  | m + 1 => by
    rw [List.replicate_succ', ← List.append_assoc, vl_snoc, vl_zeros q w m, Nat.pow_succ, Nat.mul_assoc]
    simp
theorem vl_tops {q : Nat} (hq : 1 ≤ q) (w : W) : ∀ m : Nat, vl q (w ++ List.replicate m (97 + (q - 1))) + 1 = (vl q w + 1) * q ^ m
  | 0 => by simp
  | m + 1 => by
    rw [List.replicate_succ', ← List.append_assoc, vl_snoc, Nat.pow_succ, ← Nat.mul_assoc, ← vl_tops hq w m, Nat.add_mul]
    omega
theorem vl_app (q : Nat) (a b : W) : vl q (a ++ b) = vl q a * q ^ b.length + vl q b := by
  have key : ∀ r : W, vl q (a ++ r.reverse) = vl q a * q ^ r.length + vl q r.reverse := by
    intro r
    induction r with
    | nil => simp [vl]
    | cons c r ih =>
      rw [List.reverse_cons, ← List.append_assoc, vl_snoc, vl_snoc, ih, List.length_cons, Nat.pow_succ, Nat.add_mul, Nat.mul_assoc, Nat.add_assoc]
  have := key b.reverse
  rw [List.reverse_reverse, List.length_reverse] at this
  exact this
/-- the word without its last letters of the greatest kind -/
theorem rstrip_split (w : W) (c : Nat) : ∃ m, w = rstripW w [c] ++ List.replicate m c ∧ (rstripW w [c] = [] ∨ ∃ k d, rstripW w [c] = k ++ [d] ∧ d ≠ c) := by
  have key : ∀ r : W, ∃ m, r.reverse = rstripW r.reverse [c] ++ List.replicate m c ∧ (rstripW r.reverse [c] = [] ∨ ∃ k d, rstripW r.reverse [c] = k ++ [d] ∧ d ≠ c) := by
    intro r
    unfold rstripW
    rw [List.reverse_reverse]
    induction r with
    | nil => exact ⟨0, by simp, .inl rfl⟩
    | cons d r ih =>
      by_cases h : d = c
      · subst h
        obtain ⟨m, h1, h2⟩ := ih
        rw [List.dropWhile_cons, if_pos (by simp)]
        refine ⟨m + 1, ?_, h2⟩
        rw [List.reverse_cons, List.replicate_succ', ← List.append_assoc, ← h1]
      · rw [List.dropWhile_cons, if_neg (by simp [h])]
        exact ⟨0, by simp, .inr ⟨r.reverse, d, by rw [List.reverse_cons], h⟩⟩
  have := key w.reverse
  rw [List.reverse_reverse] at this
  exact this
end L2


set_option Elab.async false
set_option linter.all false
set_option maxRecDepth 100000
set_option maxHeartbeats 2000000
namespace L2
open PySem PySem.Spec PyProof.Rows Tw
/-! ### lists of texts compared; is not True; two kinds of one thing -/
def rIsNotB : R2 := fun x y H Q => ∃ b c, x = .bl b ∧ y = .bl c ∧ Q (.bl (!decide (b = c))) H
theorem op_isNotB {X : Cx} : OpR X (compareOp .IsNot) rIsNotB := by
  intro pins s σ H x y v u Q I rx ry h
  obtain ⟨b, c, rfl, rfl, k⟩ := h
  cases rx
  cases ry
  refine wpAny_isNot_plain rfl ⟨.bl (!decide (b = c)), H, I, ?_, k⟩
  cases b <;> cases c <;> rfl
theorem pe_either {X : Cx} {e : Expr} {t t' : TE} (h : PE X e t) (h' : PE X e t') : PE X e (fun σ H Q => t σ H Q ∨ t' σ H Q) := fun pins s σ H Q I q => q.elim (h pins s σ H Q I) (h' pins s σ H Q I)
seal PSs PS PE PT PW PA PG PGs PI PC
def lstLen (H : Hp) (l : Addr) : Nat := match H l with
  | some (.lst xs) => xs.length
  | _ => 0
theorem lstLen_of {H : Hp} {l : Addr} {xs : List V} (h : H l = some (.lst xs)) : lstLen H l = xs.length := by unfold lstLen; rw [h]
theorem no_list (K : PySem.W.Frag) : PySem.W.kitOne K (.type "int") (.type "list") = some false := by kernel_rfl
theorem yes_list (K : PySem.W.Frag) : PySem.W.kitOne K (.type "list") (.type "list") = some true := by kernel_rfl
section
variable {P : Program} {w : World} {K : PySem.W.Frag} {mg : Str → Option Value} {base : Heap}
def spCopied (K : PySem.W.Frag) : Sp := fun vs H Q _ => ∃ (a : Addr) (r : List Nat), vs = [.ref a] ∧ H a = some (.lst (intsV r)) ∧ r.length ≤ 100000 ∧ ∀ l H', H l = none → Ext H H' → H' l = some (.lst (intsV r)) → Q (.ref l) H'
theorem ok_copied (D : Def K mg "copied" "copied" Pl.s_copied ["value"]) (B : Bare mg) : Cal P w K mg base CX0 1 "copied" ["value"] (spCopied K) := by
  have sc : FnScope ["value", "told", "waiting", "members", "place"] ["value"] (defScope Pl.s_copied) := ⟨rfl, rfl, rfl, by decide +kernel, rfl, by decide +kernel, by decide +kernel⟩
  refine D.cal fun f fd F => F.ok sc (fun vs H Q E h => ?_) (fun cdv A outer s H vs Q E hr h => ?_)
  · obtain ⟨_, _, rfl, _⟩ := h
    rfl
  · obtain ⟨a, r, rfl, ha, hrl, k⟩ := h
    refine ⟨_, pss_cons (ps_if (pt_not (pt_val (pe_isi_list B (pv 0)))) (pss_one (ps_ret (pv 0))) pss_nil)
      (pss_cons (ps_set (i := 1) sc.nd rfl (Or.inl rfl) (pe_callTy call_list_of (by rfl) B.list boot_list (pa_cons (pv 0) pa_nil)))
      (pss_cons (ps_set (i := 2) sc.nd rfl (Or.inl rfl) (pe_lst (pa_cons (pv 1) pa_nil)))
      (pss_cons (ps_while PassesOwn.never (pt_truth (pv 2) (fun _ => rfl))
        (pss_cons (ps_set (i := 3) sc.nd rfl (Or.inl rfl) (pe_bm0 PySem.F.plainAttrs_list PySem.F.slot_list_pop PySem.F.type_list_pop mt_pop (pv 2)))
        (pss_one (ps_for PassesOwn.never rfl (pi_range1 (by rfl) B.range (pa_cons (pe_callB call_len_seq (by rfl) B.len PySem.boot_len (pa_cons (pv 3) pa_nil)) pa_nil)) (pg_name (i := 4) sc.nd rfl (Or.inl rfl))
          (pss_one (ps_if (pt_val (pe_isi_list B (pe_ix (r := rIxL K) ix_list (pv 3) (pv 4) (fun _ _ => rfl)))) pss_never pss_nil))))))
      (pss_one (ps_ret (pv 1)))))), ?_⟩
    refine ⟨_, rfl, _, _, _, _, rfl, trivial, .lst ha, yes_list K, _, rfl, iteF' (by decide) ?_⟩
    refine ⟨_, rfl, a, _, rfl, .inl (SqL.of ha), fun l hl => ?_⟩
    have x1 : Ext H (upd H l (.lst (intsV r))) := Ext.new hl
    refine ⟨_, rfl, by show 1 ≤ sizeLine; decide, fun q hq => ?_⟩
    have nql : l ≠ q := ne_of_none upd_same hq
    dsimp only [gName, tSeq]
    refine while_by (fun σ H2 => ∃ (ws : List V) (mb pl : Option V), σ = [some (.ref a), some (.ref l), some (.ref q), mb, pl] ∧ Ext H H2 ∧ H2 l = some (.lst (intsV r)) ∧ H2 q = some (.lst ws) ∧ (ws = [.ref l] ∨ ws = [])) (fun _ H2 => lstLen H2 q) ?_ ?_ ?_
    · exact ⟨[.ref l], none, none, rfl, x1.newer hq, upd_keep upd_same hq, upd_same, .inl rfl⟩
    · rintro σ H2 ⟨ws, mb, pl, rfl, x2, hl2, hq2, rfl | rfl⟩
      · refine ⟨_, rfl, true, .inl ⟨_, SqL.of hq2, rfl⟩, iteT ?_⟩
        refine ⟨_, rfl, .inl ⟨rfl, _, SqL.of hq2⟩, q, _, .ref l, rfl, rfl, hq2, rfl, ?_⟩
        have hl3 : upd H2 q (.lst ([V.ref l].dropLast)) l = some (.lst (intsV r)) := upd_k hl2 nql
        have x3 : Ext H (upd H2 q (.lst ([V.ref l].dropLast))) := x2.over (x1.free hq)
        refine ⟨_, rfl, l, _, rfl, .inl (SqL.of hl3), _, rfl, by omega, by rw [List.length_map]; omega, ?_⟩
        have en : (((intsV r).length : Nat) : Int).toNat = r.length := by rw [List.length_map]; omega
        rw [en]
        refine for_range (fun i σ H4 => (∃ pl : Option V, σ = [some (.ref a), some (.ref l), some (.ref q), some (.ref l), pl]) ∧ H4 = upd H2 q (.lst ([V.ref l].dropLast))) ⟨⟨_, rfl⟩, rfl⟩ ?_ ?_
        · rintro i σ H4 hi ⟨⟨pl, rfl⟩, rfl⟩
          refine ⟨_, rfl, _, rfl, l, _, _, .int (r[i] : Nat), rfl, rfl, SqL.of hl3, ?_, _, _, _, _, rfl, trivial, .int _, no_list K, _, rfl, iteF ⟨⟨_, rfl⟩, rfl⟩⟩
          rw [Int.zero_add]
          exact atI_nat (by simp [hi])
        · rintro σ H4 ⟨⟨pl, rfl⟩, rfl⟩
          refine ⟨⟨[], _, _, rfl, x3, hl3, upd_same, .inr rfl⟩, ?_⟩
          rw [lstLen_of hq2, lstLen_of (upd_same (H := H2) (a := q))]
          simp
      · refine ⟨_, rfl, false, .inl ⟨_, SqL.of hq2, rfl⟩, iteF ?_⟩
        exact ⟨_, rfl, k l H2 hl x2 hl2⟩
    · rintro σ H' Q1 Q2 hQ ⟨v, e1, b, e2, q⟩
      exact ⟨v, e1, b, e2, hQ _ _ q⟩
end
def spInit (C : Addr) (fld : Str) : Sp := fun vs H Q _ => ∃ (o p dx : Addr) (r : List Nat), vs = [.ref o, .ref p] ∧ H o = some (.ins C dx []) ∧ H p = some (.lst (intsV r)) ∧ r.length ≤ 100000 ∧
  ∀ l H1, H l = none → Ext H H1 → H1 l = some (.lst (intsV r)) → Q .non (upd H1 o (.ins C dx [(fld, .ref l)]))
/-- what isinstance needs of a class -/
structure InsTy (K : PySem.W.Frag) (C : Addr) : Prop where
  cls : Cls K C
  ha : PySem.W.findIn K (.ref C) "__class__" = some (some (.builtin "object.__class__"))
  hn : PySem.W.specialIn K (.builtin "object.__class__") "__get__" = some (some (.builtin "getset_descriptor.__get__"))
  htk : PySem.W.takesIn K (.builtin "object.__class__") = some true
  hm : PySem.W.mroIn K C (.type "object") = some true
theorem InsTy.ty {K : PySem.W.Frag} {C a dx : Addr} {H : Hp} {fs : List (Str × V)} (I : InsTy K C) (e : H a = some (.ins C dx fs)) : TyOf K H (.ref a) (.ref C) := .ins e I.cls I.ha I.hn I.htk I.hm
theorem passF {P : Program} {w : World} {X : Cx} : Passes (CX1 P w) X (fun _ _ _ => False) := by
  intro pins σ H1 s1 e s' I h
  obtain ⟨ea, cls, H', rfl, F, q⟩ := h
  exact q.elim
end L2


set_option Elab.async false
set_option linter.all false
set_option maxRecDepth 100000
set_option maxHeartbeats 4000000
namespace L2
open PySem PySem.Spec PyProof.Rows Tw
seal PSs PS PE PT PW PA PG PGs PI PC
/-! ### list.count of ints -/
def rCount (K : PySem.W.Frag) : V → List V → Hp → VK → Prop := fun x xs H Q => ∃ (l : Addr) (ns : List Int) (k : Int), x = .ref l ∧ xs = [.int k] ∧ SqL K H l (ns.map V.int) ∧ Q (.int (ns.count k : Nat)) H
theorem mt_count {X : Cx} {K : PySem.W.Frag} (h : X.K = K) : MtR X "list.count" (rCount K) := by
  subst h
  intro pins s σ H x xs v us Q I rx rs h
  obtain ⟨l, ns, k, rfl, rfl, hq, q⟩ := h
  cases rx
  obtain ⟨u, rfl, t, rfl⟩ := vals1 rs
  obtain ⟨its, r, pl, _⟩ := I.list hq
  exact count_list_ints pl.isList (intsAre_of r) ⟨.int _, H, I.tok _, ⟨_, rfl⟩, q⟩
theorem mxOf_fold : ∀ (ns : List Int) (b : Option Int), (∀ n ∈ ns, ∃ m, ns.foldl mxStep b = some m ∧ n ≤ m) ∧ (∀ m0, b = some m0 → ∃ m, ns.foldl mxStep b = some m ∧ m0 ≤ m) ∧ ∀ m, ns.foldl mxStep b = some m → m ∈ ns ∨ b = some m
  | [], b => ⟨fun n hn => by simp at hn, fun m0 e => ⟨m0, e, Int.le_refl _⟩, fun m e => .inr e⟩
  | n :: ns, b => by
    obtain ⟨h1, h2, h3⟩ := mxOf_fold ns (mxStep b n)
    have big : ∃ m1, mxStep b n = some m1 ∧ n ≤ m1 ∧ (∀ m0, b = some m0 → m0 ≤ m1) ∧ (m1 = n ∨ b = some m1) := by
      cases b with
      | none => exact ⟨n, rfl, Int.le_refl _, fun _ e => (nomatch e), .inl rfl⟩
      | some m0 =>
        unfold mxStep
        by_cases z : m0 < n
        · exact ⟨n, by simp [z], Int.le_refl _, fun m e => by cases e; omega, .inl rfl⟩
        · exact ⟨m0, by simp [z], by omega, fun m e => by cases e; omega, .inr rfl⟩
    obtain ⟨m1, e1, hn, hb, hw⟩ := big
    refine ⟨fun k hk => ?_, fun m0 e => ?_, fun m e => ?_⟩
    · rcases List.mem_cons.mp hk with z | z
      · obtain ⟨m, e, l⟩ := h2 m1 e1
        exact ⟨m, e, by omega⟩
      · exact h1 k z
    · obtain ⟨m, e', l⟩ := h2 m1 e1
      have := hb m0 e
      exact ⟨m, e', by omega⟩
    · rcases h3 m e with z | z
      · exact .inl (List.mem_cons_of_mem _ z)
      · rw [e1] at z
        cases z
        rcases hw with q | q
        · exact .inl (by rw [q]; exact List.mem_cons_self)
        · exact .inr q
/-- the greatest length -/
theorem mx_lens (ls : List Nat) : ∃ L : Nat, mxV (ls.map fun (n : Nat) => (n : Int)) (.int 0) = .int (L : Int) ∧ (∀ n ∈ ls, n ≤ L) ∧ (L = 0 ∨ L ∈ ls) := by
  obtain ⟨h1, _, h3⟩ := mxOf_fold (ls.map fun (n : Nat) => (n : Int)) none
  unfold mxV
  cases e : mxOf (ls.map fun (n : Nat) => (n : Int)) with
  | none =>
    refine ⟨0, rfl, fun n hn => ?_, .inl rfl⟩
    obtain ⟨m, e', _⟩ := h1 n (List.mem_map.mpr ⟨n, hn, rfl⟩)
    unfold mxOf at e
    rw [e] at e'
    cases e'
  | some m =>
    unfold mxOf at e
    rcases h3 m e with z | z
    · obtain ⟨L, hL, rfl⟩ := List.mem_map.mp z
      refine ⟨L, rfl, fun n hn => ?_, .inr hL⟩
      obtain ⟨m', e', l⟩ := h1 n (List.mem_map.mpr ⟨n, hn, rfl⟩)
      rw [e] at e'
      cases e'
      omega
    · cases z
theorem count_int (ls : List Nat) (n : Nat) : (ls.map fun (k : Nat) => (k : Int)).count (n : Int) = ls.count n := by
  induction ls with
  | nil => rfl
  | cons a ls ih =>
    rw [List.map_cons, List.count_cons, List.count_cons, ih]
    congr 1
    by_cases h : a = n
    · subst h; simp
    · rw [if_neg (by simp; omega), if_neg (by simp; omega)]
def isCountV : V → Bool
  | .int i => decide (1 ≤ i) && decide (i ≤ 26)
  | _ => false
def isLenV : V → Bool
  | .int i => decide (1 ≤ i)
  | _ => false
section
variable {P : Program} {w : World} {K : PySem.W.Frag} {mg : Str → Option Value} {base : Heap} {cLengths : Addr}
def spIsCount (K : PySem.W.Frag) : Sp := fun vs H Q _ => ∃ v, vs = [v] ∧ IsDt K H v ∧ Q (.bl (isCountV v)) H
theorem ok_is_count (D : Def K mg "is_count" "is_count" Pl.s_is_count ["letters"]) (B : Bare mg) (L : ∃ t, mg "LETTERS" = some (.str "abcdefghijklmnopqrstuvwxyz" t)) (C1 : Cal P w K mg base CX0 1 "is_whole" ["value"] (spIsWhole K)) : Cal P w K mg base CX0 2 "is_count" ["letters"] (spIsCount K) := by
  have sc : FnScope ["letters"] ["letters"] (defScope Pl.s_is_count) := ⟨rfl, rfl, rfl, by decide +kernel, rfl, by decide +kernel, by decide +kernel⟩
  obtain ⟨tk, hL⟩ := L
  refine D.cal fun f fd F => F.ok sc (fun vs H Q E h => ?_) (fun cdv A outer s H vs Q E hr h => ?_)
  · obtain ⟨_, rfl, _⟩ := h
    rfl
  · obtain ⟨v, rfl, hd, k⟩ := h
    refine ⟨_, pss_one (ps_ret (pe_and (pe_callF C1 hr (pa_cons (pv 0) pa_nil) pass0) (pe_one (pe_chain op_le op_le pe_int (pv 0) (pe_callB call_len_str (by rfl) B.len PySem.boot_len (pa_cons (pe_glob (v := sv az) (by rfl) hL ⟨tk, by rw [az_eq]⟩) pa_nil)))))), ?_⟩
    refine ⟨_, rfl, v, rfl, hd, _, rfl, ?_⟩
    cases v with
    | int i =>
      refine iteT ?_
      refine ⟨_, rfl, _, _, rfl, rfl, _, rfl, ?_⟩
      have e : isCountV (.int i) = (decide (1 ≤ i) && decide (i ≤ 26)) := rfl
      by_cases h0 : (1 : Int) ≤ i
      · refine iteT' (by simpa using h0) ?_
        refine ⟨st az, rfl, by rw [st_len]; decide, _, _, rfl, rfl, ?_⟩
        rw [e, decide_eq_true h0, Bool.true_and] at k
        exact k
      · refine iteF' (by simpa using h0) ?_
        rw [e, decide_eq_false h0, Bool.false_and] at k
        first | exact k | (rw [decide_eq_false h0]; exact k)
    | _ => exact iteF' (fun z => Bool.noConfusion z) k
def spAreLengths (K : PySem.W.Frag) : Sp := fun vs H Q _ => ∃ v, vs = [v] ∧ LstArg K H v ∧ ∀ b H', Ext H H' → AllSo H v isLenV b → Q (.bl b) H'
theorem ok_are_lengths (D : Def K mg "are_lengths" "are_lengths" Pl.s_are_lengths ["values"]) (B : Bare mg) (C1 : Cal P w K mg base CX0 1 "is_whole" ["value"] (spIsWhole K)) : Cal P w K mg base CX0 2 "are_lengths" ["values"] (spAreLengths K) := by
  have sc : FnScope ["values"] ["values"] (defScope Pl.s_are_lengths) := ⟨rfl, rfl, rfl, by decide +kernel, rfl, by decide +kernel, by decide +kernel⟩
  refine D.cal fun f fd F => F.ok sc (fun vs H Q E h => ?_) (fun cdv A outer s H vs Q E hr h => ?_)
  · obtain ⟨_, rfl, _⟩ := h
    rfl
  · obtain ⟨v, rfl, ⟨hd, hl⟩, k⟩ := h
    have nd : (["value"] : List Str).Nodup := by decide +kernel
    refine ⟨_, pss_one (ps_ret (pe_and (pe_isi_list B (pv 0)) (pe_one (pe_callB (call_all_bl rfl) (by rfl) B.all Boot.«all» (pa_cons
      (pe_comp (N' := ["value"]) (js := [none]) (.of (by kernel_rfl)) rfl (pi_list (pv 0)) fun C fp s₀ H₀ => ⟨pg_name (i := 0) nd rfl (Or.inl rfl), pts_nil,
        pe_and (pe_callF C1 hr (pa_cons (pv 0) pa_nil) pass0) (pe_one (pe_cmpR op_ge (pv 0) pe_int (nomark _)))⟩) pa_nil))))), ?_⟩
    obtain ⟨t, b, ty, e, hb⟩ := isi_list hd
    refine ⟨_, rfl, _, _, t, _, rfl, trivial, ty, e, _, rfl, ?_⟩
    cases b with
    | false =>
      refine iteF (k false H (Ext.refl _) ⟨fun a xs e h => ?_, fun _ => rfl⟩)
      exact absurd (hb.mpr ⟨a, xs, e, h⟩) (by decide)
    | true =>
      refine iteT ?_
      obtain ⟨a, xs, rfl, hr2⟩ := hb.mp rfl
      have hq : SqL K H a xs := .inl hr2
      refine ⟨_, rfl, a, rfl, ⟨xs, hq⟩, ?_⟩
      obtain ⟨hl1, hl2⟩ := hl a xs rfl hr2
      refine block_map1 hq hl1 (fun y => .bl (isLenV y)) (fun y H' hy x1 Q' k' => ?_) (fun D H' _ x1 hD => ?_)
      · refine ⟨_, rfl, y, rfl, hl2 y hy H' x1, _, rfl, ?_⟩
        cases y with
        | int i =>
          refine iteT ?_
          exact ⟨_, rfl, _, _, rfl, rfl, k' _ H' (Ext.refl _) rfl⟩
        | _ => exact iteF' (fun z => Bool.noConfusion z) (k' _ H' (Ext.refl _) rfl)
      · refine ⟨D, xs.map isLenV, rfl, SqL.of (by rw [hD, List.map_map]; rfl), ?_⟩
        have := k (xs.all isLenV) H' x1 (AllSo.of hr2)
        rw [List.all_map]
        exact this
end
section
variable {P : Program} {w : World} {K : PySem.W.Frag} {mg : Str → Option Value} {base : Heap} {cLengths : Addr}
theorem pe_maxL_s {X : Cx} {K : PySem.W.Frag} (hK : X.K = K) {e d : Expr} {te : TA} {td : TE} {p pos kpos : Pos} (hc : X.calm = true) (hm : X.mg "max" = none) (he : PA X [e] te) (hd : PE X d td) (hg : Gl X "max" := by rfl)
    (hb : backTo pos (starEach [e] X.env) = (false, eval e X.env) :: backTo pos (starEach [] X.env) := by rfl) (hpl : (backTo pos (starEach [e] X.env)).any (·.1) = false := by rfl) : PE X (.Call (.Name "max" p) [e] [⟨some "default", d, kpos⟩] pos) (tMaxL K te td) := by
  subst hK
  exact pe_maxL hc hm he hd hg hb hpl

/-- lengths at p -/
structure LensL (H : Hp) (p : Addr) (ls : List Nat) : Prop where
  at_ : H p = some (.lst (intsV ls))
  few : ls.length ≤ 100
  pos : ∀ l ∈ ls, 1 ≤ l
  short : ∀ l ∈ ls, l ≤ 101
theorem LensL.ext {H H' : Hp} {p : Addr} {ls : List Nat} (h : LensL H p ls) (x : Ext H H') : LensL H' p ls := ⟨x.lst h.at_, h.few, h.pos, h.short⟩
theorem LensL.arg {H : Hp} {p : Addr} {ls : List Nat} (h : LensL H p ls) : LstArg K H (.ref p) := IntsL.arg ⟨h.at_, by have := h.few; omega⟩
theorem LensL.all {H : Hp} {p : Addr} {ls : List Nat} (h : LensL H p ls) {b : Bool} (q : AllSo H (.ref p) isLenV b) : b = true := by
  rw [q.eq (.inl h.at_), List.all_eq_true]
  intro v hv
  obtain ⟨l, hl, rfl⟩ := List.mem_map.mp hv
  have := h.pos l hl
  show decide ((1 : Int) ≤ (l : Int)) = true
  rw [decide_eq_true_iff]
  omega
theorem ints_int (r : List Nat) : intsV r = (r.map fun (i : Nat) => (i : Int)).map V.int := by rw [List.map_map]; rfl
def spChkLen (K : PySem.W.Frag) : Sp := fun vs H Q _ => ∃ (q : Nat) (p : Addr) (ls : List Nat), vs = [.int (q : Int), .ref p] ∧ 1 ≤ q ∧ q ≤ 26 ∧ LensL H p ls ∧ (∀ l ∈ ls, l ≤ 100) ∧ ∀ H', Ext H H' → Q .non H'
theorem ok_chk_lengths (D : Def K mg "check_lengths" "check_lengths" Pl.s_check_lengths ["letters", "lengths"]) (B : Bare mg) (L : ∃ t, mg "LONGEST" = some (.int 100 t)) (C1 : Cal P w K mg base CX0 2 "is_count" ["letters"] (spIsCount K)) (C2 : Cal P w K mg base CX0 2 "are_lengths" ["values"] (spAreLengths K)) :
    Cal P w K mg base CX0 3 "check_lengths" ["letters", "lengths"] (spChkLen K) := by
  have sc : FnScope ["letters", "lengths"] ["letters", "lengths"] (defScope Pl.s_check_lengths) := ⟨rfl, rfl, rfl, by decide +kernel, rfl, by decide +kernel, by decide +kernel⟩
  obtain ⟨tL, hL⟩ := L
  refine D.cal fun f fd F => F.ok sc (fun vs H Q E h => ?_) (fun cdv A outer s H vs Q E hr h => ?_)
  · obtain ⟨_, _, _, rfl, _⟩ := h
    rfl
  · obtain ⟨q, p, ls, rfl, hq1, hq2, hp, hle, k⟩ := h
    refine ⟨_, pss_cons (ps_if (pt_not (pt_val (pe_callF C1 hr (pa_cons (pv 0) pa_nil) pass0))) pss_never pss_nil)
      (pss_one (ps_if (PW.pt (pw_or (pt_not (pt_val (pe_callF C2 hr (pa_cons (pv 1) pa_nil) pass0))) (pw_or1 (pt_cmpR op_gt (pe_maxL_s (K := K) rfl rfl B.max (pa_cons (pv 1) pa_nil) pe_int) (pe_glob (v := .int 100) (by rfl) hL ⟨tL, rfl⟩) (nomark _))))) pss_never pss_nil)), ?_⟩
    have e1 : isCountV (.int (q : Int)) = true := by
      show (decide ((1 : Int) ≤ (q : Int)) && decide ((q : Int) ≤ 26)) = true
      rw [Bool.and_eq_true, decide_eq_true_iff, decide_eq_true_iff]
      omega
    refine ⟨_, rfl, _, rfl, ⟨_, .int _⟩, _, rfl, ?_⟩
    rw [e1]
    refine iteF ?_
    refine ⟨_, rfl, _, rfl, hp.arg, fun b H1 x1 hb => ⟨_, rfl, ?_⟩⟩
    rw [hp.all hb]
    refine iteF ?_
    have hp1 := hp.ext x1
    refine ⟨_, rfl, p, ls.map fun (i : Nat) => (i : Int), rfl, by rw [← ints_int]; exact SqL.of hp1.at_, ?_⟩
    have mx : ∃ m : Int, mxV (ls.map fun (i : Nat) => (i : Int)) (.int 1) = .int m ∧ m ≤ 100 := by
      obtain ⟨h1, _, h3⟩ := mxOf_fold (ls.map fun (n : Nat) => (n : Int)) none
      unfold mxV
      cases e : mxOf (ls.map fun (n : Nat) => (n : Int)) with
      | none => exact ⟨1, rfl, by decide⟩
      | some m =>
        refine ⟨m, rfl, ?_⟩
        rcases h3 m e with z | z
        · obtain ⟨l, hl, rfl⟩ := List.mem_map.mp z
          have := hle l hl
          omega
        · cases z
    obtain ⟨m, em, hm⟩ := mx
    rw [em]
    exact ⟨_, _, rfl, rfl, _, rfl, iteF' (by rw [decide_eq_true_iff]; omega) (k H1 x1)⟩
end
end L2


set_option Elab.async false
set_option linter.all false
set_option maxRecDepth 100000
set_option maxHeartbeats 2000000
namespace L2
open PySem PySem.Spec PyProof.Rows Tw
/-! ### C(), where C has no __init__ of its own -/
structure Mk0 (K : PySem.W.Frag) (C : Addr) : Prop where
  makes : PySem.W.makesIn K C = true
  init : PySem.W.findIn K (.ref C) "__init__" = some (some (.builtin "object.__init__"))
  kp : PySem.W.keepIn K (.ref C) = true
def tObj (C : Addr) : TE := fun σ H Q => ∀ x dx, H x = none → H dx = none → dx ≠ x → Q (.ref x) (upd (upd H dx (.own x)) x (.ins C dx []))
section
variable {X : Cx} {C : Addr} {x : Str} {p pos : Pos}
theorem pe_obj (M : Mk0 X.K C) (hg : Gl X x) (hm : X.mg x = some (.ref C)) (hdb : (x == ("__debug__" : Str)) = false := by decide) : PE X (.Call (.Name x p) [] [] pos) (tObj C) := by
  intro pins s σ H Q I h
  refine wpAny_Call_Name_kw (ld_glob I hg hm ?_ hdb)
  have hq := h (s.heap.objs.size + 1) s.heap.objs.size (I.hok.fresh (Nat.le_succ _)) (I.hok.fresh (Nat.le_refl _)) (Nat.ne_of_lt (Nat.lt_succ_self _))
  have I2 := Inv.made (C := C) I
  refine PySem.W.callWith_K0 I.kIn M.kp (wpAny_call (make_map0 I.kIn M.makes M.init (fun self => PySem.W.Looks.of_pure (PySem.W.oi_bind self)) ?_))
  have Y := PySem.W.makes_of (M := model X.prog X.w) I.kIn M.makes
  have e : ((s.heap.push PySem.W.emptyDict).push (PySem.W.instObj C s.heap.objs.size)).get? (s.heap.objs.size + 1) = some (PySem.W.instObj C s.heap.objs.size) := by
    have := Heap.get?_push_size (s.heap.push PySem.W.emptyDict) (o := PySem.W.instObj C s.heap.objs.size) rfl
    rwa [Heap.size_push] at this
  have typ : PySem.W.Looks (model X.prog X.w) ((s.heap.push PySem.W.emptyDict).push (PySem.W.instObj C s.heap.objs.size)) (typeOf (.ref (s.heap.objs.size + 1))) (.ref C) := (PySem.W.Looks.ld e).andThen .now
  have top : PySem.W.Looks (model X.prog X.w) ((s.heap.push PySem.W.emptyDict).push (PySem.W.instObj C s.heap.objs.size)) (isInstance (.ref (s.heap.objs.size + 1)) (.type "object")) true :=
    typ.andThen (Y.top.keeps fun b o q => Heap.get?_push_of_some (PySem.W.instObj C s.heap.objs.size) (Heap.get?_push_of_some PySem.W.emptyDict q))
  refine codeAny_call_builtin PySem.W.oi_plain PySem.W.entry_oi ?_
  refine @PySem.W.check_slot (model X.prog X.w) _ _ _ "object.__init__" "object" "__init__" (.ref (s.heap.objs.size + 1)) [] [] _ PySem.W.oi_kind PySem.W.oi_split top (PySem.W.oi_args _) ?_
  rw [PySem.W.oi_run]
  exact wpAny_pure ⟨rfl, V.ref (s.heap.objs.size + 1), _, I2, rfl, hq⟩
end
end L2


set_option Elab.async false
set_option linter.all false
set_option maxRecDepth 100000
set_option maxHeartbeats 2000000
namespace L2
open PySem PySem.Spec PyProof.Rows
/-! ### list.sort with a key -/
/-- what comes of sorting the items by their keys -/
def Sorts (keys vs : List Value) (R : List Value → Prop) : Prop :=
  (vs.length < 2 → R vs) ∧ (2 ≤ vs.length → keyKind' keys.toArray = pure oneType' ∧
    ∀ (prog : Program) (w : World) (A : Around) (E : Value → Shared → Prop) (s : Shared),
      wpS (model prog w) A E s sortRuns' (fun _ st => failedOf st = none ∧ ((arrOf st).map (·.2)).size = vs.length ∧ R ((arrOf st).map (·.2)).toList) (SortSt.mk' oneType' (keys.toArray.zip vs.toArray) #[] 7 none))
section
variable {prog : Program} {w : World} {A : Around} {E : Value → Shared → Prop} {s : Shared} {a q kS : Addr} {vs : List Value} {n c : Nat} {R : List Value → Prop} {KeyIs : Nat → Value → Prop} {P : PySem.Fin → Shared → Prop}
/-- while the keys are asked for -/
def Asking (s : Shared) (a kS : Addr) (c : Nat) (KeyIs : Nat → Value → Prop) (i : Nat) (s' : Shared) : Prop :=
  ∃ h tk ks e, s' = { s with heap := h, toks := tk } ∧ (∀ b o, b ≠ a → s.heap.get? b = some o → h.get? b = some o) ∧ h.get? a = some (seqObj "list" #[] c) ∧ h.get? kS = some (seqObj "list" ks e) ∧ ks.size = i ∧ ∀ j k, ks[j]? = some k → KeyIs j k
theorem upd_seq {h : Heap} {l b : Addr} {o : Obj} {f : Array Value → Array Value} (hb : b ≠ l) (e : h.get? b = some o) : (h.update l (Obj.mapSeq f)).get? b = some o := (Heap.get?_update_other _ _ (Ne.symm hb)).trans e
theorem tail_by {st : SortSt} {ks : Array Value} {e : Nat} (oa : s.heap.get? a = some (seqObj "list" #[] c)) (ok : s.heap.get? kS = some (seqObj "list" ks e)) (ne : kS ≠ a) (kz : ks.size ≤ sizeLine) (fl : failedOf st = none) (fz : ((arrOf st).map (·.2)).size ≤ sizeLine)
    (h : ∀ h' c', h'.get? a = some (seqObj "list" ((arrOf st).map (·.2)) c') → (∀ b o, b ≠ a → b ≠ kS → s.heap.get? b = some o → h'.get? b = some o) → P (.done (.ret .none)) { s with heap := h' }) : wpAny (model prog w) A (ksk_tail a false c (.ref kS) st) P E s := by
  have o1 := upd_seq (f := fun _ => #[]) (Ne.symm ne) oa
  refine wpAny_bind (listUpdate_at ok rfl (wpAny_bind (wpAny_letGo (wpAny_bind (seqEpoch_at o1 rfl (wpAny_bind (listUpdate_at o1 rfl ?_ (Nat.zero_le _) (Nat.le_succ_of_le fz))))))) kz (Nat.zero_le _))
  rw [fl]
  simp only [bne_self_eq_false, Bool.false_eq_true, if_false]
  exact wpAny_pure (h _ _ (get?_update_seq o1 fun _ => (arrOf st).map (·.2)) fun b o h1 h2 z => upd_seq h1 (upd_seq h2 z))
theorem sort_by (ho : s.heap.get? a = some (seqObj "list" vs.toArray n)) (hz : vs.length ≤ sizeLine)
    (turn : ∀ (i : Nat) (x : Value) (h : Heap) (tk : Nat), vs[i]? = some x → (∀ b o, b ≠ a → s.heap.get? b = some o → h.get? b = some o) →
      wpAny (model prog w) A (call (.ref q) [x]) (fun v s' => KeyIs i v ∧ ∃ h' tk', s' = { s with heap := h', toks := tk' } ∧ ∀ b o, h.get? b = some o → h'.get? b = some o) (fun _ _ => False) { s with heap := h, toks := tk })
    (srt : ∀ keys : List Value, keys.length = vs.length → (∀ i k, keys[i]? = some k → KeyIs i k) → Sorts keys vs R)
    (h : ∀ h' tk out c', h'.get? a = some (seqObj "list" out c') → (∀ b o, b ≠ a → s.heap.get? b = some o → h'.get? b = some o) → R out.toList → out.size = vs.length → P (.done (.ret .none)) { s with heap := h', toks := tk }) :
    wpAny (model prog w) A (Builtin.«list.sort» ⟨[.ref a], [(Str.ofString "key", .ref q)]⟩) P E s := by
  rw [ksk_t1]
  have lt : a < s.heap.objs.size := Heap.lt_size ho
  have o1 := get?_update_seq ho fun _ => #[]
  generalize (if ((fun _ : Array Value => (#[] : Array Value)) vs.toArray).size == vs.toArray.size then n else n + 1) = c at o1
  refine wpAny_bind (listItems_at ho rfl (wpAny_bind (listUpdate_at ho rfl (wpAny_bind (seqEpoch_at o1 rfl (wpAny_bind (wpAny_newTuple (wpAny_bind (wpAny_newList (wpAny_holding ?_))) hz)))) (by simpa using hz))))
  have sz : ((s.heap.update a (Obj.mapSeq fun _ => (#[] : Array Value))).push (seqObj "tuple" vs.toArray 0)).objs.size = s.heap.objs.size + 1 := by rw [size_push', Heap.size_update]
  have old : ∀ b o, b ≠ a → s.heap.get? b = some o → (((s.heap.update a (Obj.mapSeq fun _ => (#[] : Array Value))).push (seqObj "tuple" vs.toArray 0)).push (seqObj "list" #[] 0)).get? b = some o := fun b o hb z => Heap.get?_push_of_some _ (Heap.get?_push_of_some _ (upd_seq hb z))
  have oa := Heap.get?_push_of_some (seqObj "list" #[] 0) (Heap.get?_push_of_some (seqObj "tuple" vs.toArray 0) o1)
  have ok : (((s.heap.update a (Obj.mapSeq fun _ => (#[] : Array Value))).push (seqObj "tuple" vs.toArray 0)).push (seqObj "list" #[] 0)).get? (s.heap.objs.size + 1) = some (seqObj "list" #[] 0) := by rw [← sz]; exact Heap.get?_push_size _ rfl
  show wpAny _ A (ksk_rest a (.ref q) false vs.toArray c (.ref ((s.heap.update a (Obj.mapSeq fun _ => (#[] : Array Value))).push (seqObj "tuple" vs.toArray 0)).objs.size)) P E { s with heap := ((s.heap.update a (Obj.mapSeq fun _ => (#[] : Array Value))).push (seqObj "tuple" vs.toArray 0)).push (seqObj "list" #[] 0) }
  rw [sz]
  generalize ((s.heap.update a (Obj.mapSeq fun _ => (#[] : Array Value))).push (seqObj "tuple" vs.toArray 0)).push (seqObj "list" #[] 0) = h0 at old oa ok
  have nk : s.heap.objs.size + 1 ≠ a := Nat.ne_of_gt (Nat.lt_succ_of_lt lt)
  have below : ∀ b o, s.heap.get? b = some o → b ≠ s.heap.objs.size + 1 := fun b o z => Nat.ne_of_lt (Nat.lt_succ_of_lt (Heap.lt_size z))
  refine wpAny_bind (wpAny_rule ?_)
  rw [List.forIn_toArray]
  refine wpAny_bind (ksk_fold (Asking s a (s.heap.objs.size + 1) c KeyIs) vs 0 _ ⟨h0, s.toks, #[], 0, rfl, old, oa, ok, rfl, fun j k z => by simp at z⟩ (fun j x s' hx J => ?_) fun s' J => ?_)
  · simp only [Nat.zero_add] at J ⊢
    obtain ⟨h1, tk, ks, e, rfl, k1, a1, b1, z1, all⟩ := J
    refine wpAny_bind (wpAny_attempt (wpAny_mono (turn j x h1 tk hx k1) (fun v s2 ⟨kv, h2, tk2, e2, k2⟩ => ?_) fun _ _ z => z.elim))
    subst e2
    have lj : j < vs.length := (List.getElem?_eq_some_iff.mp hx).1
    have b2 := k2 _ _ b1
    refine wpAny_bind (listUpdate_at (f := (·.push v)) b2 rfl ?_ (by omega) (by show (ks.push v).size ≤ _; rw [Array.size_push]; omega))
    refine wpAny_pure ⟨rfl, _, _, ks.push v, _, rfl, fun b o hb z => upd_seq (below b o z) (k2 b o (k1 b o hb z)), upd_seq (Ne.symm nk) (k2 _ _ a1), get?_update_seq b2 (·.push v), by rw [Array.size_push, z1], fun i k z => ?_⟩
    rw [Array.getElem?_push] at z
    split at z
    next ei => cases z; rw [ei, z1]; exact kv
    next => exact all i k z
  · simp only [Nat.zero_add] at J
    obtain ⟨h1, tk, ks, e, rfl, k1, a1, b1, z1, all⟩ := J
    refine wpAny_bind (listItems_at b1 rfl ?_)
    have S := srt ks.toList (by rw [Array.length_toList, z1]) fun i k z => all i k (by rw [← Array.getElem?_toList]; exact z)
    have fin : ∀ st : SortSt, failedOf st = none → ((arrOf st).map (·.2)).size = vs.length → R ((arrOf st).map (·.2)).toList → wpAny (model prog w) A (ksk_tail a false c (.ref (s.heap.objs.size + 1)) st) P E { s with heap := h1, toks := tk } := fun st f1 f2 f3 =>
      tail_by (s := { s with heap := h1, toks := tk }) a1 b1 nk (by omega) f1 (by omega) fun h' c' o' k' => h h' tk _ c' o' (fun b o hb z => k' b o hb (below b o z) (k1 b o hb z)) f3 f2
    have vz : vs.toArray.size = vs.length := List.size_toArray
    show wpAny _ A (ksk_end a false vs.toArray c (.ref (s.heap.objs.size + 1)) ks) P E _
    unfold ksk_end
    simp only [Bool.false_eq_true, if_false]
    have ez : (ks.zip vs.toArray).map (·.2) = vs.toArray := by
      rw [← Array.toList_inj]
      simp only [Array.toList_map, Array.toList_zip]
      exact List.map_snd_zip (show vs.length ≤ ks.toList.length from Nat.le_of_eq (z1.symm.trans Array.length_toList.symm))
    by_cases few : vs.toArray.size < 2
    · simp only [if_pos few, StateT.run_pure]
      refine wpAny_bind (wpAny_pure (wpAny_bind (wpAny_pure (fin (SortSt.mk' general' (ks.zip vs.toArray) #[] 7 none) rfl ?_ ?_))))
      · show ((ks.zip vs.toArray).map (·.2)).size = _
        rw [ez, vz]
      · show R ((ks.zip vs.toArray).map (·.2)).toList
        rw [ez]
        exact S.1 (by omega)
    · simp only [if_neg few]
      obtain ⟨kk, run⟩ := S.2 (by omega)
      rw [Array.toArray_toList] at kk run
      rw [kk]
      refine wpAny_bind (wpAny_pure (wpAny_bind (wpAny_mono (run prog w A E _) ?_ fun _ _ z => z)))
      rintro ⟨⟨⟩, st⟩ s2 ⟨rfl, f1, f2, f3⟩
      exact fin st f1 f2 f3
end
end L2


set_option Elab.async false
set_option linter.all false
set_option maxRecDepth 100000
set_option maxHeartbeats 2000000
namespace L2
open PySem PySem.Spec PyProof.Rows
/-! ### sorted over a range, with a key -/
section
variable {prog : Program} {w : World} {A : Around} {E : Value → Shared → Prop} {s : Shared}
abbrev rngObj (lo hi : Int) (t u v : Tok) : Obj := { cls := .type "range", data := .fields #[.int lo t, .int hi u, .int 1 v] }
theorem rng_size (n : Nat) : Builtin.Range.rangeSize 0 n 1 = n := by
  rw [rangeSize_one]
  split <;> omega
theorem rng_small {n : Nat} (h : n ≤ 2 ^ 24) : Builtin.Range.small 0 n 1 = true := small_one (by omega) (by omega) (by omega) (by omega)
theorem collect_range {r : Addr} {n : Nat} {t u v : Tok} {Q : List Value → Shared → Prop} (hh : A.handled = none) (hr : s.heap.get? r = some (rngObj 0 n t u v)) (hn : n ≤ 2 ^ 24)
    (h : ∀ (h' : Heap) (tk : Nat) (us : List Value), us.length = n → (∀ (i : Nat) x, us[i]? = some x → ∃ t, x = .int i t) → (∀ b o, s.heap.get? b = some o → h'.get? b = some o) → s.heap.objs.size ≤ h'.objs.size → Q us { s with heap := h', toks := tk }) :
    wpAny (model prog w) A (collect (.ref r)) Q E s := by
  generalize hl : s.heap.objs.size = l
  have oL : (s.heap.push { cls := .type "list", data := .seq #[] }).get? l = some { cls := .type "list", data := .seq #[] } := by rw [← hl]; exact Heap.get?_push_size _ rfl
  refine wpAny_bind (wpAny_runValue (codeAny_builtin PySem.F.entry_proto_collect ?_))
  rw [Around.under_plainId PySem.F.plain_proto_collect]
  refine wpAny_bind (m := newList []) (wpAny_newObj_type (wpAny_pure ⟨plainId_quiet PySem.F.plain_list_iadd _, codeAny_builtin PySem.F.entry_list_iadd ?_⟩))
  rw [Around.under_plainId PySem.F.plain_list_iadd, hl]
  refine wpAny_mono (wpAny_extend_range (s := { s with heap := s.heap.push { cls := .type "list", data := .seq #[] } }) (R := fun r s' => r = .ok (.ret (.ref l)) ∧ ∃ h' tk acc c', s' = { s with heap := h', toks := tk } ∧ (∀ b o, b ≠ l → (s.heap.push { cls := .type "list", data := .seq #[] }).get? b = some o → h'.get? b = some o) ∧
    h'.get? l = some { cls := .type "list", dict := none, data := .seq acc c', slots := #[] } ∧ ItemsOf (fun i v => ∃ t, v = .int ((0 : Int) + i * 1) t) acc n) hh (Heap.get?_push_of_some _ hr) (rng_small hn) (rng_size n) hn l (.ref l) 0 oL fun h' tk acc c' keep o' all => ⟨rfl, h', tk, acc, c', rfl, keep, o', all⟩) (fun fin s' hf => ?_) fun e s' he => nomatch he.1
  have go : ∀ s', (∃ h' tk acc c', s' = { s with heap := h', toks := tk } ∧ (∀ b o, b ≠ l → (s.heap.push { cls := .type "list", data := .seq #[] }).get? b = some o → h'.get? b = some o) ∧ h'.get? l = some { cls := .type "list", dict := none, data := .seq acc c', slots := #[] } ∧ ItemsOf (fun i v => ∃ t, v = .int ((0 : Int) + i * 1) t) acc n) →
      wpAny (model prog w) A (do let o ← load l; match o.data with | .seq xs _ => pure xs.toList | _ => unsupported "internal:collect") Q E s' := by
    rintro s' ⟨h', tk, acc, c', rfl, keep, o', all⟩
    refine wpAny_bind (wpAny_load o' (wpAny_pure ?_))
    refine h h' tk acc.toList (by rw [Array.length_toList]; exact all.1) (fun i x e => ?_) (fun b o e => keep b o ?_ (Heap.get?_push_of_some _ e)) ?_
    · obtain ⟨t, e⟩ := all.2 i x (by rw [← Array.getElem?_toList]; exact e)
      exact ⟨t, by rw [e]; simp⟩
    · rw [← hl]
      exact Nat.ne_of_lt (Heap.lt_size e)
    · rw [hl]
      exact Nat.le_of_lt (Heap.lt_size o')
  cases fin with
  | done f =>
    obtain ⟨e, ph⟩ := hf
    cases e
    exact go s' ph
  | again c' =>
    refine ⟨hf.1, codeAny_mono hf.2 fun r s2 hs => ?_⟩
    obtain ⟨e, ph⟩ := hs
    subst e
    exact go s2 ph
theorem ints_range {us : List Value} {n : Nat} (hl : us.length = n) (h : ∀ (i : Nat) x, us[i]? = some x → ∃ t, x = .int i t) : IntsAre us ((List.range n).map Int.ofNat) := by
  have go : ∀ (us : List Value) (m : Nat), (∀ (i : Nat) x, us[i]? = some x → ∃ t, x = .int (m + i : Nat) t) → IntsAre us ((List.range' m us.length).map Int.ofNat) := by
    intro us
    induction us with
    | nil => exact fun _ _ => .nil
    | cons x us ih =>
      intro m q
      obtain ⟨t, rfl⟩ := q 0 x rfl
      refine .cons _ t (ih (m + 1) fun i y e => ?_)
      obtain ⟨t, rfl⟩ := q (i + 1) y e
      exact ⟨t, by rw [show m + (i + 1) = m + 1 + i by omega]⟩
  have := go us 0 fun i x e => by rw [Nat.zero_add]; exact h i x e
  rw [hl] at this
  rwa [List.range_eq_range']
theorem sorted_range_by {r q : Addr} {n : Nat} {t u v : Tok} {R : List Value → Prop} {KeyIs : Nat → Value → Prop} {Q : Value → Shared → Prop} (hh : A.handled = none) (hr : s.heap.get? r = some (rngObj 0 n t u v)) (hn : n ≤ 2 ^ 24)
    (turn : ∀ (i : Nat) (t : Tok) (h : Heap) (tk : Nat), i < n → (∀ b o, s.heap.get? b = some o → h.get? b = some o) →
      wpAny (model prog w) A.in1.in1 (call (.ref q) [.int i t]) (fun v s' => KeyIs i v ∧ ∃ h' tk', s' = { s with heap := h', toks := tk' } ∧ ∀ b o, h.get? b = some o → h'.get? b = some o) (fun _ _ => False) { s with heap := h, toks := tk })
    (srt : ∀ keys vs : List Value, keys.length = n → vs.length = n → (∀ i k, keys[i]? = some k → KeyIs i k) → IntsAre vs ((List.range n).map Int.ofNat) → Sorts keys vs R)
    (h : ∀ D h' tk out c, s.heap.objs.size ≤ D → h'.get? D = some (seqObj "list" out c) → (∀ b o, s.heap.get? b = some o → h'.get? b = some o) → R out.toList → out.size = n → Q (.ref D) { s with heap := h', toks := tk }) :
    wpAny (model prog w) A (call (.builtin "sorted") [.ref r] [(Str.ofString "key", .ref q)]) Q E s := by
  refine call_function_entry_kw kind_sorted plain_sorted entry_sorted (ksk_s1 _ _) (wpAny_bind (wpAny_pure ?_))
  refine wpAny_bind (collect_range (A := A.in1) (by simpa using hh) hr hn fun h1 tk us e1 e2 keep le => ?_)
  have nz : us.length ≤ sizeLine := by rw [e1, sizeLine_eq]; omega
  have oL : (h1.push (seqObj "list" us.toArray 0)).get? h1.objs.size = some (seqObj "list" us.toArray 0) := Heap.get?_push_size _ rfl
  have k1 : ∀ b o, s.heap.get? b = some o → b ≠ h1.objs.size ∧ (h1.push (seqObj "list" us.toArray 0)).get? b = some o := fun b o e => ⟨Nat.ne_of_lt (Heap.lt_size (keep b o e)), Heap.get?_push_of_some _ (keep b o e)⟩
  refine wpAny_bind (wpAny_newList (wpAny_bind (wpAny_holding ?_)) nz)
  refine wpAny_call_entry_kw (s := { s with heap := h1.push (seqObj "list" us.toArray 0), toks := tk }) slot_list_sort ⟨_, oL, rfl⟩ entry_list_sort ?_ (ksk_l1 _ _)
  refine sort_by (R := R) (KeyIs := KeyIs) oL nz (fun i x h2 tk2 ex k2 => ?_) (fun keys l1 l2 => srt keys us (by rw [l1, e1]) e1 l2 (ints_range e1 e2)) fun h2 tk2 out c o2 k2 r2 z2 => ⟨_, rfl, ?_⟩
  · obtain ⟨t, rfl⟩ := e2 i x ex
    exact turn i t h2 tk2 (by rw [← e1]; exact (List.getElem?_eq_some_iff.mp ex).1) fun b o e => k2 b o (k1 b o e).1 (k1 b o e).2
  · exact wpAny_pure ⟨_, rfl, h _ h2 tk2 out c le o2 (fun b o e => k2 b o (k1 b o e).1 (k1 b o e).2) r2 (by rw [z2, e1])⟩
end
/-! ### the keys: texts, ints -/
theorem ints_at {vs : List Value} {n : Nat} (hv : IntsAre vs ((List.range n).map Int.ofNat)) {i : Nat} {x : Value} (e : vs[i]? = some x) : i < n ∧ ∃ t, x = .int i t := by
  have go : ∀ {vs : List Value} {ns : List Int}, IntsAre vs ns → ∀ {i : Nat} {x : Value}, vs[i]? = some x → ∃ z t, ns[i]? = some z ∧ x = .int z t := by
    intro vs ns h
    induction h with
    | nil => exact fun e => nomatch e
    | cons z t _ ih =>
      intro i x e
      cases i with
      | zero => exact ⟨z, t, rfl, (Option.some.inj e).symm⟩
      | succ i => exact ih e
  obtain ⟨z, t, e1, e2⟩ := go hv e
  rw [List.getElem?_map] at e1
  obtain ⟨j, e3, e4⟩ := Option.map_eq_some_iff.mp e1
  obtain ⟨l1, l2⟩ := List.getElem?_eq_some_iff.mp e3
  rw [List.getElem_range] at l2
  rw [List.length_range] at l1
  subst l2
  exact ⟨l1, t, by rw [e2, ← e4]; rfl⟩
theorem places_out {γ : Type} (key : Value → γ) (le : γ → γ → Prop) {n : Nat} {keys vs : List Value} {xs : Array Keyed} (hp : xs.Perm (keys.toArray.zip vs.toArray)) (hl : keys.length = n) (hz : vs.length = n) (hv : IntsAre vs ((List.range n).map Int.ofNat))
    (hs : ∀ (i j : Nat) (hi : i < xs.size) (hj : j < xs.size), i < j → le (key xs[i].1) (key xs[j].1)) :
    ∃ ms : List Nat, IntsAre (xs.map (·.2)).toList (ms.map Int.ofNat) ∧ ms.Perm (List.range n) ∧ ms.Pairwise fun i j => le (key (keys.getD i .none)) (key (keys.getD j .none)) := by
  have pl : xs.toList.Perm (keys.zip vs) := by
    have := Array.perm_iff_toList_perm.mp hp
    rwa [Array.toList_zip] at this
  have at_ : ∀ p ∈ xs.toList, ∃ (i : Nat) (t : Tok), keys.getD i .none = p.1 ∧ p.2 = .int i t := fun p hm => by
    obtain ⟨i, hi⟩ := List.getElem?_of_mem (pl.mem_iff.mp hm)
    rw [List.getElem?_zip_eq_some] at hi
    obtain ⟨_, t, e⟩ := ints_at hv hi.2
    exact ⟨i, t, by rw [List.getD_eq_getElem?_getD, hi.1]; rfl, e⟩
  have ii : ∀ (l : List Keyed), (∀ p ∈ l, ∃ (i : Nat) (t : Tok), keys.getD i .none = p.1 ∧ p.2 = .int i t) → IntsAre (l.map (·.2)) ((l.map fun p => (numOf p.2).toNat).map Int.ofNat) := by
    intro l
    induction l with
    | nil => exact fun _ => .nil
    | cons p l ih =>
      intro q
      obtain ⟨i, t, _, e⟩ := q p (.head _)
      have q2 := ih fun r hr => q r (.tail _ hr)
      simp only [List.map_cons]
      rw [e]
      exact .cons _ t q2
  refine ⟨xs.toList.map fun p => (numOf p.2).toNat, by rw [Array.toList_map]; exact ii _ at_, ?_, ?_⟩
  · have := pl.map fun p : Keyed => (numOf p.2).toNat
    refine this.trans (List.Perm.of_eq ?_)
    have e1 : (keys.zip vs).map (fun p : Keyed => (numOf p.2).toNat) = ((keys.zip vs).map (·.2)).map fun x => (numOf x).toNat := by rw [List.map_map]; rfl
    rw [e1, List.map_snd_zip (by omega)]
    have e2 : vs.map numOf = (List.range n).map Int.ofNat := hv.nums
    have e3 : vs.map (fun x => (numOf x).toNat) = (vs.map numOf).map Int.toNat := by rw [List.map_map]; rfl
    rw [e3, e2, List.map_map]
    exact List.map_id'' (fun _ => rfl) _
  · rw [List.pairwise_map, List.pairwise_iff_getElem]
    intro i j hi hj lt
    have hi' : i < xs.size := by simpa using hi
    have hj' : j < xs.size := by simpa using hj
    obtain ⟨a, t, e1, e2⟩ := at_ xs[i] (by simp)
    obtain ⟨b, t', e3, e4⟩ := at_ xs[j] (by simp)
    have q := hs i j hi' hj' lt
    simp only [Array.getElem_toList]
    rw [e2, e4]
    show le (key (keys.getD a .none)) (key (keys.getD b .none))
    rw [e1, e3]
    exact q
theorem two_of {α : Type} : ∀ {l : List α}, 2 ≤ l.length → ∃ a b r, l = a :: b :: r
  | [], h => absurd h (by simp)
  | [_], h => absurd h (by simp)
  | a :: b :: r, _ => ⟨a, b, r, rfl⟩
def strK : Value → List Nat
  | .str x _ => x.cps.toList
  | _ => []
/-- the codes of a word of the list -/
def wat (ws : List Str) (i : Nat) : List Nat := (ws.getD i ⟨#[]⟩).cps.toList
theorem strs_at {keys : List Value} {ws : List Str} (h : StrsAre keys ws) : ∀ i, strK (keys.getD i .none) = wat ws i := by
  induction h with
  | nil => exact fun i => by cases i <;> rfl
  | cons x t _ ih =>
    intro i
    cases i with
    | zero => rfl
    | succ i => exact ih i
theorem srt_few {n : Nat} {vs : List Value} {T : Nat → Nat → Prop} (hv : IntsAre vs ((List.range n).map Int.ofNat)) (h : n < 2) : ∃ ms : List Nat, IntsAre vs (ms.map Int.ofNat) ∧ ms.Perm (List.range n) ∧ ms.Pairwise T := by
  refine ⟨_, hv, List.Perm.refl _, ?_⟩
  match n, h with
  | 0, _ => exact .nil
  | 1, _ => exact List.pairwise_singleton _ _
theorem srt_strs {n : Nat} {ws : List Str} {keys vs : List Value} (hk : StrsAre keys ws) (hl : keys.length = n) (hz : vs.length = n) (hv : IntsAre vs ((List.range n).map Int.ofNat)) (h64 : n < 64) :
    Sorts keys vs fun out => ∃ ms : List Nat, IntsAre out (ms.map Int.ofNat) ∧ ms.Perm (List.range n) ∧ ms.Pairwise fun i j => ¬ wat ws j < wat ws i := by
  refine ⟨fun few => srt_few hv (by omega), fun two => ?_⟩
  have zz : (keys.toArray.zip vs.toArray).size = n := by rw [Array.size_zip, List.size_toArray, List.size_toArray]; omega
  obtain ⟨k1, k2, r, rfl⟩ := two_of (l := keys) (by omega)
  refine ⟨keyKind_strs hk, fun prog w A E s => ?_⟩
  refine wpS_sortRunsK (κ := strKind) strKind_oneLt (a₀ := (k1 :: k2 :: r).toArray.zip vs.toArray) (fun p hp => ?_) ⟨Array.Perm.refl _, rfl, rfl, rfl⟩ (by omega) (by omega) fun st p1 p2 p3 => ⟨p2, ?_, ?_⟩
  · rw [Array.toList_zip] at hp
    obtain ⟨x, t, e⟩ := hk.all _ (List.of_mem_zip hp).1
    exact ⟨_, by rw [e]⟩
  · rw [Array.size_map, p1.size_eq, zz, hz]
  · have q := places_out strK (fun a b => ¬ b < a) p1 hl hz hv fun i j hi hj lt => ?_
    · obtain ⟨ms, m1, m2, m3⟩ := q
      exact ⟨ms, m1, m2, m3.imp fun {a b} z => by rw [strs_at hk, strs_at hk] at z; exact z⟩
    · have := p3 i j (Nat.le_of_lt lt) (by rw [← p1.size_eq]; exact hj)
      have kk : ∀ (i : Nat) (hi : i < (arrOf st).size), KK strKind (arrOf st) i = strK (arrOf st)[i].1 := fun i hi => by
        unfold KK
        rw [Array.getElem?_eq_getElem hi]
        generalize (arrOf st)[i] = p
        obtain ⟨x, y⟩ := p
        cases x <;> rfl
      rw [kk i hi, kk j hj] at this
      exact of_decide_eq_false this
theorem srt_ints {n : Nat} {zs : List Int} {keys vs : List Value} (hk : IntsAre keys zs) (hl : keys.length = n) (hz : vs.length = n) (hv : IntsAre vs ((List.range n).map Int.ofNat)) (h64 : n < 64) :
    Sorts keys vs fun out => ∃ ms : List Nat, IntsAre out (ms.map Int.ofNat) ∧ ms.Perm (List.range n) ∧ ms.Pairwise fun i j => zs.getD i 0 ≤ zs.getD j 0 := by
  refine ⟨fun few => srt_few hv (by omega), fun two => ?_⟩
  have zz : (keys.toArray.zip vs.toArray).size = n := by rw [Array.size_zip, List.size_toArray, List.size_toArray]; omega
  refine ⟨ksk_kind (by simpa using hk) (by rw [List.size_toArray]; omega), fun prog w A E s => ?_⟩
  refine wpS_sortRuns (a₀ := keys.toArray.zip vs.toArray) (ksk_intKeys (by simpa using hk)) ⟨Array.Perm.refl _, rfl, rfl, rfl⟩ (by omega) (by omega) fun st p1 p2 p3 => ⟨p2, ?_, ?_⟩
  · rw [Array.size_map, p1.size_eq, zz, hz]
  · have q := places_out numOf (· ≤ ·) p1 hl hz hv fun i j hi hj lt => ?_
    · obtain ⟨ms, m1, m2, m3⟩ := q
      have kk : ∀ i, i < n → numOf (keys.getD i .none) = zs.getD i 0 := fun i hi => by
        have e := hk.nums
        rw [← e, List.getD_eq_getElem?_getD, List.getD_eq_getElem?_getD, List.getElem?_map, List.getElem?_eq_getElem (by omega)]
        rfl
      refine ⟨ms, m1, m2, List.Pairwise.imp_of_mem (fun {a b} ha hb z => ?_) m3⟩
      rw [kk a (List.mem_range.mp (m2.mem_iff.mp ha)), kk b (List.mem_range.mp (m2.mem_iff.mp hb))] at z
      exact z
    · have := p3 i j (Nat.le_of_lt lt) (by rw [← p1.size_eq]; exact hj)
      rw [K_eq hi, K_eq hj] at this
      exact this
end L2


set_option Elab.async false
set_option linter.all false
set_option maxRecDepth 100000
set_option maxHeartbeats 2000000
namespace L2
open PySem PySem.Spec PyProof.Rows
/-! ### sorted(range(n), key=lambda place: values[place]) -/
/-- the lambda's code, once it is laid -/
def CodeO (c : Addr) (qual : Str) : HO := .ext fun h => h.CodeRec (.ref c) qual
/-- the table of the def's code: the lambda's code is not yet laid, or it is -/
def Pk (P : Addr) (pos : Pos) (qual : Str) (H : Hp) : Prop :=
  H P = some (.tbl #[]) ∨ ∃ c, H P = some (.tbl #[rawInt pos.line, rawInt pos.col, .ref c]) ∧ H c = some (CodeO c qual)
/-- all is as it was but the table -/
def KeepP (P : Addr) (H H' : Hp) : Prop := ∀ b o, b ≠ P → H b = some o → H' b = some o
theorem KeepP.refl {P : Addr} {H : Hp} : KeepP P H H := fun _ _ _ e => e
theorem Pk.same {P : Addr} {pos : Pos} {qual : Str} {H H' : Hp} (p : Pk P pos qual H) (a : Same H H') : Pk P pos qual H' := by
  rcases p with p | ⟨c, p, q⟩
  · exact .inl (a _ _ p)
  · exact .inr ⟨c, a _ _ p, a _ _ q⟩
theorem Pk.at {P : Addr} {pos : Pos} {qual : Str} {H : Hp} (p : Pk P pos qual H) : ∃ ps, H P = some (.tbl ps) := by
  rcases p with p | ⟨c, p, _⟩
  · exact ⟨_, p⟩
  · exact ⟨_, p⟩
theorem KeepP.free {P : Addr} {H H' : Hp} (k : KeepP P H H') {l : Addr} (hl : l ≠ P) (h : H' l = none) : H l = none := by
  cases q : H l with
  | none => rfl
  | some o =>
    rw [k l o hl q] at h
    cases h
theorem KeepP.seq {K : PySem.W.Frag} {P : Addr} {pos : Pos} {qual : Str} {H H' : Hp} {a : Addr} {xs : List V} (k : KeepP P H H') (p : Pk P pos qual H) (h : SqL K H a xs) : SqL K H' a xs := by
  obtain ⟨ps, p⟩ := p.at
  rcases h with (h | ⟨o, h⟩) | h
  · exact .inl (.inl (k _ _ (ne_of h p (fun z => nomatch z)) h))
  · exact .inl (.inr ⟨o, k _ _ (ne_of h p (fun z => nomatch z)) h⟩)
  · exact .inr h
/-- the module of the built-in names -/
def BM (mg : Str → Option Value) (h : Heap) : Prop := ∃ bm o, mg "__builtins__" = some (.ref bm) ∧ bm ≠ builtinsNs ∧ h.get? bm = some o ∧ o.cls = .type "module" ∧ o.dict = some builtinsNs ∧ o.data = .plain
/-- range(n) as a thing -/
theorem call_rng {X : Cx} : CallR X (.type "range") (fun xs H Q => ∃ n : Nat, xs = [.int n] ∧ ∀ l, H l = none → Q (.ref l) (upd H l (.rng 0 n))) := by
  intro pins s σ H xs us Q I r h
  obtain ⟨n, rfl, q⟩ := h
  obtain ⟨u, rfl, t, rfl⟩ := vals1 r
  have fr : H s.heap.objs.size = none := I.hok.fresh (Nat.le_refl _)
  exact call_range_1 ⟨.ref s.heap.objs.size, _, I.laid (o := .rng 0 n) (fun b o e => Heap.get?_push_of_some _ e) (Nat.le_refl _) ⟨_, _, _, Heap.get?_push_size _ rfl⟩, rfl, q _ fr⟩
/-- what sorting the places by these things gives -/
def Srt (xs : List V) (T : List Nat → Prop) : Prop := ∀ keys vs : List Value, Vals xs keys → vs.length = xs.length → IntsAre vs ((List.range xs.length).map Int.ofNat) → Sorts keys vs fun out => ∃ ms : List Nat, IntsAre out (ms.map Int.ofNat) ∧ T ms
section
variable {X : Cx} {pins : List (Addr × Obj)} {σ : St} {H : Hp} {s : Shared} {P : Addr} {qual : Str} {c' : Addr} {h' : Heap} {tk : Nat}
/-- the lambda's code is laid, the table written -/
theorem Inv.coded (I : Inv X pins σ H s) {ps : Array Value} (hP : H P = some (.tbl #[])) (hx : ∀ b o, b ≠ P → s.heap.get? b = some o → h'.get? b = some o) (hc : s.heap.objs.size ≤ c') (hr : h'.CodeRec (.ref c') qual) (ht : h'.get? P = some { cls := .none, data := .fields ps }) :
    Inv X pins σ (upd (upd H P (.tbl ps)) c' (CodeO c' qual)) { s with heap := h', toks := tk } := by
  have fc : H c' = none := I.hok.fresh hc
  have ltP : P < s.heap.objs.size := I.hok.lt hP
  have cP : c' ≠ P := fun z => by rw [z, hP] at fc; cases fc
  have old : ∀ b u, H b = some u → b ≠ P → (upd (upd H P (.tbl ps)) c' (CodeO c' qual)) b = some u := fun b u e n => by
    rw [upd_ne (ne_of_none e fc), upd_ne n]
    exact e
  have un : Un X.fs [] H (upd (upd H P (.tbl ps)) c' (CodeO c' qual)) s.heap h' := by
    have nP : ∀ b, H b = none → b ≠ P := fun b n z => by subst z; rw [hP] at n; cases n
    have there : ∀ b o, s.heap.get? b = some o → ∃ o', h'.get? b = some o' := fun b o e => by
      by_cases z : b = P
      · subst z; exact ⟨_, ht⟩
      · exact ⟨o, hx b o z e⟩
    refine ⟨fun b o e n _ _ => hx b o (nP b n) e, fun b o e n _ _ => ⟨o.slots, hx b o (nP b n) e⟩, fun b o e n _ => ?_, fun b o e _ => there b o e, fun b xs e => old b _ e (ne_of e hP (fun z => nomatch z)), fun b o u e => old b _ e (ne_of e hP (fun z => nomatch z)), fun b qs e => ?_⟩
    · rw [upd_ne (Nat.ne_of_lt (Nat.lt_of_lt_of_le (Heap.lt_size e) hc)), upd_ne (nP b n)]
      exact n
    · by_cases z : b = P
      · subst z
        rw [hP] at e
        cases e
        exact ⟨ps, by rw [upd_ne (Ne.symm cP), upd_same]; simp⟩
      · exact ⟨#[], by rw [old b _ e z]; simp⟩
  refine I.un un fun b u e => ?_
  by_cases z : b = c'
  · subst z
    rw [upd_same] at e
    cases e
    obtain ⟨c2, o, vs, t, e1, e2, e3⟩ := hr
    cases e1
    refine ⟨⟨_, o, vs, t, rfl, e2, e3⟩, ⟨o, e2⟩, fun h1 h2 ⟨c3, o3, vs3, t3, f1, f2, f3⟩ k => ?_⟩
    cases f1
    exact ⟨_, o3, vs3, t3, rfl, k _ f2, f3⟩
  · rw [upd_ne z] at e
    by_cases y : b = P
    · subst y
      rw [upd_same] at e
      cases e
      exact ht
    · rw [upd_ne y] at e
      refine (I.hok b u e).stay (fun d v hd q => hx d v ?_ q) (fun d q => old d _ q (ne_of q hP (fun z => nomatch z))) fun d xs q => old d _ q (ne_of q hP (fun z => nomatch z))
      rcases hd with rfl | hd
      · exact y
      · exact ne_of hd hP (fun z => nomatch z)
end
/-- the lambda is called: values[place] -/
theorem call_key {prog : Program} {w : World} {A : Around} {s : Shared} {h : Heap} {tk : Nat} {f c c0 l : Addr} {v y qual : Str} {params : Arguments} {lsc : Scope} {pm ctv : Value} {p1 p2 p3 : Pos} {its : Array Value} {i : Nat} {t : Tok} {x : Value} {KeyIs : Nat → Value → Prop}
    (hroom : A.depth < recursionLimit) (lim : h.NoLimit) (ho : h.get? f = some (PySem.W.kla_obj "<lambda>" qual params (.Subscript (.Name v p1) (.Name y p2) p3) lsc [(v, c0)] pm c ctv)) (hcd : h.CodeRec (.ref c) qual)
    (hcell : h.IsCell c0 (some (.ref l))) (hl : h.IsList l its) (hi : i < 2 ^ 62) (hx : its[i]? = some x) (hk : KeyIs i x)
    (s1 : lsc.kind = .function) (s2 : lsc.isCoroutine = false) (s3 : lsc.isGenerator = false) (s4 : lsc.names.lookup y = some .local) (s5 : lsc.names.lookup v = some .free) (s6 : ∀ z ∈ lsc.names, z.2 ≠ .cell)
    (hb : ∀ (qual : Str) (bd : Expr) (sc : Scope) (cl : List (Str × Addr)) (pm cdv ct u : Value), bindArgs (PySem.W.kla_fn "<lambda>" qual params bd sc cl pm cdv ct) ⟨[u], []⟩ = pure [(y, u)])
    (hd1 : (v == ("__debug__" : Str)) = false) (hd2 : (y == ("__debug__" : Str)) = false) (hd3 : (v == ("__classdict__" : Str)) = false) :
    wpAny (model prog w) A (call (.ref f) [.int i t]) (fun r s' => KeyIs i r ∧ ∃ h' tk', s' = { s with heap := h', toks := tk' } ∧ ∀ b o, h.get? b = some o → h'.get? b = some o) (fun _ _ => False) { s with heap := h, toks := tk } := by
  refine wpAny_call (PySem.W.kla_callFunE (s := { s with heap := h, toks := tk }) hroom ho rfl s2 s3 rfl hcd ?_)
  rw [hb]
  refine wpAny_pure (wpAny_newFunctionEnv s6 (fun z hz => ?_) (fun h1 ns sb => ⟨?_, PySem.W.kla_codeExpr ?_⟩) s1)
  · rw [List.mem_singleton.mp hz]
    exact s4
  · exact lim.fresh _ sb
  · have keep : ∀ b o, h.get? b = some o → h1.get? b = some o := fun b o e => sb.extBut b o (Nat.ne_of_lt (Heap.lt_size e)) (Heap.get?_push_of_some _ e)
    refine Subscript_ (wpAny_Name (wpAny_loadName_free s1 s5 ?_ (hcell.keeps keep) ?_ hd3) hd1)
    · show List.lookup v [(v, c0)] = some c0
      simp
    · refine wpAny_Name (wpAny_loadName_local s1 s4 ns (v := .int i t) (by simp) ?_) hd2
      have hl1 : h1.IsList l its := let ⟨o, e, r⟩ := hl; ⟨o, keep _ _ e, r⟩
      exact item_listR (s := { s with heap := h1, toks := _ }) hl1 (Int.natCast_nonneg i) (by omega) (by simpa using hx) ⟨hk, h1, _, rfl, keep⟩
/-- the whole -/
abbrev rRng : List V → Hp → VK → Prop := fun xs H Q => ∃ n : Nat, xs = [.int n] ∧ ∀ l, H l = none → Q (.ref l) (upd H l (.rng 0 n))
def tOrder (K : PySem.W.Frag) (P : Addr) (pos : Pos) (qual : Str) (i : Nat) (te : TE) : TE := fun σ H Q => tCons (tCB rRng (tCons te tNil)) tNil σ H fun us H1 => ∃ (r l : Addr) (xs : List V) (T : List Nat → Prop), us = [.ref r] ∧ H1 r = some (.rng 0 xs.length) ∧ σ[i]? = some (some (.ref l)) ∧ SqL K H1 l xs ∧ xs.length < 64 ∧ Srt xs T ∧ Pk P pos qual H1 ∧
  ∀ (D : Addr) (ms : List Nat) (H2 : Hp), KeepP P H1 H2 → Pk P pos qual H2 → D ≠ P → H1 D = none → H2 D = some (.lst (ms.map fun (m : Nat) => V.int (m : Int))) → T ms → Q (.ref D) H2
theorem vals_of_at : ∀ {xs : List V} {us : List Value}, xs.length = us.length → (∀ (i : Nat) x u, xs[i]? = some x → us[i]? = some u → RelV x u) → Vals xs us
  | [], [], _, _ => .nil
  | [], _ :: _, e, _ => by cases e
  | _ :: _, [], e, _ => by cases e
  | x :: xs, u :: us, e, h => .cons (h 0 x u rfl rfl) (vals_of_at (Nat.succ.inj e) fun i y w e1 e2 => h (i + 1) y w e1 e2)
theorem vals_nats : ∀ {out : List Value} {ms : List Nat}, IntsAre out (ms.map Int.ofNat) → Vals (ms.map fun (m : Nat) => V.int (m : Int)) out := fun {out ms} h => by
  have := vals_ints h
  rw [List.map_map] at this
  exact this
section
variable {X : Cx} {e : Expr} {te : TE} {p p2 p3 p4 p5 p6 pos lpos kp : Pos} {v y : Str} {params : Arguments} {lsc : Scope} {i : Nat} {c c0 P : Addr}
theorem pe_order (hr : Room 0 X.A) (hms : X.mg "sorted" = none) (hmr : X.mg "range" = none) (he : PE X e te) (hi : X.N[i]? = some v) (hvc : X.env.kindOf v = some .cell) (hc0 : X.env.cells.lookup v = some c0) (hcl : PySem.closureFor lsc X.env = pure [(v, c0)])
    (hcode : X.env.code = .ref c) (C : PySem.W.CodeHd X.base c P) (B : BM X.mg X.base)
    (s1 : lsc.kind = .function) (s2 : lsc.isCoroutine = false) (s3 : lsc.isGenerator = false) (s4 : lsc.names.lookup y = some .local) (s5 : lsc.names.lookup v = some .free) (s6 : ∀ z ∈ lsc.names, z.2 ≠ .cell)
    (hb : ∀ (qual : Str) (bd : Expr) (sc : Scope) (cl : List (Str × Addr)) (pm cdv ct u : Value), bindArgs (PySem.W.kla_fn "<lambda>" qual params bd sc cl pm cdv ct) ⟨[u], []⟩ = pure [(y, u)]) (hdf : defaultsOf params X.env = ([], []))
    (hd1 : (v == ("__debug__" : Str)) = false) (hd2 : (y == ("__debug__" : Str)) = false) (hd3 : (v == ("__classdict__" : Str)) = false)
    (hgs : Gl X "sorted" := by rfl) (hgr : Gl X "range" := by rfl)
    (hs1 : starEach [e] X.env = [(false, eval e X.env)] := by rfl) (hs2 : starEach [.Call (.Name "range" p2) [e] [] p3] X.env = [(false, eval (.Call (.Name "range" p2) [e] [] p3) X.env)] := by rfl)
    : PE X (.Call (.Name "sorted" p) [.Call (.Name "range" p2) [e] [] p3] [⟨some "key", .Lambda params (.Subscript (.Name v p4) (.Name y p5) p6) lsc lpos, kp⟩] pos) (tOrder X.K P lpos (X.env.qual ++ "<lambda>") i te) := by
  intro pins s σ H Q I h
  refine wpAny_Call_Name_kw (ld_blt I hgs hms boot_sorted ?_)
  have hrng : PE X (.Call (.Name "range" p2) [e] [] p3) (tCB rRng (tCons te tNil)) := pe_callTy call_rng hgr hmr boot_range (pa_cons he pa_nil hs1) (by decide) (by decide) hs1 rfl
  refine PyProof.Rows.callWith_kw (thn ((pa_cons hrng pa_nil hs2) pos pins s σ H _ I h) fun us s1' ⟨xs', H1, I1, r1, r, l, xs, T, e1, hr1, hσ, hq, h64, hT, pk, k⟩ => ?_) (by rw [hs2]; rfl) (by rw [hs2]; rfl) rfl rfl
  subst e1
  obtain ⟨u, rfl, ru⟩ := vals1 r1
  cases ru
  obtain ⟨bm, bo, b1, b2, b3, b4, b5, b6⟩ := B
  have glob := I1.mod.glob.keeps I1.bk
  obtain ⟨ps, hPs⟩ := pk.at
  have apart : ∀ b o, X.base.get? b = some o → b ≠ P := fun b o z w => by
    have := (I1.bs b o z).2
    rw [w, hPs] at this
    cases this
  have gP : mainGlobals ≠ P := by
    obtain ⟨o, _, _, z, _⟩ := I1.mod.glob
    exact apart _ _ z
  have bG : bm ≠ mainGlobals := fun z => by
    obtain ⟨o, es, ep, w, d, _⟩ := I1.mod.glob
    rw [z, w] at b3
    cases b3
    rw [d] at b6
    cases b6
  have hB : s1'.heap.BuiltinsAt X.mg P := ⟨bm, bo, b1, b2, bG, apart _ _ b3, I1.bk _ _ b3, b4, b5, b6⟩
  have hgl : X.env.globals = mainGlobals := I1.ok.glob
  -- behind the lambda
  have after : ∀ (H2 : Hp) (s2' : Shared) (f cc : Addr) (ctv : Value), Inv X pins σ H2 s2' → KeepP P H1 H2 → Pk P lpos (X.env.qual ++ "<lambda>") H2 → H2 cc = some (CodeO cc (X.env.qual ++ "<lambda>")) →
      s2'.heap.get? f = some (PySem.W.kla_obj "<lambda>" (X.env.qual ++ "<lambda>") params (.Subscript (.Name v p4) (.Name y p5) p6) lsc [(v, c0)] ((X.mg "__name__").getD .none) cc ctv) →
      wpAny (model X.prog X.w) X.A (call (.builtin "sorted") [.ref r] [(Str.ofString "key", .ref f)]) (EP X pins σ Q) X.xe s2' := by
    intro H2 s2' f cc ctv I2 kp2 pk2 hcc hf
    obtain ⟨ps2, hPs2⟩ := pk2.at
    have hr2 : H2 r = some (.rng 0 xs.length) := kp2 _ _ (ne_of hr1 hPs (fun z => nomatch z)) hr1
    obtain ⟨t1, t2, t3, or⟩ := I2.hok r _ hr2
    have hq2 := kp2.seq pk hq
    obtain ⟨its, rv, pl, hz⟩ := I2.list hq2
    obtain ⟨m, hn, hlk⟩ := I2.loc
    obtain ⟨u, ru, lk⟩ := hlk i v (.ref l) hi hσ (.inr (.inl hvc))
    cases ru
    have cell : s2'.heap.IsCell c0 (some (.ref l)) := by
      rcases lk with ⟨z, _⟩ | ⟨_, c1, z, w⟩
      · rw [hvc] at z
        cases z
      · rw [hc0] at z
        cases z
        exact w
    have cd : s2'.heap.CodeRec (.ref cc) (X.env.qual ++ "<lambda>") := (I2.hok cc _ hcc).1
    have len := rv.length
    refine sorted_range_by (R := fun out => ∃ ms : List Nat, IntsAre out (ms.map Int.ofNat) ∧ T ms) (KeyIs := fun i w => ∃ x, xs[i]? = some x ∧ RelV x w) hr.hd or (by omega) (fun j t h3 tk3 lt k3 => ?_) (fun keys vs l1 l2 q1 q2 => hT keys vs ?_ l2 q2) fun D h3 tk3 out cn le o3 k3 ⟨ms, m1, m2⟩ z3 => ?_
    · obtain ⟨x, ex⟩ : ∃ x, xs[j]? = some x := ⟨_, List.getElem?_eq_getElem lt⟩
      obtain ⟨w, ew, rw'⟩ := rv.get ex
      refine call_key (x := w) (its := its.toArray) (i := j) (KeyIs := fun i w => ∃ x, xs[i]? = some x ∧ RelV x w) ?_ (I2.nolimit.keeps k3) (k3 _ _ hf) (cd.keeps k3) (cell.keeps k3) ?_ (by omega) (by simpa using ew) ⟨x, ex, rw'⟩ s1 s2 s3 s4 s5 s6 hb hd1 hd2 hd3
      · have := hr.dp
        show X.A.depth < _
        omega
      · obtain ⟨o, z, w⟩ := pl.isList
        exact ⟨o, k3 _ _ z, w⟩
    · exact vals_of_at (by omega) fun j x kx e2 e3 => by
        obtain ⟨x', e4, e5⟩ := q1 j kx e3
        rw [e2] at e4
        cases e4
        exact e5
    · have fr : H2 D = none := I2.hok.fresh le
      have dP : D ≠ P := fun z => by rw [z, hPs2] at fr; cases fr
      refine ⟨.ref D, _, I2.laid (o := .lst (ms.map fun (m : Nat) => V.int (m : Int))) k3 le ⟨?_, out.toList, cn, vals_nats m1, by simpa using o3⟩, rfl, k D ms _ (fun b o hb z => ?_) ?_ dP ?_ upd_same m2⟩
      · have l3 := (vals_nats m1).length.trans (Array.length_toList.trans z3)
        rw [l3]
        exact hz
      · rw [upd_ne (ne_of_none (kp2 b o hb z) fr)]
        exact kp2 b o hb z
      · exact pk2.same fun b o z => by rw [upd_ne (ne_of_none z fr)]; exact z
      · exact kp2.free dP fr
  refine PyProof.Rows.kws_cons (PySem.W.kla_eval hdf ?_)
  rcases pk with hP | ⟨cc, hP, hcc⟩
  · refine PySem.W.kla_makeFunction (ps := #[]) hcl hgl glob hcode (C.keeps I1.bk) (I1.hok P _ hP) trivial rfl gP hB fun cc ctv h' tk hx hge hlt hrec htb => PyProof.Rows.kws_nil ?_
    have push : ∀ b o, h'.get? b = some o → (h'.push (PySem.W.kla_obj "<lambda>" (X.env.qual ++ "<lambda>") params (.Subscript (.Name v p4) (.Name y p5) p6) lsc [(v, c0)] ((X.mg "__name__").getD .none) cc ctv)).get? b = some o := fun b o z => Heap.get?_push_of_some _ z
    have fc : H1 cc = none := I1.hok.fresh hge
    have cP : cc ≠ P := fun z => by rw [z, hP] at fc; cases fc
    have I2 := I1.coded (tk := tk) hP (fun b o hb z => push b o (hx b o hb z)) hge (hrec.keeps push) (push _ _ htb)
    refine after _ _ _ cc ctv I2 (fun b o hb z => ?_) (.inr ⟨cc, ?_, upd_same⟩) upd_same (Heap.get?_push_size _ rfl)
    · rw [upd_ne (ne_of_none z fc), upd_ne hb]
      exact z
    · rw [upd_ne (Ne.symm cP), upd_same]
      rfl
  · refine PySem.W.kla_makeFunctionHit (cv := .ref cc) (ps := #[rawInt lpos.line, rawInt lpos.col, .ref cc]) hcl hgl glob hcode (C.keeps I1.bk) (I1.hok P _ hP) trivial ?_ hB fun ctv h' tk hk hsz => PyProof.Rows.kws_nil ?_
    · simp [codeAmong, rawInt]
    · exact after H1 _ _ cc ctv (I1.kept (t' := tk) fun b o z => Heap.get?_push_of_some _ (hk b o z)) .refl (.inr ⟨cc, hP, hcc⟩) hcc (Heap.get?_push_size _ rfl)
end
end L2


set_option Elab.async false
set_option linter.all false
set_option maxRecDepth 100000
set_option maxHeartbeats 2000000
namespace L2
open PySem PySem.Spec PyProof.Rows Tw
seal PSs PS PE PT PW PA PG PGs PI PC
abbrev PkL (P : Addr) (H : Hp) : Prop := Pk P Pl.lamPos Pl.lamQual H
/-- what was there is as it was, but for dicts that are shut and the table of the lambda's code -/
structure XP (P : Addr) (H H' : Hp) : Prop where
  pk : PkL P H
  pk' : PkL P H'
  ext : ∀ b o, b ≠ P → H b = some o → H' b = some o ∨ ((∃ kvs, o = .dK kvs) ∧ ∃ ob, H' b = some (.frz ob o))
section
variable {P : Addr} {H H1 H2 : Hp} {a b l : Addr} {o : HO} {xs : List V} {K : PySem.W.Frag}
theorem PkL.ext (p : PkL P H) (x : Ext H H1) : PkL P H1 := by
  rcases p with p | ⟨c, p, q⟩
  · exact .inl (x.keep p fun _ z => nomatch z)
  · exact .inr ⟨c, x.keep p (fun _ z => nomatch z), x.keep q (fun _ z => nomatch z)⟩
theorem XP.of (p : PkL P H) (x : Ext H H1) : XP P H H1 := ⟨p, PkL.ext p x, fun b o _ e => x b o e⟩
theorem XP.refl (p : PkL P H) : XP P H H := .of p (.refl H)
theorem XP.ne (x : XP P H H1) (h : H b = some o) (n : ∀ ps, o ≠ .tbl ps) : b ≠ P := by
  obtain ⟨ps, q⟩ := x.pk.at
  exact ne_of h q (n ps)
theorem XP.trans (x : XP P H H1) (y : XP P H1 H2) : XP P H H2 := by
  refine ⟨x.pk, y.pk', fun b o hb h => ?_⟩
  rcases x.ext b o hb h with h1 | ⟨⟨kvs, e⟩, ob, h1⟩
  · exact y.ext b o hb h1
  · rcases y.ext b _ hb h1 with h2 | ⟨⟨kvs, e⟩, _⟩
    · exact .inr ⟨⟨kvs, e⟩, ob, h2⟩
    · cases e
theorem XP.keep (x : XP P H H1) (h : H b = some o) (hn : ∀ kvs, o ≠ .dK kvs) (ht : ∀ ps, o ≠ .tbl ps) : H1 b = some o := by
  rcases x.ext b o (x.ne h ht) h with h1 | ⟨⟨kvs, e⟩, _⟩
  · exact h1
  · exact absurd e (hn kvs)
theorem XP.lst (x : XP P H H1) (h : H b = some (.lst xs)) : H1 b = some (.lst xs) := x.keep h (fun _ e => nomatch e) fun _ e => nomatch e
theorem XP.ins {C dx : Addr} {fs : List (Str × V)} (x : XP P H H1) (h : H b = some (.ins C dx fs)) : H1 b = some (.ins C dx fs) := x.keep h (fun _ e => nomatch e) fun _ e => nomatch e
theorem XP.free (x : XP P H H1) (h : H1 l = none) : H l = none := by
  cases q : H l with
  | none => rfl
  | some u =>
    by_cases z : l = P
    · subst z
      obtain ⟨ps, r⟩ := x.pk'.at
      rw [h] at r
      cases r
    · rcases x.ext l u z q with h1 | ⟨_, ob, h1⟩ <;> rw [h] at h1 <;> cases h1
theorem XP.then (x : XP P H H1) (y : Ext H1 H2) : XP P H H2 := x.trans (.of x.pk' y)
theorem XP.newer (x : XP P H H1) (h : H1 l = none) : XP P H (upd H1 l o) := x.then (.new h)
theorem XP.over {u : HO} (x : XP P H H1) (h : H l = none) (h1 : H1 l = some u) (nt : ∀ ps, u ≠ .tbl ps) (nx : ∀ φ, u ≠ .ext φ) : XP P H (upd H1 l o) := by
  obtain ⟨ps, hp⟩ := x.pk'.at
  have lP : P ≠ l := ne_of hp h1 (fun z => nt ps z.symm)
  refine ⟨x.pk, ?_, fun b w hb e => ?_⟩
  · rcases x.pk' with p | ⟨c, p, q⟩
    · exact .inl (by rw [upd_ne lP]; exact p)
    · exact .inr ⟨c, by rw [upd_ne lP]; exact p, by rw [upd_ne (ne_of q h1 (fun z => nx _ z.symm))]; exact q⟩
  · rw [upd_ne (ne_of_none e h)]
    exact x.ext b w hb e
theorem XP.codeL {ws : List W} (x : XP P H H1) (h : CodeL H a ws) : CodeL H1 a ws := ⟨x.lst h.at_, h.ok, h.few, h.short⟩
end
section
variable {P : Program} {w : World} {K : PySem.W.Frag} {mg : Str → Option Value} {base : Heap}
/-- a def whose own code is known -/
theorem Fun.okC {x qual : Str} {st : Stmt} {f c : Addr} {fd : FuncData} {N ps : List Str} {k : Nat} {sp : Sp} (F : Fun K x qual st f fd) (hc : fd.code = .ref c) (S : FnScope N ps (defScope st)) (len : ∀ vs H Q E, sp vs H Q E → vs.length = ps.length)
    (hbody : ∀ (A : Around) (outer : List Env) (s : Shared) (H : Hp) (vs : List V) (Q : VK) (E : XK), Room k (A.deeper (envOfC qual (defScope st) s.heap.objs.size f (.ref c))) → sp vs H Q E →
      ∃ t, PSs (cxOf CX0 P w K mg base N qual (defScope st) f (.ref c) A outer s H E).nox (defBody st) t ∧ t { nx := fun _ H' => Q .non H', rt := Q } (start N vs) H) : FnOk P w K mg base CX0 (k + 1) f fd ps sp := by
  obtain ⟨oc, od, kV, doc, pm, an, cdv, ct, osl, rfl, lk, hcd⟩ := F.ex
  cases (show cdv = .ref c from hc)
  refine fn_of lk hcd S len fun A outer s H vs Q E hr hsp => ?_
  obtain ⟨t, h, q⟩ := hbody A outer s H vs Q E hr hsp
  exact ⟨t, h.nox, q⟩
def spInOrder (K : PySem.W.Frag) (T : Addr) : Sp := fun vs H Q _ => ∃ (l : Addr) (xs : List V) (R : List Nat → Prop), vs = [.ref l] ∧ SqL K H l xs ∧ xs.length < 64 ∧ Srt xs R ∧ PkL T H ∧ ∀ D ms H', XP T H H' → H D = none → H' D = some (.lst (intsV ms)) → R ms → Q (.ref D) H'
/-- in_order stands under its name, its code's table at T -/
def DefT (K : PySem.W.Frag) (mg : Str → Option Value) (base : Heap) (T : Addr) : Prop :=
  ∃ f fd c, Fun K "in_order" "in_order" Pl.s_in_order f fd ∧ mg "in_order" = some (.ref f) ∧ PySem.W.keepIn K (.ref f) = true ∧ Binds K fd ["values"] [] ∧ fd.code = .ref c ∧ PySem.W.CodeHd base c T
theorem ok_in_order {T : Addr} (D : DefT K mg base T) (B : Bare mg) (M : BM mg base) : Cal P w K mg base CX0 1 "in_order" ["values"] (spInOrder K T) := by
  have sc : FnScope ["values"] ["values"] (defScope Pl.s_in_order) := ⟨rfl, rfl, rfl, by decide +kernel, rfl, by decide +kernel, by decide +kernel⟩
  obtain ⟨f, fd, c, F, h1, h2, h3, h4, C⟩ := D
  refine ⟨f, fd, F.okC h4 sc (fun vs H Q E h => ?_) (fun A outer s H vs Q E hr h => ?_), h1, h2, h3⟩
  · obtain ⟨_, _, _, rfl, _⟩ := h
    rfl
  · obtain ⟨l, xs, R, rfl, hq, h64, hs, pk, k⟩ := h
    refine ⟨_, pss_one (ps_ret (pe_order (P := T) (i := 0) (v := "values") (y := "place") (c := c) hr B.sorted B.range (pe_callB call_len_seq (by rfl) B.len PySem.boot_len (pa_cons (pv 0) pa_nil)) rfl rfl rfl rfl rfl C M rfl rfl rfl rfl rfl (by decide +kernel) (fun _ _ _ _ _ _ _ _ => rfl) rfl (by decide) (by decide) (by decide))), ?_⟩
    · refine ⟨_, rfl, l, xs, rfl, .inl hq, xs.length, rfl, fun r hr => ⟨r, l, xs, R, rfl, upd_same, rfl, ?_, h64, hs, ?_, fun D ms H2 kp pk2 hD h1 h2 h3 => ?_⟩⟩
      · exact Ext.sqL (Ext.new hr) hq
      · exact PkL.ext pk (Ext.new hr)
      · have fD : H D = none := (Ext.new hr).free h1
        exact k D ms H2 ⟨pk, pk2, fun b o hb z => .inl (kp b o hb (by rw [upd_ne (ne_of_none z hr)]; exact z))⟩ fD h2 h3
end
end L2


set_option Elab.async false
set_option linter.all false
set_option maxRecDepth 100000
set_option maxHeartbeats 2000000
namespace L2
open PySem PySem.Spec PyProof.Rows Tw
seal PSs PS PE PT PW PA PG PGs PI PC
/-- a class of answers: how it is made and shown -/
structure Kls (P : Program) (w : World) (K : PySem.W.Frag) (mg : Str → Option Value) (base : Heap) (x : Str) (C : Addr) (ips : List Str) (ini : Sp) (sps : List Str) (sp : Sp) : Prop where
  there : mg x = some (.ref C)
  cls : Cls K C
  mak : ∃ f fd, Mk K C f ∧ FnOk P w K mg base CX0 2 f fd ("self" :: ips) ini ∧ Binds K fd ("self" :: ips) []
  sh : ∃ f fd, Meth K C "shows" f ∧ FnOk P w K mg base CX0 5 f fd ("self" :: sps) sp ∧ Binds K fd ("self" :: sps) []
theorem pe_kls {X : Cx} {x : Str} {C : Addr} {ips sps : List Str} {ini sp : Sp} {e : Expr} {es : List Expr} {t : TA} {p pos : Pos} (O : Kls X.prog X.w X.K X.mg X.base x C ips ini sps sp) (hr : Room 3 X.A) (ha : PA X (e :: es) t) (hg : Gl X x := by rfl) (hdb : (x == ("__debug__" : Str)) = false := by decide)
    (he : starEach (e :: es) X.env = (false, eval e X.env) :: starEach es X.env := by rfl) (hpl : (backTo pos (starEach es X.env)).any (·.1) = false := by rfl) : PE X (.Call (.Name x p) (e :: es) [] pos) (tMake C ini [] E0 t) := by
  obtain ⟨f, fd, M, F, b⟩ := O.mak
  exact pe_make M F hr hg O.there b .nil pass0 ha hdb he hpl
theorem wat_st (ws : List W) (i : Nat) : wat (ws.map st) i = ws.getD i [] := by
  unfold wat
  rw [List.getD_eq_getElem?_getD, List.getElem?_map, List.getD_eq_getElem?_getD]
  cases ws[i]? <;> rfl
/-- the places of words, in the order of the words -/
def InOrd (ws : List W) (ms : List Nat) : Prop := ms.Perm (List.range ws.length) ∧ ms.Pairwise fun i j => ¬ ws.getD j [] < ws.getD i []
theorem srt_words {ws : List W} (h : ws.length < 64) : Srt (ws.map sv) (InOrd ws) := by
  intro keys vs r hl hv
  rw [List.length_map] at hl hv
  have hk : StrsAre keys (ws.map st) := strsAre_of r
  have kl : keys.length = ws.length := by rw [← r.length, List.length_map]
  have S := srt_strs hk kl hl hv h
  have im : ∀ out, (∃ ms : List Nat, IntsAre out (ms.map Int.ofNat) ∧ ms.Perm (List.range ws.length) ∧ ms.Pairwise fun i j => ¬ wat (ws.map st) j < wat (ws.map st) i) → ∃ ms : List Nat, IntsAre out (ms.map Int.ofNat) ∧ InOrd ws ms := fun out ⟨ms, m1, m2, m3⟩ => ⟨ms, m1, m2, m3.imp fun {a b} z => by rw [wat_st, wat_st] at z; exact z⟩
  refine ⟨fun z => im _ (S.1 z), fun z => ⟨(S.2 z).1, fun prog w A E s => ?_⟩⟩
  exact wpS_mono ((S.2 z).2 prog w A E s) fun _ st ⟨a1, a2, a3⟩ => ⟨a1, a2, im _ a3⟩
end L2


set_option Elab.async false
set_option linter.all false
set_option maxRecDepth 100000
set_option maxHeartbeats 2000000
namespace L2
open PySem PySem.Spec PyProof.Rows Tw
seal PSs PS PE PT PW PA PG PGs PI PC
theorem no_list_str (K : PySem.W.Frag) : PySem.W.kitOne K (.type "str") (.type "list") = some false := by kernel_rfl
section
variable {P : Program} {w : World} {K : PySem.W.Frag} {mg : Str → Option Value} {base : Heap}
def spCopiedG : Sp := fun vs H Q _ => ∃ (a : Addr) (xs : List V), vs = [.ref a] ∧ H a = some (.lst xs) ∧ xs.length ≤ 100000 ∧ (∀ v ∈ xs, (∃ i, v = .int i) ∨ ∃ z, v = .str z) ∧ ∀ l H', H l = none → Ext H H' → H' l = some (.lst xs) → Q (.ref l) H'
theorem ok_copiedG (D : Def K mg "copied" "copied" Pl.s_copied ["value"]) (B : Bare mg) : Cal P w K mg base CX0 1 "copied" ["value"] spCopiedG := by
  have sc : FnScope ["value", "told", "waiting", "members", "place"] ["value"] (defScope Pl.s_copied) := ⟨rfl, rfl, rfl, by decide +kernel, rfl, by decide +kernel, by decide +kernel⟩
  refine D.cal fun f fd F => F.ok sc (fun vs H Q E h => ?_) (fun cdv A outer s H vs Q E hr h => ?_)
  · obtain ⟨_, _, rfl, _⟩ := h
    rfl
  · obtain ⟨a, xs, rfl, ha, hrl, hpl, k⟩ := h
    refine ⟨_, pss_cons (ps_if (pt_not (pt_val (pe_isi_list B (pv 0)))) (pss_one (ps_ret (pv 0))) pss_nil)
      (pss_cons (ps_set (i := 1) sc.nd rfl (Or.inl rfl) (pe_callTy call_list_of (by rfl) B.list boot_list (pa_cons (pv 0) pa_nil)))
      (pss_cons (ps_set (i := 2) sc.nd rfl (Or.inl rfl) (pe_lst (pa_cons (pv 1) pa_nil)))
      (pss_cons (ps_while PassesOwn.never (pt_truth (pv 2) (fun _ => rfl))
        (pss_cons (ps_set (i := 3) sc.nd rfl (Or.inl rfl) (pe_bm0 PySem.F.plainAttrs_list PySem.F.slot_list_pop PySem.F.type_list_pop mt_pop (pv 2)))
        (pss_one (ps_for PassesOwn.never rfl (pi_range1 (by rfl) B.range (pa_cons (pe_callB call_len_seq (by rfl) B.len PySem.boot_len (pa_cons (pv 3) pa_nil)) pa_nil)) (pg_name (i := 4) sc.nd rfl (Or.inl rfl))
          (pss_one (ps_if (pt_val (pe_isi_list B (pe_ix (r := rIxL K) ix_list (pv 3) (pv 4) (fun _ _ => rfl)))) pss_never pss_nil))))))
      (pss_one (ps_ret (pv 1)))))), ?_⟩
    refine ⟨_, rfl, _, _, _, _, rfl, trivial, .lst ha, yes_list K, _, rfl, iteF' (by decide) ?_⟩
    refine ⟨_, rfl, a, _, rfl, .inl (SqL.of ha), fun l hl => ?_⟩
    have x1 : Ext H (upd H l (.lst (xs))) := Ext.new hl
    refine ⟨_, rfl, by show 1 ≤ sizeLine; decide, fun q hq => ?_⟩
    have nql : l ≠ q := ne_of_none upd_same hq
    dsimp only [gName, tSeq]
    refine while_by (fun σ H2 => ∃ (ws : List V) (mb pl : Option V), σ = [some (.ref a), some (.ref l), some (.ref q), mb, pl] ∧ Ext H H2 ∧ H2 l = some (.lst (xs)) ∧ H2 q = some (.lst ws) ∧ (ws = [.ref l] ∨ ws = [])) (fun _ H2 => lstLen H2 q) ?_ ?_ ?_
    · exact ⟨[.ref l], none, none, rfl, x1.newer hq, upd_keep upd_same hq, upd_same, .inl rfl⟩
    · rintro σ H2 ⟨ws, mb, pl, rfl, x2, hl2, hq2, rfl | rfl⟩
      · refine ⟨_, rfl, true, .inl ⟨_, SqL.of hq2, rfl⟩, iteT ?_⟩
        refine ⟨_, rfl, .inl ⟨rfl, _, SqL.of hq2⟩, q, _, .ref l, rfl, rfl, hq2, rfl, ?_⟩
        have hl3 : upd H2 q (.lst ([V.ref l].dropLast)) l = some (.lst (xs)) := upd_k hl2 nql
        have x3 : Ext H (upd H2 q (.lst ([V.ref l].dropLast))) := x2.over (x1.free hq)
        refine ⟨_, rfl, l, _, rfl, .inl (SqL.of hl3), _, rfl, by omega, by omega, ?_⟩
        have en : ((xs.length : Nat) : Int).toNat = xs.length := by omega
        rw [en]
        refine for_range (fun i σ H4 => (∃ pl : Option V, σ = [some (.ref a), some (.ref l), some (.ref q), some (.ref l), pl]) ∧ H4 = upd H2 q (.lst ([V.ref l].dropLast))) ⟨⟨_, rfl⟩, rfl⟩ ?_ ?_
        · rintro i σ H4 hi ⟨⟨pl, rfl⟩, rfl⟩
          have hm : xs[i]? = some xs[i] := List.getElem?_eq_getElem hi
          rcases hpl _ (List.getElem_mem hi) with ⟨z, e⟩ | ⟨z, e⟩
          · refine ⟨_, rfl, _, rfl, l, _, _, .int z, rfl, rfl, SqL.of hl3, ?_, _, _, _, _, rfl, trivial, .int _, no_list K, _, rfl, iteF ⟨⟨_, rfl⟩, rfl⟩⟩
            rw [Int.zero_add]
            exact atI_nat (by rw [hm, e])
          · refine ⟨_, rfl, _, rfl, l, _, _, .str z, rfl, rfl, SqL.of hl3, ?_, _, _, _, _, rfl, trivial, .str _, no_list_str K, _, rfl, iteF ⟨⟨_, rfl⟩, rfl⟩⟩
            rw [Int.zero_add]
            exact atI_nat (by rw [hm, e])
        · rintro σ H4 ⟨⟨pl, rfl⟩, rfl⟩
          refine ⟨⟨[], _, _, rfl, x3, hl3, upd_same, .inr rfl⟩, ?_⟩
          rw [lstLen_of hq2, lstLen_of (upd_same (H := H2) (a := q))]
          simp
      · refine ⟨_, rfl, false, .inl ⟨_, SqL.of hq2, rfl⟩, iteF ?_⟩
        exact ⟨_, rfl, k l H2 hl x2 hl2⟩
    · rintro σ H' Q1 Q2 hQ ⟨v, e1, b, e2, q⟩
      exact ⟨v, e1, b, e2, hQ _ _ q⟩
end
theorem txts_plain (r : List W) : ∀ v ∈ r.map sv, (∃ i, v = .int i) ∨ ∃ z, v = V.str z := fun v hv => by
  obtain ⟨i, _, rfl⟩ := List.mem_map.mp hv
  exact .inr ⟨_, rfl⟩
end L2


set_option Elab.async false
set_option linter.all false
set_option maxRecDepth 100000
set_option maxHeartbeats 2000000
namespace L2
open PySem PySem.Spec PyProof.Rows Tw
seal PSs PS PE PT PW PA PG PGs PI PC
/-- places in the order of their lengths -/
def InOrdN (ls ms : List Nat) : Prop := ms.Perm (List.range ls.length) ∧ ms.Pairwise fun i j => ls.getD i 0 ≤ ls.getD j 0
theorem srt_lens {ls : List Nat} (h : ls.length < 64) : Srt (intsV ls) (InOrdN ls) := by
  intro keys vs r hl hv
  rw [ints_int] at r
  have hk : IntsAre keys (ls.map fun (i : Nat) => (i : Int)) := intsAre_of r
  have kl : keys.length = ls.length := by rw [← r.length, List.length_map, List.length_map]
  have el : (intsV ls).length = ls.length := List.length_map ..
  rw [el] at hl hv
  have S := srt_ints hk kl hl hv h
  have g : ∀ i, (ls.map fun (i : Nat) => (i : Int)).getD i 0 = ((ls.getD i 0 : Nat) : Int) := fun i => by
    rw [List.getD_eq_getElem?_getD, List.getElem?_map, List.getD_eq_getElem?_getD]
    cases ls[i]? <;> rfl
  have im : ∀ out, (∃ ms : List Nat, IntsAre out (ms.map Int.ofNat) ∧ ms.Perm (List.range ls.length) ∧ ms.Pairwise fun i j => (ls.map fun (i : Nat) => (i : Int)).getD i 0 ≤ (ls.map fun (i : Nat) => (i : Int)).getD j 0) → ∃ ms : List Nat, IntsAre out (ms.map Int.ofNat) ∧ InOrdN ls ms := fun out ⟨ms, m1, m2, m3⟩ => ⟨ms, m1, m2, m3.imp fun {a b} z => by rw [g, g] at z; omega⟩
  refine ⟨fun z => im _ (S.1 z), fun z => ⟨(S.2 z).1, fun prog w A E s => ?_⟩⟩
  exact wpS_mono ((S.2 z).2 prog w A E s) fun _ st ⟨a1, a2, a3⟩ => ⟨a1, a2, im _ a3⟩
section
variable {P : Program} {w : World} {K : PySem.W.Frag} {mg : Str → Option Value} {base : Heap} {T cW cF : Addr}
def spFree : Sp := fun vs H Q _ => ∃ (x : W) (q : Nat), vs = [sv x, .int (q : Int)] ∧ 1 ≤ q ∧ q ≤ 26 ∧ Dg q x ∧ x.length ≤ 1000 ∧ (vl q x + 1 = q ^ x.length → Q .non H) ∧ ∀ f : W, Dg q f → f.length ≤ x.length → vl q f * q ^ (x.length - f.length) = vl q x + 1 → Q (sv f) H
theorem ok_first_free (D : Def K mg "first_free" "first_free" Pl.s_first_free ["word", "letters"]) (L : ∃ t, mg "LETTERS" = some (.str "abcdefghijklmnopqrstuvwxyz" t)) : Cal P w K mg base CX0 1 "first_free" ["word", "letters"] spFree := by
  have sc : FnScope ["word", "letters", "kept"] ["word", "letters"] (defScope Pl.s_first_free) := ⟨rfl, rfl, rfl, by decide +kernel, rfl, by decide +kernel, by decide +kernel⟩
  obtain ⟨tk, hL⟩ := L
  refine D.cal fun f fd F => F.ok sc (fun vs H Q E h => ?_) (fun cdv A outer s H vs Q E hr h => ?_)
  · obtain ⟨_, _, rfl, _⟩ := h
    rfl
  · obtain ⟨x, q, rfl, hq1, hq2, hd, hx, k1, k2⟩ := h
    refine ⟨_, pss_cons (ps_set (i := 2) sc.nd rfl (Or.inl rfl) (pe_bm PySem.F.plainAttrs_str PySem.F.slot_str_rstrip PySem.F.type_str_rstrip mt_rstrip (pv 0) (pa_cons (pe_ix (r := rIxS) ix_str (pe_glob (v := sv az) (by rfl) hL ⟨tk, by rw [az_eq]⟩) (pe_op op_sub (pv 1) pe_int) (fun _ _ => rfl)) pa_nil)))
      (pss_cons (ps_if (pt_cmpR op_eq (pv 2) pe_str (nomark _)) (pss_one (ps_ret pe_non)) pss_nil)
      (pss_one (ps_ret (pe_op op_add_str (pe_slice (r := rSlS) sl_str (pv 2) po_none (po_some (pe_un un_neg pe_int))) (pe_ix (r := rIxS) ix_str (pe_glob (v := sv az) (by rfl) hL ⟨tk, by rw [az_eq]⟩)
        (pe_op op_add (pe_bm PySem.F.plainAttrs_str PySem.F.slot_str_index PySem.F.type_str_index mt_index (pe_glob (v := sv az) (by rfl) hL ⟨tk, by rw [az_eq]⟩) (pa_cons (pe_ix (r := rIxS) ix_str (pv 2) (pe_un un_neg pe_int) (fun _ _ => rfl)) pa_nil)) pe_int) (fun _ _ => rfl)))))), ?_⟩
    have azl : (st az).length ≤ sizeLine := by rw [st_len]; exact small_line (by decide)
    have eq1 : ((q : Int) - 1) = ((q - 1 : Nat) : Int) := by omega
    refine ⟨_, rfl, rfl, _, rfl, _, _, rfl, rfl, st az, ((q - 1 : Nat) : Int), 97 + (q - 1), rfl, by show V.int ((q : Int) - 1) = _; rw [eq1], azl, ?_, x, [97 + (q - 1)], rfl, rfl, small_line (by omega), ?_⟩
    · exact atI_nat (az_get (by omega))
    obtain ⟨m, e, hk⟩ := rstrip_split x (97 + (q - 1))
    rcases hk with hk | ⟨kk, d, hk, hne⟩
    · rw [hk] at e ⊢
      refine ⟨_, rfl, rfl, _, rfl, iteT' (by rw [sE]; simp) (k1 ?_)⟩
      rw [List.nil_append] at e
      have := vl_tops hq1 [] m
      rw [List.nil_append, ← e] at this
      rw [this, e, List.length_replicate]
      show (0 + 1) * q ^ m = q ^ m
      rw [Nat.zero_add, Nat.one_mul]
    · rw [hk] at e ⊢
      have dm : d ∈ x := by rw [e]; exact List.mem_append_left _ (List.mem_append_right _ (List.mem_singleton.mpr rfl))
      have hd' := hd d dm
      have len : x.length = kk.length + 1 + m := by rw [e, List.length_append, List.length_append, List.length_replicate]; rfl
      refine ⟨_, rfl, rfl, _, rfl, iteF' (by rw [sE, decide_eq_true_iff]; intro z; have := st_inj (V.str.inj z); simp at this) ?_⟩
      refine ⟨_, rfl, 1, rfl, -1, rfl, kk ++ [d], rfl, small_line (by rw [List.length_append]; simp; omega), ?_⟩
      rw [cutL_init, List.dropLast_concat]
      have ed : d = 97 + (d - 97) := by omega
      refine ⟨rfl, _, rfl, 1, rfl, st (kk ++ [d]), -1, d, rfl, rfl, by rw [st_len, List.length_append]; exact small_line (by simp; omega), atI_last _ _, d - 97, by omega, rfl, by rw [← ed]; rfl, _, _, rfl, rfl, ?_⟩
      refine ⟨st az, ((d - 97 + 1 : Nat) : Int), 97 + (d - 97 + 1), rfl, rfl, azl, atI_nat (az_get (by omega)), _, _, rfl, rfl, ?_, ?_⟩
      · rw [st_len]
        exact small_line (by show kk.length + 1 ≤ 1000000; omega)
      rw [s_one, st_app]
      refine k2 _ (fun c hc => ?_) (by rw [List.length_append, len]; simp) ?_
      · rcases List.mem_append.mp hc with z | z
        · exact hd c (by rw [e]; exact List.mem_append_left _ (List.mem_append_left _ z))
        · rw [List.mem_singleton.mp z]
          omega
      · have t := vl_tops hq1 (kk ++ [d]) m
        rw [← e] at t
        rw [t, vl_snoc, vl_snoc, List.length_append, List.length_singleton, len, show kk.length + 1 + m - (kk.length + 1) = m by omega]
        congr 1
        omega
end
end L2


set_option Elab.async false
set_option linter.all false
set_option maxRecDepth 100000
set_option maxHeartbeats 1000000
namespace Ts
open PySem PyProof.Rows
/-! ### sorting keeps what is there, however long the list is -/
section
variable {prog : Program} {w : World} {A : Around} {E : Value → Shared → Prop} {s : Shared} {σ : Type} {α β : Type}
/-- m keeps I, and what it gives is R -/
def Kp (prog : Program) (w : World) (A : Around) (E : Value → Shared → Prop) (s : Shared) (I : σ → Prop) (m : StateT σ Sem α) (R : α → Prop) : Prop := ∀ st, I st → wpS (model prog w) A E s m (fun a st' => I st' ∧ R a) st
variable {I : σ → Prop}
theorem kp_pure {a : α} {R : α → Prop} (h : R a) : Kp prog w A E s I (pure a : StateT σ Sem α) R := fun _ i => wpS_pure ⟨i, h⟩
theorem kp_bind {m : StateT σ Sem α} {f : α → StateT σ Sem β} {R : α → Prop} {R' : β → Prop} (h : Kp prog w A E s I m R) (k : ∀ a, R a → Kp prog w A E s I (f a) R') : Kp prog w A E s I (m >>= f) R' :=
  fun st i => wpS_bind (wpS_mono (h st i) fun a st' q => k a q.2 st' q.1)
theorem kp_ite {c : Prop} [Decidable c] {x y : StateT σ Sem α} {R : α → Prop} (h1 : c → Kp prog w A E s I x R) (h2 : ¬ c → Kp prog w A E s I y R) : Kp prog w A E s I (if c then x else y) R := by
  split
  next h => exact h1 h
  next h => exact h2 h
theorem kp_imp {m : StateT σ Sem α} {R R' : α → Prop} (h : Kp prog w A E s I m R) (k : ∀ a, R a → R' a) : Kp prog w A E s I m R' := fun st i => wpS_mono (h st i) fun a _ q => ⟨q.1, k a q.2⟩
theorem kp_modify {f : σ → σ} (h : ∀ st, I st → I (f st)) : Kp prog w A E s I (modify f : StateT σ Sem PUnit) fun _ => True := fun st i => wpS_modify ⟨h st i, trivial⟩
theorem kp_get : Kp prog w A E s I (get : StateT σ Sem σ) fun st => I st := fun st i => wpS_get ⟨i, i⟩
theorem kp_rule {x : String} : Kp prog w A E s I (liftM (rule x) : StateT σ Sem PUnit) fun _ => True := fun st i => wpS_lift (wpAny_rule ⟨rfl, i, trivial⟩)
theorem kp_for {a b : Nat} {c : β} {f : Nat → β → StateT σ Sem (ForInStep β)} {R : β → Prop} (J : Nat → β → Prop)
    (step : ∀ i c, a ≤ i → i < b → J i c → Kp prog w A E s I (f i c) fun r => match r with | .done c' => R c' | .yield c' => J (i + 1) c') (fin : ∀ c, J (max a b) c → R c) (h : J a c) : Kp prog w A E s I (forIn [a:b] c f) R :=
  fun st i => wpS_forRange (I := fun n c st => I st ∧ J n c) (fun n c st h1 h2 q => wpS_mono (step n c h1 h2 q.2 st q.1) fun r st' q' => by cases r <;> exact q') (fun c st q => ⟨q.1, fin c q.2⟩) ⟨i, h⟩
end
section
variable {prog : Program} {w : World} {A : Around} {E : Value → Shared → Prop} {s : Shared}
structure SI (a₀ : Array Keyed) (st : SortSt) : Prop where
  perm : (arrOf st).Perm a₀
  kind : kindOf st = oneType'
  failed : failedOf st = none
variable {I : SortSt → Prop}
theorem kp_elem {arr : Array Keyed} {i : Nat} (h : i < arr.size) : Kp prog w A E s I (elem' arr i) fun p => arr[i]? = some p := by
  intro st q
  rw [elem'_eq, getElem?_pos arr i h]
  exact wpS_pure ⟨q, rfl⟩
def gallop' : Bool → Keyed → Array Keyed → Nat → Nat → Nat → StateT SortSt Sem (Option Nat) := sortPriv% PySem.Builtin.gallop
/-- of a the first i, of b the first j have been taken -/
def Tk (a b out : Array Keyed) (i j : Nat) : Prop := out.toList.Perm (a.toList.take i ++ b.toList.take j)
section
variable {a b out : Array Keyed} {i j k : Nat} {p : Keyed}
theorem take_more {α : Type} {l : List α} {i : Nat} {p : α} (h : l[i]? = some p) : l.take (i + 1) = l.take i ++ [p] := by
  rw [List.take_add_one, h]; rfl
theorem Tk.pushB (h : Tk a b out i j) (e : b[j]? = some p) : Tk a b (out.push p) i (j + 1) := by
  unfold Tk at h ⊢
  rw [Array.toList_push, take_more (by rw [Array.getElem?_toList]; exact e), ← List.append_assoc]
  exact h.append_right _
theorem Tk.pushA (h : Tk a b out i j) (e : a[i]? = some p) : Tk a b (out.push p) (i + 1) j := by
  unfold Tk at h ⊢
  rw [Array.toList_push, take_more (by rw [Array.getElem?_toList]; exact e)]
  refine (h.append_right _).trans ?_
  rw [List.append_assoc, List.append_assoc]
  exact List.Perm.append_left _ List.perm_append_comm
theorem part_list (xs : Array Keyed) (i k : Nat) : (xs.extract i (i + k)).toList = (xs.toList.drop i).take k := by
  rw [Array.toList_extract, List.extract_eq_take_drop, Nat.add_sub_cancel_left]
theorem Tk.runA (h : Tk a b out i j) : Tk a b (out ++ a.extract i (i + k)) (i + k) j := by
  unfold Tk at h ⊢
  rw [Array.toList_append, part_list, List.take_add]
  refine (h.append_right _).trans ?_
  rw [List.append_assoc, List.append_assoc]
  exact List.Perm.append_left _ List.perm_append_comm
theorem Tk.runB (h : Tk a b out i j) : Tk a b (out ++ b.extract j (j + k)) i (j + k) := by
  unfold Tk at h ⊢
  rw [Array.toList_append, part_list, List.take_add, ← List.append_assoc]
  exact h.append_right _
theorem rest_list (xs : Array Keyed) (i : Nat) : (xs.extract i xs.size).toList = xs.toList.drop i := by
  rw [Array.toList_extract, List.extract_eq_take_drop]
  exact List.take_of_length_le (by rw [List.length_drop, Array.length_toList]; exact Nat.le_refl _)
theorem Tk.done (h : Tk a b out i j) : (out ++ a.extract i a.size ++ b.extract j b.size).Perm (a ++ b) := by
  rw [Array.perm_iff_toList_perm, Array.toList_append, Array.toList_append, Array.toList_append, rest_list, rest_list]
  refine ((h.append_right _).append_right _).trans ?_
  have e1 := List.take_append_drop i a.toList
  have e2 := List.take_append_drop j b.toList
  generalize a.toList.take i = x at *
  generalize a.toList.drop i = y at *
  generalize b.toList.take j = u at *
  generalize b.toList.drop j = v at *
  rw [← e1, ← e2]
  simp only [List.append_assoc]
  refine List.Perm.append_left _ ?_
  rw [← List.append_assoc, ← List.append_assoc]
  exact List.perm_append_comm.append_right _
theorem Tk.last (h : Tk a b out i j) : (out ++ b.extract j b.size ++ a.extract i a.size).Perm (a ++ b) := by
  refine Array.Perm.trans ?_ h.done
  rw [Array.perm_iff_toList_perm]
  simp only [Array.toList_append, List.append_assoc]
  exact List.Perm.append_left _ List.perm_append_comm
end
def mergeLo' : Array Keyed → Array Keyed → StateT SortSt Sem (Array Keyed) := sortPriv% PySem.Builtin.mergeLo
def mergeHi' : Array Keyed → Array Keyed → StateT SortSt Sem (Array Keyed) := sortPriv% PySem.Builtin.mergeHi
theorem lo_next {i n : Nat} (h : i + 1 < n) (z : ¬ (i + 1 + 1 == n) = true) : i + 1 + 1 < n := by
  simp only [beq_iff_eq] at z
  omega
/-- of a all but the first i, of b all but the first j have been taken -/
def Th (a b out : Array Keyed) (i j : Nat) : Prop := out.toList.Perm (a.toList.drop i ++ b.toList.drop j)
section
variable {a b out : Array Keyed} {i j k : Nat} {p : Keyed}
theorem drop_less {l : List Keyed} {i : Nat} {p : Keyed} (h0 : 0 < i) (h : l[i - 1]? = some p) : l.drop (i - 1) = p :: l.drop i := by
  obtain ⟨n, rfl⟩ : ∃ n, i = n + 1 := ⟨i - 1, by omega⟩
  rw [Nat.add_sub_cancel] at h ⊢
  obtain ⟨hl, e⟩ := List.getElem?_eq_some_iff.mp h
  rw [List.drop_eq_getElem_cons hl, e]
theorem Th.pushA (h : Th a b out i j) (h0 : 0 < i) (e : a[i - 1]? = some p) : Th a b (out.push p) (i - 1) j := by
  unfold Th at h ⊢
  rw [Array.toList_push, drop_less h0 (by rw [Array.getElem?_toList]; exact e)]
  exact (h.append_right _).trans List.perm_append_comm
theorem Th.pushB (h : Th a b out i j) (h0 : 0 < j) (e : b[j - 1]? = some p) : Th a b (out.push p) i (j - 1) := by
  unfold Th at h ⊢
  rw [Array.toList_push, drop_less h0 (by rw [Array.getElem?_toList]; exact e)]
  refine ((h.append_right _).trans List.perm_append_comm).trans ?_
  rw [List.singleton_append]
  exact List.perm_middle.symm
theorem drop_part (l : List Keyed) {i k : Nat} (h : k ≤ i) : l.drop k = (l.drop k).take (i - k) ++ l.drop i := by
  have := List.take_append_drop (i - k) (l.drop k)
  rw [List.drop_drop, Nat.add_sub_cancel' h] at this
  exact this.symm
theorem Th.runA (h : Th a b out i j) (hk : k ≤ i) : Th a b (out ++ (a.extract k i).reverse) k j := by
  unfold Th at h ⊢
  refine List.Perm.trans ?_ (List.Perm.of_eq (congrArg (· ++ b.toList.drop j) (drop_part a.toList hk).symm))
  rw [Array.toList_append, Array.toList_reverse, Array.toList_extract, List.extract_eq_take_drop, List.append_assoc]
  exact ((h.append_right _).trans List.perm_append_comm).trans ((List.reverse_perm _).append_right _)
theorem Th.runB (h : Th a b out i j) (hk : k ≤ j) : Th a b (out ++ (b.extract k j).reverse) i k := by
  unfold Th at h ⊢
  refine List.Perm.trans ?_ (List.Perm.of_eq (congrArg (a.toList.drop i ++ ·) (drop_part b.toList hk).symm))
  rw [Array.toList_append, Array.toList_reverse, Array.toList_extract, List.extract_eq_take_drop]
  refine (h.append (List.reverse_perm _)).trans ?_
  rw [List.append_assoc]
  exact List.Perm.append_left _ List.perm_append_comm
theorem front_list (xs : Array Keyed) (i : Nat) : (xs.extract 0 i).toList = xs.toList.take i := by
  rw [Array.toList_extract, List.extract_eq_take_drop, List.drop_zero, Nat.sub_zero]
theorem Th.done (h : Th a b out i j) : (a.extract 0 i ++ b.extract 0 j ++ out.reverse).Perm (a ++ b) := by
  rw [Array.perm_iff_toList_perm, Array.toList_append, Array.toList_append, Array.toList_append, front_list, front_list, Array.toList_reverse]
  refine (List.Perm.append_left _ ((List.reverse_perm _).trans h)).trans ?_
  have e1 := List.take_append_drop i a.toList
  have e2 := List.take_append_drop j b.toList
  generalize a.toList.take i = x at *
  generalize a.toList.drop i = y at *
  generalize b.toList.take j = u at *
  generalize b.toList.drop j = v at *
  rw [← e1, ← e2]
  simp only [List.append_assoc]
  refine List.Perm.append_left _ ?_
  rw [← List.append_assoc, ← List.append_assoc]
  exact List.perm_append_comm.append_right _
theorem Th.first (h : Th a b out i j) : (b.extract 0 j ++ a.extract 0 i ++ out.reverse).Perm (a ++ b) := by
  refine Array.Perm.trans ?_ h.done
  rw [Array.perm_iff_toList_perm]
  simp only [Array.toList_append]
  exact List.perm_append_comm.append_right _
theorem hi_next {i : Nat} (h : 0 < i) (z : ¬ (i - 1 == 0) = true) : 0 < i - 1 := by
  simp only [beq_iff_eq] at z
  omega
theorem hi_left {j : Nat} (h : 1 < j) (z : ¬ (j - 1 == 1) = true) : 1 < j - 1 := by
  simp only [beq_iff_eq] at z
  omega
end
theorem Kp.wp {α σ : Type} {I : σ → Prop} {m : StateT σ Sem α} {R : α → Prop} {Q : α → σ → Prop} {st : σ} (h : Kp prog w A E s I m R) (i : I st) (k : ∀ a st', I st' → R a → Q a st') : wpS (model prog w) A E s m Q st := wpS_mono (h st i) fun a st' q => k a st' q.1 q.2
theorem wp_set {σ : Type} {st st' : σ} {Q : PUnit → σ → Prop} (h : Q ⟨⟩ st') : wpS (model prog w) A E s (set st' : StateT σ Sem PUnit) Q st := by
  unfold wpS
  rw [StateT.run_set]
  exact wpAny_pure ⟨rfl, h⟩
/-- a list laid over a part -/
theorem lay_list (sa : Nat) : ∀ (l : List Keyed) (j : Nat) (xs : Array Keyed), sa + j + l.length ≤ xs.size →
    ((l.zipIdx j).foldl (fun a (q : Keyed × Nat) => a.setIfInBounds (sa + q.2) q.1) xs).toList = xs.toList.take (sa + j) ++ l ++ xs.toList.drop (sa + j + l.length)
  | [], j, xs, _ => by simp
  | p :: l, j, xs, h => by
    rw [List.zipIdx_cons, List.foldl_cons]
    have n : sa + j < xs.size := by rw [List.length_cons] at h; omega
    rw [lay_list sa l (j + 1) _ (by rw [Array.size_setIfInBounds]; rw [List.length_cons] at h; omega)]
    dsimp only
    rw [Array.toList_setIfInBounds, List.length_cons, List.drop_set_of_lt (by omega), show sa + (j + 1) = sa + j + 1 by omega, List.take_set, List.take_add_one, List.set_append_right _ _ (by rw [List.length_take]; omega)]
    have z : sa + j - (xs.toList.take (sa + j)).length = 0 := by rw [List.length_take, Array.length_toList]; omega
    rw [List.getElem?_eq_getElem (by rw [Array.length_toList]; exact n), z]
    simp only [Option.toList_some, List.set_cons_zero, List.append_assoc, List.singleton_append, List.cons_append, List.nil_append]
    rw [show sa + j + 1 + l.length = sa + j + (l.length + 1) by omega]
/-- runs one behind the other, from lo to hi -/
def Rn : List (Nat × Nat × Nat) → Nat → Nat → Prop
  | [], lo, hi => lo = hi
  | (b, n, _) :: r, lo, hi => b = lo ∧ 0 < n ∧ Rn r (lo + n) hi
theorem Rn.merge : ∀ {l : List (Nat × Nat × Nat)} {i lo hi b n p b' n' p' : Nat}, Rn l lo hi → l[i]? = some (b, n, p) → l[i + 1]? = some (b', n', p') →
    b' = b + n ∧ 0 < n ∧ 0 < n' ∧ b' + n' ≤ hi ∧ Rn ((l.set i (b, n + n', p)).eraseIdx (i + 1)) lo hi
  | [], i, _, _, _, _, _, _, _, _, _, e, _ => by simp at e
  | [_], i, _, _, _, _, _, _, _, _, _, _, e => by simp at e
  | (b0, n0, p0) :: (b1, n1, p1) :: r, 0, lo, hi, b, n, p, b', n', p', h, e, e' => by
    simp only [List.getElem?_cons_zero, Option.some.injEq, Prod.mk.injEq, Nat.zero_add, List.getElem?_cons_succ] at e e'
    obtain ⟨rfl, rfl, rfl⟩ := e
    obtain ⟨rfl, rfl, rfl⟩ := e'
    obtain ⟨rfl, h1, h2, h3, h4⟩ := h
    have up : ∀ {l : List (Nat × Nat × Nat)} {lo hi : Nat}, Rn l lo hi → lo ≤ hi := by
      intro l
      induction l with
      | nil => exact fun h => Nat.le_of_eq h
      | cons q l ih =>
        intro lo hi h
        have := ih h.2.2
        have := h.2.1
        omega
    refine ⟨h2, h1, h3, by have := up h4; omega, ?_⟩
    show Rn (_ :: r) _ _
    exact ⟨rfl, by omega, by rw [← Nat.add_assoc]; exact h4⟩
  | (b0, n0, p0) :: (b1, n1, p1) :: r, i + 1, lo, hi, b, n, p, b', n', p', h, e, e' => by
    obtain ⟨h1, h2, h3⟩ := h
    obtain ⟨x1, x2, x3, x4, x5⟩ := Rn.merge (l := (b1, n1, p1) :: r) h3 (by simpa using e) (by simpa using e')
    exact ⟨x1, x2, x3, x4, h1, h2, x5⟩
theorem laid_perm {xs m : Array Keyed} {b c e : Nat} (h1 : b ≤ c) (h2 : c ≤ e) (h3 : e ≤ xs.size) (hp : m.Perm (xs.extract b c ++ xs.extract c e)) :
    (m.toList.zipIdx.foldl (fun a (q : Keyed × Nat) => a.setIfInBounds (b + q.2) q.1) xs).Perm xs := by
  have hp := Array.perm_iff_toList_perm.mp hp
  rw [Array.toList_append, Array.toList_extract, Array.toList_extract, List.extract_eq_take_drop, List.extract_eq_take_drop] at hp
  have hl : m.toList.length = e - b := by
    rw [hp.length_eq]
    simp only [List.length_append, List.length_take, List.length_drop, Array.length_toList]
    omega
  rw [Array.perm_iff_toList_perm, lay_list b m.toList 0 xs (by rw [hl]; omega), hl, Nat.add_zero, show b + (e - b) = e by omega]
  refine ((hp.append_left _).append_right _).trans (List.Perm.of_eq ?_)
  rw [List.append_assoc, List.append_assoc, ← drop_part _ h2, ← drop_part _ h1, List.take_append_drop]
structure SR (a₀ : Array Keyed) (hi : Nat) (st : SortSt) : Prop extends SI a₀ st where
  runs : Rn (pendingOf st).toList 0 hi
  fits : hi ≤ a₀.size
variable {a₀ : Array Keyed} {hi : Nat}
theorem Rn.push : ∀ {l : List (Nat × Nat × Nat)} {lo hi n p : Nat}, Rn l lo hi → 0 < n → Rn (l ++ [(hi, n, p)]) lo (hi + n)
  | [], lo, hi, n, p, h, hn => ⟨(show lo = hi from h).symm, hn, by rw [show lo = hi from h]; rfl⟩
  | (b, m, q) :: r, lo, hi, n, p, h, hn => ⟨h.1, h.2.1, Rn.push h.2.2 hn⟩
theorem Rn.power {pw : Nat} : ∀ {l : List (Nat × Nat × Nat)} {i lo hi : Nat}, Rn l lo hi → Rn (l.modify i fun q => (q.1, q.2.1, pw)) lo hi
  | [], _, _, _, h => by simpa using h
  | (b, m, q) :: r, 0, _, _, h => ⟨h.1, h.2.1, h.2.2⟩
  | (b, m, q) :: r, i + 1, _, _, h => ⟨h.1, h.2.1, Rn.power h.2.2⟩
theorem wp_ite {α σ : Type} {c : Prop} [Decidable c] {x y : StateT σ Sem α} {Q : α → σ → Prop} {st : σ} (h1 : c → wpS (model prog w) A E s x Q st) (h2 : ¬ c → wpS (model prog w) A E s y Q st) : wpS (model prog w) A E s (if c then x else y) Q st := by
  split
  next h => exact h1 h
  next h => exact h2 h
theorem SR.push {st : SortSt} {n : Nat} (S : SR a₀ hi st) (h1 : 0 < n) (h2 : hi + n ≤ a₀.size) : SR a₀ (hi + n) (setPending st ((pendingOf st).push (hi, n, 0))) :=
  ⟨⟨S.perm, S.kind, S.failed⟩, by
    show Rn ((pendingOf st).push (hi, n, 0)).toList 0 (hi + n)
    rw [Array.toList_push]
    exact S.runs.push h1, h2⟩
end
end Ts


set_option Elab.async false
set_option linter.all false
set_option maxRecDepth 100000
set_option maxHeartbeats 2000000
namespace L2
open PySem PySem.Spec PyProof.Rows
/-! ### sorted(d), d a dict with int keys, of any size: the keys, in some order -/
section
variable {prog : Program} {w : World} {A : Around} {E : Value → Shared → Prop} {s : Shared}
end
end L2


set_option Elab.async false
set_option linter.all false
set_option maxRecDepth 100000
set_option maxHeartbeats 2000000
namespace L2
open PySem PySem.Spec PyProof.Rows Tw
section
variable {X : Cx}
/-! ### list(range(n)); sorted(l) of ints, however many -/
end
end L2


set_option Elab.async false
set_option linter.all false
set_option maxRecDepth 100000
set_option maxHeartbeats 2000000
namespace L2
open PySem PySem.Spec PyProof.Rows Tw
/-! ### a dict whose keys are tuples: setdefault, len -/
section
variable {prog : Program} {w : World} {κ : Type} [DecidableEq κ] {knd : HeapKind prog w κ} {A : Around} {E : Value → Shared → Prop} {s : Shared}
theorem default_heap {d a : Addr} {xs : List (κ × Addr × Value)} {k : κ} {v : Value} {Q : Value → Shared → Prop} (hu : knd.room A) (hkey : knd.is s.heap k a) (hm : s.heap.DictOfH knd d xs) (hz : xs.length ≤ sizeLine)
    (h1 : ∀ p, atKey xs k = some p → Q p.2 { s with toks := s.toks + knd.draws k })
    (h2 : atKey xs k = none → ∀ h', h'.DictOfH knd d (storedH xs k a v) → Heap.SameBut d s.heap h' → Q v { s with heap := h', toks := s.toks + knd.draws k }) : wpAny (model prog w) A (dictSetDefault d (.ref a) v) Q E s := by
  obtain ⟨o, es, ep, ho, hc, hd, he, his, hn⟩ := id hm
  have hes : es.size ≤ sizeLine := by rw [size_of_entries he]; exact hz
  refine wpAny_holding (wpAny_bind (knd.pyHash hu hkey (wpAny_bind (wpAny_dictFind_heap (s := { s with toks := s.toks + knd.draws k }) hu hkey ho hd he his hn (fun no => ?_) fun j p hj => ?_))))
  · have none_ := atKey_none_of_get no
    have fresh := not_mem_keys_of_get no
    refine wpAny_bind (wpAny_rule (wpAny_bind (wpAny_updateDictKeys (hz := by omega) (s := { s with toks := s.toks + knd.draws k }) ho hd (wpAny_pure (h2 none_ _ ?_ (Heap.SameBut.update ..))))))
    rw [storedH_new none_]
    have kp : ∀ (f : Obj → Obj) {x : κ} {b : Addr}, knd.is s.heap x b → knd.is (s.heap.update d f) x b := fun f _ _ q => knd.keeps q ho hd (Heap.SameBut.update ..)
    refine ⟨_, _, ep + 1, Heap.get?_update_self _ ho (Obj.isFreed_of_dict (Obj.data_mapDictKeys hd _)), hc.mapDictKeys _, Obj.data_mapDictKeys hd _, by simp [he, entryOfKey], fun x hx => ?_, ?_⟩
    · rcases List.mem_append.mp hx with hx | hx
      · exact kp _ (his x hx)
      · cases List.mem_singleton.mp hx
        exact kp _ hkey
    · rw [List.map_append]
      refine List.nodup_append.mpr ⟨hn, by simp, fun x hx y hy e => fresh ?_⟩
      rw [List.map_singleton, List.mem_singleton] at hy
      rw [← show x = k from e.trans hy]
      exact hx
  · refine wpAny_bind (wpAny_dictEntries (s := { s with toks := s.toks + knd.draws k }) ho hd ?_)
    rw [entry_at he j, hj]
    exact wpAny_bind (wpAny_rule (wpAny_pure (h1 p (atKey_of_get hn hj))))
end
def tDSdT (td ty tx : TE) : TE := fun σ H Q => td σ H fun x H1 => ∃ a, x = .ref a ∧ IsD H1 a ∧ ty σ H1 fun y H2 => tx σ H2 fun z H3 => ∃ kvs k b, H3 a = some (.dT kvs) ∧ y = .ref b ∧ H3 b = some (.tup (k.map kV)) ∧
  (∀ v, valV kvs k = some v → Q v H3) ∧ (valV kvs k = none → kvs.length < sizeLine ∧ Q z (upd H3 a (.dT (putK kvs k z))))
section
variable {X : Cx} {o e f : Expr} {apos cpos : Pos} {td ty tx : TE}
theorem pe_dsdT (hu : X.A.units + 2 < cLine) (ho : PE X o td) (he : PE X e ty) (hf : PE X f tx) (m : M2 X o "setdefault" apos e f cpos) : PE X (.Call (.Attribute o "setdefault" apos) [e, f] [] cpos) (tDSdT td ty tx) := by
  intro pins s σ H Q I h
  refine wpAny_Call_method m.base m.few m.line PySem.F.plainAttrs_dict PySem.F.slot_dict_setdefault PySem.F.type_dict_setdefault (thn (ho pins s σ H _ I h) fun u s1 ⟨x, H1, I1, rx, a, ex, d, q1⟩ => ?_)
  subst ex
  obtain rfl : u = Value.ref a := rx
  obtain ⟨t1, t2, _⟩ := isD_at I1 d
  refine ⟨t1, t2, ?_⟩
  rw [m.trees]
  refine Calls.callWith_builtin rfl (Calls.evalArgs_plain (Calls.spliced_cons (thn (he pins s1 σ H1 _ I1 q1) fun iv s2 ⟨y, H2, I2, ry, q2⟩ =>
    Calls.spliced_cons (thn (hf pins s2 σ H2 _ I2 q2) fun fv s3 ⟨z, H3, I3, rz, kvs, k, b, ea, ey, eb, q3, q4⟩ => Calls.spliced_nil ?_))))
  subst ey
  obtain rfl : iv = Value.ref b := ry
  obtain ⟨hz, hd, xs, rel, dd⟩ := dt_of I3.hok ea
  have rv := rel.val k
  have lz : xs.length ≤ sizeLine := by rw [← Paired.length rel]; exact hz
  refine wpAny_call_entry PySem.F.slot_dict_setdefault dd.typeIs PySem.F.entry_dict_setdefault ?_ (PySem.F.args_dict_setdefault_3 _ _ _)
  refine wpAny_bind (wpAny_bind (wpAny_notOrdered_dict dd.typeIs (wpAny_pure ?_)))
  show wpAny _ _ (if (a == sysModules) = true then _ else (dictSetDefault a (.ref b) fv >>= _)) _ _ s3
  rw [if_neg (by rw [hd]; exact Bool.false_ne_true)]
  refine wpAny_bind (default_heap (knd := tupleKind (mixKind X.prog X.w)) (tupleKind_room_in1 (show X.A.units + 1 < cLine by omega)) (key_of I3.hok eb) dd lz (fun p hp => wpAny_pure ⟨_, rfl, ?_⟩) fun hp h' dd' hs => wpAny_pure ⟨_, rfl, ?_⟩)
  · cases l : valV kvs k with
    | none => rw [l, hp] at rv; exact rv.elim
    | some v => rw [l, hp] at rv; exact ⟨v, H3, I3.tok _, rv, q3 v l⟩
  · cases l : valV kvs k with
    | some v => rw [l, hp] at rv; exact rv.elim
    | none =>
      obtain ⟨hl, q5⟩ := q4 l
      have hl2 : (putK kvs k z).length ≤ sizeLine := by have := length_putK kvs k z; omega
      obtain ⟨q, es, ep, hq, h2, h3, h4, _, h5⟩ := dd'
      refine ⟨z, _, d_write (ob := .dT (putK kvs k z)) I3 (by rw [ea]; exact True.intro) hs ⟨q, hq⟩ ⟨hl2, hd, _, (rel.put k eb rz).keeps fun c ys ec => ?_, q, es, ep, hq, h2, h3, h4, h5⟩, rz, q5⟩
      rw [upd_ne (ne_of ec ea (fun z => nomatch z))]
      exact ec
theorem call_lenT : CallR X (.builtin "len") (fun xs H Q => ∃ a kvs, xs = [V.ref a] ∧ H a = some (.dT kvs) ∧ Q (.int kvs.length) H) := by
  intro pins s σ H xs us Q I r h
  obtain ⟨a, kvs, rfl, ha, q⟩ := h
  obtain ⟨u, rfl, ru⟩ := vals1 r
  cases ru
  obtain ⟨hz, hd, xs, rel, dd⟩ := dt_of I.hok ha
  have len : kvs.length = xs.length := Paired.length rel
  obtain ⟨o, es, ep, ho, hc, hdat, he, _⟩ := id dd
  refine call_len_slot (n := (kvs.length : Int)) dd.typeIs PySem.F.slot_dict_len (fun Q' hq => ?_) (by omega) (by rw [sizeLine_eq] at hz; omega) ⟨.int kvs.length, H, I.tok _, ⟨_, rfl⟩, q⟩
  refine wpAny_call_entry PySem.F.slot_dict_len dd.typeIs PySem.F.entry_dict_len ?_ (PySem.F.args_dict_len_1 _)
  show wpAny _ _ (dictSize a >>= _) _ _ s
  refine wpAny_bind (wpAny_bind (wpAny_dictEntries ho hdat (wpAny_pure ?_)))
  show wpAny _ _ (Builtin.Dict.pendingCount a >>= _) _ _ s
  refine wpAny_bind (wpAny_pendingCount_other hd (wpAny_ret_mkInt ?_))
  rw [Nat.add_zero, size_of_entries he, ← len]
  exact hq
end
theorem pe_no {X : Cx} {e : Expr} : PE X e (fun _ _ _ => False) := fun _ _ _ _ _ _ h => h.elim
/-! ### for x in d.values(), d empty -/
section
variable {X : Cx}
def Itn (a : Addr) (o : Obj) : It := ⟨fun _ _ => False, fun _ _ _ _ => False, fun i H => i = 0 ∧ H a = some (.frz o (.dK []))⟩
theorem turn_none {P : Program} {w : World} {K : PySem.W.Frag} {tg : Expr} {o : Obj} {es : Array DictEntry} {ep : Nat} (a it : Addr) (ho : o.data = .dict es ep) :
    Turn P w K tg (Itn a o) [it] it (fun i h => h.IsValIter it a i 0 ep) where
  mem := by simp
  obj := fun i h st b hb => by
    cases List.mem_singleton.mp hb
    obtain ⟨ob, e, c, d⟩ := st
    exact ⟨ob, e, fun v z => by rw [d] at z; cases z⟩
  keep := fun i h h' st k => st.at fun o e => k it (by simp) o e
  item := fun _ _ _ _ _ _ _ _ _ _ _ _ _ _ hg => hg.elim
  done := by
    intro X hP hw hK hc i pins s σ H E I hf st hg
    subst hP hw hK
    obtain ⟨rfl, hH⟩ := hg
    obtain ⟨eo, hz, hs, vs, kv, od⟩ := I.hok a _ hH
    cases kv
    obtain ⟨ob, es', ep', e', ex, d', r⟩ := id od
    rw [eo] at e'; cases e'
    rw [ho] at d'; cases d'
    have at' : s.heap.DictAt (mixKind X.prog X.w) a [] ep := ⟨o, es, eo, ex, ho, r⟩
    obtain ⟨f0, f1, f2, f3, f4, f5⟩ := hf it (by simp)
    exact wpAny_pyNext_values_end (I.ok.hd hc) st at' (by simp) fun h' eb => ⟨rfl, I.turned (t' := s.toks) (fun b o hb e => eb b o hb e) f0 f1 f3 f4 f5⟩
  self := fun _ _ _ _ _ st h => wpAny_pyIter_valiter st h
def iVals0 (td : TE) : TI := fun σ H R => td σ H fun x H1 => ∃ a, x = .ref a ∧ H1 a = some (.dK []) ∧ ∀ o H2, Ext H1 H2 → H2 a = some (.frz o (.dK [])) → R (Itn a o) H2
theorem pi_vals0 {l tg : Expr} {td : TE} {apos cpos : Pos} (hl : PE X l td) (hbase : attributeBase l "values" X.env (eval l X.env) = eval l X.env := by rfl) (hline : (apos.endLine == cpos.line) = true := by rfl) : PI X tg (.Call (.Attribute l "values" apos) [] [] cpos) (iVals0 td) := by
  intro pins s σ H R I h
  refine wpAny_Call_method0_late hbase hline (thn (hl pins s σ H _ I h) fun v s1 ⟨x, H1, I1, r1, a, ex, hH, q⟩ => ?_)
  subst ex
  cases r1
  obtain ⟨_, hd, vs, kv, od⟩ := I1.hok a _ hH
  cases kv
  obtain ⟨o, es, ep, eo, hc, hdat, r⟩ := id od
  have x2 : Ext H1 (upd H1 a (.frz o (.dK []))) := fun b u z => by
    by_cases hb : b = a
    · subst hb
      rw [hH] at z
      cases z
      exact .inr ⟨⟨_, rfl⟩, o, upd_same⟩
    · exact .inl (by rw [upd_ne hb]; exact z)
  have I2 := I1.shut hH eo
  refine ⟨"dict", _, PySem.F.plainAttrs_dict, PySem.F.slot_dict_values, PySem.F.type_dict_values, od.typeIs, fun b z => ?_, Calls.callWith_builtin rfl (PySem.evalArgs_none ?_)⟩
  · cases z
    exact ⟨o, eo, hc.2.1⟩
  · refine call_meetsIn PySem.F.slot_dict_values od.typeIs PySem.F.entry_dict_values (PySem.F.args_dict_values_1 _) (meets_dict_values (mixKind X.prog X.w) a hd) ⟨⟨[], od⟩, ?_⟩
    have at1 : (s1.heap.push { cls := .type "dict_values", data := .fields #[.ref a] }).DictAt (mixKind X.prog X.w) a [] ep := ⟨o, es, Heap.get?_push_of_some _ eo, hc, hdat, r⟩
    refine wpAny_pyIter_values (s := { s1 with heap := s1.heap.push { cls := .type "dict_values", data := .fields #[.ref a] } }) (d := a) ⟨_, Heap.get?_push_size _ rfl, rfl, rfl⟩ at1 ?_
    have le : s1.heap.objs.size ≤ (s1.heap.push { cls := .type "dict_values", data := .fields #[.ref a] }).objs.size := by rw [Heap.size_push]; exact Nat.le_succ _
    refine ⟨_, [(s1.heap.push { cls := .type "dict_values", data := .fields #[.ref a] }).objs.size], _, _, upd H1 a (.frz o (.dK [])), rfl, I2.kept (t' := s1.toks) fun b o e => Heap.get?_push_of_some _ (Heap.get?_push_of_some _ e), turn_none (es := es) (ep := ep) a _ hdat, ⟨_, Heap.get?_push_size _ rfl, rfl, rfl⟩, fun b hb => ?_, q o _ x2 upd_same⟩
    cases List.mem_singleton.mp hb
    exact I2.fpOk le (I2.hok.fresh le)
end
end L2


set_option Elab.async false
set_option linter.all false
set_option maxRecDepth 100000
set_option maxHeartbeats 2000000
namespace L2
open PySem PySem.Spec PyProof.Rows Tw
seal PSs PS PE PT PW PA PG PGs PI PC
theorem ixN_nat {n m : Nat} (h : m < n) : ixN n (m : Int) = some m := by
  unfold ixN
  rw [if_pos (by omega), if_pos (by omega)]
  simp
/-- all that the dict holds are ints -/
def IntVals {κ : Type} [DecidableEq κ] (kvs : List (κ × V)) : Prop := ∀ k v, valV kvs k = some v → ∃ n : Int, v = .int n
theorem IntVals.put {κ : Type} [DecidableEq κ] {kvs : List (κ × V)} (h : IntVals kvs) (k : κ) (n : Int) : IntVals (putK kvs k (.int n)) := fun j v e => by
  rw [valV_put] at e
  split at e
  · cases e
    exact ⟨n, rfl⟩
  · exact h j v e
section
variable {P : Program} {w : World} {K : PySem.W.Frag} {mg : Str → Option Value} {base : Heap}
/-! ### rest_numbers: it comes to an end, a new list -/
def spRestNo : Sp := fun vs H Q _ => ∃ (a : Addr) (ws : List W), vs = [.ref a] ∧ CodeL H a ws ∧ ws.length < 64 ∧ (∀ x ∈ ws, x.length ≤ 100) ∧ ∀ D zs H', H D = none → Ext H H' → H' D = some (.lst zs) → Q (.ref D) H'
theorem ok_rest_numbers (D : Def K mg "rest_numbers" "rest_numbers" Pl.s_rest_numbers ["code"]) (B : Bare mg) (hE : ∃ t, mg "EMPTY" = some (.int 0 t)) : Cal P w K mg base CX0 1 "rest_numbers" ["code"] spRestNo := by
  have sc : FnScope ["code", "numbers", "rows", "word", "row", "mark"] ["code"] (defScope Pl.s_rest_numbers) := ⟨rfl, rfl, rfl, by decide +kernel, rfl, by decide +kernel, by decide +kernel⟩
  obtain ⟨tE, hE⟩ := hE
  refine D.cal fun f fd F => F.ok sc (fun vs H Q E h => ?_) (fun cdv A outer s H vs Q E hr h => ?_)
  · obtain ⟨_, _, rfl, _⟩ := h
    rfl
  · obtain ⟨a, ws, rfl, hC, h64, hsh, k⟩ := h
    have hu2 : _ + 2 < cLine := Nat.lt_of_le_of_lt (Nat.add_le_add_left (by decide : 2 ≤ 64) _) hr.units
    refine ⟨_, pss_cons (ps_set (i := 1) sc.nd rfl (Or.inl rfl) pe_dnewT)
      (pss_cons (ps_set (i := 2) sc.nd rfl (Or.inl rfl) (pe_lst pa_nil))
      (pss_cons (ps_for PassesOwn.never rfl (pi_list (pv 0)) (pg_name (i := 3) sc.nd rfl (Or.inl rfl))
        (pss_cons (ps_set (i := 4) sc.nd rfl (Or.inl rfl) (pe_op op_rep (pe_lst (pa_cons (pe_glob (v := .int 0) (by rfl) hE ⟨tE, rfl⟩) pa_nil)) (pe_op op_add (pe_callB call_len_str (by rfl) B.len PySem.boot_len (pa_cons (pv 3) pa_nil)) pe_int)))
        (pss_cons (ps_for PassesOwn.never rfl (pi_down (by rfl) B.range (pa_cons (pe_op op_sub (pe_callB call_len_str (by rfl) B.len PySem.boot_len (pa_cons (pv 3) pa_nil)) pe_int) (pa_cons (pe_un un_neg pe_int) (pa_cons (pe_un un_neg pe_int) pa_nil)))) (pg_name (i := 5) sc.nd rfl (Or.inl rfl))
          (pss_one (ps_asg (pe_dsdT hu2 (pv 1) (pe_tup (pa_cons (pe_ix (r := rIxL K) ix_list (pv 4) (pe_op op_add (pv 5) pe_int) (fun _ _ => rfl)) (pa_cons (pe_ix (r := rIxS) ix_str (pv 3) (pv 5) (fun _ _ => rfl)) pa_nil)))
            (pe_op op_add (pe_callB call_lenT (by rfl) B.len PySem.boot_len (pa_cons (pv 1) pa_nil)) pe_int) ⟨rfl, rfl, rfl, rfl⟩) (pg_sub (pv 4) (pv 5) set_list))))
        (pss_one (ps_expr (pe_bm PySem.F.plainAttrs_list PySem.F.slot_list_append PySem.F.type_list_append mt_append (pv 2) (pa_cons (pv 4) pa_nil)))))))
      (pss_one (ps_ret (pv 2))))), ?_⟩
    intro nm hnm
    have x1 : Ext H (upd H nm (.dT [])) := Ext.new hnm
    refine ⟨by show 0 ≤ sizeLine; exact Nat.zero_le _, fun rw_ hrw => ?_⟩
    have x2 : Ext H (upd (upd H nm (.dT [])) rw_ (.lst [])) := x1.newer hrw
    have hrw0 : H rw_ = none := x1.free hrw
    have nr : nm ≠ rw_ := ne_of_none upd_same hrw
    refine ⟨_, rfl, a, rfl, ⟨_, SqL.of (hC.ext x2).at_⟩, ?_⟩
    refine for_list (K := K) (a := a) (xs := ws.map sv) (fun i σ H2 => ∃ (kvs : List (List Key × V)) (zs : List V) (wd row mk : Option V), σ = [some (.ref a), some (.ref nm), some (.ref rw_), wd, row, mk] ∧ Ext H H2 ∧ H2 nm = some (.dT kvs) ∧ H2 rw_ = some (.lst zs) ∧ zs.length = i ∧ kvs.length ≤ 100 * i ∧ IntVals kvs)
      ⟨[], [], none, none, none, rfl, x2, upd_keep upd_same hrw, upd_same, rfl, Nat.zero_le _, fun k v e => by simp [valV] at e⟩ (fun i σ H2 _ h => let ⟨_, _, _, _, _, _, x, _⟩ := h; SqL.of (hC.ext x).at_) ?_ ?_
    · rintro i y σ H2 hy ⟨kvs, zs, wd, row, mk, rfl, xH, hn2, hr2, hzl, hkl, hiv⟩
      rw [List.getElem?_map] at hy
      obtain ⟨x, hx, rfl⟩ := Option.map_eq_some_iff.mp hy
      have hxm : x ∈ ws := List.mem_of_getElem? hx
      have hxl := hsh x hxm
      have hil : i < ws.length := (List.getElem?_eq_some_iff.mp hx).1
      have hsz : (st x).length ≤ sizeLine := by rw [st_len]; exact small_line (by omega)
      refine ⟨by show 1 ≤ sizeLine; decide, fun l0 hl0 => ?_⟩
      have x3 := xH.newer (o := HO.lst [V.int 0]) hl0
      have hn3 := upd_keep (u := HO.lst [V.int 0]) hn2 hl0
      have hr3 := upd_keep (u := HO.lst [V.int 0]) hr2 hl0
      refine ⟨_, rfl, st x, rfl, hsz, _, _, rfl, rfl, l0, _, _, rfl, rfl, upd_same, by omega, by rw [st_len]; omega, ?_, fun rp hrp => ?_⟩
      · rw [st_len]
        refine small_line ?_
        show 1 * ((x.length : Int) + 1).toNat ≤ 1000000
        omega
      have erow : (List.replicate (((st x).length : Int) + 1).toNat [V.int 0]).flatten = (List.replicate (x.length + 1) (0 : Int)).map V.int := by
        rw [st_len, show ((x.length : Int) + 1).toNat = x.length + 1 by omega]
        generalize x.length + 1 = m
        induction m with
        | zero => rfl
        | succ m ih => rw [List.replicate_succ, List.flatten_cons, ih, List.replicate_succ]; rfl
      rw [erow] at *
      have x4 := x3.newer (o := HO.lst ((List.replicate (x.length + 1) (0 : Int)).map V.int)) hrp
      have hn4 := upd_keep (u := HO.lst ((List.replicate (x.length + 1) (0 : Int)).map V.int)) hn3 hrp
      have hr4 := upd_keep (u := HO.lst ((List.replicate (x.length + 1) (0 : Int)).map V.int)) hr3 hrp
      have hrp0 : H rp = none := x3.free hrp
      have npr : nm ≠ rp := ne_of_none hn3 hrp
      have nrr : rw_ ≠ rp := ne_of_none hr3 hrp
      refine ⟨_, rfl, st x, rfl, hsz, _, _, rfl, rfl, _, rfl, _, rfl, _, _, rfl, by rw [st_len]; omega, ?_⟩
      have en : ((((st x).length : Nat) : Int) - 1 - -1).toNat = x.length := by rw [st_len]; omega
      rw [en]
      refine for_down (fun j σ H4 => ∃ (kvs : List (List Key × V)) (ns : List Int) (mk : Option V), σ = [some (.ref a), some (.ref nm), some (.ref rw_), some (sv x), some (.ref rp), mk] ∧ Ext H H4 ∧ H4 nm = some (.dT kvs) ∧ H4 rw_ = some (.lst zs) ∧ H4 rp = some (.lst (ns.map V.int)) ∧ ns.length = x.length + 1 ∧ kvs.length ≤ 100 * i + j ∧ IntVals kvs)
        ⟨kvs, _, _, rfl, x4, hn4, hr4, upd_same, by simp, by omega, hiv⟩ ?_ ?_
      · rintro j σ H4 hj ⟨kvs, ns, mk, rfl, x5, hn5, hr5, hp5, hnl, hkl, hiv⟩
        rw [st_len]
        have em : (x.length : Int) - 1 - (j : Int) = ((x.length - 1 - j : Nat) : Int) := by omega
        rw [em]
        generalize hm : x.length - 1 - j = m
        have lm : m < x.length := by omega
        obtain ⟨c, hc⟩ : ∃ c, x[m]? = some c := ⟨_, List.getElem?_eq_getElem lm⟩
        obtain ⟨r, hr'⟩ : ∃ r, ns[m + 1]? = some r := ⟨_, List.getElem?_eq_getElem (by omega)⟩
        refine ⟨_, rfl, nm, rfl, .inr ⟨_, .inl hn5⟩, ?_⟩
        refine ⟨_, rfl, _, rfl, _, _, rfl, rfl, rp, _, ((m + 1 : Nat) : Int), V.int r, rfl, by simp, SqL.of hp5, atI_nat (by rw [List.getElem?_map, hr']; rfl), ?_⟩
        refine ⟨_, rfl, _, rfl, st x, _, c, rfl, rfl, hsz, atI_nat hc, by show 2 ≤ sizeLine; decide, fun b hb => ?_⟩
        have x6 := x5.newer (o := HO.tup [V.int r, V.str ⟨#[c]⟩]) hb
        have hn6 := upd_keep (u := HO.tup [V.int r, V.str ⟨#[c]⟩]) hn5 hb
        have hr6 := upd_keep (u := HO.tup [V.int r, V.str ⟨#[c]⟩]) hr5 hb
        have hp6 := upd_keep (u := HO.tup [V.int r, V.str ⟨#[c]⟩]) hp5 hb
        have set_ : ∀ n : Int, (ns.map V.int).set m (.int n) = (ns.set m n).map V.int := fun n => by rw [List.map_set]
        refine ⟨_, rfl, nm, kvs, rfl, hn6, _, _, rfl, rfl, kvs, [.inl r, .inr ⟨#[c]⟩], b, hn6, rfl, upd_same, fun v hv => ?_, fun _ => ⟨small1000000 (by omega), ?_⟩⟩
        · obtain ⟨n, rfl⟩ := hiv _ _ hv
          refine ⟨_, rfl, _, rfl, rp, _, _, m, rfl, rfl, hp6, ixN_nat (by rw [List.length_map]; omega), ⟨kvs, ns.set m n, _, rfl, x6.over hrp0, upd_k hn6 npr, upd_k hr6 nrr, by rw [upd_same, set_], by rw [List.length_set]; exact hnl, by omega, hiv⟩⟩
        · have hp7 := upd_k (u := HO.dT (putK kvs [.inl r, .inr ⟨#[c]⟩] (.int ((kvs.length : Int) + 1)))) hp6 npr.symm
          have hr7 := upd_k (u := HO.dT (putK kvs [.inl r, .inr ⟨#[c]⟩] (.int ((kvs.length : Int) + 1)))) hr6 nr.symm
          refine ⟨_, rfl, _, rfl, rp, _, _, m, rfl, rfl, hp7, ixN_nat (by rw [List.length_map]; omega), ⟨putK kvs [.inl r, .inr ⟨#[c]⟩] (.int ((kvs.length : Int) + 1)), ns.set m ((kvs.length : Int) + 1), _, rfl, (x6.over hnm).over hrp0, upd_k upd_same npr, upd_k hr7 nrr, by rw [upd_same, set_], by rw [List.length_set]; exact hnl, ?_, hiv.put _ _⟩⟩
          have := length_putK kvs [.inl r, .inr ⟨#[c]⟩] (.int ((kvs.length : Int) + 1))
          omega
      · rintro σ H4 ⟨kvs, ns, mk, rfl, x5, hn5, hr5, hp5, hnl, hkl, hiv⟩
        refine ⟨_, rfl, .inl ⟨rfl, _, SqL.of hr5⟩, _, rfl, rw_, _, _, rfl, rfl, hr5, by rw [hzl]; exact small1000000 (by omega), ?_⟩
        exact ⟨kvs, zs ++ [.ref rp], _, _, _, rfl, x5.over hrw0, upd_k hn5 nr, upd_same, by rw [List.length_append, hzl]; rfl, by omega, hiv⟩
    · rintro σ H2 ⟨kvs, zs, wd, row, mk, rfl, xH, hn2, hr2, _⟩
      exact ⟨_, rfl, k rw_ zs H2 hrw0 xH hr2⟩
end
end L2


set_option Elab.async false
set_option linter.all false
set_option maxRecDepth 100000
set_option maxHeartbeats 2000000
namespace L2
open PySem PySem.Spec PyProof.Rows Tw
seal PSs PS PE PT PW PA PG PGs PI PC
/-- no word begins another one, nor is one at two places -/
def NoPre (ws : List W) : Prop := ∀ i j, i < ws.length → j < ws.length → (ws.getD i []).isPrefixOf (ws.getD j []) = true → i = j
theorem XP.rdK {P a : Addr} {H H1 : Hp} {kvs : List (Key × V)} (x : XP P H H1) (h : Rd H a (.dK kvs)) : Rd H1 a (.dK kvs) := by
  rcases h with h | ⟨ob, h⟩
  · rcases x.ext a _ (x.ne h (fun _ z => nomatch z)) h with h1 | ⟨_, ob, h1⟩
    · exact .inl h1
    · exact .inr ⟨ob, h1⟩
  · exact .inr ⟨ob, x.keep h (fun _ e => nomatch e) fun _ e => nomatch e⟩
theorem XP.gr {P g : Addr} {H H1 : Hp} {ws : List W} {d : Nat → Addr} {f : W → Addr} (x : XP P H H1) (G : GR H g ws d f) : GR H1 g ws d f := ⟨x.rdK G.gd, fun n hn => x.rdK (G.inn n hn), fun y hy => x.lst (G.lst y hy)⟩
theorem NoPre.only {ws : List W} (h : NoPre ws) {i n : Nat} (hi : i < ws.length) (hn : n ∈ standL ws (ws.getD i []) 0) : ∃ rest, placesOf ws (cut (ws.getD i []) 0 n) = i :: rest ∧ cut (ws.getD i []) 0 n ∈ ws := by
  obtain ⟨h1, _, _⟩ := (mem_standL ws _ 0 n (Nat.zero_le _)).mp hn
  have pre : ∀ j, ws[j]? = some (cut (ws.getD i []) 0 n) → j = i := fun j hj => by
    have lj : j < ws.length := (List.getElem?_eq_some_iff.mp hj).1
    refine h j i lj hi ?_
    rw [List.getD_eq_getElem?_getD (l := ws) (i := j), hj, Option.getD_some, cut, List.drop_zero, List.isPrefixOf_iff_prefix]
    exact List.take_prefix _ _
  obtain ⟨j, hj⟩ := List.mem_iff_getElem?.mp h1
  have hm : j ∈ placesOf ws (cut (ws.getD i []) 0 n) := (mem_placesOf ws _ j).mpr hj
  cases e : placesOf ws (cut (ws.getD i []) 0 n) with
  | nil => rw [e] at hm; cases hm
  | cons a rest =>
    have : a = i := pre a ((mem_placesOf ws _ a).mp (by rw [e]; exact List.mem_cons_self))
    exact ⟨rest, by rw [this], h1⟩
section
variable {P : Program} {w : World} {K : PySem.W.Frag} {mg : Str → Option Value} {base : Heap} {T cCode cT : Addr}
def spFirst0 : Sp := fun vs H Q _ => ∃ (a g : Addr) (ws : List W) (d : Nat → Addr) (f : W → Addr) (i : Nat), vs = [.ref a, .ref g, .int (i : Int)] ∧ CodeL H a ws ∧ GR H g ws d f ∧ i < ws.length ∧ NoPre ws ∧
  ∀ D H', H D = none → Ext H H' → (∀ b o, b ≠ g → H b = some o → H' b = some o) → H' D = some (.lst []) → Q (.ref D) H'
theorem ok_first_rests (D : Def K mg "first_rests" "first_rests" Pl.s_first_rests ["code", "groups", "place"]) (CS : Cal P w K mg base CX0 1 "standing" ["groups", "text", "mark"] (spStanding K)) : Cal P w K mg base CX0 2 "first_rests" ["code", "groups", "place"] spFirst0 := by
  have sc : FnScope ["code", "groups", "place", "found", "mark", "places"] ["code", "groups", "place"] (defScope Pl.s_first_rests) := ⟨rfl, rfl, rfl, by decide +kernel, rfl, by decide +kernel, by decide +kernel⟩
  refine D.cal fun f fd F => F.ok sc (fun vs H Q E h => ?_) (fun cdv A outer s H vs Q E hr h => ?_)
  · obtain ⟨_, _, _, _, _, _, rfl, _⟩ := h
    rfl
  · obtain ⟨a, g, ws, d, f, i, rfl, hC, G, hi, hN, k⟩ := h
    refine ⟨_, pss_cons (ps_set (i := 3) sc.nd rfl (Or.inl rfl) (pe_lst pa_nil))
      (pss_cons (ps_for PassesOwn.never rfl (pi_list (pe_callF CS hr (pa_cons (pv 1) (pa_cons (pe_ix (r := rIxL K) ix_list (pv 0) (pv 2) (fun _ _ => rfl)) (pa_cons pe_int pa_nil))) pass0))
        (pg_tupK (K := K) (n := 2) rfl rfl (pgs_cons (pg_name (i := 4) sc.nd rfl (Or.inl rfl)) (pgs_cons (pg_name (i := 5) sc.nd rfl (Or.inl rfl)) pgs_nil)))
        (pss_one (ps_if (pt_cmpR op_ne (pe_ix (r := rIxL K) ix_list (pv 5) pe_int (fun _ _ => rfl)) (pv 2) (nomark _)) pss_never pss_nil)))
      (pss_one (ps_ret (pv 3)))), ?_⟩
    refine ⟨by show 0 ≤ sizeLine; exact Nat.zero_le _, fun fo hfo => ?_⟩
    have x1 : Ext H (upd H fo (.lst [])) := Ext.new hfo
    have hfg : fo ≠ g := fun z => by
      rcases G.gd with q | ⟨_, q⟩ <;> rw [← z, hfo] at q <;> cases q
    have hxl : (ws.getD i []).length ≤ 10000 := hC.short _ (by rw [List.getD_eq_getElem?_getD, List.getElem?_eq_getElem hi]; simp)
    refine ⟨_, rfl, _, rfl, _, rfl, a, _, (i : Int), sv (ws.getD i []), rfl, rfl, SqL.of (hC.ext x1).at_, atI_nat (by rw [List.getElem?_map]; simp [hi]), ?_⟩
    refine ⟨g, ws, d, f, ws.getD i [], 0, rfl, x1.gr G, hC.few, by omega, Nat.zero_le _, fun D H3 ys hD x3 kb hys hpr => ⟨D, rfl, ⟨_, SqL.of hys⟩, ?_⟩⟩
    have hfo3 : H3 fo = some (.lst []) := kb fo _ hfg upd_same
    refine for_list (K := K) (a := D) (xs := ys) (fun j σ H4 => (∃ mk pl : Option V, σ = [some (.ref a), some (.ref g), some (.int (i : Int)), some (.ref fo), mk, pl]) ∧ H4 = H3) ⟨⟨_, _, rfl⟩, rfl⟩ (fun j σ H4 _ h => by rw [h.2]; exact SqL.of hys) ?_ ?_
    · rintro j y σ H4 hy ⟨⟨mk, pl, rfl⟩, rfl⟩
      obtain ⟨n, hn, t, rfl, ht⟩ := paired_get hpr hy
      obtain ⟨rest, e, hw⟩ := hN.only hi (List.mem_of_getElem? hn)
      have hl := x3.lst (x1.lst (G.lst _ hw))
      rw [e] at hl
      refine ⟨t, _, rfl, SqT.of ht, rfl, _, _, rfl, _, _, rfl, rfl, ?_⟩
      refine ⟨_, rfl, _, _, 0, .int (i : Int), rfl, rfl, SqL.of hl, atI_nat (j := 0) rfl, _, rfl, rfl, _, rfl, iteF' (by simp) ⟨⟨_, _, rfl⟩, rfl⟩⟩
    · rintro σ H4 ⟨⟨mk, pl, rfl⟩, rfl⟩
      refine ⟨_, rfl, k fo _ hfo (x1.trans x3) (fun b o hb z => kb b o hb ?_) hfo3⟩
      exact upd_keep z hfo
def spTake0 : Sp := fun vs H Q _ => ∃ (u v : V) (r : Addr), vs = [u, v, .ref r] ∧ H r = some (.lst []) ∧ ∀ D, H D = none → Q (.ref D) (upd H D (.lst []))
theorem ok_take_new (D : Def K mg "take_new" "take_new" Pl.s_take_new ["known", "numbers", "rests"]) : Cal P w K mg base CX0 1 "take_new" ["known", "numbers", "rests"] spTake0 := by
  have sc : FnScope ["known", "numbers", "rests", "fresh", "rest", "number"] ["known", "numbers", "rests"] (defScope Pl.s_take_new) := ⟨rfl, rfl, rfl, by decide +kernel, rfl, by decide +kernel, by decide +kernel⟩
  refine D.cal fun f fd F => F.ok sc (fun vs H Q E h => ?_) (fun cdv A outer s H vs Q E hr h => ?_)
  · obtain ⟨_, _, _, rfl, _⟩ := h
    rfl
  · obtain ⟨u, v, r, rfl, hr0, k⟩ := h
    refine ⟨_, pss_cons (ps_set (i := 3) sc.nd rfl (Or.inl rfl) (pe_lst pa_nil))
      (pss_cons (ps_for PassesOwn.never rfl (pi_list (pv 2)) (pg_name (i := 4) sc.nd rfl (Or.inl rfl)) pss_never)
      (pss_one (ps_ret (pv 3)))), ?_⟩
    refine ⟨by show 0 ≤ sizeLine; exact Nat.zero_le _, fun fo hfo => ?_⟩
    have hr1 := upd_keep (u := HO.lst []) hr0 hfo
    refine ⟨_, rfl, r, rfl, ⟨_, SqL.of hr1⟩, for_list (K := K) (a := r) (xs := []) (fun j σ H4 => σ = [some u, some v, some (.ref r), some (.ref fo), none, none] ∧ H4 = upd H fo (.lst [])) ⟨rfl, rfl⟩ (fun j σ H4 _ h => by rw [h.2]; exact SqL.of hr1) (fun j y σ H4 hy => by simp at hy) ?_⟩
    rintro σ H4 ⟨rfl, rfl⟩
    exact ⟨_, rfl, k fo hfo⟩
def spAll0 (K : PySem.W.Frag) (T : Addr) : Sp := fun vs H Q _ => ∃ (a : Addr) (ws : List W), vs = [.ref a] ∧ CodeL H a ws ∧ ws.length < 64 ∧ (∀ x ∈ ws, x.length ≤ 100) ∧ NoPre ws ∧ PkL T H ∧ ∀ kn H', XP T H H' → H kn = none → H' kn = some (.dK []) → Q (.ref kn) H'
theorem ok_all_rests (D : Def K mg "all_rests" "all_rests" Pl.s_all_rests ["code"]) (B : Bare mg) (hE : ∃ t, mg "EMPTY" = some (.int 0 t)) (CG : Cal P w K mg base CX0 1 "grouped" ["words"] (spGrouped K)) (CI : Cal P w K mg base CX0 1 "in_order" ["values"] (spInOrder K T))
    (CW : Cal P w K mg base CX0 1 "words_at" ["code", "places"] (spWordsAt K)) (CN : Cal P w K mg base CX0 1 "rest_numbers" ["code"] spRestNo) (CF : Cal P w K mg base CX0 2 "first_rests" ["code", "groups", "place"] spFirst0)
    (CT : Cal P w K mg base CX0 1 "take_new" ["known", "numbers", "rests"] spTake0) : Cal P w K mg base CX0 3 "all_rests" ["code"] (spAll0 K T) := by
  have sc : FnScope ["code", "groups", "order", "words", "numbers", "known", "waiting", "place", "turn", "rests"] ["code"] (defScope Pl.s_all_rests) := ⟨rfl, rfl, rfl, by decide +kernel, rfl, by decide +kernel, by decide +kernel⟩
  obtain ⟨tE, hE⟩ := hE
  refine D.cal fun f fd F => F.ok sc (fun vs H Q E h => ?_) (fun cdv A outer s H vs Q E hr h => ?_)
  · obtain ⟨_, _, rfl, _⟩ := h
    rfl
  · obtain ⟨a, ws, rfl, hC, h64, hsh, hN, pk, k⟩ := h
    have hu := hu_of hr
    have hr1 : Room 1 _ := hr.mono (by decide)
    refine ⟨_, pss_cons (ps_set (i := 1) sc.nd rfl (Or.inl rfl) (pe_callF CG hr1 (pa_cons (pv 0) pa_nil) pass0))
      (pss_cons (ps_set (i := 2) sc.nd rfl (Or.inl rfl) (pe_callF CI hr1 (pa_cons (pv 0) pa_nil) pass0))
      (pss_cons (ps_set (i := 3) sc.nd rfl (Or.inl rfl) (pe_callF CW hr1 (pa_cons (pv 0) (pa_cons (pv 2) pa_nil)) pass0))
      (pss_cons (ps_set (i := 4) sc.nd rfl (Or.inl rfl) (pe_callF CN hr1 (pa_cons (pv 0) pa_nil) pass0))
      (pss_cons (ps_set (i := 5) sc.nd rfl (Or.inl rfl) pe_dnewK)
      (pss_cons (ps_set (i := 6) sc.nd rfl (Or.inl rfl) (pe_lst pa_nil))
      (pss_cons (ps_for PassesOwn.never rfl (pi_range1 (by rfl) B.range (pa_cons (pe_callB call_len_seq (by rfl) B.len PySem.boot_len (pa_cons (pv 0) pa_nil)) pa_nil)) (pg_name (i := 7) sc.nd rfl (Or.inl rfl))
        (pss_one (ps_expr (pe_bm PySem.F.plainAttrs_list PySem.F.slot_list_extend PySem.F.type_list_extend mt_extend (pv 6) (pa_cons (pe_callF CT hr1 (pa_cons (pv 5) (pa_cons (pv 4) (pa_cons (pe_callF CF hr (pa_cons (pv 0) (pa_cons (pv 1) (pa_cons (pv 7) pa_nil))) pass0) pa_nil))) pass0) pa_nil)))))
      (pss_cons (ps_set (i := 8) sc.nd rfl (Or.inl rfl) pe_int)
      (pss_cons (ps_while PassesOwn.never (PW.pt (pw_and (pt_cmpR op_lt (pv 8) (pe_callB call_len_seq (by rfl) B.len PySem.boot_len (pa_cons (pv 6) pa_nil)) (nomark _)) (pw_and1 (pt_cmp (pc_dnotin hu (pe_glob (v := .int 0) (by rfl) hE ⟨tE, rfl⟩) (pv 5)))))) pss_never)
      (pss_one (ps_ret (pv 5))))))))))), ?_⟩
    refine ⟨_, rfl, a, ws, rfl, hC.code, fun g d f H1 hg x1 G => ?_⟩
    have hC1 := hC.ext x1
    refine ⟨_, rfl, a, ws.map sv, InOrd ws, rfl, SqL.of hC1.at_, by rw [List.length_map]; exact h64, srt_words h64, PkL.ext pk x1, fun D ms H2 x2 hD hD2 ho => ?_⟩
    have x12 : XP T H H2 := (XP.of pk x1).trans x2
    have len : ms.length = ws.length := by rw [ho.1.length_eq, List.length_range]
    have G2 := x2.gr G.rd
    have hC2 := x12.codeL hC
    refine ⟨_, rfl, _, rfl, a, D, ws, ms, rfl, hC2.code, ⟨SqL.of hD2, by omega⟩, fun i hi => List.mem_range.mp (ho.1.mem_iff.mp hi), fun D3 H3 hD3 x3 hD4 => ?_⟩
    refine ⟨_, rfl, a, ws, rfl, hC2.ext x3, h64, hsh, fun D4 zs H4 hD4' x4 hz4 => ?_⟩
    have x24 := x3.trans x4
    intro kn hkn
    have x5 := x24.newer (o := HO.dK []) hkn
    refine ⟨by show 0 ≤ sizeLine; exact Nat.zero_le _, fun wt hwt => ?_⟩
    have x6 := x5.newer (o := HO.lst []) hwt
    have hkn6 : upd (upd H4 kn (.dK [])) wt (.lst []) kn = some (.dK []) := upd_keep upd_same hwt
    have hkn0 : H2 kn = none := x24.free hkn
    have hwt0 : H2 wt = none := x5.free hwt
    have gk : g ≠ kn := fun z => by rcases G2.gd with q | ⟨_, q⟩ <;> rw [z, hkn0] at q <;> cases q
    have gw : g ≠ wt := fun z => by rcases G2.gd with q | ⟨_, q⟩ <;> rw [z, hwt0] at q <;> cases q
    have kw : kn ≠ wt := ne_of_none upd_same hwt
    refine ⟨_, rfl, a, _, rfl, .inl (SqL.of (hC2.ext x6).at_), _, rfl, by omega, by rw [List.length_map]; have := hC.few; omega, ?_⟩
    have en : (((ws.map sv).length : Nat) : Int).toNat = ws.length := by rw [List.length_map]; omega
    rw [en]
    refine for_range (fun i σ H7 => (∃ pl : Option V, σ = [some (.ref a), some (.ref g), some (.ref D), some (.ref D3), some (.ref D4), some (.ref kn), some (.ref wt), pl, none, none]) ∧ Ext H2 H7 ∧ H7 kn = some (.dK []) ∧ H7 wt = some (.lst [])) ⟨⟨_, rfl⟩, x6, hkn6, upd_same⟩ ?_ ?_
    · rintro i σ H7 hi ⟨⟨pl, rfl⟩, x7, hk7, hw7⟩
      rw [Int.zero_add]
      refine ⟨_, rfl, .inl ⟨rfl, _, SqL.of hw7⟩, _, rfl, _, rfl, _, rfl, _, rfl, _, rfl, a, g, ws, d, f, i, rfl, hC2.ext x7, x7.gr G2, hi, hN, fun D8 H8 hD8 x8 kb hD9 => ?_⟩
      have hk8 := kb kn _ gk.symm hk7
      have hw8 := kb wt _ gw.symm hw7
      refine ⟨_, _, D8, rfl, hD9, fun D9 hD10 => ?_⟩
      refine ⟨wt, D9, _, _, rfl, rfl, upd_keep hw8 hD10, upd_same, by show 0 ≤ sizeLine; exact Nat.zero_le _, ⟨⟨_, rfl⟩, ((x7.trans x8).newer hD10).over hwt0, ?_, upd_same⟩⟩
      exact upd_k (upd_keep hk8 hD10) kw
    · rintro σ H7 ⟨⟨pl, rfl⟩, x7, hk7, hw7⟩
      refine ⟨fun m σ H' => σ = [some (.ref a), some (.ref g), some (.ref D), some (.ref D3), some (.ref D4), some (.ref kn), some (.ref wt), pl, some (.int 0), none] ∧ H' = H7, ⟨0, rfl, rfl⟩, ?_⟩
      rintro m σ H' ⟨rfl, rfl⟩
      refine ⟨_, rfl, _, rfl, wt, _, rfl, .inl (SqL.of hw7), _, _, rfl, rfl, _, rfl, iteF' (by simp) (iteF ?_)⟩
      exact ⟨_, rfl, k kn _ (x12.then x7) (x12.free hkn0) hk7⟩
def spOnce0 (T cT : Addr) : Sp := fun vs H Q _ => ∃ (a : Addr) (ws : List W), vs = [.ref a] ∧ CodeL H a ws ∧ ws.length < 64 ∧ (∀ x ∈ ws, x.length ≤ 100) ∧ NoPre ws ∧ PkL T H ∧ ∀ o p dx H', XP T H H' → H o = none → H' o = some (.ins cT dx [("tails", .ref p)]) → Q (.ref o) H'
theorem ok_once (D : Def K mg "once" "once" Pl.s_once ["code"]) (hE : ∃ t, mg "EMPTY" = some (.int 0 t)) (CC : Cal P w K mg base (CX1 P w) 4 "check_code" ["value"] (spCheckCode K cCode)) (CA : Cal P w K mg base CX0 3 "all_rests" ["code"] (spAll0 K T))
    (hT : mg "Tails" = some (.ref cT)) (MT : ∃ f fd, Mk K cT f ∧ FnOk P w K mg base CX0 2 f fd ["self", "tails"] (spInit cT "tails") ∧ Binds K fd ["self", "tails"] []) : Cal P w K mg base CX0 5 "once" ["code"] (spOnce0 T cT) := by
  have sc : FnScope ["code", "rests"] ["code"] (defScope Pl.s_once) := ⟨rfl, rfl, rfl, by decide +kernel, rfl, by decide +kernel, by decide +kernel⟩
  obtain ⟨tE, hE⟩ := hE
  obtain ⟨fT, fdT, mkT, okT, bT⟩ := MT
  refine D.cal fun f fd F => F.ok sc (fun vs H Q E h => ?_) (fun cdv A outer s H vs Q E hr h => ?_)
  · obtain ⟨_, _, rfl, _⟩ := h
    rfl
  · obtain ⟨a, ws, rfl, hC, h64, hsh, hN, pk, k⟩ := h
    have hu := hu_of hr
    have hr3 : Room 3 _ := hr.mono (by decide)
    have nd : (["rest", "code"] : List Str).Nodup := by decide +kernel
    refine ⟨_, pss_cons (ps_expr (pe_callF CC hr (pa_cons (pv 0) pa_nil) passF))
      (pss_cons (ps_set (i := 1) sc.nd rfl (Or.inl rfl) (pe_callF CA hr3 (pa_cons (pv 0) pa_nil) pass0))
      (pss_cons (ps_if (pt_cmp (pc_din hu (pe_glob (v := .int 0) (by rfl) hE ⟨tE, rfl⟩) (pv 1))) pss_never pss_nil)
      (pss_one (ps_ret (pe_make mkT okT hr3 (by rfl) hT bT .nil pass0 (pa_cons
        (pe_comp (N' := ["rest", "code"]) (js := [none, some 0]) (.of (by kernel_rfl)) rfl (pi_vals0 (pv 1)) fun C fp s₀ H₀ => ⟨pg_name (i := 0) nd rfl (Or.inl rfl), pts_nil, pe_no⟩) pa_nil) (by decide) rfl rfl))))), ?_⟩
    refine ⟨_, rfl, .ref a, rfl, hC.arg, hC.sz, fun b H1 x1 hA => ⟨fun _ => ?_, fun hb => absurd (hC.all hA) (by rw [hb]; decide)⟩⟩
    refine ⟨_, rfl, a, ws, rfl, hC.ext x1, h64, hsh, hN, PkL.ext pk x1, fun kn H2 x2 hkn hkn2 => ?_⟩
    have x12 : XP T H H2 := (XP.of pk x1).trans x2
    refine ⟨_, rfl, kn, _, rfl, .inl ⟨[], (.inl 0 : Key), .inl hkn2, rfl, rfl⟩, _, rfl, iteF ?_⟩
    refine ⟨_, rfl, kn, rfl, hkn2, fun o H3 x3 hkn3 => ?_⟩
    intro E' hE'
    refine ⟨fun i m σ' H' => i = 0 ∧ H' = upd H3 E' (.lst []), ⟨0, rfl, rfl⟩, ?_⟩
    rintro i m σ' H' ⟨rfl, rfl⟩
    refine .inl ⟨⟨rfl, upd_keep hkn3 hE'⟩, ?_⟩
    intro x dx hx hdx ne
    have x4 : Ext H2 (upd H3 E' (.lst [])) := x3.newer hE'
    have hx' : upd (upd H3 E' (.lst [])) dx (.own x) x = none := by rw [upd_ne ne.symm]; exact hx
    have x5 : Ext (upd H3 E' (.lst [])) (upd (upd (upd H3 E' (.lst [])) dx (.own x)) x (.ins cT dx [])) := (Ext.new hdx).newer hx'
    refine ⟨x, E', dx, [], rfl, upd_same, x5.lst upd_same, by simp, fun l H6 hl x6 hl6 => ⟨rfl, k x l dx _ ?_ (x12.free (x4.free hx)) upd_same⟩⟩
    exact ((x12.then x4).then (x5.trans x6)).over (x12.free (x4.free hx)) (x6.ins upd_same) (fun _ z => nomatch z) fun _ z => nomatch z
end
end L2


set_option Elab.async false
set_option linter.all false
set_option maxRecDepth 100000
set_option maxHeartbeats 2000000
namespace L2
open PySem PySem.Spec PyProof.Rows Tw
seal PSs PS PE PT PW PA PG PGs PI PC
/-- how much of all texts words of these lengths take -/
def mass (q : Nat) (ls : List Nat) : Nat := (ls.map fun l => q ^ (101 - l)).sum
theorem mass_app (q : Nat) (a b : List Nat) : mass q (a ++ b) = mass q a + mass q b := by unfold mass; rw [List.map_append, List.sum_append]
theorem mass_perm {q : Nat} {a b : List Nat} (h : a.Perm b) : mass q a = mass q b := (h.map _).sum_nat
theorem mass_one (q l : Nat) : mass q [l] = q ^ (101 - l) := by simp [mass]
structure WordsOk (q : Nat) (ls : List Nat) (us : List W) : Prop where
  len : us.length = ls.length
  lens : ∀ p, p < ls.length → (us.getD p []).length = ls.getD p 0
  dg : ∀ p, p < ls.length → Dg q (us.getD p [])
  pre : NoPre us
/-- the lengths of the first k places -/
abbrev firstK (ls ms : List Nat) (k : Nat) : List Nat := (ms.take k).map fun p => ls.getD p 0
theorem mass_step {q : Nat} {ls ms : List Nat} {k : Nat} (h : k < ms.length) : mass q (firstK ls ms (k + 1)) = mass q (firstK ls ms k) + q ^ (101 - ls.getD (ms.getD k 0) 0) := by
  unfold firstK
  rw [take_snoc (show ms[k]? = some (ms.getD k 0) by rw [List.getD_eq_getElem?_getD, List.getElem?_eq_getElem h]; rfl), List.map_append, mass_app]
  rw [List.map_cons, List.map_nil, mass_one]
theorem mass_up {q : Nat} (hq : 1 ≤ q) {ls ms : List Nat} : ∀ {a b : Nat}, a < b → b ≤ ms.length → mass q (firstK ls ms a) + q ^ (101 - ls.getD (ms.getD a 0) 0) ≤ mass q (firstK ls ms b)
  | a, 0, h, _ => absurd h (Nat.not_lt_zero _)
  | a, b + 1, h, hb => by
    rw [mass_step (by omega : b < ms.length)]
    rcases Nat.lt_or_ge a b with z | z
    · have := mass_up hq z (by omega : b ≤ ms.length) (ls := ls) (ms := ms)
      omega
    · cases (show a = b by omega)
      exact Nat.le_refl _
theorem mass_all {q : Nat} {ls ms : List Nat} (h : ms.Perm (List.range ls.length)) : mass q (firstK ls ms ms.length) = mass q ls := by
  unfold firstK
  rw [List.take_length]
  refine mass_perm ?_
  have e : ls = (List.range ls.length).map fun p => ls.getD p 0 := by
    apply List.ext_getElem
    · simp
    · intro i h1 h2
      simp [h1]
  conv => rhs; rw [e]
  exact h.map _
/-- the words made so far -/
structure Made (q : Nat) (ls ms : List Nat) (k : Nat) (us : List W) : Prop where
  len : us.length = ls.length
  at_ : ∀ j, j < k → (us.getD (ms.getD j 0) []).length = ls.getD (ms.getD j 0) 0 ∧ Dg q (us.getD (ms.getD j 0) []) ∧ vl q (us.getD (ms.getD j 0) []) * q ^ (101 - ls.getD (ms.getD j 0) 0) = mass q (firstK ls ms j)
theorem getD_inj {ms : List Nat} (h : ms.Nodup) {i j : Nat} (hi : i < ms.length) (hj : j < ms.length) (e : ms.getD i 0 = ms.getD j 0) : i = j := by
  have pw := List.pairwise_iff_getElem.mp h
  rw [List.getD_eq_getElem?_getD, List.getD_eq_getElem?_getD, List.getElem?_eq_getElem hi, List.getElem?_eq_getElem hj] at e
  have e : ms[i] = ms[j] := e
  rcases Nat.lt_trichotomy i j with z | z | z
  · exact absurd e (pw i j hi hj z)
  · exact z
  · exact absurd e.symm (pw j i hj hi z)
theorem Made.words {q : Nat} {ls ms : List Nat} {us : List W} (hq : 1 ≤ q) (h : Made q ls ms ms.length us) (ho : InOrdN ls ms) (hs : ∀ l ∈ ls, l ≤ 101) : WordsOk q ls us := by
  have nd : ms.Nodup := (ho.1.nodup_iff).mpr List.nodup_range
  have find : ∀ p, p < ls.length → ∃ j, j < ms.length ∧ ms.getD j 0 = p := fun p hp => by
    obtain ⟨j, hj, e⟩ := List.mem_iff_getElem.mp (ho.1.mem_iff.mpr (List.mem_range.mpr hp))
    exact ⟨j, hj, by rw [List.getD_eq_getElem?_getD, List.getElem?_eq_getElem hj]; exact e⟩
  refine ⟨h.len, fun p hp => ?_, fun p hp => ?_, fun i j hi hj hp => ?_⟩
  · obtain ⟨j, hj, rfl⟩ := find p hp
    exact (h.at_ j hj).1
  · obtain ⟨j, hj, rfl⟩ := find p hp
    exact (h.at_ j hj).2.1
  · rw [h.len] at hi hj
    obtain ⟨a, ha, rfl⟩ := find i hi
    obtain ⟨b, hb, rfl⟩ := find j hj
    obtain ⟨a1, a2, a3⟩ := h.at_ a ha
    obtain ⟨b1, b2, b3⟩ := h.at_ b hb
    obtain ⟨r, er⟩ := List.isPrefixOf_iff_prefix.mp hp
    have lb : ls.getD (ms.getD b 0) 0 ≤ 101 := hs _ (by rw [List.getD_eq_getElem?_getD, List.getElem?_eq_getElem hj]; exact List.getElem_mem _)
    have rl : r.length + ls.getD (ms.getD a 0) 0 = ls.getD (ms.getD b 0) 0 := by
      have := congrArg List.length er
      rw [List.length_append, a1, b1] at this
      omega
    have rd : Dg q r := fun c hc => b2 c (by rw [← er]; exact List.mem_append_right _ hc)
    have rv := vl_lt rd
    have ev : vl q (us.getD (ms.getD b 0) []) = vl q (us.getD (ms.getD a 0) []) * q ^ r.length + vl q r := by rw [← er, vl_app]
    have pw : q ^ r.length * q ^ (101 - ls.getD (ms.getD b 0) 0) = q ^ (101 - ls.getD (ms.getD a 0) 0) := by
      rw [← Nat.pow_add]
      congr 1
      omega
    have lo : mass q (firstK ls ms a) ≤ mass q (firstK ls ms b) := by
      rw [← a3, ← b3, ev, Nat.add_mul, Nat.mul_assoc, pw]
      exact Nat.le_add_right _ _
    have hi' : mass q (firstK ls ms b) < mass q (firstK ls ms a) + q ^ (101 - ls.getD (ms.getD a 0) 0) := by
      rw [← a3, ← b3, ev, Nat.add_mul, Nat.mul_assoc, pw]
      have := Nat.mul_lt_mul_of_pos_right rv (Nat.pow_pos (n := 101 - ls.getD (ms.getD b 0) 0) (show 0 < q by omega))
      rw [pw] at this
      omega
    rcases Nat.lt_trichotomy a b with z | z | z
    · have := mass_up hq z (by omega) (ls := ls) (ms := ms)
      omega
    · rw [z]
    · have := mass_up hq z (by omega) (ls := ls) (ms := ms)
      have : 0 < q ^ (101 - ls.getD (ms.getD b 0) 0) := Nat.pow_pos (by omega)
      omega
section
variable {P : Program} {w : World} {K : PySem.W.Frag} {mg : Str → Option Value} {base : Heap} {T cW cF : Addr} {shW : Sp}
def spInitS (C : Addr) (fld : Str) : Sp := fun vs H Q _ => ∃ (o p dx : Addr) (ts : List W), vs = [.ref o, .ref p] ∧ H o = some (.ins C dx []) ∧ H p = some (.lst (ts.map sv)) ∧ ts.length ≤ 100000 ∧
  ∀ l H1, H l = none → Ext H H1 → H1 l = some (.lst (ts.map sv)) → Q .non (upd H1 o (.ins C dx [(fld, .ref l)]))
theorem ok_initWords {C f : Addr} {fd : FuncData} (F : Fun K "__init__" "Words.__init__" Pl.c_Words_init f fd) (cl : Cls K C) (na : NoAttr K C "words") (CC : Cal P w K mg base CX0 1 "copied" ["value"] spCopiedG) :
    FnOk P w K mg base CX0 2 f fd ["self", "words"] (spInitS C "words") := by
  have sc : FnScope ["self", "words"] ["self", "words"] (defScope Pl.c_Words_init) := ⟨rfl, rfl, rfl, by decide +kernel, rfl, by decide +kernel, by decide +kernel⟩
  refine F.ok sc (fun vs H Q E h => ?_) (fun cdv A outer s H vs Q E hr h => ?_)
  · obtain ⟨_, _, _, _, rfl, _⟩ := h
    rfl
  · obtain ⟨o, p, dx, ts, rfl, ho, hp, hl, k⟩ := h
    refine ⟨_, pss_one (ps_fld (pv 0) (pe_callF CC hr (pa_cons (pv 1) pa_nil) pass0) rfl), ?_⟩
    refine ⟨_, rfl, p, _, rfl, hp, by rw [List.length_map]; exact hl, txts_plain _, fun l1 H1 hl1 x1 hv1 => ?_⟩
    exact ⟨_, rfl, o, C, dx, [], rfl, x1.ins ho, cl, na, by decide, k l1 H1 hl1 x1 hv1⟩
def spOfLen (T cW cF : Addr) : Sp := fun vs H Q _ => ∃ (q : Nat) (p : Addr) (ls : List Nat), vs = [.int (q : Int), .ref p] ∧ 1 ≤ q ∧ q ≤ 26 ∧ LensL H p ls ∧ (∀ l ∈ ls, l ≤ 100) ∧ ls.length < 64 ∧ PkL T H ∧
  (∀ o dx l us H', XP T H H' → H o = none → H l = none → H' o = some (.ins cW dx [("words", .ref l)]) → H' l = some (.lst (us.map sv)) → WordsOk q ls us → mass q ls ≤ q ^ 101 → Q (.ref o) H') ∧
  ∀ o dx H', XP T H H' → H o = none → H' o = some (.ins cF dx []) → q ^ 101 < mass q ls → Q (.ref o) H'
theorem ok_of_lengths (D : Def K mg "of_lengths" "of_lengths" Pl.s_of_lengths ["letters", "lengths"]) (B : Bare mg) (L : ∃ t, mg "LETTERS" = some (.str "abcdefghijklmnopqrstuvwxyz" t)) (C1 : Cal P w K mg base CX0 3 "check_lengths" ["letters", "lengths"] (spChkLen K)) (C2 : Cal P w K mg base CX0 1 "in_order" ["values"] (spInOrder K T))
    (C3 : Cal P w K mg base CX0 1 "first_free" ["word", "letters"] spFree) (OW : Kls P w K mg base "Words" cW ["words"] (spInitS cW "words") ["letters", "lengths"] shW) (MF : Mk0 K cF) (hF : mg "Full" = some (.ref cF)) : Cal P w K mg base CX0 4 "of_lengths" ["letters", "lengths"] (spOfLen T cW cF) := by
  have sc : FnScope ["letters", "lengths", "words", "free", "place"] ["letters", "lengths"] (defScope Pl.s_of_lengths) := ⟨rfl, rfl, rfl, by decide +kernel, rfl, by decide +kernel, by decide +kernel⟩
  obtain ⟨tk, hL⟩ := L
  refine D.cal fun f fd F => F.ok sc (fun vs H Q E h => ?_) (fun cdv A outer s H vs Q E hr h => ?_)
  · obtain ⟨_, _, _, rfl, _⟩ := h
    rfl
  · obtain ⟨q, p, ls, rfl, hq1, hq2, hp, hle, h64, pk, kW, kF⟩ := h
    have hr1 : Room 1 _ := hr.mono (by decide)
    refine ⟨_, pss_cons (ps_expr (pe_callF C1 hr (pa_cons (pv 0) (pa_cons (pv 1) pa_nil)) pass0))
      (pss_cons (ps_set (i := 2) sc.nd rfl (Or.inl rfl) (pe_op op_rep (pe_lst (pa_cons pe_str pa_nil)) (pe_callB call_len_seq (by rfl) B.len PySem.boot_len (pa_cons (pv 1) pa_nil))))
      (pss_cons (ps_set (i := 3) sc.nd rfl (Or.inl rfl) pe_str)
      (pss_cons (ps_for PassesOwn.never rfl (pi_list (pe_callF C2 hr1 (pa_cons (pv 1) pa_nil) pass0)) (pg_name (i := 4) sc.nd rfl (Or.inl rfl))
        (pss_cons (ps_if (pt_cmp (pc_isN (pv 3))) (pss_one (ps_ret (pe_obj MF (by rfl) hF))) pss_nil)
        (pss_cons (ps_asg (pe_bm PySem.F.plainAttrs_str PySem.F.slot_str_ljust PySem.F.type_str_ljust mt_ljust (pv 3) (pa_cons (pe_ix (r := rIxL K) ix_list (pv 1) (pv 4) (fun _ _ => rfl)) (pa_cons (pe_ix (r := rIxS) ix_str (pe_glob (v := sv az) (by rfl) hL ⟨tk, by rw [az_eq]⟩) pe_int (fun _ _ => rfl)) pa_nil))) (pg_sub (pv 2) (pv 4) set_list))
        (pss_one (ps_set (i := 3) sc.nd rfl (Or.inl rfl) (pe_callF C3 hr1 (pa_cons (pe_ix (r := rIxL K) ix_list (pv 2) (pv 4) (fun _ _ => rfl)) (pa_cons (pv 0) pa_nil)) pass0))))))
      (pss_one (ps_ret (pe_kls OW hr (pa_cons (pv 2) pa_nil))))))), ?_⟩
    refine ⟨_, rfl, _, rfl, q, p, ls, rfl, hq1, hq2, hp, hle, fun H1 x1 => ?_⟩
    have hp1 := hp.ext x1
    have few := hp.few
    refine ⟨by show 1 ≤ sizeLine; decide, fun l0 hl0 => ?_⟩
    have x2 : Ext H1 (upd H1 l0 (.lst [.str ""])) := Ext.new hl0
    refine ⟨_, rfl, p, _, rfl, .inl (SqL.of (hp1.ext x2).at_), l0, _, _, rfl, rfl, upd_same, by omega, by rw [List.length_map]; omega, by rw [List.length_map]; exact small_line (by show 1 * ((ls.length : Int)).toNat ≤ 1000000; omega), fun wd hwd => ?_⟩
    have ew : (List.replicate (((intsV ls).length : Nat) : Int).toNat [V.str ""]).flatten = (List.replicate ls.length ([] : W)).map sv := by
      rw [List.length_map, show ((ls.length : Nat) : Int).toNat = ls.length by omega, sE]
      generalize ls.length = m
      induction m with
      | zero => rfl
      | succ m ih => rw [List.replicate_succ, List.flatten_cons, ih, List.replicate_succ]; rfl
    rw [ew]
    have x3 := x2.newer (o := HO.lst ((List.replicate ls.length ([] : W)).map sv)) hwd
    have hwd1 : upd (upd H1 l0 (.lst [.str ""])) wd (.lst ((List.replicate ls.length ([] : W)).map sv)) wd = some (.lst ((List.replicate ls.length ([] : W)).map sv)) := upd_same
    have fwd : H1 wd = none := x2.free hwd
    generalize upd (upd H1 l0 (.lst [.str ""])) wd (.lst ((List.replicate ls.length ([] : W)).map sv)) = H3 at x3 hwd1
    have hp3 := hp1.ext x3
    have pk3 : PkL T H3 := PkL.ext (PkL.ext pk x1) x3
    refine ⟨_, rfl, p, intsV ls, InOrdN ls, rfl, SqL.of hp3.at_, by rw [List.length_map]; exact h64, srt_lens h64, pk3, fun D ms H4 x4 hD hD4 ho => ⟨D, rfl, ⟨_, SqL.of hD4⟩, ?_⟩⟩
    have ml : ms.length = ls.length := by rw [ho.1.length_eq, List.length_range]
    have nd : ms.Nodup := (ho.1.nodup_iff).mpr List.nodup_range
    have xa : XP T H H4 := ((XP.of pk (x1.trans x3)).trans x4)
    have x14 : XP T H1 H4 := (XP.of (PkL.ext pk x1) x3).trans x4
    have hDw : D ≠ wd := (ne_of_none hwd1 hD).symm
    have short : ∀ l ∈ ls, l ≤ 101 := hp.short
    refine for_list (K := K) (a := D) (xs := intsV ms) (fun k σ H5 => XP T H1 H5 ∧ H5 D = some (.lst (intsV ms)) ∧ ∃ us fv pl, σ = [some (.int (q : Int)), some (.ref p), some (.ref wd), some fv, pl] ∧ H5 wd = some (.lst (us.map sv)) ∧ Made q ls ms k us ∧
      ((∃ fr : W, fv = sv fr ∧ Dg q fr ∧ (∀ j, k ≤ j → j < ms.length → fr.length ≤ ls.getD (ms.getD j 0) 0) ∧ fr.length ≤ 101 ∧ vl q fr * q ^ (101 - fr.length) = mass q (firstK ls ms k)) ∨ (fv = .non ∧ mass q (firstK ls ms k) = q ^ 101)))
      ⟨x14, hD4, _, _, _, rfl, x4.lst hwd1, ⟨by rw [List.length_replicate], fun j hj => absurd hj (Nat.not_lt_zero _)⟩, .inl ⟨[], by rw [sE], fun c hc => (nomatch hc), fun j _ _ => Nat.zero_le _, Nat.zero_le _, by simp [vl, mass]⟩⟩ (fun k σ H5 _ h => SqL.of h.2.1) ?_ ?_
    · rintro k y σ H5 hy ⟨x5, hD5, us, fv, pl, rfl, hw5, hM, hfr⟩
      rw [intsV, List.getElem?_map] at hy
      obtain ⟨pp, hpp, rfl⟩ := Option.map_eq_some_iff.mp hy
      have hk : k < ms.length := (List.getElem?_eq_some_iff.mp hpp).1
      have epp : ms.getD k 0 = pp := by rw [List.getD_eq_getElem?_getD, hpp]; rfl
      have hppl : pp < ls.length := List.mem_range.mp (ho.1.mem_iff.mp (List.mem_of_getElem? hpp))
      have lpp : ls.getD pp 0 ≤ 101 := short _ (by rw [List.getD_eq_getElem?_getD, List.getElem?_eq_getElem hppl]; exact List.getElem_mem _)
      rcases hfr with ⟨fr, rfl, fd, fl, fl2, fv⟩ | ⟨rfl, fm⟩
      · refine ⟨_, rfl, _, rfl, iteF' (by simp) ?_⟩
        have hp5 : H5 p = some (.lst (intsV ls)) := x5.lst hp1.at_
        have fle : fr.length ≤ ls.getD pp 0 := by rw [← epp]; exact fl k (Nat.le_refl _) hk
        refine ⟨_, rfl, rfl, _, rfl, _, rfl, p, _, (pp : Int), .int ((ls.getD pp 0 : Nat) : Int), rfl, rfl, SqL.of hp5, atI_nat (by rw [List.getElem?_map]; simp [hppl]), st az, 0, 97, rfl, rfl, by rw [st_len]; exact small_line (by decide), rfl, fr, ls.getD pp 0, 97, rfl, rfl, by omega, ?_⟩
        refine ⟨_, rfl, _, rfl, wd, _, (pp : Int), pp, rfl, rfl, hw5, ?_, ?_⟩
        · unfold ixN
          rw [if_pos (by omega), if_pos (by rw [List.length_map, hM.len]; omega)]
          simp
        generalize ew' : fr ++ List.replicate (ls.getD pp 0 - fr.length) 97 = w'
        have wl : w'.length = ls.getD pp 0 := by rw [← ew', List.length_append, List.length_replicate]; omega
        have wdg : Dg q w' := fun c hc => by
          rw [← ew'] at hc
          rcases List.mem_append.mp hc with z | z
          · exact fd c z
          · rw [List.eq_of_mem_replicate z]; omega
        have wv : vl q w' * q ^ (101 - ls.getD pp 0) = mass q (firstK ls ms k) := by
          rw [← fv, ← ew', vl_zeros, Nat.mul_assoc, ← Nat.pow_add]
          congr 2
          omega
        have es : (us.map sv).set pp (sv w') = (us.set pp w').map sv := by rw [List.map_set]
        rw [es]
        have ppu : pp < us.length := by rw [hM.len]; exact hppl
        have gs : (us.set pp w').getD pp [] = w' := by rw [List.getD_eq_getElem?_getD, List.getElem?_set, if_pos rfl, if_pos ppu]; rfl
        have gn : ∀ i, i ≠ pp → (us.set pp w').getD i [] = us.getD i [] := fun i hi => by rw [List.getD_eq_getElem?_getD, List.getElem?_set, if_neg (fun z => hi z.symm), List.getD_eq_getElem?_getD]
        have x6 : XP T H1 (upd H5 wd (.lst ((us.set pp w').map sv))) := x5.over fwd hw5 (fun _ z => nomatch z) fun _ z => nomatch z
        have hD6 : upd H5 wd (.lst ((us.set pp w').map sv)) D = some (.lst (intsV ms)) := upd_k hD5 hDw
        have hM6 : Made q ls ms (k + 1) (us.set pp w') := by
          refine ⟨by rw [List.length_set]; exact hM.len, fun j hj => ?_⟩
          rcases Nat.lt_or_ge j k with z | z
          · have : ms.getD j 0 ≠ pp := fun e => by
              have := getD_inj nd (by omega : j < ms.length) hk (e.trans epp.symm)
              omega
            rw [gn _ this]
            exact hM.at_ j z
          · cases (show j = k by omega)
            rw [epp, gs]
            exact ⟨wl, wdg, wv⟩
        have up : ∀ j, k + 1 ≤ j → j < ms.length → ls.getD pp 0 ≤ ls.getD (ms.getD j 0) 0 := fun j h1 h2 => by
          have := List.pairwise_iff_getElem.mp ho.2 k j hk h2 (by omega)
          rw [← epp]
          simpa [hk, h2] using this
        have ms1 := mass_step (q := q) (ls := ls) hk
        rw [epp] at ms1
        refine ⟨_, rfl, _, rfl, wd, _, (pp : Int), sv w', rfl, rfl, SqL.of upd_same, atI_nat (by rw [List.getElem?_map, List.getElem?_set, if_pos rfl, if_pos ppu]; rfl), _, rfl, w', q, rfl, hq1, hq2, wdg, by omega, fun e => ?_, fun f' fd' fl' fe => ?_⟩
        · refine ⟨x6, hD6, _, _, _, rfl, upd_same, hM6, .inr ⟨rfl, ?_⟩⟩
          rw [ms1, ← wv, ← Nat.succ_mul, show (vl q w').succ = q ^ ls.getD pp 0 by rw [← wl]; exact e, ← Nat.pow_add]
          congr 1
          omega
        · refine ⟨x6, hD6, _, _, _, rfl, upd_same, hM6, .inl ⟨f', rfl, fd', fun j h1 h2 => by have := up j h1 h2; omega, by omega, ?_⟩⟩
          rw [ms1, ← wv, ← Nat.succ_mul, show (vl q w').succ = vl q f' * q ^ (w'.length - f'.length) from fe.symm, Nat.mul_assoc, ← Nat.pow_add]
          congr 2
          omega
      · refine ⟨_, rfl, _, rfl, iteT' (by simp) ?_⟩
        intro x dx hx hdx ne
        have x6 : Ext H5 (upd (upd H5 dx (.own x)) x (.ins cF dx [])) := (Ext.new hdx).newer (by rw [upd_ne ne.symm]; exact hx)
        refine kF x dx _ ((XP.of pk x1).trans (x5.then x6)) (x1.free (x5.free hx)) upd_same ?_
        have := mass_up hq1 hk (Nat.le_refl _) (ls := ls) (ms := ms)
        rw [mass_all ho.1] at this
        have : 0 < q ^ (101 - ls.getD (ms.getD k 0) 0) := Nat.pow_pos (by omega)
        omega
    · rintro σ H5 ⟨x5, hD5, us, fv, pl, rfl, hw5, hM, hfr⟩
      rw [List.length_map] at hM hfr
      have hmass : mass q ls ≤ q ^ 101 := by
        rw [← mass_all ho.1]
        rcases hfr with ⟨fr, rfl, fd, fl, fl2, fv⟩ | ⟨rfl, fm⟩
        · rw [← fv]
          have := Nat.mul_le_mul_right (q ^ (101 - fr.length)) (Nat.le_of_lt (vl_lt fd))
          rw [← Nat.pow_add, show fr.length + (101 - fr.length) = 101 by omega] at this
          exact this
        · omega
      refine ⟨_, rfl, ?_⟩
      intro x dx hx hdx ne
      have x6 : Ext H5 (upd (upd H5 dx (.own x)) x (.ins cW dx [])) := (Ext.new hdx).newer (by rw [upd_ne ne.symm]; exact hx)
      refine ⟨x, wd, dx, us, rfl, upd_same, x6.lst hw5, by rw [hM.len]; omega, fun l H7 hl x7 hl7 => ⟨rfl, ?_⟩⟩
      have x17 := (XP.of pk x1).trans (x5.then (x6.trans x7))
      refine kW x dx l us _ (x17.over (x1.free (x5.free hx)) (x7.ins upd_same) (fun _ z => nomatch z) fun _ z => nomatch z) (x1.free (x5.free hx)) (x1.free (x5.free (x6.free hl))) upd_same (upd_k hl7 (ne_of_none upd_same hl).symm) (hM.words hq1 ho short) hmass
end
end L2


set_option Elab.async false
set_option linter.all false
set_option maxRecDepth 100000
set_option maxHeartbeats 4000000
namespace L2
open PySem PySem.Spec PyProof.Rows Tw
/-! ### for x, y in zip(a, b), both lists -/
section
variable {X : Cx} {pins : List (Addr × Obj)} {σ : St} {H H' : Hp} {s : Shared} {h' : Heap}
/-- records of ours turned -/
theorem Inv.turnedL {ch : List Addr} {tk : Nat} (I : Inv X pins σ H s) (k : ∀ b o, b ∉ ch → s.heap.get? b = some o → h'.get? b = some o) (hf : ∀ b ∈ ch, FpOk X pins H b) : Inv X pins σ H { s with heap := h', toks := tk } := by
  have nt : ∀ b u, H b = some u → b ∉ ch := fun b u e hb => by rw [(hf b hb).1] at e; cases e
  refine I.step (g' := s.gens) (d' := s.drawn) (ch := ch) (fun b hb => ?_) (fun b o _ _ hc q _ => k b o hc q) (fun b o _ _ hc q _ => ⟨o.slots, k b o hc q⟩) (fun b o _ q n => n) (fun b o hc q => ⟨o, k b o hc q⟩) (fun b ys q => q) (fun b o u q => q)
    (fun b ps q => ⟨#[], by rw [q]; simp⟩) (fun m hm => ?_) (fun b u q => ?_) I.bare
  · obtain ⟨_, f1, _, f3, f4, f5⟩ := hf b hb
    exact ⟨f3, f1, f4, f5⟩
  · obtain ⟨o, es, ep, ho, r⟩ := hm
    exact ⟨o, es, ep, k _ o (fun hb => (hf _ hb).2.1 rfl) ho, r⟩
  · refine (I.hok b u q).stay (fun c v hc z => k c v ?_ z) (fun c z => z) fun c ys z => z
    rcases hc with rfl | hc
    · exact nt c u q
    · exact nt c _ hc
/-- .. and a new tuple laid -/
theorem Inv.turnedT {ch : List Addr} {t : Addr} {xs : List V} {tk : Nat} (I : Inv X pins σ H s) (k : ∀ b o, b ∉ ch → s.heap.get? b = some o → h'.get? b = some o) (hf : ∀ b ∈ ch, FpOk X pins H b) (ht : s.heap.objs.size ≤ t)
    (new : ObjOk X.prog X.w (upd H t (.tup xs)) h' t (.tup xs)) : Inv X pins σ (upd H t (.tup xs)) { s with heap := h', toks := tk } := by
  have nt : ∀ b u, H b = some u → b ∉ ch := fun b u e hb => by rw [(hf b hb).1] at e; cases e
  have hn : H t = none := I.hok.fresh ht
  refine I.step (g' := s.gens) (d' := s.drawn) (ch := ch) (fun b hb => ?_) (fun b o _ _ hc q _ => k b o hc q) (fun b o _ _ hc q _ => ⟨o.slots, k b o hc q⟩) (fun b o _ q n => ?_) (fun b o hc q => ⟨o, k b o hc q⟩) (fun b ys q => upd_keep q hn) (fun b o u q => upd_keep q hn)
    (fun b ps q => ⟨#[], by rw [upd_keep q hn]; simp⟩) (fun m hm => ?_) (fun b u q => ?_) I.bare
  · obtain ⟨_, f1, _, f3, f4, f5⟩ := hf b hb
    exact ⟨f3, f1, f4, f5⟩
  · rw [upd_ne (Nat.ne_of_lt (Nat.lt_of_lt_of_le (Heap.lt_size q) ht))]
    exact n
  · obtain ⟨o, es, ep, ho, r⟩ := hm
    exact ⟨o, es, ep, k _ o (fun hb => (hf _ hb).2.1 rfl) ho, r⟩
  · by_cases hb : b = t
    · subst hb
      rw [upd_same] at q
      cases q
      exact new
    · rw [upd_ne hb] at q
      refine (I.hok b u q).stay (fun c v hc z => k c v ?_ z) (fun c z => upd_keep z hn) fun c ys z => upd_keep z hn
      rcases hc with rfl | hc
      · exact nt c u q
      · exact nt c _ hc
end
def Itz (K : PySem.W.Frag) (a b : Addr) : It :=
  ⟨fun i H => ∃ xs ys x y, SqL K H a xs ∧ SqL K H b ys ∧ xs[i]? = some x ∧ ys[i]? = some y,
    fun i H v H' => ∃ t, v = .ref t ∧ H t = none ∧ ∀ xs ys, SqL K H a xs → SqL K H b ys → ∃ x y, xs[i]? = some x ∧ ys[i]? = some y ∧ H' = upd H t (.tup [x, y]),
    fun i H => ∃ xs ys, SqL K H a xs ∧ SqL K H b ys ∧ (xs.length ≤ i ∨ ys.length ≤ i)⟩
theorem turn_zip {P : Program} {w : World} {K : PySem.W.Frag} {elts : List Expr} {x1} {pos : Pos} (a b z TI TO i1 i2 : Addr) (D : ZipApart z TI TO i1 i2 a b) :
    Turn P w K (.Tuple elts x1 pos) (Itz K a b) [z, TI, TO, i1, i2] z (fun i h => IsZip h z TI TO .none ∧ IsPair h TI (.ref i1) (.ref i2) ∧ (∃ x y, IsPair h TO x y) ∧ h.IsListIter i1 a i ∧ h.IsListIter i2 b i) where
  mem := by simp
  obj := fun i h st c hc => by
    obtain ⟨h1, h2, ⟨x, y, h3⟩, ⟨o4, h4, _, d4⟩, ⟨o5, h5, _, d5⟩⟩ := st
    simp only [List.mem_cons, List.not_mem_nil, or_false] at hc
    rcases hc with rfl | rfl | rfl | rfl | rfl
    · exact ⟨_, h1, fun v e => by cases (show Data.fields _ = Data.cell v from e)⟩
    · exact ⟨_, h2, fun v e => by cases (show Data.seq _ _ = Data.cell v from e)⟩
    · exact ⟨_, h3, fun v e => by cases (show Data.seq _ _ = Data.cell v from e)⟩
    · exact ⟨o4, h4, fun v e => by rw [d4] at e; cases e⟩
    · exact ⟨o5, h5, fun v e => by rw [d5] at e; cases e⟩
  keep := fun i h h' st k => by
    obtain ⟨h1, h2, ⟨x, y, h3⟩, h4, h5⟩ := st
    exact ⟨k z (by simp) _ h1, k TI (by simp) _ h2, ⟨x, y, k TO (by simp) _ h3⟩, h4.at fun o q => k i1 (by simp) o q, h5.at fun o q => k i2 (by simp) o q⟩
  item := by
    intro X hP hw hK hc i pins s σ H E I hf st hg
    subst hP hw hK
    obtain ⟨xs, ys, x, y, hq, hq', hx, hy⟩ := hg
    obtain ⟨hz, hTI, ⟨u0, v0, hTO⟩, h1, h2⟩ := st
    obtain ⟨its, rv, p, _⟩ := I.list hq
    obtain ⟨its', rv', p', _⟩ := I.list hq'
    obtain ⟨u, hu, ru⟩ := rv.get hx
    obtain ⟨v, hv, rv2⟩ := rv'.get hy
    refine wpAny_pyNext_zip_item D hz hTI hTO h1 h2 p.isList p'.isList (x := u) (y := v) (by simpa using hu) (by simpa using hv) fun h' a1 a2 a3 a4 a5 a6 hk => ?_
    have lt : ∀ {c o}, s.heap.get? c = some o → c < s.heap.objs.size := fun e => Heap.lt_size e
    have hfr : H s.heap.objs.size = none := I.hok.fresh (Nat.le_refl _)
    have fin : ∀ b ∈ [z, TI, TO, i1, i2], b < s.heap.objs.size := by
      intro c hc
      simp only [List.mem_cons, List.not_mem_nil, or_false] at hc
      rcases hc with rfl | rfl | rfl | rfl | rfl
      · exact lt hz
      · exact lt hTI
      · exact lt hTO
      · obtain ⟨o, q, _⟩ := h1; exact lt q
      · obtain ⟨o, q, _⟩ := h2; exact lt q
    have I1 : Inv X pins σ (upd H s.heap.objs.size (.tup [x, y])) { s with heap := h', toks := s.toks } := I.turnedT (ch := [z, TI, TO, i1, i2]) (fun c o hc q => hk c o (fun e => hc (by simp [e])) (fun e => hc (by simp [e])) (fun e => hc (by simp [e])) (fun e => hc (by simp [e])) q) hf (Nat.le_refl _)
      ⟨by show 2 ≤ sizeLine; decide, [u, v], .cons ru (.cons rv2 .nil), ⟨_, a5, rfl, _, rfl⟩⟩
    refine ⟨_, rfl, wpAny_letOwnedTupleGo_zip (s := { s with heap := h' }) a1 fun h2' hz2 sb2 => ?_⟩
    obtain ⟨f0, f1, f2, f3, f4, f5⟩ := hf z (by simp)
    have I2 := I1.turned (h' := h2') (t' := s.toks) (it := z) (fun b o hb q => (sb2.2 b hb).trans q) (by rw [upd_ne (Nat.ne_of_lt (fin z (by simp)))]; exact f0) f1 f3 f4 f5
    have kz : ∀ c o, c ≠ z → h'.get? c = some o → h2'.get? c = some o := fun c o hc q => (sb2.2 c hc).trans q
    refine ⟨.ref s.heap.objs.size, _, I2, rfl, ⟨_, rfl, hfr, fun xs2 ys2 q1 q2 => ⟨x, y, by rw [I.list_inj q1 hq]; exact hx, by rw [I.list_inj q2 hq']; exact hy, rfl⟩⟩, ⟨hz2, kz _ _ D.TIz (hk _ _ D.TIz D.TITO D.TIi1 D.TIi2 hTI), ⟨_, _, kz _ _ D.TOz a2⟩, a3.at fun o q => kz _ o D.i1z q, a4.at fun o q => kz _ o D.i2z q⟩, fun b hb => ?_⟩
    rw [upd_ne (Nat.ne_of_lt (fin b hb))]
    exact (hf b hb).1
  done := by
    intro X hP hw hK hc i pins s σ H E I hf st hg
    subst hP hw hK
    obtain ⟨xs, ys, hq, hq', hx⟩ := hg
    obtain ⟨hz, hTI, ⟨u0, v0, hTO⟩, h1, h2⟩ := st
    obtain ⟨its, rv, p, _⟩ := I.list hq
    obtain ⟨its', rv', p', _⟩ := I.list hq'
    have l1 := rv.length
    have l2 := rv'.length
    refine wpAny_pyNext_zip_end (I.ok.hd hc) D hz hTI hTO h1 h2 p.isList p'.isList ?_ fun h' hk => ⟨rfl, I.turnedL (tk := s.toks) (ch := [z, TI, TO, i1, i2]) (fun c o hc q => hk c o (fun e => hc (by simp [e])) (fun e => hc (by simp [e])) (fun e => hc (by simp [e])) (fun e => hc (by simp [e])) q) hf⟩
    rcases hx with hx | hx
    · exact .inl (by simp; omega)
    · exact .inr (by simp; omega)
  self := fun _ _ _ _ _ st h => wpAny_pyIter_zip st.1 h
def iZip (K : PySem.W.Frag) (ta : TA) : TI := fun σ H R => ta σ H fun vs H1 => ∃ a b, vs = [.ref a, .ref b] ∧ (∃ xs, SqL K H1 a xs) ∧ (∃ ys, SqL K H1 b ys) ∧ R (Itz K a b) H1
theorem pi_zip {X : Cx} {a b : Expr} {ta : TA} {p pos tpos : Pos} {elts : List Expr} {x1} (hg : Gl X "zip") (hm : X.mg "zip" = none) (ha : PA X [a, b] ta) (hs : starEach [a, b] X.env = [(false, eval a X.env), (false, eval b X.env)] := by rfl) (hs2 : starEach [b] X.env = [(false, eval b X.env)] := by rfl) :
    PI X (.Tuple elts x1 tpos) (.Call (.Name "zip" p) [a, b] [] pos) (iZip X.K ta) := by
  intro pins s σ H R I h
  refine Call_ (ld_blt I hg hm boot_zip (PyProof.Rows.callWith_type1 (thn (ha pos pins s σ H _ I h) fun us s1 ⟨vs, H1, I1, r1, q1⟩ => ?_) (by rw [hs, hs2]) (by rw [hs2]; rfl)))
  obtain ⟨l1, l2, ev, ⟨xs, hq⟩, ⟨ys, hq'⟩, q⟩ := q1
  subst ev
  cases r1 with
  | cons r r1 =>
    cases r1 with
    | cons r' r1 =>
      cases r1
      cases r
      cases r'
      obtain ⟨its, rv, pl, _⟩ := I1.list hq
      obtain ⟨its', rv', pl', _⟩ := I1.list hq'
      have lt1 : l1 < s1.heap.objs.size := let ⟨o, z, _⟩ := pl.isList; Heap.lt_size z
      have lt2 : l2 < s1.heap.objs.size := let ⟨o, z, _⟩ := pl'.isList; Heap.lt_size z
      refine call_zip_2 pl.isList pl'.isList fun h' hz hTI hTO hi1 hi2 hsz hk => ?_
      refine wpAny_pyIter_zip (s := { s1 with heap := h' }) hz ?_
      have I2 : Inv X pins σ H1 { s1 with heap := h', toks := s1.toks } := I1.kept (t' := s1.toks) hk
      refine ⟨s1.heap.objs.size + 4, [s1.heap.objs.size + 4, s1.heap.objs.size + 2, s1.heap.objs.size + 3, s1.heap.objs.size, s1.heap.objs.size + 1], _, _, H1, rfl, I2, turn_zip l1 l2 _ _ _ _ _ (zipApart_new lt1 lt2), ⟨hz, hTI, ⟨_, _, hTO⟩, hi1, hi2⟩, fun b hb => ?_, q⟩
      have hb' : s1.heap.objs.size ≤ b := by
        simp only [List.mem_cons, List.not_mem_nil, or_false] at hb
        rcases hb with rfl | rfl | rfl | rfl | rfl
        · exact Nat.le_add_right _ _
        · exact Nat.le_add_right _ _
        · exact Nat.le_add_right _ _
        · exact Nat.le_refl _
        · exact Nat.le_add_right _ _
      obtain ⟨f0, f1, f2, f3, f4, f5⟩ := I1.fpOk hb' (I1.hok.fresh hb')
      exact ⟨f0, f1, f2, f3, f4, f5⟩
/-- a loop over two lists that stay -/
theorem for_zip {K : PySem.W.Frag} {a b : Addr} {xs ys : List V} {g : TG} {tb : TS} {D : Ends} {σ : St} {H : Hp} (n : Nat) (hn : n = min xs.length ys.length) (Pv : Nat → St → Hp → Prop) (h0 : Pv 0 σ H) (hl : ∀ i σ H, i ≤ n → Pv i σ H → SqL K H a xs ∧ SqL K H b ys)
    (hs : ∀ i x y t σ H, xs[i]? = some x → ys[i]? = some y → Pv i σ H → H t = none → g (.ref t) σ (upd H t (.tup [x, y])) fun σ2 H2 => tb { D with nx := Pv (i + 1), ct := Pv (i + 1), bk := D.nx } σ2 H2) (hd : ∀ σ H, Pv n σ H → D.nx σ H) :
    ∃ W : Nat → Nat → St → Hp → Prop, (∃ m, W 0 m σ H) ∧ ∀ i m σ H, W i m σ H →
      ((Itz K a b).stop i H ∧ D.nx σ H) ∨ ((Itz K a b).go i H ∧ ∃ N : St → Hp → Prop, (∀ σ' H', N σ' H' → ∃ m', m' < m ∧ W (i + 1) m' σ' H') ∧ ∀ x H', (Itz K a b).yld i H x H' → g x σ H' fun σ2 H2 => tb { D with nx := N, ct := N, bk := D.nx } σ2 H2) := by
  refine ⟨fun i m σ H => m = n - i ∧ i ≤ n ∧ Pv i σ H, ⟨n, by simp, Nat.zero_le _, h0⟩, ?_⟩
  rintro i m σ H ⟨rfl, hi, p⟩
  obtain ⟨q1, q2⟩ := hl i σ H hi p
  by_cases hlt : i < n
  · have e1 : xs[i]? = some xs[i] := List.getElem?_eq_getElem (by omega)
    have e2 : ys[i]? = some ys[i] := List.getElem?_eq_getElem (by omega)
    refine .inr ⟨⟨xs, ys, _, _, q1, q2, e1, e2⟩, Pv (i + 1), fun σ' H' p' => ⟨n - (i + 1), by omega, rfl, hlt, p'⟩, fun v H' z => ?_⟩
    obtain ⟨t, rfl, ht, z⟩ := z
    obtain ⟨x, y, z1, z2, rfl⟩ := z xs ys q1 q2
    exact hs i x y t σ H z1 z2 p ht
  · have e : i = n := by omega
    subst e
    exact .inl ⟨⟨xs, ys, q1, q2, by omega⟩, hd σ H p⟩
end L2


set_option Elab.async false
set_option linter.all false
set_option maxRecDepth 100000
set_option maxHeartbeats 2000000
namespace L2
open PySem PySem.Spec PyProof.Rows
/-! ### the law's call, where a table of code is written -/
theorem law_callT {P : Program} {w : World} {K : PySem.W.Frag} {mg mb : Str → Option Value} {CX : CXT} {k : Nat} {fa a T : Addr} {fd : FuncData} {x : Str} {sp : Sp} {s₁ : Shared} {vs : List Value} {ns : List Int}
    (KX : K.In s₁.heap) (hns : s₁.heap.Ns mainGlobals mg) (hb : s₁.heap.Ns builtinsNs mb) (hbb : ∀ x : Str, x ≠ "__name__" → mb x = bootBuiltins x) (hlim : s₁.heap.NoLimit) (hg : s₁.gens = #[])
    (ha : s₁.heap.get? a = some { cls := .type "list", data := .seq vs.toArray }) (hi : IntsAre vs ns) (hl : ns.length ≤ sizeLine) (hr : Room k callerA)
    (KT : K.lookup T = none) (hT : s₁.heap.get? T = some { cls := .none, data := .fields #[] }) (tab : isCodeTable s₁.heap T) (M : BM mg s₁.heap)
    (F : ∀ base : Heap, K.In base → base.Ns mainGlobals mg → BM mg base → FnOk P w K mg base CX k fa fd [x] sp) (hbind : ∀ (s : Shared) (u : Value), BindsTo s fd ⟨[u], []⟩ [(x, u)])
    (hsp : ∀ H : Hp, H T = some (.tbl #[]) → SqL K H a (ns.map V.int) → sp [.ref a] H (fun v _ => v = .bl true) fun _ _ _ => False)
    (hCX : ∀ H e s', CX [] H s₁ (fun _ _ _ => False) e s' → False) :
    codeAny (model P w) callerA (.call (.ref fa) ⟨[.ref a], []⟩) (fun r s' => r = .ok (.ret (.bool true)) ∧ OldK s₁.heap s'.heap ∧ s'.os = s₁.os ∧ AllBare s'.gens) s₁ := by
  have rv := vals_ints hi
  have len := hi.length
  have aT : a ≠ T := fun z => by rw [z, hT] at ha; cases ha
  generalize eo : ({ cls := .type "list", data := .seq vs.toArray } : Obj) = oa at ha
  /- what is tracked at the entry: the table, and the script where it is no thing of the module -/
  let H : Hp := fun b => if b = T then some (.tbl #[]) else if b = a then (match K.lookup a with | none => some (.frz oa (.lst (ns.map V.int))) | some _ => none) else none
  have HT : H T = some (.tbl #[]) := if_pos rfl
  have Ha : H a = (match K.lookup a with | none => some (.frz oa (.lst (ns.map V.int))) | some _ => none) := by
    show (if a = T then _ else if a = a then _ else _) = _
    rw [if_neg aT, if_pos rfl]
  have Hn : ∀ b, b ≠ T → b ≠ a → H b = none := fun b h1 h2 => by
    show (if b = T then _ else if b = a then _ else _) = _
    rw [if_neg h1, if_neg h2]
  have lstA : ∀ {H' : Hp}, ObjOk P w H' s₁.heap a (.lst (ns.map V.int)) := by
    subst eo
    exact ⟨by rw [List.length_map]; exact hl, vs, _, rv, ha⟩
  have hok : HOk P w H s₁.heap := fun b u e => by
    by_cases z : b = T
    · subst z
      rw [HT] at e
      cases e
      exact hT
    · by_cases y : b = a
      · subst y
        rw [Ha] at e
        cases q : K.lookup b with
        | none =>
          rw [q] at e
          cases e
          exact ⟨ha, lstA⟩
        | some o =>
          rw [q] at e
          cases e
      · rw [Hn b z y] at e
        cases e
  have sq : SqL K H a (ns.map V.int) := by
    cases q : K.lookup a with
    | none => exact .inl (.inr ⟨oa, by rw [Ha, q]⟩)
    | some o =>
      have e := KX a o q
      rw [ha] at e
      cases e
      subst eo
      exact .inr ⟨_, vs.toArray, _, q, rfl, rfl, rfl, by rw [List.size_toArray, len]; exact hl, by simpa using rv⟩
  have noD : ∀ {b : Addr} {o : Obj}, s₁.heap.get? b = some o → (∀ fs, o.data ≠ .fields fs) → (∀ es n, o.data ≠ .seq es n) → H b = none := fun {b o} e n1 n2 => by
    refine Hn b (fun z => ?_) fun z => ?_
    · rw [z, hT] at e
      cases e
      exact n1 _ rfl
    · rw [z, ha, ← eo] at e
      cases e
      exact n2 _ _ rfl
  have nsK : ∀ {b : Addr} {m : Str → Option Value}, s₁.heap.Ns b m → (hidT s₁.heap H).Ns b m := fun {b m} ⟨o, es, ep, e, d, r⟩ => ⟨o, es, ep, hidT_get e (noD e (fun _ z => by rw [d] at z; cases z) fun _ _ z => by rw [d] at z; cases z), d, r⟩
  have kb : K.In (hidT s₁.heap H) := fun b o e => hidT_get (KX b o e) (by
    by_cases z : b = T
    · subst z
      rw [KT] at e
      cases e
    · by_cases y : b = a
      · subst y
        rw [Ha, e]
      · exact Hn b z y)
  have M' : BM mg (hidT s₁.heap H) := let ⟨bm, o, b1, b2, b3, b4, b5, b6⟩ := M; ⟨bm, o, b1, b2, hidT_get b3 (noD b3 (fun _ z => by rw [b6] at z; cases z) fun _ _ z => by rw [b6] at z; cases z), b4, b5, b6⟩
  have hM : Mod K mg (hidT s₁.heap H) := ⟨kb, nsK hns, ⟨mb, nsK hb, hbb⟩, let ⟨mc, h1, h2⟩ := hlim; ⟨mc, nsK h1, h2⟩⟩
  have e0 : Env0 P w K mg (hidT s₁.heap H) callerA [] s₁ H := ⟨rfl, hM, fun b o e => of_hidT e, Nat.le_of_eq (hidT_size _ _), trivial, fun b z => absurd (show b ∈ ([] : List Addr) from z) (by simp), hok, .of_eq hg⟩
  refine codeAny_mono ((F _ kb (nsK hns) M').run callerA [] s₁ H ⟨[.ref a], []⟩ [.ref a] [.ref a] _ _ hr e0 (hbind s₁ (.ref a)) (.cons rfl .nil) (hsp H HT sq)) fun r s' h => ?_
  cases r with
  | error e => exact (hCX H e s' h).elim
  | ok fl =>
    cases fl with
    | next => exact False.elim h
    | brk => exact False.elim h
    | cont => exact False.elim h
    | ret u =>
      obtain ⟨v, H', os, bare, un, hok', r', q⟩ := h
      cases (show v = .bl true from q)
      cases (show u = Value.bool true from r')
      refine ⟨rfl, ⟨fun b o e => ?_, fun b o e => un.there b o e (by simp)⟩, os, bare⟩
      by_cases z : b = T
      · subst z
        obtain ⟨more, e2⟩ := un.tbls b _ HT
        have e3 : s'.heap.get? b = some { cls := .none, data := .fields (#[] ++ more) } := hok' b _ e2
        rw [hT] at e
        cases e
        exact .inr (.inl ⟨tab, rfl, #[], more, rfl, e3⟩)
      · cases q : H b with
        | none => exact .inl (un.keep b o e q (fun z => absurd (show b ∈ ([] : List Addr) from z) (by simp)) (by simp))
        | some u =>
          have y : b = a := Classical.byContradiction fun y => by rw [Hn b z y] at q; cases q
          subst y
          rw [ha] at e
          cases e
          rw [Ha] at q
          cases q2 : K.lookup b with
          | none =>
            rw [q2] at q
            cases q
            obtain ⟨e2, _⟩ := hok' b _ (un.frzs b _ _ (by rw [Ha, q2]))
            exact .inl e2
          | some o =>
            rw [q2] at q
            cases q
end L2


set_option Elab.async false
set_option linter.all false
set_option maxRecDepth 100000
set_option maxHeartbeats 2000000
namespace L2
open PySem PySem.Spec PyProof.Rows Tw
seal PSs PS PE PT PW PA PG PGs PI PC
/-! ### none of the words begins the next one -/
def NoneNext (us : List W) : Prop := ∀ i, i < us.length - 1 → ¬ (us.getD i []).isPrefixOf (us.getD (i + 1) []) = true
instance (us : List W) : Decidable (NoneNext us) := by unfold NoneNext; infer_instance
theorem cut_tail (xs : List V) : cutV xs (some 1) none = xs.drop 1 := by
  have e1 : HT.sIx xs.length 0 (some 1) = min 1 xs.length := HT.sIx_nat xs.length 0 1
  unfold cutV
  rw [e1, HT.sIx_none]
  cases xs with
  | nil => rfl
  | cons x r =>
    have e2 : min 1 (x :: r).length = 1 := by simp only [List.length_cons]; omega
    rw [e2]
    refine List.take_of_length_le ?_
    simp
section
variable {P : Program} {w : World} {K : PySem.W.Frag} {mg : Str → Option Value} {base : Heap}
def spNoneNext (K : PySem.W.Frag) : Sp := fun vs H Q _ => ∃ (p : Addr) (us : List W), vs = [.ref p] ∧ SqL K H p (us.map sv) ∧ ∀ H', Ext H H' → Q (.bl (decide (NoneNext us))) H'
theorem ok_none_next (D : Def K mg "none_begins_next" "none_begins_next" Pl.s_none_begins_next ["words"]) (hz : mg "zip" = none) : Cal P w K mg base CX0 1 "none_begins_next" ["words"] (spNoneNext K) := by
  have sc : FnScope ["words", "one", "other"] ["words"] (defScope Pl.s_none_begins_next) := ⟨rfl, rfl, rfl, by decide +kernel, rfl, by decide +kernel, by decide +kernel⟩
  refine D.cal fun f fd F => F.ok sc (fun vs H Q E h => ?_) (fun cdv A outer s H vs Q E hr h => ?_)
  · obtain ⟨_, _, rfl, _⟩ := h
    rfl
  · obtain ⟨p, us, rfl, hq, k⟩ := h
    refine ⟨_, pss_cons (ps_for PassesOwn.never rfl (pi_zip (by rfl) hz (pa_cons (pv 0) (pa_cons (pe_slice sl_list (pv 0) (po_some pe_int) po_none) pa_nil)))
        (pg_tupK (K := K) (n := 2) rfl rfl (pgs_cons (pg_name (i := 1) sc.nd rfl (Or.inl rfl)) (pgs_cons (pg_name (i := 2) sc.nd rfl (Or.inl rfl)) pgs_nil)))
        (pss_one (ps_if (pt_val (pe_bm PySem.F.plainAttrs_str PySem.F.slot_str_startswith PySem.F.type_str_startswith mt_starts (pv 2) (pa_cons (pv 1) pa_nil))) (pss_one (ps_ret pe_bl)) pss_nil)))
      (pss_one (ps_ret pe_bl)), ?_⟩
    refine ⟨_, rfl, _, rfl, _, rfl, p, _, rfl, hq, fun q hq0 => ?_⟩
    rw [cut_tail]
    have x1 : Ext H (upd H q (.lst ((us.map sv).drop 1))) := Ext.new hq0
    refine ⟨p, q, rfl, ⟨_, x1.sqL hq⟩, ⟨_, SqL.of upd_same⟩, ?_⟩
    refine for_zip (K := K) (xs := us.map sv) (ys := (us.map sv).drop 1) (us.length - 1) (by simp) (fun i σ H2 => (∃ o1 o2 : Option V, σ = [some (.ref p), o1, o2]) ∧ Ext (upd H q (.lst ((us.map sv).drop 1))) H2 ∧ ∀ j, j < i → ¬ (us.getD j []).isPrefixOf (us.getD (j + 1) []) = true) ⟨⟨none, none, rfl⟩, Ext.refl _, fun j hj => absurd hj (Nat.not_lt_zero _)⟩
      (fun i σ H2 _ h => ⟨h.2.1.sqL (x1.sqL hq), h.2.1.sqL (SqL.of upd_same)⟩) ?_ ?_
    · rintro i x y t σ H2 hx hy ⟨⟨o1, o2, rfl⟩, x2, all⟩ ht
      rw [List.getElem?_map] at hx
      rw [List.getElem?_drop, List.getElem?_map] at hy
      obtain ⟨a, ha, rfl⟩ := Option.map_eq_some_iff.mp hx
      obtain ⟨b, hb, rfl⟩ := Option.map_eq_some_iff.mp hy
      have ea : us.getD i [] = a := by rw [List.getD_eq_getElem?_getD, ha]; rfl
      have eb : us.getD (i + 1) [] = b := by rw [List.getD_eq_getElem?_getD, show i + 1 = 1 + i by omega, hb]; rfl
      refine ⟨t, _, rfl, SqT.of upd_same, rfl, _, _, rfl, _, _, rfl, rfl, ?_⟩
      refine ⟨_, rfl, rfl, _, rfl, b, a, rfl, rfl, _, rfl, ?_⟩
      by_cases z : a.isPrefixOf b = true
      · rw [z]
        refine iteT ?_
        have no : ¬ NoneNext us := fun h => by
          have l : i + 1 < us.length := by
            have := (List.getElem?_eq_some_iff.mp hb).1
            omega
          exact h i (by omega) (by rw [ea, eb]; exact z)
        have := k _ ((x1.trans x2).newer (o := HO.tup [sv a, sv b]) ht)
        rw [decide_eq_false no] at this
        exact this
      · rw [eq_false_of_ne_true z]
        refine iteF ⟨⟨_, _, rfl⟩, x2.newer ht, fun j hj => ?_⟩
        by_cases e : j = i
        · subst e
          rw [ea, eb]
          exact z
        · exact all j (by omega)
    · rintro σ H2 ⟨⟨o1, o2, rfl⟩, x2, all⟩
      have := k H2 (x1.trans x2)
      rw [decide_eq_true (show NoneNext us from all)] at this
      exact this
end
end L2


set_option Elab.async false
set_option linter.all false
set_option maxRecDepth 100000
set_option maxHeartbeats 1000000
namespace Ts
open PySem PyProof.Rows
/-! ### sorting puts in order, however long the list is -/
section
variable {prog : Program} {w : World} {A : Around} {E : Value → Shared → Prop} {s : Shared} {κ : KeyKind}
/-- the key of one -/
def kv (κ : KeyKind) (p : Keyed) : κ.α := (κ.keyOf p.1).getD κ.dflt
theorem KK_at {xs : Array Keyed} {i : Nat} {p : Keyed} (h : xs[i]? = some p) : KK κ xs i = kv κ p := by unfold KK kv; rw [h]
abbrev isK (κ : KeyKind) (p : Keyed) : Prop := ∃ a, κ.keyOf p.1 = some a
def Ks (κ : KeyKind) (xs : Array Keyed) : Prop := ∀ (i : Nat) (p : Keyed), xs[i]? = some p → isK κ p
theorem Ks.perm {xs ys : Array Keyed} (h : Ks κ ys) (p : xs.Perm ys) : Ks κ xs := fun i q e => by
  have m : q ∈ ys.toList := (Array.perm_iff_toList_perm.mp p).mem_iff.mp (List.mem_of_getElem? (by rw [Array.getElem?_toList]; exact e))
  obtain ⟨j, hj⟩ := List.mem_iff_getElem?.mp m
  exact h j q (by rw [← Array.getElem?_toList]; exact hj)
variable {I : SortSt → Prop}
theorem ko_lt (hO : κ.OneLt) {x y : Keyed} (hk : ∀ st, I st → kindOf st = oneType') (hx : isK κ x) (hy : isK κ y) : Kp prog w A E s I (lt' x y) fun r => r = some (κ.blt (kv κ x) (kv κ y)) := by
  intro st i
  obtain ⟨a, e1⟩ := hx
  obtain ⟨b, e2⟩ := hy
  refine wpS_bind (wpS_get ?_)
  refine wpS_bind (wpS_lift (wpAny_attempt ?_))
  show wpAny _ _ (keyLt' (kindOf st) x.1 y.1) _ _ s
  rw [hk st i]
  refine hO prog w A _ s x.1 y.1 a b e1 e2 ⟨rfl, wpS_pure ⟨i, ?_⟩⟩
  unfold kv
  rw [e1, e2]
  rfl
/-- in order from lo to hi -/
def SoB (κ : KeyKind) (xs : Array Keyed) (lo hi : Nat) : Prop := ∀ i j, lo ≤ i → i ≤ j → j < hi → κ.kle (KK κ xs i) (KK κ xs j)
/-- what gallop asks of the i-th -/
def bey (κ : KeyKind) (left : Bool) (key : Keyed) (arr : Array Keyed) (base i : Nat) : Bool := if left = true then κ.blt (KK κ arr (base + i)) (kv κ key) else !κ.blt (kv κ key) (KK κ arr (base + i))
theorem bey_down {left : Bool} {key : Keyed} {arr : Array Keyed} {base n i j : Nat} (hs : SoB κ arr base (base + n)) (hij : i ≤ j) (hj : j < n) (h : bey κ left key arr base j = true) : bey κ left key arr base i = true := by
  have le := hs (base + i) (base + j) (by omega) (by omega) (by omega)
  unfold bey at h ⊢
  cases left with
  | true =>
    rw [if_pos rfl] at h ⊢
    exact KeyOrd.klt_of_kle_of_klt le h
  | false =>
    rw [if_neg Bool.false_ne_true] at h ⊢
    rw [Bool.not_eq_true'] at h ⊢
    exact KeyOrd.kle_trans le h
theorem bey_up {left : Bool} {key : Keyed} {arr : Array Keyed} {base n i j : Nat} (hs : SoB κ arr base (base + n)) (hij : i ≤ j) (hj : j < n) (h : bey κ left key arr base i = false) : bey κ left key arr base j = false := by
  cases z : bey κ left key arr base j with
  | false => rfl
  | true => rw [bey_down hs hij hj z] at h; cases h
/-- what is found: below k all, from k on none -/
structure Cutp (κ : KeyKind) (left : Bool) (key : Keyed) (arr : Array Keyed) (base n k : Nat) : Prop where
  le : k ≤ n
  lo : ∀ i, i < k → bey κ left key arr base i = true
  hi : ∀ i, k ≤ i → i < n → bey κ left key arr base i = false
theorem ko_gallop (hO : κ.OneLt) {left : Bool} {key : Keyed} {arr : Array Keyed} {base n hint : Nat} (hk : ∀ st, I st → kindOf st = oneType') (ha : Ks κ arr) (hy : isK κ key) (hb : base + n ≤ arr.size) (hh : hint < n) (hs : SoB κ arr base (base + n)) :
    Kp prog w A E s I (gallop' left key arr base n hint) fun r => ∃ k, r = some k ∧ Cutp κ left key arr base n k := by
  have be : ∀ i, i < n → Kp prog w A E s I (do
      let x ← elem' arr (base + i)
      if left then lt' x key else return (← lt' key x).map (!·)) fun r => r = some (bey κ left key arr base i) := fun i hi => by
    refine kp_bind (kp_elem (by (try dsimp only at *); omega)) fun p e => ?_
    have ip := ha _ _ e
    refine kp_ite (fun hl => kp_imp (ko_lt hO hk ip hy) fun r q => ?_) fun hl => kp_bind (ko_lt hO hk hy ip) fun r q => ?_
    · rw [q, bey, if_pos hl, KK_at e]
    · rw [q]
      refine kp_pure ?_
      rw [bey, if_neg hl, KK_at e]
      rfl
  refine kp_bind (be hint hh) fun r q => ?_
  subst q
  refine kp_ite (fun h0 => ?_) fun h0 => ?_
  · refine kp_bind (kp_for (fun i c => c.1 = none ∧ i < c.2.2 ∧ c.2.1 < c.2.2 ∧ hint + c.2.1 < n ∧ bey κ left key arr base (hint + c.2.1) = true) (R := fun c => c.1 = none ∧ c.2.1 < c.2.2 ∧ hint + c.2.1 < n ∧ bey κ left key arr base (hint + c.2.1) = true ∧ (n - hint ≤ c.2.2 ∨ bey κ left key arr base (hint + c.2.2) = false)) ?_ ?_ ⟨rfl, by (try dsimp only at *); omega, by (try dsimp only at *); omega, hh, h0⟩) fun c hc => ?_
    · rintro i ⟨r, lo, ofs⟩ _ _ ⟨rfl, h1, h2, h3, h4⟩
      dsimp only at h1 h2 h3 h4
      refine kp_ite (fun z => kp_pure ⟨rfl, h2, h3, h4, .inl z⟩) fun lt => kp_bind (be _ (by (try dsimp only at *); omega)) fun r q => ?_
      subst q
      have lt : ofs < n - hint := by (try dsimp only at *); omega
      refine kp_ite (fun z => kp_pure ⟨rfl, h2, h3, h4, .inr (by simpa using z)⟩) fun z => kp_pure ⟨rfl, by (try dsimp only at *); omega, by (try dsimp only at *); omega, by (try dsimp only at *); omega, by simpa using z⟩
    · rintro ⟨r, lo, ofs⟩ ⟨rfl, h1, h2, h3, h4⟩
      dsimp only at h1 h2 h3 h4
      exact ⟨rfl, h2, h3, h4, .inl (by (try dsimp only at *); omega)⟩
    · obtain ⟨r, lastofs, ofs⟩ := c
      obtain ⟨e, h1, h2, h3, h4⟩ := hc
      cases (show r = none from e)
      dsimp only at h1 h2 h3 h4
      refine kp_bind (kp_for (fun i c => c.1 = none ∧ c.2.1 ≤ c.2.2 ∧ c.2.2 ≤ n ∧ c.2.2 - c.2.1 + i ≤ n ∧ (∀ i, i < c.2.1 → bey κ left key arr base i = true) ∧ (∀ i, c.2.2 ≤ i → i < n → bey κ left key arr base i = false)) (R := fun c => c.1 = none ∧ Cutp κ left key arr base n c.2.2) ?_ ?_ ⟨rfl, by (try dsimp only at *); omega, by (try dsimp only at *); omega, by (try dsimp only at *); omega, ?_, ?_⟩) fun c hc => ?_
      · rintro i ⟨r, lo, hi⟩ _ _ ⟨rfl, g1, g2, g3, g4, g5⟩
        dsimp only at g1 g2 g3 g4 g5
        refine kp_ite (fun z => kp_pure ⟨rfl, g2, fun i hi => g4 i (by (try dsimp only at *); omega), g5⟩) fun lt => kp_bind (be _ (by (try dsimp only at *); omega)) fun r q => ?_
        subst q
        have lt : lo < hi := by (try dsimp only at *); omega
        refine kp_ite (fun z => kp_pure ⟨rfl, by (try dsimp only at *); omega, g2, by (try dsimp only at *); omega, fun i hi' => bey_down hs (by (try dsimp only at *); omega) (by (try dsimp only at *); omega) z, g5⟩) fun z => kp_pure ⟨rfl, by (try dsimp only at *); omega, by (try dsimp only at *); omega, by (try dsimp only at *); omega, g4, fun i h' h'' => bey_up hs (by (try dsimp only at *); omega) h'' (by simpa using z)⟩
      · rintro ⟨r, lo, hi⟩ ⟨rfl, g1, g2, g3, g4, g5⟩
        dsimp only at g1 g2 g3 g4 g5
        exact ⟨rfl, g2, fun i hi => g4 i (by (try dsimp only at *); omega), g5⟩
      · exact fun i hi' => bey_down hs (by (try dsimp only at *); omega) h2 h3
      · intro i h' h''
        rcases h4 with z | z
        · exact absurd h'' (by (try dsimp only at *); omega)
        · rcases Nat.lt_or_ge (hint + ofs) n with y | y
          · exact bey_up hs (by (try dsimp only at *); omega) h'' z
          · exact absurd h'' (by (try dsimp only at *); omega)
      · obtain ⟨r, lo, hi⟩ := c
        obtain ⟨e, h⟩ := hc
        cases (show r = none from e)
        exact kp_pure ⟨_, rfl, h⟩
  · have h0 : bey κ left key arr base hint = false := by simpa using h0
    refine kp_bind (kp_for (fun i c => c.1 = none ∧ i < c.2.2 ∧ c.2.1 < c.2.2 ∧ c.2.1 ≤ hint ∧ bey κ left key arr base (hint - c.2.1) = false) (R := fun c => c.1 = none ∧ c.2.1 < c.2.2 ∧ c.2.1 ≤ hint ∧ bey κ left key arr base (hint - c.2.1) = false ∧ (hint + 1 ≤ c.2.2 ∨ (c.2.2 ≤ hint ∧ bey κ left key arr base (hint - c.2.2) = true))) ?_ ?_ ⟨rfl, by (try dsimp only at *); omega, by (try dsimp only at *); omega, by (try dsimp only at *); omega, h0⟩) fun c hc => ?_
    · rintro i ⟨r, lo, ofs⟩ _ _ ⟨rfl, h1, h2, h3, h4⟩
      dsimp only at h1 h2 h3 h4
      refine kp_ite (fun z => kp_pure ⟨rfl, h2, h3, h4, .inl z⟩) fun lt => kp_bind (be _ (by (try dsimp only at *); omega)) fun r q => ?_
      subst q
      have lt : ofs < hint + 1 := by (try dsimp only at *); omega
      refine kp_ite (fun z => kp_pure ⟨rfl, h2, h3, h4, .inr ⟨by (try dsimp only at *); omega, z⟩⟩) fun z => kp_pure ⟨rfl, by (try dsimp only at *); omega, by (try dsimp only at *); omega, by (try dsimp only at *); omega, by simpa using z⟩
    · rintro ⟨r, lo, ofs⟩ ⟨rfl, h1, h2, h3, h4⟩
      dsimp only at h1 h2 h3 h4
      exact ⟨rfl, h2, h3, h4, .inl (by (try dsimp only at *); omega)⟩
    · obtain ⟨r, lastofs, ofs⟩ := c
      obtain ⟨e, h1, h2, h3, h4⟩ := hc
      cases (show r = none from e)
      dsimp only at h1 h2 h3 h4
      refine kp_bind (kp_for (fun i c => c.1 = none ∧ c.2.1 ≤ c.2.2 ∧ c.2.2 ≤ n ∧ c.2.2 - c.2.1 + i ≤ n ∧ (∀ i, i < c.2.1 → bey κ left key arr base i = true) ∧ (∀ i, c.2.2 ≤ i → i < n → bey κ left key arr base i = false)) (R := fun c => c.1 = none ∧ Cutp κ left key arr base n c.2.2) ?_ ?_ ⟨rfl, by (try dsimp only at *); omega, by (try dsimp only at *); omega, by (try dsimp only at *); omega, ?_, ?_⟩) fun c hc => ?_
      · rintro i ⟨r, lo, hi⟩ _ _ ⟨rfl, g1, g2, g3, g4, g5⟩
        dsimp only at g1 g2 g3 g4 g5
        refine kp_ite (fun z => kp_pure ⟨rfl, g2, fun i hi => g4 i (by (try dsimp only at *); omega), g5⟩) fun lt => kp_bind (be _ (by (try dsimp only at *); omega)) fun r q => ?_
        subst q
        have lt : lo < hi := by (try dsimp only at *); omega
        refine kp_ite (fun z => kp_pure ⟨rfl, by (try dsimp only at *); omega, g2, by (try dsimp only at *); omega, fun i hi' => bey_down hs (by (try dsimp only at *); omega) (by (try dsimp only at *); omega) z, g5⟩) fun z => kp_pure ⟨rfl, by (try dsimp only at *); omega, by (try dsimp only at *); omega, by (try dsimp only at *); omega, g4, fun i h' h'' => bey_up hs (by (try dsimp only at *); omega) h'' (by simpa using z)⟩
      · rintro ⟨r, lo, hi⟩ ⟨rfl, g1, g2, g3, g4, g5⟩
        dsimp only at g1 g2 g3 g4 g5
        exact ⟨rfl, g2, fun i hi => g4 i (by (try dsimp only at *); omega), g5⟩
      · intro i hi'
        rcases h4 with z | ⟨y, z⟩
        · exact absurd hi' (by (try dsimp only at *); omega)
        · exact bey_down hs (by (try dsimp only at *); omega) (by (try dsimp only at *); omega) z
      · exact fun i h' h'' => bey_up hs (by (try dsimp only at *); omega) h'' h3
      · obtain ⟨r, lo, hi⟩ := c
        obtain ⟨e, h⟩ := hc
        cases (show r = none from e)
        exact kp_pure ⟨_, rfl, h⟩
end
end Ts


set_option Elab.async false
set_option linter.all false
set_option maxRecDepth 100000
set_option maxHeartbeats 1000000
namespace Ts
open PySem PyProof.Rows
section
variable {prog : Program} {w : World} {A : Around} {E : Value → Shared → Prop} {s : Shared} {κ : KeyKind} {I : SortSt → Prop}
/-- not behind it -/
def Le (κ : KeyKind) (x y : Keyed) : Prop := κ.kle (kv κ x) (kv κ y)
theorem Le.trans {x y z : Keyed} (h : Le κ x y) (k : Le κ y z) : Le κ x z := KeyOrd.kle_trans h k
abbrev So (κ : KeyKind) (l : List Keyed) : Prop := l.Pairwise (Le κ)
theorem drop_cons {l : List Keyed} {i : Nat} {p : Keyed} (h : l[i]? = some p) : l.drop i = p :: l.drop (i + 1) := by
  obtain ⟨hi, e⟩ := List.getElem?_eq_some_iff.mp h
  rw [List.drop_eq_getElem_cons hi, e]
theorem So.soB {xs : Array Keyed} (h : So κ xs.toList) (lo hi : Nat) (hh : hi ≤ xs.size) : SoB κ xs lo hi := fun i j _ h2 h3 => by
  have e1 : xs[i]? = some (xs[i]'(by omega)) := Array.getElem?_eq_getElem _
  have e2 : xs[j]? = some (xs[j]'(by omega)) := Array.getElem?_eq_getElem _
  rw [KK_at e1, KK_at e2]
  rcases Nat.lt_or_ge i j with z | z
  · exact List.pairwise_iff_getElem.mp h i j (by rw [Array.length_toList]; omega) (by rw [Array.length_toList]; omega) z
  · cases Nat.le_antisymm h2 z
    exact KeyOrd.kle_refl _
theorem mem_drop {xs : Array Keyed} {i : Nat} {x : Keyed} (h : x ∈ xs.toList.drop i) : ∃ k, i ≤ k ∧ k < xs.size ∧ xs[k]? = some x := by
  obtain ⟨k, hk, e⟩ := List.mem_iff_getElem.mp h
  rw [List.length_drop, Array.length_toList] at hk
  refine ⟨i + k, by omega, by omega, ?_⟩
  rw [← e, List.getElem_drop, Array.getElem_toList]
  exact Array.getElem?_eq_getElem _
theorem mem_part {xs : Array Keyed} {i k : Nat} {x : Keyed} (h : x ∈ (xs.toList.drop i).take k) : ∃ m, m < k ∧ i + m < xs.size ∧ xs[i + m]? = some x := by
  obtain ⟨m, hm, e⟩ := List.mem_iff_getElem.mp h
  rw [List.length_take, List.length_drop, Array.length_toList] at hm
  refine ⟨m, by omega, by omega, ?_⟩
  rw [← e, List.getElem_take, List.getElem_drop, Array.getElem_toList]
  exact Array.getElem?_eq_getElem _
/-- of a the first i, of b the first j have been taken, in order -/
structure Mo (κ : KeyKind) (a b out : Array Keyed) (i j : Nat) : Prop where
  tk : Tk a b out i j
  so : So κ out.toList
  ha : ∀ x ∈ out.toList, ∀ y ∈ a.toList.drop i, Le κ x y
  hb : ∀ x ∈ out.toList, ∀ y ∈ b.toList.drop j, Le κ x y
section
variable {a b out : Array Keyed} {i j k : Nat} {p : Keyed}
theorem Mo.start : Mo κ a b #[] 0 0 := ⟨show List.Perm _ _ by simp, .nil, fun x hx => by simp at hx, fun x hx => by simp at hx⟩
theorem Mo.pushB (h : Mo κ a b out i j) (sb : So κ b.toList) (e : b[j]? = some p) (hp : ∀ y ∈ a.toList.drop i, Le κ p y) : Mo κ a b (out.push p) i (j + 1) := by
  have ed := drop_cons (l := b.toList) (i := j) (by rw [Array.getElem?_toList]; exact e)
  have sd : So κ (b.toList.drop j) := sb.sublist (List.drop_sublist _ _)
  rw [ed] at sd
  have sp := List.pairwise_cons.mp sd
  refine ⟨h.tk.pushB e, ?_, fun x hx y hy => ?_, fun x hx y hy => ?_⟩
  · rw [Array.toList_push, So, List.pairwise_append]
    exact ⟨h.so, List.pairwise_singleton _ _, fun x hx y hy => by rw [List.mem_singleton.mp hy]; exact h.hb x hx p (by rw [ed]; exact List.mem_cons_self)⟩
  · rw [Array.toList_push] at hx
    rcases List.mem_append.mp hx with z | z
    · exact h.ha x z y hy
    · rw [List.mem_singleton.mp z]; exact hp y hy
  · rw [Array.toList_push] at hx
    rcases List.mem_append.mp hx with z | z
    · exact h.hb x z y (by rw [ed]; exact List.mem_cons_of_mem _ hy)
    · rw [List.mem_singleton.mp z]; exact sp.1 y hy
theorem Mo.pushA (h : Mo κ a b out i j) (sa : So κ a.toList) (e : a[i]? = some p) (hp : ∀ y ∈ b.toList.drop j, Le κ p y) : Mo κ a b (out.push p) (i + 1) j := by
  have ed := drop_cons (l := a.toList) (i := i) (by rw [Array.getElem?_toList]; exact e)
  have sd : So κ (a.toList.drop i) := sa.sublist (List.drop_sublist _ _)
  rw [ed] at sd
  have sp := List.pairwise_cons.mp sd
  refine ⟨h.tk.pushA e, ?_, fun x hx y hy => ?_, fun x hx y hy => ?_⟩
  · rw [Array.toList_push, So, List.pairwise_append]
    exact ⟨h.so, List.pairwise_singleton _ _, fun x hx y hy => by rw [List.mem_singleton.mp hy]; exact h.ha x hx p (by rw [ed]; exact List.mem_cons_self)⟩
  · rw [Array.toList_push] at hx
    rcases List.mem_append.mp hx with z | z
    · exact h.ha x z y (by rw [ed]; exact List.mem_cons_of_mem _ hy)
    · rw [List.mem_singleton.mp z]; exact sp.1 y hy
  · rw [Array.toList_push] at hx
    rcases List.mem_append.mp hx with z | z
    · exact h.hb x z y hy
    · rw [List.mem_singleton.mp z]; exact hp y hy
theorem Mo.runA (h : Mo κ a b out i j) (sa : So κ a.toList) (hr : ∀ x ∈ (a.toList.drop i).take k, ∀ y ∈ b.toList.drop j, Le κ x y) : Mo κ a b (out ++ a.extract i (i + k)) (i + k) j := by
  have sd : So κ (a.toList.drop i) := sa.sublist (List.drop_sublist _ _)
  rw [← List.take_append_drop k (a.toList.drop i), List.drop_drop, So, List.pairwise_append] at sd
  have dr : ∀ y ∈ a.toList.drop (i + k), y ∈ a.toList.drop i := fun y hy => by rw [← List.drop_drop] at hy; exact List.mem_of_mem_drop hy
  refine ⟨h.tk.runA, ?_, fun x hx y hy => ?_, fun x hx y hy => ?_⟩
  · rw [Array.toList_append, part_list, So, List.pairwise_append]
    exact ⟨h.so, sd.1, fun x hx y hy => h.ha x hx y (List.mem_of_mem_take hy)⟩
  · rw [Array.toList_append, part_list] at hx
    rcases List.mem_append.mp hx with z | z
    · exact h.ha x z y (dr y hy)
    · exact sd.2.2 x z y hy
  · rw [Array.toList_append, part_list] at hx
    rcases List.mem_append.mp hx with z | z
    · exact h.hb x z y hy
    · exact hr x z y hy
theorem Mo.runB (h : Mo κ a b out i j) (sb : So κ b.toList) (hr : ∀ x ∈ (b.toList.drop j).take k, ∀ y ∈ a.toList.drop i, Le κ x y) : Mo κ a b (out ++ b.extract j (j + k)) i (j + k) := by
  have sd : So κ (b.toList.drop j) := sb.sublist (List.drop_sublist _ _)
  rw [← List.take_append_drop k (b.toList.drop j), List.drop_drop, So, List.pairwise_append] at sd
  have dr : ∀ y ∈ b.toList.drop (j + k), y ∈ b.toList.drop j := fun y hy => by rw [← List.drop_drop] at hy; exact List.mem_of_mem_drop hy
  refine ⟨h.tk.runB, ?_, fun x hx y hy => ?_, fun x hx y hy => ?_⟩
  · rw [Array.toList_append, part_list, So, List.pairwise_append]
    exact ⟨h.so, sd.1, fun x hx y hy => h.hb x hx y (List.mem_of_mem_take hy)⟩
  · rw [Array.toList_append, part_list] at hx
    rcases List.mem_append.mp hx with z | z
    · exact h.ha x z y hy
    · exact hr x z y hy
  · rw [Array.toList_append, part_list] at hx
    rcases List.mem_append.mp hx with z | z
    · exact h.hb x z y (dr y hy)
    · exact sd.2.2 x z y hy
/-- all of both, in order -/
def Mgd (κ : KeyKind) (a b r : Array Keyed) : Prop := r.Perm (a ++ b) ∧ So κ r.toList
theorem Mo.done (h : Mo κ a b out i j) (sa : So κ a.toList) (sb : So κ b.toList) (e : a.size ≤ i ∨ b.size ≤ j) : Mgd κ a b (out ++ a.extract i a.size ++ b.extract j b.size) := by
  refine ⟨h.tk.done, ?_⟩
  rw [Array.toList_append, Array.toList_append, rest_list, rest_list, List.append_assoc, So, List.pairwise_append]
  refine ⟨h.so, ?_, fun x hx y hy => ?_⟩
  · rcases e with e | e
    · rw [List.drop_eq_nil_of_le (by rw [Array.length_toList]; exact e), List.nil_append]
      exact sb.sublist (List.drop_sublist _ _)
    · rw [List.drop_eq_nil_of_le (as := b.toList) (by rw [Array.length_toList]; exact e), List.append_nil]
      exact sa.sublist (List.drop_sublist _ _)
  · rcases List.mem_append.mp hy with z | z
    · exact h.ha x hx y z
    · exact h.hb x hx y z
theorem Mo.last (h : Mo κ a b out i j) (sa : So κ a.toList) (sb : So κ b.toList) (e : i + 1 = a.size) (hl : ∀ x ∈ b.toList, ∀ y, a[a.size - 1]? = some y → Le κ x y) : Mgd κ a b (out ++ b.extract j b.size ++ a.extract i a.size) := by
  refine ⟨h.tk.last, ?_⟩
  rw [Array.toList_append, Array.toList_append, rest_list, rest_list, List.append_assoc, So, List.pairwise_append, List.pairwise_append]
  refine ⟨h.so, ⟨sb.sublist (List.drop_sublist _ _), sa.sublist (List.drop_sublist _ _), fun x hx y hy => ?_⟩, fun x hx y hy => ?_⟩
  · obtain ⟨k, h1, h2, h3⟩ := mem_drop hy
    exact hl x (List.mem_of_mem_drop hx) y (by rw [show a.size - 1 = k by omega]; exact h3)
  · rcases List.mem_append.mp hy with z | z
    · exact h.hb x hx y z
    · exact h.ha x hx y z
end
/-- what a cut says of those behind a mark -/
theorem Cutp.right {key : Keyed} {arr : Array Keyed} {base k : Nat} (h : Cutp κ false key arr base (arr.size - base) k) : (∀ x ∈ (arr.toList.drop base).take k, Le κ x key) ∧ ∀ y ∈ arr.toList.drop (base + k), Le κ key y := by
  refine ⟨fun x hx => ?_, fun y hy => ?_⟩
  · obtain ⟨m, h1, h2, e⟩ := mem_part hx
    have := h.lo m h1
    unfold bey at this
    rw [if_neg Bool.false_ne_true, Bool.not_eq_true', KK_at e] at this
    exact this
  · obtain ⟨m, h1, h2, e⟩ := mem_drop hy
    have := h.hi (m - base) (by omega) (by omega)
    unfold bey at this
    rw [if_neg Bool.false_ne_true, Bool.not_eq_false', show base + (m - base) = m by omega, KK_at e] at this
    exact KeyOrd.kle_of_klt this
theorem Cutp.left {key : Keyed} {arr : Array Keyed} {base k : Nat} (h : Cutp κ true key arr base (arr.size - base) k) : (∀ x ∈ (arr.toList.drop base).take k, Le κ x key) ∧ ∀ y ∈ arr.toList.drop (base + k), Le κ key y := by
  refine ⟨fun x hx => ?_, fun y hy => ?_⟩
  · obtain ⟨m, h1, h2, e⟩ := mem_part hx
    have := h.lo m h1
    unfold bey at this
    rw [if_pos rfl, KK_at e] at this
    exact KeyOrd.kle_of_klt this
  · obtain ⟨m, h1, h2, e⟩ := mem_drop hy
    have := h.hi (m - base) (by omega) (by omega)
    unfold bey at this
    rw [if_pos rfl, show base + (m - base) = m by omega, KK_at e] at this
    exact this
theorem So.from {xs : Array Keyed} {i : Nat} {p : Keyed} (h : So κ xs.toList) (e : xs[i]? = some p) : ∀ y ∈ xs.toList.drop i, Le κ p y := fun y hy => by
  have ed := drop_cons (l := xs.toList) (i := i) (by rw [Array.getElem?_toList]; exact e)
  have sd : So κ (xs.toList.drop i) := h.sublist (List.drop_sublist _ _)
  rw [ed] at sd hy
  rcases List.mem_cons.mp hy with z | z
  · rw [z]; exact KeyOrd.kle_refl _
  · exact (List.pairwise_cons.mp sd).1 y z
theorem ko_mergeLo (hO : κ.OneLt) {a b : Array Keyed} (hk : ∀ st, I st → kindOf st = oneType') (hg : ∀ st g, I st → I (SortSt.mk' (kindOf st) (arrOf st) (pendingOf st) g (failedOf st))) (ha : Ks κ a) (hb : Ks κ b) (na : 0 < a.size) (nb : 0 < b.size) (sa : So κ a.toList) (sb : So κ b.toList) (hf : ∀ x, b[0]? = some x → ∀ y ∈ a.toList, Le κ x y) (hl : ∀ x ∈ b.toList, ∀ y, a[a.size - 1]? = some y → Le κ x y) :
    Kp prog w A E s I (mergeLo' a b) fun r => Mgd κ a b r := by
  refine kp_bind kp_rule fun _ _ => kp_bind (kp_elem nb) fun p0 e0 => ?_
  refine kp_ite (fun z => kp_pure ?_) fun z1 => kp_ite (fun z => kp_pure ?_) fun z2 => kp_bind kp_get fun st0 _ => ?_
  · have T0 : Mo κ a b #[p0] 0 1 := Mo.start.pushB sb e0 fun y hy => hf p0 e0 y (by simpa using hy)
    exact T0.done sa sb (.inr (by simp at z; omega))
  · have T0 : Mo κ a b #[p0] 0 1 := Mo.start.pushB sb e0 fun y hy => hf p0 e0 y (by simpa using hy)
    exact T0.last sa sb (by simp at z; omega) hl
  · have T0 : Mo κ a b #[p0] 0 1 := Mo.start.pushB sb e0 fun y hy => hf p0 e0 y (by simpa using hy)
    have y1 : 1 < b.size := by simp at z1; omega
    have y2 : 0 + 1 < a.size := by simp at z2; omega
    refine kp_bind (R := fun c => ∃ r, c.1 = some r ∧ Mgd κ a b r) (kp_for (fun i c => c.1 = none ∧ Mo κ a b c.2.1 c.2.2.1 c.2.2.2.1 ∧ c.2.2.1 + 1 < a.size ∧ c.2.2.2.1 < b.size ∧ i + 1 ≤ c.2.2.1 + c.2.2.2.1) ?_ ?_ ⟨rfl, T0, y2, y1, by (try dsimp only); omega⟩) fun c hc => ?_
    · rintro i ⟨r, out, ia, ib, mg⟩ - hi ⟨rfl, T, h1, h2, h3⟩
      dsimp only at T h1 h2 h3
      refine kp_bind (R := fun c => (∃ r, c.1 = some r ∧ Mgd κ a b r) ∨ (c.1 = none ∧ Mo κ a b c.2.1 c.2.2.1 c.2.2.2.1 ∧ c.2.2.1 + 1 < a.size ∧ c.2.2.2.1 < b.size ∧ i + 2 ≤ c.2.2.1 + c.2.2.2.1))
        (kp_for (fun j c => c.1 = none ∧ Mo κ a b c.2.1 c.2.2.1 c.2.2.2.1 ∧ c.2.2.1 + 1 < a.size ∧ c.2.2.2.1 < b.size ∧ i + 1 + j ≤ c.2.2.1 + c.2.2.2.1) ?_ ?_ ⟨rfl, T, h1, h2, h3⟩) fun c hc => ?_
      · rintro j ⟨r, out, ia, ib, ac, bc⟩ - hj ⟨rfl, T, h1, h2, h3⟩
        dsimp only at T h1 h2 h3
        refine kp_bind (kp_elem h2) fun pb eb => kp_bind (kp_elem (i := ia) (by omega)) fun pa ea => kp_bind (ko_lt hO hk (hb _ _ eb) (ha _ _ ea)) fun r q => ?_
        subst q
        refine kp_ite (fun hw => kp_bind (kp_elem h2) fun pb' eb' => ?_) fun hw => kp_bind (kp_elem (i := ia) (by omega)) fun pa' ea' => ?_
        · cases eb.symm.trans eb'
          have T' := T.pushB sb eb fun y hy => (show Le κ pb pa from KeyOrd.kle_of_klt hw).trans (sa.from ea y hy)
          refine kp_ite (fun z => kp_pure (.inl ⟨_, rfl, T'.done sa sb (.inr (by simp at z; omega))⟩)) fun z => ?_
          have z' : ib + 1 < b.size := by simp at z; omega
          exact kp_ite (fun _ => kp_pure (.inr ⟨rfl, T', h1, z', by (try dsimp only); omega⟩)) fun _ => kp_pure ⟨rfl, T', h1, z', by (try dsimp only); omega⟩
        · cases ea.symm.trans ea'
          have T' := T.pushA sa ea fun y hy => (show Le κ pa pb by simpa [Le, KeyOrd.kle] using hw).trans (sb.from eb y hy)
          refine kp_ite (fun z => kp_pure (.inl ⟨_, rfl, T'.last sa sb (by simp at z; omega) hl⟩)) fun z => ?_
          have z' : ia + 1 + 1 < a.size := by simp at z; omega
          exact kp_ite (fun _ => kp_pure (.inr ⟨rfl, T', z', h2, by (try dsimp only); omega⟩)) fun _ => kp_pure ⟨rfl, T', z', h2, by (try dsimp only); omega⟩
      · rintro ⟨r, out, ia, ib, ac, bc⟩ ⟨rfl, T, h1, h2, h3⟩
        exact .inr ⟨rfl, T, h1, h2, by dsimp only at h3 ⊢; omega⟩
      · obtain ⟨r, out, ia, ib, ac, bc⟩ := c
        rcases hc with ⟨r', e, q⟩ | ⟨e, T, h1, h2, h3⟩
        · cases e
          exact kp_pure ⟨_, rfl, q⟩
        · cases (show r = none from e)
          dsimp only at T h1 h2 h3
          refine kp_bind kp_rule fun _ _ => ?_
          refine kp_bind (R := fun c => (∃ r, c.1 = some r ∧ Mgd κ a b r) ∨ (c.1 = none ∧ Mo κ a b c.2.1 c.2.2.1 c.2.2.2.1 ∧ c.2.2.1 + 1 < a.size ∧ c.2.2.2.1 < b.size ∧ i + 2 ≤ c.2.2.1 + c.2.2.2.1))
            (kp_for (fun _ c => c.1 = none ∧ Mo κ a b c.2.1 c.2.2.1 c.2.2.2.1 ∧ c.2.2.1 + 1 < a.size ∧ c.2.2.2.1 < b.size ∧ i + 2 ≤ c.2.2.1 + c.2.2.2.1) ?_ (fun c h => .inr h) ⟨rfl, T, h1, h2, h3⟩) fun c hc => ?_
          · rintro j ⟨r, out, ia, ib, mg, ac, bc⟩ - hj ⟨rfl, T, h1, h2, h3⟩
            dsimp only at T h1 h2 h3
            refine kp_ite (fun _ => ?_) fun _ => ?_
            all_goals
              refine kp_bind (kp_modify fun st q => hg st _ q) fun _ _ => kp_bind (kp_elem h2) fun pb eb => kp_bind (ko_gallop hO hk ha (hb _ _ eb) (by (try dsimp only); omega) (by (try dsimp only); omega) (sa.soB _ _ (by (try dsimp only); omega))) fun r q => ?_
              obtain ⟨k, rfl, kc⟩ := q
              have kl := kc.le
              have kr := kc.right
              try dsimp only at kl kr
              refine kp_ite (fun k0 => ?_) fun k0 => ?_
              · have T := T.runA (k := k) sa fun x hx y hy => (kr.1 x hx).trans (sb.from eb y hy)
                refine kp_ite (fun z => kp_pure (.inl ⟨_, rfl, T.last sa sb (by (try dsimp only at z); simpa using z) hl⟩)) fun z => kp_ite (fun z => kp_pure (.inl ⟨_, rfl, T.done sa sb (.inl (by (try dsimp only at z); simp only [beq_iff_eq] at z; omega))⟩)) fun z' => ?_
                have h1 : ia + k + 1 < a.size := by
                  try dsimp only at z z'
                  simp only [beq_iff_eq] at z z'
                  omega
                have h3 : i + 2 ≤ ia + k + ib := by omega
                refine kp_bind (kp_elem h2) fun pb' eb' => ?_
                cases eb.symm.trans eb'
                have T := T.pushB sb eb kr.2
                refine kp_ite (fun z => kp_pure (.inl ⟨_, rfl, T.done sa sb (.inr (by (try dsimp only at z); simp only [beq_iff_eq] at z; omega))⟩)) fun z => ?_
                have h2 : ib + 1 < b.size := by
                  try dsimp only at z
                  simp only [beq_iff_eq] at z
                  omega
                refine kp_bind (kp_elem (Nat.lt_of_succ_lt h1)) fun pa ea => kp_bind (ko_gallop hO hk hb (ha _ _ ea) (by (try dsimp only); omega) (by (try dsimp only); omega) (sb.soB _ _ (by (try dsimp only); omega))) fun r q => ?_
                obtain ⟨k2, rfl, kc2⟩ := q
                have kl2 := kc2.le
                have kr2 := kc2.left
                try dsimp only at kl2 kr2
                refine kp_ite (fun k0 => ?_) fun k0 => ?_
                · have T := T.runB (k := k2) sb fun x hx y hy => (kr2.1 x hx).trans (sa.from ea y hy)
                  refine kp_ite (fun z => kp_pure (.inl ⟨_, rfl, T.done sa sb (.inr (by (try dsimp only at z); simp only [beq_iff_eq] at z; omega))⟩)) fun z => ?_
                  have h2 : ib + 1 + k2 < b.size := by
                    dsimp only at z
                    simp only [beq_iff_eq] at z
                    omega
                  refine kp_bind (kp_elem (Nat.lt_of_succ_lt h1)) fun pa' ea' => ?_
                  cases ea.symm.trans ea'
                  have T := T.pushA sa ea kr2.2
                  refine kp_ite (fun z => kp_pure (.inl ⟨_, rfl, T.last sa sb (by (try dsimp only at z); simpa using z) hl⟩)) fun z => ?_
                  have h1 := lo_next h1 z
                  exact kp_ite (fun _ => kp_pure (.inr ⟨rfl, T, h1, h2, by (try dsimp only); omega⟩)) fun _ => kp_pure ⟨rfl, T, h1, h2, by (try dsimp only); omega⟩
                · refine kp_bind (kp_elem (Nat.lt_of_succ_lt h1)) fun pa' ea' => ?_
                  cases ea.symm.trans ea'
                  have k02 : k2 = 0 := by (try dsimp only at k0); omega
                  have T := T.pushA sa ea (by have := kr2.2; rw [k02] at this; exact this)
                  refine kp_ite (fun z => kp_pure (.inl ⟨_, rfl, T.last sa sb (by (try dsimp only at z); simpa using z) hl⟩)) fun z => ?_
                  have h1 := lo_next h1 z
                  exact kp_ite (fun _ => kp_pure (.inr ⟨rfl, T, h1, h2, by (try dsimp only); omega⟩)) fun _ => kp_pure ⟨rfl, T, h1, h2, by (try dsimp only); omega⟩
              · refine kp_bind (kp_elem h2) fun pb' eb' => ?_
                cases eb.symm.trans eb'
                have k00 : k = 0 := by (try dsimp only at k0); omega
                have T := T.pushB sb eb (by have := kr.2; rw [k00] at this; exact this)
                refine kp_ite (fun z => kp_pure (.inl ⟨_, rfl, T.done sa sb (.inr (by (try dsimp only at z); simp only [beq_iff_eq] at z; omega))⟩)) fun z => ?_
                have h2 : ib + 1 < b.size := by
                  try dsimp only at z
                  simp only [beq_iff_eq] at z
                  omega
                refine kp_bind (kp_elem (Nat.lt_of_succ_lt h1)) fun pa ea => kp_bind (ko_gallop hO hk hb (ha _ _ ea) (by (try dsimp only); omega) (by (try dsimp only); omega) (sb.soB _ _ (by (try dsimp only); omega))) fun r q => ?_
                obtain ⟨k2, rfl, kc2⟩ := q
                have kl2 := kc2.le
                have kr2 := kc2.left
                try dsimp only at kl2 kr2
                refine kp_ite (fun k0 => ?_) fun k0 => ?_
                · have T := T.runB (k := k2) sb fun x hx y hy => (kr2.1 x hx).trans (sa.from ea y hy)
                  refine kp_ite (fun z => kp_pure (.inl ⟨_, rfl, T.done sa sb (.inr (by (try dsimp only at z); simp only [beq_iff_eq] at z; omega))⟩)) fun z => ?_
                  have h2 : ib + 1 + k2 < b.size := by
                    dsimp only at z
                    simp only [beq_iff_eq] at z
                    omega
                  refine kp_bind (kp_elem (Nat.lt_of_succ_lt h1)) fun pa' ea' => ?_
                  cases ea.symm.trans ea'
                  have T := T.pushA sa ea kr2.2
                  refine kp_ite (fun z => kp_pure (.inl ⟨_, rfl, T.last sa sb (by (try dsimp only at z); simpa using z) hl⟩)) fun z => ?_
                  have h1 := lo_next h1 z
                  exact kp_ite (fun _ => kp_pure (.inr ⟨rfl, T, h1, h2, by (try dsimp only); omega⟩)) fun _ => kp_pure ⟨rfl, T, h1, h2, by (try dsimp only); omega⟩
                · refine kp_bind (kp_elem (Nat.lt_of_succ_lt h1)) fun pa' ea' => ?_
                  cases ea.symm.trans ea'
                  have k02 : k2 = 0 := by (try dsimp only at k0); omega
                  have T := T.pushA sa ea (by have := kr2.2; rw [k02] at this; exact this)
                  refine kp_ite (fun z => kp_pure (.inl ⟨_, rfl, T.last sa sb (by (try dsimp only at z); simpa using z) hl⟩)) fun z => ?_
                  have h1 := lo_next h1 z
                  exact kp_ite (fun _ => kp_pure (.inr ⟨rfl, T, h1, h2, by (try dsimp only); omega⟩)) fun _ => kp_pure ⟨rfl, T, h1, h2, by (try dsimp only); omega⟩
          · obtain ⟨r, out, ia, ib, mg, ac, bc⟩ := c
            rcases hc with ⟨r', e, q⟩ | ⟨e, T, h1, h2, h3⟩
            · cases e
              exact kp_pure ⟨_, rfl, q⟩
            · cases (show r = none from e)
              exact kp_bind (kp_modify fun st q => hg st _ q) fun _ _ => kp_pure ⟨rfl, T, h1, h2, h3⟩
    · rintro ⟨r, out, ia, ib, mg⟩ ⟨rfl, T, h1, h2, h3⟩
      dsimp only at h1 h2 h3
      omega
    · obtain ⟨r, rest⟩ := c
      obtain ⟨r', e, q⟩ := hc
      cases e
      exact kp_pure q
end
end Ts


set_option Elab.async false
set_option linter.all false
set_option maxRecDepth 100000
set_option maxHeartbeats 1000000
namespace Ts
open PySem PyProof.Rows
section
variable {prog : Program} {w : World} {A : Around} {E : Value → Shared → Prop} {s : Shared} {κ : KeyKind} {I : SortSt → Prop}
theorem mem_front {xs : Array Keyed} {i : Nat} {x : Keyed} (h : x ∈ xs.toList.take i) : ∃ k, k < i ∧ k < xs.size ∧ xs[k]? = some x := by
  obtain ⟨k, hk, e⟩ := List.mem_iff_getElem.mp h
  rw [List.length_take, Array.length_toList] at hk
  refine ⟨k, by omega, by omega, ?_⟩
  rw [← e, List.getElem_take, Array.getElem_toList]
  exact Array.getElem?_eq_getElem _
theorem mem_mid {xs : Array Keyed} {i k : Nat} {x : Keyed} (h : x ∈ (xs.toList.drop k).take (i - k)) : ∃ m, k ≤ m ∧ m < i ∧ m < xs.size ∧ xs[m]? = some x := by
  obtain ⟨m, h1, h2, e⟩ := mem_part h
  exact ⟨k + m, by omega, by omega, h2, e⟩
/-- of a all but the first i, of b all but the first j have been taken, from the end on -/
structure Ho (κ : KeyKind) (a b out : Array Keyed) (i j : Nat) : Prop where
  th : Th a b out i j
  so : out.toList.Pairwise fun x y => Le κ y x
  ha : ∀ x ∈ out.toList, ∀ y ∈ a.toList.take i, Le κ y x
  hb : ∀ x ∈ out.toList, ∀ y ∈ b.toList.take j, Le κ y x
theorem So.upto {xs : Array Keyed} {i : Nat} {p : Keyed} (h : So κ xs.toList) (h0 : 0 < i) (e : xs[i - 1]? = some p) : ∀ y ∈ xs.toList.take i, Le κ y p := fun y hy => by
  obtain ⟨k, h1, h2, e'⟩ := mem_front hy
  have sz : i - 1 < xs.size := (Array.getElem?_eq_some_iff.mp e).1
  have := h.soB 0 xs.size (Nat.le_refl _) k (i - 1) (Nat.zero_le _) (by omega) sz
  rw [KK_at e, KK_at e'] at this
  exact this
theorem take_last {l : List Keyed} {i : Nat} {p : Keyed} (h0 : 0 < i) (h : l[i - 1]? = some p) : l.take i = l.take (i - 1) ++ [p] := by
  obtain ⟨n, rfl⟩ : ∃ n, i = n + 1 := ⟨i - 1, by omega⟩
  rw [Nat.add_sub_cancel] at h ⊢
  exact take_more h
section
variable {a b out : Array Keyed} {i j k : Nat} {p : Keyed}
theorem Ho.start : Ho κ a b #[] a.size b.size := ⟨show List.Perm _ _ by simp, .nil, fun x hx => by simp at hx, fun x hx => by simp at hx⟩
theorem Ho.pushA (h : Ho κ a b out i j) (sa : So κ a.toList) (h0 : 0 < i) (e : a[i - 1]? = some p) (hp : ∀ y ∈ b.toList.take j, Le κ y p) : Ho κ a b (out.push p) (i - 1) j := by
  have et := take_last (l := a.toList) h0 (by rw [Array.getElem?_toList]; exact e)
  refine ⟨h.th.pushA h0 e, ?_, fun x hx y hy => ?_, fun x hx y hy => ?_⟩
  · rw [Array.toList_push, List.pairwise_append]
    exact ⟨h.so, List.pairwise_singleton _ _, fun x hx y hy => by rw [List.mem_singleton.mp hy]; exact h.ha x hx p (by rw [et]; exact List.mem_append_right _ (List.mem_singleton.mpr rfl))⟩
  · rw [Array.toList_push] at hx
    rcases List.mem_append.mp hx with z | z
    · exact h.ha x z y (by rw [et]; exact List.mem_append_left _ hy)
    · rw [List.mem_singleton.mp z]; exact sa.upto h0 e y (by rw [et]; exact List.mem_append_left _ hy)
  · rw [Array.toList_push] at hx
    rcases List.mem_append.mp hx with z | z
    · exact h.hb x z y hy
    · rw [List.mem_singleton.mp z]; exact hp y hy
theorem Ho.pushB (h : Ho κ a b out i j) (sb : So κ b.toList) (h0 : 0 < j) (e : b[j - 1]? = some p) (hp : ∀ y ∈ a.toList.take i, Le κ y p) : Ho κ a b (out.push p) i (j - 1) := by
  have et := take_last (l := b.toList) h0 (by rw [Array.getElem?_toList]; exact e)
  refine ⟨h.th.pushB h0 e, ?_, fun x hx y hy => ?_, fun x hx y hy => ?_⟩
  · rw [Array.toList_push, List.pairwise_append]
    exact ⟨h.so, List.pairwise_singleton _ _, fun x hx y hy => by rw [List.mem_singleton.mp hy]; exact h.hb x hx p (by rw [et]; exact List.mem_append_right _ (List.mem_singleton.mpr rfl))⟩
  · rw [Array.toList_push] at hx
    rcases List.mem_append.mp hx with z | z
    · exact h.ha x z y hy
    · rw [List.mem_singleton.mp z]; exact hp y hy
  · rw [Array.toList_push] at hx
    rcases List.mem_append.mp hx with z | z
    · exact h.hb x z y (by rw [et]; exact List.mem_append_left _ hy)
    · rw [List.mem_singleton.mp z]; exact sb.upto h0 e y (by rw [et]; exact List.mem_append_left _ hy)
theorem mid_list (xs : Array Keyed) (k i : Nat) : (xs.extract k i).toList = (xs.toList.drop k).take (i - k) := by rw [Array.toList_extract, List.extract_eq_take_drop]
theorem So.mid {xs : Array Keyed} (h : So κ xs.toList) (k i : Nat) : So κ ((xs.toList.drop k).take (i - k)) := (h.sublist (List.drop_sublist _ _)).sublist (List.take_sublist _ _)
theorem Ho.runA (h : Ho κ a b out i j) (sa : So κ a.toList) (hk : k ≤ i) (hr : ∀ x ∈ (a.toList.drop k).take (i - k), ∀ y ∈ b.toList.take j, Le κ y x) : Ho κ a b (out ++ (a.extract k i).reverse) k j := by
  have inn : ∀ x ∈ (a.toList.drop k).take (i - k), x ∈ a.toList.take i := fun x hx => by
    rw [← List.drop_take] at hx
    exact List.mem_of_mem_drop hx
  have low : ∀ x ∈ (a.toList.drop k).take (i - k), ∀ y ∈ a.toList.take k, Le κ y x := fun x hx y hy => by
    obtain ⟨m, h1, h2, h3, e⟩ := mem_mid hx
    obtain ⟨n, h4, h5, e'⟩ := mem_front hy
    have := sa.soB 0 a.size (Nat.le_refl _) n m (Nat.zero_le _) (by omega) h3
    rw [KK_at e, KK_at e'] at this
    exact this
  refine ⟨h.th.runA hk, ?_, fun x hx y hy => ?_, fun x hx y hy => ?_⟩
  · rw [Array.toList_append, Array.toList_reverse, mid_list, List.pairwise_append, List.pairwise_reverse]
    exact ⟨h.so, sa.mid k i, fun x hx y hy => h.ha x hx y (inn y (List.mem_reverse.mp hy))⟩
  · rw [Array.toList_append, Array.toList_reverse, mid_list] at hx
    rcases List.mem_append.mp hx with z | z
    · exact h.ha x z y (List.mem_of_mem_take (by rw [List.take_take, Nat.min_eq_left hk]; exact hy : y ∈ (a.toList.take i).take k))
    · exact low x (List.mem_reverse.mp z) y hy
  · rw [Array.toList_append, Array.toList_reverse, mid_list] at hx
    rcases List.mem_append.mp hx with z | z
    · exact h.hb x z y hy
    · exact hr x (List.mem_reverse.mp z) y hy
theorem Ho.runB (h : Ho κ a b out i j) (sb : So κ b.toList) (hk : k ≤ j) (hr : ∀ x ∈ (b.toList.drop k).take (j - k), ∀ y ∈ a.toList.take i, Le κ y x) : Ho κ a b (out ++ (b.extract k j).reverse) i k := by
  have inn : ∀ x ∈ (b.toList.drop k).take (j - k), x ∈ b.toList.take j := fun x hx => by
    rw [← List.drop_take] at hx
    exact List.mem_of_mem_drop hx
  have low : ∀ x ∈ (b.toList.drop k).take (j - k), ∀ y ∈ b.toList.take k, Le κ y x := fun x hx y hy => by
    obtain ⟨m, h1, h2, h3, e⟩ := mem_mid hx
    obtain ⟨n, h4, h5, e'⟩ := mem_front hy
    have := sb.soB 0 b.size (Nat.le_refl _) n m (Nat.zero_le _) (by omega) h3
    rw [KK_at e, KK_at e'] at this
    exact this
  refine ⟨h.th.runB hk, ?_, fun x hx y hy => ?_, fun x hx y hy => ?_⟩
  · rw [Array.toList_append, Array.toList_reverse, mid_list, List.pairwise_append, List.pairwise_reverse]
    exact ⟨h.so, sb.mid k j, fun x hx y hy => h.hb x hx y (inn y (List.mem_reverse.mp hy))⟩
  · rw [Array.toList_append, Array.toList_reverse, mid_list] at hx
    rcases List.mem_append.mp hx with z | z
    · exact h.ha x z y hy
    · exact hr x (List.mem_reverse.mp z) y hy
  · rw [Array.toList_append, Array.toList_reverse, mid_list] at hx
    rcases List.mem_append.mp hx with z | z
    · exact h.hb x z y (List.mem_of_mem_take (by rw [List.take_take, Nat.min_eq_left hk]; exact hy : y ∈ (b.toList.take j).take k))
    · exact low x (List.mem_reverse.mp z) y hy
theorem Ho.done (h : Ho κ a b out i j) (sa : So κ a.toList) (sb : So κ b.toList) (e : i = 0 ∨ j = 0) : Mgd κ a b (a.extract 0 i ++ b.extract 0 j ++ out.reverse) := by
  refine ⟨h.th.done, ?_⟩
  rw [Array.toList_append, Array.toList_append, front_list, front_list, Array.toList_reverse, So, List.pairwise_append, List.pairwise_reverse]
  refine ⟨?_, h.so, fun x hx y hy => ?_⟩
  · rcases e with rfl | rfl
    · rw [List.take_zero, List.nil_append]
      exact sb.sublist (List.take_sublist _ _)
    · rw [List.take_zero, List.append_nil]
      exact sa.sublist (List.take_sublist _ _)
  · rcases List.mem_append.mp hx with z | z
    · exact h.ha y (List.mem_reverse.mp hy) x z
    · exact h.hb y (List.mem_reverse.mp hy) x z
theorem Ho.first (h : Ho κ a b out i j) (sa : So κ a.toList) (sb : So κ b.toList) (e : j = 1) (hf : ∀ x, b[0]? = some x → ∀ y ∈ a.toList, Le κ x y) : Mgd κ a b (b.extract 0 j ++ a.extract 0 i ++ out.reverse) := by
  refine ⟨h.th.first, ?_⟩
  subst e
  rw [Array.toList_append, Array.toList_append, front_list, front_list, Array.toList_reverse, So, List.pairwise_append, List.pairwise_append, List.pairwise_reverse]
  refine ⟨⟨sb.sublist (List.take_sublist _ _), sa.sublist (List.take_sublist _ _), fun x hx y hy => ?_⟩, h.so, fun x hx y hy => ?_⟩
  · obtain ⟨k, h1, h2, e'⟩ := mem_front hx
    exact hf x (by rw [show 0 = k by omega]; exact e') y (List.mem_of_mem_take hy)
  · rcases List.mem_append.mp hx with z | z
    · exact h.hb y (List.mem_reverse.mp hy) x z
    · exact h.ha y (List.mem_reverse.mp hy) x z
end
/-- what a cut says of the first n -/
theorem Cutp.rightN {key : Keyed} {arr : Array Keyed} {n k : Nat} (h : Cutp κ false key arr 0 n k) : (∀ y ∈ arr.toList.take k, Le κ y key) ∧ ∀ x ∈ (arr.toList.drop k).take (n - k), Le κ key x := by
  refine ⟨fun x hx => ?_, fun y hy => ?_⟩
  · obtain ⟨m, h1, h2, e⟩ := mem_front hx
    have := h.lo m h1
    unfold bey at this
    rw [if_neg Bool.false_ne_true, Bool.not_eq_true', Nat.zero_add, KK_at e] at this
    exact this
  · obtain ⟨m, h1, h2, h3, e⟩ := mem_mid hy
    have := h.hi m h1 h2
    unfold bey at this
    rw [if_neg Bool.false_ne_true, Bool.not_eq_false', Nat.zero_add, KK_at e] at this
    exact KeyOrd.kle_of_klt this
theorem Cutp.leftN {key : Keyed} {arr : Array Keyed} {n k : Nat} (h : Cutp κ true key arr 0 n k) : (∀ y ∈ arr.toList.take k, Le κ y key) ∧ ∀ x ∈ (arr.toList.drop k).take (n - k), Le κ key x := by
  refine ⟨fun x hx => ?_, fun y hy => ?_⟩
  · obtain ⟨m, h1, h2, e⟩ := mem_front hx
    have := h.lo m h1
    unfold bey at this
    rw [if_pos rfl, Nat.zero_add, KK_at e] at this
    exact KeyOrd.kle_of_klt this
  · obtain ⟨m, h1, h2, h3, e⟩ := mem_mid hy
    have := h.hi m h1 h2
    unfold bey at this
    rw [if_pos rfl, Nat.zero_add, KK_at e] at this
    exact this
theorem ko_mergeHi (hO : κ.OneLt) {a b : Array Keyed} (hk : ∀ st, I st → kindOf st = oneType') (hg : ∀ st g, I st → I (SortSt.mk' (kindOf st) (arrOf st) (pendingOf st) g (failedOf st))) (ha : Ks κ a) (hb : Ks κ b) (na : 0 < a.size) (nb : 0 < b.size) (sa : So κ a.toList) (sb : So κ b.toList) (hf : ∀ x, b[0]? = some x → ∀ y ∈ a.toList, Le κ x y) (hl : ∀ x ∈ b.toList, ∀ y, a[a.size - 1]? = some y → Le κ x y) :
    Kp prog w A E s I (mergeHi' a b) fun r => Mgd κ a b r := by
  refine kp_bind kp_rule fun _ _ => kp_bind (kp_elem (i := a.size - 1) (by omega)) fun p0 e0 => ?_
  have T0 : Ho κ a b #[p0] (a.size - 1) b.size := Ho.start.pushA sa na e0 fun y hy => hl y (List.mem_of_mem_take hy) p0 e0
  refine kp_ite (fun z => kp_pure (T0.done sa sb (.inl (by simpa using z)))) fun z1 => kp_ite (fun z => kp_pure (T0.first sa sb (by simpa using z) hf)) fun z2 => kp_bind kp_get fun st0 _ => ?_
  have y1 : 0 < a.size - 1 := by simp at z1; omega
  have y2 : 1 < b.size := by simp at z2; omega
  refine kp_bind (R := fun c => ∃ r, c.1 = some r ∧ Mgd κ a b r) (kp_for (fun i c => c.1 = none ∧ Ho κ a b c.2.2.2.1 c.2.1 c.2.2.1 ∧ 0 < c.2.1 ∧ 1 < c.2.2.1 ∧ c.2.1 ≤ a.size ∧ c.2.2.1 ≤ b.size ∧ i + 1 + c.2.1 + c.2.2.1 ≤ a.size + b.size) ?_ ?_ ⟨rfl, T0, y1, y2, by (try dsimp only); omega, by (try dsimp only); omega, by (try dsimp only); omega⟩) fun c hc => ?_
  · rintro i ⟨r, na, nb, out, mg⟩ - hi ⟨rfl, T, h1, h2, h3, h4, h5⟩
    dsimp only at T h1 h2 h3 h4 h5
    refine kp_bind (R := fun c => (∃ r, c.1 = some r ∧ Mgd κ a b r) ∨ (c.1 = none ∧ Ho κ a b c.2.2.2.1 c.2.1 c.2.2.1 ∧ 0 < c.2.1 ∧ 1 < c.2.2.1 ∧ c.2.1 ≤ a.size ∧ c.2.2.1 ≤ b.size ∧ i + 2 + c.2.1 + c.2.2.1 ≤ a.size + b.size))
      (kp_for (fun j c => c.1 = none ∧ Ho κ a b c.2.2.2.1 c.2.1 c.2.2.1 ∧ 0 < c.2.1 ∧ 1 < c.2.2.1 ∧ c.2.1 ≤ a.size ∧ c.2.2.1 ≤ b.size ∧ i + 1 + j + c.2.1 + c.2.2.1 ≤ a.size + b.size) ?_ ?_ ⟨rfl, T, h1, h2, h3, h4, h5⟩) fun c hc => ?_
    · rintro j ⟨r, na, nb, out, ac, bc⟩ - hj ⟨rfl, T, h1, h2, h3, h4, h5⟩
      dsimp only at T h1 h2 h3 h4 h5
      refine kp_bind (kp_elem (i := nb - 1) (by omega)) fun pb eb => kp_bind (kp_elem (i := na - 1) (by omega)) fun pa ea => kp_bind (ko_lt hO hk (hb _ _ eb) (ha _ _ ea)) fun r q => ?_
      subst q
      refine kp_ite (fun hw => kp_bind (kp_elem (i := na - 1) (by omega)) fun pa' ea' => ?_) fun hw => kp_bind (kp_elem (i := nb - 1) (by omega)) fun pb' eb' => ?_
      · cases ea.symm.trans ea'
        have T' := T.pushA sa h1 ea fun y hy => (sb.upto (by omega) eb y hy).trans (show Le κ pb pa from KeyOrd.kle_of_klt hw)
        refine kp_ite (fun z => kp_pure (.inl ⟨_, rfl, T'.done sa sb (.inl (by simpa using z))⟩)) fun z => ?_
        have z' := hi_next h1 z
        exact kp_ite (fun _ => kp_pure (.inr ⟨rfl, T', z', h2, by (try dsimp only); omega, h4, by (try dsimp only); omega⟩)) fun _ => kp_pure ⟨rfl, T', z', h2, by (try dsimp only); omega, h4, by (try dsimp only); omega⟩
      · cases eb.symm.trans eb'
        have T' := T.pushB sb (by omega) eb fun y hy => (sa.upto h1 ea y hy).trans (show Le κ pa pb by simpa [Le, KeyOrd.kle] using hw)
        refine kp_ite (fun z => kp_pure (.inl ⟨_, rfl, T'.first sa sb (by simpa using z) hf⟩)) fun z => ?_
        have z' := hi_left h2 z
        exact kp_ite (fun _ => kp_pure (.inr ⟨rfl, T', h1, z', h3, by (try dsimp only); omega, by (try dsimp only); omega⟩)) fun _ => kp_pure ⟨rfl, T', h1, z', h3, by (try dsimp only); omega, by (try dsimp only); omega⟩
    · rintro ⟨r, na, nb, out, ac, bc⟩ ⟨rfl, T, h1, h2, h3, h4, h5⟩
      exact .inr ⟨rfl, T, h1, h2, h3, h4, by dsimp only at h5 ⊢; omega⟩
    · obtain ⟨r, na, nb, out, ac, bc⟩ := c
      rcases hc with ⟨r', e, q⟩ | ⟨e, T, h1, h2, h3, h4, h5⟩
      · cases e
        exact kp_pure ⟨_, rfl, q⟩
      · cases (show r = none from e)
        dsimp only at T h1 h2 h3 h4 h5
        refine kp_bind kp_rule fun _ _ => ?_
        refine kp_bind (R := fun c => (∃ r, c.1 = some r ∧ Mgd κ a b r) ∨ (c.1 = none ∧ Ho κ a b c.2.2.2.1 c.2.1 c.2.2.1 ∧ 0 < c.2.1 ∧ 1 < c.2.2.1 ∧ c.2.1 ≤ a.size ∧ c.2.2.1 ≤ b.size ∧ i + 2 + c.2.1 + c.2.2.1 ≤ a.size + b.size))
          (kp_for (fun _ c => c.1 = none ∧ Ho κ a b c.2.2.2.1 c.2.1 c.2.2.1 ∧ 0 < c.2.1 ∧ 1 < c.2.2.1 ∧ c.2.1 ≤ a.size ∧ c.2.2.1 ≤ b.size ∧ i + 2 + c.2.1 + c.2.2.1 ≤ a.size + b.size) ?_ (fun c h => .inr h) ⟨rfl, T, h1, h2, h3, h4, h5⟩) fun c hc => ?_
        · rintro j ⟨r, na, nb, out, mg, ac, bc⟩ - hj ⟨rfl, T, h1, h2, h3, h4, h5⟩
          dsimp only at T h1 h2 h3 h4 h5
          refine kp_ite (fun _ => ?_) fun _ => ?_
          all_goals
            refine kp_bind (kp_modify fun st q => hg st _ q) fun _ _ => kp_bind (kp_elem (i := nb - 1) (by omega)) fun pb eb => kp_bind (ko_gallop hO hk ha (hb _ _ eb) (by (try dsimp only); omega) (by (try dsimp only); omega) (sa.soB _ _ (by (try dsimp only); omega))) fun r q => ?_
            obtain ⟨k, rfl, kc⟩ := q
            have kl := kc.le
            have kr := kc.rightN
            try dsimp only at kl kr
            refine kp_ite (fun k0 => ?_) fun k0 => ?_
            · have T := T.runA sa kl fun x hx y hy => (sb.upto (by omega) eb y hy).trans (kr.2 x hx)
              refine kp_ite (fun z => kp_pure (.inl ⟨_, rfl, T.done sa sb (.inl (by (try dsimp only at z); simpa using z))⟩)) fun z => ?_
              have h1 : 0 < k := by
                try dsimp only at z
                simp only [beq_iff_eq] at z
                omega
              have h3 : k ≤ a.size := by omega
              have h5 : i + 2 + k + nb ≤ a.size + b.size := by omega
              refine kp_bind (kp_elem (i := nb - 1) (by omega)) fun pb' eb' => ?_
              cases eb.symm.trans eb'
              have T := T.pushB sb (by omega) eb kr.1
              refine kp_ite (fun z => kp_pure (.inl ⟨_, rfl, T.first sa sb (by (try dsimp only at z); simpa using z) hf⟩)) fun z => ?_
              have h2 := hi_left h2 z
              refine kp_bind (kp_elem (by omega)) fun pa ea => kp_bind (ko_gallop hO hk hb (ha _ _ ea) (by (try dsimp only); omega) (by (try dsimp only); omega) (sb.soB _ _ (by (try dsimp only); omega))) fun r q => ?_
              obtain ⟨k2, rfl, kc2⟩ := q
              have kl2 := kc2.le
              have kr2 := kc2.leftN
              try dsimp only at kl2 kr2
              refine kp_ite (fun k0 => ?_) fun k0 => ?_
              · have T := T.runB sb kl2 fun x hx y hy => (sa.upto h1 ea y hy).trans (kr2.2 x hx)
                refine kp_ite (fun z => kp_pure (.inl ⟨_, rfl, T.first sa sb (by (try dsimp only at z); simpa using z) hf⟩)) fun z => kp_ite (fun z => kp_pure (.inl ⟨_, rfl, T.done sa sb (.inr (by (try dsimp only at z); simpa using z))⟩)) fun z' => ?_
                have h2 : 1 < k2 := by
                  try dsimp only at z z'
                  simp only [beq_iff_eq] at z z'
                  omega
                refine kp_bind (kp_elem (by omega)) fun pa' ea' => ?_
                cases ea.symm.trans ea'
                have T := T.pushA sa h1 ea kr2.1
                refine kp_ite (fun z => kp_pure (.inl ⟨_, rfl, T.done sa sb (.inl (by (try dsimp only at z); simpa using z))⟩)) fun z => ?_
                have h1 := hi_next h1 z
                exact kp_ite (fun _ => kp_pure (.inr ⟨rfl, T, h1, h2, by (try dsimp only); omega, by (try dsimp only); omega, by (try dsimp only); omega⟩)) fun _ => kp_pure ⟨rfl, T, h1, h2, by (try dsimp only); omega, by (try dsimp only); omega, by (try dsimp only); omega⟩
              · refine kp_bind (kp_elem (by omega)) fun pa' ea' => ?_
                cases ea.symm.trans ea'
                have k02 : k2 = nb - 1 := by (try dsimp only at k0 kl2); omega
                have T := T.pushA sa h1 ea (by have := kr2.1; rw [k02] at this; exact this)
                refine kp_ite (fun z => kp_pure (.inl ⟨_, rfl, T.done sa sb (.inl (by (try dsimp only at z); simpa using z))⟩)) fun z => ?_
                have h1 := hi_next h1 z
                exact kp_ite (fun _ => kp_pure (.inr ⟨rfl, T, h1, h2, by (try dsimp only); omega, by (try dsimp only); omega, by (try dsimp only); omega⟩)) fun _ => kp_pure ⟨rfl, T, h1, h2, by (try dsimp only); omega, by (try dsimp only); omega, by (try dsimp only); omega⟩
            · refine kp_bind (kp_elem (i := nb - 1) (by omega)) fun pb' eb' => ?_
              cases eb.symm.trans eb'
              have k00 : k = na := by (try dsimp only at k0); omega
              have T := T.pushB sb (by omega) eb (by have := kr.1; rw [k00] at this; exact this)
              refine kp_ite (fun z => kp_pure (.inl ⟨_, rfl, T.first sa sb (by (try dsimp only at z); simpa using z) hf⟩)) fun z => ?_
              have h2 := hi_left h2 z
              refine kp_bind (kp_elem (by omega)) fun pa ea => kp_bind (ko_gallop hO hk hb (ha _ _ ea) (by (try dsimp only); omega) (by (try dsimp only); omega) (sb.soB _ _ (by (try dsimp only); omega))) fun r q => ?_
              obtain ⟨k2, rfl, kc2⟩ := q
              have kl2 := kc2.le
              have kr2 := kc2.leftN
              try dsimp only at kl2 kr2
              refine kp_ite (fun k0 => ?_) fun k0 => ?_
              · have T := T.runB sb kl2 fun x hx y hy => (sa.upto h1 ea y hy).trans (kr2.2 x hx)
                refine kp_ite (fun z => kp_pure (.inl ⟨_, rfl, T.first sa sb (by (try dsimp only at z); simpa using z) hf⟩)) fun z => kp_ite (fun z => kp_pure (.inl ⟨_, rfl, T.done sa sb (.inr (by (try dsimp only at z); simpa using z))⟩)) fun z' => ?_
                have h2 : 1 < k2 := by
                  try dsimp only at z z'
                  simp only [beq_iff_eq] at z z'
                  omega
                refine kp_bind (kp_elem (by omega)) fun pa' ea' => ?_
                cases ea.symm.trans ea'
                have T := T.pushA sa h1 ea kr2.1
                refine kp_ite (fun z => kp_pure (.inl ⟨_, rfl, T.done sa sb (.inl (by (try dsimp only at z); simpa using z))⟩)) fun z => ?_
                have h1 := hi_next h1 z
                exact kp_ite (fun _ => kp_pure (.inr ⟨rfl, T, h1, h2, by (try dsimp only); omega, by (try dsimp only); omega, by (try dsimp only); omega⟩)) fun _ => kp_pure ⟨rfl, T, h1, h2, by (try dsimp only); omega, by (try dsimp only); omega, by (try dsimp only); omega⟩
              · refine kp_bind (kp_elem (by omega)) fun pa' ea' => ?_
                cases ea.symm.trans ea'
                have k02 : k2 = nb - 1 := by (try dsimp only at k0 kl2); omega
                have T := T.pushA sa h1 ea (by have := kr2.1; rw [k02] at this; exact this)
                refine kp_ite (fun z => kp_pure (.inl ⟨_, rfl, T.done sa sb (.inl (by (try dsimp only at z); simpa using z))⟩)) fun z => ?_
                have h1 := hi_next h1 z
                exact kp_ite (fun _ => kp_pure (.inr ⟨rfl, T, h1, h2, by (try dsimp only); omega, by (try dsimp only); omega, by (try dsimp only); omega⟩)) fun _ => kp_pure ⟨rfl, T, h1, h2, by (try dsimp only); omega, by (try dsimp only); omega, by (try dsimp only); omega⟩
        · obtain ⟨r, na, nb, out, mg, ac, bc⟩ := c
          rcases hc with ⟨r', e, q⟩ | ⟨e, T, h1, h2, h3, h4, h5⟩
          · cases e
            exact kp_pure ⟨_, rfl, q⟩
          · cases (show r = none from e)
            exact kp_bind (kp_modify fun st q => hg st _ q) fun _ _ => kp_pure ⟨rfl, T, h1, h2, h3, h4, h5⟩
  · rintro ⟨r, na, nb, out, mg⟩ ⟨rfl, T, h1, h2, h3, h4, h5⟩
    dsimp only at h1 h2 h5
    omega
  · obtain ⟨r, rest⟩ := c
    obtain ⟨r', e, q⟩ := hc
    cases e
    exact kp_pure q
end
end Ts


set_option Elab.async false
set_option linter.all false
set_option maxRecDepth 100000
set_option maxHeartbeats 1000000
namespace Ts
open PySem PyProof.Rows
section
variable {prog : Program} {w : World} {A : Around} {E : Value → Shared → Prop} {s : Shared} {κ : KeyKind} {I : SortSt → Prop}
theorem Rn.up : ∀ {l : List (Nat × Nat × Nat)} {lo hi : Nat}, Rn l lo hi → lo ≤ hi
  | [], _, _, h => Nat.le_of_eq h
  | (b, n, p) :: l, lo, hi, h => by
    have := Rn.up h.2.2
    omega
theorem Rn.in : ∀ {l : List (Nat × Nat × Nat)} {j lo hi b n p : Nat}, Rn l lo hi → l[j]? = some (b, n, p) → lo ≤ b ∧ b + n ≤ hi
  | [], j, _, _, _, _, _, _, e => by simp at e
  | (b0, n0, p0) :: l, 0, lo, hi, b, n, p, h, e => by
    simp only [List.getElem?_cons_zero, Option.some.injEq, Prod.mk.injEq] at e
    obtain ⟨rfl, rfl, rfl⟩ := e
    have := Rn.up h.2.2
    exact ⟨by rw [h.1]; exact Nat.le_refl _, by rw [h.1]; exact this⟩
  | (b0, n0, p0) :: l, j + 1, lo, hi, b, n, p, h, e => by
    have := Rn.in h.2.2 (by simpa using e)
    exact ⟨by omega, this.2⟩
theorem Rn.far : ∀ {l : List (Nat × Nat × Nat)} {j j' lo hi b n p b' n' p' : Nat}, Rn l lo hi → l[j]? = some (b, n, p) → l[j']? = some (b', n', p') → j < j' → b + n ≤ b'
  | [], j, _, _, _, _, _, _, _, _, _, _, e, _, _ => by simp at e
  | (b0, n0, p0) :: l, 0, j' + 1, lo, hi, b, n, p, b', n', p', h, e, e', _ => by
    simp only [List.getElem?_cons_zero, Option.some.injEq, Prod.mk.injEq] at e
    obtain ⟨rfl, rfl, rfl⟩ := e
    have := Rn.in h.2.2 (by simpa using e')
    rw [h.1]
    exact this.1
  | (b0, n0, p0) :: l, j + 1, j' + 1, lo, hi, b, n, p, b', n', p', h, e, e', hj => Rn.far h.2.2 (by simpa using e) (by simpa using e') (by omega)
/-- each of the runs is in order -/
def RS (κ : KeyKind) (xs : Array Keyed) (l : List (Nat × Nat × Nat)) : Prop := ∀ b n p, (b, n, p) ∈ l → SoB κ xs b (b + n)
theorem SoB.congr {xs ys : Array Keyed} {lo hi : Nat} (h : SoB κ xs lo hi) (e : ∀ k, lo ≤ k → k < hi → ys[k]? = xs[k]?) : SoB κ ys lo hi := fun i j h1 h2 h3 => by
  rw [KK_congr (e i h1 (by omega)), KK_congr (e j (by omega) h3)]
  exact h i j h1 h2 h3
theorem SoB.join {xs : Array Keyed} {lo mid hi : Nat} (h1 : SoB κ xs lo mid) (h2 : SoB κ xs mid hi) (h3 : ∀ i j, lo ≤ i → i < mid → mid ≤ j → j < hi → κ.kle (KK κ xs i) (KK κ xs j)) : SoB κ xs lo hi := fun i j a b c => by
  rcases Nat.lt_or_ge j mid with z | z
  · exact h1 i j a b z
  · rcases Nat.lt_or_ge i mid with y | y
    · exact h3 i j a y z c
    · exact h2 i j y b c
theorem RS.merged {xs ys : Array Keyed} {l : List (Nat × Nat × Nat)} {i lo hi sa na nb pa pb : Nat} (h : RS κ xs l) (R : Rn l lo hi) (e1 : l[i]? = some (sa, na, pa)) (e2 : l[i + 1]? = some (sa + na, nb, pb))
    (out : ∀ k, k < sa ∨ sa + na + nb ≤ k → ys[k]? = xs[k]?) (so : SoB κ ys sa (sa + (na + nb))) : RS κ ys ((l.set i (sa, na + nb, pa)).eraseIdx (i + 1)) := by
  intro b n p hm
  obtain ⟨j, hj, e⟩ := List.mem_eraseIdx_iff_getElem?.mp hm
  rw [List.getElem?_set] at e
  by_cases hji : i = j
  · subst hji
    rw [if_pos rfl, if_pos (List.getElem?_eq_some_iff.mp e1).1] at e
    cases e
    exact so
  · rw [if_neg hji] at e
    refine SoB.congr (h b n p (List.mem_of_getElem? e)) fun k h1 h2 => out k ?_
    rcases Nat.lt_or_ge j i with z | z
    · have := R.far e e1 z
      left
      omega
    · have := R.far e2 e (by omega)
      right
      omega
/-- a list laid over a part: what stands where -/
theorem laid_at {xs m : Array Keyed} {b : Nat} (h : b + m.size ≤ xs.size) (k : Nat) : (m.toList.zipIdx.foldl (fun a (q : Keyed × Nat) => a.setIfInBounds (b + q.2) q.1) xs)[k]? = if k < b then xs[k]? else if k < b + m.size then m[k - b]? else xs[k]? := by
  have e := lay_list b m.toList 0 xs (by rw [Array.length_toList]; omega)
  rw [← Array.getElem?_toList, e, Nat.add_zero, Array.length_toList, List.append_assoc]
  have lt : (xs.toList.take b).length = b := by rw [List.length_take, Array.length_toList]; omega
  by_cases h1 : k < b
  · rw [if_pos h1, List.getElem?_append_left (by rw [lt]; exact h1), List.getElem?_take, if_pos h1, Array.getElem?_toList]
  · rw [if_neg h1, List.getElem?_append_right (by rw [lt]; omega), lt]
    by_cases h2 : k < b + m.size
    · rw [if_pos h2, List.getElem?_append_left (by rw [Array.length_toList]; omega), Array.getElem?_toList]
    · rw [if_neg h2, List.getElem?_append_right (by rw [Array.length_toList]; omega), Array.length_toList, List.getElem?_drop, Array.getElem?_toList]
      congr 1
      omega
theorem So.of_soB {xs : Array Keyed} {b n : Nat} (h : SoB κ xs b (b + n)) (hn : b + n ≤ xs.size) : So κ (xs.extract b (b + n)).toList := by
  rw [part_list]
  refine List.pairwise_iff_getElem.mpr fun i j hi hj hij => ?_
  rw [List.length_take, List.length_drop, Array.length_toList] at hi hj
  have := h (b + i) (b + j) (by omega) (by omega) (by omega)
  rw [KK_at (Array.getElem?_eq_getElem (show b + i < xs.size by omega)), KK_at (Array.getElem?_eq_getElem (show b + j < xs.size by omega))] at this
  rw [List.getElem_take, List.getElem_take, List.getElem_drop, List.getElem_drop, Array.getElem_toList, Array.getElem_toList]
  exact this
structure SRo (κ : KeyKind) (a₀ : Array Keyed) (hi : Nat) (st : SortSt) : Prop extends SR a₀ hi st where
  so : RS κ (arrOf st) (pendingOf st).toList
end
end Ts


set_option Elab.async false
set_option linter.all false
set_option maxRecDepth 100000
set_option maxHeartbeats 1000000
namespace Ts
open PySem PyProof.Rows
section
variable {prog : Program} {w : World} {A : Around} {E : Value → Shared → Prop} {s : Shared} {κ : KeyKind} {I : SortSt → Prop}
/-- what was merged stands in order between what was left where it was -/
theorem laid_so {xs m : Array Keyed} {sa na nb g g' : Nat} (h1 : g ≤ na) (h2 : g' ≤ nb) (hs : sa + na + nb ≤ xs.size) (hg : g < na) (hg' : 0 < g') (sA : SoB κ xs sa (sa + na)) (sB : SoB κ xs (sa + na) (sa + na + nb))
    (f1 : ∀ i, i < g → κ.kle (KK κ xs (sa + i)) (KK κ xs (sa + na))) (f4 : ∀ j, g' ≤ j → j < nb → κ.kle (KK κ xs (sa + na - 1)) (KK κ xs (sa + na + j)))
    (hm : Mgd κ (xs.extract (sa + g) (sa + na)) (xs.extract (sa + na) (sa + na + g')) m) :
    SoB κ (m.toList.zipIdx.foldl (fun a (q : Keyed × Nat) => a.setIfInBounds (sa + g + q.2) q.1) xs) sa (sa + (na + nb)) ∧ ∀ k, k < sa ∨ sa + na + nb ≤ k → (m.toList.zipIdx.foldl (fun a (q : Keyed × Nat) => a.setIfInBounds (sa + g + q.2) q.1) xs)[k]? = xs[k]? := by
  have sz : m.size = na - g + g' := by
    have := hm.1.size_eq
    rw [Array.size_append, Array.size_extract, Array.size_extract] at this
    omega
  have at_ := laid_at (xs := xs) (m := m) (b := sa + g) (by omega)
  generalize m.toList.zipIdx.foldl (fun a (q : Keyed × Nat) => a.setIfInBounds (sa + g + q.2) q.1) xs = ys at at_
  have elm : ∀ k, k < m.size → (∃ i, g ≤ i ∧ i < na ∧ KK κ m k = KK κ xs (sa + i)) ∨ ∃ j, j < g' ∧ KK κ m k = KK κ xs (sa + na + j) := fun k hk => by
    have e := Array.getElem?_eq_getElem hk
    have mm : m[k] ∈ (xs.extract (sa + g) (sa + na) ++ xs.extract (sa + na) (sa + na + g')).toList := (Array.perm_iff_toList_perm.mp hm.1).mem_iff.mp (by rw [← Array.getElem_toList]; exact List.getElem_mem _)
    rw [Array.toList_append] at mm
    rcases List.mem_append.mp mm with z | z
    · rw [mid_list] at z
      obtain ⟨i, i1, i2, i3, i4⟩ := mem_mid z
      exact .inl ⟨i - sa, by omega, by omega, by rw [KK_at e, show sa + (i - sa) = i by omega, KK_at i4]⟩
    · rw [mid_list] at z
      obtain ⟨i, i1, i2, i3, i4⟩ := mem_mid z
      exact .inr ⟨i - (sa + na), by omega, by rw [KK_at e, show sa + na + (i - (sa + na)) = i by omega, KK_at i4]⟩
  have lowv : ∀ k, k < sa + g → KK κ ys k = KK κ xs k := fun k hk => KK_congr (by rw [at_, if_pos hk])
  have midv : ∀ k, sa + g ≤ k → k < sa + g + m.size → KK κ ys k = KK κ m (k - (sa + g)) := fun k h1 h2 => KK_congr (by rw [at_, if_neg (by omega), if_pos h2])
  have hiv : ∀ k, sa + g + m.size ≤ k → KK κ ys k = KK κ xs k := fun k hk => KK_congr (by rw [at_, if_neg (by omega), if_neg (by omega)])
  have lomid : ∀ i k, sa ≤ i → i < sa + g → k < m.size → κ.kle (KK κ xs i) (KK κ m k) := fun i k i1 i2 hk => by
    rcases elm k hk with ⟨j, j1, j2, e⟩ | ⟨j, j1, e⟩
    · rw [e]
      exact sA i (sa + j) i1 (by omega) (by omega)
    · rw [e]
      have := f1 (i - sa) (by omega)
      rw [show sa + (i - sa) = i by omega] at this
      exact KeyOrd.kle_trans this (sB (sa + na) (sa + na + j) (by omega) (by omega) (by omega))
  have midhi : ∀ k j, k < m.size → sa + na + g' ≤ j → j < sa + na + nb → κ.kle (KK κ m k) (KK κ xs j) := fun k j hk j1 j2 => by
    have fj := f4 (j - (sa + na)) (by omega) (by omega)
    rw [show sa + na + (j - (sa + na)) = j by omega] at fj
    rcases elm k hk with ⟨i, i1, i2, e⟩ | ⟨i, i1, e⟩
    · rw [e]
      exact KeyOrd.kle_trans (sA (sa + i) (sa + na - 1) (by omega) (by omega) (by omega)) fj
    · rw [e]
      exact sB (sa + na + i) j (by omega) (by omega) (by omega)
  have lohi : ∀ i j, sa ≤ i → i < sa + g → sa + na + g' ≤ j → j < sa + na + nb → κ.kle (KK κ xs i) (KK κ xs j) := fun i j i1 i2 j1 j2 => KeyOrd.kle_trans (lomid i 0 i1 i2 (by omega)) (midhi 0 j (by omega) j1 j2)
  have som := hm.2.soB 0 m.size (Nat.le_refl _)
  refine ⟨fun i j i1 i2 i3 => ?_, fun k hk => ?_⟩
  · rcases Nat.lt_or_ge j (sa + g) with z | z
    · rw [lowv i (by omega), lowv j z]
      exact sA i j i1 i2 (by omega)
    · rcases Nat.lt_or_ge j (sa + g + m.size) with y | y
      · rw [midv j z y]
        rcases Nat.lt_or_ge i (sa + g) with x | x
        · rw [lowv i x]
          exact lomid i _ i1 x (by omega)
        · rw [midv i x (by omega)]
          exact som _ _ (Nat.zero_le _) (by omega) (by omega)
      · rw [hiv j y]
        rcases Nat.lt_or_ge i (sa + g) with x | x
        · rw [lowv i x]
          exact lohi i j i1 x (by omega) (by omega)
        · rcases Nat.lt_or_ge i (sa + g + m.size) with v | v
          · rw [midv i x v]
            exact midhi _ j (by omega) (by omega) (by omega)
          · rw [hiv i v]
            exact sB i j (by omega) i2 (by omega)
  · rw [at_]
    rcases hk with z | z
    · rw [if_pos (by omega)]
    · rw [if_neg (by omega), if_neg (by omega)]
theorem wo_mergeAt (hO : κ.OneLt) {a₀ : Array Keyed} {hi i : Nat} {st : SortSt} {Q : Bool → SortSt → Prop} (h0 : Ks κ a₀) (h : SRo κ a₀ hi st) (hi' : i + 1 < (pendingOf st).size) (k : ∀ st', SRo κ a₀ hi st' → (pendingOf st').size + 1 = (pendingOf st).size → (∀ q, hi ≤ q → (arrOf st')[q]? = (arrOf st)[q]?) → Q true st') : wpS (model prog w) A E s (mergeAt' i) Q st := by
  have e1 := Array.getElem?_eq_getElem (Nat.lt_of_succ_lt hi')
  have e2 := Array.getElem?_eq_getElem hi'
  generalize (pendingOf st)[i] = u at e1
  generalize (pendingOf st)[i + 1] = v at e2
  obtain ⟨sa, na, pa⟩ := u
  obtain ⟨sb, nb, pb⟩ := v
  refine wpS_bind (wpS_get ?_)
  have e1' : (sortPriv% PySem.Builtin.SortState.pending) st = pendingOf st := rfl
  simp only [e1', e1, e2]
  have l1 : (pendingOf st).toList[i]? = some (sa, na, pa) := by rw [Array.getElem?_toList]; exact e1
  have l2 : (pendingOf st).toList[i + 1]? = some (sb, nb, pb) := by rw [Array.getElem?_toList]; exact e2
  have R := h.runs.merge l1 l2
  obtain ⟨rfl, n1, n2, n3, R⟩ := R
  have fits := h.fits
  have sz : (arrOf st).size = a₀.size := h.perm.size_eq
  have hx : Ks κ (arrOf st) := h0.perm h.perm
  have sA : SoB κ (arrOf st) sa (sa + na) := h.so _ _ _ (List.mem_of_getElem? l1)
  have sB : SoB κ (arrOf st) (sa + na) (sa + na + nb) := h.so _ _ _ (List.mem_of_getElem? l2)
  refine wpS_bind (wp_set ?_)
  have pe : (((pendingOf st).setIfInBounds i (sa, na + nb, pa)).eraseIdxIfInBounds (i + 1)).toList = ((pendingOf st).toList.set i (sa, na + nb, pa)).eraseIdx (i + 1) := by rw [Array.toList_eraseIdxIfInBounds, Array.toList_setIfInBounds]
  have pz : (((pendingOf st).setIfInBounds i (sa, na + nb, pa)).eraseIdxIfInBounds (i + 1)).size + 1 = (pendingOf st).size := by
    rw [← Array.length_toList, pe, List.length_eraseIdx_of_lt (by rw [List.length_set, Array.length_toList]; exact hi'), List.length_set, Array.length_toList]
    omega
  have J1 : SR a₀ hi (SortSt.mk' (kindOf st) (arrOf st) (((pendingOf st).setIfInBounds i (sa, na + nb, pa)).eraseIdxIfInBounds (i + 1)) (gallopOf st) (failedOf st)) ∧ arrOf st = arrOf st ∧ (((pendingOf st).setIfInBounds i (sa, na + nb, pa)).eraseIdxIfInBounds (i + 1)) = (((pendingOf st).setIfInBounds i (sa, na + nb, pa)).eraseIdxIfInBounds (i + 1)) := ⟨⟨⟨h.perm, h.kind, h.failed⟩, by
    show Rn (((pendingOf st).setIfInBounds i (sa, na + nb, pa)).eraseIdxIfInBounds (i + 1)).toList 0 hi
    rw [pe]
    exact R, fits⟩, rfl, rfl⟩
  have hk : ∀ st', (SR a₀ hi st' ∧ arrOf st' = arrOf st ∧ pendingOf st' = (((pendingOf st).setIfInBounds i (sa, na + nb, pa)).eraseIdxIfInBounds (i + 1))) → kindOf st' = oneType' := fun st' q => q.1.kind
  have hg : ∀ st' g, (SR a₀ hi st' ∧ arrOf st' = arrOf st ∧ pendingOf st' = (((pendingOf st).setIfInBounds i (sa, na + nb, pa)).eraseIdxIfInBounds (i + 1))) → SR a₀ hi (SortSt.mk' (kindOf st') (arrOf st') (pendingOf st') g (failedOf st')) ∧ arrOf st' = arrOf st ∧ pendingOf st' = (((pendingOf st).setIfInBounds i (sa, na + nb, pa)).eraseIdxIfInBounds (i + 1)) := fun st' g q => ⟨⟨⟨q.1.perm, q.1.kind, q.1.failed⟩, q.1.runs, fits⟩, q.2⟩
  have fin : ∀ st', (SR a₀ hi st' ∧ arrOf st' = arrOf st ∧ pendingOf st' = (((pendingOf st).setIfInBounds i (sa, na + nb, pa)).eraseIdxIfInBounds (i + 1))) → SoB κ (arrOf st) sa (sa + (na + nb)) → Q true st' := fun st' J so => by
    refine k st' ⟨J.1, ?_⟩ (by rw [J.2.2]; exact pz) (fun q _ => by rw [J.2.1])
    rw [J.2.1, J.2.2, pe]
    exact RS.merged h.so h.runs l1 l2 (fun _ _ => rfl) so
  refine wpS_bind ((kp_elem (I := fun st' => SR a₀ hi st' ∧ arrOf st' = arrOf st ∧ pendingOf st' = (((pendingOf st).setIfInBounds i (sa, na + nb, pa)).eraseIdxIfInBounds (i + 1))) (arr := arrOf st) (i := sa + na) (by omega)).wp J1 fun p st1 J1 ep => ?_)
  refine wpS_bind ((ko_gallop hO hk hx (hx _ _ ep) (by omega) n1 sA).wp J1 fun r st2 J2 q => ?_)
  obtain ⟨g, rfl, gc⟩ := q
  have gl := gc.le
  have f1 : ∀ i, i < g → κ.kle (KK κ (arrOf st) (sa + i)) (KK κ (arrOf st) (sa + na)) := fun i hi => by
    have := gc.lo i hi
    unfold bey at this
    rw [if_neg Bool.false_ne_true, Bool.not_eq_true', ← KK_at ep] at this
    exact this
  have f2 : ∀ i, g ≤ i → i < na → κ.klt (KK κ (arrOf st) (sa + na)) (KK κ (arrOf st) (sa + i)) := fun i h1 h2 => by
    have := gc.hi i h1 h2
    unfold bey at this
    rw [if_neg Bool.false_ne_true, Bool.not_eq_false', ← KK_at ep] at this
    exact this
  dsimp only
  split
  next z =>
    refine wpS_pure (fin _ J2 ?_)
    rw [← Nat.add_assoc]
    have z : g = na := by simp only [beq_iff_eq] at z; omega
    refine SoB.join sA sB fun i j i1 i2 j1 j2 => KeyOrd.kle_trans ?_ (sB (sa + na) j (by omega) j1 j2)
    have := f1 (i - sa) (by omega)
    rw [show sa + (i - sa) = i by omega] at this
    exact this
  next z =>
  have z : g < na := by simp only [beq_iff_eq] at z; omega
  refine wpS_bind ((kp_elem (I := fun st' => SR a₀ hi st' ∧ arrOf st' = arrOf st ∧ pendingOf st' = (((pendingOf st).setIfInBounds i (sa, na + nb, pa)).eraseIdxIfInBounds (i + 1))) (arr := arrOf st) (i := sa + g + (na - g) - 1) (by omega)).wp J2 fun p' st3 J3 ep' => ?_)
  refine wpS_bind ((ko_gallop hO hk hx (hx _ _ ep') (by omega) (by omega) sB).wp J3 fun r st4 J4 q => ?_)
  obtain ⟨g', rfl, gc'⟩ := q
  have gl' := gc'.le
  rw [show sa + g + (na - g) - 1 = sa + na - 1 by omega] at ep'
  have f3 : ∀ j, j < g' → κ.klt (KK κ (arrOf st) (sa + na + j)) (KK κ (arrOf st) (sa + na - 1)) := fun j hj => by
    have := gc'.lo j hj
    unfold bey at this
    rw [if_pos rfl, ← KK_at ep'] at this
    exact this
  have f4 : ∀ j, g' ≤ j → j < nb → κ.kle (KK κ (arrOf st) (sa + na - 1)) (KK κ (arrOf st) (sa + na + j)) := fun j h1 h2 => by
    have := gc'.hi j h1 h2
    unfold bey at this
    rw [if_pos rfl, ← KK_at ep'] at this
    exact this
  dsimp only
  split
  next z' =>
    refine wpS_pure (fin _ J4 ?_)
    rw [← Nat.add_assoc]
    have z' : g' = 0 := by simpa using z'
    refine SoB.join sA sB fun i j i1 i2 j1 j2 => KeyOrd.kle_trans (sA i (sa + na - 1) i1 (by omega) (by omega)) ?_
    have := f4 (j - (sa + na)) (by omega) (by omega)
    rw [show sa + na + (j - (sa + na)) = j by omega] at this
    exact this
  next z' =>
  have z' : 0 < g' := by simp only [beq_iff_eq] at z'; omega
  have part : ∀ b e, Ks κ ((arrOf st).extract b e) := fun b e i p q => by
    rw [Array.getElem?_extract] at q
    split at q
    · exact hx _ _ q
    · cases q
  have soX : So κ ((arrOf st).extract (sa + g) (sa + na)).toList := by
    have : SoB κ (arrOf st) (sa + g) (sa + g + (na - g)) := fun i j i1 i2 i3 => sA i j (by omega) i2 (by omega)
    have := So.of_soB this (by omega)
    rw [show sa + g + (na - g) = sa + na by omega] at this
    exact this
  have soY : So κ ((arrOf st).extract (sa + na) (sa + na + g')).toList := So.of_soB (fun i j i1 i2 i3 => sB i j i1 i2 (by omega)) (by omega)
  have nx : 0 < ((arrOf st).extract (sa + g) (sa + na)).size := by rw [Array.size_extract]; omega
  have ny : 0 < ((arrOf st).extract (sa + na) (sa + na + g')).size := by rw [Array.size_extract]; omega
  have hf : ∀ x, ((arrOf st).extract (sa + na) (sa + na + g'))[0]? = some x → ∀ y ∈ ((arrOf st).extract (sa + g) (sa + na)).toList, Le κ x y := fun x ex y hy => by
    rw [mid_list] at hy
    obtain ⟨m, m1, m2, m3, m4⟩ := mem_mid hy
    rw [Array.getElem?_extract, if_pos (by omega), Nat.add_zero] at ex
    have := f2 (m - sa) (by omega) (by omega)
    rw [show sa + (m - sa) = m by omega, KK_at ex, KK_at m4] at this
    exact KeyOrd.kle_of_klt this
  have hl : ∀ x ∈ ((arrOf st).extract (sa + na) (sa + na + g')).toList, ∀ y, ((arrOf st).extract (sa + g) (sa + na))[((arrOf st).extract (sa + g) (sa + na)).size - 1]? = some y → Le κ x y := fun x hx' y ey => by
    rw [mid_list] at hx'
    obtain ⟨m, m1, m2, m3, m4⟩ := mem_mid hx'
    have se : ((arrOf st).extract (sa + g) (sa + na)).size = na - g := by rw [Array.size_extract]; omega
    rw [se, Array.getElem?_extract, if_pos (by omega), show sa + g + (na - g - 1) = sa + na - 1 by omega] at ey
    have := f3 (m - (sa + na)) (by omega)
    rw [show sa + na + (m - (sa + na)) = m by omega, KK_at ey, KK_at m4] at this
    exact KeyOrd.kle_of_klt this
  have last : ∀ (m : Array Keyed) (st5 : SortSt), (SR a₀ hi st5 ∧ arrOf st5 = arrOf st ∧ pendingOf st5 = (((pendingOf st).setIfInBounds i (sa, na + nb, pa)).eraseIdxIfInBounds (i + 1))) → Mgd κ ((arrOf st).extract (sa + g) (sa + na)) ((arrOf st).extract (sa + na) (sa + na + g')) m →
      Q true (SortSt.mk' (kindOf st5) (m.toList.zipIdx.foldl (fun a (q : Keyed × Nat) => a.setIfInBounds (sa + g + q.2) q.1) (arrOf st5)) (pendingOf st5) (gallopOf st5) (failedOf st5)) := fun m st5 J5 hp => by
    have ls := laid_so gl gl' (by omega) z z' sA sB f1 f4 hp
    refine k _ ⟨⟨⟨Array.Perm.trans (by rw [J5.2.1]; exact laid_perm (by omega) (by omega) (by omega) hp.1) h.perm, J5.1.kind, J5.1.failed⟩, J5.1.runs, fits⟩, ?_⟩ (by show (pendingOf st5).size + 1 = _; rw [J5.2.2]; exact pz) (fun q hq => by
      show (m.toList.zipIdx.foldl (fun a (q : Keyed × Nat) => a.setIfInBounds (sa + g + q.2) q.1) (arrOf st5))[q]? = _
      rw [J5.2.1]
      exact ls.2 q (.inr (by omega)))
    show RS κ (m.toList.zipIdx.foldl (fun a (q : Keyed × Nat) => a.setIfInBounds (sa + g + q.2) q.1) (arrOf st5)) (pendingOf st5).toList
    rw [J5.2.1, J5.2.2, pe]
    exact RS.merged h.so h.runs l1 l2 ls.2 ls.1
  split
  · refine wpS_bind ((ko_mergeLo hO hk hg (part _ _) (part _ _) nx ny soX soY hf hl).wp J4 fun m st5 J5 hp => wpS_bind (wpS_modify (wpS_bind (wpS_get (wpS_pure ?_)))))
    have J6 := last m st5 J5 hp
    have nf : (failedOf st5).isNone = true := by rw [J5.1.failed]; rfl
    exact (show ∀ b, b = true → Q b _ from fun b e => by subst e; exact J6) _ nf
  · refine wpS_bind ((ko_mergeHi hO hk hg (part _ _) (part _ _) nx ny soX soY hf hl).wp J4 fun m st5 J5 hp => wpS_bind (wpS_modify (wpS_bind (wpS_get (wpS_pure ?_)))))
    have J6 := last m st5 J5 hp
    have nf : (failedOf st5).isNone = true := by rw [J5.1.failed]; rfl
    exact (show ∀ b, b = true → Q b _ from fun b e => by subst e; exact J6) _ nf
end
end Ts


set_option Elab.async false
set_option linter.all false
set_option maxRecDepth 100000
set_option maxHeartbeats 1000000
namespace Ts
open PySem PyProof.Rows
section
variable {prog : Program} {w : World} {A : Around} {E : Value → Shared → Prop} {s : Shared} {κ : KeyKind} {a₀ x0 : Array Keyed} {p0 : Array (Nat × Nat × Nat)} {lo : Nat}
/-- what is below lo stays -/
structure Lc (a₀ x0 : Array Keyed) (p0 : Array (Nat × Nat × Nat)) (lo : Nat) (st : SortSt) : Prop where
  si : SI a₀ st
  pd : pendingOf st = p0
  lw : ∀ k, k < lo → (arrOf st)[k]? = x0[k]?
theorem Lc.size {st : SortSt} (h : Lc a₀ x0 p0 lo st) : (arrOf st).size = a₀.size := h.si.perm.size_eq
theorem wo_ltAt (hO : κ.OneLt) {st : SortSt} {i j : Nat} {Q : Option Bool → SortSt → Prop} (h0 : Ks κ a₀) (h : SI a₀ st) (hi : i < a₀.size) (hj : j < a₀.size) (k : Q (some (κ.blt (KK κ (arrOf st) i) (KK κ (arrOf st) j))) st) : wpS (model prog w) A E s (ltAt' i j) Q st := by
  have sz : (arrOf st).size = a₀.size := h.perm.size_eq
  have hx := h0.perm h.perm
  have ei := Array.getElem?_eq_getElem (show i < (arrOf st).size by omega)
  have ej := Array.getElem?_eq_getElem (show j < (arrOf st).size by omega)
  obtain ⟨a, ea⟩ := hx _ _ ei
  obtain ⟨b, eb⟩ := hx _ _ ej
  refine wpS_ltAtK hO h.kind ei ej ea eb ?_
  rw [KK_at ei, KK_at ej] at k
  unfold kv at k
  rw [ea, eb] at k
  exact k
theorem Lc.mirr {st : SortSt} {i j : Nat} (h : Lc a₀ x0 p0 lo st) (hi : lo ≤ i) (hj : j ≤ a₀.size) : Lc a₀ x0 p0 lo (setArr st (mirror (arrOf st) i j ((j - i) / 2))) :=
  ⟨⟨(mirror_perm _ _ _ _).trans h.si.perm, h.si.kind, h.si.failed⟩, h.pd, fun k hk => by
    show (mirror (arrOf st) i j ((j - i) / 2))[k]? = _
    have e := getElem?_mirror_all (xs := arrOf st) (i := i) (j := j) (by rw [h.size]; exact hj) k
    rw [if_neg (by omega)] at e
    rw [e]
    exact h.lw k hk⟩
theorem Lc.bubb {st : SortSt} {src d : Nat} (h : Lc a₀ x0 p0 lo st) (hs : src < a₀.size) (hd : lo + d ≤ src) : Lc a₀ x0 p0 lo (setArr st (bubble (arrOf st) src d)) :=
  ⟨⟨(bubble_perm _ _ _).trans h.si.perm, h.si.kind, h.si.failed⟩, h.pd, fun k hk => by
    show (bubble (arrOf st) src d)[k]? = _
    have e := getElem?_bubble (xs := arrOf st) (src := src) (by rw [h.size]; exact hs) d (by omega) k
    rw [if_neg (by omega), if_neg (by omega)] at e
    rw [e]
    exact h.lw k hk⟩
theorem SoB.snoc {xs : Array Keyed} {lo n : Nat} (h : SoB κ xs lo (lo + n)) (hn : 1 ≤ n) (hl : κ.kle (KK κ xs (lo + n - 1)) (KK κ xs (lo + n))) : SoB κ xs lo (lo + (n + 1)) := fun i j i1 i2 i3 => by
  rcases Nat.lt_or_ge j (lo + n) with z | z
  · exact h i j i1 i2 z
  · cases (show j = lo + n by omega)
    rcases Nat.lt_or_ge i (lo + n) with y | y
    · exact KeyOrd.kle_trans (h i (lo + n - 1) i1 (by omega) (by omega)) hl
    · cases (show i = lo + n by omega)
      exact KeyOrd.kle_refl _
theorem wo_binary (hO : κ.OneLt) {st : SortSt} {n ok : Nat} {Q : Bool → SortSt → Prop} (h0 : Ks κ a₀) (hn : lo + n ≤ a₀.size) (hok : ok ≤ n) (h1n : 1 ≤ n) (hB : Lc a₀ x0 p0 lo st) (hs : SoB κ (arrOf st) lo (lo + ok)) (k : ∀ st', Lc a₀ x0 p0 lo st' → SoB κ (arrOf st') lo (lo + n) → Q true st') : wpS (model prog w) A E s (binarySort' lo n ok) Q st := by
  rw [binarySort'_eq]
  refine wpS_bind (wpS_mono (wpS_forRange (I := fun m c st' => c.1 = none ∧ Lc a₀ x0 p0 lo st' ∧ SoB κ (arrOf st') lo (lo + m)) (Q := fun c st' => c.1 = none ∧ Lc a₀ x0 p0 lo st' ∧ SoB κ (arrOf st') lo (lo + n)) ?_ ?_ ⟨rfl, hB, ?_⟩) ?_)
  · rintro m ⟨r, c⟩ st1 hm1 hm2 ⟨rfl, hL, hS⟩
    try dsimp only at hL hS
    have sz := hL.size
    refine wpS_bind (wpS_mono (wpS_forRange (I := fun i c st' => c.1 = none ∧ st' = st1 ∧ c.2.1 ≤ c.2.2 ∧ c.2.2 ≤ m ∧ c.2.2 - c.2.1 + i ≤ m ∧ (∀ i, i < c.2.1 → κ.kle (KK κ (arrOf st1) (lo + i)) (KK κ (arrOf st1) (lo + m))) ∧ ∀ i, c.2.2 ≤ i → i < m → κ.klt (KK κ (arrOf st1) (lo + m)) (KK κ (arrOf st1) (lo + i)))
      (Q := fun c st' => c.1 = none ∧ st' = st1 ∧ c.2.1 ≤ m ∧ (∀ i, i < c.2.1 → κ.kle (KK κ (arrOf st1) (lo + i)) (KK κ (arrOf st1) (lo + m))) ∧ ∀ i, c.2.1 ≤ i → i < m → κ.klt (KK κ (arrOf st1) (lo + m)) (KK κ (arrOf st1) (lo + i))) ?_ ?_ ⟨rfl, rfl, Nat.zero_le _, Nat.le_refl _, by (try dsimp only); omega, fun i hi => absurd hi (Nat.not_lt_zero _), fun i h1 h2 => absurd h2 (by (try dsimp only at h1); omega)⟩) ?_)
    · rintro i ⟨r, l, u⟩ st2 - hi ⟨rfl, rfl, g1, g2, g3, g4, g5⟩
      dsimp only at g1 g2 g3 g4 g5
      refine wp_ite (fun z => wpS_pure ⟨rfl, rfl, by (try dsimp only at *); omega, g4, fun i h1 h2 => g5 i (by (try dsimp only at *); omega) h2⟩) fun z => ?_
      have z : l < u := Nat.lt_of_not_le z
      refine wpS_bind (wo_ltAt hO h0 hL.si (i := lo + m) (j := lo + (l + u) / 2) (by omega) (by omega) ?_)
      cases ev : κ.blt (KK κ (arrOf st2) (lo + m)) (KK κ (arrOf st2) (lo + (l + u) / 2)) with
      | true =>
        refine wp_ite (fun _ => wpS_pure ⟨rfl, rfl, by (try dsimp only); omega, by (try dsimp only); omega, by (try dsimp only); omega, g4, fun i h1 h2 => ?_⟩) fun z => absurd rfl z
        exact KeyOrd.klt_of_klt_of_kle ev (hS _ _ (by omega) (by (try dsimp only at h1); omega) (by omega))
      | false =>
        refine wp_ite (fun z => by cases z) fun _ => wpS_pure ⟨rfl, rfl, by (try dsimp only); omega, g2, by (try dsimp only); omega, fun i h1 => ?_, g5⟩
        exact KeyOrd.kle_trans (hS (lo + i) (lo + (l + u) / 2) (by omega) (by (try dsimp only at h1); omega) (by omega)) ev
    · rintro ⟨r, l, u⟩ st2 ⟨rfl, rfl, g1, g2, g3, g4, g5⟩
      dsimp only at g1 g2 g3 g4 g5
      exact ⟨rfl, rfl, by (try dsimp only); omega, g4, fun i h1 h2 => g5 i (by (try dsimp only at h1); omega) h2⟩
    · rintro ⟨r, l, u⟩ st2 ⟨rfl, rfl, g1, g2, g3⟩
      dsimp only at g1 g2 g3
      refine wpS_bind (wpS_modify (wpS_pure ⟨rfl, hL.bubb (src := lo + m) (d := lo + m - (lo + l)) (by omega) (by omega), ?_⟩))
      show SoB κ (bubble (arrOf st2) (lo + m) (lo + m - (lo + l))) lo (lo + (m + 1))
      have kb := fun k => KK_bubble (κ := κ) (xs := arrOf st2) (src := lo + m) (d := lo + m - (lo + l)) (by rw [sz]; omega) (by omega) k
      intro i j i1 i2 i3
      rw [kb i, kb j]
      have e : lo + m - (lo + m - (lo + l)) = lo + l := by omega
      rw [e]
      have ci : i < lo + l ∨ i = lo + l ∨ (lo + l < i ∧ i ≤ lo + m) := by omega
      have cj : j < lo + l ∨ j = lo + l ∨ (lo + l < j ∧ j ≤ lo + m) := by omega
      have lowP : ∀ q, lo ≤ q → q < lo + l → κ.kle (KK κ (arrOf st2) q) (KK κ (arrOf st2) (lo + m)) := fun q q1 q2 => by
        have := g2 (q - lo) (by omega)
        rw [show lo + (q - lo) = q by omega] at this
        exact this
      have highP : ∀ q, lo + l ≤ q → q < lo + m → κ.klt (KK κ (arrOf st2) (lo + m)) (KK κ (arrOf st2) q) := fun q q1 q2 => by
        have := g3 (q - lo) (by omega) (by omega)
        rw [show lo + (q - lo) = q by omega] at this
        exact this
      rcases ci with c | c | c <;> rcases cj with d | d | d
      · rw [if_neg (by omega), if_neg (by omega), if_neg (by omega), if_neg (by omega)]
        exact hS i j i1 i2 (by omega)
      · rw [if_neg (by omega), if_neg (by omega), if_pos d]
        exact lowP i i1 c
      · rw [if_neg (by omega), if_neg (by omega), if_neg (by omega), if_pos d]
        exact hS i (j - 1) i1 (by omega) (by omega)
      · omega
      · rw [if_pos c, if_pos d]
        exact KeyOrd.kle_refl _
      · rw [if_pos c, if_neg (by omega), if_pos d]
        exact KeyOrd.kle_of_klt (highP (j - 1) (by omega) (by omega))
      · omega
      · omega
      · rw [if_neg (by omega), if_pos c, if_neg (by omega), if_pos d]
        exact hS (i - 1) (j - 1) (by omega) (by omega) (by omega)
  · rintro ⟨r, c⟩ st1 ⟨rfl, hL, hS⟩
    refine ⟨rfl, hL, ?_⟩
    rw [show max (max ok 1) n = n by omega] at hS
    exact hS
  · try dsimp only
    intro i j i1 i2 i3
    rcases Nat.lt_or_ge j (lo + ok) with z | z
    · exact hs i j i1 i2 z
    · cases (show i = j by omega)
      exact KeyOrd.kle_refl _
  · rintro ⟨r, c⟩ st1 ⟨rfl, hL, hS⟩
    exact wpS_pure (k _ hL hS)
end
end Ts


set_option Elab.async false
set_option linter.all false
set_option maxRecDepth 100000
set_option maxHeartbeats 1000000
namespace Ts
open PySem PyProof.Rows
section
variable {prog : Program} {w : World} {A : Around} {E : Value → Shared → Prop} {s : Shared} {κ : KeyKind} {a₀ x0 : Array Keyed} {p0 : Array (Nat × Nat × Nat)} {lo : Nat}
/-- from lo on, n of them: each not before the next one -/
def Dn (κ : KeyKind) (xs : Array Keyed) (lo hi : Nat) : Prop := ∀ i j, lo ≤ i → i ≤ j → j < hi → κ.kle (KK κ xs j) (KK κ xs i)
theorem Dn.snoc {xs : Array Keyed} {lo n : Nat} (h : Dn κ xs lo (lo + n)) (hn : 1 ≤ n) (hl : κ.kle (KK κ xs (lo + n)) (KK κ xs (lo + n - 1))) : Dn κ xs lo (lo + (n + 1)) := fun i j i1 i2 i3 => by
  rcases Nat.lt_or_ge j (lo + n) with z | z
  · exact h i j i1 i2 z
  · cases (show j = lo + n by omega)
    rcases Nat.lt_or_ge i (lo + n) with y | y
    · exact KeyOrd.kle_trans hl (h i (lo + n - 1) i1 (by omega) (by omega))
    · cases (show i = lo + n by omega)
      exact KeyOrd.kle_refl _
/-- the last of them, all alike -/
def Eqs (κ : KeyKind) (xs : Array Keyed) (i j : Nat) : Prop := ∀ k, i ≤ k → k < j → KK κ xs k = KK κ xs (j - 1)
theorem Dn.same {xs ys : Array Keyed} {lo hi : Nat} (h : Dn κ xs lo hi) (e : ∀ k, KK κ ys k = KK κ xs k) : Dn κ ys lo hi := fun i j a b c => by rw [e, e]; exact h i j a b c
theorem wp_gen {α : Type} {p : StateT SortSt Sem α} {Q : α → SortSt → Prop} {st : SortSt} (F : SortSt → Prop) (h : F st) (k : ∀ st2, F st2 → wpS (model prog w) A E s p Q st2) : wpS (model prog w) A E s p Q st := k st h
theorem SoB.one {xs : Array Keyed} : SoB κ xs lo (lo + 1) := fun i j i1 i2 i3 => by
  cases (show i = j by omega)
  exact KeyOrd.kle_refl _
theorem Dn.turned {xs : Array Keyed} {n : Nat} (h : Dn κ xs lo (lo + n)) (hn : lo + n ≤ xs.size) : SoB κ (mirror xs lo (lo + n) ((lo + n - lo) / 2)) lo (lo + n) := fun i j i1 i2 i3 => by
  rw [KK_mirror hn, KK_mirror hn, if_pos (by omega), if_pos (by omega)]
  exact h _ _ (by omega) (by omega) (by omega)
theorem wo_countRun (hO : κ.OneLt) {st : SortSt} {nrem : Nat} {Q : Option Nat → SortSt → Prop} (h0 : Ks κ a₀) (hn : lo + nrem ≤ a₀.size) (h1 : 1 ≤ nrem) (hB : Lc a₀ x0 p0 lo st) (k : ∀ m st', Lc a₀ x0 p0 lo st' → 1 ≤ m → m ≤ nrem → SoB κ (arrOf st') lo (lo + m) → Q (some m) st') :
    wpS (model prog w) A E s (countRun' lo nrem) Q st := by
  refine wpS_bind (wpS_mono (wpS_forRange (I := fun i c st' => c.1 = none ∧ c.2 = i ∧ st' = st ∧ SoB κ (arrOf st) lo (lo + i)) (Q := fun c st' => c.1 = none ∧ 1 ≤ c.2 ∧ c.2 ≤ nrem ∧ st' = st ∧ SoB κ (arrOf st) lo (lo + c.2) ∧ (c.2 = nrem ∨ κ.klt (KK κ (arrOf st) (lo + c.2)) (KK κ (arrOf st) (lo + c.2 - 1)))) ?_ ?_ ⟨rfl, rfl, rfl, SoB.one⟩) ?_)
  · rintro i ⟨r, m⟩ st1 h3 h4 ⟨rfl, e, rfl, hS⟩
    cases (show m = i from e)
    refine wpS_bind (wo_ltAt hO h0 hB.si (by (try dsimp only); omega) (by (try dsimp only); omega) ?_)
    exact wp_ite (fun ev => wpS_pure ⟨rfl, h3, Nat.le_of_lt h4, rfl, hS, .inr ev⟩) fun ev => wpS_pure ⟨rfl, rfl, rfl, hS.snoc h3 (eq_false_of_ne_true ev)⟩
  · rintro ⟨r, m⟩ st1 ⟨rfl, e, rfl, hS⟩
    cases (show m = max 1 nrem from e)
    rw [show max 1 nrem = nrem by omega] at hS ⊢
    exact ⟨rfl, h1, Nat.le_refl _, rfl, hS, .inl rfl⟩
  · rintro ⟨r, m⟩ st1 ⟨e, m1, m2, rfl, hS, hm⟩
    cases (show r = none from e)
    dsimp only at m1 m2 hS hm
    refine wp_ite (fun z => wpS_pure (k m _ hB m1 m2 hS)) fun z => ?_
    have z : m < nrem := by
      try dsimp only at z
      simp only [beq_iff_eq] at z
      omega
    have hlt : κ.klt (KK κ (arrOf st1) (lo + m)) (KK κ (arrOf st1) (lo + m - 1)) := hm.resolve_left (by omega)
    refine wp_ite (fun g => wpS_bind (wo_ltAt hO h0 hB.si (by (try dsimp only); omega) (by (try dsimp only); omega) ?_)) fun g => ?_
    · cases ev : κ.blt (KK κ (arrOf st1) lo) (KK κ (arrOf st1) (lo + m - 1)) with
      | true => exact wp_ite (fun _ => wpS_pure (k m _ hB m1 m2 hS)) fun z => absurd rfl z
      | false =>
        refine wp_ite (fun z => by cases z) fun _ => wpS_bind (wpS_modify ?_)
        have eq : Eqs κ (arrOf st1) lo (lo + m) := fun q q1 q2 => KeyOrd.kle_antisymm (hS q (lo + m - 1) q1 (by omega) (by omega)) (KeyOrd.kle_trans ev (hS lo q (Nat.le_refl _) q1 q2))
        have L2 : Lc a₀ x0 p0 lo (setArr st1 (mirror (arrOf st1) lo (lo + m) ((lo + m - lo) / 2))) := hB.mirr (Nat.le_refl _) (by omega)
        have D2 : Dn κ (arrOf (setArr st1 (mirror (arrOf st1) lo (lo + m) ((lo + m - lo) / 2)))) lo (lo + (m + 1)) := by
          refine Dn.same (xs := arrOf st1) (Dn.snoc (fun i j i1 i2 i3 => ?_) m1 (KeyOrd.kle_of_klt hlt)) (KK_mirror_equal (by rw [hB.size]; omega) eq)
          rw [eq i (by omega) (by omega), eq j (by omega) (by omega)]
          exact KeyOrd.kle_refl _
        refine wp_gen (fun st2 => Lc a₀ x0 p0 lo st2 ∧ Dn κ (arrOf st2) lo (lo + (m + 1))) ⟨L2, D2⟩ fun st2 ⟨L2, D2⟩ => ?_
        refine wpS_bind (wpS_lift (wpAny_rule ⟨rfl, ?_⟩))
        refine wpS_bind (wpS_mono (wpS_forRange (I := fun i c st' => c.1 = none ∧ c.2.1 = i ∧ Lc a₀ x0 p0 lo st' ∧ Dn κ (arrOf st') lo (lo + i) ∧ c.2.2 + 1 ≤ i ∧ Eqs κ (arrOf st') (lo + i - (c.2.2 + 1)) (lo + i))
          (Q := fun c st' => c.1 = none ∧ m + 1 ≤ c.2.1 ∧ c.2.1 ≤ nrem ∧ Lc a₀ x0 p0 lo st' ∧ Dn κ (arrOf st') lo (lo + c.2.1) ∧ c.2.2 + 1 ≤ c.2.1 ∧ Eqs κ (arrOf st') (lo + c.2.1 - (c.2.2 + 1)) (lo + c.2.1)) ?_ ?_ ⟨rfl, rfl, L2, D2, by (try dsimp only); omega, fun q q1 q2 => by (try dsimp only at q1 q2); rw [show q = lo + (m + 1) - 1 by omega]⟩) ?_)
        · rintro i ⟨r, n, neq⟩ st3 h3 h4 ⟨rfl, e, L3, D3, h5, E3⟩
          have e : n = i := e
          subst e
          try dsimp only at L3 D3 h5 E3 h3 h4
          refine wpS_bind (wo_ltAt hO h0 L3.si (by (try dsimp only); omega) (by (try dsimp only); omega) ?_)
          refine wp_ite (fun ev => ?_) fun ev => wpS_bind (wo_ltAt hO h0 L3.si (by (try dsimp only); omega) (by (try dsimp only); omega) ?_)
          · refine wp_ite (fun _ => wpS_bind (wpS_modify (wpS_pure ⟨rfl, rfl, L3.mirr (by (try dsimp only); omega) (by (try dsimp only); omega), ?_, by (try dsimp only); omega, fun q q1 q2 => ?_⟩))) fun _ => wpS_pure ⟨rfl, rfl, L3, D3.snoc (by omega) (KeyOrd.kle_of_klt ev), by (try dsimp only); omega, fun q q1 q2 => ?_⟩
            · have same := KK_mirror_equal (κ := κ) (xs := arrOf st3) (i := lo + n - (neq + 1)) (j := lo + n) (by rw [L3.size]; omega) E3
              exact Dn.same (xs := arrOf st3) (D3.snoc (by omega) (KeyOrd.kle_of_klt ev)) same
            · rw [show q = lo + (n + 1) - 1 by (try dsimp only at q1 q2); omega]
            · rw [show q = lo + (n + 1) - 1 by (try dsimp only at q1 q2); omega]
          · refine wp_ite (fun ev2 => wpS_pure ⟨rfl, h3, Nat.le_of_lt h4, L3, D3, h5, E3⟩) fun ev2 => wpS_pure ⟨rfl, rfl, L3, D3.snoc (by omega) (eq_false_of_ne_true ev2), by (try dsimp only); omega, fun q q1 q2 => ?_⟩
            have same : KK κ (arrOf st3) (lo + n) = KK κ (arrOf st3) (lo + n - 1) := KeyOrd.kle_antisymm (eq_false_of_ne_true ev2) (eq_false_of_ne_true ev)
            rw [show lo + (n + 1) - 1 = lo + n by omega, same]
            rcases Nat.lt_or_ge q (lo + n) with y | y
            · exact E3 q (by (try dsimp only at q1); omega) y
            · rw [show q = lo + n by (try dsimp only at q2); omega]
              exact same
        · rintro ⟨r, n, neq⟩ st3 ⟨rfl, e, L3, D3, h5, E3⟩
          cases (show n = max (m + 1) nrem from e)
          have en : max (m + 1) nrem = nrem := by omega
          try dsimp only at D3 h5 E3
          rw [en] at D3 h5 E3 ⊢
          exact ⟨rfl, by (try dsimp only); omega, Nat.le_refl _, L3, D3, h5, E3⟩
        · rintro ⟨r, n, neq⟩ st3 ⟨e, h3, h4, L3, D3, h5, E3⟩
          cases (show r = none from e)
          try dsimp only at h3 h4 L3 D3 h5 E3
          refine wp_ite (fun _ => wpS_bind (wpS_modify (wpS_bind (wpS_modify ?_)))) fun _ => wpS_bind (wpS_modify ?_)
          · have L4 := (L3.mirr (i := lo + n - (neq + 1)) (j := lo + n) (by omega) (by omega)).mirr (i := lo) (j := lo + n) (Nat.le_refl _) (by omega)
            have S4 : SoB κ (arrOf (setArr (setArr st3 (mirror (arrOf st3) (lo + n - (neq + 1)) (lo + n) ((lo + n - (lo + n - (neq + 1))) / 2))) (mirror (arrOf (setArr st3 (mirror (arrOf st3) (lo + n - (neq + 1)) (lo + n) ((lo + n - (lo + n - (neq + 1))) / 2)))) lo (lo + n) ((lo + n - lo) / 2)))) lo (lo + n) := Dn.turned (Dn.same (xs := arrOf st3) D3 (KK_mirror_equal (by rw [L3.size]; omega) E3)) (by show _ ≤ (mirror (arrOf st3) _ _ _).size; rw [mirror_size, L3.size]; omega)
            refine wp_gen (fun st4 => Lc a₀ x0 p0 lo st4 ∧ SoB κ (arrOf st4) lo (lo + n)) ⟨L4, S4⟩ fun st4 ⟨L4, S4⟩ => ?_
            refine wpS_bind (wpS_mono (wpS_forRange (I := fun i c st' => c.1 = none ∧ c.2 = i ∧ st' = st4 ∧ SoB κ (arrOf st4) lo (lo + i)) (Q := fun c st' => c.1 = none ∧ 1 ≤ c.2 ∧ c.2 ≤ nrem ∧ st' = st4 ∧ SoB κ (arrOf st4) lo (lo + c.2)) ?_ ?_ ⟨rfl, rfl, rfl, S4⟩) ?_)
            · rintro i ⟨r, q⟩ st5 h6 h7 ⟨rfl, e, rfl, hS5⟩
              have e : q = i := e
              subst e
              try dsimp only at h6 h7
              refine wpS_bind (wo_ltAt hO h0 L4.si (by (try dsimp only); omega) (by (try dsimp only); omega) ?_)
              exact wp_ite (fun ev => wpS_pure ⟨rfl, by (try dsimp only); omega, Nat.le_of_lt h7, rfl, hS5⟩) fun ev => wpS_pure ⟨rfl, rfl, rfl, hS5.snoc (by omega) (eq_false_of_ne_true ev)⟩
            · rintro ⟨r, q⟩ st5 ⟨rfl, e, rfl, hS5⟩
              cases (show q = max n nrem from e)
              rw [show max n nrem = nrem by omega] at hS5 ⊢
              exact ⟨rfl, h1, Nat.le_refl _, rfl, hS5⟩
            · rintro ⟨r, q⟩ st5 ⟨e, h6, h7, rfl, hS5⟩
              cases (show r = none from e)
              exact wpS_pure (k _ _ L4 h6 h7 hS5)
          · have L4 := L3.mirr (i := lo) (j := lo + n) (Nat.le_refl _) (by omega)
            have S4 : SoB κ (arrOf (setArr st3 (mirror (arrOf st3) lo (lo + n) ((lo + n - lo) / 2)))) lo (lo + n) := Dn.turned D3 (by rw [L3.size]; omega)
            refine wp_gen (fun st4 => Lc a₀ x0 p0 lo st4 ∧ SoB κ (arrOf st4) lo (lo + n)) ⟨L4, S4⟩ fun st4 ⟨L4, S4⟩ => ?_
            refine wpS_bind (wpS_mono (wpS_forRange (I := fun i c st' => c.1 = none ∧ c.2 = i ∧ st' = st4 ∧ SoB κ (arrOf st4) lo (lo + i)) (Q := fun c st' => c.1 = none ∧ 1 ≤ c.2 ∧ c.2 ≤ nrem ∧ st' = st4 ∧ SoB κ (arrOf st4) lo (lo + c.2)) ?_ ?_ ⟨rfl, rfl, rfl, S4⟩) ?_)
            · rintro i ⟨r, q⟩ st5 h6 h7 ⟨rfl, e, rfl, hS5⟩
              have e : q = i := e
              subst e
              try dsimp only at h6 h7
              refine wpS_bind (wo_ltAt hO h0 L4.si (by (try dsimp only); omega) (by (try dsimp only); omega) ?_)
              exact wp_ite (fun ev => wpS_pure ⟨rfl, by (try dsimp only); omega, Nat.le_of_lt h7, rfl, hS5⟩) fun ev => wpS_pure ⟨rfl, rfl, rfl, hS5.snoc (by omega) (eq_false_of_ne_true ev)⟩
            · rintro ⟨r, q⟩ st5 ⟨rfl, e, rfl, hS5⟩
              cases (show q = max n nrem from e)
              rw [show max n nrem = nrem by omega] at hS5 ⊢
              exact ⟨rfl, h1, Nat.le_refl _, rfl, hS5⟩
            · rintro ⟨r, q⟩ st5 ⟨e, h6, h7, rfl, hS5⟩
              cases (show r = none from e)
              exact wpS_pure (k _ _ L4 h6 h7 hS5)
    · have L2 := hB
      have D2 : Dn κ (arrOf st1) lo (lo + (m + 1)) := by
        have m1' : m = 1 := by (try dsimp only at g); omega
        subst m1'
        exact Dn.snoc (fun i j i1 i2 i3 => by cases (show i = j by omega); exact KeyOrd.kle_refl _) (Nat.le_refl _) (KeyOrd.kle_of_klt hlt)
      refine wp_gen (fun st2 => Lc a₀ x0 p0 lo st2 ∧ Dn κ (arrOf st2) lo (lo + (m + 1))) ⟨L2, D2⟩ fun st2 ⟨L2, D2⟩ => ?_
      refine wpS_bind (wpS_lift (wpAny_rule ⟨rfl, ?_⟩))
      refine wpS_bind (wpS_mono (wpS_forRange (I := fun i c st' => c.1 = none ∧ c.2.1 = i ∧ Lc a₀ x0 p0 lo st' ∧ Dn κ (arrOf st') lo (lo + i) ∧ c.2.2 + 1 ≤ i ∧ Eqs κ (arrOf st') (lo + i - (c.2.2 + 1)) (lo + i))
        (Q := fun c st' => c.1 = none ∧ m + 1 ≤ c.2.1 ∧ c.2.1 ≤ nrem ∧ Lc a₀ x0 p0 lo st' ∧ Dn κ (arrOf st') lo (lo + c.2.1) ∧ c.2.2 + 1 ≤ c.2.1 ∧ Eqs κ (arrOf st') (lo + c.2.1 - (c.2.2 + 1)) (lo + c.2.1)) ?_ ?_ ⟨rfl, rfl, L2, D2, by (try dsimp only); omega, fun q q1 q2 => by (try dsimp only at q1 q2); rw [show q = lo + (m + 1) - 1 by omega]⟩) ?_)
      · rintro i ⟨r, n, neq⟩ st3 h3 h4 ⟨rfl, e, L3, D3, h5, E3⟩
        have e : n = i := e
        subst e
        try dsimp only at L3 D3 h5 E3 h3 h4
        refine wpS_bind (wo_ltAt hO h0 L3.si (by (try dsimp only); omega) (by (try dsimp only); omega) ?_)
        refine wp_ite (fun ev => ?_) fun ev => wpS_bind (wo_ltAt hO h0 L3.si (by (try dsimp only); omega) (by (try dsimp only); omega) ?_)
        · refine wp_ite (fun _ => wpS_bind (wpS_modify (wpS_pure ⟨rfl, rfl, L3.mirr (by (try dsimp only); omega) (by (try dsimp only); omega), ?_, by (try dsimp only); omega, fun q q1 q2 => ?_⟩))) fun _ => wpS_pure ⟨rfl, rfl, L3, D3.snoc (by omega) (KeyOrd.kle_of_klt ev), by (try dsimp only); omega, fun q q1 q2 => ?_⟩
          · have same := KK_mirror_equal (κ := κ) (xs := arrOf st3) (i := lo + n - (neq + 1)) (j := lo + n) (by rw [L3.size]; omega) E3
            exact Dn.same (xs := arrOf st3) (D3.snoc (by omega) (KeyOrd.kle_of_klt ev)) same
          · rw [show q = lo + (n + 1) - 1 by (try dsimp only at q1 q2); omega]
          · rw [show q = lo + (n + 1) - 1 by (try dsimp only at q1 q2); omega]
        · refine wp_ite (fun ev2 => wpS_pure ⟨rfl, h3, Nat.le_of_lt h4, L3, D3, h5, E3⟩) fun ev2 => wpS_pure ⟨rfl, rfl, L3, D3.snoc (by omega) (eq_false_of_ne_true ev2), by (try dsimp only); omega, fun q q1 q2 => ?_⟩
          have same : KK κ (arrOf st3) (lo + n) = KK κ (arrOf st3) (lo + n - 1) := KeyOrd.kle_antisymm (eq_false_of_ne_true ev2) (eq_false_of_ne_true ev)
          rw [show lo + (n + 1) - 1 = lo + n by omega, same]
          rcases Nat.lt_or_ge q (lo + n) with y | y
          · exact E3 q (by (try dsimp only at q1); omega) y
          · rw [show q = lo + n by (try dsimp only at q2); omega]
            exact same
      · rintro ⟨r, n, neq⟩ st3 ⟨rfl, e, L3, D3, h5, E3⟩
        cases (show n = max (m + 1) nrem from e)
        have en : max (m + 1) nrem = nrem := by omega
        try dsimp only at D3 h5 E3
        rw [en] at D3 h5 E3 ⊢
        exact ⟨rfl, by (try dsimp only); omega, Nat.le_refl _, L3, D3, h5, E3⟩
      · rintro ⟨r, n, neq⟩ st3 ⟨e, h3, h4, L3, D3, h5, E3⟩
        cases (show r = none from e)
        try dsimp only at h3 h4 L3 D3 h5 E3
        refine wp_ite (fun _ => wpS_bind (wpS_modify (wpS_bind (wpS_modify ?_)))) fun _ => wpS_bind (wpS_modify ?_)
        · have L4 := (L3.mirr (i := lo + n - (neq + 1)) (j := lo + n) (by omega) (by omega)).mirr (i := lo) (j := lo + n) (Nat.le_refl _) (by omega)
          have S4 : SoB κ (arrOf (setArr (setArr st3 (mirror (arrOf st3) (lo + n - (neq + 1)) (lo + n) ((lo + n - (lo + n - (neq + 1))) / 2))) (mirror (arrOf (setArr st3 (mirror (arrOf st3) (lo + n - (neq + 1)) (lo + n) ((lo + n - (lo + n - (neq + 1))) / 2)))) lo (lo + n) ((lo + n - lo) / 2)))) lo (lo + n) := Dn.turned (Dn.same (xs := arrOf st3) D3 (KK_mirror_equal (by rw [L3.size]; omega) E3)) (by show _ ≤ (mirror (arrOf st3) _ _ _).size; rw [mirror_size, L3.size]; omega)
          refine wp_gen (fun st4 => Lc a₀ x0 p0 lo st4 ∧ SoB κ (arrOf st4) lo (lo + n)) ⟨L4, S4⟩ fun st4 ⟨L4, S4⟩ => ?_
          refine wpS_bind (wpS_mono (wpS_forRange (I := fun i c st' => c.1 = none ∧ c.2 = i ∧ st' = st4 ∧ SoB κ (arrOf st4) lo (lo + i)) (Q := fun c st' => c.1 = none ∧ 1 ≤ c.2 ∧ c.2 ≤ nrem ∧ st' = st4 ∧ SoB κ (arrOf st4) lo (lo + c.2)) ?_ ?_ ⟨rfl, rfl, rfl, S4⟩) ?_)
          · rintro i ⟨r, q⟩ st5 h6 h7 ⟨rfl, e, rfl, hS5⟩
            have e : q = i := e
            subst e
            try dsimp only at h6 h7
            refine wpS_bind (wo_ltAt hO h0 L4.si (by (try dsimp only); omega) (by (try dsimp only); omega) ?_)
            exact wp_ite (fun ev => wpS_pure ⟨rfl, by (try dsimp only); omega, Nat.le_of_lt h7, rfl, hS5⟩) fun ev => wpS_pure ⟨rfl, rfl, rfl, hS5.snoc (by omega) (eq_false_of_ne_true ev)⟩
          · rintro ⟨r, q⟩ st5 ⟨rfl, e, rfl, hS5⟩
            cases (show q = max n nrem from e)
            rw [show max n nrem = nrem by omega] at hS5 ⊢
            exact ⟨rfl, h1, Nat.le_refl _, rfl, hS5⟩
          · rintro ⟨r, q⟩ st5 ⟨e, h6, h7, rfl, hS5⟩
            cases (show r = none from e)
            exact wpS_pure (k _ _ L4 h6 h7 hS5)
        · have L4 := L3.mirr (i := lo) (j := lo + n) (Nat.le_refl _) (by omega)
          have S4 : SoB κ (arrOf (setArr st3 (mirror (arrOf st3) lo (lo + n) ((lo + n - lo) / 2)))) lo (lo + n) := Dn.turned D3 (by rw [L3.size]; omega)
          refine wp_gen (fun st4 => Lc a₀ x0 p0 lo st4 ∧ SoB κ (arrOf st4) lo (lo + n)) ⟨L4, S4⟩ fun st4 ⟨L4, S4⟩ => ?_
          refine wpS_bind (wpS_mono (wpS_forRange (I := fun i c st' => c.1 = none ∧ c.2 = i ∧ st' = st4 ∧ SoB κ (arrOf st4) lo (lo + i)) (Q := fun c st' => c.1 = none ∧ 1 ≤ c.2 ∧ c.2 ≤ nrem ∧ st' = st4 ∧ SoB κ (arrOf st4) lo (lo + c.2)) ?_ ?_ ⟨rfl, rfl, rfl, S4⟩) ?_)
          · rintro i ⟨r, q⟩ st5 h6 h7 ⟨rfl, e, rfl, hS5⟩
            have e : q = i := e
            subst e
            try dsimp only at h6 h7
            refine wpS_bind (wo_ltAt hO h0 L4.si (by (try dsimp only); omega) (by (try dsimp only); omega) ?_)
            exact wp_ite (fun ev => wpS_pure ⟨rfl, by (try dsimp only); omega, Nat.le_of_lt h7, rfl, hS5⟩) fun ev => wpS_pure ⟨rfl, rfl, rfl, hS5.snoc (by omega) (eq_false_of_ne_true ev)⟩
          · rintro ⟨r, q⟩ st5 ⟨rfl, e, rfl, hS5⟩
            cases (show q = max n nrem from e)
            rw [show max n nrem = nrem by omega] at hS5 ⊢
            exact ⟨rfl, h1, Nat.le_refl _, rfl, hS5⟩
          · rintro ⟨r, q⟩ st5 ⟨e, h6, h7, rfl, hS5⟩
            cases (show r = none from e)
            exact wpS_pure (k _ _ L4 h6 h7 hS5)
end
end Ts


set_option Elab.async false
set_option linter.all false
set_option maxRecDepth 100000
set_option maxHeartbeats 1000000
namespace Ts
open PySem PyProof.Rows
section
variable {prog : Program} {w : World} {A : Around} {E : Value → Shared → Prop} {s : Shared} {κ : KeyKind} {a₀ : Array Keyed} {hi : Nat}
theorem Rn.count : ∀ {l : List (Nat × Nat × Nat)} {lo hi : Nat}, Rn l lo hi → lo + l.length ≤ hi
  | [], lo, hi, h => Nat.le_of_eq h
  | (b, n, p) :: l, lo, hi, h => by
    have := Rn.count h.2.2
    have := h.2.1
    rw [List.length_cons]
    omega
theorem RS.power {xs : Array Keyed} {l : List (Nat × Nat × Nat)} {i pw : Nat} (h : RS κ xs l) : RS κ xs (l.modify i fun q => (q.1, q.2.1, pw)) := fun b n p hm => by
  obtain ⟨j, e⟩ := List.mem_iff_getElem?.mp hm
  rw [List.getElem?_modify] at e
  cases q : l[j]? with
  | none => rw [q] at e; simp at e
  | some u =>
    rw [q] at e
    obtain ⟨b', n', p'⟩ := u
    have := h b' n' p' (List.mem_of_getElem? q)
    have e : (if i = j then (b', n', pw) else (b', n', p')) = (b, n, p) := Option.some.inj e
    by_cases z : i = j
    · rw [if_pos z] at e
      cases e
      exact this
    · rw [if_neg z] at e
      cases e
      exact this
theorem SRo.lc {st : SortSt} (S : SRo κ a₀ hi st) : Lc a₀ (arrOf st) (pendingOf st) hi st := ⟨S.toSI, rfl, fun _ _ => rfl⟩
theorem SRo.of_lc {st st' : SortSt} (S : SRo κ a₀ hi st) (L : Lc a₀ (arrOf st) (pendingOf st) hi st') : SRo κ a₀ hi st' := by
  refine ⟨⟨L.si, by rw [L.pd]; exact S.runs, S.fits⟩, ?_⟩
  rw [L.pd]
  intro b n p hm
  obtain ⟨j, e⟩ := List.mem_iff_getElem?.mp hm
  have := S.runs.in e
  exact SoB.congr (S.so b n p hm) fun k h1 h2 => L.lw k (by omega)
theorem SRo.pusho {st : SortSt} {n : Nat} (S : SRo κ a₀ hi st) (h1 : 0 < n) (h2 : hi + n ≤ a₀.size) (so : SoB κ (arrOf st) hi (hi + n)) : SRo κ a₀ (hi + n) (setPending st ((pendingOf st).push (hi, n, 0))) :=
  ⟨S.toSR.push h1 h2, by
    show RS κ (arrOf st) ((pendingOf st).push (hi, n, 0)).toList
    rw [Array.toList_push]
    intro b m p hm
    rcases List.mem_append.mp hm with z | z
    · exact S.so b m p z
    · cases List.mem_singleton.mp z
      exact so⟩
theorem wo_sortRuns (hO : κ.OneLt) {st : SortSt} {Q : Unit → SortSt → Prop} (h0 : Ks κ a₀) (hB : SI a₀ st) (hp : pendingOf st = #[]) (k : ∀ st', SI a₀ st' → SoB κ (arrOf st') 0 a₀.size → Q () st') : wpS (model prog w) A E s sortRuns' Q st := by
  refine wpS_bind (wpS_get ?_)
  have sz : (arrOf st).size = a₀.size := hB.perm.size_eq
  refine wpS_bind (wpS_mono (wpS_forRange (I := fun x c st' => c.1 = none ∧ SRo κ a₀ c.2 st' ∧ x ≤ c.2) (Q := fun c st' => c.1 = none ∧ SRo κ a₀ c.2 st' ∧ a₀.size ≤ c.2) ?step (fun c _ h => ⟨h.1, h.2.1, by have := h.2.2; rw [sz] at this; omega⟩) ⟨rfl, ⟨⟨hB, by rw [hp]; rfl, Nat.zero_le _⟩, by rw [hp]; intro b n p hm; simp at hm⟩, Nat.zero_le _⟩) ?post)
  case step =>
    rintro x ⟨r, lo⟩ st1 - hx ⟨rfl, S, hxl⟩
    dsimp only at S hxl
    have fits := S.fits
    refine wp_ite (fun z => wpS_pure ⟨rfl, S, by rw [← sz]; exact z⟩) fun z => ?_
    have z : lo < a₀.size := by rw [← sz]; exact Nat.lt_of_not_le z
    refine wpS_bind (wo_countRun hO h0 (lo := lo) (nrem := (arrOf st).size - lo) (by omega) (by omega) (S.lc) fun n st2 L2 n1 n2 so2 => ?_)
    have n2 : lo + n ≤ a₀.size := by omega
    refine wp_ite (fun small => wpS_bind (wpS_lift (wpAny_rule ⟨rfl, ?_⟩))) fun _ => ?_
    · refine wpS_bind (wo_binary hO h0 (lo := lo) (n := min ((arrOf st).size - lo) (minRun' (arrOf st).size (arrOf st).size 0)) (ok := n) (by omega) (by have : n < minRun' (arrOf st).size (arrOf st).size 0 := small; omega) (by have : n < minRun' (arrOf st).size (arrOf st).size 0 := small; omega) L2 so2 fun st3 L3 so3 => ?_)
      have S := S.of_lc L3
      have n1 : 0 < min ((arrOf st).size - lo) (minRun' (arrOf st).size (arrOf st).size 0) := by
        have : n < minRun' (arrOf st).size (arrOf st).size 0 := small
        omega
      have n2 : lo + min ((arrOf st).size - lo) (minRun' (arrOf st).size (arrOf st).size 0) ≤ a₀.size := by omega
      refine wp_ite (fun e => nomatch e) fun _ => ?_
      refine wpS_bind (wpS_get ?_)
      cases eb : (pendingOf st3).back? with
      | none =>
        simp only [show (sortPriv% PySem.Builtin.SortState.pending) st3 = pendingOf st3 from rfl, eb]
        exact wpS_bind (wpS_modify (wpS_pure ⟨rfl, S.pusho n1 n2 so3, by (try dsimp only); omega⟩))
      | some u =>
        obtain ⟨s1, m1, p1⟩ := u
        simp only [show (sortPriv% PySem.Builtin.SortState.pending) st3 = pendingOf st3 from rfl, eb]
        refine wpS_bind (wpS_mono (wpS_forRange (I := fun _ c st' => c.1 = none ∧ SRo κ a₀ lo st' ∧ ∀ q, lo ≤ q → (arrOf st')[q]? = (arrOf st3)[q]?) (Q := fun c st' => c.1 = none ∧ SRo κ a₀ lo st' ∧ ∀ q, lo ≤ q → (arrOf st')[q]? = (arrOf st3)[q]?) ?_ (fun _ _ h => h) ⟨rfl, S, fun _ _ => rfl⟩) ?_)
        · rintro y ⟨r, c⟩ st4 - hy ⟨rfl, S4, U4⟩
          refine wpS_bind (wpS_get ?_)
          split
          next f1 f2 older e =>
            refine wp_ite (fun _ => wpS_pure ⟨rfl, S4, U4⟩) fun _ => ?_
            have big : 1 < (pendingOf st4).size := by
              split at e
              · assumption
              · cases e
            exact wpS_bind (wo_mergeAt hO h0 S4 (by show (pendingOf st4).size - 2 + 1 < (pendingOf st4).size; omega) fun st5 S5 _ U5 => wpS_pure ⟨rfl, S5, fun q hq => (U5 q hq).trans (U4 q hq)⟩)
          next => exact wpS_pure ⟨rfl, S4, U4⟩
        · rintro ⟨r, c⟩ st4 ⟨rfl, S4, U4⟩
          refine wpS_bind (wpS_modify (wpS_bind (wpS_modify (wpS_pure ⟨rfl, ?_, by (try dsimp only); omega⟩))))
          refine SRo.pusho (st := setPending st4 ((pendingOf st4).modify ((pendingOf st4).size - 1) fun q => (q.1, q.2.1, _))) ⟨⟨⟨S4.perm, S4.kind, S4.failed⟩, ?_, S4.fits⟩, ?_⟩ n1 n2 (SoB.congr so3 fun q q1 _ => U4 q q1)
          · show Rn ((pendingOf st4).modify ((pendingOf st4).size - 1) _).toList 0 lo
            rw [Array.toList_modify]
            exact S4.runs.power
          · show RS κ (arrOf st4) ((pendingOf st4).modify ((pendingOf st4).size - 1) _).toList
            rw [Array.toList_modify]
            exact S4.so.power
    · have S := S.of_lc L2
      have so3 := so2
      generalize st2 = st3 at S so3
      refine wpS_bind (wpS_get ?_)
      cases eb : (pendingOf st3).back? with
      | none =>
        simp only [show (sortPriv% PySem.Builtin.SortState.pending) st3 = pendingOf st3 from rfl, eb]
        exact wpS_bind (wpS_modify (wpS_pure ⟨rfl, S.pusho n1 n2 so3, by (try dsimp only); omega⟩))
      | some u =>
        obtain ⟨s1, m1, p1⟩ := u
        simp only [show (sortPriv% PySem.Builtin.SortState.pending) st3 = pendingOf st3 from rfl, eb]
        refine wpS_bind (wpS_mono (wpS_forRange (I := fun _ c st' => c.1 = none ∧ SRo κ a₀ lo st' ∧ ∀ q, lo ≤ q → (arrOf st')[q]? = (arrOf st3)[q]?) (Q := fun c st' => c.1 = none ∧ SRo κ a₀ lo st' ∧ ∀ q, lo ≤ q → (arrOf st')[q]? = (arrOf st3)[q]?) ?_ (fun _ _ h => h) ⟨rfl, S, fun _ _ => rfl⟩) ?_)
        · rintro y ⟨r, c⟩ st4 - hy ⟨rfl, S4, U4⟩
          refine wpS_bind (wpS_get ?_)
          split
          next f1 f2 older e =>
            refine wp_ite (fun _ => wpS_pure ⟨rfl, S4, U4⟩) fun _ => ?_
            have big : 1 < (pendingOf st4).size := by
              split at e
              · assumption
              · cases e
            exact wpS_bind (wo_mergeAt hO h0 S4 (by show (pendingOf st4).size - 2 + 1 < (pendingOf st4).size; omega) fun st5 S5 _ U5 => wpS_pure ⟨rfl, S5, fun q hq => (U5 q hq).trans (U4 q hq)⟩)
          next => exact wpS_pure ⟨rfl, S4, U4⟩
        · rintro ⟨r, c⟩ st4 ⟨rfl, S4, U4⟩
          refine wpS_bind (wpS_modify (wpS_bind (wpS_modify (wpS_pure ⟨rfl, ?_, by (try dsimp only); omega⟩))))
          refine SRo.pusho (st := setPending st4 ((pendingOf st4).modify ((pendingOf st4).size - 1) fun q => (q.1, q.2.1, _))) ⟨⟨⟨S4.perm, S4.kind, S4.failed⟩, ?_, S4.fits⟩, ?_⟩ n1 n2 (SoB.congr so3 fun q q1 _ => U4 q q1)
          · show Rn ((pendingOf st4).modify ((pendingOf st4).size - 1) _).toList 0 lo
            rw [Array.toList_modify]
            exact S4.runs.power
          · show RS κ (arrOf st4) ((pendingOf st4).modify ((pendingOf st4).size - 1) _).toList
            rw [Array.toList_modify]
            exact S4.so.power
  case post =>
    rintro ⟨r, lo⟩ st1 ⟨rfl, S, hlo⟩
    dsimp only at S hlo
    have fits := S.fits
    have el : lo = a₀.size := by omega
    subst el
    refine wpS_bind (wpS_mono (wpS_forRange (I := fun y c st' => c.1 = none ∧ SRo κ a₀ a₀.size st' ∧ ((pendingOf st').size + y ≤ a₀.size ∨ (pendingOf st').size ≤ 1)) (Q := fun c st' => c.1 = none ∧ SRo κ a₀ a₀.size st' ∧ (pendingOf st').size ≤ 1) ?_ (fun _ _ h => ⟨h.1, h.2.1, by have := h.2.2; rw [sz] at this; omega⟩) ⟨rfl, S, .inl (by have := S.runs.count; rw [Array.length_toList] at this; omega)⟩) ?_)
    · rintro y ⟨r, c⟩ st4 - hy ⟨rfl, S4, c4⟩
      refine wpS_bind (wpS_get (wp_ite (fun z => wpS_pure ⟨rfl, S4, z⟩) fun z => ?_))
      have z : 1 < (pendingOf st4).size := Nat.lt_of_not_le z
      refine wpS_bind (wo_mergeAt hO h0 S4 ?_ fun st5 S5 c5 _ => wpS_pure ⟨rfl, S5, by omega⟩)
      have at_ : ∀ (c : Prop) [Decidable c], (if c then (pendingOf st4).size - 2 - 1 else (pendingOf st4).size - 2) + 1 < (pendingOf st4).size := by
        intro c _
        split <;> omega
      exact at_ _
    · rintro ⟨r, c⟩ st4 ⟨rfl, S4, c4⟩
      refine wpS_pure (k _ S4.toSI ?_)
      have R := S4.runs
      have so := S4.so
      have c4 : (pendingOf st4).toList.length ≤ 1 := by rw [Array.length_toList]; exact c4
      generalize (pendingOf st4).toList = l at R so c4
      match l, R, so, c4 with
      | [], R, so, _ => exact fun i j _ _ h3 => absurd h3 (by have : (0 : Nat) = a₀.size := R; omega)
      | [(b, n, p)], R, so, _ =>
        obtain ⟨rfl, _, e⟩ := R
        have e : 0 + n = a₀.size := e
        have := so 0 n p (List.mem_singleton.mpr rfl)
        rw [e] at this
        exact this
end
end Ts


set_option Elab.async false
set_option linter.all false
set_option maxRecDepth 100000
set_option maxHeartbeats 2000000
namespace L2
open PySem PySem.Spec PyProof.Rows Tw
/-! ### sorted, of ints or texts, however many: in order -/
def keyV (κ : KeyKind) (v : Value) : κ.α := (κ.keyOf v).getD κ.dflt
theorem out_of {κ : KeyKind} {vs : List Value} {xs : Array Keyed} (hp : xs.Perm (pairsOf vs)) (so : Ts.SoB κ xs 0 (pairsOf vs).size) : (xs.map (·.2)).toList.Perm vs ∧ (xs.map (·.2)).toList.Pairwise fun u v => κ.kle (keyV κ u) (keyV κ v) := by
  have hl : xs.toList.Perm (vs.zip vs) := by rw [← pairsOf_toList]; exact Array.perm_iff_toList_perm.mp hp
  have sz : xs.size = (pairsOf vs).size := hp.size_eq
  refine ⟨?_, ?_⟩
  · rw [Array.toList_map]
    refine (hl.map _).trans (List.Perm.of_eq ?_)
    exact List.map_snd_zip (Nat.le_refl _)
  · rw [Array.toList_map]
    refine List.pairwise_iff_getElem.mpr fun i j hi hj hij => ?_
    rw [List.length_map, Array.length_toList] at hi hj
    have := so i j (Nat.zero_le _) (by omega) (by omega)
    rw [Ts.KK_at (Array.getElem?_eq_getElem hi), Ts.KK_at (Array.getElem?_eq_getElem hj)] at this
    have eq : ∀ k (hk : k < xs.size), (xs[k]).1 = (xs[k]).2 := fun k hk => (mem_zip_self (hl.mem_iff.mp (by rw [← Array.getElem_toList]; exact List.getElem_mem _))).1
    rw [List.getElem_map, List.getElem_map, Array.getElem_toList, Array.getElem_toList]
    unfold keyV
    rw [← eq i hi, ← eq j hj]
    exact this
section
variable {prog : Program} {w : World} {A : Around} {E : Value → Shared → Prop} {s : Shared}
theorem sort_anyK {κ : KeyKind} (hO : κ.OneLt) {a : Addr} {vs : List Value} {n : Nat} {P : Fin → Shared → Prop} (ho : s.heap.get? a = some (seqObj "list" vs.toArray n)) (hK : ∀ v ∈ vs, ∃ b, κ.keyOf v = some b) (kk : 2 ≤ vs.length → keyKind' vs.toArray = pure oneType') (hz : vs.length ≤ sizeLine)
    (h : ∀ (out : Array Value), out.toList.Perm vs → (out.toList.Pairwise fun u v => κ.kle (keyV κ u) (keyV κ v)) → P (.done (.ret .none)) { s with heap := sortedHeap s.heap a vs out }) : wpAny (model prog w) A (Builtin.«list.sort» ⟨[.ref a], []⟩) P E s := by
  rw [list_sort_plain]
  have o1 := get?_update_seq ho fun _ => #[]
  have lt : a < s.heap.objs.size := Heap.lt_size ho
  generalize ec : (if ((fun _ : Array Value => (#[] : Array Value)) vs.toArray).size == vs.toArray.size then n else n + 1) = c at o1
  have o2 : (((s.heap.update a (Obj.mapSeq fun _ => #[])).push (seqObj "tuple" vs.toArray 0)).push (seqObj "list" #[] 0)).get? a = some (seqObj "list" #[] c) := Heap.get?_push_of_some _ (Heap.get?_push_of_some _ o1)
  refine wpAny_bind (listItems_at ho rfl (wpAny_bind (listUpdate_at ho rfl (wpAny_bind (seqEpoch_at o1 rfl (wpAny_bind (wpAny_newTuple (wpAny_bind (wpAny_newList (wpAny_holding ?_)))))) ) (by simpa using hz))))
  have sz : vs.toArray.size = vs.length := List.size_toArray
  have fin : ∀ st' : SortSt, (arrOf st').Perm (pairsOf vs) → Ts.SoB κ (arrOf st') 0 (pairsOf vs).size → P (.done (.ret .none)) { s with heap := sortedHeap s.heap a vs ((arrOf st').map (·.2)) } := fun st' hp so => h _ (out_of hp so).1 (out_of hp so).2
  have fits : ∀ st' : SortSt, (arrOf st').Perm (pairsOf vs) → ((arrOf st').map (·.2)).size ≤ sizeLine + 1 := fun st' hp => by
    rw [Array.size_map, hp.size_eq, pairsOf_size]
    omega
  have ks : Ts.Ks κ (pairsOf vs) := fun i p e => by
    have m : p ∈ (pairsOf vs).toList := List.mem_of_getElem? (by rw [Array.getElem?_toList]; exact e)
    rw [pairsOf_toList] at m
    exact hK _ (mem_zip_self m).2
  by_cases few : vs.toArray.size < 2
  · simp only [if_pos few, StateT.run_pure]
    refine wpAny_bind (wpAny_pure (wpAny_bind (wpAny_pure (wpAny_bind (seqEpoch_at o2 rfl (wpAny_bind (listUpdate_at o2 rfl ?_ (Nat.zero_le _) (fits (SortSt.mk' general' (pairsOf vs) #[] 7 none) (Array.Perm.refl _)))))))))
    simp only [bne_self_eq_false, Bool.false_eq_true, if_false]
    refine wpAny_pure (fin (SortSt.mk' general' (pairsOf vs) #[] 7 none) (Array.Perm.refl _) fun i j h1 h2 h3 => ?_)
    rw [pairsOf_size] at h3
    cases (show i = j by omega)
    exact KeyOrd.kle_refl _
  · simp only [if_neg few]
    rw [kk (by omega)]
    refine wpAny_bind (wpAny_pure (wpAny_bind (wpAny_mono (Ts.wo_sortRuns hO (a₀ := pairsOf vs) (st := SortSt.mk' oneType' (pairsOf vs) #[] 7 none) (Q := fun _ st' => (arrOf st').Perm (pairsOf vs) ∧ failedOf st' = none ∧ Ts.SoB κ (arrOf st') 0 (pairsOf vs).size) ks ⟨Array.Perm.refl _, rfl, rfl⟩ rfl fun st' q so => ⟨q.perm, q.failed, so⟩) ?_ fun _ _ e => e)))
    rintro ⟨⟨⟩, st'⟩ s' ⟨rfl, hp, hf, so⟩
    refine wpAny_bind (seqEpoch_at o2 rfl (wpAny_bind (listUpdate_at o2 rfl ?_ (Nat.zero_le _) (fits st' hp))))
    simp only [show (sortPriv% PySem.Builtin.SortState.failed) st' = none from hf, bne_self_eq_false, Bool.false_eq_true, if_false]
    exact wpAny_pure (fin st' hp so)
end
@[reducible] def intK : KeyKind where
  α := Int
  blt a b := decide (a < b)
  irrefl a := by simp
  trans a b c h1 h2 := by simp only [decide_eq_true_eq] at *; omega
  negTrans a b c h := by simp only [decide_eq_true_eq] at *; omega
  total a b h1 h2 := by simp only [decide_eq_false_iff_not] at *; omega
  keyOf v := match v with | .int n _ => some n | _ => none
  dflt := 0
theorem intK_lt : intK.OneLt := by
  intro prog w A E s x y a b Q ha hb h
  cases x <;> simp only [intK, reduceCtorEq, Option.some.injEq] at ha
  cases y <;> simp only [intK, reduceCtorEq, Option.some.injEq] at hb
  cases ha; cases hb
  exact oneLt_int h
/-- what texts they are -/
def txtOf : Value → W
  | .str x _ => x.cps.toList
  | _ => []
theorem strs_txt {us : List Value} (h : ∀ v ∈ us, ∃ x t, v = Value.str x t) : Vals ((us.map txtOf).map sv) us := by
  induction us with
  | nil => exact .nil
  | cons u us ih =>
    obtain ⟨x, t, rfl⟩ := h u List.mem_cons_self
    refine .cons ⟨t, ?_⟩ (ih fun v hv => h v (List.mem_cons_of_mem _ hv))
    show Value.str x t = Value.str (st x.cps.toList) t
    rw [st_of]
theorem txt_strs : ∀ {ws : List W} {us : List Value}, Vals (ws.map sv) us → us.map txtOf = ws ∧ ∀ v ∈ us, ∃ x t, v = Value.str x t
  | [], _, r => by cases r; exact ⟨rfl, fun v hv => nomatch hv⟩
  | x :: ws, _, r => by
    cases r with
    | cons r1 r2 =>
      obtain ⟨t, rfl⟩ := r1
      obtain ⟨h1, h2⟩ := txt_strs r2
      refine ⟨by rw [List.map_cons, h1]; rfl, fun v hv => ?_⟩
      rcases List.mem_cons.mp hv with z | z
      · exact ⟨_, t, z⟩
      · exact h2 v z
end L2


set_option Elab.async false
set_option linter.all false
set_option maxRecDepth 100000
set_option maxHeartbeats 2000000
namespace L2
open PySem PySem.Spec PyProof.Rows Tw
section
variable {X : Cx}
theorem sorted_any {κ : KeyKind} (hO : κ.OneLt) {pins : List (Addr × Obj)} {σ : St} {H : Hp} {s : Shared} {p : Addr} {xs : List V} {Q : VK} (I : Inv X pins σ H s) (hp : SqL X.K H p xs) (hK : ∀ its, Vals xs its → (∀ v ∈ its, ∃ b, κ.keyOf v = some b) ∧ (2 ≤ its.length → keyKind' its.toArray = pure oneType'))
    (k : ∀ (l : Addr) (its out : List Value) (ys : List V), H l = none → Vals xs its → out.Perm its → (out.Pairwise fun u v => κ.kle (keyV κ u) (keyV κ v)) → ∃ ys, Vals ys out ∧ Q (.ref l) (upd H l (.lst ys))) : wpAny (model X.prog X.w) X.A (call (.builtin "sorted") [.ref p]) (EP X pins σ Q) X.xe s := by
  obtain ⟨its, r', pl, hz⟩ := I.list hp
  have hl : its.length = xs.length := r'.length.symm
  have iz : its.length ≤ sizeLine := by rw [hl]; exact hz
  refine Calls.call_function_entry kind_sorted plain_sorted entry_sorted (args_sorted1 _) (wpAny_bind (wpAny_pure (wpAny_bind (collect_list pl.isList ?_ (by simpa using iz)))))
  have hsz : ((s.heap.push (seqObj "list" #[] 0)).update s.heap.objs.size (Obj.mapSeq (· ++ its.toArray))).objs.size = s.heap.objs.size + 1 := by rw [Heap.size_update, size_push']
  generalize eh : (s.heap.push (seqObj "list" #[] 0)).update s.heap.objs.size (Obj.mapSeq (· ++ its.toArray)) = h1 at hsz
  have keep : ∀ b o, s.heap.get? b = some o → h1.get? b = some o := fun b o z => by
    rw [← eh]
    exact (Heap.get?_update_other _ _ (Nat.ne_of_gt (Heap.lt_size z))).trans (Heap.get?_push_of_some _ z)
  have oL : (h1.push (seqObj "list" its.toArray 0)).get? h1.objs.size = some (seqObj "list" its.toArray 0) := Heap.get?_push_size _ rfl
  obtain ⟨hk1, hk2⟩ := hK its r'
  refine wpAny_bind (wpAny_newList (wpAny_bind (wpAny_holding ?_)) (by simpa using iz))
  refine wpAny_call_entry (s := { s with heap := h1.push (seqObj "list" its.toArray 0) }) slot_list_sort ⟨_, oL, rfl⟩ entry_list_sort (sort_anyK hO oL hk1 hk2 iz fun out i1 i2 => ⟨_, rfl, ?_⟩) (args_list_sort _)
  obtain ⟨c, oS⟩ := sortedHeap_at (out := out) oL
  have le : s.heap.objs.size ≤ h1.objs.size := by omega
  have hfr : H h1.objs.size = none := I.hok.fresh le
  obtain ⟨ys, hy, q⟩ := k h1.objs.size its out.toList [] hfr r' i1 i2
  refine wpAny_pure ⟨_, rfl, .ref h1.objs.size, _, I.laid (t' := s.toks) (o := .lst ys) (fun b o z => ?_) le ⟨?_, out.toList, c, hy, by simpa using oS⟩, rfl, q⟩
  · have z1 := keep b o z
    have lb := Heap.lt_size z1
    refine (sortedHeap_old (Nat.ne_of_lt lb) ?_).trans (Heap.get?_push_of_some _ z1)
    rw [size_push']
    exact Nat.lt_succ_of_lt lb
  · rw [hy.length, i1.length_eq]
    exact iz
def rSortT (K : PySem.W.Frag) : List V → Hp → VK → Prop := fun xs H Q => ∃ (p : Addr) (ws : List W), xs = [.ref p] ∧ SqL K H p (ws.map sv) ∧ ∀ (l : Addr) (us : List W), H l = none → us.Perm ws → us.Pairwise (· ≤ ·) → Q (.ref l) (upd H l (.lst (us.map sv)))
theorem call_sorted_txt {K : PySem.W.Frag} (h : X.K = K) : CallR X (.builtin "sorted") (rSortT K) := by
  subst h
  intro pins s σ H xs us Q I r h
  obtain ⟨p, ws, rfl, hp, k⟩ := h
  obtain ⟨u, rfl, rx⟩ := vals1 r
  cases rx
  refine sorted_any strKind_oneLt I hp (fun its hv => ?_) fun l its out _ hl hv hp' hs => ?_
  · obtain ⟨_, h2⟩ := txt_strs hv
    refine ⟨fun v hv' => ?_, fun h2' => ?_⟩
    · obtain ⟨x, t, rfl⟩ := h2 v hv'
      exact ⟨_, rfl⟩
    · match its, h2', hv with
      | v₁ :: v₂ :: rest, _, hv => exact keyKind_strs (strsAre_of hv)
  · obtain ⟨h1, h2⟩ := txt_strs hv
    have h2' : ∀ v ∈ out, ∃ x t, v = Value.str x t := fun v hv' => h2 v (hp'.mem_iff.mp hv')
    refine ⟨_, strs_txt h2', k l _ hl (by have := hp'.map txtOf; rwa [h1] at this) ?_⟩
    rw [List.pairwise_map]
    refine List.Pairwise.imp_of_mem (fun {a b} ha hb z => ?_) hs
    obtain ⟨x, t, rfl⟩ := h2' a ha
    obtain ⟨y, t', rfl⟩ := h2' b hb
    have z : decide (y.cps.toList < x.cps.toList) = false := z
    exact List.not_lt.mp (of_decide_eq_false z)
def rSortN (K : PySem.W.Frag) : List V → Hp → VK → Prop := fun xs H Q => ∃ (p : Addr) (ns : List Int), xs = [.ref p] ∧ SqL K H p (ns.map V.int) ∧ ∀ (l : Addr) (ms : List Int), H l = none → ms.Perm ns → ms.Pairwise (· ≤ ·) → Q (.ref l) (upd H l (.lst (ms.map V.int)))
theorem call_sorted_num {K : PySem.W.Frag} (h : X.K = K) : CallR X (.builtin "sorted") (rSortN K) := by
  subst h
  intro pins s σ H xs us Q I r h
  obtain ⟨p, ns, rfl, hp, k⟩ := h
  obtain ⟨u, rfl, rx⟩ := vals1 r
  cases rx
  refine sorted_any intK_lt I hp (fun its hv => ?_) fun l its out _ hl hv hp' hs => ?_
  · have hi := intsAre_of hv
    refine ⟨fun v hv' => ?_, fun h2' => ?_⟩
    · obtain ⟨n, t, rfl⟩ := hi.all v hv'
      exact ⟨_, rfl⟩
    · match its, h2', hi with
      | v₁ :: v₂ :: rest, _, hi => exact keyKind_ints hi
  · have hi := intsAre_of hv
    have h2' : ∀ v ∈ out, ∃ n t, v = Value.int n t := fun v hv' => hi.all v (hp'.mem_iff.mp hv')
    refine ⟨_, ints_vals (intsAre_map out h2'), k l _ hl (by have := hp'.map numOf; rwa [hi.nums] at this) ?_⟩
    rw [List.pairwise_map]
    refine List.Pairwise.imp_of_mem (fun {a b} ha hb z => ?_) hs
    obtain ⟨x, t, rfl⟩ := h2' a ha
    obtain ⟨y, t', rfl⟩ := h2' b hb
    have z : decide (y < x) = false := z
    have := of_decide_eq_false z
    show x ≤ y
    omega
end
end L2


set_option Elab.async false
set_option linter.all false
set_option maxRecDepth 100000
set_option maxHeartbeats 2000000
namespace L2
open PySem PySem.Spec PyProof.Rows Tw
seal PSs PS PE PT PW PA PG PGs PI PC
section
variable {P : Program} {w : World} {K : PySem.W.Frag} {mg : Str → Option Value} {base : Heap}
def spSpread : Sp := fun vs H Q _ => ∃ (f q s e : Nat), vs = [.int (f : Int), .int (q : Int), .int (s : Int), .int (e : Int)] ∧ 1 ≤ q ∧ q ≤ 26 ∧ Q (.int ((min (f * q ^ s) e : Nat) : Int)) H
theorem ok_spread (D : Def K mg "spread" "spread" Pl.s_spread ["free", "letters", "steps", "enough"]) (hmin : mg "min" = none) : Cal P w K mg base CX0 1 "spread" ["free", "letters", "steps", "enough"] spSpread := by
  have sc : FnScope ["free", "letters", "steps", "enough"] ["free", "letters", "steps", "enough"] (defScope Pl.s_spread) := ⟨rfl, rfl, rfl, by decide +kernel, rfl, by decide +kernel, by decide +kernel⟩
  refine D.cal fun f fd F => F.ok sc (fun vs H Q E h => ?_) (fun cdv A outer s H vs Q E hr h => ?_)
  · obtain ⟨_, _, _, _, rfl, _⟩ := h
    rfl
  · obtain ⟨f, q, st, e, rfl, hq1, hq2, k⟩ := h
    refine ⟨_, pss_cons (ps_while PassesOwn.never (PW.pt (pw_and (pt_cmpR op_gt (pv 2) pe_int (nomark _)) (pw_and (pt_cmpR op_gt (pv 1) pe_int (nomark _)) (pw_and1 (pt_cmpR op_lt (pv 0) (pv 3) (nomark _))))))
        (pss_cons (ps_set (i := 0) sc.nd rfl (Or.inl rfl) (pe_op op_mul (pv 0) (pv 1)))
        (pss_one (ps_set (i := 2) sc.nd rfl (Or.inl rfl) (pe_op op_sub (pv 2) pe_int)))))
      (pss_one (ps_ret (pe_callB (call_min2 rfl) (by rfl) hmin Boot.«min» (pa_cons (pv 0) (pa_cons (pv 3) pa_nil))))), ?_⟩
    refine ⟨fun m σ H2 => ∃ fr : Nat, σ = [some (.int (fr : Int)), some (.int (q : Int)), some (.int (m : Int)), some (.int (e : Int))] ∧ H2 = H ∧ min (fr * q ^ m) e = min (f * q ^ st) e, ⟨st, f, rfl, rfl, rfl⟩, ?_⟩
    rintro m σ H2 ⟨fr, rfl, rfl, hm⟩
    have fin : min fr e = min (f * q ^ st) e → tRet (tCB (fun xs H Q => ∃ i j, xs = [.int i, .int j] ∧ Q (.int (if j < i then j else i)) H) (tCons (tVar 0) (tCons (tVar 3) tNil))) { nx := fun _ H' => Q .non H', rt := Q } [some (.int (fr : Int)), some (.int (q : Int)), some (.int (m : Int)), some (.int (e : Int))] H2 := fun z => by
      refine ⟨_, rfl, _, rfl, _, _, rfl, ?_⟩
      have : (if (e : Int) < (fr : Int) then (e : Int) else (fr : Int)) = ((min (f * q ^ st) e : Nat) : Int) := by
        rw [← z]
        split <;> omega
      show Q (.int _) H2
      rw [this]
      exact k
    refine ⟨_, rfl, _, _, rfl, rfl, _, rfl, ?_⟩
    by_cases h1 : 0 < m
    · refine iteT' (by rw [decide_eq_true_iff]; omega) ⟨_, rfl, _, _, rfl, rfl, _, rfl, ?_⟩
      by_cases h2 : 1 < q
      · refine iteT' (by rw [decide_eq_true_iff]; omega) ⟨_, rfl, _, rfl, _, _, rfl, rfl, _, rfl, ?_⟩
        by_cases h3 : fr < e
        · refine iteT' (by rw [decide_eq_true_iff]; omega) ⟨fun σ H3 => σ = [some (.int ((fr * q : Nat) : Int)), some (.int (q : Int)), some (.int ((m - 1 : Nat) : Int)), some (.int (e : Int))] ∧ H3 = H2, ?_, ?_⟩
          · rintro σ H3 ⟨rfl, rfl⟩
            refine ⟨m - 1, by omega, fr * q, rfl, rfl, ?_⟩
            rw [← hm, Nat.mul_assoc, ← Nat.pow_succ', show (m - 1).succ = m by omega]
          · refine ⟨_, rfl, _, rfl, _, _, rfl, rfl, .inr ⟨by omega, by omega⟩, _, rfl, _, _, rfl, rfl, ?_, rfl⟩
            show [some (V.int ((fr : Int) * (q : Int))), _, some (V.int ((m : Int) - 1)), _] = _
            rw [show ((m : Int) - 1) = ((m - 1 : Nat) : Int) by omega, show ((fr : Int) * (q : Int)) = ((fr * q : Nat) : Int) from (Int.natCast_mul ..).symm]
        · refine iteF' (by rw [decide_eq_true_iff]; omega) (fin ?_)
          rw [← hm]
          have : fr ≤ fr * q ^ m := Nat.le_mul_of_pos_right _ (Nat.pow_pos (by omega))
          omega
      · refine iteF' (by rw [decide_eq_true_iff]; omega) (iteF (fin ?_))
        have e1 : q = 1 := by omega
        rw [← hm, e1, Nat.one_pow, Nat.mul_one]
    · refine iteF' (by rw [decide_eq_true_iff]; omega) (iteF (fin ?_))
      have e1 : m = 0 := by omega
      rw [← hm, e1, Nat.pow_zero, Nat.mul_one]
theorem nat_list {ms : List Int} {ls : List Nat} (h : ms.Perm (ls.map fun (i : Nat) => (i : Int))) : ∃ ns : List Nat, ms = ns.map (fun (i : Nat) => (i : Int)) ∧ ns.Perm ls := by
  refine ⟨ms.map Int.toNat, ?_, ?_⟩
  · rw [List.map_map]
    conv => lhs; rw [← List.map_id ms]
    refine List.map_congr_left fun z hz => ?_
    obtain ⟨l, _, rfl⟩ := List.mem_map.mp (h.mem_iff.mp hz)
    simp
  · have := h.map Int.toNat
    rw [List.map_map] at this
    have e : ls.map (Int.toNat ∘ fun (i : Nat) => (i : Int)) = ls := by
      conv => rhs; rw [← List.map_id ls]
      exact List.map_congr_left fun l _ => by simp
    rw [e] at this
    exact this
def spOver (K : PySem.W.Frag) : Sp := fun vs H Q _ => ∃ (q : Nat) (p : Addr) (ls : List Nat), vs = [.int (q : Int), .ref p] ∧ 1 ≤ q ∧ q ≤ 26 ∧ LensL H p ls ∧ ∀ H', Ext H H' → Q (.bl (decide (q ^ 101 < mass q ls))) H'
theorem ok_overfull (D : Def K mg "overfull" "overfull" Pl.s_overfull ["letters", "lengths"]) (B : Bare mg) (C1 : Cal P w K mg base CX0 1 "spread" ["free", "letters", "steps", "enough"] spSpread) : Cal P w K mg base CX0 2 "overfull" ["letters", "lengths"] (spOver K) := by
  have sc : FnScope ["letters", "lengths", "free", "depth", "left", "length"] ["letters", "lengths"] (defScope Pl.s_overfull) := ⟨rfl, rfl, rfl, by decide +kernel, rfl, by decide +kernel, by decide +kernel⟩
  refine D.cal fun f fd F => F.ok sc (fun vs H Q E h => ?_) (fun cdv A outer s H vs Q E hr h => ?_)
  · obtain ⟨_, _, _, rfl, _⟩ := h
    rfl
  · obtain ⟨q, p, ls, rfl, hq1, hq2, hp, k⟩ := h
    refine ⟨_, pss_cons (ps_set (i := 2) sc.nd rfl (Or.inl rfl) pe_int)
      (pss_cons (ps_set (i := 3) sc.nd rfl (Or.inl rfl) pe_int)
      (pss_cons (ps_set (i := 4) sc.nd rfl (Or.inl rfl) (pe_callB call_len_seq (by rfl) B.len PySem.boot_len (pa_cons (pv 1) pa_nil)))
      (pss_cons (ps_for PassesOwn.never rfl (pi_list (pe_callB (call_sorted_num (K := K) rfl) (by rfl) B.sorted Boot.«sorted» (pa_cons (pv 1) pa_nil))) (pg_name (i := 5) sc.nd rfl (Or.inl rfl))
        (pss_cons (ps_if (pt_cmpR op_eq (pv 2) pe_int (nomark _)) (pss_one (ps_ret pe_bl)) pss_nil)
        (pss_cons (ps_set (i := 2) sc.nd rfl (Or.inl rfl) (pe_op op_sub (pe_callF C1 hr (pa_cons (pv 2) (pa_cons (pv 0) (pa_cons (pe_op op_sub (pv 5) (pv 3)) (pa_cons (pv 4) pa_nil)))) pass0) pe_int))
        (pss_cons (ps_set (i := 3) sc.nd rfl (Or.inl rfl) (pv 5))
        (pss_one (ps_set (i := 4) sc.nd rfl (Or.inl rfl) (pe_op op_sub (pv 4) pe_int)))))))
      (pss_one (ps_ret pe_bl))))), ?_⟩
    refine ⟨_, rfl, p, _, rfl, .inl (SqL.of hp.at_), ?_⟩
    refine ⟨_, rfl, p, ls.map fun (i : Nat) => (i : Int), rfl, by rw [← ints_int]; exact SqL.of hp.at_, fun l ms hl hperm hsort => ⟨l, rfl, ⟨_, SqL.of upd_same⟩, ?_⟩⟩
    obtain ⟨ns, rfl, hns⟩ := nat_list hperm
    have srt : ns.Pairwise (· ≤ ·) := by
      rw [List.pairwise_map] at hsort
      exact hsort.imp fun {a b} z => by omega
    have x1 : Ext H (upd H l (.lst ((ns.map fun (i : Nat) => (i : Int)).map V.int))) := Ext.new hl
    have nl : ns.length = ls.length := hns.length_eq
    have hn : ∀ n ∈ ns, 1 ≤ n ∧ n ≤ 101 := fun n hn => ⟨hp.pos n (hns.mem_iff.mp hn), hp.short n (hns.mem_iff.mp hn)⟩
    have mall : mass q ns = mass q ls := mass_perm hns
    rw [List.length_map]
    refine for_list (K := K) (a := l) (xs := (ns.map fun (i : Nat) => (i : Int)).map V.int) (fun j σ H2 => H2 = upd H l (.lst ((ns.map fun (i : Nat) => (i : Int)).map V.int)) ∧ ∃ (fr F d : Nat) (ln : Option V), σ = [some (.int (q : Int)), some (.ref p), some (.int (fr : Int)), some (.int (d : Int)), some (.int ((ns.length - j : Nat) : Int)), ln] ∧ (j < ns.length → fr = min F (ns.length - j)) ∧ d ≤ 101 ∧ (∀ n ∈ ns.drop j, d ≤ n) ∧ F * q ^ (101 - d) + mass q (ns.take j) = q ^ 101)
      ⟨rfl, 1, 1, 0, none, by rw [← nl]; rfl, fun z => by omega, Nat.zero_le _, fun n _ => Nat.zero_le _, by simp [mass]⟩ (fun j σ H2 _ h => by rw [h.1]; exact SqL.of upd_same) ?_ ?_
    · rintro j v σ H2 hv ⟨rfl, fr, F, d, ln, rfl, hfr, hd, hdn, hF⟩
      rw [List.map_map, List.getElem?_map] at hv
      obtain ⟨n, hn', rfl⟩ := Option.map_eq_some_iff.mp hv
      have hj : j < ns.length := (List.getElem?_eq_some_iff.mp hn').1
      obtain ⟨n1, n2⟩ := hn n (List.mem_of_getElem? hn')
      have ed : ns.drop j = n :: ns.drop (j + 1) := by
        obtain ⟨h1, e⟩ := List.getElem?_eq_some_iff.mp hn'
        rw [List.drop_eq_getElem_cons h1, e]
      have dn : d ≤ n := hdn n (by rw [ed]; exact List.mem_cons_self)
      have efr := hfr hj
      have take1 : ns.take (j + 1) = ns.take j ++ [n] := take_snoc hn'
      refine ⟨_, rfl, rfl, _, rfl, ?_⟩
      by_cases h0 : fr = 0
      · refine iteT' (by rw [decide_eq_true_iff, h0]; rfl) ?_
        have F0 : F = 0 := by omega
        have := k _ x1
        rw [decide_eq_true (show q ^ 101 < mass q ls by
          rw [← mall, ← List.take_append_drop (j + 1) ns, mass_app, take1, mass_app, mass_one]
          rw [F0, Nat.zero_mul, Nat.zero_add] at hF
          have : 0 < q ^ (101 - n) := Nat.pow_pos (by omega)
          omega)] at this
        exact this
      · refine iteF' (by rw [decide_eq_true_iff]; intro z; have := V.int.inj z; omega) ?_
        have el : ns.length - j = (ns.length - (j + 1)) + 1 := by omega
        refine ⟨_, rfl, _, rfl, _, rfl, _, rfl, _, _, rfl, rfl, _, rfl, fr, q, n - d, ns.length - j, ?_, hq1, hq2, _, _, rfl, rfl, ?_⟩
        · show [V.int (fr : Int), V.int (q : Int), V.int ((n : Int) - (d : Int)), V.int ((ns.length - j : Nat) : Int)] = _
          rw [show ((n : Int) - (d : Int)) = ((n - d : Nat) : Int) by omega]
        have F1 : 1 ≤ F := by omega
        have pq : 1 ≤ q ^ (n - d) := Nat.pow_pos (by omega)
        have Fq : F ≤ F * q ^ (n - d) := Nat.le_mul_of_pos_right _ pq
        refine ⟨_, rfl, _, rfl, _, _, rfl, rfl, rfl, min (fr * q ^ (n - d)) (ns.length - j) - 1, F * q ^ (n - d) - 1, n, some (.int (n : Int)), ?_, fun z => ?_, n2, fun m hm => ?_, ?_⟩
        · show [_, _, some (V.int (((min (fr * q ^ (n - d)) (ns.length - j) : Nat) : Int) - 1)), some (V.int (n : Int)), some (V.int (((ns.length - j : Nat) : Int) - 1)), _] = _
          have frq : 1 ≤ fr * q ^ (n - d) := Nat.mul_pos (by omega) pq
          rw [show (((min (fr * q ^ (n - d)) (ns.length - j) : Nat) : Int) - 1) = ((min (fr * q ^ (n - d)) (ns.length - j) - 1 : Nat) : Int) by omega, show (((ns.length - j : Nat) : Int) - 1) = ((ns.length - (j + 1) : Nat) : Int) by omega]
          rfl
        · rcases Nat.lt_or_ge F (ns.length - j) with y | y
          · rw [show fr = F by omega]
            omega
          · have : ns.length - j ≤ fr * q ^ (n - d) := by
              have : fr = ns.length - j := by omega
              rw [this]
              exact Nat.le_mul_of_pos_right _ pq
            omega
        · rw [ed] at hdn
          have sd : (ns.drop j).Pairwise (· ≤ ·) := srt.sublist (List.drop_sublist _ _)
          rw [ed] at sd
          exact (List.pairwise_cons.mp sd).1 m hm
        · rw [take1, mass_app, mass_one, Nat.sub_mul, Nat.one_mul, Nat.mul_assoc, ← Nat.pow_add, show n - d + (101 - n) = 101 - d by omega]
          have : q ^ (101 - n) ≤ F * q ^ (101 - d) := Nat.le_trans (Nat.pow_le_pow_right (by omega) (by omega)) (Nat.le_mul_of_pos_left _ F1)
          omega
    · rintro σ H2 ⟨rfl, fr, F, d, ln, rfl, hfr, hd, hdn, hF⟩
      rw [List.length_map, List.length_map, List.take_length, mall] at hF
      have := k _ x1
      rw [decide_eq_false (show ¬ q ^ 101 < mass q ls by omega)] at this
      exact this
end
end L2


set_option Elab.async false
set_option linter.all false
set_option maxRecDepth 100000
set_option maxHeartbeats 2000000
namespace L2
open PySem PySem.Spec PyProof.Rows Tw
seal PSs PS PE PT PW PA PG PGs PI PC
theorem az_take {q : Nat} (h : q ≤ 26) : az.take q = (List.range q).map fun k => 97 + k := by
  have e : az = (List.range 26).map fun k => 97 + k := by decide
  rw [e, ← List.map_take, List.take_range, Nat.min_eq_left h]
theorem mem_aztake {q c : Nat} (h : q ≤ 26) : c ∈ az.take q ↔ 97 ≤ c ∧ c < 97 + q := by
  rw [az_take h, List.mem_map]
  constructor
  · rintro ⟨k, hk, rfl⟩
    have := List.mem_range.mp hk
    omega
  · intro ⟨h1, h2⟩
    exact ⟨c - 97, List.mem_range.mpr (by omega), by omega⟩
theorem cutL_first (a : W) (q : Nat) : cutL a none (some (q : Int)) = a.take q := by
  unfold cutL
  rw [HT.sIx_nat, HT.sIx_none, List.drop_zero, Nat.sub_zero]
  rcases Nat.le_total q a.length with h | h
  · rw [Nat.min_eq_left h]
  · rw [Nat.min_eq_right h, List.take_length, List.take_of_length_le h]
/-- texts at p -/
structure TxtL (H : Hp) (p : Addr) (us : List W) : Prop where
  at_ : H p = some (.lst (us.map sv))
  few : us.length ≤ 100
  short : ∀ x ∈ us, x.length ≤ 1000
theorem TxtL.ext {H H' : Hp} {p : Addr} {us : List W} (h : TxtL H p us) (x : Ext H H') : TxtL H' p us := ⟨x.lst h.at_, h.few, h.short⟩
theorem TxtL.arg {K : PySem.W.Frag} {H : Hp} {p : Addr} {us : List W} (h : TxtL H p us) : LstArg K H (.ref p) := by
  refine ⟨⟨_, .lst h.at_⟩, fun b xs e hr => ?_⟩
  cases e
  have := hr.inj (.inl h.at_)
  subst this
  refine ⟨by rw [List.length_map]; exact small_line (by have := h.few; omega), fun y hy H' _ => ?_⟩
  obtain ⟨x, _, rfl⟩ := List.mem_map.mp hy
  exact ⟨_, .str _⟩
/-- words of letters and lengths, none of which begins the next one in the order of texts -/
structure WS (q : Nat) (ls : List Nat) (us : List W) : Prop where
  lens : us.map List.length = ls
  ok : ∀ x ∈ us, x ≠ [] ∧ Dg q x
  apart : ∀ vs : List W, vs.Perm us → vs.Pairwise (· ≤ ·) → NoneNext vs
theorem sorted_same : ∀ {a b : List W}, a.Perm b → a.Pairwise (· ≤ ·) → b.Pairwise (· ≤ ·) → a = b
  | [], b, h, _, _ => (List.nil_perm.mp h).symm
  | x :: a, b, h, ha, hb => by
    cases b with
    | nil => exact absurd h.length_eq (by simp)
    | cons y b =>
      have pa := List.pairwise_cons.mp ha
      have pb := List.pairwise_cons.mp hb
      have e : x = y := by
        have h1 : x ∈ y :: b := h.mem_iff.mp List.mem_cons_self
        have h2 : y ∈ x :: a := h.mem_iff.mpr List.mem_cons_self
        rcases List.mem_cons.mp h1 with z | z
        · exact z
        · rcases List.mem_cons.mp h2 with z' | z'
          · exact z'.symm
          · exact List.le_antisymm (pa.1 y z') (pb.1 x z)
      subst e
      rw [sorted_same ((List.perm_cons x).mp h) pa.2 pb.2]
theorem ws_of {q : Nat} {ls : List Nat} {us vs : List W} (hp : vs.Perm us) (hs : vs.Pairwise (· ≤ ·)) (h1 : us.map List.length = ls) (h2 : ∀ x ∈ us, x ≠ [] ∧ Dg q x) : WS q ls us ↔ NoneNext vs :=
  ⟨fun h => h.apart vs hp hs, fun h => ⟨h1, h2, fun v p s => by rw [sorted_same (p.trans hp.symm) s hs]; exact h⟩⟩
theorem lens_inj {us : List W} {ls : List Nat} : (us.map fun x => (x.length : Int)) = (ls.map fun (i : Nat) => (i : Int)) ↔ us.map List.length = ls := by
  constructor
  · intro h
    have := congrArg (List.map Int.toNat) h
    rw [List.map_map, List.map_map] at this
    have e1 : us.map (Int.toNat ∘ fun x => (x.length : Int)) = us.map List.length := List.map_congr_left fun x _ => by simp
    have e2 : ls.map (Int.toNat ∘ fun (i : Nat) => (i : Int)) = ls := by
      conv => rhs; rw [← List.map_id ls]
      exact List.map_congr_left fun l _ => by simp
    rw [e1, e2] at this
    exact this
  · intro h
    rw [← h, List.map_map]
    rfl
section
variable {P : Program} {w : World} {K : PySem.W.Frag} {mg : Str → Option Value} {base : Heap}
theorem pe_lens {X : Cx} {K : PySem.W.Frag} {σ : St} {H1 : Hp} {Q : VK} {a : Addr} {us : List W} {j0 : Option Nat} {jr : List (Option Nat)} (h : TxtL H1 a us)
    (k : ∀ D H', H1 D = none → Ext H1 H' → SqL K H' D ((us.map fun x => (x.length : Int)).map V.int) → Q (.ref D) H') :
    tBlock (Itl K a) (j0 :: jr) (gName 0) tYes (tCB (fun xs H Q => ∃ z, xs = [.str z] ∧ z.length ≤ sizeLine ∧ Q (.int z.length) H) (tCons (tVar 0) tNil)) σ H1 Q := by
  refine block_map1 (SqL.of h.at_) (by rw [List.length_map]; exact small_line (by have := h.few; omega)) (fun y => match y with | .str z => .int (z.length : Nat) | _ => .non) (fun y H' hy x1 Q' k' => ?_) (fun D H' hD x1 hD1 => k D H' hD x1 (SqL.of ?_))
  · obtain ⟨x, hx, rfl⟩ := List.mem_map.mp hy
    have := h.short x hx
    exact ⟨_, rfl, st x, rfl, by rw [st_len]; exact small_line (by omega), k' _ H' (Ext.refl _) rfl⟩
  · rw [hD1, List.map_map, List.map_map]
    rfl
def spShowsW (C : Addr) : Sp := fun vs H Q _ => ∃ (o dx l p : Addr) (q : Nat) (ls : List Nat) (us : List W), vs = [.ref o, .int (q : Int), .ref p] ∧ H o = some (.ins C dx [("words", .ref l)]) ∧ TxtL H l us ∧ LensL H p ls ∧ 1 ≤ q ∧ q ≤ 26 ∧ ∀ b H', Ext H H' → (b = true ↔ WS q ls us) → Q (.bl b) H'
theorem ok_showsW {C f : Addr} {fd : FuncData} (F : Fun K "shows" "Words.shows" Pl.c_Words_shows f fd) (B : Bare mg) (L : ∃ t, mg "LETTERS" = some (.str "abcdefghijklmnopqrstuvwxyz" t)) (cl : Cls K C) (na : NoAttr K C "words") (C1 : Cal P w K mg base CX0 2 "is_count" ["letters"] (spIsCount K)) (C2 : Cal P w K mg base CX0 2 "are_lengths" ["values"] (spAreLengths K))
    (C3 : Cal P w K mg base CX0 2 "are_words" ["values", "letters"] (spAreWords K)) (C4 : Cal P w K mg base CX0 1 "none_begins_next" ["words"] (spNoneNext K)) : FnOk P w K mg base CX0 5 f fd ["self", "letters", "lengths"] (spShowsW C) := by
  have sc : FnScope ["self", "letters", "lengths"] ["self", "letters", "lengths"] (defScope Pl.c_Words_shows) := ⟨rfl, rfl, rfl, by decide +kernel, rfl, by decide +kernel, by decide +kernel⟩
  obtain ⟨tk, hL⟩ := L
  refine F.ok sc (fun vs H Q E h => ?_) (fun cdv A outer s H vs Q E hr h => ?_)
  · obtain ⟨_, _, _, _, _, _, _, rfl, _⟩ := h
    rfl
  · obtain ⟨o, dx, l, p, q, ls, us, rfl, ho, hl, hp, hq1, hq2, k⟩ := h
    have hr1 : Room 1 _ := hr.mono (by decide)
    have hr2 : Room 2 _ := hr.mono (by decide)
    have hu : _ + 64 < cLine := hr.units
    have nd : (["word"] : List Str).Nodup := by decide +kernel
    refine ⟨_, pss_cons (ps_if (PW.pt (pw_or (pt_not (pt_val (pe_callF C1 hr2 (pa_cons (pv 1) pa_nil) pass0))) (pw_or1 (pt_not (pt_val (pe_callF C2 hr2 (pa_cons (pv 2) pa_nil) pass0)))))) (pss_one (ps_ret pe_bl)) pss_nil)
      (pss_cons (ps_if (pt_not (pt_val (pe_callF C3 hr2 (pa_cons (pe_fld (pv 0) rfl) (pa_cons (pe_slice (r := rSlS) sl_str (pe_glob (v := sv az) (by rfl) hL ⟨tk, by rw [az_eq]⟩) po_none (po_some (pv 1))) pa_nil)) pass0))) (pss_one (ps_ret pe_bl)) pss_nil)
      (pss_cons (ps_if (pt_cmpR (op_neLI hu) (pe_comp (N' := ["word"]) (js := [none]) (.of (by kernel_rfl)) rfl (pi_list (pe_fld (pv 0) rfl)) fun C fp s₀ H₀ => ⟨pg_name (i := 0) nd rfl (Or.inl rfl), pts_nil, pe_callB call_len_str (by rfl) B.len PySem.boot_len (pa_cons (pv 0) pa_nil)⟩) (pv 2) (nomark _)) (pss_one (ps_ret pe_bl)) pss_nil)
      (pss_one (ps_ret (pe_callF C4 hr1 (pa_cons (pe_callB (call_sorted_txt (K := K) rfl) (by rfl) B.sorted Boot.«sorted» (pa_cons (pe_fld (pv 0) rfl) pa_nil)) pa_nil) pass0))))), ?_⟩
    have e1 : isCountV (.int (q : Int)) = true := by
      show (decide ((1 : Int) ≤ (q : Int)) && decide ((q : Int) ≤ 26)) = true
      rw [Bool.and_eq_true, decide_eq_true_iff, decide_eq_true_iff]
      omega
    have no : ∀ {H' : Hp}, Ext H H' → ¬ WS q ls us → Q (.bl false) H' := fun {H'} x z => k false H' x ⟨fun e => (nomatch e), fun e => absurd e z⟩
    refine ⟨_, rfl, _, rfl, ⟨_, .int _⟩, _, rfl, ?_⟩
    rw [e1]
    refine iteF ⟨_, rfl, _, rfl, hp.arg, fun b H1 x1 hb => ⟨_, rfl, ?_⟩⟩
    rw [hp.all hb]
    refine iteF ?_
    have hl1 := hl.ext x1
    refine ⟨_, rfl, o, C, dx, _, .ref l, rfl, x1.ins ho, cl, na, rfl, _, rfl, (q : Int), rfl, az, rfl, small_line (by decide), ?_⟩
    rw [cutL_first]
    refine ⟨.ref l, az.take q, rfl, hl1.arg, fun a xs e hr' x hx => ?_, fun b2 H2 x2 hb2 => ⟨_, rfl, ?_⟩⟩
    · cases e
      have := hr'.inj (.inl hl1.at_)
      subst this
      obtain ⟨y, hy, e⟩ := List.mem_map.mp hx
      cases e
      rw [st_len]
      exact small_line (by have := hl.short y hy; omega)
    have x12 := x1.trans x2
    have eb2 : b2 = true ↔ ∀ x ∈ us, x ≠ [] ∧ Dg q x := by
      rw [hb2.eq (.inl hl1.at_), List.all_eq_true]
      constructor
      · intro h x hx
        have := h (sv x) (List.mem_map.mpr ⟨x, hx, rfl⟩)
        have : (decide (x ≠ []) && x.all fun c => (az.take q).contains c) = true := this
        rw [Bool.and_eq_true, decide_eq_true_iff, List.all_eq_true] at this
        exact ⟨this.1, fun c hc => (mem_aztake hq2).mp (List.contains_iff_mem.mp (this.2 c hc))⟩
      · intro h v hv
        obtain ⟨x, hx, rfl⟩ := List.mem_map.mp hv
        show (decide (x ≠ []) && x.all fun c => (az.take q).contains c) = true
        rw [Bool.and_eq_true, decide_eq_true_iff, List.all_eq_true]
        exact ⟨(h x hx).1, fun c hc => List.contains_iff_mem.mpr ((mem_aztake hq2).mpr ((h x hx).2 c hc))⟩
    by_cases h2 : ∀ x ∈ us, x ≠ [] ∧ Dg q x
    · rw [eb2.mpr h2]
      refine iteF ?_
      have hl2 := hl1.ext x2
      refine ⟨_, rfl, o, C, dx, _, .ref l, rfl, x12.ins ho, cl, na, rfl, l, rfl, ⟨_, SqL.of hl2.at_⟩, ?_⟩
      refine pe_lens (X := cxOf CX0 P w K mg base ["self", "letters", "lengths"] "Words.shows" (defScope Pl.c_Words_shows) f cdv A outer s H E) (K := K) hl2 fun D3 H3 hD3 x3 hD4 => ?_
      have x13 := x12.trans x3
      refine ⟨_, rfl, D3, p, _, ls.map fun (i : Nat) => (i : Int), rfl, rfl, hD4, by rw [← ints_int]; exact SqL.of (hp.ext x13).at_, _, rfl, ?_⟩
      by_cases h3 : us.map List.length = ls
      · refine iteF' (by rw [if_pos rfl, Bool.not_eq_true', decide_eq_false_iff_not]; exact fun z => z (lens_inj.mpr h3)) ?_
        have hl3 := hl2.ext x3
        refine ⟨_, rfl, o, C, dx, _, .ref l, rfl, x13.ins ho, cl, na, rfl, l, us, rfl, SqL.of hl3.at_, fun D5 vs hD5 hperm hsort => ?_⟩
        refine ⟨D5, vs, rfl, SqL.of upd_same, fun H6 x6 => k _ H6 ((x13.newer hD5).trans x6) ?_⟩
        rw [decide_eq_true_iff]
        exact (ws_of hperm hsort h3 h2).symm
      · refine iteT' (by rw [if_pos rfl, Bool.not_eq_true', decide_eq_false_iff_not]; exact fun z => h3 (lens_inj.mp z)) (no x13 fun z => h3 z.lens)
    · have eb : b2 = false := by
        cases b2 with
        | false => rfl
        | true => exact absurd (eb2.mp rfl) h2
      rw [eb]
      exact iteT (no x12 fun z => h2 z.ok)
def spShowsF (C : Addr) : Sp := fun vs H Q _ => ∃ (o p : Addr) (q : Nat) (ls : List Nat), vs = [.ref o, .int (q : Int), .ref p] ∧ LensL H p ls ∧ 1 ≤ q ∧ q ≤ 26 ∧ ∀ H', Ext H H' → Q (.bl (decide (q ^ 101 < mass q ls))) H'
theorem ok_showsF {C f : Addr} {fd : FuncData} (F : Fun K "shows" "Full.shows" Pl.c_Full_shows f fd) (C1 : Cal P w K mg base CX0 2 "is_count" ["letters"] (spIsCount K)) (C2 : Cal P w K mg base CX0 2 "are_lengths" ["values"] (spAreLengths K))
    (C3 : Cal P w K mg base CX0 2 "overfull" ["letters", "lengths"] (spOver K)) : FnOk P w K mg base CX0 5 f fd ["self", "letters", "lengths"] (spShowsF C) := by
  have sc : FnScope ["self", "letters", "lengths"] ["self", "letters", "lengths"] (defScope Pl.c_Full_shows) := ⟨rfl, rfl, rfl, by decide +kernel, rfl, by decide +kernel, by decide +kernel⟩
  refine F.ok sc (fun vs H Q E h => ?_) (fun cdv A outer s H vs Q E hr h => ?_)
  · obtain ⟨_, _, _, _, rfl, _⟩ := h
    rfl
  · obtain ⟨o, p, q, ls, rfl, hp, hq1, hq2, k⟩ := h
    have hr2 : Room 2 _ := hr.mono (by decide)
    refine ⟨_, pss_one (ps_ret (pe_and (pe_callF C1 hr2 (pa_cons (pv 1) pa_nil) pass0) (pe_and (pe_callF C2 hr2 (pa_cons (pv 2) pa_nil) pass0) (pe_one (pe_callF C3 hr2 (pa_cons (pv 1) (pa_cons (pv 2) pa_nil)) pass0))))), ?_⟩
    have e1 : isCountV (.int (q : Int)) = true := by
      show (decide ((1 : Int) ≤ (q : Int)) && decide ((q : Int) ≤ 26)) = true
      rw [Bool.and_eq_true, decide_eq_true_iff, decide_eq_true_iff]
      omega
    refine ⟨_, rfl, _, rfl, ⟨_, .int _⟩, _, rfl, ?_⟩
    rw [e1]
    refine iteT ⟨_, rfl, _, rfl, hp.arg, fun b H1 x1 hb => ⟨_, rfl, ?_⟩⟩
    rw [hp.all hb]
    refine iteT ?_
    exact ⟨_, rfl, _, rfl, q, p, ls, rfl, hq1, hq2, hp.ext x1, fun H2 x2 => k H2 (x1.trans x2)⟩
end
end L2


set_option Elab.async false
set_option linter.all false
set_option maxRecDepth 100000
set_option maxHeartbeats 2000000
namespace L2
open PySem PySem.Spec PyProof.Rows Tw
/-! ### x > y of texts; l[::-1]; a comprehension over a range -/
theorem block_rng {n : Nat} {te : TE} {σ : St} {H1 : Hp} {Q : VK} {j0 : Option Nat} {jr : List (Option Nat)} (hn : n ≤ sizeLine) (f : Nat → V)
    (hte : ∀ i H', i < n → Ext H1 H' → PureE te (some (.int (i : Int)) :: subSt jr σ) H' (fun v _ => v = f i))
    (hQ : ∀ D H', H1 D = none → Ext H1 H' → H' D = some (.lst ((List.range n).map f)) → Q (.ref D) H') : tBlock (Itr 0 n) (j0 :: jr) (gName 0) tYes te σ H1 Q := by
  refine block_pure (n := n) (f := fun i => .int (i : Int)) hn (fun i H' _ hi => hi) (fun i H' x H2 _ _ y => ⟨by rw [y.2, Int.zero_add], y.1⟩) (fun H' _ => Nat.le_refl _) (fun _ => true) (fun i v _ => v = f i) (fun _ _ _ _ _ h => h) (fun _ H' _ _ Q h => h H' (Ext.refl _)) (fun i H' x hi _ => hte i H' hi x) fun D H' ys h1 h2 h3 h4 => hQ D H' h1 h2 ?_
  rw [List.filter_eq_self.mpr (fun _ _ => rfl)] at h4
  have : ∀ {as : List Nat} {ys : List V}, Paired (fun i y => y = f i) as ys → ys = as.map f := by
    intro as ys h
    induction h with
    | nil => rfl
    | cons r _ ih => rw [r, ih]; rfl
  rw [h3, this h4]
end L2


set_option Elab.async false
set_option linter.all false
set_option maxRecDepth 100000
set_option maxHeartbeats 2000000
namespace L2
open PySem PySem.Spec PyProof.Rows Tw
seal PSs PS PE PT PW PA PG PGs PI PC
/-! ### counting -/
instance (q : Nat) (w : W) : Decidable (Dg q w) := by
  unfold Dg
  infer_instance
def tookN (q : Nat) (ls : List Nat) (i : Nat) : Nat := (ls.map fun l => if l ≤ i then q ^ (i - l) else 0).sum
theorem tookN_zero {q : Nat} {ls : List Nat} (h : ∀ l ∈ ls, 1 ≤ l) : tookN q ls 0 = 0 := by
  unfold tookN
  induction ls with
  | nil => rfl
  | cons l ls ih =>
    rw [List.map_cons, List.sum_cons, ih fun m hm => h m (List.mem_cons_of_mem _ hm), if_neg]
    have := h l List.mem_cons_self
    omega
theorem tookN_step (q : Nat) (ls : List Nat) (i : Nat) : tookN q ls (i + 1) = tookN q ls i * q + ls.count (i + 1) := by
  unfold tookN
  induction ls with
  | nil => simp
  | cons l ls ih =>
    rw [List.map_cons, List.sum_cons, List.map_cons, List.sum_cons, ih, List.count_cons, Nat.add_mul]
    by_cases h : l ≤ i
    · rw [if_pos (show l ≤ i + 1 by omega), if_pos h, show i + 1 - l = i - l + 1 by omega, Nat.pow_succ, if_neg (by simp; omega)]
      omega
    · by_cases h' : l = i + 1
      · rw [if_pos (show l ≤ i + 1 by omega), if_neg h, show i + 1 - l = 0 by omega, Nat.pow_zero, Nat.zero_mul, if_pos (by simp [h'])]
        omega
      · rw [if_neg (show ¬ l ≤ i + 1 by omega), if_neg h, if_neg (by simp; omega)]
        omega
theorem tookN_mass {q : Nat} {ls : List Nat} {L : Nat} (hL : L ≤ 101) (h : ∀ l ∈ ls, l ≤ L) : mass q ls = tookN q ls L * q ^ (101 - L) := by
  unfold tookN mass
  induction ls with
  | nil => simp
  | cons l ls ih =>
    have hl := h l List.mem_cons_self
    rw [List.map_cons, List.sum_cons, List.map_cons, List.sum_cons, ih fun m hm => h m (List.mem_cons_of_mem _ hm), Nat.add_mul, if_pos hl, ← Nat.pow_add, show L - l + (101 - L) = 101 - l by omega]
theorem over_iff {q : Nat} (hq : 1 ≤ q) {ls : List Nat} {L : Nat} (hL : L ≤ 101) (h : ∀ l ∈ ls, l ≤ L) : q ^ 101 < mass q ls ↔ q ^ L < tookN q ls L := by
  rw [tookN_mass hL h]
  have e : q ^ 101 = q ^ L * q ^ (101 - L) := by rw [← Nat.pow_add, show L + (101 - L) = 101 by omega]
  rw [e]
  exact Nat.mul_lt_mul_right (Nat.pow_pos (by omega))
theorem take_pre (x y : W) : y.take x.length = x ↔ x.isPrefixOf y = true := by
  rw [List.isPrefixOf_iff_prefix, List.prefix_iff_eq_take]
  exact ⟨fun h => h.symm, fun h => h.symm⟩
theorem pe_bm_s {X : Cx} {K : PySem.W.Frag} {o e : Expr} {es : List Expr} {to : TE} {t : TA} {name : Str} {apos cpos : Pos} {T id : String} {r : V → List V → Hp → VK → Prop} (hK : X.K = K) (pa : PlainAttrs T) (slot : Slot T name id) (hty : typeOf (.builtin id) = pure (.type "method_descriptor")) (hm : MtR X id r) (ho : PE X o to) (ha : PA X (e :: es) t)
    (hbase : attributeBase o name X.env (eval o X.env) = eval o X.env := by rfl)
    (hfew : ((backTo cpos (starEach (e :: es) X.env)).all (fun x => !x.1) && (backToKw cpos (keywordEach [] X.env)).all (fun x => x.1.isSome)
      && decide ((e :: es).length + ([] : List Keyword).length + (if ([] : List Keyword).isEmpty then 0 else 1) < 30)) = true := by rfl)
    (hline : (apos.endLine == cpos.line) = true := by rfl) (hs : starEach (e :: es) X.env = (false, eval e X.env) :: starEach es X.env := by rfl) (hplain : (backTo cpos (starEach es X.env)).any (·.1) = false := by rfl) :
    PE X (.Call (.Attribute o name apos) (e :: es) [] cpos) (tBM K T r to t) := by
  subst hK
  exact pe_bm pa slot hty hm ho ha hbase hfew hline hs hplain
section
variable {P : Program} {w : World} {K : PySem.W.Frag} {mg : Str → Option Value} {base : Heap}
def spLawFull : Sp := fun vs H Q _ => ∃ (q : Nat) (p : Addr) (ls : List Nat), vs = [.int (q : Int), .ref p] ∧ 1 ≤ q ∧ q ≤ 26 ∧ LensL H p ls ∧ Q (.bl (decide (q ^ 101 < mass q ls))) H
theorem ok_law_full (D : Def K mg "_law_full" "_law_full" Pl.s_law_full ["_law_letters", "_law_lengths"]) (B : Bare mg) : Cal P w K mg base CX0 1 "_law_full" ["_law_letters", "_law_lengths"] spLawFull := by
  have sc : FnScope ["_law_letters", "_law_lengths", "_law_taken", "_law_whole", "_law_length"] ["_law_letters", "_law_lengths"] (defScope Pl.s_law_full) := ⟨rfl, rfl, rfl, by decide +kernel, rfl, by decide +kernel, by decide +kernel⟩
  refine D.cal fun f fd F => F.ok sc (fun vs H Q E h => ?_) (fun cdv A outer s H vs Q E hr h => ?_)
  · obtain ⟨_, _, _, rfl, _⟩ := h
    rfl
  · obtain ⟨q, p, ls, rfl, hq1, hq2, hp, k⟩ := h
    refine ⟨_, pss_cons (ps_set (i := 2) sc.nd rfl (Or.inl rfl) pe_int)
      (pss_cons (ps_set (i := 3) sc.nd rfl (Or.inl rfl) pe_int)
      (pss_cons (ps_for PassesOwn.never rfl (pi_range2 (by rfl) B.range (pa_cons pe_int (pa_cons (pe_op op_add (pe_maxL_s (K := K) rfl rfl B.max (pa_cons (pv 1) pa_nil) pe_int) pe_int) pa_nil))) (pg_name (i := 4) sc.nd rfl (Or.inl rfl))
        (pss_cons (ps_set (i := 2) sc.nd rfl (Or.inl rfl) (pe_op op_add (pe_op op_mul (pv 2) (pv 0)) (pe_bm PySem.F.plainAttrs_list PySem.F.slot_list_count PySem.F.type_list_count (mt_count (K := K) rfl) (pv 1) (pa_cons (pv 4) pa_nil))))
        (pss_one (ps_set (i := 3) sc.nd rfl (Or.inl rfl) (pe_op op_mul (pv 3) (pv 0))))))
      (pss_one (ps_ret (pe_cmpR op_gt (pv 2) (pv 3) (nomark _)))))), ?_⟩
    have hl : SqL K H p ((ls.map fun (n : Nat) => (n : Int)).map V.int) := by rw [← ints_int]; exact SqL.of hp.at_
    obtain ⟨L, eL, hall, hin⟩ := mx_lens ls
    have hLs : L ≤ 101 := by
      rcases hin with z | z
      · omega
      · exact hp.short L z
    refine ⟨_, rfl, p, _, rfl, hl, ?_⟩
    rw [eL]
    refine ⟨_, _, rfl, rfl, _, _, rfl, ⟨by decide, by omega, by omega, by omega⟩, ?_⟩
    rw [show ((L : Int) + 1 - 1).toNat = L by omega]
    refine for_range (fun i σ H2 => (∃ ln : Option V, σ = [some (.int (q : Int)), some (.ref p), some (.int (tookN q ls i : Nat)), some (.int ((q ^ i : Nat) : Int)), ln]) ∧ H2 = H) ⟨⟨none, by rw [tookN_zero hp.pos]; rfl⟩, rfl⟩ ?_ ?_
    · rintro i σ H2 hi ⟨⟨ln, rfl⟩, rfl⟩
      rw [show (1 + (i : Int)) = ((i + 1 : Nat) : Int) by omega]
      have e1 : (((tookN q ls i : Nat) : Int) * (q : Int) + ((ls.map fun (n : Nat) => (n : Int)).count ((i + 1 : Nat) : Int) : Nat)) = ((tookN q ls (i + 1) : Nat) : Int) := by
        rw [count_int, tookN_step, Int.natCast_add, Int.natCast_mul]
      have e2 : ((q ^ i : Nat) : Int) * (q : Int) = ((q ^ (i + 1) : Nat) : Int) := by
        rw [Nat.pow_succ, Int.natCast_mul]
      refine ⟨_, rfl, _, rfl, _, _, rfl, rfl, .inr ⟨by omega, by omega⟩, _, rfl, .inl ⟨rfl, _, hl⟩, _, rfl, p, _, _, rfl, rfl, hl, _, _, rfl, rfl, ?_⟩
      refine ⟨_, rfl, _, rfl, _, _, rfl, rfl, .inr ⟨by omega, by omega⟩, ⟨some (.int ((i + 1 : Nat) : Int)), ?_⟩, rfl⟩
      rw [← e1, ← e2]
      rfl
    · rintro σ H2 ⟨⟨ln, rfl⟩, rfl⟩
      refine ⟨_, rfl, _, rfl, _, _, rfl, rfl, ?_⟩
      have := k
      rw [show decide (q ^ 101 < mass q ls) = decide (((q ^ L : Nat) : Int) < ((tookN q ls L : Nat) : Int)) from decide_eq_decide.mpr (by rw [over_iff hq1 hLs hall]; omega)] at this
      exact this
def spLawWords : Sp := fun vs H Q _ => ∃ (q : Nat) (p l : Addr) (ls : List Nat) (us : List W), vs = [.int (q : Int), .ref p, .ref l] ∧ LensL H p ls ∧ TxtL H l us ∧ 1 ≤ q ∧ q ≤ 26 ∧ ∀ b H', Ext H H' → (b = true ↔ WS q ls us) → Q (.bl b) H'
theorem ok_law_words (D : Def K mg "_law_words" "_law_words" Pl.s_law_words ["_law_letters", "_law_lengths", "_law_words_here"]) (B : Bare mg) : Cal P w K mg base CX0 1 "_law_words" ["_law_letters", "_law_lengths", "_law_words_here"] spLawWords := by
  have sc : FnScope ["_law_letters", "_law_lengths", "_law_words_here", "_law_rising"] ["_law_letters", "_law_lengths", "_law_words_here"] (defScope Pl.s_law_words) := ⟨rfl, rfl, rfl, by decide +kernel, rfl, by decide +kernel, by decide +kernel⟩
  refine D.cal fun f fd F => F.ok sc (fun vs H Q E h => ?_) (fun cdv A outer s H vs Q E hr h => ?_)
  · obtain ⟨_, _, _, _, _, rfl, _⟩ := h
    rfl
  · obtain ⟨q, p, l, ls, us, rfl, hp, hl, hq1, hq2, k⟩ := h
    have hu : _ + 64 < cLine := hr.units
    have nd1 : (["_law_word"] : List Str).Nodup := by decide +kernel
    have nd2 : (["_law_word", "_law_letters"] : List Str).Nodup := by decide +kernel
    have nd3 : (["_law_at", "_law_rising"] : List Str).Nodup := by decide +kernel
    refine ⟨_, pss_cons (ps_if (PW.pt (pw_or (pt_not (pt_val (pe_isi_list B (pv 2)))) (pw_or1 (pt_not (pt_val (pe_callB (call_all_bl rfl) (by rfl) B.all Boot.«all» (pa_cons
          (pe_comp (N' := ["_law_word"]) (js := [none]) (.of (by kernel_rfl)) rfl (pi_list (pv 2)) fun C fp s₀ H₀ => ⟨pg_name (i := 0) nd1 rfl (Or.inl rfl), pts_nil, pe_callB (r := rIsi K) (call_isi_s rfl) (by rfl) B.isi boot_isinstance (pa_cons (pv 0) (pa_cons (pe_bltn (v := .ty "str") (by rfl) B.str boot_str rfl) pa_nil))⟩) pa_nil))))))) (pss_one (ps_ret pe_bl)) pss_nil)
      (pss_cons (ps_if (pt_cmpR (op_neLI hu) (pe_comp (N' := ["_law_word"]) (js := [none]) (.of (by kernel_rfl)) rfl (pi_list (pv 2)) fun C fp s₀ H₀ => ⟨pg_name (i := 0) nd1 rfl (Or.inl rfl), pts_nil, pe_callB call_len_str (by rfl) B.len PySem.boot_len (pa_cons (pv 0) pa_nil)⟩) (pv 1) (nomark _)) (pss_one (ps_ret pe_bl)) pss_nil)
      (pss_cons (ps_if (pt_not (pt_val (pe_callB (call_all_bl rfl) (by rfl) B.all Boot.«all» (pa_cons
          (pe_comp (N' := ["_law_word", "_law_letters"]) (js := [none, some 0]) (.of (by kernel_rfl)) rfl (pi_list (pv 2)) fun C fp s₀ H₀ => ⟨pg_name (i := 0) nd2 rfl (Or.inl rfl), pts_nil, pe_cmpR op_eq (pe_bm_s (K := K) rfl PySem.F.plainAttrs_str PySem.F.slot_str_strip PySem.F.type_str_strip mt_strip (pv 0) (pa_cons (pe_slice (r := rSlS) sl_str pe_str po_none (po_some (pv 1))) pa_nil)) pe_str (nomark _)⟩) pa_nil)))) (pss_one (ps_ret pe_bl)) pss_nil)
      (pss_cons (ps_set (i := 3) sc.nd rfl (Or.inr rfl) (pe_callB (call_sorted_txt (K := K) rfl) (by rfl) B.sorted Boot.«sorted» (pa_cons (pv 2) pa_nil)))
      (pss_one (ps_ret (pe_not (pe_callB (call_any_bl rfl) (by rfl) B.any Boot.«any» (pa_cons
          (pe_comp (N' := ["_law_at", "_law_rising"]) (js := [none, some 3]) (.of (by kernel_rfl)) rfl (pi_range1 (by rfl) B.range (pa_cons (pe_op op_sub (pe_callB call_len_seq (by rfl) B.len PySem.boot_len (pa_cons (pv 3) pa_nil)) pe_int) pa_nil)) fun C fp s₀ H₀ => ⟨pg_name (i := 0) nd3 rfl (Or.inl rfl), pts_nil,
            pe_cmpR op_eq (pe_slice (r := rSlS) sl_str (pe_ix (r := rIxL K) ix_list (pv 1) (pe_op op_add (pv 0) pe_int) (fun _ _ => rfl)) po_none (po_some (pe_callB call_len_str (by rfl) B.len PySem.boot_len (pa_cons (pe_ix (r := rIxL K) ix_list (pv 1) (pv 0) (fun _ _ => rfl)) pa_nil)))) (pe_ix (r := rIxL K) ix_list (pv 1) (pv 0) (fun _ _ => rfl)) (nomark _)⟩) pa_nil)))))))), ?_⟩
    have hq : SqL K H l (us.map sv) := SqL.of hl.at_
    have few := hl.few
    have usl : (us.map sv).length ≤ sizeLine := by rw [List.length_map]; exact small_line (by omega)
    have no : ∀ {H' : Hp}, Ext H H' → ¬ WS q ls us → Q (.bl false) H' := fun {H'} x z => k false H' x ⟨fun e => (nomatch e), fun e => absurd e z⟩
    refine ⟨_, rfl, _, _, _, _, rfl, trivial, .lst hl.at_, yes_list K, _, rfl, iteF ?_⟩
    refine ⟨_, rfl, l, rfl, ⟨_, hq⟩, block_map1 hq usl (fun y => .bl true) (fun y H' hy x1 Q' k' => ?_) (fun D1 H1 hD1 x1 hD2 => ?_)⟩
    · obtain ⟨tx, _, rfl⟩ := List.mem_map.mp hy
      obtain ⟨t, ty, e⟩ := isi_str (K := K) (H := H') (v := sv tx) ⟨_, .str _⟩
      exact ⟨_, rfl, _, _, t, _, rfl, trivial, ty, e, k' _ H' (Ext.refl _) rfl⟩
    refine ⟨D1, (us.map sv).map fun _ => true, rfl, SqL.of (by rw [hD2]; simp [Function.comp_def]), _, rfl, ?_⟩
    have e0 : ((us.map sv).map fun _ => true).all id = true := by simp
    rw [e0]
    refine iteF ?_
    have hl1 := hl.ext x1
    refine ⟨_, rfl, l, rfl, ⟨_, SqL.of hl1.at_⟩, ?_⟩
    refine pe_lens (X := cxOf CX0 P w K mg base ["_law_letters", "_law_lengths", "_law_words_here", "_law_rising"] "_law_words" (defScope Pl.s_law_words) f cdv A outer s H E) (K := K) hl1 fun D3 H3 hD3 x3 hD4 => ?_
    have x13 := x1.trans x3
    refine ⟨_, rfl, D3, p, _, ls.map fun (i : Nat) => (i : Int), rfl, rfl, hD4, by rw [← ints_int]; exact SqL.of (hp.ext x13).at_, _, rfl, ?_⟩
    by_cases h3 : us.map List.length = ls
    · refine iteF' (by rw [if_pos rfl, Bool.not_eq_true', decide_eq_false_iff_not]; exact fun z => z (lens_inj.mpr h3)) ?_
      have hl3 := hl.ext x13
      have hq3 : SqL K H3 l (us.map sv) := SqL.of hl3.at_
      refine ⟨_, rfl, l, rfl, ⟨_, hq3⟩, block_map1 hq3 usl (fun y => match y with | .str z => .bl (decide (∀ c ∈ z.cps.toList, c ∈ az.take q)) | _ => .non) (fun y H' hy x4 Q' k' => ?_) (fun D5 H5 hD5 x5 hD6 => ?_)⟩
      · obtain ⟨tx, htx, rfl⟩ := List.mem_map.mp hy
        have := hl.short tx htx
        refine ⟨_, rfl, rfl, _, rfl, (q : Int), rfl, az, by rw [az_eq], small_line (by decide), ?_⟩
        rw [cutL_first]
        refine ⟨tx, az.take q, rfl, rfl, small_line (by omega), fun c hc => ⟨rfl, k' _ H' (Ext.refl _) ?_⟩⟩
        show V.bl (decide (sv c = V.str "")) = V.bl (decide (∀ c ∈ tx, c ∈ az.take q))
        rw [sE]
        congr 1
        exact decide_eq_decide.mpr ⟨fun z => hc.mp (st_inj (V.str.inj z)), fun z => by rw [hc.mpr z]⟩
      refine ⟨D5, us.map fun x => decide (∀ c ∈ x, c ∈ az.take q), rfl, SqL.of (by rw [hD6, List.map_map, List.map_map]; rfl), _, rfl, ?_⟩
      have x15 := x13.trans x5
      have pos : ∀ x ∈ us, x ≠ [] := fun x hx z => by
        have : x.length ∈ ls := by rw [← h3]; exact List.mem_map.mpr ⟨x, hx, rfl⟩
        have := hp.pos _ this
        rw [z] at this
        exact absurd this (by decide)
      have e2 : (us.map fun x => decide (∀ c ∈ x, c ∈ az.take q)).all id = decide (∀ x ∈ us, x ≠ [] ∧ Dg q x) := by
        rw [Bool.eq_iff_iff, List.all_eq_true, decide_eq_true_iff]
        constructor
        · intro h x hx
          have := of_decide_eq_true (h _ (List.mem_map.mpr ⟨x, hx, rfl⟩))
          exact ⟨pos x hx, fun c hc => (mem_aztake hq2).mp (this c hc)⟩
        · intro h b hb
          obtain ⟨x, hx, rfl⟩ := List.mem_map.mp hb
          exact decide_eq_true fun c hc => (mem_aztake hq2).mpr ((h x hx).2 c hc)
      rw [e2]
      by_cases h2 : ∀ x ∈ us, x ≠ [] ∧ Dg q x
      · rw [decide_eq_true h2]
        refine iteF ?_
        have hl5 := hl.ext x15
        refine ⟨_, rfl, l, us, rfl, SqL.of hl5.at_, fun D7 vs hD7 hperm hsort => ?_⟩
        have x17 := x15.newer (o := HO.lst (vs.map sv)) hD7
        have vl_ : vs.length = us.length := hperm.length_eq
        have vsh : ∀ n, n < vs.length → (vs.getD n []).length ≤ 1000 := fun n hn => hl.short _ (hperm.mem_iff.mp (by rw [List.getD_eq_getElem?_getD, List.getElem?_eq_getElem hn]; exact List.getElem_mem _))
        have hW : upd H5 D7 (.lst (vs.map sv)) D7 = some (.lst (vs.map sv)) := upd_same
        generalize upd H5 D7 (.lst (vs.map sv)) = H7 at x17 hW
        have en2 : ((((vs.map sv).length : Nat) : Int) - 1).toNat = vs.length - 1 := by rw [List.length_map]; omega
        refine ⟨_, rfl, D7, _, rfl, .inl (SqL.of hW), _, _, rfl, rfl, _, rfl, by omega, by rw [List.length_map]; omega, ?_⟩
        rw [en2]
        refine block_rng (by exact small_line (by omega)) (fun i => .bl ((vs.getD i []).isPrefixOf (vs.getD (i + 1) []))) (fun i H' hi x8 Q' k' => ?_) fun D9 H9 hD9 x9 hD10 => ?_
        · have s1 : SqL K H' D7 (vs.map sv) := SqL.of (x8.lst hW)
          have g1 : atI (vs.map sv) (i : Int) = some (sv (vs.getD i [])) := atI_nat (by rw [List.getElem?_map]; simp [show i < vs.length by omega])
          refine ⟨_, rfl, _, rfl, _, _, rfl, rfl, D7, _, ((i + 1 : Nat) : Int), sv (vs.getD (i + 1) []), rfl, by simp, s1, atI_nat (by rw [List.getElem?_map]; simp [show i + 1 < vs.length by omega]), ?_⟩
          refine ⟨_, rfl, _, rfl, D7, _, (i : Int), sv (vs.getD i []), rfl, rfl, s1, g1, st (vs.getD i []), rfl, by rw [st_len]; exact small_line (by have := vsh i (by omega); omega), _, rfl, vs.getD (i + 1) [], rfl, small_line (by have := vsh (i + 1) (by omega); omega), ?_⟩
          rw [st_len, cutL_first]
          refine ⟨_, rfl, _, rfl, D7, _, (i : Int), sv (vs.getD i []), rfl, rfl, s1, g1, rfl, k' _ H' (Ext.refl _) ?_⟩
          congr 1
          rw [Bool.eq_iff_iff, decide_eq_true_iff, ← take_pre]
          exact ⟨fun z => st_inj (V.str.inj z), fun z => by rw [z]⟩
        · refine ⟨D9, (List.range (vs.length - 1)).map fun i => (vs.getD i []).isPrefixOf (vs.getD (i + 1) []), rfl, SqL.of (by rw [hD10, List.map_map]; rfl), _, rfl, ?_⟩
          refine k _ H9 (x17.trans x9) ?_
          rw [ws_of hperm hsort h3 h2, Bool.not_eq_true', ← Bool.not_eq_true, List.any_eq_true]
          constructor
          · intro h i hi z
            exact h ⟨true, List.mem_map.mpr ⟨i, List.mem_range.mpr hi, z⟩, rfl⟩
          · rintro h ⟨b, hb, hb'⟩
            obtain ⟨i, hi, e⟩ := List.mem_map.mp hb
            exact h i (List.mem_range.mp hi) (by rw [e]; exact hb')
      · rw [decide_eq_false h2]
        exact iteT (no x15 fun z => h2 z.ok)
    · refine iteT' (by rw [if_pos rfl, Bool.not_eq_true', decide_eq_false_iff_not]; exact fun z => h3 (lens_inj.mp z)) (no x13 fun z => h3 z.lens)
end
end L2


set_option Elab.async false
set_option linter.all false
set_option maxRecDepth 100000
set_option maxHeartbeats 2000000
namespace L2
open PySem PySem.Spec PyProof.Rows Tw
/-! ### every second one of a list -/
theorem Vals.pick {xs : List V} {us : List Value} (h : Vals xs us) (idx : List Nat) : Vals (idx.filterMap fun i => xs[i]?) (idx.filterMap fun i => us[i]?) := by
  induction idx with
  | nil => exact .nil
  | cons i idx ih =>
    cases e : xs[i]? with
    | none =>
      have e' := h.none_of e
      rw [List.filterMap_cons_none e, List.filterMap_cons_none e']
      exact ih
    | some x =>
      obtain ⟨u, e', r⟩ := h.get e
      rw [List.filterMap_cons_some e, List.filterMap_cons_some e']
      exact .cons r ih
theorem pick_two (its : List Value) : ∃ idx : List Nat, idx.length ≤ its.length ∧ slicePick its.toArray none none (some 2) = (idx.filterMap fun i => its[i]?).toArray := by
  refine ⟨sliceRange (sliceBounds none none (some 2) its.toArray.size).1 (sliceBounds none none (some 2) its.toArray.size).2.1 (sliceBounds none none (some 2) its.toArray.size).2.2, ?_, ?_⟩
  · have e1 : (sliceBounds none none (some 2) its.toArray.size).1 = 0 := rfl
    have e2 : (sliceBounds none none (some 2) its.toArray.size).2.1 = (its.length : Int) := by rw [List.size_toArray]; rfl
    have e3 : (sliceBounds none none (some 2) its.toArray.size).2.2 = 2 := rfl
    rw [e1, e2, e3]
    exact sliceRange_length_le _ _ _ _ (fun _ => ⟨by omega, by omega⟩) fun h => absurd (by decide) h
  · unfold slicePick
    have : (fun i : Nat => its.toArray[i]?) = fun i : Nat => its[i]? := by funext i; simp
    rw [this]
theorem pe_twoL {X : Cx} {K : PySem.W.Frag} {e es : Expr} {te ts : TE} {p2 pos : Pos} (hK : X.K = K) (he : PE X e te) (hs : PE X es ts) : PE X (.Subscript e (.Slice none none (some es) p2) pos)
    (fun σ H Q => te σ H fun x H1 => ts σ H1 fun i H2 => ∃ a xs, x = .ref a ∧ i = .int 2 ∧ SqL K H2 a xs ∧ ∀ (l : Addr) (idx : List Nat), idx.length ≤ xs.length → H2 l = none → Q (.ref l) (upd H2 l (.lst (idx.filterMap fun j => xs[j]?)))) := by
  subst hK
  intro pins s σ H Q I h
  refine Subscript_ (thn (he pins s σ H _ I h) fun v s1 ⟨x, H1, I1, r1, q1⟩ => wpAny_Slice ?_)
  rw [evalPart_none]
  refine wpAny_pure ?_
  rw [evalPart_some]
  refine wpAny_pure (thn (hs pins s1 σ H1 _ I1 q1) fun u s2 ⟨y, H2, I2, r2, a, xs, ex, ey, hq, q⟩ => ?_)
  subst ex ey
  cases r1
  obtain ⟨tu, rfl⟩ := r2
  have I4 : Inv X pins σ H2 { s2 with heap := s2.heap.push { cls := .type "slice", data := .fields #[.none, .none, .int 2 tu] } } := I2.kept (t' := s2.toks) fun b ob q => Heap.get?_push_of_some _ q
  obtain ⟨its, rv, pl, hz⟩ := I4.list hq
  have len := rv.length
  obtain ⟨idx, hidx, epick⟩ := pick_two its
  refine tail_any (ops := [.ref a, .ref s2.heap.objs.size]) pl.isList.typeIs slot_list_getitem.lookup ?_ (by with_unfolding_all rfl)
  refine wpAny_getItem_list_slice (lo := none) (hi := none) (st := some 2) pl.isList ⟨_, Heap.get?_push_size _ rfl, rfl, rfl⟩ .none .none (.int _ _) (by simp) ?_ (by rw [List.size_toArray]; omega)
  rw [epick]
  have few : (idx.filterMap fun j => xs[j]?).length ≤ xs.length := Nat.le_trans (List.length_filterMap_le _ _) (by omega)
  refine ⟨.ref _, _, I4.laid (o := .lst (idx.filterMap fun j => xs[j]?)) (fun b ob q => Heap.get?_push_of_some _ q) (Nat.le_refl _) ⟨Nat.le_trans few hz, _, 0, rv.pick idx, Heap.get?_push_size _ rfl⟩, rfl, q _ idx (by omega) (I4.hok.fresh (Nat.le_refl _))⟩
theorem pick_ints (ls : List Nat) (idx : List Nat) : (idx.filterMap fun j => (intsV ls)[j]?) = intsV (idx.filterMap fun j => ls[j]?) := by
  rw [intsV, intsV, List.map_filterMap]
  congr 1
  funext j
  rw [List.getElem?_map]
theorem pick_mem {ls idx : List Nat} {l : Nat} (h : l ∈ idx.filterMap fun j => ls[j]?) : l ∈ ls := by
  obtain ⟨j, _, e⟩ := List.mem_filterMap.mp h
  exact List.mem_of_getElem? e
/-! ### words of which none begins another one -/
def Apt (a b : W) : Prop := ¬ a.isPrefixOf b = true ∧ ¬ b.isPrefixOf a = true
theorem Apt.symm {a b : W} (h : Apt a b) : Apt b a := ⟨h.2, h.1⟩
theorem NoPre.apt {us : List W} (h : NoPre us) : us.Pairwise Apt := by
  rw [List.pairwise_iff_getElem]
  intro i j hi hj hij
  have gi : us.getD i [] = us[i] := by simp [List.getD_eq_getElem?_getD, hi]
  have gj : us.getD j [] = us[j] := by simp [List.getD_eq_getElem?_getD, hj]
  constructor
  · intro z
    have := h i j hi hj (by rw [gi, gj]; exact z)
    omega
  · intro z
    have := h j i hj hi (by rw [gi, gj]; exact z)
    omega
theorem apt_next {vs : List W} (h : vs.Pairwise Apt) : NoneNext vs := by
  intro i hi z
  have h1 : i < vs.length := by omega
  have h2 : i + 1 < vs.length := by omega
  have gi : vs.getD i [] = vs[i] := by simp [List.getD_eq_getElem?_getD, h1]
  have gj : vs.getD (i + 1) [] = vs[i + 1] := by simp [List.getD_eq_getElem?_getD, h2]
  rw [gi, gj] at z
  exact (List.pairwise_iff_getElem.mp h i (i + 1) h1 h2 (by omega)).1 z
theorem WordsOk.map {q : Nat} {ls : List Nat} {us : List W} (h : WordsOk q ls us) : us.map List.length = ls := by
  apply List.ext_getElem
  · rw [List.length_map, h.len]
  · intro i h1 h2
    have e := h.lens i h2
    have hu : i < us.length := by rw [h.len]; exact h2
    rw [List.getElem_map]
    simpa [List.getD_eq_getElem?_getD, hu, h2] using e
theorem ws_ok {q : Nat} {ls : List Nat} {us : List W} (h : WordsOk q ls us) (hp : ∀ l ∈ ls, 1 ≤ l) : WS q ls us := by
  refine ⟨h.map, fun x hx => ?_, fun vs p _ => apt_next ((p.pairwise_iff Apt.symm).mpr h.pre.apt)⟩
  have l1 : x.length ∈ ls := by rw [← h.map]; exact List.mem_map.mpr ⟨x, hx, rfl⟩
  have l2 := hp _ l1
  refine ⟨fun z => by rw [z] at l2; exact absurd l2 (by decide), ?_⟩
  obtain ⟨i, hi, e⟩ := List.getElem_of_mem hx
  have := h.dg i (by rw [← h.len]; exact hi)
  rw [List.getD_eq_getElem?_getD, List.getElem?_eq_getElem hi, e] at this
  exact this
theorem word_code {q : Nat} {x : W} (hq : q ≤ 26) (h : x ≠ [] ∧ Dg q x) : isWordV az (sv x) = true := by
  show (decide (x ≠ []) && x.all fun z => az.contains z) = true
  rw [decide_eq_true h.1, Bool.true_and, List.all_eq_true]
  intro z hz
  have := (mem_aztake hq).mpr (h.2 z hz)
  simpa using List.mem_of_mem_take this
/-! ### the law's lengths -/
def lenV (m : Int) : V → V
  | .int z => .int (1 + z % m)
  | _ => .non
theorem map_lens {m : Int} (hm : 0 < m) (ns : List Int) : ∃ ls : List Nat, (ns.map V.int).map (lenV m) = intsV ls ∧ ls.length = ns.length ∧ ∀ l ∈ ls, 1 ≤ l ∧ (l : Int) ≤ m := by
  refine ⟨ns.map fun z => (1 + z % m).toNat, ?_, List.length_map .., fun l hl => ?_⟩
  · rw [intsV, List.map_map, List.map_map]
    refine List.map_congr_left fun z _ => ?_
    show V.int (1 + z % m) = V.int (((1 + z % m).toNat : Nat) : Int)
    have := Int.emod_nonneg z (by omega : m ≠ 0)
    congr 1
    omega
  · obtain ⟨z, _, rfl⟩ := List.mem_map.mp hl
    have := Int.emod_nonneg z (by omega : m ≠ 0)
    have := Int.emod_lt_of_pos z hm
    omega
def lt98 : V → Bool
  | .int z => decide (z < 98)
  | _ => false
def add3 : V → V
  | .int z => .int (z + 3)
  | _ => .non
theorem filt_lens {ls : List Nat} : ∃ ms : List Nat, ((intsV ls).filter lt98).map add3 = intsV ms ∧ ms.length ≤ ls.length ∧ ∀ l ∈ ms, 1 ≤ l ∧ l ≤ 100 := by
  induction ls with
  | nil => exact ⟨[], rfl, Nat.le_refl _, fun l hl => nomatch hl⟩
  | cons l ls ih =>
    obtain ⟨ms, e, hl, hm⟩ := ih
    by_cases h : l < 98
    · refine ⟨(l + 3) :: ms, ?_, by simp only [List.length_cons]; omega, fun k hk => ?_⟩
      · rw [intsV, List.map_cons, List.filter_cons_of_pos (by show decide ((l : Int) < 98) = true; exact decide_eq_true (by omega)), List.map_cons, intsV, List.map_cons]
        rw [intsV, intsV] at e
        rw [e]
        rfl
      · rcases List.mem_cons.mp hk with z | z
        · omega
        · exact hm k z
    · refine ⟨ms, ?_, by rw [List.length_cons]; omega, hm⟩
      rw [intsV, List.map_cons, List.filter_cons_of_neg (by show ¬ decide ((l : Int) < 98) = true; rw [decide_eq_true_iff]; omega)]
      exact e
theorem letters_q {s : Int} {v : V} (h : v ∈ [V.int 2, V.int (1 + s / 3 % 26), V.int 3]) : ∃ q : Nat, v = .int (q : Int) ∧ 1 ≤ q ∧ q ≤ 26 := by
  simp only [List.mem_cons, List.not_mem_nil, or_false] at h
  rcases h with rfl | rfl | rfl
  · exact ⟨2, rfl, by decide, by decide⟩
  · have := Int.emod_nonneg (s / 3) (by decide : (26 : Int) ≠ 0)
    have := Int.emod_lt_of_pos (s / 3) (by decide : (0 : Int) < 26)
    exact ⟨(1 + s / 3 % 26).toNat, by congr 1; omega, by omega, by omega⟩
  · exact ⟨3, rfl, by decide, by decide⟩
theorem mods_m {v : V} (h : v ∈ [V.int 8, V.int 100, V.int 20]) : ∃ m : Int, v = .int m ∧ 0 < m ∧ m ≤ 100 := by
  simp only [List.mem_cons, List.not_mem_nil, or_false] at h
  rcases h with rfl | rfl | rfl <;> exact ⟨_, rfl, by decide, by decide⟩
theorem sA : V.str (Str.ofString "a") = sv [97] := by
  have : Str.ofString "a" = st [97] := by decide +kernel
  rw [this]
/-- what comes behind a test that may or may not be asked -/
theorem behind {P R : Hp → Prop} {G : Prop} (use : (∀ H, P H → R H) → G) (rest : ∀ H, P H → R H) : G := use rest
section
variable {P : Program} {w : World} {K : PySem.W.Frag} {mg : Str → Option Value} {base : Heap}
theorem ok_initTails {C f : Addr} {fd : FuncData} (F : Fun K "__init__" "Tails.__init__" Pl.c_Tails_init f fd) (cl : Cls K C) (na : NoAttr K C "tails") (CC : Cal P w K mg base CX0 1 "copied" ["value"] (spCopied K)) :
    FnOk P w K mg base CX0 2 f fd ["self", "tails"] (spInit C "tails") := by
  have sc : FnScope ["self", "tails"] ["self", "tails"] (defScope Pl.c_Tails_init) := ⟨rfl, rfl, rfl, by decide +kernel, rfl, by decide +kernel, by decide +kernel⟩
  refine F.ok sc (fun vs H Q E h => ?_) (fun cdv A outer s H vs Q E hr h => ?_)
  · obtain ⟨_, _, _, _, rfl, _⟩ := h
    rfl
  · obtain ⟨o, p, dx, r, rfl, ho, hp, hrl, k⟩ := h
    refine ⟨_, pss_one (ps_fld (pv 0) (pe_callF CC hr (pa_cons (pv 1) pa_nil) pass0) rfl), ?_⟩
    refine ⟨_, rfl, p, r, rfl, hp, hrl, fun l H1 hl x1 hl1 => ⟨_, rfl, o, C, dx, [], rfl, x1.ins ho, cl, na, by decide, k l H1 hl x1 hl1⟩⟩
end
end L2


set_option Elab.async false
set_option linter.all false
set_option maxRecDepth 100000
set_option maxHeartbeats 4000000
namespace L2
open PySem PySem.Spec PyProof.Rows Tw
seal PSs PS PE PT PW PA PG PGs PI PC
/-- the classes of answers, as the law meets them -/
structure Clss5 (P : Program) (w : World) (K : PySem.W.Frag) (mg : Str → Option Value) (base : Heap) (cN cW cF cB cT : Addr) : Prop where
  OW : Kls P w K mg base "Words" cW ["words"] (spInitS cW "words") ["letters", "lengths"] (spShowsW cW)
  OF : ∃ f fd, Meth K cF "shows" f ∧ FnOk P w K mg base CX0 5 f fd ["self", "letters", "lengths"] (spShowsF cF) ∧ Binds K fd ["self", "letters", "lengths"] []
  clF : Cls K cF
  n1 : NoAttr K cW "words"
  IW : InsTy K cW
  IF : InsTy K cF
  IT : InsTy K cT
  tN : mg "Answer" = some (.ref cN)
  tF : mg "Full" = some (.ref cF)
  tB : mg "Begins" = some (.ref cB)
  tT : mg "Tails" = some (.ref cT)
  wN : PySem.W.kitOne K (.ref cW) (.ref cN) = some true
  wW : PySem.W.kitOne K (.ref cW) (.ref cW) = some true
  wF : PySem.W.kitOne K (.ref cW) (.ref cF) = some false
  wB : PySem.W.kitOne K (.ref cW) (.ref cB) = some false
  wT : PySem.W.kitOne K (.ref cW) (.ref cT) = some false
  fN : PySem.W.kitOne K (.ref cF) (.ref cN) = some true
  fW : PySem.W.kitOne K (.ref cF) (.ref cW) = some false
  fF : PySem.W.kitOne K (.ref cF) (.ref cF) = some true
  fB : PySem.W.kitOne K (.ref cF) (.ref cB) = some false
  fT : PySem.W.kitOne K (.ref cF) (.ref cT) = some false
  tT_ : PySem.W.kitOne K (.ref cT) (.ref cT) = some true
def spLaw (K : PySem.W.Frag) (T : Addr) : Sp := fun vs H Q _ => ∃ (a : Addr) (ns : List Int), vs = [.ref a] ∧ SqL K H a (ns.map V.int) ∧ ns.length ≤ 63 ∧ PkL T H ∧ ∀ H', Q (.bl true) H'
theorem cutV_nats (ls : List Nat) (k : Nat) : cutV (intsV ls) none (some (k : Int)) = intsV (ls.take k) := by
  unfold cutV
  rw [HT.sIx_nat]
  show ((intsV ls).drop 0).take (min k (intsV ls).length - 0) = _
  rw [List.drop_zero, Nat.sub_zero]
  show _ = (ls.take k).map fun (i : Nat) => V.int i
  rw [List.map_take, List.take_eq_take_iff]
  omega
theorem more1 {H H' : Hp} {p p2 : Addr} {us : List Nat} (h9 : LensL H p us) (few : us.length ≤ 63) (h : H' p2 = some (.lst (intsV (us ++ [1])))) : LensL H' p2 (us ++ [1]) := by
  refine ⟨h, by rw [List.length_append, List.length_singleton]; omega, fun l hl => ?_, fun l hl => ?_⟩
  · rcases List.mem_append.mp hl with z | z
    · exact h9.pos l z
    · rw [List.mem_singleton.mp z]; exact Nat.le_refl _
  · rcases List.mem_append.mp hl with z | z
    · exact h9.short l z
    · rw [List.mem_singleton.mp z]; decide
section
variable {P : Program} {w : World} {K : PySem.W.Frag} {mg : Str → Option Value} {base : Heap} {cN cW cF cB cT T : Addr}
theorem ok_law5 {f : Addr} {fd : FuncData} (F : Fun K "law" "law" Pl.s_law f fd) (B : Bare mg) (L : Clss5 P w K mg base cN cW cF cB cT)
    (CL : Cal P w K mg base CX0 4 "of_lengths" ["letters", "lengths"] (spOfLen T cW cF)) (CO : Cal P w K mg base CX0 5 "once" ["code"] (spOnce0 T cT))
    (CF : Cal P w K mg base CX0 1 "_law_full" ["_law_letters", "_law_lengths"] spLawFull) (CW : Cal P w K mg base CX0 1 "_law_words" ["_law_letters", "_law_lengths", "_law_words_here"] spLawWords) : FnOk P w K mg base CX0 6 f fd ["_law_script"] (spLaw K T) := by
  have sc : FnScope ["_law_script", "_law_mixed", "_law_letters", "_law_lengths", "_law_some", "_law_handed", "_law_found", "_law_more"] ["_law_script"] (defScope Pl.s_law) := ⟨rfl, rfl, rfl, by decide +kernel, rfl, by decide +kernel, by decide +kernel⟩
  obtain ⟨fW, fdW, mW, FW, bW⟩ := L.OW.sh
  obtain ⟨fF, fdF, mF, FF, bF⟩ := L.OF
  refine F.ok sc (fun vs H Q E h => ?_) (fun cdv A outer s H vs Q E hr h => ?_)
  · obtain ⟨_, _, rfl, _⟩ := h
    rfl
  · obtain ⟨a, ns, rfl, hS, hlen, pk, k⟩ := h
    have hr1 : Room 1 _ := hr.mono (by decide)
    have hr4 : Room 4 _ := hr.mono (by decide)
    have hu64 : _ + 64 < cLine := hr.units
    have hu0 : _ < cLine := Nat.lt_of_le_of_lt (Nat.le_add_right _ 64) hr.units
    have nd1 : (["_law_cell", "_law_mixed"] : List Str).Nodup := by decide +kernel
    have nd2 : (["_law_length"] : List Str).Nodup := by decide +kernel
    refine ⟨_, pss_cons (ps_set (i := 1) sc.nd rfl (Or.inr rfl) (pe_callB (call_sum_int rfl) (by rfl) B.sum Boot.«sum» (pa_cons (pv 0) pa_nil)))
      (pss_cons (ps_set (i := 2) sc.nd rfl (Or.inl rfl) (pe_ix (r := rIxT K) ix_tup (pe_tup (pa_cons pe_int (pa_cons (pe_op op_add pe_int (pe_op op_mod (pe_op op_fdiv (pv 1) pe_int) pe_int)) (pa_cons pe_int pa_nil)))) (pe_op op_mod (pv 1) pe_int) (fun _ _ => rfl)))
      (pss_cons (ps_setC (N' := ["_law_cell", "_law_mixed"]) (js := [none, some 1]) (i := 3) (.of (by kernel_rfl)) rfl (pi_list (pv 0)) (fun C fp s₀ H₀ => ⟨pg_name (i := 0) nd1 rfl (Or.inl rfl), pts_nil,
          pe_op op_add pe_int (pe_op op_mod (pv 0) (pe_ix (r := rIxT K) ix_tup (pe_tup (pa_cons pe_int (pa_cons pe_int (pa_cons pe_int pa_nil)))) (pe_op op_mod (pe_op op_fdiv (pv 1) pe_int) pe_int) (fun _ _ => rfl)))⟩) sc.nd rfl (Or.inl rfl))
      (pss_cons (ps_for PassesOwn.never rfl (pi_list (pe_lst (pa_cons (pv 3) (pa_cons (pe_slice sl_list (pv 3) po_none (po_some pe_int)) (pa_cons (pe_twoL (K := K) rfl (pv 3) pe_int) (pa_cons
          (pe_comp (N' := ["_law_length"]) (js := [none]) (.of (by kernel_rfl)) rfl (pi_list (pv 3)) fun C fp s₀ H₀ => ⟨pg_name (i := 0) nd2 rfl (Or.inl rfl), pts_one (pt_cmpR op_lt (pv 0) pe_int (nomark _)), pe_op op_add (pv 0) pe_int⟩)
          (pa_cons (pv 3) pa_nil))))))) (pg_name (i := 4) sc.nd rfl (Or.inl rfl))
        (pss_cons (ps_set (i := 5) sc.nd rfl (Or.inl rfl) (pe_callTy call_list_of (by rfl) B.list boot_list (pa_cons (pv 4) pa_nil)))
        (pss_cons (ps_set (i := 6) sc.nd rfl (Or.inl rfl) (pe_callF CL hr4 (pa_cons (pv 2) (pa_cons (pv 5) pa_nil)) pass0))
        (pss_cons (ps_if (PW.pt (pw_or (pt_not (pt_val (pe_callB (r := rIsi K) (call_isi_s rfl) (by rfl) B.isi boot_isinstance (pa_cons (pv 6) (pa_cons (pe_glob (v := .ref cN) (by rfl) L.tN rfl) pa_nil)))))
            (pw_or (pt_cmpR op_eq (pe_callB (r := rIsi K) (call_isi_s rfl) (by rfl) B.isi boot_isinstance (pa_cons (pv 6) (pa_cons (pe_glob (v := .ref cW) (by rfl) L.OW.there rfl) pa_nil))) (pe_callB (r := rIsi K) (call_isi_s rfl) (by rfl) B.isi boot_isinstance (pa_cons (pv 6) (pa_cons (pe_glob (v := .ref cF) (by rfl) L.tF rfl) pa_nil))) (nomark _))
            (pw_or1 (pt_cmpR (op_neLI hu64) (pv 5) (pv 4) (nomark _)))))) (pss_one (ps_ret pe_bl)) pss_nil)
        (pss_cons (ps_if (PW.pt (pw_or (pt_val (pe_callB (r := rIsi K) (call_isi_s rfl) (by rfl) B.isi boot_isinstance (pa_cons (pv 6) (pa_cons (pe_glob (v := .ref cB) (by rfl) L.tB rfl) pa_nil))))
            (pw_or (pt_val (pe_callB (r := rIsi K) (call_isi_s rfl) (by rfl) B.isi boot_isinstance (pa_cons (pv 6) (pa_cons (pe_glob (v := .ref cT) (by rfl) L.tT rfl) pa_nil))))
            (pw_or1 (pt_cmpR op_isNotB (pe_either (pe_meth (pv 6) L.OW.cls mW FW hr bW .nil pass0 (pa_cons (pv 2) (pa_cons (pv 4) pa_nil))) (pe_meth (pv 6) L.clF mF FF hr bF .nil pass0 (pa_cons (pv 2) (pa_cons (pv 4) pa_nil)))) pe_bl (nomark _)))))) (pss_one (ps_ret pe_bl)) pss_nil)
        (pss_cons (ps_if (pt_cmpR op_ne (pe_callB (r := rIsi K) (call_isi_s rfl) (by rfl) B.isi boot_isinstance (pa_cons (pv 6) (pa_cons (pe_glob (v := .ref cF) (by rfl) L.tF rfl) pa_nil))) (pe_callF CF hr1 (pa_cons (pv 2) (pa_cons (pv 4) pa_nil)) pass0) (nomark _)) (pss_one (ps_ret pe_bl)) pss_nil)
        (pss_cons (ps_set (i := 7) sc.nd rfl (Or.inl rfl) (pe_op op_cat (pv 4) (pe_lst (pa_cons pe_int pa_nil))))
        (pss_cons (ps_if (PW.pt (pw_and (pt_val (pe_callB (r := rIsi K) (call_isi_s rfl) (by rfl) B.isi boot_isinstance (pa_cons (pv 6) (pa_cons (pe_glob (v := .ref cF) (by rfl) L.tF rfl) pa_nil))))
            (pw_and1 (pt_cmpR op_ne (pe_either (pe_meth (pv 6) L.OW.cls mW FW hr bW .nil pass0 (pa_cons (pv 2) (pa_cons (pv 7) pa_nil))) (pe_meth (pv 6) L.clF mF FF hr bF .nil pass0 (pa_cons (pv 2) (pa_cons (pv 7) pa_nil)))) (pe_callF CF hr1 (pa_cons (pv 2) (pa_cons (pv 7) pa_nil)) pass0) (nomark _))))) (pss_one (ps_ret pe_bl)) pss_nil)
        (pss_one (ps_if (pt_val (pe_callB (r := rIsi K) (call_isi_s rfl) (by rfl) B.isi boot_isinstance (pa_cons (pv 6) (pa_cons (pe_glob (v := .ref cW) (by rfl) L.OW.there rfl) pa_nil))))
          (pss_cons (ps_if (PW.pt (pw_or (pt_not (pt_val (pe_callF CW hr1 (pa_cons (pv 2) (pa_cons (pv 4) (pa_cons (pe_fld (pv 6) rfl) pa_nil))) pass0)))
              (pw_or1 (pt_cmpR op_isNotB (pe_either (pe_meth (pv 6) L.OW.cls mW FW hr bW .nil pass0 (pa_cons (pv 2) (pa_cons (pv 7) pa_nil))) (pe_meth (pv 6) L.clF mF FF hr bF .nil pass0 (pa_cons (pv 2) (pa_cons (pv 7) pa_nil)))) pe_bl (nomark _))))) (pss_one (ps_ret pe_bl)) pss_nil)
          (pss_cons (ps_if (PW.pt (pw_and (pt_cmpR op_lt (pe_callB call_len_seq (by rfl) B.len PySem.boot_len (pa_cons (pv 4) pa_nil)) pe_int (nomark _))
              (pw_and (pt_cmpR op_lt (pe_maxL_s (K := K) rfl rfl B.max (pa_cons (pv 4) pa_nil) pe_int) pe_int (nomark _))
              (pw_and1 (pt_not (pt_val (pe_callB (r := rIsi K) (call_isi_s rfl) (by rfl) B.isi boot_isinstance (pa_cons (pe_callF CO hr (pa_cons (pe_fld (pv 6) rfl) pa_nil) pass0) (pa_cons (pe_glob (v := .ref cT) (by rfl) L.tT rfl) pa_nil))))))))) (pss_one (ps_ret pe_bl)) pss_nil)
          (pss_cons (ps_expr (pe_bm PySem.F.plainAttrs_list PySem.F.slot_list_append PySem.F.type_list_append mt_append (pe_fld (pv 6) rfl) (pa_cons pe_str pa_nil)))
          (pss_one (ps_if (pt_cmpR op_ne (pe_either (pe_meth (pv 6) L.OW.cls mW FW hr bW .nil pass0 (pa_cons (pv 2) (pa_cons (pv 7) pa_nil))) (pe_meth (pv 6) L.clF mF FF hr bF .nil pass0 (pa_cons (pv 2) (pa_cons (pv 7) pa_nil)))) (pe_callF CW hr1 (pa_cons (pv 2) (pa_cons (pv 7) (pa_cons (pe_fld (pv 6) rfl) pa_nil))) pass0) (nomark _)) (pss_one (ps_ret pe_bl)) pss_nil)))))
          pss_nil))))))))))
      (pss_one (ps_ret (pe_and (pe_cmpR (op_eqL0 hu0) (pe_fld (pe_callF CL hr4 (pa_cons pe_int (pa_cons (pe_lst pa_nil) pa_nil)) pass0) rfl) (pe_lst pa_nil) (nomark _))
        (pe_one (pe_callB (r := rIsi K) (call_isi_s rfl) (by rfl) B.isi boot_isinstance (pa_cons (pe_callF CL hr4 (pa_cons pe_int (pa_cons (pe_lst (pa_cons pe_int (pa_cons pe_int pa_nil))) pa_nil)) pass0) (pa_cons (pe_glob (v := .ref cF) (by rfl) L.tF rfl) pa_nil)))))))))), ?_⟩
    -- the letters and the lengths
    obtain ⟨v, hv, hvm⟩ := mod_ix (xs := [V.int 2, V.int (1 + ns.sum / 3 % 26), V.int 3]) (i := ns.sum) (k := 3) (by decide) (Int.le_refl 3)
    obtain ⟨q, rfl, hq1, hq2⟩ := letters_q hvm
    obtain ⟨v4, hv4, hv4m⟩ := mod_ix (xs := [V.int 8, V.int 100, V.int 20]) (i := ns.sum / 7) (k := 3) (by decide) (by decide)
    obtain ⟨m, rfl, hm0, hm1⟩ := mods_m hv4m
    refine ⟨_, rfl, a, ns, rfl, hS, ?_⟩
    refine ⟨_, rfl, _, _, rfl, rfl, ⟨by decide, by decide⟩, _, _, rfl, rfl, by show (0 : Int) < 26; decide, _, _, rfl, rfl, by show 3 ≤ sizeLine; decide, fun t1 h1 => ?_⟩
    have x1 := Ext.new (o := HO.tup [V.int 2, V.int (1 + ns.sum / 3 % 26), V.int 3]) h1
    refine ⟨_, rfl, _, _, rfl, rfl, by show (0 : Int) < 3; decide, t1, _, _, _, rfl, rfl, SqT.of upd_same, hv, ?_⟩
    generalize upd H t1 (.tup [V.int 2, V.int (1 + ns.sum / 3 % 26), V.int 3]) = H1 at x1
    have hS1 := x1.sqL hS
    refine ⟨_, rfl, a, rfl, ⟨_, hS1⟩, block_map1 hS1 (by rw [List.length_map]; exact small_line (by omega)) (lenV m) (fun y H' hy x2 Q' k' => ?_) (fun c H2 hc x2 hc2 => ?_)⟩
    · obtain ⟨z, _, rfl⟩ := List.mem_map.mp hy
      exact ⟨_, rfl, by show 3 ≤ sizeLine; decide, fun t2 ht2 => ⟨_, rfl, _, _, rfl, rfl, ⟨by decide, by decide⟩, _, _, rfl, rfl, by show (0 : Int) < 3; decide, t2, _, _, _, rfl, rfl, SqT.of upd_same, hv4, _, _, rfl, rfl, hm0, _, _, rfl, rfl, k' _ _ (Ext.new ht2) rfl⟩⟩
    obtain ⟨ls, els, lsl, hls⟩ := map_lens hm0 ns
    rw [els] at hc2
    have hls1 : ∀ l ∈ ls, 1 ≤ l ∧ l ≤ 100 := fun l hl => by have := hls l hl; omega
    have lsl' : ls.length ≤ 63 := by omega
    have pk2 : PkL T H2 := PkL.ext (PkL.ext pk x1) x2
    -- the lists that are asked
    refine ⟨_, rfl, _, rfl, _, rfl, c, _, rfl, SqL.of hc2, fun d1 hd1 => ?_⟩
    rw [show (3 : Int) = ((3 : Nat) : Int) from rfl, cutV_nats]
    have x3 := Ext.new (o := HO.lst (intsV (ls.take 3))) hd1
    have e1 : upd H2 d1 (.lst (intsV (ls.take 3))) d1 = some (.lst (intsV (ls.take 3))) := upd_same
    generalize upd H2 d1 (.lst (intsV (ls.take 3))) = H3 at x3 e1
    have c3 := x3.lst hc2
    refine ⟨_, rfl, c, _, rfl, rfl, SqL.of c3, fun d2 idx hidx hd2 => ?_⟩
    rw [pick_ints]
    have x4 := Ext.new (o := HO.lst (intsV (idx.filterMap fun j => ls[j]?))) hd2
    have e2 : upd H3 d2 (.lst (intsV (idx.filterMap fun j => ls[j]?))) d2 = some (.lst (intsV (idx.filterMap fun j => ls[j]?))) := upd_same
    generalize upd H3 d2 (.lst (intsV (idx.filterMap fun j => ls[j]?))) = H4 at x4 e2
    have c4 := x4.lst c3
    refine ⟨_, rfl, c, rfl, ⟨_, SqL.of c4⟩, block_map (K := K) (SqL.of c4) (by rw [List.length_map]; exact small_line (by omega)) lt98 add3 (fun y H' hy x5 Q' k' => ?_) (fun y H' hy x5 _ Q' k' => ?_) fun d3 H5 hd3 x5 e3 => ?_⟩
    · obtain ⟨z, _, rfl⟩ := List.mem_map.mp hy
      exact ⟨_, rfl, _, _, rfl, rfl, _, rfl, k' _ (Ext.refl _)⟩
    · obtain ⟨z, _, rfl⟩ := List.mem_map.mp hy
      exact ⟨_, rfl, _, _, rfl, rfl, k' _ _ (Ext.refl _) rfl⟩
    obtain ⟨ms, ems, msl, hms⟩ := filt_lens (ls := ls)
    rw [ems] at e3
    refine ⟨_, rfl, by show 5 ≤ sizeLine; decide, fun d9 hd9 => ⟨d9, rfl, ⟨_, SqL.of upd_same⟩, ?_⟩⟩
    have x9 := Ext.new (o := HO.lst [.ref c, .ref d1, .ref d2, .ref d3, .ref c]) hd9
    have e9 : upd H5 d9 (.lst [.ref c, .ref d1, .ref d2, .ref d3, .ref c]) d9 = some (.lst [.ref c, .ref d1, .ref d2, .ref d3, .ref c]) := upd_same
    generalize upd H5 d9 (.lst [.ref c, .ref d1, .ref d2, .ref d3, .ref c]) = H9 at x9 e9
    have pk9 : PkL T H9 := PkL.ext pk2 (((x3.trans x4).trans x5).trans x9)
    have all9 : ∀ y ∈ ([.ref c, .ref d1, .ref d2, .ref d3, .ref c] : List V), ∃ p us, y = .ref p ∧ LensL H9 p us ∧ us.length ≤ 63 ∧ ∀ l ∈ us, l ≤ 100 := by
      have one : ∀ {p us}, H9 p = some (.lst (intsV us)) → us.length ≤ 63 → (∀ l ∈ us, 1 ≤ l ∧ l ≤ 100) → ∃ p' us', (V.ref p) = .ref p' ∧ LensL H9 p' us' ∧ us'.length ≤ 63 ∧ ∀ l ∈ us', l ≤ 100 := fun {p us} h1 h2 h3 =>
        ⟨p, us, rfl, ⟨h1, by omega, fun l hl => (h3 l hl).1, fun l hl => by have := (h3 l hl).2; omega⟩, h2, fun l hl => (h3 l hl).2⟩
      have c9 := x9.lst (x5.lst c4)
      intro y hy
      simp only [List.mem_cons, List.not_mem_nil, or_false] at hy
      rcases hy with rfl | rfl | rfl | rfl | rfl
      · exact one c9 lsl' hls1
      · exact one (x9.lst (x5.lst (x4.lst e1))) (by rw [List.length_take]; omega) fun l hl => hls1 l (List.mem_of_mem_take hl)
      · exact one (x9.lst (x5.lst e2)) (Nat.le_trans (List.length_filterMap_le _ _) (by rw [List.length_map] at hidx; omega)) fun l hl => hls1 l (pick_mem hl)
      · exact one (x9.lst e3) (by omega) hms
      · exact one c9 lsl' hls1
    refine for_list (K := K) (a := d9) (xs := [.ref c, .ref d1, .ref d2, .ref d3, .ref c]) (fun j σ H10 => (∃ so ha fo mo : Option V, σ = [some (.ref a), some (.int ns.sum), some (.int (q : Int)), some (.ref c), so, ha, fo, mo]) ∧ XP T H9 H10) ⟨⟨_, _, _, _, rfl⟩, XP.refl pk9⟩ (fun j σ H10 _ h => SqL.of (h.2.lst e9)) ?_ ?_
    · rintro j y σ H10 hy ⟨⟨so, ha, fo, mo, rfl⟩, x10⟩
      obtain ⟨p, us, rfl, hp9, few, le100⟩ := all9 y (List.mem_of_getElem? hy)
      have hp10 : LensL H10 p us := ⟨x10.lst hp9.at_, hp9.few, hp9.pos, hp9.short⟩
      refine ⟨_, rfl, p, _, rfl, .inl (SqL.of hp10.at_), fun hd hhd => ?_⟩
      have x11 : XP T H9 (upd H10 hd (.lst (intsV us))) := x10.newer hhd
      have ehd : upd H10 hd (.lst (intsV us)) hd = some (.lst (intsV us)) := upd_same
      have hp11 : LensL (upd H10 hd (.lst (intsV us))) p us := hp10.ext (Ext.new hhd)
      generalize upd H10 hd (.lst (intsV us)) = H11 at x11 ehd hp11
      have sq : ∀ {H' p'}, H' p' = some (.lst (intsV us)) → SqL K H' p' ((us.map fun (i : Nat) => (i : Int)).map V.int) := fun h => by rw [← ints_int]; exact SqL.of h
      refine ⟨_, rfl, _, rfl, q, hd, us, rfl, hq1, hq2, ⟨ehd, hp9.few, hp9.pos, hp9.short⟩, le100, by omega, x11.pk', fun o dx l ws H12 x12 ho hl ho12 hl12 hok hmass => ?_, fun o dx H12 x12 ho ho12 hmass => ?_⟩
      · have x912 := x11.trans x12
        have hp12 : LensL H12 p us := ⟨x12.lst hp11.at_, hp9.few, hp9.pos, hp9.short⟩
        have hd12 := x12.lst ehd
        have wsl : ws.length ≤ 63 := by rw [hok.len]; exact few
        have short : ∀ x ∈ ws, x.length ≤ 100 := fun x hx => le100 _ (by rw [← hok.map]; exact List.mem_map.mpr ⟨x, hx, rfl⟩)
        have wsok := ws_ok hok hp9.pos
        have tl12 : TxtL H12 l ws := ⟨hl12, by omega, fun x hx => by have := short x hx; omega⟩
        have no : decide (q ^ 101 < mass q us) = false := decide_eq_false (by omega)
        refine ⟨_, rfl, _, _, _, _, rfl, trivial, L.IW.ty ho12, L.wN, _, rfl, iteF ⟨_, rfl, _, _, _, _, rfl, trivial, L.IW.ty ho12, L.wW, _, rfl, _, _, _, _, rfl, trivial, L.IW.ty ho12, L.wF, rfl, _, rfl, iteF' (by decide) ⟨_, rfl, _, rfl, hd, p, _, _, rfl, rfl, sq hd12, sq hp12.at_, _, rfl, iteF' (by simp) ?_⟩⟩⟩
        refine ⟨_, rfl, _, _, _, _, rfl, trivial, L.IW.ty ho12, L.wB, _, rfl, iteF ⟨_, rfl, _, _, _, _, rfl, trivial, L.IW.ty ho12, L.wT, _, rfl, iteF ?_⟩⟩
        refine .inl ⟨_, rfl, o, dx, _, rfl, ho12, rfl, _, rfl, _, rfl, o, dx, l, p, q, us, ws, rfl, ho12, tl12, hp12, hq1, hq2, fun b H13 x13 hb => ⟨_, _, rfl, rfl, _, rfl, ?_⟩⟩
        rw [hb.mpr wsok]
        refine iteF ?_
        have ho13 := x13.ins ho12
        have hp13 := hp12.ext x13
        refine ⟨_, rfl, _, _, _, _, rfl, trivial, L.IW.ty ho13, L.wF, _, rfl, _, rfl, q, p, us, rfl, hq1, hq2, hp13, rfl, _, rfl, ?_⟩
        rw [no]
        refine iteF' (by decide) ?_
        refine ⟨_, rfl, by show 1 ≤ sizeLine; decide, fun p1 hp1 => ⟨p, p1, _, _, rfl, rfl, upd_keep hp13.at_ hp1, upd_same, by rw [List.length_map]; exact small_line (by show us.length + 1 ≤ 1000000; omega), fun p2 hp2 => ?_⟩⟩
        have x14 := (Ext.new (o := HO.lst [V.int 1]) hp1).newer (o := HO.lst (intsV us ++ [V.int 1])) hp2
        have hne : l ≠ p2 := ne_of_none (upd_keep (tl12.ext x13).at_ hp1) hp2
        have em : upd (upd H13 p1 (.lst [V.int 1])) p2 (.lst (intsV us ++ [V.int 1])) p2 = some (.lst (intsV (us ++ [1]))) := by rw [upd_same, intsV, intsV, List.map_append]; rfl
        generalize upd (upd H13 p1 (.lst [V.int 1])) p2 (.lst (intsV us ++ [V.int 1])) = H14 at x14 em
        have more : ∀ {H'}, H' p2 = some (.lst (intsV (us ++ [1]))) → LensL H' p2 (us ++ [1]) := more1 hp9 few
        have x1214 := x13.trans x14
        have ho14 := x1214.ins ho12
        have tl14 := tl12.ext x1214
        have hp14 := hp12.ext x1214
        refine ⟨_, rfl, _, _, _, _, rfl, trivial, L.IW.ty ho14, L.wF, _, rfl, iteF (iteF ?_)⟩
        refine ⟨_, rfl, _, _, _, _, rfl, trivial, L.IW.ty ho14, L.wW, _, rfl, iteT ?_⟩
        refine ⟨_, rfl, _, rfl, _, rfl, o, cW, dx, _, .ref l, rfl, ho14, L.OW.cls, L.n1, rfl, q, p, l, us, ws, rfl, hp14, tl14, hq1, hq2, fun b1 H15 x15 hb1 => ⟨_, rfl, ?_⟩⟩
        rw [hb1.mpr wsok]
        refine iteF ?_
        have ho15 := x15.ins ho14
        have tl15 := tl14.ext x15
        refine .inl ⟨_, rfl, o, dx, _, rfl, ho15, rfl, _, rfl, _, rfl, o, dx, l, p2, q, us ++ [1], ws, rfl, ho15, tl15, more (x15.lst em), hq1, hq2, fun b2 H16 x16 hb2 => ⟨_, _, rfl, rfl, _, rfl, ?_⟩⟩
        have eb2 : b2 = false := by
          cases b2 with
          | false => rfl
          | true =>
            have := congrArg List.length ((hb2.mp rfl).lens)
            rw [List.length_map, List.length_append, List.length_singleton, hok.len] at this
            omega
        rw [eb2]
        refine iteF ?_
        have x1416 := x15.trans x16
        have x916 : XP T H9 H16 := x912.then (x1214.trans x1416)
        have ho16 := x1416.ins ho14
        have tl16 := tl14.ext x1416
        have hp16 := hp14.ext x1416
        have em16 := x1416.lst em
        have x1116 : XP T H11 H16 := x12.then (x1214.trans x1416)
        apply behind (P := fun H17 => XP T H16 H17)
        case use =>
          intro rest
          refine ⟨_, rfl, p, _, rfl, .inl (SqL.of hp16.at_), _, _, rfl, rfl, _, rfl, ?_⟩
          by_cases h9 : ((intsV us).length : Int) < 9
          · refine iteT' (decide_eq_true h9) ?_
            obtain ⟨M, eM, _, _⟩ := mx_lens us
            refine ⟨_, rfl, p, _, rfl, sq hp16.at_, ?_⟩
            rw [eM]
            refine ⟨_, _, rfl, rfl, _, rfl, ?_⟩
            by_cases hM : (M : Int) < 9
            · refine iteT' (decide_eq_true hM) ?_
              refine ⟨_, rfl, o, cW, dx, _, .ref l, rfl, ho16, L.OW.cls, L.n1, rfl, l, ws, rfl, ⟨tl16.at_, fun x hx => word_code hq2 (wsok.ok x hx), by omega, fun x hx => by have := short x hx; omega⟩, by omega, short, hok.pre, x916.pk', fun o' p' dx' H17 x17 ho' ho17 => ⟨_, _, _, _, rfl, trivial, L.IT.ty ho17, L.tT_, _, rfl, iteF (rest H17 x17)⟩⟩
            · refine iteF' (by rw [decide_eq_true_iff]; exact hM) (iteF (rest H16 (XP.refl x916.pk')))
          · refine iteF' (by rw [decide_eq_true_iff]; exact h9) (iteF (rest H16 (XP.refl x916.pk')))
        case rest =>
          intro H17 x17
          have ho17 := x17.ins ho16
          have hl17 := x17.lst tl16.at_
          have em17 := x17.lst em16
          have x1117 := x1116.trans x17
          refine ⟨_, rfl, o, cW, dx, _, .ref l, rfl, ho17, L.OW.cls, L.n1, rfl, .inl ⟨rfl, _, SqL.of hl17⟩, l, _, _, rfl, rfl, hl17, by rw [List.length_map]; exact small1000000 (by omega), ?_⟩
          have x18 : XP T H11 (upd H17 l (.lst (ws.map sv ++ [.str "a"]))) := x1117.over hl hl17 (fun _ z => nomatch z) fun _ z => nomatch z
          have ho18 : upd H17 l (.lst (ws.map sv ++ [.str "a"])) o = some (.ins cW dx [("words", .ref l)]) := upd_k ho17 (ne_of ho17 hl17 (by simp))
          have em18 : upd H17 l (.lst (ws.map sv ++ [.str "a"])) p2 = some (.lst (intsV (us ++ [1]))) := upd_k em17 hne.symm
          have tl18 : TxtL (upd H17 l (.lst (ws.map sv ++ [.str "a"]))) l (ws ++ [[97]]) := ⟨by rw [upd_same, List.map_append, List.map_singleton, ← sA], by rw [List.length_append, List.length_singleton]; omega, fun x hx => by
            rcases List.mem_append.mp hx with z | z
            · have := short x z; omega
            · rw [List.mem_singleton.mp z]; decide⟩
          generalize upd H17 l (.lst (ws.map sv ++ [.str "a"])) = H18 at x18 ho18 em18 tl18
          refine .inl ⟨_, rfl, o, dx, _, rfl, ho18, rfl, _, rfl, _, rfl, o, dx, l, p2, q, us ++ [1], ws ++ [[97]], rfl, ho18, tl18, more em18, hq1, hq2, fun b3 H19 x19 hb3 => ?_⟩
          refine ⟨_, rfl, _, rfl, _, rfl, o, cW, dx, _, .ref l, rfl, x19.ins ho18, L.OW.cls, L.n1, rfl, q, p2, l, us ++ [1], ws ++ [[97]], rfl, more (x19.lst em18), tl18.ext x19, hq1, hq2, fun b4 H20 x20 hb4 => ⟨rfl, _, rfl, ?_⟩⟩
          have e : b3 = b4 := by rw [Bool.eq_iff_iff, hb3, hb4]
          subst e
          exact iteF' (by simp) ⟨⟨_, _, _, _, rfl⟩, x11.trans (x18.then (x19.trans x20))⟩
      · have x912 := x11.trans x12
        have hp12 : LensL H12 p us := ⟨x12.lst hp11.at_, hp9.few, hp9.pos, hp9.short⟩
        have hd12 := x12.lst ehd
        have yes : decide (q ^ 101 < mass q us) = true := decide_eq_true hmass
        refine ⟨_, rfl, _, _, _, _, rfl, trivial, L.IF.ty ho12, L.fN, _, rfl, iteF ⟨_, rfl, _, _, _, _, rfl, trivial, L.IF.ty ho12, L.fW, _, rfl, _, _, _, _, rfl, trivial, L.IF.ty ho12, L.fF, rfl, _, rfl, iteF' (by decide) ⟨_, rfl, _, rfl, hd, p, _, _, rfl, rfl, sq hd12, sq hp12.at_, _, rfl, iteF' (by simp) ?_⟩⟩⟩
        refine ⟨_, rfl, _, _, _, _, rfl, trivial, L.IF.ty ho12, L.fB, _, rfl, iteF ⟨_, rfl, _, _, _, _, rfl, trivial, L.IF.ty ho12, L.fT, _, rfl, iteF ?_⟩⟩
        refine .inr ⟨_, rfl, o, dx, _, rfl, ho12, rfl, _, rfl, _, rfl, o, p, q, us, rfl, hp12, hq1, hq2, fun H13 x13 => ⟨_, _, rfl, rfl, _, rfl, ?_⟩⟩
        rw [yes]
        refine iteF ?_
        have ho13 := x13.ins ho12
        have hp13 := hp12.ext x13
        refine ⟨_, rfl, _, _, _, _, rfl, trivial, L.IF.ty ho13, L.fF, _, rfl, _, rfl, q, p, us, rfl, hq1, hq2, hp13, rfl, _, rfl, ?_⟩
        rw [yes]
        refine iteF' (by decide) ?_
        refine ⟨_, rfl, by show 1 ≤ sizeLine; decide, fun p1 hp1 => ⟨p, p1, _, _, rfl, rfl, upd_keep hp13.at_ hp1, upd_same, by rw [List.length_map]; exact small_line (by show us.length + 1 ≤ 1000000; omega), fun p2 hp2 => ?_⟩⟩
        have x14 := (Ext.new (o := HO.lst [V.int 1]) hp1).newer (o := HO.lst (intsV us ++ [V.int 1])) hp2
        have em : upd (upd H13 p1 (.lst [V.int 1])) p2 (.lst (intsV us ++ [V.int 1])) p2 = some (.lst (intsV (us ++ [1]))) := by rw [upd_same, intsV, intsV, List.map_append]; rfl
        generalize upd (upd H13 p1 (.lst [V.int 1])) p2 (.lst (intsV us ++ [V.int 1])) = H14 at x14 em
        have more : ∀ {H'}, H' p2 = some (.lst (intsV (us ++ [1]))) → LensL H' p2 (us ++ [1]) := more1 hp9 few
        have x1214 := x13.trans x14
        have ho14 := x1214.ins ho12
        refine ⟨_, rfl, _, _, _, _, rfl, trivial, L.IF.ty ho14, L.fF, _, rfl, iteT ?_⟩
        refine .inr ⟨_, rfl, o, dx, _, rfl, ho14, rfl, _, rfl, _, rfl, o, p2, q, us ++ [1], rfl, more em, hq1, hq2, fun H15 x15 => ⟨_, rfl, _, rfl, q, p2, us ++ [1], rfl, hq1, hq2, more (x15.lst em), rfl, _, rfl, iteF' (by simp) ?_⟩⟩
        refine ⟨_, rfl, _, _, _, _, rfl, trivial, L.IF.ty (x15.ins ho14), L.fW, _, rfl, iteF ⟨⟨_, _, _, _, rfl⟩, x912.then (x1214.trans x15)⟩⟩
    · rintro σ H10 ⟨⟨so, ha, fo, mo, rfl⟩, x10⟩
      refine ⟨by show 0 ≤ sizeLine; exact Nat.zero_le _, fun e he => ?_⟩
      have Le : LensL (upd H10 e (.lst [])) e [] := ⟨upd_same, by simp, (fun x hx => nomatch hx), fun x hx => nomatch hx⟩
      refine ⟨2, e, [], rfl, by decide, by decide, Le, (fun x hx => nomatch hx), by simp, PkL.ext x10.pk' (Ext.new he), fun o dx l ws H11 x11 ho hl ho11 hl11 hok hmass => ?_, fun o dx H11 x11 ho ho11 hmass => absurd hmass (by simp [mass])⟩
      have e0 : ws = [] := List.length_eq_zero_iff.mp hok.len
      subst e0
      refine ⟨o, cW, dx, _, .ref l, rfl, ho11, L.OW.cls, L.n1, rfl, by show 0 ≤ sizeLine; exact Nat.zero_le _, fun e2 he2 => ⟨l, e2, _, rfl, rfl, SqL.of (upd_keep hl11 he2), SqL.of upd_same, _, rfl, iteT' (by simp) ?_⟩⟩
      refine ⟨by show 2 ≤ sizeLine; decide, fun e3 he3 => ?_⟩
      refine ⟨1, e3, [1, 100], rfl, by decide, by decide, ⟨upd_same, by simp, by decide, by decide⟩, by decide, by simp, PkL.ext (PkL.ext x11.pk' (Ext.new he2)) (Ext.new he3), fun o' dx' l' ws' H12 x12 ho' hl' ho12 hl12 hok' hmass' => absurd hmass' (by simp [mass]), fun o' dx' H12 x12 ho' ho12 hmass' => ⟨_, _, _, _, rfl, trivial, L.IF.ty ho12, L.fF, k H12⟩⟩
end
end L2


set_option Elab.async false
set_option linter.all false
set_option maxRecDepth 100000
set_option maxHeartbeats 4000000
namespace L2
open PySem PySem.Spec PyProof.Rows Tw
/-! ### what the top has written -/
/-- a def stands in the part that is written out -/
def DefIn (K : PySem.W.Frag) (x : Str) (st : Stmt) (f : Addr) : Prop := PySem.W.nsIn K mainGlobals x = some (some (.ref f)) ∧
  ∃ (oc : Value) (od : Option Addr) (kV doc pm : Value) (an : Option Addr) (cdv ct : Value) (osl : Array (Option Value)), K.lookup f = some ⟨oc, od, .func (PySem.W.fnOf x x (defArgs st) (defBody st) (defScope st) .none kV doc pm an cdv ct), osl⟩ ∧
    PySem.W.codeIn K cdv x = true ∧ PySem.W.keepIn K (.ref f) = true
theorem DefIn.is {K : PySem.W.Frag} {h : Heap} {mg : Str → Option Value} {x : Str} {st : Stmt} {ps : List Str} (X : K.In h) (G : h.Ns mainGlobals mg) (d : ∃ f, DefIn K x st f)
    (hb : ∀ (kV doc pm : Value) (an : Option Addr) (cdv ct : Value) (us : List Value), us.length = ps.length → bindArgs (PySem.W.fnOf x x (defArgs st) (defBody st) (defScope st) .none kV doc pm an cdv ct) ⟨us, []⟩ = pure (ps.zip us)) : Def K mg x x st ps := by
  obtain ⟨f, a, oc, od, kV, doc, pm, an, cdv, ct, osl, l, c, k⟩ := d
  have F := fun_mk (x := x) (qual := x) (st := st) l c k
  exact ⟨f, _, F, PySem.W.mg_of X G a, k, F.binds hb⟩
theorem DefIn.mk {K : PySem.W.Frag} {x : Str} {st : Stmt} {f : Addr} {oc : Value} {od : Option Addr} {kV doc pm : Value} {an : Option Addr} {cdv ct : Value} {osl : Array (Option Value)} (a : PySem.W.nsIn K mainGlobals x = some (some (.ref f)))
    (l : K.lookup f = some ⟨oc, od, .func (PySem.W.fnOf x x (defArgs st) (defBody st) (defScope st) .none kV doc pm an cdv ct), osl⟩) (c : PySem.W.codeIn K cdv x = true) (k : PySem.W.keepIn K (.ref f) = true) : ∃ f, DefIn K x st f :=
  ⟨f, a, oc, od, kV, doc, pm, an, cdv, ct, osl, l, c, k⟩
theorem letters_mk {K : PySem.W.Frag} {x : Str} {t : Tok} (a : PySem.W.nsIn K mainGlobals "LETTERS" = some (some (.str x t))) (e : x = Str.ofString "abcdefghijklmnopqrstuvwxyz") :
    ∃ x t, PySem.W.nsIn K mainGlobals "LETTERS" = some (some (.str x t)) ∧ x = Str.ofString "abcdefghijklmnopqrstuvwxyz" := ⟨x, t, a, e⟩
theorem longest_mk {K : PySem.W.Frag} {x : Int} {t : Tok} (a : PySem.W.nsIn K mainGlobals "LONGEST" = some (some (.int x t))) (e : x = 100) : ∃ x t, PySem.W.nsIn K mainGlobals "LONGEST" = some (some (.int x t)) ∧ x = 100 := ⟨x, t, a, e⟩
/-- a class of refusals stands there -/
structure RefIn (K : PySem.W.Frag) (x : Str) (C : Addr) : Prop where
  a : PySem.W.nsIn K mainGlobals x = some (some (.ref C))
  ok : PySem.W.excIn K C bmVE "ValueError.__new__" = true
/-- a method of the class at C -/
def MthIn (K : PySem.W.Frag) (C : Addr) (m qual : Str) (st : Stmt) (f : Addr) (fd : FuncData) : Prop := PySem.W.findIn K (.ref C) m = some (some (.ref f)) ∧ PySem.W.isFn K (.ref f) = true ∧ Fun K m qual st f fd
/-- what an answer's class shows -/
structure AnsIn (K : PySem.W.Frag) (C : Addr) (fld : Str) (cN cW cF cB cT : Addr) (bN bW bF bB bT : Bool) : Prop where
  cl : Cls K C
  mak : PySem.W.makesIn K C = true
  kp : PySem.W.keepIn K (.ref C) = true
  na : NoAttr K C fld
  ty : InsTy K C
  kN : PySem.W.kitOne K (.ref C) (.ref cN) = some bN
  kW : PySem.W.kitOne K (.ref C) (.ref cW) = some bW
  kF : PySem.W.kitOne K (.ref C) (.ref cF) = some bF
  kB : PySem.W.kitOne K (.ref C) (.ref cB) = some bB
  kT : PySem.W.kitOne K (.ref C) (.ref cT) = some bT
/-- the code of in_order, and its table -/
def codeOf (K : PySem.W.Frag) (x : Str) : Option Addr := match PySem.W.nsIn K mainGlobals x with
  | some (some (.ref f)) => match K.lookup f with
    | some ⟨_, _, .func fd, _⟩ => match fd.code with
      | .ref c => some c
      | _ => none
    | _ => none
  | _ => none
def tabP (K : PySem.W.Frag) : Addr := match codeOf K "in_order" with
  | some c => match K.lookup c with
    | some ⟨_, _, .fields vs, _⟩ => match (vs[11]? : Option Value) with
      | some (.ref p) => p
      | _ => 0
    | _ => 0
  | none => 0
def HdIn (K : PySem.W.Frag) (c P : Addr) : Prop := ∀ h : Heap, K.In h → PySem.W.CodeHd h c P
theorem HdIn.hd {K : PySem.W.Frag} {c P : Addr} {h : Heap} (x : HdIn K c P) (X : K.In h) : PySem.W.CodeHd h c P := x h X
theorem DefIn.table {K : PySem.W.Frag} {h : Heap} {mg : Str → Option Value} {T c : Addr} (X : K.In h) (G : h.Ns mainGlobals mg) (d : ∃ f, DefIn K "in_order" Pl.s_in_order f) (hc : codeOf K "in_order" = some c) (hh : HdIn K c T)
    (hb : ∀ (kV doc pm : Value) (an : Option Addr) (cdv ct : Value) (us : List Value), us.length = ["values"].length → bindArgs (PySem.W.fnOf "in_order" "in_order" (defArgs Pl.s_in_order) (defBody Pl.s_in_order) (defScope Pl.s_in_order) .none kV doc pm an cdv ct) ⟨us, []⟩ = pure ((["values"] : List Str).zip us)) :
    ∀ base : Heap, K.In base → DefT K mg base T := by
  obtain ⟨f, a, oc, od, kV, doc, pm, an, cdv, ct, osl, l, cd, k⟩ := d
  have F := fun_mk (x := "in_order") (qual := "in_order") (st := Pl.s_in_order) l cd k
  refine fun base XB => ⟨f, _, c, F, PySem.W.mg_of X G a, k, F.binds hb, ?_, hh.hd XB⟩
  unfold codeOf at hc
  rw [a] at hc
  dsimp only at hc
  rw [l] at hc
  dsimp only at hc
  split at hc
  next c' =>
    cases hc
    rfl
  next => cases hc
theorem all_mk {l : PySem.W.OpenLaw} {w : World} {K : PySem.W.Frag} {h : Heap} {mg : Str → Option Value} {fa T ci : Addr} (X : K.In h) (G : h.Ns mainGlobals mg) (hfa : mg "law" = some (.ref fa)) (hci : codeOf K "in_order" = some ci) (hhd : HdIn K ci T)
    (d0 : ∃ f, DefIn K "is_whole" Pl.s_is_whole f)
    (d1 : ∃ f, DefIn K "is_word" Pl.s_is_word f)
    (d2 : ∃ f, DefIn K "are_words" Pl.s_are_words f)
    (d3 : ∃ f, DefIn K "is_code" Pl.s_is_code f)
    (d4 : ∃ f, DefIn K "words_at" Pl.s_words_at f)
    (d5 : ∃ f, DefIn K "check_code" Pl.s_check_code f)
    (d6 : ∃ f, DefIn K "grouped" Pl.s_grouped f)
    (d7 : ∃ f, DefIn K "standing" Pl.s_standing f)
    (d8 : ∃ f, DefIn K "copied" Pl.s_copied f)
    (d9 : ∃ f, DefIn K "none_begins_next" Pl.s_none_begins_next f)
    (d10 : ∃ f, DefIn K "is_count" Pl.s_is_count f)
    (d11 : ∃ f, DefIn K "are_lengths" Pl.s_are_lengths f)
    (d12 : ∃ f, DefIn K "spread" Pl.s_spread f)
    (d13 : ∃ f, DefIn K "overfull" Pl.s_overfull f)
    (d14 : ∃ f, DefIn K "check_lengths" Pl.s_check_lengths f)
    (d15 : ∃ f, DefIn K "first_free" Pl.s_first_free f)
    (d16 : ∃ f, DefIn K "of_lengths" Pl.s_of_lengths f)
    (d17 : ∃ f, DefIn K "rest_numbers" Pl.s_rest_numbers f)
    (d18 : ∃ f, DefIn K "first_rests" Pl.s_first_rests f)
    (d19 : ∃ f, DefIn K "take_new" Pl.s_take_new f)
    (d20 : ∃ f, DefIn K "all_rests" Pl.s_all_rests f)
    (d21 : ∃ f, DefIn K "once" Pl.s_once f)
    (d22 : ∃ f, DefIn K "_law_words" Pl.s_law_words f)
    (d23 : ∃ f, DefIn K "_law_full" Pl.s_law_full f)
    (d24 : ∃ f, DefIn K "in_order" Pl.s_in_order f)
    (d25 : ∃ f, DefIn K "law" Pl.s_law f)
    (b0 : PySem.W.nsIn K mainGlobals "isinstance" = some none)
    (b1 : PySem.W.nsIn K mainGlobals "int" = some none)
    (b2 : PySem.W.nsIn K mainGlobals "bool" = some none)
    (b3 : PySem.W.nsIn K mainGlobals "str" = some none)
    (b4 : PySem.W.nsIn K mainGlobals "list" = some none)
    (b5 : PySem.W.nsIn K mainGlobals "dict" = some none)
    (b6 : PySem.W.nsIn K mainGlobals "all" = some none)
    (b7 : PySem.W.nsIn K mainGlobals "any" = some none)
    (b8 : PySem.W.nsIn K mainGlobals "len" = some none)
    (b9 : PySem.W.nsIn K mainGlobals "range" = some none)
    (b10 : PySem.W.nsIn K mainGlobals "sorted" = some none)
    (b11 : PySem.W.nsIn K mainGlobals "sum" = some none)
    (b12 : PySem.W.nsIn K mainGlobals "enumerate" = some none)
    (b13 : PySem.W.nsIn K mainGlobals "max" = some none)
    (b14 : PySem.W.nsIn K mainGlobals "ValueError" = some none)
    (b15 : PySem.W.nsIn K mainGlobals "min" = some none)
    (b16 : PySem.W.nsIn K mainGlobals "zip" = some none)
    (gL : ∃ x t, PySem.W.nsIn K mainGlobals "LETTERS" = some (some (.str x t)) ∧ x = Str.ofString "abcdefghijklmnopqrstuvwxyz") (gE : ∃ x t, PySem.W.nsIn K mainGlobals "EMPTY" = some (some (.int x t)) ∧ x = 0) (gG : ∃ x t, PySem.W.nsIn K mainGlobals "LONGEST" = some (some (.int x t)) ∧ x = 100) {c0 cN cW cF cB cT : Addr}
    (r0 : RefIn K "BadCode" c0)
    (tN : PySem.W.nsIn K mainGlobals "Answer" = some (some (.ref cN)))
    (tW : PySem.W.nsIn K mainGlobals "Words" = some (some (.ref cW)))
    (tF : PySem.W.nsIn K mainGlobals "Full" = some (some (.ref cF)))
    (tB : PySem.W.nsIn K mainGlobals "Begins" = some (some (.ref cB)))
    (tT : PySem.W.nsIn K mainGlobals "Tails" = some (some (.ref cT)))
    (aW : AnsIn K cW "words" cN cW cF cB cT true true false false false)
    (aF : AnsIn K cF "words" cN cW cF cB cT true false true false false)
    (aT : AnsIn K cT "tails" cN cW cF cB cT true false false false true)
    (i0 : PySem.W.findIn K (.ref cF) "__init__" = some (some (.builtin "object.__init__")))
    (m0 : ∃ f fd, MthIn K cW "__init__" "Words.__init__" Pl.c_Words_init f fd)
    (m1 : ∃ f fd, MthIn K cW "shows" "Words.shows" Pl.c_Words_shows f fd)
    (m2 : ∃ f fd, MthIn K cF "shows" "Full.shows" Pl.c_Full_shows f fd)
    (m3 : ∃ f fd, MthIn K cT "__init__" "Tails.__init__" Pl.c_Tails_init f fd)
    : ∃ fd : FuncData, (∀ (s : Shared) (v : Value), BindsTo s fd ⟨[v], []⟩ [("_law_script", v)]) ∧ ∀ base : Heap, K.In base → base.Ns mainGlobals mg → BM mg base → FnOk l.prog w K mg base CX0 6 fa fd ["_law_script"] (spLaw K T) := by
  have B : Bare mg := ⟨PySem.W.mg_none_of X G b0, PySem.W.mg_none_of X G b1, PySem.W.mg_none_of X G b2, PySem.W.mg_none_of X G b3, PySem.W.mg_none_of X G b4, PySem.W.mg_none_of X G b5, PySem.W.mg_none_of X G b6, PySem.W.mg_none_of X G b7, PySem.W.mg_none_of X G b8, PySem.W.mg_none_of X G b9, PySem.W.mg_none_of X G b10, PySem.W.mg_none_of X G b11, PySem.W.mg_none_of X G b12, PySem.W.mg_none_of X G b13, PySem.W.mg_none_of X G b14⟩
  have hmin : mg "min" = none := PySem.W.mg_none_of X G b15
  have hzip : mg "zip" = none := PySem.W.mg_none_of X G b16
  have hG : ∃ t, mg "LONGEST" = some (.int 100 t) := by
    obtain ⟨x, t, e, rfl⟩ := gG
    exact ⟨t, PySem.W.mg_of X G e⟩
  have L : ∃ t, mg "LETTERS" = some (.str "abcdefghijklmnopqrstuvwxyz" t) := by
    obtain ⟨x, t, e, rfl⟩ := gL
    exact ⟨t, PySem.W.mg_of X G e⟩
  have hE : ∃ t, mg "EMPTY" = some (.int 0 t) := by
    obtain ⟨x, t, e, rfl⟩ := gE
    exact ⟨t, PySem.W.mg_of X G e⟩
  have Z0 : Exc K mg "BadCode" c0 := ⟨PySem.W.mg_of X G r0.a, r0.ok⟩
  have D_is_whole := DefIn.is (ps := ["value"]) X G d0 fun _ _ _ _ _ _ us hl => match us, hl with | [_], _ => rfl
  have D_is_word := DefIn.is (ps := ["value", "letters"]) X G d1 fun _ _ _ _ _ _ us hl => match us, hl with | [_, _], _ => rfl
  have D_are_words := DefIn.is (ps := ["values", "letters"]) X G d2 fun _ _ _ _ _ _ us hl => match us, hl with | [_, _], _ => rfl
  have D_is_code := DefIn.is (ps := ["value"]) X G d3 fun _ _ _ _ _ _ us hl => match us, hl with | [_], _ => rfl
  have D_words_at := DefIn.is (ps := ["code", "places"]) X G d4 fun _ _ _ _ _ _ us hl => match us, hl with | [_, _], _ => rfl
  have D_check_code := DefIn.is (ps := ["value"]) X G d5 fun _ _ _ _ _ _ us hl => match us, hl with | [_], _ => rfl
  have D_grouped := DefIn.is (ps := ["words"]) X G d6 fun _ _ _ _ _ _ us hl => match us, hl with | [_], _ => rfl
  have D_standing := DefIn.is (ps := ["groups", "text", "mark"]) X G d7 fun _ _ _ _ _ _ us hl => match us, hl with | [_, _, _], _ => rfl
  have D_copied := DefIn.is (ps := ["value"]) X G d8 fun _ _ _ _ _ _ us hl => match us, hl with | [_], _ => rfl
  have D_none_begins_next := DefIn.is (ps := ["words"]) X G d9 fun _ _ _ _ _ _ us hl => match us, hl with | [_], _ => rfl
  have D_is_count := DefIn.is (ps := ["letters"]) X G d10 fun _ _ _ _ _ _ us hl => match us, hl with | [_], _ => rfl
  have D_are_lengths := DefIn.is (ps := ["values"]) X G d11 fun _ _ _ _ _ _ us hl => match us, hl with | [_], _ => rfl
  have D_spread := DefIn.is (ps := ["free", "letters", "steps", "enough"]) X G d12 fun _ _ _ _ _ _ us hl => match us, hl with | [_, _, _, _], _ => rfl
  have D_overfull := DefIn.is (ps := ["letters", "lengths"]) X G d13 fun _ _ _ _ _ _ us hl => match us, hl with | [_, _], _ => rfl
  have D_check_lengths := DefIn.is (ps := ["letters", "lengths"]) X G d14 fun _ _ _ _ _ _ us hl => match us, hl with | [_, _], _ => rfl
  have D_first_free := DefIn.is (ps := ["word", "letters"]) X G d15 fun _ _ _ _ _ _ us hl => match us, hl with | [_, _], _ => rfl
  have D_of_lengths := DefIn.is (ps := ["letters", "lengths"]) X G d16 fun _ _ _ _ _ _ us hl => match us, hl with | [_, _], _ => rfl
  have D_rest_numbers := DefIn.is (ps := ["code"]) X G d17 fun _ _ _ _ _ _ us hl => match us, hl with | [_], _ => rfl
  have D_first_rests := DefIn.is (ps := ["code", "groups", "place"]) X G d18 fun _ _ _ _ _ _ us hl => match us, hl with | [_, _, _], _ => rfl
  have D_take_new := DefIn.is (ps := ["known", "numbers", "rests"]) X G d19 fun _ _ _ _ _ _ us hl => match us, hl with | [_, _, _], _ => rfl
  have D_all_rests := DefIn.is (ps := ["code"]) X G d20 fun _ _ _ _ _ _ us hl => match us, hl with | [_], _ => rfl
  have D_once := DefIn.is (ps := ["code"]) X G d21 fun _ _ _ _ _ _ us hl => match us, hl with | [_], _ => rfl
  have D_law_words := DefIn.is (ps := ["_law_letters", "_law_lengths", "_law_words_here"]) X G d22 fun _ _ _ _ _ _ us hl => match us, hl with | [_, _, _], _ => rfl
  have D_law_full := DefIn.is (ps := ["_law_letters", "_law_lengths"]) X G d23 fun _ _ _ _ _ _ us hl => match us, hl with | [_, _], _ => rfl
  have DT := DefIn.table X G d24 hci hhd fun _ _ _ _ _ _ us hl => match us, hl with | [_], _ => rfl
  obtain ⟨g0, gd0, ga0, gf0, F0⟩ := m0
  have B0 := F0.binds (ps := ["self", "words"]) fun _ _ _ _ _ _ us hl => match us, hl with | [_, _], _ => rfl
  obtain ⟨g1, gd1, ga1, gf1, F1⟩ := m1
  have B1 := F1.binds (ps := ["self", "letters", "lengths"]) fun _ _ _ _ _ _ us hl => match us, hl with | [_, _, _], _ => rfl
  obtain ⟨g2, gd2, ga2, gf2, F2⟩ := m2
  have B2 := F2.binds (ps := ["self", "letters", "lengths"]) fun _ _ _ _ _ _ us hl => match us, hl with | [_, _, _], _ => rfl
  obtain ⟨g3, gd3, ga3, gf3, F3⟩ := m3
  have B3 := F3.binds (ps := ["self", "tails"]) fun _ _ _ _ _ _ us hl => match us, hl with | [_, _], _ => rfl
  obtain ⟨f, a, oc, od, kV, doc, pm, an, cdv, ct, osl, lk, c, k⟩ := d25
  have e := hfa.symm.trans (PySem.W.mg_of X G a)
  cases e
  have FL := fun_mk (x := "law") (qual := "law") (st := Pl.s_law) lk c k
  refine ⟨PySem.W.fnOf "law" "law" (defArgs Pl.s_law) (defBody Pl.s_law) (defScope Pl.s_law) .none kV doc pm an cdv ct, fun s v => .of_eq rfl, fun base XB _ M => ?_⟩
  have Cwhole := ok_is_whole (P := l.prog) (w := w) (base := base) D_is_whole B
  have Cword := ok_is_word (P := l.prog) (w := w) (base := base) D_is_word B
  have Cwords := ok_are_words D_are_words B Cword
  have Ccode := ok_is_code D_is_code L Cwords
  have Cwat := ok_words_at (P := l.prog) (w := w) (base := base) D_words_at
  have Cchk := ok_check_code D_check_code Z0 Ccode
  have Cgrp := ok_grouped (P := l.prog) (w := w) (base := base) D_grouped B
  have Cstd := ok_standing (P := l.prog) (w := w) (base := base) D_standing B
  have Ccop := ok_copied (P := l.prog) (w := w) (base := base) D_copied B
  have CcoG := ok_copiedG (P := l.prog) (w := w) (base := base) D_copied B
  have Cnon := ok_none_next (P := l.prog) (w := w) (base := base) D_none_begins_next hzip
  have Ccnt := ok_is_count D_is_count B L Cwhole
  have Clns := ok_are_lengths D_are_lengths B Cwhole
  have Cspr := ok_spread (P := l.prog) (w := w) (base := base) (K := K) D_spread hmin
  have Covr := ok_overfull D_overfull B Cspr
  have Ccle := ok_chk_lengths D_check_lengths B hG Ccnt Clns
  have Cfre := ok_first_free (P := l.prog) (w := w) (base := base) D_first_free L
  have Cord := ok_in_order (P := l.prog) (w := w) (DT base XB) B M
  have Crno := ok_rest_numbers (P := l.prog) (w := w) (base := base) D_rest_numbers B hE
  have Cfst := ok_first_rests D_first_rests Cstd
  have Ctak := ok_take_new (P := l.prog) (w := w) (base := base) D_take_new
  have Call := ok_all_rests D_all_rests B hE Cgrp Cord Cwat Crno Cfst Ctak
  have OW : Kls l.prog w K mg base "Words" cW ["words"] (spInitS cW "words") ["letters", "lengths"] (spShowsW cW) := ⟨PySem.W.mg_of X G tW, aW.cl, ⟨g0, gd0, ⟨aW.mak, ga0, gf0, aW.kp⟩, ok_initWords F0 aW.cl aW.na CcoG, B0⟩, ⟨g1, gd1, ⟨ga1, gf1, F1.kp⟩, ok_showsW F1 B L aW.cl aW.na Ccnt Clns Cwords Cnon, B1⟩⟩
  have CL : Clss5 l.prog w K mg base cN cW cF cB cT := ⟨OW, ⟨g2, gd2, ⟨ga2, gf2, F2.kp⟩, ok_showsF F2 Ccnt Clns Covr, B2⟩, aF.cl, aW.na, aW.ty, aF.ty, aT.ty, PySem.W.mg_of X G tN, PySem.W.mg_of X G tF, PySem.W.mg_of X G tB, PySem.W.mg_of X G tT, aW.kN, aW.kW, aW.kF, aW.kB, aW.kT, aF.kN, aF.kW, aF.kF, aF.kB, aF.kT, aT.kT⟩
  have Clen := ok_of_lengths D_of_lengths B L Ccle Cord Cfre OW ⟨aF.mak, i0, aF.kp⟩ (PySem.W.mg_of X G tF)
  have Conc := ok_once D_once hE Cchk Call (PySem.W.mg_of X G tT) ⟨g3, gd3, ⟨aT.mak, ga3, gf3, aT.kp⟩, ok_initTails F3 aT.cl aT.na Ccop, B3⟩
  have Lfu := ok_law_full (P := l.prog) (w := w) (base := base) D_law_full B
  have Lwo := ok_law_words (P := l.prog) (w := w) (base := base) D_law_words B
  exact ok_law5 FL B CL Clen Conc Lfu Lwo
end L2


set_option Elab.async false
set_option linter.all false
set_option maxRecDepth 100000
set_option maxHeartbeats 0
namespace L2
open PySem PySem.Spec PySem.W PyProof.Rows Tw
/-! ### the top's run, over trees: one look of the kernel's, no part of the heap is written out -/
/-- a step that is let by -/
def letT (tb : String → Option Builtin) (p : Program) (w : World) (m : Nat) (ann : Option Value) (x : SharedT × Thread) : Option (SharedT × Thread) := bif stepOk m ann x.2 then stepT (denote tb) p w x.1 x.2 else none
/-- steps until the top is through, k at the most -/
def runT (tb : String → Option Builtin) (p : Program) (w : World) (m : Nat) (ann : Option Value) (k : Nat) : SharedT × Thread → Option SharedT :=
  Nat.rec (fun _ => none) (fun _ more x => bif through x.2 then some x.1 else (letT tb p w m ann x).bind more) k
theorem letT_let {tb : String → Option Builtin} {p : Program} {w : World} {m : Nat} {ann : Option Value} {x y : SharedT × Thread} (h : letT tb p w m ann x = some y) : stepOk m ann x.2 = true ∧ step (denote tb) p w x.1.abs x.2 = .go y.1.abs y.2 := by
  unfold letT at h
  cases q : stepOk m ann x.2 <;> rw [q] at h
  · exact nomatch h
  · exact ⟨rfl, stepT_spec h⟩
theorem runT_spec {tb : String → Option Builtin} {p : Program} {w : World} {m : Nat} {ann : Option Value} {r : SharedT} (k : Nat) : ∀ x : SharedT × Thread, runT tb p w m ann k x = some r → topRun tb p w m ann k x.1.abs x.2 = some r.abs := by
  induction k with
  | zero => exact fun x h => nomatch h
  | succ k ih =>
    intro x h
    have h : (bif through x.2 then some x.1 else (letT tb p w m ann x).bind (runT tb p w m ann k)) = some r := h
    rw [topRun]
    cases q : through x.2 <;> rw [q] at h
    · obtain ⟨y, e1, e2⟩ := Option.bind_eq_some_iff.mp h
      obtain ⟨o1, o2⟩ := letT_let e1
      rw [o1, o2]
      exact ih y e2
    · exact congrArg some (congrArg SharedT.abs (Option.some.inj h))
noncomputable def bootT (P : Params) : BT := (.node (boot_o_0 P) (.node (boot_o_1 P) (.node (boot_o_3 P) (.node (boot_o_7 P) .nil .nil) .nil) (.node (boot_o_5 P) (.node (boot_o_9 P) .nil .nil) .nil)) (.node (boot_o_2 P) (.node (boot_o_4 P) (.node (boot_o_8 P) .nil .nil) .nil) (.node (boot_o_6 P) (.node (boot_o_10 P) .nil .nil) .nil)))
noncomputable def S0T (w : World) (os : OsState) : SharedT := ⟨bootT w.params, 11, {}, #[], boot_drawn, boot_toks, os⟩
theorem S0T_abs (w : World) (os : OsState) : (S0T w os).abs = ⟨boot_heap w.params, Array.mk [], boot_drawn, boot_toks, os⟩ := by kernel_rfl
noncomputable def topT (p : Program) (w : World) (os : OsState) : Option SharedT := runT treeTable p w 11 (some (.ref 6)) 20000 (S0T w os, topStub p)
noncomputable def okT (p : Program) (w : World) (s : Shared) : Bool := staticsOk (importedModules p.main.body) (boot_heap w.params) s.heap && namesBound p s.heap && gensDone s && laidKept (boot_heap w.params) s.heap
theorem shared_eq {a : Shared} {h : Heap} {g : Array GenState} {d : Drawn} {t : Nat} (e1 : h = a.heap) (e2 : g = a.gens) (e3 : d = a.drawn) (e4 : t = a.toks) : (⟨h, g, d, t, a.os⟩ : Shared) = a := by
  cases a
  subst e1 e2 e3 e4
  rfl
theorem ends_of {tb : String → Option Builtin} {p : Program} {w : World} {N m : Nat} {ann : Option Value} {a r : Shared} (ha : fencedOpening tb p w N = some a) (h1 : (a.heap.isNs mainGlobals && a.gens.size == 0) = true) (h2 : a.heap.objs.size = m) (h3 : a.heap.nsMap mainGlobals "__annotations__" = ann)
    (run : topRun tb p w m ann N a (topStub p) = some r) (ok : (staticsOk (importedModules p.main.body) a.heap r.heap && namesBound p r.heap && gensDone r && laidKept a.heap r.heap) = true) : openEnds tb p w N = some r := by
  subst h2 h3
  rw [openEnds, ha, Option.bind_some, topFrom, h1]
  dsimp only
  rw [run, Option.bind_some, ok]
theorem left_of {p q : Program} {Xt : Shared → Bool} {α : Type} {Yf : Shared → α} {Ya : World → α}
    (open_ : ∀ w : World, (fencedOpening treeTable p w 20000).map (fun s => (s.heap, s.gens, s.drawn, s.toks)) = some (boot_heap w.params, Array.mk [], boot_drawn, boot_toks))
    (size : ∀ w : World, ((boot_heap w.params).isNs mainGlobals && (Array.mk [] : Array GenState).size == 0, (boot_heap w.params).objs.size, (boot_heap w.params).nsMap mainGlobals "__annotations__") = (true, 11, some (.ref 6)))
    (h : ∀ w os, ∃ s, topT p w os = some s ∧ okT p w s.abs = true ∧ openSeen q [] (importedModules p.main.body) Xt true s.abs = openGood q [] ∧ Yf s.abs = Ya w) : LeftO p q [] Xt Yf Ya 20000 true := fun w => by
  obtain ⟨a, ea, eb⟩ := Option.map_eq_some_iff.mp (open_ w)
  have u1 : a.heap = boot_heap w.params := congrArg (·.1) eb
  have u2 : a.gens = Array.mk [] := congrArg (·.2.1) eb
  obtain ⟨s, r, l1, l2, l3⟩ := h w a.os
  have top := runT_spec _ _ r
  have e0 : (S0T w a.os).abs = a := (S0T_abs w a.os).trans (shared_eq u1.symm u2.symm (congrArg (·.2.2.1) eb).symm (congrArg (·.2.2.2) eb).symm)
  rw [show (S0T w a.os, topStub p).1.abs = a from e0] at top
  have ends := ends_of ea (by rw [u1, u2]; exact congrArg (·.1) (size w)) (by rw [u1]; exact congrArg (·.2.1) (size w)) (by rw [u1]; exact congrArg (·.2.2) (size w)) top (by rw [u1]; exact l1)
  rw [ends, Option.map_some, l2, l3]
theorem map_some {α β : Type} {x : Option α} {f : α → β} {b : β} (h : x.map f = some b) {s : α} (e : x = some s) : f s = b := by
  rw [e] at h
  exact Option.some.inj h
/-! ### all that stands in the heap -/
/-- a table of code: left out of what is known -/
def bareTab (o : Obj) : Bool := match o.cls with
  | .none => match o.data with
    | .fields _ => true
    | _ => false
  | _ => false
def fragL : Nat → List Obj → List (Addr × Obj)
  | _, [] => []
  | a, o :: os => match alive o with
    | some o' => bif bareTab o' then fragL (a + 1) os else (a, o') :: fragL (a + 1) os
    | none => fragL (a + 1) os
def fragH (h : Heap) : PySem.W.Frag := fragL 0 h.objs.toList
theorem fragL_at {a : Nat} {o : Obj} : ∀ {os : List Obj} {n : Nat}, (fragL n os).lookup a = some o → bareTab o = false ∧ ∃ o', n ≤ a ∧ os[a - n]? = some o' ∧ alive o' = some o
  | [], _, h => nomatch h
  | u :: os, n, h => by
    have go : (fragL (n + 1) os).lookup a = some o → bareTab o = false ∧ ∃ o', n ≤ a ∧ (u :: os)[a - n]? = some o' ∧ alive o' = some o := fun q => by
      obtain ⟨h0, o', h1, h2, h3⟩ := fragL_at q
      refine ⟨h0, o', by omega, ?_, h3⟩
      rw [show a - n = (a - (n + 1)) + 1 by omega]
      exact h2
    unfold fragL at h
    cases q : alive u with
    | none => rw [q] at h; exact go h
    | some u' =>
      rw [q] at h
      dsimp only at h
      cases y : bareTab u' with
      | true => rw [y] at h; exact go h
      | false =>
        rw [y, cond_false, List.lookup_cons] at h
        by_cases e : a = n
        · subst e
          rw [show (a == a) = true from beq_self_eq_true a] at h
          cases h
          exact ⟨y, u, Nat.le_refl _, by simp, q⟩
        · rw [show (a == n) = false from beq_false_of_ne e] at h
          exact go h
theorem fragH_no (h : Heap) {a : Addr} {o : Obj} (e : (fragH h).lookup a = some o) : bareTab o = false := (fragL_at e).1
theorem fragH_in (h : Heap) : (fragH h).In h := fun a o e => by
  obtain ⟨_, o', _, h2, h3⟩ := fragL_at e
  rw [Nat.sub_zero] at h2
  unfold Heap.get?
  rw [← Array.getElem?_toList, h2]
  show (match some o' with | some ⟨_, _, .freed, _⟩ => none | o => o) = some o
  rw [← h3]
  obtain ⟨c, d, dt, sl⟩ := o'
  cases dt <;> rfl
/-- the head of in_order's code -/
def hdSeen (K : PySem.W.Frag) : Bool := match codeOf K "in_order" with
  | some c => match K.lookup c with
    | some ⟨.type n, _, .fields vs, _⟩ => n == "code" && (match (vs[11]? : Option Value) with
      | some (.ref p) => c != p && (match vs.getD 11 .none with
        | .ref p' => p' == p
        | _ => false) && (match vs.getD 18 .none with
        | .str _ _ => true
        | _ => false) && (match vs.getD 7 .none with
        | .int _ _ => true
        | _ => false) && (match vs.getD 9 .none with
        | .bool _ => true
        | _ => false) && (match vs.getD 10 .none with
        | .int _ _ => true
        | _ => false)
      | _ => false)
    | _ => false
  | none => false
theorem hd_of {K : PySem.W.Frag} (h : hdSeen K = true) : ∃ c, codeOf K "in_order" = some c ∧ HdIn K c (tabP K) := by
  unfold hdSeen at h
  split at h
  next c ec =>
    refine ⟨c, ec, ?_⟩
    split at h
    next n od vs sl el =>
      rw [Bool.and_eq_true, beq_iff_eq] at h
      obtain ⟨rfl, h⟩ := h
      split at h
      next p ep =>
        have tp : tabP K = p := by
          unfold tabP
          rw [ec]
          dsimp only
          rw [el]
          dsimp only
          rw [ep]
        rw [tp]
        simp only [Bool.and_eq_true, bne_iff_ne, ne_eq] at h
        obtain ⟨⟨⟨⟨⟨h0, h1⟩, h2⟩, h3⟩, h4⟩, h5⟩ := h
        split at h1
        next p' e1 =>
          rw [beq_iff_eq] at h1
          subst h1
          split at h2
          next x2 t2 e2 =>
            split at h3
            next x3 t3 e3 =>
              split at h4
              next x4 e4 =>
                split at h5
                next x5 t5 e5 => exact fun h X => ⟨_, vs, x2, t2, x3, t3, x4, x5, t5, X _ _ el, rfl, rfl, ep, e1, e2, e3, e4, e5, h0⟩
                next => cases h5
              next => cases h4
            next => cases h3
          next => cases h2
        next => cases h1
      next => cases h
    next => cases h
  next => cases h
def tabNil (h : Heap) (a : Addr) : Bool := match h.get? a with
  | some ⟨.none, none, .fields vs, sl⟩ => vs.isEmpty && sl.isEmpty
  | _ => false
theorem tab_of {h : Heap} {a : Addr} (e : tabNil h a = true) : h.get? a = some { cls := .none, data := .fields #[] } := by
  unfold tabNil at e
  split at e
  next vs sl q =>
    rw [Bool.and_eq_true, Array.isEmpty_iff, Array.isEmpty_iff] at e
    rw [q, e.1, e.2]
  next => cases e
def bareFd (fd : FuncData) : FuncData := { fd with kwdefaults := .none, doc := .none, pyModule := .none, annotations := none, code := .none, closureTuple := .none }
def defSeen (K : PySem.W.Frag) (x : Str) : Option (FuncData × Bool) := match PySem.W.nsIn K mainGlobals x with
  | some (some (.ref f)) => match K.lookup f with
    | some ⟨_, _, .func fd, _⟩ => some (bareFd fd, PySem.W.codeIn K fd.code x && PySem.W.keepIn K (.ref f))
    | _ => none
  | _ => none
def defDue (x : Str) (st : Stmt) : Option (FuncData × Bool) := some (PySem.W.fnOf x x (defArgs st) (defBody st) (defScope st) .none .none .none .none none .none .none, true)
theorem DefIn.of_seen {K : PySem.W.Frag} {x : Str} {st : Stmt} (h : defSeen K x = defDue x st) : ∃ f, DefIn K x st f := by
  unfold defSeen defDue at h
  split at h
  next f e =>
    split at h
    next oc od fd osl l =>
      obtain ⟨e1, e2⟩ := Prod.mk.inj (Option.some.inj h)
      rw [Bool.and_eq_true] at e2
      obtain ⟨nm, qn, ps, bd, sc, gl, cl, df, kd, dc, pm, an, cd, ct, bl⟩ := fd
      unfold bareFd PySem.W.fnOf at e1
      simp only [FuncData.mk.injEq] at e1
      obtain ⟨rfl, rfl, rfl, rfl, rfl, rfl, rfl, rfl, _, _, _, _, _, _, rfl⟩ := e1
      exact ⟨f, e, oc, od, kd, dc, pm, an, cd, ct, osl, l, e2.1, e2.2⟩
    next => cases h
  next => cases h
def loneIn (K : PySem.W.Frag) (x : Str) : Bool := match PySem.W.nsIn K mainGlobals x with
  | some none => true
  | _ => false
theorem lone_of {K : PySem.W.Frag} {x : Str} (h : loneIn K x = true) : PySem.W.nsIn K mainGlobals x = some none := by
  unfold loneIn at h
  split at h
  · assumption
  · cases h
def adr (K : PySem.W.Frag) (x : Str) : Addr := match PySem.W.nsIn K mainGlobals x with
  | some (some (.ref a)) => a
  | _ => 0
def adrIn (K : PySem.W.Frag) (x : Str) : Bool := match PySem.W.nsIn K mainGlobals x with
  | some (some (.ref _)) => true
  | _ => false
theorem adr_of {K : PySem.W.Frag} {x : Str} (h : adrIn K x = true) : PySem.W.nsIn K mainGlobals x = some (some (.ref (adr K x))) := by
  unfold adrIn at h
  unfold adr
  split at h
  next a e => rw [e]
  next => cases h
def strIn (K : PySem.W.Frag) (x : Str) : Option Str := match PySem.W.nsIn K mainGlobals x with
  | some (some (.str y _)) => some y
  | _ => none
def intIn (K : PySem.W.Frag) (x : Str) : Option Int := match PySem.W.nsIn K mainGlobals x with
  | some (some (.int y _)) => some y
  | _ => none
theorem str_of {K : PySem.W.Frag} {x y : Str} (h : strIn K x = some y) : ∃ z t, PySem.W.nsIn K mainGlobals x = some (some (.str z t)) ∧ z = y := by
  unfold strIn at h
  split at h
  next z t e => exact ⟨z, t, e, Option.some.inj h⟩
  next => cases h
theorem int_of {K : PySem.W.Frag} {x : Str} {y : Int} (h : intIn K x = some y) : ∃ z t, PySem.W.nsIn K mainGlobals x = some (some (.int z t)) ∧ z = y := by
  unfold intIn at h
  split at h
  next z t e => exact ⟨z, t, e, Option.some.inj h⟩
  next => cases h
theorem at_ {α : Type} {l l' : List α} (h : l = l') (i : Nat) {a b : α} (ea : l[i]? = some a) (eb : l'[i]? = some b) : a = b := by
  rw [h, eb] at ea
  exact (Option.some.inj ea).symm
abbrev AS := List Bool × List (Option (Option Value)) × List (Option Bool)
def ansSeen (K : PySem.W.Frag) (x fld : Str) : AS :=
  ([PySem.W.plainGet K (adr K x) Str.empty, PySem.W.hasDictIn K (adr K x), PySem.W.plainOver K (adr K x), PySem.W.makesIn K (adr K x), PySem.W.keepIn K (.ref (adr K x))],
   [PySem.W.findIn K (.ref (adr K x)) "__setattr__", PySem.W.findIn K (.ref (adr K x)) fld, PySem.W.findIn K (.ref (adr K x)) "__class__", PySem.W.specialIn K (.builtin "object.__class__") "__get__"],
   [PySem.W.takesIn K (.builtin "object.__class__"), PySem.W.mroIn K (adr K x) (.type "object"), PySem.W.kitOne K (.ref (adr K x)) (.ref (adr K "Answer")), PySem.W.kitOne K (.ref (adr K x)) (.ref (adr K "Words")), PySem.W.kitOne K (.ref (adr K x)) (.ref (adr K "Full")), PySem.W.kitOne K (.ref (adr K x)) (.ref (adr K "Begins")), PySem.W.kitOne K (.ref (adr K x)) (.ref (adr K "Tails"))])
def ansDue (bN bW bF bB bT : Bool) : AS :=
  ([true, true, true, true, true], [some (some (.builtin "object.__setattr__")), some none, some (some (.builtin "object.__class__")), some (some (.builtin "getset_descriptor.__get__"))], [some true, some true, some bN, some bW, some bF, some bB, some bT])
theorem ans_of {K : PySem.W.Frag} {x fld : Str} {bN bW bF bB bT : Bool} (h : ansSeen K x fld = ansDue bN bW bF bB bT) : AnsIn K (adr K x) fld (adr K "Answer") (adr K "Words") (adr K "Full") (adr K "Begins") (adr K "Tails") bN bW bF bB bT := by
  obtain ⟨h1, h23⟩ := Prod.mk.inj h
  obtain ⟨h2, h3⟩ := Prod.mk.inj h23
  have cl : Cls K (adr K x) := ⟨at_ h1 0 rfl rfl, at_ h1 1 rfl rfl, at_ h1 2 rfl rfl, at_ h2 0 rfl rfl⟩
  exact ⟨cl, at_ h1 3 rfl rfl, at_ h1 4 rfl rfl, at_ h2 1 rfl rfl, ⟨cl, at_ h2 2 rfl rfl, at_ h2 3 rfl rfl, at_ h3 0 rfl rfl, at_ h3 1 rfl rfl⟩, at_ h3 2 rfl rfl, at_ h3 3 rfl rfl, at_ h3 4 rfl rfl, at_ h3 5 rfl rfl, at_ h3 6 rfl rfl⟩
def mthSeen (K : PySem.W.Frag) (x m qual : Str) : Option (FuncData × Bool) := match PySem.W.findIn K (.ref (adr K x)) m with
  | some (some (.ref f)) => match K.lookup f with
    | some ⟨_, _, .func fd, _⟩ => some (bareFd fd, PySem.W.codeIn K fd.code qual && PySem.W.keepIn K (.ref f) && PySem.W.isFn K (.ref f))
    | _ => none
  | _ => none
def mthDue (m qual : Str) (st : Stmt) : Option (FuncData × Bool) := some (PySem.W.fnOf m qual (defArgs st) (defBody st) (defScope st) .none .none .none .none none .none .none, true)
theorem mth_of {K : PySem.W.Frag} {x m qual : Str} {st : Stmt} (h : mthSeen K x m qual = mthDue m qual st) : ∃ f fd, MthIn K (adr K x) m qual st f fd := by
  unfold mthSeen mthDue at h
  split at h
  next f e =>
    split at h
    next oc od fd osl l =>
      obtain ⟨e1, e2⟩ := Prod.mk.inj (Option.some.inj h)
      rw [Bool.and_eq_true, Bool.and_eq_true] at e2
      obtain ⟨nm, qn, ps, bd, sc, gl, cl, df, kd, dc, pm, an, cd, ct, bl⟩ := fd
      unfold bareFd PySem.W.fnOf at e1
      simp only [FuncData.mk.injEq] at e1
      obtain ⟨rfl, rfl, rfl, rfl, rfl, rfl, rfl, rfl, _, _, _, _, _, _, rfl⟩ := e1
      exact ⟨f, _, e, e2.2, fun_mk l e2.1.1 e2.1.2⟩
    next => cases h
  next => cases h
abbrev SeenT := List (Option (FuncData × Bool)) × List Bool × Option Str × Option Int × Option Int × List AS × List (Option (FuncData × Bool)) × Option (Option Value) × Bool
def seenK (K : PySem.W.Frag) : SeenT :=
  ([defSeen K "is_whole",
    defSeen K "is_word",
    defSeen K "are_words",
    defSeen K "is_code",
    defSeen K "words_at",
    defSeen K "check_code",
    defSeen K "grouped",
    defSeen K "standing",
    defSeen K "copied",
    defSeen K "none_begins_next",
    defSeen K "is_count",
    defSeen K "are_lengths",
    defSeen K "spread",
    defSeen K "overfull",
    defSeen K "check_lengths",
    defSeen K "first_free",
    defSeen K "of_lengths",
    defSeen K "rest_numbers",
    defSeen K "first_rests",
    defSeen K "take_new",
    defSeen K "all_rests",
    defSeen K "once",
    defSeen K "_law_words",
    defSeen K "_law_full",
    defSeen K "in_order",
    defSeen K "law"],
   [loneIn K "isinstance", loneIn K "int", loneIn K "bool", loneIn K "str", loneIn K "list", loneIn K "dict", loneIn K "all", loneIn K "any", loneIn K "len", loneIn K "range", loneIn K "sorted", loneIn K "sum", loneIn K "enumerate", loneIn K "max", loneIn K "ValueError", loneIn K "min", loneIn K "zip", adrIn K "Answer", adrIn K "Words", adrIn K "Full", adrIn K "Begins", adrIn K "Tails", adrIn K "BadCode", PySem.W.excIn K (adr K "BadCode") bmVE "ValueError.__new__"],
   strIn K "LETTERS", intIn K "EMPTY", intIn K "LONGEST", [ansSeen K "Words" "words", ansSeen K "Full" "words", ansSeen K "Tails" "tails"], [mthSeen K "Words" "__init__" "Words.__init__", mthSeen K "Words" "shows" "Words.shows", mthSeen K "Full" "shows" "Full.shows", mthSeen K "Tails" "__init__" "Tails.__init__"], PySem.W.findIn K (.ref (adr K "Full")) "__init__", hdSeen K)
def seenDue : SeenT :=
  ([defDue "is_whole" Pl.s_is_whole,
    defDue "is_word" Pl.s_is_word,
    defDue "are_words" Pl.s_are_words,
    defDue "is_code" Pl.s_is_code,
    defDue "words_at" Pl.s_words_at,
    defDue "check_code" Pl.s_check_code,
    defDue "grouped" Pl.s_grouped,
    defDue "standing" Pl.s_standing,
    defDue "copied" Pl.s_copied,
    defDue "none_begins_next" Pl.s_none_begins_next,
    defDue "is_count" Pl.s_is_count,
    defDue "are_lengths" Pl.s_are_lengths,
    defDue "spread" Pl.s_spread,
    defDue "overfull" Pl.s_overfull,
    defDue "check_lengths" Pl.s_check_lengths,
    defDue "first_free" Pl.s_first_free,
    defDue "of_lengths" Pl.s_of_lengths,
    defDue "rest_numbers" Pl.s_rest_numbers,
    defDue "first_rests" Pl.s_first_rests,
    defDue "take_new" Pl.s_take_new,
    defDue "all_rests" Pl.s_all_rests,
    defDue "once" Pl.s_once,
    defDue "_law_words" Pl.s_law_words,
    defDue "_law_full" Pl.s_law_full,
    defDue "in_order" Pl.s_in_order,
    defDue "law" Pl.s_law],
   [true, true, true, true, true, true, true, true, true, true, true, true, true, true, true, true, true, true, true, true, true, true, true, true],
   some (Str.ofString "abcdefghijklmnopqrstuvwxyz"), some 0, some 100, [ansDue true true false false false, ansDue true false true false false, ansDue true false false false true], [mthDue "__init__" "Words.__init__" Pl.c_Words_init, mthDue "shows" "Words.shows" Pl.c_Words_shows, mthDue "shows" "Full.shows" Pl.c_Full_shows, mthDue "__init__" "Tails.__init__" Pl.c_Tails_init], some (some (.builtin "object.__init__")), true)
theorem seen_mk {l : PySem.W.OpenLaw} {w : World} {K : PySem.W.Frag} {h : Heap} {mg : Str → Option Value} {fa : Addr} (X : K.In h) (G : h.Ns mainGlobals mg) (hfa : mg "law" = some (.ref fa)) (S : seenK K = seenDue) :
    ∃ fd : FuncData, (∀ (s : Shared) (v : Value), BindsTo s fd ⟨[v], []⟩ [("_law_script", v)]) ∧ ∀ base : Heap, K.In base → base.Ns mainGlobals mg → BM mg base → FnOk l.prog w K mg base CX0 6 fa fd ["_law_script"] (spLaw K (tabP K)) := by
  obtain ⟨S1, S⟩ := Prod.mk.inj S
  obtain ⟨S2, S⟩ := Prod.mk.inj S
  obtain ⟨S3, S⟩ := Prod.mk.inj S
  obtain ⟨S4, S⟩ := Prod.mk.inj S
  obtain ⟨S8, S⟩ := Prod.mk.inj S
  obtain ⟨S5, S⟩ := Prod.mk.inj S
  obtain ⟨S6, S⟩ := Prod.mk.inj S
  obtain ⟨S9, S7⟩ := Prod.mk.inj S
  obtain ⟨ci, hci, hhd⟩ := hd_of S7
  exact all_mk X G hfa hci hhd (DefIn.of_seen (at_ S1 0 rfl rfl)) (DefIn.of_seen (at_ S1 1 rfl rfl)) (DefIn.of_seen (at_ S1 2 rfl rfl)) (DefIn.of_seen (at_ S1 3 rfl rfl)) (DefIn.of_seen (at_ S1 4 rfl rfl)) (DefIn.of_seen (at_ S1 5 rfl rfl)) (DefIn.of_seen (at_ S1 6 rfl rfl)) (DefIn.of_seen (at_ S1 7 rfl rfl)) (DefIn.of_seen (at_ S1 8 rfl rfl)) (DefIn.of_seen (at_ S1 9 rfl rfl)) (DefIn.of_seen (at_ S1 10 rfl rfl)) (DefIn.of_seen (at_ S1 11 rfl rfl)) (DefIn.of_seen (at_ S1 12 rfl rfl)) (DefIn.of_seen (at_ S1 13 rfl rfl)) (DefIn.of_seen (at_ S1 14 rfl rfl)) (DefIn.of_seen (at_ S1 15 rfl rfl)) (DefIn.of_seen (at_ S1 16 rfl rfl)) (DefIn.of_seen (at_ S1 17 rfl rfl)) (DefIn.of_seen (at_ S1 18 rfl rfl)) (DefIn.of_seen (at_ S1 19 rfl rfl)) (DefIn.of_seen (at_ S1 20 rfl rfl)) (DefIn.of_seen (at_ S1 21 rfl rfl)) (DefIn.of_seen (at_ S1 22 rfl rfl)) (DefIn.of_seen (at_ S1 23 rfl rfl)) (DefIn.of_seen (at_ S1 24 rfl rfl)) (DefIn.of_seen (at_ S1 25 rfl rfl))
    (lone_of (at_ S2 0 rfl rfl)) (lone_of (at_ S2 1 rfl rfl)) (lone_of (at_ S2 2 rfl rfl)) (lone_of (at_ S2 3 rfl rfl)) (lone_of (at_ S2 4 rfl rfl)) (lone_of (at_ S2 5 rfl rfl)) (lone_of (at_ S2 6 rfl rfl)) (lone_of (at_ S2 7 rfl rfl)) (lone_of (at_ S2 8 rfl rfl)) (lone_of (at_ S2 9 rfl rfl)) (lone_of (at_ S2 10 rfl rfl)) (lone_of (at_ S2 11 rfl rfl)) (lone_of (at_ S2 12 rfl rfl)) (lone_of (at_ S2 13 rfl rfl)) (lone_of (at_ S2 14 rfl rfl)) (lone_of (at_ S2 15 rfl rfl)) (lone_of (at_ S2 16 rfl rfl))
    (str_of S3) (int_of S4) (int_of S8) ⟨adr_of (at_ S2 22 rfl rfl), at_ S2 23 rfl rfl⟩
    (adr_of (at_ S2 17 rfl rfl)) (adr_of (at_ S2 18 rfl rfl)) (adr_of (at_ S2 19 rfl rfl)) (adr_of (at_ S2 20 rfl rfl)) (adr_of (at_ S2 21 rfl rfl)) (ans_of (at_ S5 0 rfl rfl)) (ans_of (at_ S5 1 rfl rfl)) (ans_of (at_ S5 2 rfl rfl)) S9
    (mth_of (at_ S6 0 rfl rfl)) (mth_of (at_ S6 1 rfl rfl)) (mth_of (at_ S6 2 rfl rfl)) (mth_of (at_ S6 3 rfl rfl))
def seenH (h : Heap) : SeenT × Bool := (seenK (fragH h), tabNil h (tabP (fragH h)))
noncomputable def hook : Hook where
  α := SeenT × Bool
  obs := fun s => seenH s.heap
  val := fun _ => (seenDue, true)
  says := fun _ h => ∃ K : PySem.W.Frag, K.In h ∧ (∀ a o, K.lookup a = some o → bareTab o = false) ∧ seenK K = seenDue ∧ h.get? (tabP K) = some { cls := .none, data := .fields #[] }
  of := fun _ s e => ⟨fragH s.heap, fragH_in _, fun _ _ q => fragH_no _ q, (Prod.mk.inj e).1, tab_of (Prod.mk.inj e).2⟩
  keeps := fun _ _ _ ⟨K, x, n, e, t⟩ k => ⟨K, x.keeps k, n, e, k _ _ t⟩
theorem walk2 {l : PySem.W.OpenLaw} {q : Program} {loose : List Str} {XP : (Str → Option Value) → Heap → Prop} {d : DefRec} (hn : l.most = some 63) (hdf : d.params.defaults = []) (hnm : d.name = "law") :
    PySem.W.WalkO q loose XP hook.says l.row.toRowW d [] (fun f vs => PySem.call f vs) := by
  refine Att.attach_call hn hdf fun w s₀ s₁ mg mb fa o pm cd doc a vs ns G Y ho hd hcd hmg hobj hints hlen hg => ?_
  obtain ⟨K, KX, KN, S, hT⟩ := Y
  rw [hnm] at hmg
  obtain ⟨fd, hb, hF⟩ := seen_mk (l := l) (w := w) KX G.T.g hmg S
  obtain ⟨ci, _, hhd⟩ := hd_of (K := K) (Prod.mk.inj (Prod.mk.inj (Prod.mk.inj (Prod.mk.inj (Prod.mk.inj (Prod.mk.inj (Prod.mk.inj (Prod.mk.inj S).2).2).2).2).2).2).2).2
  have C := hhd.hd KX
  have KT : K.lookup (tabP K) = none := by
    cases z : K.lookup (tabP K) with
    | none => rfl
    | some u =>
      have e := KX _ _ z
      rw [hT] at e
      cases e
      exact nomatch KN _ _ z
  have tab : isCodeTable s₁.heap (tabP K) := let ⟨o, vs, _, _, _, _, _, _, _, e1, e2, e3, e4, _⟩ := C; ⟨ci, o, vs, e1, e2, e3, e4⟩
  exact law_callT (sp := spLaw K (tabP K)) (CX := CX0) (k := 6) KX G.T.g G.T.b G.T.builtins G.T.nolimit hg hobj hints (Nat.le_trans hlen (by decide)) ⟨rfl, by decide, by decide⟩ KT hT tab G.T.bmain hF hb (fun H hP hS => ⟨a, ns, rfl, hS, hlen, .inl hP, fun _ => rfl⟩) fun _ _ _ z => z
noncomputable def look0 (p q : Program) (R : WRecords) (w : World) (os : OsState) := (topT p w os).map fun s => (okT p w s.abs, s.abs.heap.bltView)
theorem look0_r : look0 = look0 := rfl
name_quick look0Q for L2.look0 by L2.look0_r
noncomputable def look1 (p q : Program) (R : WRecords) (w : World) (os : OsState) := (topT p w os).map fun s => seen ((recsOf q).map (·.name)) (ownsOf q) [] { s.abs with gens := #[] }
theorem look1_r : look1 = look1 := rfl
name_quick look1Q for L2.look1 by L2.look1_r
noncomputable def look2 (p q : Program) (R : WRecords) (w : World) (os : OsState) := (topT p w os).map fun s => (openSeen q [] (importedModules p.main.body) (fun s => xlAt q [] s && recOk R s) true s.abs).2.2.1
theorem look2_r : look2 = look2 := rfl
name_quick look2Q for L2.look2 by L2.look2_r
noncomputable def look3 (p q : Program) (R : WRecords) (w : World) (os : OsState) := (topT p w os).map fun s => tabsOk q s.abs
theorem look3_r : look3 = look3 := rfl
name_quick look3Q for L2.look3 by L2.look3_r
noncomputable def look4 (p q : Program) (R : WRecords) (w : World) (os : OsState) := (topT p w os).map fun s => (pinSeenD q (drecsOf q) s.abs, plainSeenD q [] s.abs, clsSeenW q [] s.abs)
theorem look4_r : look4 = look4 := rfl
name_quick look4Q for L2.look4 by L2.look4_r
noncomputable def look5 (p q : Program) (R : WRecords) (w : World) (os : OsState) := (topT p w os).map fun s => plainSeenE q (looseW q []) s.abs
theorem look5_r : look5 = look5 := rfl
name_quick look5Q for L2.look5 by L2.look5_r
noncomputable def look6 (p q : Program) (R : WRecords) (w : World) (os : OsState) := (topT p w os).map fun s => wideSeen q s.abs
theorem look6_r : look6 = look6 := rfl
name_quick look6Q for L2.look6 by L2.look6_r
noncomputable def look7 (p q : Program) (R : WRecords) (w : World) (os : OsState) := (topT p w os).map fun s => seenH s.abs.heap
theorem look7_r : look7 = look7 := rfl
name_quick look7Q for L2.look7 by L2.look7_r
end L2


set_option Elab.async false
set_option linter.all false
set_option maxRecDepth 100000
set_option maxHeartbeats 0
namespace L2
open PySem PySem.Spec PySem.W PyProof.Rows Tw
def vw : Program := view PySem.Challenge.pw_tworeadings_k05_whole_lengths [1, 2, 3, 5, 6, 7, 8, 9, 10, 11, 12, 13, 14, 15, 16, 17, 18, 19, 20, 21, 23, 24, 25, 26, 27, 28, 29, 30, 31, 32, 33, 34, 35, 36, 37, 39, 40, 41, 42, 44, 45, 46, 47, 48, 49, 50, 51, 52, 54, 55, 56]
def XtL : Shared → Bool := fun s => xlAt vw [] s && recOk (RowW.records PySem.Challenge.rw_tworeadings_k05_whole_lengths.row.toRowW) s
theorem hop (w : World) : (fencedOpening treeTable PySem.Challenge.pw_tworeadings_k05_whole_lengths w 20000).map (fun s => (s.heap, s.gens, s.drawn, s.toks)) = some (boot_heap w.params, Array.mk [], boot_drawn, boot_toks) := boot_open (by kernel_rfl) (by decide) (fun s => by kernel_rfl) w
theorem hsz (w : World) : ((boot_heap w.params).isNs mainGlobals && (Array.mk [] : Array GenState).size == 0, (boot_heap w.params).objs.size, (boot_heap w.params).nsMap mainGlobals "__annotations__") = (true, 11, some (.ref 6)) := by kernel_rfl
theorem look0_q (w : World) (os : OsState) : PySem.W.Fast.look0Q PySem.Challenge.pw_tworeadings_k05_whole_lengths vw (RowW.records PySem.Challenge.rw_tworeadings_k05_whole_lengths.row.toRowW) w os = some ((true, bltViewBooted)) := by kernel_rfl
theorem look1_q (w : World) (os : OsState) : PySem.W.Fast.look1Q PySem.Challenge.pw_tworeadings_k05_whole_lengths vw (RowW.records PySem.Challenge.rw_tworeadings_k05_whole_lengths.row.toRowW) w os = some (expectedOf vw) := by kernel_rfl
theorem look2_q (w : World) (os : OsState) : PySem.W.Fast.look2Q PySem.Challenge.pw_tworeadings_k05_whole_lengths vw (RowW.records PySem.Challenge.rw_tworeadings_k05_whole_lengths.row.toRowW) w os = some (true) := by kernel_rfl
theorem look3_q (w : World) (os : OsState) : PySem.W.Fast.look3Q PySem.Challenge.pw_tworeadings_k05_whole_lengths vw (RowW.records PySem.Challenge.rw_tworeadings_k05_whole_lengths.row.toRowW) w os = some (true) := by kernel_rfl
theorem look4_q (w : World) (os : OsState) : PySem.W.Fast.look4Q PySem.Challenge.pw_tworeadings_k05_whole_lengths vw (RowW.records PySem.Challenge.rw_tworeadings_k05_whole_lengths.row.toRowW) w os = some ((pinGoodD (drecsOf vw), plainGoodD vw [], clsGoodW vw [])) := by kernel_rfl
theorem look5_q (w : World) (os : OsState) : PySem.W.Fast.look5Q PySem.Challenge.pw_tworeadings_k05_whole_lengths vw (RowW.records PySem.Challenge.rw_tworeadings_k05_whole_lengths.row.toRowW) w os = some (plainGoodE vw (looseW vw [])) := by kernel_rfl
theorem look6_q (w : World) (os : OsState) : PySem.W.Fast.look6Q PySem.Challenge.pw_tworeadings_k05_whole_lengths vw (RowW.records PySem.Challenge.rw_tworeadings_k05_whole_lengths.row.toRowW) w os = some (wideGood vw) := by kernel_rfl
theorem look7_q (w : World) (os : OsState) : PySem.W.Fast.look7Q PySem.Challenge.pw_tworeadings_k05_whole_lengths vw (RowW.records PySem.Challenge.rw_tworeadings_k05_whole_lengths.row.toRowW) w os = some ((seenDue, true)) := by kernel_rfl
theorem left : LeftO PySem.Challenge.pw_tworeadings_k05_whole_lengths vw [] XtL hook.obs hook.val 20000 true := left_of hop hsz fun w os => by
  have h0 := look0_q w os
  rw [← PySem.W.Fast.look0Q_eq] at h0
  have h1 := look1_q w os
  rw [← PySem.W.Fast.look1Q_eq] at h1
  have h2 := look2_q w os
  rw [← PySem.W.Fast.look2Q_eq] at h2
  have h3 := look3_q w os
  rw [← PySem.W.Fast.look3Q_eq] at h3
  have h4 := look4_q w os
  rw [← PySem.W.Fast.look4Q_eq] at h4
  have h5 := look5_q w os
  rw [← PySem.W.Fast.look5Q_eq] at h5
  have h6 := look6_q w os
  rw [← PySem.W.Fast.look6Q_eq] at h6
  have h7 := look7_q w os
  rw [← PySem.W.Fast.look7Q_eq] at h7
  obtain ⟨s, e, l0⟩ := Option.map_eq_some_iff.mp h0
  obtain ⟨a0, a1⟩ := Prod.mk.inj l0
  obtain ⟨b0, b1⟩ := Prod.mk.inj (map_some h4 e)
  obtain ⟨b1, b2⟩ := Prod.mk.inj b1
  exact ⟨s, e, a0, Prod.ext (map_some h1 e) (Prod.ext a1 (Prod.ext (map_some h2 e) (Prod.ext (map_some h3 e) (Prod.ext b0 (Prod.ext (map_some h5 e) (Prod.ext b1 (Prod.ext (map_some h6 e) b2))))))), map_some h7 e⟩
end L2
open PySem PySem.W PyProof.Rows
theorem PySem.Challenge.cw_tworeadings_k05_whole_lengths_holds : PySem.Challenge.rw_tworeadings_k05_whole_lengths.Holds := by
  w_on; o_law
  refine holds_open (q := L2.vw) (loose := []) (Xt := L2.XtL) (XP := XL L2.vw []) (Yf := Hook.obs L2.hook) (Ya := Hook.val L2.hook) (YP := Hook.says L2.hook) (N := 20000) L2.left (Hook.of L2.hook) (Hook.keeps L2.hook) (fun s e => xl_of s (Bool.and_eq_true_iff.mp e).1) XL.keeps (by rfl) (by rfl) (by rfl)
    (fun s e => recFacts_of (Bool.and_eq_true_iff.mp e).2) (by rfl) (by first | assumption | decide +kernel) (by decide +kernel) ⟨rfl, rfl, rfl, rfl, rfl, by decide +kernel⟩ ?hw ?hc
  case hw => w_witness2
  case hc => exact L2.walk2 (l := PySem.Challenge.rw_tworeadings_k05_whole_lengths) rfl rfl rfl

