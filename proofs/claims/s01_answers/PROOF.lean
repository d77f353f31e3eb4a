import PyProof.Rows.All
import Wide.All
import OpenK.AllK
import Wide.FinOn
import PyProof.EqAt
import PyProof.EqKinds
import PyProof.TupleCall
import KE.BitLaws
import Open.SpecLaws
import KE.OsHead
import KE.OsGo
import PySem.Challenge.RW_ageclasses_s01_answers
set_option Elab.async false
set_option linter.all false
set_option maxRecDepth 100000
/-! THE HAND LAYER, for ints, bools, texts, own classes, lists, tuples, dicts, comprehensions, walks over dicts, enumerate, zip, reversed, texts, calls, loops. Paste it whole ahead of your own text; what your proof does not reach may be deleted. -/
namespace L2
open PySem PySem.Spec PyProof.Rows
/-- a key: an int or a str -/
abbrev Key := Sum Int Str
def keyIs : Key → Value → Bool
  | .inl k, v => Value.isInt k v
  | .inr x, v => Value.isStrOf x v
def keyH (w : World) : Key → Int
  | .inl k => hashInt k
  | .inr x => hashStr w x
theorem keyIs_shape : ∀ {k : Key} {v : Value}, keyIs k v = true → (∃ i t, k = Sum.inl i ∧ v = Value.int i t) ∨ (∃ x t, k = Sum.inr x ∧ v = Value.str x t)
  | .inl i, v, h => by
    obtain ⟨t, e⟩ := Value.isInt_shape (k := i) (v := v) h
    exact .inl ⟨i, t, rfl, e⟩
  | .inr x, v, h => by
    obtain ⟨t, e⟩ := Value.isStrOf_shape (x := x) (v := v) h
    exact .inr ⟨x, t, rfl, e⟩
theorem key_ll (a b : Int) : decide ((Sum.inl a : Key) = Sum.inl b) = (a == b) := by
  by_cases e : a = b
  · subst e; simp
  · have h : ¬ (Sum.inl a : Key) = Sum.inl b := fun q => e (Sum.inl.inj q)
    rw [decide_eq_false h]
    exact (beq_eq_false_iff_ne.mpr e).symm
theorem key_rr (a b : Str) : decide ((Sum.inr a : Key) = Sum.inr b) = decide (a = b) := by
  by_cases e : a = b
  · subst e; simp
  · have h : ¬ (Sum.inr a : Key) = Sum.inr b := fun q => e (Sum.inr.inj q)
    rw [decide_eq_false h, decide_eq_false e]
theorem key_lr (a : Int) (b : Str) : decide ((Sum.inl a : Key) = Sum.inr b) = false := decide_eq_false (fun q => nomatch q)
theorem key_rl (a : Str) (b : Int) : decide ((Sum.inr a : Key) = Sum.inl b) = false := decide_eq_false (fun q => nomatch q)
def mixKind (prog : Program) (w : World) : PySem.KeyKind prog w Key where
  is := keyIs
  hash := keyH w
  inj := fun v a b ha hb => by
    rcases keyIs_shape ha with ⟨i, t, rfl, rfl⟩ | ⟨x, t, rfl, rfl⟩
    · rcases keyIs_shape hb with ⟨j, u, rfl, e⟩ | ⟨y, u, rfl, e⟩
      · injection e with e1 _; rw [e1]
      · exact nomatch e
    · rcases keyIs_shape hb with ⟨j, u, rfl, e⟩ | ⟨y, u, rfl, e⟩
      · exact nomatch e
      · injection e with e1 _; rw [e1]
  byValue := fun k v h => by
    rcases keyIs_shape h with ⟨i, t, rfl, rfl⟩ | ⟨x, t, rfl, rfl⟩ <;> rfl
  pyHash := fun hv h => by
    rcases keyIs_shape hv with ⟨i, t, rfl, rfl⟩ | ⟨x, t, rfl, rfl⟩
    · exact wpAny_pyHash_int h
    · exact wpAny_pyHash_str h
  eqBool := fun hu hv h => by
    rcases keyIs_shape hu with ⟨i, t, rfl, rfl⟩ | ⟨x, t, rfl, rfl⟩
    · rcases keyIs_shape hv with ⟨j, u, rfl, rfl⟩ | ⟨y, u, rfl, rfl⟩
      · rw [key_ll] at h; exact wpAny_eqBool_int h
      · rw [key_lr] at h; exact SeqAt.EqAt.int_str i t y u _ _ _ _ h
    · rcases keyIs_shape hv with ⟨j, u, rfl, rfl⟩ | ⟨y, u, rfl, rfl⟩
      · rw [key_rl] at h; exact SeqAt.EqAt.str_int x t j u _ _ _ _ h
      · rw [key_rr] at h; exact wpAny_eqBool_str h
  «strs» := fun k x t v h => by
    rcases keyIs_shape h with ⟨i, u, rfl, e⟩ | ⟨y, u, rfl, e⟩
    · exact nomatch e
    · injection e with e1 _
      subst e1
      cases v <;> rfl
end L2
namespace L2
open PySem PySem.Spec PyProof.Rows
/-- a value, without the heap -/
inductive V where
  | non | bl (b : Bool) | int (i : Int) | str (x : Str) | byt (b : Array UInt8) | flt (b : UInt64) | ref (a : Addr) | ty (n : String)
  deriving DecidableEq
def RelV : V → Value → Prop
  | .non, u => u = Value.none
  | .bl b, u => u = Value.bool b
  | .int i, u => ∃ t, u = Value.int i t
  | .str x, u => ∃ t, u = Value.str x t
  | .byt b, u => ∃ t, u = Value.bytes b t
  | .flt b, u => ∃ t, u = Value.float b t
  | .ref a, u => u = Value.ref a
  | .ty n, u => u = Value.type n
abbrev Vals : List V → List Value → Prop := Paired RelV
theorem Vals.length {xs : List V} {us : List Value} (r : Vals xs us) : xs.length = us.length := Paired.length r
theorem Vals.get : ∀ {xs : List V} {us : List Value} {i : Nat} {x : V}, Vals xs us → xs[i]? = some x → ∃ u, us[i]? = some u ∧ RelV x u
  | _, _, _, _, .nil, e => by simp at e
  | _, _, 0, _, .cons r _, e => by simp at e; subst e; exact ⟨_, rfl, r⟩
  | _, _, i + 1, x, .cons _ t, e => by
    obtain ⟨u, h1, h2⟩ := Vals.get (i := i) (x := x) t (by simpa using e)
    exact ⟨u, by simpa using h1, h2⟩
theorem Vals.set {x : V} {u : Value} (r : RelV x u) : ∀ {xs : List V} {us : List Value} (i : Nat), Vals xs us → Vals (xs.set i x) (us.set i u)
  | _, _, _, .nil => .nil
  | _, _, 0, .cons _ t => .cons r t
  | _, _, i + 1, .cons q t => .cons q (Vals.set r i t)
theorem Vals.append : ∀ {xs ys : List V} {us ws : List Value}, Vals xs us → Vals ys ws → Vals (xs ++ ys) (us ++ ws)
  | _, _, _, _, .nil, s => s
  | _, _, _, _, .cons r t, s => .cons r (Vals.append t s)
theorem Vals.take : ∀ {xs : List V} {us : List Value} (n : Nat), Vals xs us → Vals (xs.take n) (us.take n)
  | _, _, 0, _ => .nil
  | _, _, _ + 1, .nil => .nil
  | _, _, n + 1, .cons r t => .cons r (Vals.take n t)
theorem Vals.drop : ∀ {xs : List V} {us : List Value} (n : Nat), Vals xs us → Vals (xs.drop n) (us.drop n)
  | _, _, 0, r => r
  | _, _, _ + 1, .nil => .nil
  | _, _, n + 1, .cons _ t => Vals.drop n t
def RelO : Option V → Option Value → Prop
  | some v, some u => RelV v u
  | none, none => True
  | _, _ => False
def KV {κ : Type} : List (κ × V) → List (κ × Value) → Prop := Paired fun (p : κ × V) (q : κ × Value) => p.1 = q.1 ∧ RelV p.2 q.2
/-- a key of a dict (00_mix): an int or a text -/
def kV : Key → V
  | .inl i => .int i
  | .inr x => .str x
/-- what stands at a tracked address -/
inductive HO where
  /-- a list -/
  | lst (xs : List V)
  /-- a tuple (never changes) -/
  | tup (xs : List V)
  /-- a dict whose keys are ints and texts; one whose keys are tuples of ints and texts (the empty one is both) -/
  | dK (kvs : List (Key × V)) | dT (kvs : List (List Key × V))
  /-- a set of ints: its members, its size -/
  | set (S : Int → Bool) (n : Nat)
  /-- an instance of the class at C, its dict at dx, its attributes -/
  | ins (C dx : Addr) (fs : List (Str × V))
  /-- the dict of the instance at x -/
  | own (x : Addr)
  /-- the dict of an exception -/
  | xd (fs : List (Str × V))
  /-- a bound method, f of x -/
  | met (f x : Addr)
  /-- a range object lo, lo + 1, .. below hi -/
  | rng (lo hi : Int)
  /-- a thing that is known to the object (the script; a dict while a loop walks it): read, never written while it is so -/
  | frz (o : Obj) (u : HO)
  /-- a code object's table -/
  | tbl (ps : Array Value)
  /-- any other thing, by what is true of its one object (a def of one's own: SetO a S n := HO.ext fun h => ..) -/
  | ext (φ : Heap → Prop)
abbrev Hp := Addr → Option HO
def upd (H : Hp) (a : Addr) (o : HO) : Hp := fun b => if b = a then some o else H b
theorem upd_same {H : Hp} {a : Addr} {o : HO} : upd H a o a = some o := by unfold upd; rw [if_pos rfl]
theorem upd_ne {H : Hp} {a b : Addr} {o : HO} (h : b ≠ a) : upd H a o b = H b := by unfold upd; rw [if_neg h]
theorem upd_upd {H : Hp} {a : Addr} {o u : HO} : upd (upd H a o) a u = upd H a u := by
  funext b; unfold upd; split <;> rfl
/-- two objects of different content stand apart -/
theorem ne_of {H : Hp} {a b : Addr} {o u : HO} (h : H a = some o) (h' : H b = some u) (d : o ≠ u) : a ≠ b := by
  intro e; subst e; rw [h] at h'; exact d (Option.some.inj h')
theorem ne_of_none {H : Hp} {a b : Addr} {o : HO} (h : H a = some o) (h' : H b = none) : a ≠ b := by
  intro e; subst e; rw [h] at h'; cases h'
section
variable (P : Program) (w : World)
def ObjOk (H : Hp) (h : Heap) (a : Addr) : HO → Prop
  | .lst xs => xs.length ≤ sizeLine ∧ ∃ (its : List Value) (n : Nat), Vals xs its ∧ h.get? a = some { cls := .type "list", data := .seq its.toArray n }
  | .tup xs => xs.length ≤ sizeLine ∧ ∃ its : List Value, Vals xs its ∧ IsTup h a its.toArray
  | .dK kvs => kvs.length ≤ sizeLine ∧ (a == sysModules) = false ∧ ∃ vs, KV kvs vs ∧ h.DictOf (mixKind P w) a vs
  | .dT kvs => kvs.length ≤ sizeLine ∧ (a == sysModules) = false ∧ ∃ xs : List (List Key × Addr × Value),
      Paired (fun (p : List Key × V) (q : List Key × Addr × Value) => p.1 = q.1 ∧ H q.2.1 = some (.tup (p.1.map kV)) ∧ RelV p.2 q.2.2) kvs xs ∧
      ∃ o es ep, h.get? a = some o ∧ o.ExactDict ∧ o.data = .dict es ep ∧ es.toList = xs.map (entryOfKey (tupleKind (mixKind P w))) ∧ (xs.map (·.1)).Nodup
  | .set S n => h.SetOf (intKind P w) a S n
  | .ins C dx fs => H dx = some (.own a) ∧ fs.length ≤ 1000 ∧ dx ≠ a ∧ h.get? a = some (PySem.W.instObj C dx) ∧
      ∃ mA, h.Ns1 dx mA ∧ (∀ f, RelO (fs.lookup f) (mA f)) ∧ PySem.Within mA (fs.map (·.1))
  | .own _ => ∃ o, h.get? a = some o
  | .xd fs => ∃ mA, h.Ns1 a mA ∧ ∀ f, RelO (fs.lookup f) (mA f)
  | .rng lo hi => ∃ t u v, h.get? a = some { cls := .type "range", data := .fields #[.int lo t, .int hi u, .int 1 v] }
  | .frz o u => h.get? a = some o ∧ ObjOk H h a u
  | .tbl ps => h.get? a = some { cls := .none, data := .fields ps }
  | .met f x => h.get? a = some (PySem.W.methodObj (.ref f) (.ref x))
  | .ext φ => φ h ∧ (∃ o, h.get? a = some o) ∧ ∀ h1 h2 : Heap, φ h1 → (∀ o, h1.get? a = some o → h2.get? a = some o) → φ h2
/-- the abstract heap is held -/
def HOk (H : Hp) (h : Heap) : Prop := ∀ a o, H a = some o → ObjOk P w H h a o
end
section
variable {P : Program} {w : World} {H H' : Hp} {h h' : Heap} {a : Addr} {o : HO}
theorem ObjOk.lt (x : ObjOk P w H h a o) : a < h.objs.size := by
  cases o with
  | lst xs => obtain ⟨_, _, _, _, e⟩ := x; exact Heap.lt_size e
  | tup xs => obtain ⟨_, _, _, p⟩ := x; exact p.lt
  | dK kvs => obtain ⟨_, _, _, _, o, _, _, e, _⟩ := x; exact Heap.lt_size e
  | dT kvs => obtain ⟨_, _, _, _, o, _, _, e, _⟩ := x; exact Heap.lt_size e
  | set S n => obtain ⟨o, _, _, _, e, _⟩ := x; exact Heap.lt_size e
  | ins C dx fs => obtain ⟨_, _, _, e, _⟩ := x; exact Heap.lt_size e
  | own y => obtain ⟨_, e⟩ := x; exact Heap.lt_size e
  | xd fs => obtain ⟨_, ⟨_, _, _, e, _⟩, _⟩ := x; exact Heap.lt_size e
  | rng lo hi => obtain ⟨_, _, _, e⟩ := x; exact Heap.lt_size e
  | frz ob u => obtain ⟨e, _⟩ := x; exact Heap.lt_size e
  | tbl ps => exact Heap.lt_size (show h.get? a = some _ from x)
  | met f y => exact Heap.lt_size (show h.get? a = some _ from x)
  | ext φ => obtain ⟨_, ⟨_, e⟩, _⟩ := x; exact Heap.lt_size e
theorem Paired.mapP {α β : Type} {F G : α → β → Prop} : ∀ {l₁ : List α} {l₂ : List β}, Paired F l₁ l₂ → (∀ a b, F a b → G a b) → Paired G l₁ l₂
  | _, _, .nil, _ => .nil
  | _, _, .cons r t, f => .cons (f _ _ r) (Paired.mapP t f)
/-- what an object's description leans on: its own object, its own dict, the tuples -/
theorem ObjOk.stay (x : ObjOk P w H h a o) (k : ∀ b u, (b = a ∨ H b = some (.own a)) → h.get? b = some u → h'.get? b = some u)
    (ho : ∀ b, H b = some (.own a) → H' b = some (.own a)) (ht : ∀ b xs, H b = some (.tup xs) → H' b = some (.tup xs)) : ObjOk P w H' h' a o := by
  induction o with
  | lst xs => obtain ⟨z, its, n, r, e⟩ := x; exact ⟨z, its, n, r, k _ _ (.inl rfl) e⟩
  | tup xs => obtain ⟨z, its, r, ob, e, c⟩ := x; exact ⟨z, its, r, ob, k _ _ (.inl rfl) e, c⟩
  | dK kvs => obtain ⟨z, y, vs, r, ob, es, ep, e, c⟩ := x; exact ⟨z, y, vs, r, ob, es, ep, k _ _ (.inl rfl) e, c⟩
  | dT kvs =>
    obtain ⟨z, y, xs, r, ob, es, ep, e, c⟩ := x
    exact ⟨z, y, xs, Paired.mapP r fun p q z => ⟨z.1, ht _ _ z.2.1, z.2.2⟩, ob, es, ep, k _ _ (.inl rfl) e, c⟩
  | set S n => obtain ⟨ob, es, ep, t, e, c⟩ := x; exact ⟨ob, es, ep, t, k _ _ (.inl rfl) e, c⟩
  | ins C dx fs =>
    obtain ⟨d, z, ne, e, mA, ⟨od, es, ep, e2, c⟩, r⟩ := x
    exact ⟨ho _ d, z, ne, k _ _ (.inl rfl) e, mA, ⟨od, es, ep, k _ _ (.inr d) e2, c⟩, r⟩
  | own y => obtain ⟨ob, e⟩ := x; exact ⟨ob, k _ _ (.inl rfl) e⟩
  | xd fs => obtain ⟨mA, ⟨od, es, ep, e, c⟩, r⟩ := x; exact ⟨mA, ⟨od, es, ep, k _ _ (.inl rfl) e, c⟩, r⟩
  | rng lo hi => obtain ⟨t, u, v, e⟩ := x; exact ⟨t, u, v, k _ _ (.inl rfl) e⟩
  | frz ob u ih => obtain ⟨e, q⟩ := x; exact ⟨k _ _ (.inl rfl) e, ih q⟩
  | tbl ps =>
    have e : h.get? a = some { cls := .none, data := .fields ps } := x
    show h'.get? a = some { cls := .none, data := .fields ps }
    exact k a _ (.inl rfl) e
  | met f y =>
    have e : h.get? a = some (PySem.W.methodObj (.ref f) (.ref y)) := x
    show h'.get? a = some (PySem.W.methodObj (.ref f) (.ref y))
    exact k a _ (.inl rfl) e
  | ext φ => obtain ⟨p, ⟨o, e⟩, st⟩ := x; exact ⟨st _ _ p fun o q => k _ _ (.inl rfl) q, ⟨o, k _ _ (.inl rfl) e⟩, st⟩
theorem HOk.lt (x : HOk P w H h) (e : H a = some o) : a < h.objs.size := (x a o e).lt
theorem HOk.fresh (x : HOk P w H h) (e : h.objs.size ≤ a) : H a = none := by
  cases q : H a with
  | none => rfl
  | some u => exact absurd (Nat.lt_of_lt_of_le (x.lt q) e) (Nat.lt_irrefl _)
/-- every object of the heap is kept -/
theorem HOk.kept (x : HOk P w H h) (k : ∀ b u, h.get? b = some u → h'.get? b = some u) : HOk P w H h' := fun a o e =>
  (x a o e).stay (fun b u _ q => k b u q) (fun _ q => q) fun _ _ q => q
/-- a new object is laid and tracked -/
theorem HOk.laid (x : HOk P w H h) (k : ∀ b u, h.get? b = some u → h'.get? b = some u) (hp : h.objs.size ≤ a) (new : ObjOk P w (upd H a o) h' a o) : HOk P w (upd H a o) h' := fun b u e => by
  have hn := x.fresh hp
  by_cases hb : b = a
  · subst hb; rw [upd_same] at e; cases e; exact new
  · rw [upd_ne hb] at e
    exact (x b u e).stay (fun c v _ q => k c v q) (fun c q => by rw [upd_ne (ne_of_none q hn)]; exact q) fun c xs q => by rw [upd_ne (ne_of_none q hn)]; exact q
end
/-- what may be read as u: it is u, or a known u -/
def Rd (H : Hp) (a : Addr) (u : HO) : Prop := H a = some u ∨ ∃ o, H a = some (.frz o u)
theorem Rd.ok {P : Program} {w : World} {H : Hp} {h : Heap} {a : Addr} {u : HO} (r : Rd H a u) (x : HOk P w H h) : ObjOk P w H h a u := by
  rcases r with r | ⟨o, r⟩
  · exact x a u r
  · obtain ⟨_, q⟩ := x a _ r
    exact q
/-- what may be written -/
def Mut : Option HO → Prop
  | some (.lst _) => True
  | some (.dK _) => True
  | some (.dT _) => True
  | some (.set _ _) => True
  | some (.ins _ _ _) => True
  | some (.ext _) => True
  | _ => False
section
variable {P : Program} {w : World} {H : Hp} {h h' : Heap} {x e : Addr} {o' : HO}
/-- the object at e is changed: x itself, or the dict of the instance x -/
theorem HOk.write (ok : HOk P w H h) (mu : Mut (H x)) (he : e = x ∨ H e = some (.own x)) (k : ∀ b u, b ≠ e → h.get? b = some u → h'.get? b = some u) (heo : ∃ u, h'.get? e = some u)
    (new : ObjOk P w (upd H x o') h' x o') : HOk P w (upd H x o') h' := fun b u q => by
  have nown : ∀ c y, H c = some (.own y) → c ≠ x := fun c y r z => by subst z; rw [r] at mu; exact mu
  have ntup : ∀ c xs, H c = some (.tup xs) → c ≠ x := fun c xs r z => by subst z; rw [r] at mu; exact mu
  by_cases hb : b = x
  · subst hb; rw [upd_same] at q; cases q; exact new
  · rw [upd_ne hb] at q
    by_cases hbe : b = e
    · have q' : H b = some (.own x) := by
        rcases he with z | z
        · exact absurd (hbe.trans z) hb
        · rw [hbe]; exact z
      rw [q] at q'; cases q'
      obtain ⟨v, hv⟩ := heo
      exact ⟨v, by rw [hbe]; exact hv⟩
    · refine (ok b u q).stay (fun c v hc r => k c v ?_ r) (fun c r => by rw [upd_ne (nown c b r)]; exact r) fun c xs r => by rw [upd_ne (ntup c xs r)]; exact r
      rcases hc with rfl | hc
      · exact hbe
      · rintro rfl
        rcases he with z | z
        · exact nown c b hc z
        · rw [hc] at z; cases z; exact hb rfl
end
/-! ### kept unless tracked; of the frames at fs (the callers') the slots may change (an exception that passes writes there); of the records at ex (iterators) nothing is said -/
structure Un (fs ex : List Addr) (H H' : Hp) (h h' : Heap) : Prop where
  keep : ∀ b o, h.get? b = some o → H b = none → b ∉ fs → b ∉ ex → h'.get? b = some o
  slot : ∀ b o, h.get? b = some o → H b = none → b ∈ fs → b ∉ ex → ∃ sl, h'.get? b = some { o with slots := sl }
  free : ∀ b o, h.get? b = some o → H b = none → b ∉ ex → H' b = none
  there : ∀ b o, h.get? b = some o → b ∉ ex → ∃ o', h'.get? b = some o'
  tups : ∀ b xs, H b = some (.tup xs) → H' b = some (.tup xs)
  frzs : ∀ b o u, H b = some (.frz o u) → H' b = some (.frz o u)
  tbls : ∀ b ps, H b = some (.tbl ps) → ∃ more, H' b = some (.tbl (ps ++ more))
section
variable {fs fs' ex ex' : List Addr} {H H1 H2 : Hp} {h h1 h2 h' : Heap} {a x e : Addr} {o : HO}
theorem Un.any (u : Un fs ex H H1 h h1) {b : Addr} {ob : Obj} (q : h.get? b = some ob) (n : H b = none) (hx : b ∉ ex) : ∃ sl, h1.get? b = some { ob with slots := sl } := by
  by_cases hb : b ∈ fs
  · exact u.slot b ob q n hb hx
  · exact ⟨ob.slots, u.keep b ob q n hb hx⟩
theorem Un.kept (k : ∀ b u, h.get? b = some u → h'.get? b = some u) : Un fs ex H H h h' :=
  ⟨fun b ob q _ _ _ => k b ob q, fun b ob q _ _ _ => ⟨ob.slots, k b ob q⟩, fun _ _ _ n _ => n, fun b ob q _ => ⟨ob, k b ob q⟩, fun _ _ q => q, fun _ _ _ q => q, fun _ ps q => ⟨#[], by rw [q]; simp⟩⟩
theorem Un.refl : Un fs ex H H h h := Un.kept fun _ _ q => q
theorem Un.laid (k : ∀ b u, h.get? b = some u → h'.get? b = some u) (hp : h.objs.size ≤ a) (hn : H a = none) : Un fs ex H (upd H a o) h h' where
  keep := fun b u q _ _ _ => k b u q
  slot := fun b u q _ _ _ => ⟨u.slots, k b u q⟩
  free := fun b u q n _ => by rw [upd_ne (Nat.ne_of_lt (Nat.lt_of_lt_of_le (Heap.lt_size q) hp))]; exact n
  there := fun b u q _ => ⟨u, k b u q⟩
  tups := fun b xs q => by rw [upd_ne (ne_of_none q hn)]; exact q
  frzs := fun b u xs q => by rw [upd_ne (ne_of_none q hn)]; exact q
  tbls := fun b ps q => ⟨#[], by rw [upd_ne (ne_of_none q hn), q]; simp⟩
theorem Un.write (mu : Mut (H x)) (he : e = x ∨ H e = some (.own x)) (k : ∀ b u, b ≠ e → h.get? b = some u → h'.get? b = some u) (heo : ∃ u, h'.get? e = some u) : Un fs ex H (upd H x o) h h' := by
  have hx : ∀ b, H b = none → b ≠ x := fun b n z => by subst z; rw [n] at mu; exact mu
  have hb : ∀ b, H b = none → b ≠ e := fun b n z => by
    subst z
    rcases he with r | r
    · exact hx b n r
    · rw [n] at r; cases r
  have hm : ∀ b u, H b = some u → ¬ Mut (some u) → b ≠ x := fun b u q nm z => by subst z; rw [q] at mu; exact nm mu
  refine ⟨fun b u q n _ _ => k b u (hb b n) q, fun b u q n _ _ => ⟨u.slots, k b u (hb b n) q⟩, fun b u q n _ => by rw [upd_ne (hx b n)]; exact n, fun b u q _ => ?_,
    fun b xs q => by rw [upd_ne (hm b _ q fun z => z)]; exact q, fun b u xs q => by rw [upd_ne (hm b _ q fun z => z)]; exact q, fun b ps q => ⟨#[], by rw [upd_ne (hm b _ q fun z => z), q]; simp⟩⟩
  by_cases hbe : b = e
  · subst hbe; exact heo
  · exact ⟨u, k b u hbe q⟩
end
/-! ### the heap without what is tracked -/
def trk (h : Heap) (H : Hp) : List Addr := (List.range h.objs.size).filter fun a => (H a).isSome
def hidT (h : Heap) (H : Hp) : Heap := PySem.W.hideAll h (trk h H)
theorem hidT_size (h : Heap) (H : Hp) : (hidT h H).objs.size = h.objs.size := PySem.W.hideAll_size _ _
theorem hidT_get {h : Heap} {H : Hp} {b : Addr} {o : Obj} (e : h.get? b = some o) (n : H b = none) : (hidT h H).get? b = some o :=
  PySem.W.hideAll_get _ e fun hm => by
    have q : (H b).isSome = true := (List.mem_filter.mp hm).2
    rw [n] at q; simp at q
theorem of_hidT {h : Heap} {H : Hp} {b : Addr} {o : Obj} (e : (hidT h H).get? b = some o) : h.get? b = some o ∧ H b = none := by
  have e' : h.get? b = some o := PySem.W.of_hideAll (trk h H) e
  refine ⟨e', ?_⟩
  cases q : H b with
  | none => rfl
  | some x =>
    have hm : b ∈ trk h H := List.mem_filter.mpr ⟨List.mem_range.mpr (Heap.lt_size e'), by simp [q]⟩
    have z : (hidT h H).get? b = none := PySem.W.hideAll_none (trk h H) hm
    rw [z] at e; cases e
/-! ### OpenK's ledger, filled with every new object but one -/
end L2
namespace L2
open PySem PySem.Spec PyProof.Rows
/-- the module's facts, over the base: the heap at the law's entry without what is tracked there -/
structure Mod (K : PySem.W.Frag) (mg : Str → Option Value) (base : Heap) : Prop where
  kin : K.In base
  glob : base.Ns mainGlobals mg
  blt : ∃ mb, base.Ns builtinsNs mb ∧ ∀ x : Str, x ≠ "__name__" → mb x = bootBuiltins x
  nolimit : base.NoLimit
/-- the context: a def's body (or a comprehension's block) running. base: fixed through the whole law; s₀, H₀: the entry; outer: the frames whose slots others may change (a def's callers); stack: all frames that run;
   ex: iterators that were made ahead of the entry and are walked here (a comprehension's); fn: the names whose cells were made at the entry (a def: all; a comprehension's block: its own); calm: not within an except suite; pn: pins that every state bears; xe: what is wanted of an exception that leaves the code -/
structure Cx where
  prog : Program
  w : World
  K : PySem.W.Frag
  mg : Str → Option Value
  base : Heap
  A : Around
  N : List Str
  s_0 : Shared
  H_0 : Hp
  env : Env
  outer : List Env
  stack : List Env
  ex : List Addr
  fn : Str → Bool
  calm : Bool
  pn : List (Addr × Obj)
  xe : Value → Shared → Prop
/-- the callers' frames -/
def frs (l : List Env) : List Addr := l.filterMap (·.frame)
abbrev Cx.fs (X : Cx) : List Addr := frs X.outer
def Vis (sc : Scope) (x : Str) : Prop := sc.names.lookup x = some .local ∨ sc.names.lookup x = some .cell ∨ sc.names.lookup x = some .free
def Loc (sc : Scope) (x : Str) : Prop := sc.names.lookup x = some .local ∨ sc.names.lookup x = some .cell
def Look (env : Env) (h : Heap) (m : Str → Option Value) (x : Str) (u : Value) : Prop :=
  (env.kindOf x = some .local ∧ m x = some u) ∨ ((env.kindOf x = some .cell ∨ env.kindOf x = some .free) ∧ ∃ c, env.cells.lookup x = some c ∧ h.IsCell c (some u))
structure Cx.Ok (X : Cx) : Prop where
  mod : Mod X.K X.mg X.base
  kind : X.env.scope.kind = .function
  glob : X.env.globals = mainGlobals
  blt : X.env.builtins = builtinsNs
  above : X.s_0.heap.objs.size ≤ X.env.locals
  inj : ∀ x y c, X.env.cells.lookup x = some c → X.env.cells.lookup y = some c → x = y
  has : ∀ x, (X.env.kindOf x = some .cell ∨ X.env.kindOf x = some .free) → ∃ c, X.env.cells.lookup x = some c
  cab : ∀ x c, X.fn x = true → X.env.cells.lookup x = some c → X.s_0.heap.objs.size ≤ c
  hd : X.calm = true → X.A.handled = none
  frames : X.A.frames = some X.stack
  stk : X.stack = X.outer ∨ (X.stack = X.env :: X.outer ∧ X.env.frame = some X.env.locals)
  exf : ∀ b ∈ X.ex, b ≠ X.env.locals ∧ ∀ x c, X.env.cells.lookup x = some c → c ≠ b
  bs : ∀ b o, X.base.get? b = some o → X.s_0.heap.get? b = some o ∧ X.H_0 b = none
  bsz : X.base.objs.size ≤ X.s_0.heap.objs.size
  noex : ∀ b o, X.base.get? b = some o → b ∉ X.ex
  exfs : ∀ b ∈ X.ex, b ∉ X.fs
  funs : X.s_0.heap.FunFrames X.base X.outer
  frf : ∀ b ∈ X.fs, X.H_0 b = none
structure Inv (X : Cx) (pins : List (Addr × Obj)) (σ : List (Option V)) (H : Hp) (s : Shared) : Prop where
  ok : X.Ok
  os : s.os = X.s_0.os
  bare : AllBare s.gens
  base : Un X.fs X.ex X.H_0 H X.s_0.heap s.heap
  loc : ∃ m, s.heap.Ns X.env.locals m ∧ ∀ (i : Nat) (x : Str) (v : V), X.N[i]? = some x → σ[i]? = some (some v) → Vis X.env.scope x → ∃ u, RelV v u ∧ Look X.env s.heap m x u
  cell : ∀ x c, X.env.cells.lookup x = some c → ∃ v, s.heap.IsCell c v
  free : H X.env.locals = none
  freeC : ∀ x c, X.env.cells.lookup x = some c → H c = none
  pin : ∀ p ∈ X.pn ++ pins, s.heap.get? p.1 = some p.2 ∧ H p.1 = none ∧ p.1 ≠ X.env.locals ∧ p.1 ∉ X.fs ∧ ∀ v, p.2.data ≠ .cell v
  hok : HOk X.prog X.w H s.heap
  len : σ.length = X.N.length
section
variable {X : Cx} {pins : List (Addr × Obj)} {σ : List (Option V)} {H H' : Hp} {s : Shared} {h' : Heap}
theorem Cx.Ok.nofr (ok : X.Ok) {b : Addr} {o : Obj} (e : X.base.get? b = some o) : b ∉ X.fs := fun hb => by
  have := (ok.funs.mem hb).1
  rw [e] at this; cases this
theorem Inv.bs (I : Inv X pins σ H s) : ∀ b o, X.base.get? b = some o → s.heap.get? b = some o ∧ H b = none := fun b o e =>
  ⟨I.base.keep b o (I.ok.bs b o e).1 (I.ok.bs b o e).2 (I.ok.nofr e) (I.ok.noex b o e), I.base.free b o (I.ok.bs b o e).1 (I.ok.bs b o e).2 (I.ok.noex b o e)⟩
theorem Inv.bk (I : Inv X pins σ H s) : ∀ b o, X.base.get? b = some o → s.heap.get? b = some o := fun b o e => (I.bs b o e).1
theorem Inv.mod (I : Inv X pins σ H s) : Mod X.K X.mg X.base := I.ok.mod
theorem Inv.kIn (I : Inv X pins σ H s) : X.K.In s.heap := I.ok.mod.kin.keeps I.bk
theorem Inv.lt (I : Inv X pins σ H s) : X.env.locals < s.heap.objs.size := let ⟨_, hn, _⟩ := I.loc; hn.lt
theorem Inv.sz (I : Inv X pins σ H s) : X.s_0.heap.objs.size ≤ s.heap.objs.size := Nat.le_trans I.ok.above (Nat.le_of_lt I.lt)
theorem Inv.nofs (I : Inv X pins σ H s) {a : Addr} (h : s.heap.objs.size ≤ a) : a ∉ X.fs := fun hb => by
  obtain ⟨_, o, ho, _⟩ := I.ok.funs.mem hb
  exact absurd (Nat.lt_of_lt_of_le (Heap.lt_size ho) (Nat.le_trans I.sz h)) (Nat.lt_irrefl _)
theorem Inv.cne (I : Inv X pins σ H s) : ∀ x c, X.env.cells.lookup x = some c → c ≠ X.env.locals := fun x c e z => by
  obtain ⟨v, o, ho, hd⟩ := I.cell x c e
  obtain ⟨m, ⟨o', es, ep, ho', hd', _⟩, _⟩ := I.loc
  rw [z, ho'] at ho; cases ho; rw [hd'] at hd; cases hd
theorem Inv.funs (I : Inv X pins σ H s) : s.heap.FunFrames X.base X.outer := by
  have all : ∀ (l : List Env), (∀ b ∈ frs l, b ∈ X.fs) → X.s_0.heap.FunFrames X.base l → s.heap.FunFrames X.base l := by
    intro l
    induction l with
    | nil => intro _ _; trivial
    | cons env r ih =>
      intro hs hl
      obtain ⟨hk, ⟨L, o, hf, hn, ho, hd⟩, hr⟩ := hl
      have hL : L ∈ X.fs := hs L (by unfold frs; rw [List.filterMap_cons, hf]; exact List.mem_cons_self)
      obtain ⟨sl, e⟩ := I.base.slot L o ho (I.ok.frf L hL) hL fun z => I.ok.exfs L z hL
      exact ⟨hk, ⟨L, _, hf, hn, e, hd⟩, ih (fun b hb => hs b (by unfold frs; rw [List.filterMap_cons, hf]; exact List.mem_cons_of_mem _ hb)) hr⟩
  exact all X.outer (fun _ hb => hb) I.ok.funs
/-- the frames that run, for a call -/
theorem Inv.stack (I : Inv X pins σ H s) : s.heap.FunFrames X.base X.stack := by
  rcases I.ok.stk with e | ⟨e, hf⟩
  · rw [e]; exact I.funs
  · rw [e]
    obtain ⟨m, hn, _⟩ := I.loc
    refine .cons (by rw [I.ok.kind]; decide) hf hn ?_ I.funs
    exact Heap.get?_none_of_le (Nat.le_trans I.ok.bsz I.ok.above)
theorem Inv.stkSub (I : Inv X pins σ H s) : ∀ b ∈ frs X.stack, b ∈ X.env.locals :: X.fs := fun b hb => by
  rcases I.ok.stk with e | ⟨e, hf⟩
  · rw [e] at hb; exact List.mem_cons_of_mem _ hb
  · rw [e] at hb
    unfold frs at hb
    rw [List.filterMap_cons, hf] at hb
    exact hb
theorem Inv.stkFree (I : Inv X pins σ H s) : ∀ b ∈ frs X.stack, H b = none := fun b hb => by
  rcases List.mem_cons.mp (I.stkSub b hb) with e | hb
  · rw [e]; exact I.free
  · obtain ⟨_, o, ho, _⟩ := I.ok.funs.mem hb
    exact I.base.free b o ho (I.ok.frf b hb) fun z => I.ok.exfs b z hb
/-- THE STEP: the untracked objects but the frame and the records at ch are kept (the callers' frames up to slots), the frame's map is kept, the new abstract heap is held -/
theorem Inv.step {g' : Array GenState} {t' : Nat} {d' : Drawn} {ch : List Addr} (I : Inv X pins σ H s)
    (hch : ∀ b ∈ ch, (b ∈ X.ex ∨ X.s_0.heap.objs.size ≤ b) ∧ b ≠ X.env.locals ∧ (∀ x c, X.env.cells.lookup x = some c → c ≠ b) ∧ ∀ p ∈ X.pn ++ pins, p.1 ≠ b)
    (keep : ∀ b o, b ≠ X.env.locals → b ∉ X.fs → b ∉ ch → s.heap.get? b = some o → H b = none → h'.get? b = some o)
    (slot : ∀ b o, b ≠ X.env.locals → b ∈ X.fs → b ∉ ch → s.heap.get? b = some o → H b = none → ∃ sl, h'.get? b = some { o with slots := sl }) (free : ∀ b o, b ∉ ch → s.heap.get? b = some o → H b = none → H' b = none)
    (there : ∀ b o, b ∉ ch → s.heap.get? b = some o → ∃ o', h'.get? b = some o')
    (tups : ∀ b xs, H b = some (.tup xs) → H' b = some (.tup xs)) (frzs : ∀ b o u, H b = some (.frz o u) → H' b = some (.frz o u)) (tbls : ∀ b ps, H b = some (.tbl ps) → ∃ more, H' b = some (.tbl (ps ++ more)))
    (ns : ∀ m, s.heap.Ns X.env.locals m → h'.Ns X.env.locals m) (hok : HOk X.prog X.w H' h') (hg : AllBare g') :
    Inv X pins σ H' { s with heap := h', gens := g', drawn := d', toks := t' } := by
  have neL : ∀ b o, X.s_0.heap.get? b = some o → b ≠ X.env.locals := fun b o e => Nat.ne_of_lt (Nat.lt_of_lt_of_le (Heap.lt_size e) I.ok.above)
  have neC : ∀ b o, X.s_0.heap.get? b = some o → b ∉ X.ex → b ∉ ch := fun b o e hx hb => by
    rcases (hch b hb).1 with z | z
    · exact hx z
    · exact absurd (Nat.lt_of_lt_of_le (Heap.lt_size e) z) (Nat.lt_irrefl _)
  have cellK : ∀ x c, X.env.cells.lookup x = some c → ∀ v, s.heap.IsCell c v → h'.IsCell c v := fun x c e v ⟨o, ho, hd⟩ => by
    have nch : c ∉ ch := fun z => (hch c z).2.2.1 x c e rfl
    by_cases hc : c ∈ X.fs
    · obtain ⟨sl, q⟩ := slot c o (I.cne x c e) hc nch ho (I.freeC x c e)
      exact ⟨_, q, hd⟩
    · exact ⟨o, keep c o (I.cne x c e) hc nch ho (I.freeC x c e), hd⟩
  refine ⟨I.ok, I.os, hg, ⟨fun b o e n hb hx => ?_, fun b o e n hb hx => ?_, fun b o e n hx => ?_, fun b o e hx => ?_, fun b xs e => tups b xs (I.base.tups b xs e), fun b o xs e => frzs b o xs (I.base.frzs b o xs e), fun b ps e => ?_⟩, ?_, fun x c e => ?_, ?_, fun x c e => ?_, fun p hp => ?_, hok, I.len⟩
  · exact keep b o (neL b o e) hb (neC b o e hx) (I.base.keep b o e n hb hx) (I.base.free b o e n hx)
  · obtain ⟨sl, e1⟩ := I.base.slot b o e n hb hx
    obtain ⟨sl', e2⟩ := slot b _ (neL b o e) hb (neC b o e hx) e1 (I.base.free b o e n hx)
    exact ⟨sl', e2⟩
  · obtain ⟨o', e1⟩ := I.base.there b o e hx
    exact free b o' (neC b o e hx) e1 (I.base.free b o e n hx)
  · obtain ⟨o', e1⟩ := I.base.there b o e hx
    exact there b o' (neC b o e hx) e1
  · obtain ⟨m1, e1⟩ := I.base.tbls b ps e
    obtain ⟨m2, e2⟩ := tbls b _ e1
    exact ⟨m1 ++ m2, by rw [e2, Array.append_assoc]⟩
  · obtain ⟨m, hn, hl⟩ := I.loc
    refine ⟨m, ns m hn, fun i x v e1 e2 e3 => ?_⟩
    obtain ⟨u, r, l⟩ := hl i x v e1 e2 e3
    refine ⟨u, r, ?_⟩
    rcases l with l | ⟨k, c, e, z⟩
    · exact .inl l
    · exact .inr ⟨k, c, e, cellK x c e _ z⟩
  · obtain ⟨v, z⟩ := I.cell x c e
    exact ⟨v, cellK x c e v z⟩
  · obtain ⟨m, ⟨o, _, _, ho, _⟩, _⟩ := I.loc
    exact free _ o (fun z => (hch _ z).2.1 rfl) ho I.free
  · obtain ⟨v, o, ho, hd⟩ := I.cell x c e
    exact free c o (fun z => (hch c z).2.2.1 x c e rfl) ho (I.freeC x c e)
  · obtain ⟨e, n, ne, nf, d⟩ := I.pin p hp
    have nch : p.1 ∉ ch := fun z => (hch p.1 z).2.2.2 p hp rfl
    exact ⟨keep p.1 p.2 ne nf nch e n, free p.1 p.2 nch e n, ne, nf, d⟩
/-- .. where the frame's own object is kept too -/
theorem Inv.un {t' : Nat} (I : Inv X pins σ H s) (u : Un X.fs [] H H' s.heap h') (hok : HOk X.prog X.w H' h') : Inv X pins σ H' { s with heap := h', toks := t' } := by
  obtain ⟨m, ⟨o, es, ep, ho, r⟩, _⟩ := id I.loc
  obtain ⟨sl, hL⟩ := u.any ho I.free (by simp)
  exact I.step (g' := s.gens) (d' := s.drawn) (ch := []) (fun _ z => nomatch z) (fun b o _ hb _ e n => u.keep b o e n hb (by simp)) (fun b o _ hb _ e n => u.slot b o e n hb (by simp)) (fun b o _ e n => u.free b o e n (by simp)) (fun b o _ e => u.there b o e (by simp)) u.tups u.frzs u.tbls (fun m' hm => by
    obtain ⟨o', es', ep', ho', r'⟩ := hm
    rw [ho] at ho'; cases ho'
    exact ⟨_, es', ep', hL, r'⟩) hok I.bare
/-- behind a call (or a comprehension's block): the slots of this frame may have changed too, the records at ch may have turned -/
theorem Inv.call {g' : Array GenState} {t' : Nat} {d' : Drawn} {ch : List Addr} (I : Inv X pins σ H s) (u : Un (frs X.stack) ch H H' s.heap h') (hok : HOk X.prog X.w H' h') (hg : AllBare g')
    (hch : ∀ b ∈ ch, (b ∈ X.ex ∨ X.s_0.heap.objs.size ≤ b) ∧ b ≠ X.env.locals ∧ (∀ x c, X.env.cells.lookup x = some c → c ≠ b) ∧ ∀ p ∈ X.pn ++ pins, p.1 ≠ b) :
    Inv X pins σ H' { s with heap := h', gens := g', drawn := d', toks := t' } := by
  obtain ⟨m, ⟨o, es, ep, ho, r⟩, _⟩ := id I.loc
  obtain ⟨sl, hL⟩ := u.any ho I.free fun z => (hch _ z).2.1 rfl
  exact I.step (ch := ch) hch (fun b o hL hb hc e n => u.keep b o e n (fun z => (List.mem_cons.mp (I.stkSub b z)).elim hL hb) hc) (fun b o _ _ hc e n => u.any e n hc) (fun b o hc e n => u.free b o e n hc) (fun b o hc e => u.there b o e hc) u.tups u.frzs u.tbls (fun m' hm => by
    obtain ⟨o', es', ep', ho', r'⟩ := hm
    rw [ho] at ho'; cases ho'
    exact ⟨_, es', ep', hL, r'⟩) hok hg
/-- an untracked record of ours (an iterator) has turned -/
theorem Inv.turned {t' : Nat} {it : Addr} (I : Inv X pins σ H s) (k : ∀ b o, b ≠ it → s.heap.get? b = some o → h'.get? b = some o) (hn : H it = none) (hL : it ≠ X.env.locals)
    (h1 : it ∈ X.ex ∨ X.s_0.heap.objs.size ≤ it) (h2 : ∀ x c, X.env.cells.lookup x = some c → c ≠ it) (h3 : ∀ p ∈ X.pn ++ pins, p.1 ≠ it) : Inv X pins σ H { s with heap := h', toks := t' } := by
  have nit : ∀ b u, H b = some u → b ≠ it := fun b u e z => by rw [z, hn] at e; cases e
  refine I.step (g' := s.gens) (d' := s.drawn) (ch := [it]) (fun b hb => ?_) (fun b o _ _ hc e _ => k b o (fun z => hc (by simp [z])) e) (fun b o _ _ hc e _ => ⟨o.slots, k b o (fun z => hc (by simp [z])) e⟩) (fun _ _ _ _ n => n)
    (fun b o hc e => ⟨o, k b o (fun z => hc (by simp [z])) e⟩) (fun _ _ e => e) (fun _ _ _ e => e) (fun b ps e => ⟨#[], by rw [e]; simp⟩) (fun m hm => ?_) (fun b u e => ?_) I.bare
  · have e : b = it := by simpa using hb
    subst e
    exact ⟨h1, hL, h2, h3⟩
  · obtain ⟨o, es, ep, ho, r⟩ := hm
    exact ⟨o, es, ep, k _ o (Ne.symm hL) ho, r⟩
  · refine (I.hok b u e).stay (fun c v hc q => k c v ?_ q) (fun _ q => q) fun _ _ q => q
    rcases hc with z | z
    · rw [z]; exact nit b u e
    · exact nit c _ z
theorem Inv.tok (I : Inv X pins σ H s) (t : Nat) : Inv X pins σ H { s with toks := t } := I.un (h' := s.heap) (t' := t) Un.refl I.hok
/-- all objects kept -/
theorem Inv.kept {t' : Nat} (I : Inv X pins σ H s) (k : ∀ b u, s.heap.get? b = some u → h'.get? b = some u) : Inv X pins σ H { s with heap := h', toks := t' } := I.un (Un.kept k) (I.hok.kept k)
/-- a new object laid and tracked -/
theorem Inv.laid {a : Addr} {o : HO} {t' : Nat} (I : Inv X pins σ H s) (k : ∀ b u, s.heap.get? b = some u → h'.get? b = some u) (hp : s.heap.objs.size ≤ a) (new : ObjOk X.prog X.w (upd H a o) h' a o) :
    Inv X pins σ (upd H a o) { s with heap := h', toks := t' } := I.un (Un.laid k hp (I.hok.fresh hp)) (I.hok.laid k hp new)
/-- an object written -/
theorem Inv.write {x e : Addr} {o : HO} {t' : Nat} (I : Inv X pins σ H s) (mu : Mut (H x)) (he : e = x ∨ H e = some (.own x)) (k : ∀ b u, b ≠ e → s.heap.get? b = some u → h'.get? b = some u) (heo : ∃ u, h'.get? e = some u)
    (new : ObjOk X.prog X.w (upd H x o) h' x o) : Inv X pins σ (upd H x o) { s with heap := h', toks := t' } := I.un (Un.write mu he k heo) (I.hok.write mu he k heo new)
/-- forgetting slots, pins -/
theorem Inv.weak {σ' : List (Option V)} (I : Inv X pins σ H s) (hl : σ'.length = σ.length) (w : ∀ (i : Nat) v, σ'[i]? = some (some v) → σ[i]? = some (some v)) : Inv X pins σ' H s :=
  ⟨I.ok, I.os, I.bare, I.base, let ⟨m, hn, hl'⟩ := I.loc; ⟨m, hn, fun i x v e1 e2 e3 => hl' i x v e1 (w i v e2) e3⟩, I.cell, I.free, I.freeC, I.pin, I.hok, hl.trans I.len⟩
theorem Inv.pins_of {pins' : List (Addr × Obj)} (I : Inv X pins σ H s) (h : ∀ p ∈ pins', s.heap.get? p.1 = some p.2 ∧ H p.1 = none ∧ p.1 ≠ X.env.locals ∧ p.1 ∉ X.fs ∧ ∀ v, p.2.data ≠ .cell v) : Inv X pins' σ H s :=
  ⟨I.ok, I.os, I.bare, I.base, I.loc, I.cell, I.free, I.freeC, fun p hp => (List.mem_append.mp hp).elim (fun z => I.pin p (List.mem_append_left _ z)) (h p), I.hok, I.len⟩
theorem nodup_ix {N : List Str} (hN : N.Nodup) {i j : Nat} {x : Str} (a : N[i]? = some x) (b : N[j]? = some x) : i = j := by
  obtain ⟨h1, e1⟩ := List.getElem?_eq_some_iff.mp a
  obtain ⟨h2, e2⟩ := List.getElem?_eq_some_iff.mp b
  exact (List.getElem_inj hN).mp (e1.trans e2.symm)
/-- a name is stored; what changed -/
theorem store_ok2 {M : Model} {A : Around} {E : Value → Shared → Prop} {i : Nat} {x : Str} {v : V} {u : Value} {Q : Unit → Shared → Prop} (I : Inv X pins σ H s) (hN : X.N.Nodup) (hi : X.N[i]? = some x) (hx : Loc X.env.scope x) (r : RelV v u)
    (h : ∀ s', Inv X pins (σ.set i (some v)) H s' → (∃ a, Heap.SameBut a s.heap s'.heap ∧ (a = X.env.locals ∨ X.env.cells.lookup x = some a)) → Q () s') (hf : X.fn x = true ∨ X.env.scope.names.lookup x = some .local := by first | exact .inl rfl | exact .inr rfl | assumption) : wpAny M A (storeName X.env x u) Q E s := by
  obtain ⟨m, hn, hl⟩ := id I.loc
  have hcls : (X.env.scope.kind == .class || (X.env.scope.kind == .module && X.env.locals != X.env.globals)) = false := by rw [I.ok.kind]; rfl
  have hiσ : i < σ.length := by rw [I.len]; exact (List.getElem?_eq_some_iff.mp hi).1
  have cne := I.cne
  have tracked : ∀ {a : Addr} {h' : Heap}, (∃ o, s.heap.get? a = some o ∧ H a = none) → Heap.SameBut a s.heap h' → HOk X.prog X.w H h' := fun {a h'} ha hs b ob e => by
    obtain ⟨_, _, hfree⟩ := ha
    refine (I.hok b ob e).stay (fun c w' hc q => (hs.2 c ?_).trans q) (fun _ q => q) fun _ _ q => q
    rintro rfl
    rcases hc with rfl | hc
    · rw [hfree] at e; cases e
    · rw [hfree] at hc; cases hc
  rcases hx with hk | hk
  · refine wpAny_storeName_local hk hn (fun h' hn' hs => ?_) hcls
    obtain ⟨oL, _, _, hoL, _⟩ := id hn
    refine h _ ⟨I.ok, I.os, I.bare, ⟨fun b o e n hb hx => ?_, fun b o e n hb hx => ?_, I.base.free, fun b o e hx => ?_, I.base.tups, I.base.frzs, I.base.tbls⟩, ⟨_, hn', fun j y v' e1 e2 e3 => ?_⟩, fun y c e => ?_, I.free, I.freeC, fun p hp => ?_, tracked ⟨oL, hoL, I.free⟩ hs, by simpa using I.len⟩ ⟨_, hs, .inl rfl⟩
    · exact (hs.2 b (Nat.ne_of_lt (Nat.lt_of_lt_of_le (Heap.lt_size e) I.ok.above))).trans (I.base.keep b o e n hb hx)
    · obtain ⟨sl, e1⟩ := I.base.slot b o e n hb hx
      exact ⟨sl, (hs.2 b (Nat.ne_of_lt (Nat.lt_of_lt_of_le (Heap.lt_size e) I.ok.above))).trans e1⟩
    · obtain ⟨o', e1⟩ := I.base.there b o e hx
      exact ⟨o', (hs.2 b (Nat.ne_of_lt (Nat.lt_of_lt_of_le (Heap.lt_size e) I.ok.above))).trans e1⟩
    · by_cases hj : j = i
      · subst hj
        rw [hi] at e1; cases e1
        rw [List.getElem?_set_self hiσ] at e2
        cases e2
        exact ⟨u, r, .inl ⟨hk, by simp⟩⟩
      · rw [List.getElem?_set_ne (Ne.symm hj)] at e2
        obtain ⟨u', r', q⟩ := hl j y v' e1 e2 e3
        refine ⟨u', r', ?_⟩
        rcases q with ⟨k, e⟩ | ⟨k, c, e, z⟩
        · refine .inl ⟨k, ?_⟩
          have : y ≠ x := fun e => hj (nodup_ix hN e1 (e ▸ hi))
          simp [this, e]
        · exact .inr ⟨k, c, e, z.sameBut hs (cne y c e)⟩
    · obtain ⟨w', z⟩ := I.cell y c e
      exact ⟨w', z.sameBut hs (cne y c e)⟩
    · obtain ⟨e, n, ne, nf, d⟩ := I.pin p hp
      exact ⟨(hs.2 p.1 ne).trans e, n, ne, nf, d⟩
  · have hfn : X.fn x = true := by
      rcases hf with z | z
      · exact z
      · rw [z] at hk; cases hk
    obtain ⟨c, hc⟩ := I.ok.has x (.inl hk)
    obtain ⟨w', z⟩ := I.cell x c hc
    refine wpAny_storeName_cell I.ok.kind hk hc z (fun h' hc' hs => ?_)
    obtain ⟨oc, hoc, hocd⟩ := id z
    refine h { s with heap := h' } ⟨I.ok, I.os, I.bare, ⟨fun b o e n hb hx => ?_, fun b o e n hb hx => ?_, I.base.free, fun b o e hx => ?_, I.base.tups, I.base.frzs, I.base.tbls⟩, ⟨m, hn.sameBut hs (Ne.symm (cne x c hc)), fun j y v' e1 e2 e3 => ?_⟩, fun y c' e => ?_, I.free, I.freeC, fun p hp => ?_, tracked ⟨oc, hoc, I.freeC x c hc⟩ hs, by simpa using I.len⟩ ⟨c, hs, .inr hc⟩
    · exact (hs.2 b (Nat.ne_of_lt (Nat.lt_of_lt_of_le (Heap.lt_size e) (I.ok.cab x c hfn hc)))).trans (I.base.keep b o e n hb hx)
    · obtain ⟨sl, e1⟩ := I.base.slot b o e n hb hx
      exact ⟨sl, (hs.2 b (Nat.ne_of_lt (Nat.lt_of_lt_of_le (Heap.lt_size e) (I.ok.cab x c hfn hc)))).trans e1⟩
    · obtain ⟨o', e1⟩ := I.base.there b o e hx
      exact ⟨o', (hs.2 b (Nat.ne_of_lt (Nat.lt_of_lt_of_le (Heap.lt_size e) (I.ok.cab x c hfn hc)))).trans e1⟩
    · by_cases hj : j = i
      · subst hj
        rw [hi] at e1; cases e1
        rw [List.getElem?_set_self hiσ] at e2
        cases e2
        exact ⟨u, r, .inr ⟨.inl hk, c, hc, hc'⟩⟩
      · rw [List.getElem?_set_ne (Ne.symm hj)] at e2
        obtain ⟨u', r', q⟩ := hl j y v' e1 e2 e3
        refine ⟨u', r', ?_⟩
        rcases q with q | ⟨k, c', e, z'⟩
        · exact .inl q
        · refine .inr ⟨k, c', e, z'.sameBut hs ?_⟩
          rintro rfl
          exact hj (nodup_ix hN e1 (I.ok.inj _ _ _ e hc ▸ hi))
    · by_cases hcc : c' = c
      · subst hcc; exact ⟨_, hc'⟩
      · obtain ⟨w2, z2⟩ := I.cell y c' e
        exact ⟨w2, z2.sameBut hs hcc⟩
    · obtain ⟨e, n, ne, nf, d⟩ := I.pin p hp
      refine ⟨(hs.2 p.1 ?_).trans e, n, ne, nf, d⟩
      intro q
      rw [q, hoc] at e
      have q' : oc = p.2 := Option.some.inj e
      exact d w' (by rw [← q']; exact hocd)
theorem store_ok {M : Model} {A : Around} {E : Value → Shared → Prop} {i : Nat} {x : Str} {v : V} {u : Value} {Q : Unit → Shared → Prop} (I : Inv X pins σ H s) (hN : X.N.Nodup) (hi : X.N[i]? = some x) (hx : Loc X.env.scope x) (r : RelV v u)
    (h : ∀ s', Inv X pins (σ.set i (some v)) H s' → Q () s') (hf : X.fn x = true ∨ X.env.scope.names.lookup x = some .local := by first | exact .inl rfl | exact .inr rfl | assumption) : wpAny M A (storeName X.env x u) Q E s :=
  store_ok2 I hN hi hx r (fun s' I' _ => h s' I') hf
/-- behind a call or a block, the state as it is -/
theorem Inv.call' {s' : Shared} {ch : List Addr} (I : Inv X pins σ H s) (ho : s'.os = s.os) (u : Un (frs X.stack) ch H H' s.heap s'.heap) (hok : HOk X.prog X.w H' s'.heap) (hg : AllBare s'.gens)
    (hch : ∀ b ∈ ch, (b ∈ X.ex ∨ X.s_0.heap.objs.size ≤ b) ∧ b ≠ X.env.locals ∧ (∀ x c, X.env.cells.lookup x = some c → c ≠ b) ∧ ∀ p ∈ X.pn ++ pins, p.1 ≠ b) : Inv X pins σ H' s' := by
  obtain ⟨h', g', d', t', o'⟩ := s'
  have e : o' = s.os := ho
  subst e
  exact I.call (g' := g') (t' := t') (d' := d') u hok hg hch
end
/-! ### the judgements -/
/-- an exception: its class, its own dict's address (where it has one), the abstract heap behind it -/
abbrev XK := Value → Option Addr → Hp → Prop
abbrev St := List (Option V)
abbrev VK := V → Hp → Prop
/-- an expression's reading; a test's; an argument list's -/
abbrev TE := St → Hp → VK → Prop
abbrev TT := St → Hp → (Bool → Hp → Prop) → Prop
abbrev TA := St → Hp → (List V → Hp → Prop) → Prop
/-- what is wanted behind a statement -/
structure Ends where
  nx : St → Hp → Prop
  rt : VK
  bk : St → Hp → Prop := fun _ _ => False
  ct : St → Hp → Prop := fun _ _ => False
abbrev TS := Ends → St → Hp → Prop
def EP (X : Cx) (pins : List (Addr × Obj)) (σ : St) (Q : VK) (u : Value) (s' : Shared) : Prop := ∃ v H', Inv X pins σ H' s' ∧ RelV v u ∧ Q v H'
def TP (X : Cx) (pins : List (Addr × Obj)) (σ : St) (Q : Bool → Hp → Prop) (b : Bool) (s' : Shared) : Prop := ∃ H', Inv X pins σ H' s' ∧ Q b H'
def AP (X : Cx) (pins : List (Addr × Obj)) (σ : St) (Q : List V → Hp → Prop) (us : List Value) (s' : Shared) : Prop := ∃ vs H', Inv X pins σ H' s' ∧ Vals vs us ∧ Q vs H'
def SP (X : Cx) (pins : List (Addr × Obj)) (D : Ends) (f : Flow) (s' : Shared) : Prop :=
  match f with
  | .next => ∃ σ' H', Inv X pins σ' H' s' ∧ D.nx σ' H'
  | .brk => ∃ σ' H', Inv X pins σ' H' s' ∧ D.bk σ' H'
  | .cont => ∃ σ' H', Inv X pins σ' H' s' ∧ D.ct σ' H'
  | .ret u => ∃ v σ' H', Inv X pins σ' H' s' ∧ RelV v u ∧ D.rt v H'
def PE (X : Cx) (e : Expr) (t : TE) : Prop :=
  ∀ (pins : List (Addr × Obj)) (s : Shared) (σ : St) (H : Hp) (Q : VK), Inv X pins σ H s → t σ H Q → wpAny (model X.prog X.w) X.A (eval e X.env) (EP X pins σ Q) X.xe s
def PT (X : Cx) (e : Expr) (t : TT) : Prop :=
  ∀ (pins : List (Addr × Obj)) (s : Shared) (σ : St) (H : Hp) (Q : Bool → Hp → Prop), Inv X pins σ H s → t σ H Q → wpAny (model X.prog X.w) X.A (isTrue e X.env (eval e X.env)) (TP X pins σ Q) X.xe s
/-- a test whatever its 'whole' is (and, or) -/
def PW (X : Cx) (e : Expr) (t : TT) : Prop :=
  ∀ (whole : Sem Value) (pins : List (Addr × Obj)) (s : Shared) (σ : St) (H : Hp) (Q : Bool → Hp → Prop), Inv X pins σ H s → t σ H Q → wpAny (model X.prog X.w) X.A (isTrue e X.env whole) (TP X pins σ Q) X.xe s
theorem PW.pt {X : Cx} {e : Expr} {t : TT} (h : PW X e t) : PT X e t := h _
/-- an argument list (no star), from the left -/
def PA (X : Cx) (es : List Expr) (t : TA) : Prop :=
  ∀ (pos : Pos) (pins : List (Addr × Obj)) (s : Shared) (σ : St) (H : Hp) (Q : List V → Hp → Prop), Inv X pins σ H s → t σ H Q → wpAny (model X.prog X.w) X.A (spliced (backTo pos (starEach es X.env))) (AP X pins σ Q) X.xe s
def PS (X : Cx) (st : Stmt) (t : TS) : Prop :=
  ∀ (pins : List (Addr × Obj)) (s : Shared) (σ : St) (H : Hp) (D : Ends), Inv X pins σ H s → t D σ H → wpAny (model X.prog X.w) X.A (exec st X.env) (SP X pins D) X.xe s
def PSs (X : Cx) (st : List Stmt) (t : TS) : Prop :=
  ∀ (pins : List (Addr × Obj)) (s : Shared) (σ : St) (H : Hp) (D : Ends), Inv X pins σ H s → t D σ H → wpAny (model X.prog X.w) X.A (execs st X.env) (SP X pins D) X.xe s
/-- weaken the end -/
theorem thn {α : Type} {t : Sem α} {Q Q' : α → Shared → Prop} {M : Model} {A : Around} {E : Value → Shared → Prop} {s : Shared} (h : wpAny M A t Q E s) (hQ : ∀ a s, Q a s → Q' a s) : wpAny M A t Q' E s := wpAny_mono h hQ fun _ _ x => x
end L2
namespace L2
open PySem PySem.Spec PyProof.Rows
section
variable {X : Cx}
/-! ### names and constants -/
def tVar (i : Nat) : TE := fun σ H Q => ∃ v, σ[i]? = some (some v) ∧ Q v H
def tC (v : V) : TE := fun _ H Q => Q v H
theorem pe_var {i : Nat} {x : Str} {pos : Pos} (hN : X.N[i]? = some x) (hv : Vis X.env.scope x) (hd : (x == ("__debug__" : Str)) = false := by decide) (hcd : (x == ("__classdict__" : Str)) = false := by decide) : PE X (.Name x pos) (tVar i) := by
  intro pins s σ H Q I h
  obtain ⟨v, e, h⟩ := h
  obtain ⟨m, hn, hl⟩ := I.loc
  obtain ⟨u, r, l⟩ := hl i x v hN e hv
  have fin : EP X pins σ Q u s := ⟨v, H, I, r, h⟩
  rcases l with ⟨hk, hm⟩ | ⟨hk, c, hc, hcell⟩
  · exact wpAny_Name (wpAny_loadName_local I.ok.kind hk hn hm fin) hd
  · rcases hk with hk | hk
    · exact wpAny_Name (wpAny_loadName_cell I.ok.kind hk hc hcell fin) hd
    · exact wpAny_Name (wpAny_loadName_free I.ok.kind hk hc hcell fin hcd) hd
theorem pe_int {i j pos} : PE X (.Constant (.int i) j pos) (tC (.int i)) := fun _ _ _ H _ I h => wpAny_Constant_int ⟨.int i, H, I.tok _, ⟨_, rfl⟩, h⟩
theorem pe_non {j pos} : PE X (.Constant .none j pos) (tC .non) := fun _ _ _ H _ I h => Constant_none ⟨.non, H, I, rfl, h⟩
/-- a global name of the def -/
def Gl (X : Cx) (x : Str) : Prop := X.env.kindOf x = some .globalImplicit
theorem ld_glob {E : Value → Shared → Prop} {pins : List (Addr × Obj)} {s : Shared} {σ : St} {H : Hp} {x : Str} {u : Value} {pos : Pos} {Q : Value → Shared → Prop} (I : Inv X pins σ H s) (hg : Gl X x) (hm : X.mg x = some u) (h : Q u s)
    (hd : (x == ("__debug__" : Str)) = false := by decide) : wpAny (model X.prog X.w) X.A (eval (.Name x pos) X.env) Q E s :=
  Calls.Name_function_global I.ok.kind hg (Calls.loadGlobal_global (by rw [I.ok.glob]; exact I.mod.glob.keeps I.bk) hm h) hd
theorem ld_blt {E : Value → Shared → Prop} {pins : List (Addr × Obj)} {s : Shared} {σ : St} {H : Hp} {x : Str} {u : Value} {pos : Pos} {Q : Value → Shared → Prop} (I : Inv X pins σ H s) (hg : Gl X x) (hm : X.mg x = none) (hv : bootBuiltins x = some u) (h : Q u s)
    (hn : x ≠ "__name__" := by decide) (hd : (x == ("__debug__" : Str)) = false := by decide) : wpAny (model X.prog X.w) X.A (eval (.Name x pos) X.env) Q E s := by
  obtain ⟨mb, h1, h2⟩ := I.mod.blt
  exact Calls.Name_function_global I.ok.kind hg (Calls.loadGlobal_builtin (by rw [I.ok.glob]; exact I.mod.glob.keeps I.bk) hm (by rw [I.ok.blt]; exact h1.keeps I.bk) ((h2 x hn).trans hv) h) hd
/-- a module's constant, a class, a function, as a value -/
theorem pe_glob {x : Str} {v : V} {u : Value} {pos : Pos} (hg : Gl X x) (hm : X.mg x = some u) (r : RelV v u) (hd : (x == ("__debug__" : Str)) = false := by decide) : PE X (.Name x pos) (tC v) :=
  fun _ _ _ H _ I h => ld_glob I hg hm ⟨v, H, I, r, h⟩ hd
/-! ### arithmetic -/
variable {a b : Expr} {ta tb : TE} {pos : Pos}
/-! ### comparisons -/
def PC (X : Cx) (op : CmpOp) (a b : Expr) (t : TE) : Prop :=
  ∀ (pins : List (Addr × Obj)) (s : Shared) (σ : St) (H : Hp) (Q : VK), Inv X pins σ H s → t σ H Q →
    wpAny (model X.prog X.w) X.A (eval a X.env) (fun v s₁ => wpAny (model X.prog X.w) X.A (eval b X.env) (fun u s₂ => wpAny (model X.prog X.w) X.A (compareOp op v u) (EP X pins σ Q) X.xe s₂) X.xe s₁) X.xe s
theorem nobehind (b : Expr) {op : CmpOp} (h : op ≠ .In) (h2 : op ≠ .NotIn) : behindInMarks op b = false := by
  have e1 : (op == CmpOp.In) = false := by cases op <;> first | rfl | exact absurd rfl h
  have e2 : (op == CmpOp.NotIn) = false := by cases op <;> first | rfl | exact absurd rfl h2
  cases b <;> simp [behindInMarks, e1, e2]
/-- is None -/
def tIsN (ta : TE) : TE := fun σ H Q => ta σ H fun x H1 => Q (.bl (decide (x = .non))) H1
theorem RelV.none_iff {x : V} {v : Value} (r : RelV x v) : (v == Value.none) = decide (x = .non) := by
  cases x with
  | non => cases r; rfl
  | bl _ => cases r; rfl
  | int _ => obtain ⟨t, rfl⟩ := r; rfl
  | str _ => obtain ⟨t, rfl⟩ := r; rfl
  | byt _ => obtain ⟨t, rfl⟩ := r; rfl
  | flt _ => obtain ⟨t, rfl⟩ := r; rfl
  | ref _ => cases r; rfl
  | ty _ => cases r; rfl
theorem pc_isN {j pos'} (ha : PE X a ta) : PC X .Is a (.Constant .none j pos') (tIsN ta) := by
  intro pins s σ H Q I h
  refine thn (ha pins s σ H _ I h) fun v s1 ⟨x, H1, I1, r1, q1⟩ => ?_
  exact Constant_none (is_none_gen ⟨.bl _, H1, I1, by rw [r1.none_iff]; rfl, q1⟩)
/-- a comparison as a value, as a test -/
def tB (t : TE) : TT := fun σ H Q => t σ H fun x H1 => ∃ c, x = .bl c ∧ Q c H1
theorem pt_cmp {op : CmpOp} {t : TE} (h : PC X op a b t) (h1 : behindInMarks op b = false := by first | exact nobehind _ (by decide) (by decide) | rfl) : PT X (.Compare a [op] [b] pos) (tB t) := by
  intro pins s σ H Q I hw
  refine wpAny_isTrue_Compare1 (thn (h pins s σ H _ I hw) fun v s1 h1 => thn h1 fun u s2 h2 => thn h2 fun c s3 ⟨x, H1, I1, r1, q1⟩ => ?_) h1
  obtain ⟨d, rfl, q⟩ := q1
  cases r1
  exact wpAny_truthy_bool ⟨H1, I1, q⟩
/-- an expression whose value is a bool, as a test -/
theorem pt_val {e : Expr} {t : TE} (h : PE X e t) (he : ∀ whole, isTrue e X.env whole = (do let v ← whole; standAt e.pos; holding [v] (truthy v)) := by intro _; rfl) : PT X e (tB t) := by
  intro pins s σ H Q I hw
  refine isTrue_plain (thn (h pins s σ H _ I hw) fun v s1 ⟨x, H1, I1, r1, q1⟩ => ?_) (he _)
  obtain ⟨d, rfl, q⟩ := q1
  cases r1
  exact wpAny_truthy_bool ⟨H1, I1, q⟩
/-! ### and, or, not -/
variable {tA tB' : TT} {rest : List Expr}
def tOr (t u : TT) : TT := fun σ H Q => t σ H fun c H1 => if c = true then Q true H1 else u σ H1 Q
def tNot (t : TT) : TT := fun σ H Q => t σ H fun c H1 => Q (!c) H1
theorem pw_or1 (ha : PT X a tA) : PW X (.BoolOp .Or [a] pos) tA := by
  intro wh pins s σ H Q I h
  refine isTrue_or (thn (ha pins s σ H Q I h) fun c s1 e => ?_)
  cases c with
  | false => exact isTrue_or_nil e
  | true => exact e
theorem pw_or (ha : PT X a tA) (hb : PW X (.BoolOp .Or (b :: rest) pos) tB') : PW X (.BoolOp .Or (a :: b :: rest) pos) (tOr tA tB') := by
  intro wh pins s σ H Q I h
  refine isTrue_or (thn (ha pins s σ H _ I h) fun c s1 ⟨H1, I1, q1⟩ => ?_)
  cases c with
  | true => exact ⟨H1, I1, q1⟩
  | false => exact hb wh pins s1 σ H1 Q I1 q1
theorem pt_not (ha : PT X a tA) : PT X (.UnaryOp .Not a pos) (tNot tA) := by
  intro pins s σ H Q I h
  exact isTrue_not (ha pins s σ H (fun c H1 => Q (!c) H1) I h)
/-- .. as values (bools) -/
def tAndV (ta tb : TE) : TE := fun σ H Q => ta σ H fun x H1 => ∃ c, x = .bl c ∧ if c = true then tb σ H1 Q else Q (.bl false) H1
theorem pe_one {op} {t : TE} (h : PE X a t) : PE X (.BoolOp op [a] pos) t := fun pins s σ H Q I hw => BoolOp_one (h pins s σ H Q I hw)
theorem pe_and (ha : PE X a ta) (hb : PE X (.BoolOp .And (b :: rest) pos) tb) : PE X (.BoolOp .And (a :: b :: rest) pos) (tAndV ta tb) := by
  intro pins s σ H Q I h
  refine BoolOp_and (thn (ha pins s σ H _ I h) fun v s1 ⟨x, H1, I1, r1, q1⟩ => ?_)
  obtain ⟨c, rfl, q1⟩ := q1
  cases r1
  refine wpAny_truthy_bool ?_
  cases c with
  | true => exact hb pins s1 σ H1 Q I1 q1
  | false => exact ⟨.bl false, H1, I1, rfl, q1⟩
end
end L2
namespace L2
open PySem PySem.Spec PyProof.Rows
/-! ### a list, a tuple that is read: tracked, frozen, or an object of the module -/
def SqL (K : PySem.W.Frag) (H : Hp) (a : Addr) (xs : List V) : Prop :=
  Rd H a (.lst xs) ∨
    ∃ (o : Obj) (its : Array Value) (n : Nat), K.lookup a = some o ∧ o.cls = .type "list" ∧ o.dict = none ∧ o.data = .seq its n ∧ its.size ≤ sizeLine ∧ Vals xs its.toList
def SqT (K : PySem.W.Frag) (H : Hp) (a : Addr) (xs : List V) : Prop :=
  Rd H a (.tup xs) ∨
    ∃ (o : Obj) (its : Array Value) (n : Nat), K.lookup a = some o ∧ o.cls = .type "tuple" ∧ o.data = .seq its n ∧ its.size ≤ sizeLine ∧ Vals xs its.toList
def absV : Value → Option V
  | .none => some .non
  | .bool b => some (.bl b)
  | .int i _ => some (.int i)
  | .str x _ => some (.str x)
  | .bytes b _ => some (.byt b)
  | .float b _ => some (.flt b)
  | .ref a => some (.ref a)
  | .type n => some (.ty n)
  | _ => none
theorem RelV.abs {x : V} {u : Value} (r : RelV x u) : absV u = some x := by
  cases x with
  | non => cases r; rfl
  | bl _ => cases r; rfl
  | int _ => obtain ⟨t, rfl⟩ := r; rfl
  | str _ => obtain ⟨t, rfl⟩ := r; rfl
  | byt _ => obtain ⟨t, rfl⟩ := r; rfl
  | flt _ => obtain ⟨t, rfl⟩ := r; rfl
  | ref _ => cases r; rfl
  | ty _ => cases r; rfl
theorem RelV.inj {x y : V} {u : Value} (r : RelV x u) (q : RelV y u) : x = y := Option.some.inj (r.abs.symm.trans q.abs)
theorem Vals.inj : ∀ {xs ys : List V} {us : List Value}, Vals xs us → Vals ys us → xs = ys
  | _, _, _, .nil, .nil => rfl
  | _, _, _, .cons r t, .cons r' t' => by rw [r.inj r', Vals.inj t t']
section
variable {X : Cx} {pins : List (Addr × Obj)} {σ : St} {H : Hp} {s : Shared} {a : Addr} {xs ys : List V}
theorem SqL.of {K : PySem.W.Frag} (h : H a = some (.lst xs)) : SqL K H a xs := .inl (.inl h)
theorem SqT.of {K : PySem.W.Frag} (h : H a = some (.tup xs)) : SqT K H a xs := .inl (.inl h)
theorem Inv.list (I : Inv X pins σ H s) (h : SqL X.K H a xs) : ∃ its : List Value, Vals xs its ∧ PlainL s.heap a its.toArray ∧ xs.length ≤ sizeLine := by
  rcases h with h | ⟨o, its, n, hk, hc, hd, hs, hz, r⟩
  · obtain ⟨z, its, n, r, e⟩ := h.ok I.hok
    exact ⟨its, r, ⟨_, n, e, rfl, rfl, rfl⟩, z⟩
  · refine ⟨its.toList, r, ⟨o, n, I.kIn a o hk, hc, hd, by simpa using hs⟩, ?_⟩
    have e := r.length
    simp only [Array.length_toList] at e
    omega
theorem Inv.tuple (I : Inv X pins σ H s) (h : SqT X.K H a xs) : ∃ its : List Value, Vals xs its ∧ IsTup s.heap a its.toArray ∧ xs.length ≤ sizeLine := by
  rcases h with h | ⟨o, its, n, hk, hc, hs, hz, r⟩
  · obtain ⟨z, its, r, p⟩ := h.ok I.hok
    exact ⟨its, r, p, z⟩
  · refine ⟨its.toList, r, ⟨o, I.kIn a o hk, hc, n, by simpa using hs⟩, ?_⟩
    have e := r.length
    simp only [Array.length_toList] at e
    omega
theorem Inv.list_inj (I : Inv X pins σ H s) (h : SqL X.K H a xs) (h' : SqL X.K H a ys) : xs = ys := by
  obtain ⟨its, r, ⟨o, n, e, _, _, d⟩, _⟩ := I.list h
  obtain ⟨its', r', ⟨o', n', e', _, _, d'⟩, _⟩ := I.list h'
  rw [e] at e'; cases e'
  rw [d] at d'
  injection d' with d1 _
  have : its = its' := by simpa using congrArg Array.toList d1
  subst this
  exact r.inj r'
end
/-! ### another wish about exceptions -/
abbrev Cx.wish (X : Cx) (E : Value → Shared → Prop) : Cx := { X with xe := E }
/-- no exception leaves -/
abbrev Cx.nox (X : Cx) : Cx := X.wish fun _ _ => False
theorem Cx.Ok.wish {X : Cx} (ok : X.Ok) (E : Value → Shared → Prop) : (X.wish E).Ok :=
  ⟨ok.mod, ok.kind, ok.glob, ok.blt, ok.above, ok.inj, ok.has, ok.cab, ok.hd, ok.frames, ok.stk, ok.exf, ok.bs, ok.bsz, ok.noex, ok.exfs, ok.funs, ok.frf⟩
theorem Cx.Ok.unwish {X : Cx} {E : Value → Shared → Prop} (ok : (X.wish E).Ok) : X.Ok :=
  ⟨ok.mod, ok.kind, ok.glob, ok.blt, ok.above, ok.inj, ok.has, ok.cab, ok.hd, ok.frames, ok.stk, ok.exf, ok.bs, ok.bsz, ok.noex, ok.exfs, ok.funs, ok.frf⟩
section
variable {X : Cx} {pins : List (Addr × Obj)} {σ : St} {H : Hp} {s : Shared} {E : Value → Shared → Prop}
theorem Inv.wish (I : Inv X pins σ H s) (E : Value → Shared → Prop) : Inv (X.wish E) pins σ H s := ⟨I.ok.wish E, I.os, I.bare, I.base, I.loc, I.cell, I.free, I.freeC, I.pin, I.hok, I.len⟩
theorem Inv.unwish (I : Inv (X.wish E) pins σ H s) : Inv X pins σ H s := ⟨I.ok.unwish, I.os, I.bare, I.base, I.loc, I.cell, I.free, I.freeC, I.pin, I.hok, I.len⟩
theorem SP.unwish {D : Ends} {f : Flow} {s' : Shared} (h : SP (X.wish E) pins D f s') : SP X pins D f s' := by
  cases f with
  | next => obtain ⟨σ', H', I, q⟩ := h; exact ⟨σ', H', I.unwish, q⟩
  | brk => obtain ⟨σ', H', I, q⟩ := h; exact ⟨σ', H', I.unwish, q⟩
  | cont => obtain ⟨σ', H', I, q⟩ := h; exact ⟨σ', H', I.unwish, q⟩
  | ret u => obtain ⟨v, σ', H', I, r, q⟩ := h; exact ⟨v, σ', H', I.unwish, r, q⟩
theorem PSs.nox {st : List Stmt} {t : TS} (h : PSs X.nox st t) : PSs X st t := fun pins s σ H D I hw =>
  wpAny_mono (h pins s σ H D (I.wish _) hw) (fun _ _ q => q.unwish) fun _ _ z => False.elim z
end
/-! ### blocks and small statements -/
section
variable {X : Cx} {st : Stmt} {rest : List Stmt} {t u : TS} {e : Expr} {te : TE} {pos : Pos}
def tNext : TS := fun D σ H => D.nx σ H
def tSeq (t u : TS) : TS := fun D σ H => t { D with nx := u D } σ H
theorem pss_nil : PSs X [] tNext := fun _ _ σ H _ I h => wpAny_execs_nil ⟨σ, H, I, h⟩
theorem pss_cons (h1 : PS X st t) (h2 : PSs X rest u) : PSs X (st :: rest) (tSeq t u) := by
  intro pins s σ H D I h
  refine wpAny_execs_cons (thn (h1 pins s σ H { D with nx := u D } I h) fun f s1 q => ?_)
  cases f with
  | next =>
    obtain ⟨σ', H', I', q⟩ := q
    exact h2 pins s1 σ' H' D I' q
  | ret v => exact q
  | brk => exact q
  | cont => exact q
theorem pss_one (h1 : PS X st t) : PSs X [st] t := by
  intro pins s σ H D I h
  refine wpAny_execs_cons (thn (h1 pins s σ H D I h) fun f s1 q => ?_)
  cases f with
  | next => exact wpAny_execs_nil q
  | ret v => exact q
  | brk => exact q
  | cont => exact q
/-- in a def's body nothing is shown -/
theorem Inv.quiet {pins : List (Addr × Obj)} {σ : St} {H : Hp} {s : Shared} (I : Inv X pins σ H s) : interactive X.env = false := by simp [interactive, I.ok.kind]
/-- an expression whose value is dropped -/
def tDrop (te : TE) : TS := fun D σ H => te σ H fun _ H1 => D.nx σ H1
theorem ps_expr (he : PE X e te) (hs : swapsWith e none pos.line X.env = pure false := by rfl) : PS X (.Expr e pos) (tDrop te) := by
  intro pins s σ H D I h
  exact wpAny_Expr_any (thn (he pins s σ H _ I h) fun v s1 ⟨x, H1, I1, r1, q1⟩ => ⟨σ, H1, I1, q1⟩) I.quiet hs
def tRet (te : TE) : TS := fun D σ H => te σ H D.rt
theorem ps_ret (he : PE X e te) : PS X (.Return (some e) pos) (tRet te) := by
  intro pins s σ H D I h
  exact wpAny_Return_some (thn (he pins s σ H _ I h) fun v s1 ⟨x, H1, I1, r1, q1⟩ => ⟨x, σ, H1, I1, r1, q1⟩)
def tIfS (c : TT) (t u : TS) : TS := fun D σ H => c σ H fun b H1 => if b = true then t D σ H1 else u D σ H1
theorem ps_if {c : Expr} {a b : List Stmt} {tc : TT} (hc : PT X c tc) (ha : PSs X a t) (hb : PSs X b u) : PS X (.If c a b pos) (tIfS tc t u) := by
  intro pins s σ H D I h
  refine wpAny_If (thn (hc pins s σ H _ I h) fun d s1 ⟨H1, I1, q1⟩ => ?_)
  cases d with
  | true => exact ha pins s1 σ H1 D I1 q1
  | false => exact hb pins s1 σ H1 D I1 q1
end
/-! ### targets -/
abbrev TG := V → St → Hp → (St → Hp → Prop) → Prop
abbrev TGs := List V → St → Hp → (St → Hp → Prop) → Prop
def PG (X : Cx) (target : Expr) (t : TG) : Prop :=
  ∀ (pins : List (Addr × Obj)) (s : Shared) (σ : St) (H : Hp) (v : V) (u : Value) (Q : St → Hp → Prop), Inv X pins σ H s → RelV v u → t v σ H Q →
    wpAny (model X.prog X.w) X.A (assign target X.env u) (fun _ s' => ∃ σ' H', Inv X pins σ' H' s' ∧ Q σ' H') X.xe s
/-- several targets, one after another -/
def PGs (X : Cx) (ts : List Expr) (t : TGs) : Prop :=
  ∀ (pins : List (Addr × Obj)) (s : Shared) (σ : St) (H : Hp) (vs : List V) (us : List Value) (Q : St → Hp → Prop), Inv X pins σ H s → Vals vs us → t vs σ H Q →
    wpAny (model X.prog X.w) X.A (assignInOrder ((assignEach ts X.env).map (·.2)) us) (fun _ s' => ∃ σ' H', Inv X pins σ' H' s' ∧ Q σ' H') X.xe s
/-- o[i] = v, by values -/
abbrev TSet := V → V → V → Hp → (Hp → Prop) → Prop
def PSet (X : Cx) (t : TSet) : Prop :=
  ∀ (pins : List (Addr × Obj)) (s : Shared) (σ : St) (H : Hp) (o i v : V) (ov iv u : Value) (Q : Hp → Prop), Inv X pins σ H s → RelV o ov → RelV i iv → RelV v u → t o i v H Q →
    wpAny (model X.prog X.w) X.A (setItem ov iv u) (fun _ s' => ∃ H', Inv X pins σ H' s' ∧ Q H') X.xe s
section
variable {X : Cx} {pos : Pos}
def gName (i : Nat) : TG := fun v σ H Q => Q (σ.set i (some v)) H
theorem pg_name {i : Nat} {x : Str} (hN : X.N.Nodup) (hi : X.N[i]? = some x) (hx : Loc X.env.scope x) (hf : X.fn x = true ∨ X.env.scope.names.lookup x = some .local := by first | exact .inl rfl | exact .inr rfl | assumption) : PG X (.Name x pos) (gName i) := by
  intro pins s σ H v u Q I r h
  exact wpAny_assign_Name (store_ok I hN hi hx r (fun s' I' => ⟨_, H, I', h⟩) hf)
def gNil : TGs := fun vs σ H Q => vs = [] ∧ Q σ H
def gCons (t : TG) (u : TGs) : TGs := fun vs σ H Q => ∃ v r, vs = v :: r ∧ t v σ H fun σ' H' => u r σ' H' Q
theorem pgs_nil : PGs X [] gNil := by
  intro pins s σ H vs us Q I r h
  obtain ⟨e, h⟩ := h
  subst e
  cases r
  exact assignInOrder_nil ⟨σ, H, I, h⟩
theorem pgs_cons {e : Expr} {es : List Expr} {t : TG} {u : TGs} (h1 : PG X e t) (h2 : PGs X es u)
    (hs : (assignEach (e :: es) X.env).map (·.2) = assign e X.env :: (assignEach es X.env).map (·.2) := by rfl) : PGs X (e :: es) (gCons t u) := by
  intro pins s σ H vs us Q I r h
  obtain ⟨v, vr, e1, h⟩ := h
  subst e1
  cases r with
  | cons r rr =>
    rw [hs]
    refine assignInOrder_cons (thn (h1 pins s σ H _ _ _ I r h) fun _ s1 ⟨σ1, H1, I1, q1⟩ => ?_)
    exact h2 pins s1 σ1 H1 _ _ Q I1 rr q1
/-- (a, b, ..) = a tuple of that length -/
def gTup (K : PySem.W.Frag) (n : Nat) (t : TGs) : TG := fun v σ H Q => ∃ a xs, v = .ref a ∧ SqT K H a xs ∧ xs.length = n ∧ t xs σ H Q
theorem pg_tup {es : List Expr} {k : Nat} {t : TGs} {n : Nat} (hc : X.calm = true) (h : PGs X es t)
    (hn : (assignEach es X.env).length = n := by rfl) (hst : (assignEach es X.env).findIdx? (·.1) = none := by rfl) : PG X (.Tuple es k pos) (gTup X.K n t) := by
  intro pins s σ H v u Q I r hw
  obtain ⟨a, xs, e1, hq, hl, hw⟩ := hw
  subst e1
  cases r
  obtain ⟨its, rv, ht, hz⟩ := I.tuple hq
  refine assign_Tuple_tuple (I.ok.hd hc) ht (by simp [hn, ← hl, rv.length]) hst fun h' hx => ?_
  have I1 : Inv X pins σ H { s with heap := h' } := I.kept (t' := s.toks) fun b o e => hx b o (Nat.ne_of_lt (Heap.lt_size e)) e
  exact h pins _ σ H xs _ Q I1 (by simpa using rv) hw
/-- o[i] = .. -/
def gSub (to ti : TE) (t : TSet) : TG := fun v σ H Q => to σ H fun o H1 => ti σ H1 fun i H2 => t o i v H2 fun H3 => Q σ H3
theorem pg_sub {o i : Expr} {to ti : TE} {t : TSet} (ho : PE X o to) (hi : PE X i ti) (hs : PSet X t)
    (ha : ∀ v, assign (.Subscript o i pos) X.env v = (do
      let ov ← holding [v] (eval o X.env)
      let iv ← holding [v, ov] (eval i X.env)
      standAt pos
      holding [v, ov, iv] (setItem ov iv v)
      release [v, ov, iv] []) := by intro _; rfl) : PG X (.Subscript o i pos) (gSub to ti t) := by
  intro pins s σ H v u Q I r h
  rw [ha]
  refine wpAny_bind (wpAny_holding (thn (ho pins s σ H _ I h) fun ov s1 ⟨x, H1, I1, r1, q1⟩ => ?_))
  refine wpAny_bind (wpAny_holding (thn (hi pins s1 σ H1 _ I1 q1) fun iv s2 ⟨y, H2, I2, r2, q2⟩ => ?_))
  refine wpAny_bind (wpAny_standAt (wpAny_bind (wpAny_holding (thn (hs pins s2 σ H2 x y v ov iv u _ I2 r1 r2 r q2) fun _ s3 ⟨H3, I3, q3⟩ => ?_))))
  exact wpAny_release ⟨σ, H3, I3, q3⟩
/-- target = value -/
def tAsg (te : TE) (g : TG) : TS := fun D σ H => te σ H fun x H1 => g x σ H1 D.nx
theorem ps_asg {tg e : Expr} {te : TE} {g : TG} (he : PE X e te) (hg : PG X tg g) (hs : swapsWithSole [tg] e pos.line X.env = pure false := by rfl) (hw : swappedStores [tg] e X.env = pure none := by rfl)
    (h1 : (assignEach [tg] X.env).map (·.2) = [assign tg X.env] := by rfl) : PS X (.Assign [tg] e pos) (tAsg te g) := by
  intro pins s σ H D I h
  refine wpAny_Assign_stores (thn (he pins s σ H _ I h) fun v s1 ⟨x, H1, I1, r1, q1⟩ => ?_) hs hw
  rw [h1]
  exact thn (hg pins s1 σ H1 x v _ I1 r1 q1) fun _ s2 q => q
/-- name = value -/
theorem ps_set {i : Nat} {x : Str} {e : Expr} {te : TE} {pos' : Pos} (hN : X.N.Nodup) (hi : X.N[i]? = some x) (hx : Loc X.env.scope x) (he : PE X e te) (hs : swapsWith e (some (.Name x pos')) pos.line X.env = pure false := by rfl) (hf : X.fn x = true ∨ X.env.scope.names.lookup x = some .local := by first | exact .inl rfl | exact .inr rfl | assumption) :
    PS X (.Assign [.Name x pos'] e pos) (tAsg te (gName i)) := by
  intro pins s σ H D I h
  refine wpAny_Assign_Name (thn (he pins s σ H _ I h) fun v s1 ⟨y, H1, I1, r1, q1⟩ => ?_) hs
  exact store_ok I1 hN hi hx r1 (fun s2 I2 => ⟨_, H1, I2, q1⟩) hf
end
/-! ### while -/
section
variable {X : Cx} {pos : Pos}
/-- the invariant W with its measure -/
def tWhile (c : TT) (tb : TS) : TS := fun D σ H => ∃ W : Nat → St → Hp → Prop, (∃ m, W m σ H) ∧ ∀ m σ H, W m σ H →
  c σ H fun b H1 => if b = true then ∃ N : St → Hp → Prop, (∀ σ' H', N σ' H' → ∃ m', m' < m ∧ W m' σ' H') ∧ tb { D with nx := N, ct := N, bk := D.nx } σ H1 else D.nx σ H1
theorem ps_while {c : Expr} {body : List Stmt} {tc : TT} {tb : TS} (hp : PassesOwn (model X.prog X.w) X.A X.env X.xe) (hc : PT X c tc) (hb : PSs X body tb) : PS X (.While c body [] pos) (tWhile tc tb) := by
  intro pins s σ H D I h
  obtain ⟨W, ⟨m0, w0⟩, turn⟩ := h
  refine wpAny_While (codeAny_whileLoop (fun n s' => ∃ σ' H', Inv X pins σ' H' s' ∧ W n σ' H') ?_ m0 ⟨σ, H, I, w0⟩)
  rintro n s1 ⟨σ1, H1, I1, w1⟩
  refine wpAny_passesOwn hp (thn (hc pins s1 σ1 H1 _ I1 (turn n σ1 H1 w1)) fun b s2 ⟨H2, I2, q2⟩ => ?_)
  cases b with
  | true =>
    obtain ⟨N, hN, q2⟩ := q2
    rw [if_pos rfl]
    refine wpAny_passesOwn hp (thn (hb pins s2 σ1 H2 _ I2 q2) fun f s3 q3 => ?_)
    cases f with
    | next =>
      obtain ⟨σ3, H3, I3, n3⟩ := q3
      obtain ⟨m', hm, w3⟩ := hN σ3 H3 n3
      exact ⟨m', hm, σ3, H3, I3, w3⟩
    | cont =>
      obtain ⟨σ3, H3, I3, n3⟩ := q3
      obtain ⟨m', hm, w3⟩ := hN σ3 H3 n3
      exact ⟨m', hm, σ3, H3, I3, w3⟩
    | brk => exact q3
    | ret v => exact q3
  | false =>
    rw [if_neg Bool.false_ne_true]
    exact wpAny_execs_nil ⟨σ1, H2, I2, q2⟩
end
/-! ### what a loop or a comprehension walks -/
/-- at turn i: it yields x (the heap may grow), or it stops -/
structure It where
  go : Nat → Hp → Prop
  yld : Nat → Hp → V → Hp → Prop
  stop : Nat → Hp → Prop
/-- the iterator's own objects may turn: they are not the frame's, not pinned, younger than the entry (or a comprehension's own) -/
def FpOk (X : Cx) (pins : List (Addr × Obj)) (H : Hp) (b : Addr) : Prop :=
  H b = none ∧ b ≠ X.env.locals ∧ b ∉ X.fs ∧ (b ∈ X.ex ∨ X.s_0.heap.objs.size ≤ b) ∧ (∀ x c, X.env.cells.lookup x = some c → c ≠ b) ∧ ∀ p ∈ X.pn ++ pins, p.1 ≠ b
theorem Inv.fpOk {X : Cx} {pins : List (Addr × Obj)} {σ : St} {H H' : Hp} {s : Shared} {b : Addr} (I : Inv X pins σ H s) (hb : s.heap.objs.size ≤ b) (hn : H' b = none) : FpOk X pins H' b := by
  refine ⟨hn, Nat.ne_of_gt (Nat.lt_of_lt_of_le I.lt hb), I.nofs hb, .inr (Nat.le_trans I.sz hb), fun x c e z => ?_, fun p hp z => ?_⟩
  · obtain ⟨v, q⟩ := I.cell x c e
    exact absurd (Nat.lt_of_lt_of_le q.lt (by rw [z]; exact hb)) (Nat.lt_irrefl _)
  · exact absurd (Nat.lt_of_lt_of_le (Heap.lt_size (I.pin p hp).1) (by rw [z]; exact hb)) (Nat.lt_irrefl _)
structure Turn (P : Program) (w : World) (K : PySem.W.Frag) (tg : Expr) (J : It) (fp : List Addr) (it : Addr) (tn : Nat → Heap → Prop) : Prop where
  mem : it ∈ fp
  obj : ∀ i h, tn i h → ∀ b ∈ fp, ∃ o, h.get? b = some o ∧ ∀ v, o.data ≠ .cell v
  keep : ∀ i h h', tn i h → (∀ b ∈ fp, ∀ o, h.get? b = some o → h'.get? b = some o) → tn i h'
  item : ∀ (X : Cx), X.prog = P → X.w = w → X.K = K → X.calm = true → ∀ (i : Nat) (pins : List (Addr × Obj)) (s : Shared) (σ : St) (H : Hp) (E : Value → Shared → Prop), Inv X pins σ H s → (∀ b ∈ fp, FpOk X pins H b) → tn i s.heap → J.go i H →
    wpAny (model P w) X.A (pyNext (.ref it)) (fun r s1 => ∃ u, r = some u ∧
      wpAny (model P w) X.A (letOwnedTupleGo tg (.ref it) u) (fun _ s2 => ∃ x H', Inv X pins σ H' s2 ∧ RelV x u ∧ J.yld i H x H' ∧ tn (i + 1) s2.heap ∧ ∀ b ∈ fp, H' b = none) E s1) E s
  done : ∀ (X : Cx), X.prog = P → X.w = w → X.K = K → X.calm = true → ∀ (i : Nat) (pins : List (Addr × Obj)) (s : Shared) (σ : St) (H : Hp) (E : Value → Shared → Prop), Inv X pins σ H s → (∀ b ∈ fp, FpOk X pins H b) → tn i s.heap → J.stop i H →
    wpAny (model P w) X.A (pyNext (.ref it)) (fun r s1 => r = none ∧ Inv X pins σ H s1) E s
  self : ∀ (A : Around) (i : Nat) (s : Shared) (Q : Value → Shared → Prop) (E : Value → Shared → Prop), tn i s.heap → Q (.ref it) s → wpAny (model P w) A (pyIter (.ref it)) Q E s
abbrev TI := St → Hp → (It → Hp → Prop) → Prop
/-- an iterator has come -/
def PIE (X : Cx) (pins : List (Addr × Obj)) (σ : St) (tg : Expr) (R : It → Hp → Prop) (itv : Value) (s2 : Shared) : Prop :=
  ∃ (it : Addr) (fp : List Addr) (tn : Nat → Heap → Prop) (J : It) (H' : Hp), itv = .ref it ∧ Inv X pins σ H' s2 ∧ Turn X.prog X.w X.K tg J fp it tn ∧ tn 0 s2.heap ∧ (∀ b ∈ fp, FpOk X pins H' b) ∧ R J H'
def PI (X : Cx) (tg iter : Expr) (wi : TI) : Prop :=
  ∀ (pins : List (Addr × Obj)) (s : Shared) (σ : St) (H : Hp) (R : It → Hp → Prop), Inv X pins σ H s → wi σ H R →
    wpAny (model X.prog X.w) X.A (eval iter X.env) (fun v s1 => wpAny (model X.prog X.w) X.A (pyIter v) (PIE X pins σ tg R) X.xe s1) X.xe s
/-- the step ahead of the store is nothing for an iterator that keeps no tuple -/
theorem go_of {M : Model} {A : Around} {E : Value → Shared → Prop} {s : Shared} {tg : Expr} {it : Addr} {u : Value} {o : Obj} {n : String} {vs : Array Value} {Q : Unit → Shared → Prop} (ho : s.heap.get? it = some o) (hc : o.cls = .type n) (hd : o.data = .fields vs)
    (hn : ["enumerate", "zip", "dict_itemiterator", "dict_reverseitemiterator", "odict_iterator", "itertools.zip_longest", "itertools.pairwise"].contains n = false) (hQ : Q () s) : wpAny M A (letOwnedTupleGo tg (.ref it) u) Q E s := by
  unfold letOwnedTupleGo
  cases tg <;> first
    | exact wpAny_pure hQ
    | (cases u <;> first
        | exact wpAny_pure hQ
        | (refine wpAny_bind (wpAny_load ho ?_)
           rw [hc, hd]
           show wpAny M A (if (["enumerate", "zip", "dict_itemiterator", "dict_reverseitemiterator", "odict_iterator", "itertools.zip_longest", "itertools.pairwise"].contains n && vs[0]? == some (rawInt _)) = true then _ else _) Q E s
           rw [if_neg (by intro h; rw [hn, Bool.false_and] at h; cases h)]
           exact wpAny_pure hQ))
/-- the list at a, as it stands at each turn (a loop may append to it) -/
def Itl (K : PySem.W.Frag) (a : Addr) : It :=
  ⟨fun i H => ∃ xs x, SqL K H a xs ∧ xs[i]? = some x, fun i H x H' => H' = H ∧ ∀ xs, SqL K H a xs → xs[i]? = some x, fun i H => ∃ xs, SqL K H a xs ∧ xs.length ≤ i⟩
/-- lo, lo + 1, .. (n of them) -/
def Itr (lo : Int) (n : Nat) : It := ⟨fun i _ => i < n, fun i H x H' => H' = H ∧ x = .int (lo + i), fun i _ => n ≤ i⟩
theorem turn_list {P : Program} {w : World} {K : PySem.W.Frag} {tg : Expr} (a it : Addr) : Turn P w K tg (Itl K a) [it] it (fun i h => h.IsListIter it a i) where
  mem := by simp
  obj := fun i h st b hb => by
    have e : b = it := by simpa using hb
    subst e
    obtain ⟨o, e, c, d⟩ := st
    exact ⟨o, e, fun v z => by rw [d] at z; cases z⟩
  keep := fun i h h' st k => st.at fun o e => k it (by simp) o e
  item := by
    intro X hP hw hK hc i pins s σ H E I hf st hg
    subst hP hw hK
    obtain ⟨xs, x, hq, hx⟩ := hg
    obtain ⟨its, rv, p, hz⟩ := I.list hq
    obtain ⟨u, hu, ru⟩ := rv.get hx
    obtain ⟨f0, f1, f2, f3, f4, f5⟩ := hf it (by simp)
    refine wpAny_pyNext_list_item st p.isList (x := u) (by simpa using hu) fun h' st' sb => ?_
    have I1 : Inv X pins σ H { s with heap := h' } := I.turned (t' := s.toks) (fun b o hb e => (sb.2 b hb).trans e) f0 f1 f3 f4 f5
    obtain ⟨o, e, c, d⟩ := id st'
    exact ⟨u, rfl, go_of (s := { s with heap := h' }) e c d (by decide) ⟨x, H, I1, ru, ⟨rfl, fun ys hy => by rw [I.list_inj hy hq]; exact hx⟩, st', fun b hb => (hf b hb).1⟩⟩
  done := by
    intro X hP hw hK hc i pins s σ H E I hf st hg
    subst hP hw hK
    obtain ⟨xs, hq, hx⟩ := hg
    obtain ⟨its, rv, p, hz⟩ := I.list hq
    obtain ⟨f0, f1, f2, f3, f4, f5⟩ := hf it (by simp)
    have hl := rv.length
    exact wpAny_pyNext_list_end (I.ok.hd hc) st p.isList (by simp; omega) fun h' eb => ⟨rfl, I.turned (t' := s.toks) (fun b o hb e => eb b o hb e) f0 f1 f3 f4 f5⟩
  self := fun _ _ _ _ _ st h => wpAny_pyIter_listiter st h
theorem turn_range {P : Program} {w : World} {K : PySem.W.Frag} {tg : Expr} (it : Addr) (lo : Int) (n : Nat) : Turn P w K tg (Itr lo n) [it] it (fun i h => IsRangeIter h it (lo + (i : Nat) * 1) ((n : Int) - (i : Nat)) 1) where
  mem := by simp
  obj := fun i h st b hb => by
    have e : b = it := by simpa using hb
    subst e
    exact ⟨_, st, fun v z => by
      have z' : Data.fields _ = Data.cell v := z
      cases z'⟩
  keep := fun i h h' st k => k it (by simp) _ st
  item := by
    intro X hP hw hK hc i pins s σ H E I hf st hg
    subst hP hw hK
    obtain ⟨f0, f1, f2, f3, f4, f5⟩ := hf it (by simp)
    have W := Walks.range (prog := X.prog) (w := X.w) (I.ok.hd hc) it lo 1 n
    refine W.item i s _ _ hg st fun v h' tk hv st' kk => ?_
    obtain ⟨t, rfl⟩ := hv
    have I1 : Inv X pins σ H { s with heap := h', toks := tk } := I.turned (fun b o hb e => kk b o (by simpa using hb) e) f0 f1 f3 f4 f5
    refine ⟨_, rfl, go_of (s := { s with heap := h', toks := tk }) (n := "range_iterator") st' rfl rfl (by decide) ⟨.int (lo + i), H, I1, ⟨t, ?_⟩, ⟨rfl, rfl⟩, st', fun b hb => (hf b hb).1⟩⟩
    rw [Int.mul_one]
  done := by
    intro X hP hw hK hc i pins s σ H E I hf st hg
    subst hP hw hK
    obtain ⟨f0, f1, f2, f3, f4, f5⟩ := hf it (by simp)
    exact wpAny_pyNext_range_end (I.ok.hd hc) st (by have : n ≤ i := hg; omega) fun h' eb => ⟨rfl, I.turned (t' := s.toks) (fun b o hb e => eb b o hb e) f0 f1 f3 f4 f5⟩
  self := fun _ _ _ _ _ st h => wpAny_pyIter_rangeiter st h
end L2
namespace L2
open PySem PySem.Spec PyProof.Rows
section
variable {X : Cx} {tg : Expr}
def iList (K : PySem.W.Frag) (tl : TE) : TI := fun σ H R => tl σ H fun x H1 => ∃ a, x = .ref a ∧ (∃ xs, SqL K H1 a xs) ∧ R (Itl K a) H1
theorem pi_list {l : Expr} {tl : TE} (hl : PE X l tl) : PI X tg l (iList X.K tl) := by
  intro pins s σ H R I h
  refine thn (hl pins s σ H _ I h) fun v s1 ⟨x, H1, I1, r1, q1⟩ => ?_
  obtain ⟨a, e, ⟨xs, hq⟩, q⟩ := q1
  subst e
  cases r1
  obtain ⟨its, rv, p, hz⟩ := I1.list hq
  refine wpAny_pyIter_list p.isList ?_
  refine ⟨s1.heap.objs.size, [s1.heap.objs.size], _, _, H1, rfl, I1.kept (t' := s1.toks) fun b o e => Heap.get?_push_of_some _ e, turn_list a _, ⟨_, Heap.get?_push_size _ rfl, rfl, rfl⟩, fun b hb => ?_, q⟩
  have e : b = s1.heap.objs.size := by simpa using hb
  subst e
  exact I1.fpOk (Nat.le_refl _) (I1.hok.fresh (Nat.le_refl _))
/-- a range object just made, walked -/
theorem range_it {pins : List (Addr × Obj)} {σ : St} {H : Hp} {s : Shared} {R : It → Hp → Prop} {E : Value → Shared → Prop} {lo hi : Int} {t u v : Tok} {tk : Nat} (I : Inv X pins σ H s) (h1 : -(2 ^ 62) ≤ lo) (h2 : lo < 2 ^ 62) (h3 : -(2 ^ 62) ≤ hi) (h4 : hi < 2 ^ 62)
    (q : R (Itr lo (hi - lo).toNat) H) : wpAny (model X.prog X.w) X.A (pyIter (.ref s.heap.objs.size)) (PIE X pins σ tg R) E { s with heap := s.heap.push { cls := .type "range", data := .fields #[.int lo t, .int hi u, .int 1 v] }, toks := tk } := by
  refine wpAny_pyIter_range (IsRange.new ..) (small_one h1 h2 h3 h4) ?_
  have I1 : Inv X pins σ H { s with heap := s.heap.push { cls := .type "range", data := .fields #[.int lo t, .int hi u, .int 1 v] }, toks := tk } := I.kept fun b o e => Heap.get?_push_of_some _ e
  refine ⟨(s.heap.push { cls := .type "range", data := .fields #[.int lo t, .int hi u, .int 1 v] }).objs.size, [(s.heap.push { cls := .type "range", data := .fields #[.int lo t, .int hi u, .int 1 v] }).objs.size], _, _, H, rfl,
    I1.kept (t' := tk) fun b o e => Heap.get?_push_of_some _ e, turn_range _ lo (hi - lo).toNat, ?_, fun b hb => ?_, q⟩
  · have e1 : lo + ((0 : Nat) : Int) * 1 = lo := by simp
    have e2 : (((hi - lo).toNat : Nat) : Int) - ((0 : Nat) : Int) = Builtin.Range.rangeSize lo hi 1 := by rw [rangeSize_one]; split <;> omega
    show IsRangeIter _ _ (lo + ((0 : Nat) : Int) * 1) ((((hi - lo).toNat : Nat) : Int) - ((0 : Nat) : Int)) 1
    rw [e1, e2]
    exact Heap.get?_push_size _ rfl
  · have e : b = (s.heap.push { cls := .type "range", data := .fields #[.int lo t, .int hi u, .int 1 v] }).objs.size := by simpa using hb
    subst e
    exact I1.fpOk (Nat.le_refl _) (I1.hok.fresh (Nat.le_refl _))
def iRng1 (ta : TA) : TI := fun σ H R => ta σ H fun vs H1 => ∃ j : Int, vs = [.int j] ∧ -(2 ^ 62) ≤ j ∧ j < 2 ^ 62 ∧ R (Itr 0 j.toNat) H1
def iRng2 (ta : TA) : TI := fun σ H R => ta σ H fun vs H1 => ∃ i j : Int, vs = [.int i, .int j] ∧ (-(2 ^ 62) ≤ i ∧ i < 2 ^ 62 ∧ -(2 ^ 62) ≤ j ∧ j < 2 ^ 62) ∧ R (Itr i (j - i).toNat) H1
theorem pi_range1 {a : Expr} {ta : TA} {p pos : Pos} (hg : Gl X "range") (hm : X.mg "range" = none) (ha : PA X [a] ta) (hs : starEach [a] X.env = [(false, eval a X.env)] := by rfl) : PI X tg (.Call (.Name "range" p) [a] [] pos) (iRng1 ta) := by
  intro pins s σ H R I h
  refine Call_ (ld_blt I hg hm boot_range (PyProof.Rows.callWith_type1 (thn (ha pos pins s σ H _ I h) fun us s1 ⟨vs, H1, I1, r1, q1⟩ => ?_) hs rfl))
  obtain ⟨j, e, q1, q2, q⟩ := q1
  subst e
  cases r1 with
  | cons r rr =>
    cases rr
    obtain ⟨t, rfl⟩ := r
    exact call_range_1 (range_it I1 (by omega) (by omega) q1 q2 (by simpa using q))
theorem pi_range2 {a b : Expr} {ta : TA} {p pos : Pos} (hg : Gl X "range") (hm : X.mg "range" = none) (ha : PA X [a, b] ta) (hs : starEach [a, b] X.env = [(false, eval a X.env), (false, eval b X.env)] := by rfl) (hs2 : starEach [b] X.env = [(false, eval b X.env)] := by rfl) :
    PI X tg (.Call (.Name "range" p) [a, b] [] pos) (iRng2 ta) := by
  intro pins s σ H R I h
  refine Call_ (ld_blt I hg hm boot_range (PyProof.Rows.callWith_type1 (thn (ha pos pins s σ H _ I h) fun us s1 ⟨vs, H1, I1, r1, q1⟩ => ?_) (by rw [hs, hs2]) (by rw [hs2]; rfl)))
  obtain ⟨i, j, e, ⟨q1, q2, q3, q4⟩, q⟩ := q1
  subst e
  cases r1 with
  | cons r rr =>
    cases rr with
    | cons r' rr =>
      cases rr
      obtain ⟨t, rfl⟩ := r
      obtain ⟨t', rfl⟩ := r'
      exact call_range_2 (range_it I1 q1 q2 q3 q4 q)
/-! ### for -/
/-- W: the invariant by the turn and a measure; N: what the body is to reach -/
def tFor (wi : TI) (g : TG) (tb : TS) : TS := fun D σ H => wi σ H fun J H1 => ∃ W : Nat → Nat → St → Hp → Prop, (∃ m, W 0 m σ H1) ∧ ∀ i m σ H, W i m σ H →
  (J.stop i H ∧ D.nx σ H) ∨ (J.go i H ∧ ∃ N : St → Hp → Prop, (∀ σ' H', N σ' H' → ∃ m', m' < m ∧ W (i + 1) m' σ' H') ∧ ∀ x H', J.yld i H x H' → g x σ H' fun σ2 H2 => tb { D with nx := N, ct := N, bk := D.nx } σ2 H2)
/-- the records at fp as they stand -/
def pinsAt (fp : List Addr) (h : Heap) : List (Addr × Obj) := fp.filterMap fun b => (h.get? b).map fun o => (b, o)
theorem mem_pinsAt {fp : List Addr} {h : Heap} {b : Addr} {o : Obj} (hb : b ∈ fp) (e : h.get? b = some o) : (b, o) ∈ pinsAt fp h := List.mem_filterMap.mpr ⟨b, hb, by rw [e]; rfl⟩
theorem of_pinsAt {fp : List Addr} {h : Heap} {p : Addr × Obj} (hp : p ∈ pinsAt fp h) : p.1 ∈ fp ∧ h.get? p.1 = some p.2 := by
  obtain ⟨b, hb, e⟩ := List.mem_filterMap.mp hp
  cases q : h.get? b with
  | none => rw [q] at e; cases e
  | some o =>
    rw [q] at e
    have e' : (b, o) = p := Option.some.inj e
    subst e'
    exact ⟨hb, q⟩
theorem Inv.pinned {pins : List (Addr × Obj)} {σ : St} {H : Hp} {s : Shared} {fp : List Addr} (I : Inv X pins σ H s) (hf : ∀ b ∈ fp, FpOk X pins H b) (ho : ∀ b ∈ fp, ∃ o, s.heap.get? b = some o ∧ ∀ v, o.data ≠ .cell v) : Inv X (pins ++ pinsAt fp s.heap) σ H s :=
  I.pins_of fun p hp => (List.mem_append.mp hp).elim (fun z => I.pin p (List.mem_append_right _ z)) fun z => by
    obtain ⟨hb, e⟩ := of_pinsAt z
    obtain ⟨f0, f1, f2, _⟩ := hf p.1 hb
    obtain ⟨o, e', d⟩ := ho p.1 hb
    rw [e] at e'; cases e'
    exact ⟨e, f0, f1, f2, d⟩
theorem Inv.unpinned {pins pl : List (Addr × Obj)} {σ : St} {H : Hp} {s : Shared} (I : Inv X (pins ++ pl) σ H s) : Inv X pins σ H s := I.pins_of fun p hp => I.pin p (List.mem_append_right _ (List.mem_append_left _ hp))
theorem ps_for {iter : Expr} {body : List Stmt} {wi : TI} {g : TG} {tb : TS} {pos : Pos} (hp : PassesOwn (model X.prog X.w) X.A X.env X.xe) (hc : X.calm = true) (hi : PI X tg iter wi) (hg : PG X tg g) (hb : PSs X body tb)
    (hs : ∀ x, foldedSetIterable iter X.env x = pure x := by intro _; rfl) : PS X (.For tg iter body [] pos) (tFor wi g tb) := by
  intro pins s σ H D I h
  refine wpAny_For (thn (hi pins s σ H _ I h) fun v s1 h1 => thn h1 fun itv s2 h2 => ?_) hs
  obtain ⟨it, fp, tn, J, H2, e, I2, T, st2, f2, W, ⟨m0, w0⟩, turn⟩ := h2
  subst e
  -- what stays true of the iterator's objects through the loop
  have stat : ∀ {H' : Hp}, (∀ b ∈ fp, H' b = none) → ∀ b ∈ fp, FpOk X pins H' b := fun hn b hb => ⟨hn b hb, (f2 b hb).2⟩
  refine codeAny_forLoop_any (fun n s' => ∃ i σ' H', Inv X pins σ' H' s' ∧ tn i s'.heap ∧ (∀ b ∈ fp, H' b = none) ∧ W i n σ' H') ?_ m0 ⟨0, σ, H2, I2, st2, fun b hb => (f2 b hb).1, w0⟩
  rintro n s3 ⟨i, σ3, H3, I3, st3, fr3, w3⟩
  rcases turn i n σ3 H3 w3 with ⟨stop, qn⟩ | ⟨go, N, hN, step⟩
  · refine wpAny_passesOwn hp (thn (T.done X rfl rfl rfl hc i pins s3 σ3 H3 X.xe I3 (stat fr3) st3 stop) fun r s4 ⟨hr, I4⟩ => ?_)
    subst hr
    exact wpAny_execs_nil ⟨σ3, H3, I4, qn⟩
  · refine wpAny_passesOwn hp (thn (T.item X rfl rfl rfl hc i pins s3 σ3 H3 X.xe I3 (stat fr3) st3 go) fun r s4 ⟨u, hr, h4⟩ => ?_)
    subst hr
    refine wpAny_passesOwn hp (thn h4 fun _ s5 ⟨x, H5, I5, r5, y5, st5, fr5⟩ => ?_)
    have I5' := I5.pinned (stat fr5) (T.obj _ _ st5)
    refine wpAny_passesOwn hp (thn (hg _ s5 σ3 H5 x u _ I5' r5 (step x H5 y5)) fun _ s6 ⟨σ6, H6, I6, q6⟩ => ?_)
    refine wpAny_passesOwn hp (thn (hb _ s6 σ6 H6 _ I6 q6) fun f s7 q7 => ?_)
    have again : ∀ {σ7 : St} {H7 : Hp}, Inv X (pins ++ pinsAt fp s5.heap) σ7 H7 s7 → N σ7 H7 → ∃ m, m < n ∧ ∃ i σ' H', Inv X pins σ' H' s7 ∧ tn i s7.heap ∧ (∀ b ∈ fp, H' b = none) ∧ W i m σ' H' := fun {σ7 H7} I7 n7 => by
      obtain ⟨m', hm, w7⟩ := hN σ7 H7 n7
      refine ⟨m', hm, i + 1, σ7, H7, I7.unpinned, T.keep _ _ _ st5 fun b hb o e => (I7.pin (b, o) (List.mem_append_right _ (List.mem_append_right _ (mem_pinsAt hb e)))).1, fun b hb => ?_, w7⟩
      obtain ⟨o, e, d⟩ := T.obj _ _ st5 b hb
      exact (I7.pin (b, o) (List.mem_append_right _ (List.mem_append_right _ (mem_pinsAt hb e)))).2.1
    cases f with
    | next => obtain ⟨σ7, H7, I7, n7⟩ := q7; exact again I7 n7
    | cont => obtain ⟨σ7, H7, I7, n7⟩ := q7; exact again I7 n7
    | brk => obtain ⟨σ7, H7, I7, q7⟩ := q7; exact ⟨σ7, H7, I7.unpinned, q7⟩
    | ret v => obtain ⟨x7, σ7, H7, I7, r7, q7⟩ := q7; exact ⟨x7, σ7, H7, I7.unpinned, r7, q7⟩
end
/-! ### the forms one uses -/
/-- over a list that the body leaves as it is -/
theorem for_list {K : PySem.W.Frag} {a : Addr} {xs : List V} {g : TG} {tb : TS} {D : Ends} {σ : St} {H : Hp} (Pv : Nat → St → Hp → Prop) (h0 : Pv 0 σ H) (hl : ∀ i σ H, i ≤ xs.length → Pv i σ H → SqL K H a xs)
    (hs : ∀ i x σ H, xs[i]? = some x → Pv i σ H → g x σ H fun σ2 H2 => tb { D with nx := Pv (i + 1), ct := Pv (i + 1), bk := D.nx } σ2 H2) (hd : ∀ σ H, Pv xs.length σ H → D.nx σ H) :
    ∃ W : Nat → Nat → St → Hp → Prop, (∃ m, W 0 m σ H) ∧ ∀ i m σ H, W i m σ H →
      ((Itl K a).stop i H ∧ D.nx σ H) ∨ ((Itl K a).go i H ∧ ∃ N : St → Hp → Prop, (∀ σ' H', N σ' H' → ∃ m', m' < m ∧ W (i + 1) m' σ' H') ∧ ∀ x H', (Itl K a).yld i H x H' → g x σ H' fun σ2 H2 => tb { D with nx := N, ct := N, bk := D.nx } σ2 H2) := by
  refine ⟨fun i m σ H => m = xs.length - i ∧ i ≤ xs.length ∧ Pv i σ H, ⟨xs.length, by simp, Nat.zero_le _, h0⟩, ?_⟩
  rintro i m σ H ⟨rfl, hi, p⟩
  have q := hl i σ H hi p
  by_cases hlt : i < xs.length
  · refine .inr ⟨⟨xs, xs[i], q, by simp [hlt]⟩, Pv (i + 1), fun σ' H' p' => ⟨xs.length - (i + 1), by omega, rfl, hlt, p'⟩, fun x H' y => ?_⟩
    obtain ⟨e, y⟩ := y
    subst e
    exact hs i x σ _ (y xs q) p
  · have e : i = xs.length := by omega
    subst e
    exact .inl ⟨⟨xs, q, Nat.le_refl _⟩, hd σ H p⟩
theorem for_range {lo : Int} {n : Nat} {g : TG} {tb : TS} {D : Ends} {σ : St} {H : Hp} (Pv : Nat → St → Hp → Prop) (h0 : Pv 0 σ H)
    (hs : ∀ i σ H, i < n → Pv i σ H → g (.int (lo + i)) σ H fun σ2 H2 => tb { D with nx := Pv (i + 1), ct := Pv (i + 1), bk := D.nx } σ2 H2) (hd : ∀ σ H, Pv n σ H → D.nx σ H) :
    ∃ W : Nat → Nat → St → Hp → Prop, (∃ m, W 0 m σ H) ∧ ∀ i m σ H, W i m σ H →
      ((Itr lo n).stop i H ∧ D.nx σ H) ∨ ((Itr lo n).go i H ∧ ∃ N : St → Hp → Prop, (∀ σ' H', N σ' H' → ∃ m', m' < m ∧ W (i + 1) m' σ' H') ∧ ∀ x H', (Itr lo n).yld i H x H' → g x σ H' fun σ2 H2 => tb { D with nx := N, ct := N, bk := D.nx } σ2 H2) := by
  refine ⟨fun i m σ H => m = n - i ∧ i ≤ n ∧ Pv i σ H, ⟨n, by simp, Nat.zero_le _, h0⟩, ?_⟩
  rintro i m σ H ⟨rfl, hi, p⟩
  by_cases hlt : i < n
  · refine .inr ⟨hlt, Pv (i + 1), fun σ' H' p' => ⟨n - (i + 1), by omega, rfl, hlt, p'⟩, fun x H' y => ?_⟩
    obtain ⟨e, y⟩ := y
    subst e y
    exact hs i σ _ hlt p
  · have e : i = n := by omega
    subst e
    exact .inl ⟨Nat.le_refl _, hd σ H p⟩
end L2
namespace L2
open PySem PySem.Spec PyProof.Rows
abbrev R2 := V → V → Hp → VK → Prop
/-- a two-place operation on values: f is binaryOp op, inplaceOp op or compareOp op -/
def OpR (X : Cx) (f : Value → Value → Sem Value) (r : R2) : Prop :=
  ∀ (pins : List (Addr × Obj)) (s : Shared) (σ : St) (H : Hp) (x y : V) (v u : Value) (Q : VK), Inv X pins σ H s → RelV x v → RelV y u → r x y H Q →
    wpAny (model X.prog X.w) X.A (f v u) (EP X pins σ Q) X.xe s
/-- a one-place operation -/
def UnR (X : Cx) (f : Value → Sem Value) (r : V → Hp → VK → Prop) : Prop :=
  ∀ (pins : List (Addr × Obj)) (s : Shared) (σ : St) (H : Hp) (x : V) (v : Value) (Q : VK), Inv X pins σ H s → RelV x v → r x H Q →
    wpAny (model X.prog X.w) X.A (f v) (EP X pins σ Q) X.xe s
/-- a call of a value that is known (a builtin, a type) with values -/
def CallR (X : Cx) (f : Value) (r : List V → Hp → VK → Prop) : Prop :=
  ∀ (pins : List (Addr × Obj)) (s : Shared) (σ : St) (H : Hp) (xs : List V) (us : List Value) (Q : VK), Inv X pins σ H s → Vals xs us → r xs H Q →
    wpAny (model X.prog X.w) X.A (call f us) (EP X pins σ Q) X.xe s
def tOp (r : R2) (ta tb : TE) : TE := fun σ H Q => ta σ H fun x H1 => tb σ H1 fun y H2 => r x y H2 Q
def tUn (r : V → Hp → VK → Prop) (ta : TE) : TE := fun σ H Q => ta σ H fun x H1 => r x H1 Q
/-- ints in, under C, and a value out -/
def rI (C : Int → Int → Prop) (g : Int → Int → V) : R2 := fun x y H Q => ∃ i j, x = .int i ∧ y = .int j ∧ C i j ∧ Q (g i j) H
def rI0 (g : Int → Int → V) : R2 := fun x y H Q => ∃ i j, x = .int i ∧ y = .int j ∧ Q (g i j) H
def rU (g : Int → V) : V → Hp → VK → Prop := fun x H Q => ∃ i, x = .int i ∧ Q (g i) H
section
variable {X : Cx} {a b c : Expr} {ta tb tc : TE} {pos : Pos}
theorem binT (ha : PE X a ta) (hb : PE X b tb) {pins : List (Addr × Obj)} {s : Shared} {σ : St} {H : Hp} {R : V → V → Hp → Prop} (I : Inv X pins σ H s)
    (h : ta σ H fun x H1 => tb σ H1 fun y H2 => R x y H2) {Q : Value → Shared → Prop} {f : Value → Value → Sem Value}
    (hf : ∀ v u s2 x y H2, Inv X pins σ H2 s2 → RelV x v → RelV y u → R x y H2 → wpAny (model X.prog X.w) X.A (f v u) Q X.xe s2) :
    wpAny (model X.prog X.w) X.A (eval a X.env) (fun v s₁ => wpAny (model X.prog X.w) X.A (eval b X.env) (fun u s₂ => wpAny (model X.prog X.w) X.A (f v u) Q X.xe s₂) X.xe s₁) X.xe s := by
  refine thn (ha pins s σ H _ I h) fun v s1 ⟨x, H1, I1, r1, q1⟩ => ?_
  refine thn (hb pins s1 σ H1 _ I1 q1) fun u s2 ⟨y, H2, I2, r2, q2⟩ => ?_
  exact hf v u s2 x y H2 I2 r1 r2 q2
theorem pe_op {op : Operator} {r : R2} (ho : OpR X (binaryOp op) r) (ha : PE X a ta) (hb : PE X b tb) : PE X (.BinOp a op b pos) (tOp r ta tb) := by
  intro pins s σ H Q I h
  exact wpAny_BinOp (binT ha hb I h fun v u s2 x y H2 I2 rx ry q => ho pins s2 σ H2 x y v u Q I2 rx ry q)
theorem pe_un {op : UnaryOp} {r : V → Hp → VK → Prop} (ho : UnR X (unaryOp op) r) (ha : PE X a ta) : PE X (.UnaryOp op a pos) (tUn r ta) := by
  intro pins s σ H Q I h
  exact UnaryOp_ (thn (ha pins s σ H _ I h) fun v s1 ⟨x, H1, I1, r1, q1⟩ => ho pins s1 σ H1 x v Q I1 r1 q1)
/-! ### ints -/
theorem opI {f : Value → Value → Sem Value} {C : Int → Int → Prop} {g : Int → Int → Int}
    (rule : ∀ (i j : Int) (t u : Tok) (s : Shared) (Q : Value → Shared → Prop) (E : Value → Shared → Prop), C i j → Q (.int (g i j) s.toks) { s with toks := s.toks + 1 } → wpAny (model X.prog X.w) X.A (f (.int i t) (.int j u)) Q E s) :
    OpR X f (rI C fun i j => .int (g i j)) := by
  intro pins s σ H x y v u Q I rx ry h
  obtain ⟨i, j, rfl, rfl, hc, q⟩ := h
  obtain ⟨t, rfl⟩ := rx
  obtain ⟨t', rfl⟩ := ry
  exact rule i j t t' s _ _ hc ⟨.int (g i j), H, I.tok _, ⟨_, rfl⟩, q⟩
theorem opI0 {f : Value → Value → Sem Value} {g : Int → Int → Int}
    (rule : ∀ (i j : Int) (t u : Tok) (s : Shared) (Q : Value → Shared → Prop) (E : Value → Shared → Prop), Q (.int (g i j) s.toks) { s with toks := s.toks + 1 } → wpAny (model X.prog X.w) X.A (f (.int i t) (.int j u)) Q E s) :
    OpR X f (rI0 fun i j => .int (g i j)) := by
  intro pins s σ H x y v u Q I rx ry h
  obtain ⟨i, j, rfl, rfl, q⟩ := h
  obtain ⟨t, rfl⟩ := rx
  obtain ⟨t', rfl⟩ := ry
  exact rule i j t t' s _ _ ⟨.int (g i j), H, I.tok _, ⟨_, rfl⟩, q⟩
theorem opB0 {f : Value → Value → Sem Value} {g : Int → Int → Bool}
    (rule : ∀ (i j : Int) (t u : Tok) (s : Shared) (Q : Value → Shared → Prop) (E : Value → Shared → Prop), Q (.bool (g i j)) s → wpAny (model X.prog X.w) X.A (f (.int i t) (.int j u)) Q E s) :
    OpR X f (rI0 fun i j => .bl (g i j)) := by
  intro pins s σ H x y v u Q I rx ry h
  obtain ⟨i, j, rfl, rfl, q⟩ := h
  obtain ⟨t, rfl⟩ := rx
  obtain ⟨t', rfl⟩ := ry
  exact rule i j t t' s _ _ ⟨.bl (g i j), H, I, rfl, q⟩
def CMul (i j : Int) : Prop := (-(2 ^ 64) < i ∧ i < 2 ^ 64) ∨ (-(2 ^ 64) < j ∧ j < 2 ^ 64)
theorem CMul.ok {i j : Int} (h : CMul i j) : IntMulOk i j := by
  rcases h with ⟨h1, h2⟩ | ⟨h1, h2⟩
  · exact .of_left (intBits_le_64 h1 h2)
  · exact .of_right (intBits_le_64 h1 h2)
theorem op_add : OpR X (binaryOp .Add) (rI0 fun i j => .int (i + j)) := opI0 fun _ _ _ _ _ _ _ q => add_int q
theorem op_sub : OpR X (binaryOp .Sub) (rI0 fun i j => .int (i - j)) := opI0 fun _ _ _ _ _ _ _ q => sub_int q
theorem op_mul : OpR X (binaryOp .Mult) (rI CMul fun i j => .int (i * j)) := opI fun _ _ _ _ _ _ _ hc q => mul_int q hc.ok
/-- % by a positive divisor of any size -/
theorem op_mod : OpR X (binaryOp .Mod) (rI (fun _ j => 0 < j) fun i j => .int (i % j)) := opI fun i j _ _ _ _ _ hc q => by
  have h1 : (0 : Int) < j := hc
  exact mod_int' (by omega) (by rw [Int.fmod_eq_emod_of_nonneg i (by omega)]; exact q)
theorem unI {f : Value → Sem Value} {g : Int → Int}
    (rule : ∀ (i : Int) (t : Tok) (s : Shared) (Q : Value → Shared → Prop) (E : Value → Shared → Prop), Q (.int (g i) s.toks) { s with toks := s.toks + 1 } → wpAny (model X.prog X.w) X.A (f (.int i t)) Q E s) :
    UnR X f (rU fun i => .int (g i)) := by
  intro pins s σ H x v Q I rx h
  obtain ⟨i, rfl, q⟩ := h
  obtain ⟨t, rfl⟩ := rx
  exact rule i t s _ _ ⟨.int (g i), H, I.tok _, ⟨_, rfl⟩, q⟩
theorem un_neg : UnR X (unaryOp .USub) (rU fun i => .int (-i)) := unI fun _ _ _ _ _ q => neg_int q
/-! ### bools among ints: n += (a < b) -/
end
/-! ### comparisons -/
/-- the scalars that == tells apart as data does -/
def scal : V → V → Bool
  | .non, .non => true | .non, .int _ => true | .int _, .non => true | .non, .bl _ => true | .bl _, .non => true | .non, .str _ => true | .str _, .non => true
  | .int _, .int _ => true | .bl _, .bl _ => true | .str _, .str _ => true | .byt _, .byt _ => true
  | .int _, .str _ => true | .str _, .int _ => true | .bl _, .str _ => true | .str _, .bl _ => true
  | _, _ => false
def rEq : R2 := fun x y H Q => scal x y = true ∧ Q (.bl (decide (x = y))) H
def rNe : R2 := fun x y H Q => scal x y = true ∧ Q (.bl (!decide (x = y))) H
theorem dec_int {i j : Int} : decide (V.int i = V.int j) = (i == j) := by
  rw [Bool.eq_iff_iff]
  simp
theorem dec_bl {i j : Bool} : decide (V.bl i = V.bl j) = (i == j) := by
  rw [Bool.eq_iff_iff]
  simp
theorem dec_str {i j : Str} : decide (V.str i = V.str j) = (i == j) := by
  rw [Bool.eq_iff_iff]
  simp
theorem dec_byt {i j : Array UInt8} : decide (V.byt i = V.byt j) = (i.toList == j.toList) := by
  rw [Bool.eq_iff_iff]
  cases i
  cases j
  simp
section
variable {X : Cx} {a b c : Expr} {ta tb tc : TE} {pos : Pos}
theorem fin_bl {pins : List (Addr × Obj)} {σ : St} {H : Hp} {s : Shared} {Q : VK} {k k' : Bool} (I : Inv X pins σ H s) (q : Q (.bl k) H) (e : k = k') : EP X pins σ Q (.bool k') s := by
  subst e
  exact ⟨.bl k, H, I, rfl, q⟩
theorem op_eq : OpR X (compareOp .Eq) rEq := by
  intro pins s σ H x y v u Q I rx ry h
  obtain ⟨hs, q⟩ := h
  cases x with
  | non =>
    cases rx
    cases y with
    | non => cases ry; exact PySem.EqNone.eq_none_none (fin_bl I q (by simp))
    | bl j => cases ry; exact PySem.EqNone.eq_none_bool (fin_bl I q (by simp))
    | int j => obtain ⟨t', rfl⟩ := ry; exact PySem.EqNone.eq_none_int (fin_bl I q (by simp))
    | str j => obtain ⟨t', rfl⟩ := ry; exact PySem.EqNone.eq_none_str (fin_bl I q (by simp))
    | _ => exact absurd (show false = true from hs) Bool.false_ne_true
  | bl i =>
    cases rx
    cases y with
    | non => cases ry; exact PySem.EqNone.eq_bool_none (fin_bl I q (by simp))
    | bl j => cases ry; exact eq_bool (fin_bl I q dec_bl)
    | str j => obtain ⟨t', rfl⟩ := ry; exact PySem.EqMixed.eq_bool_str (fin_bl I q (by simp))
    | _ => exact absurd (show false = true from hs) Bool.false_ne_true
  | int i =>
    obtain ⟨t, rfl⟩ := rx
    cases y with
    | non => cases ry; exact PySem.EqNone.eq_int_none (fin_bl I q (by simp))
    | int j => obtain ⟨t', rfl⟩ := ry; exact eq_int (fin_bl I q dec_int)
    | str j => obtain ⟨t', rfl⟩ := ry; exact PySem.EqMixed.eq_int_str (fin_bl I q (by simp))
    | _ => exact absurd (show false = true from hs) Bool.false_ne_true
  | str i =>
    obtain ⟨t, rfl⟩ := rx
    cases y with
    | non => cases ry; exact PySem.EqNone.eq_str_none (fin_bl I q (by simp))
    | bl j => cases ry; exact PySem.EqMixed.eq_str_bool (fin_bl I q (by simp))
    | int j => obtain ⟨t', rfl⟩ := ry; exact PySem.EqMixed.eq_str_int (fin_bl I q (by simp))
    | str j => obtain ⟨t', rfl⟩ := ry; exact eq_str (fin_bl I q dec_str)
    | _ => exact absurd (show false = true from hs) Bool.false_ne_true
  | byt i =>
    obtain ⟨t, rfl⟩ := rx
    cases y with
    | byt j => obtain ⟨t', rfl⟩ := ry; exact PySem.W.eq_bytes (fin_bl I q dec_byt)
    | _ => exact absurd (show false = true from hs) Bool.false_ne_true
  | _ => cases y <;> exact absurd (show false = true from hs) Bool.false_ne_true
theorem op_ne : OpR X (compareOp .NotEq) rNe := by
  intro pins s σ H x y v u Q I rx ry h
  obtain ⟨hs, q⟩ := h
  cases x with
  | non =>
    cases rx
    cases y with
    | non => cases ry; exact PySem.EqNone.ne_none_none (fin_bl I q (by simp))
    | bl j => cases ry; exact PySem.EqNone.ne_none_bool (fin_bl I q (by simp))
    | int j => obtain ⟨t', rfl⟩ := ry; exact PySem.EqNone.ne_none_int (fin_bl I q (by simp))
    | str j => obtain ⟨t', rfl⟩ := ry; exact PySem.EqNone.ne_none_str (fin_bl I q (by simp))
    | _ => exact absurd (show false = true from hs) Bool.false_ne_true
  | bl i =>
    cases rx
    cases y with
    | non => cases ry; exact PySem.EqNone.ne_bool_none (fin_bl I q (by simp))
    | bl j => cases ry; exact ne_bool (fin_bl I q (congrArg not dec_bl))
    | str j => obtain ⟨t', rfl⟩ := ry; exact PySem.EqMixed.ne_bool_str (fin_bl I q (by simp))
    | _ => exact absurd (show false = true from hs) Bool.false_ne_true
  | int i =>
    obtain ⟨t, rfl⟩ := rx
    cases y with
    | non => cases ry; exact PySem.EqNone.ne_int_none (fin_bl I q (by simp))
    | int j => obtain ⟨t', rfl⟩ := ry; exact ne_int (fin_bl I q (congrArg not dec_int))
    | str j => obtain ⟨t', rfl⟩ := ry; exact PySem.EqMixed.ne_int_str (fin_bl I q (by simp))
    | _ => exact absurd (show false = true from hs) Bool.false_ne_true
  | str i =>
    obtain ⟨t, rfl⟩ := rx
    cases y with
    | non => cases ry; exact PySem.EqNone.ne_str_none (fin_bl I q (by simp))
    | bl j => cases ry; exact PySem.EqMixed.ne_str_bool (fin_bl I q (by simp))
    | int j => obtain ⟨t', rfl⟩ := ry; exact PySem.EqMixed.ne_str_int (fin_bl I q (by simp))
    | str j => obtain ⟨t', rfl⟩ := ry; exact ne_str (fin_bl I q (congrArg not dec_str))
    | _ => exact absurd (show false = true from hs) Bool.false_ne_true
  | byt i =>
    obtain ⟨t, rfl⟩ := rx
    cases y with
    | byt j => obtain ⟨t', rfl⟩ := ry; exact PySem.W.ne_bytes (fin_bl I q (congrArg not dec_byt))
    | _ => exact absurd (show false = true from hs) Bool.false_ne_true
  | _ => cases y <;> exact absurd (show false = true from hs) Bool.false_ne_true
theorem op_lt : OpR X (compareOp .Lt) (rI0 fun i j => .bl (decide (i < j))) := opB0 fun _ _ _ _ _ _ _ q => lt_int q
theorem op_le : OpR X (compareOp .LtE) (rI0 fun i j => .bl (decide (i ≤ j))) := opB0 fun _ _ _ _ _ _ _ q => le_int q
theorem op_gt : OpR X (compareOp .Gt) (rI0 fun i j => .bl (decide (j < i))) := opB0 fun _ _ _ _ _ _ _ q => gt_int q
theorem op_ge : OpR X (compareOp .GtE) (rI0 fun i j => .bl (decide (j ≤ i))) := opB0 fun _ _ _ _ _ _ _ q => ge_int q
theorem nomark (b : Expr) {op : CmpOp} (h : op ≠ .In := by decide) (h2 : op ≠ .NotIn := by decide) : behindInMarks op b = false := by
  have e1 : (op == CmpOp.In) = false := by cases op <;> first | rfl | exact absurd rfl h
  have e2 : (op == CmpOp.NotIn) = false := by cases op <;> first | rfl | exact absurd rfl h2
  cases b <;> simp [behindInMarks, e1, e2]
/-- a comparison as a value; hm: nomark b, or (for in, not in) by with_unfolding_all rfl -/
theorem pe_cmpR {op : CmpOp} {r : R2} (ho : OpR X (compareOp op) r) (ha : PE X a ta) (hb : PE X b tb) (hm : behindInMarks op b = false) : PE X (.Compare a [op] [b] pos) (tOp r ta tb) := by
  intro pins s σ H Q I h
  exact wpAny_Compare1 (binT ha hb I h fun v u s2 x y H2 I2 rx ry q => ho pins s2 σ H2 x y v u Q I2 rx ry q) hm
/-- a reading of a value as a test -/
def tTest (t : TE) : TT := fun σ H Q => t σ H fun x H' => ∃ k, x = .bl k ∧ Q k H'
theorem pt_cmpR {op : CmpOp} {r : R2} (ho : OpR X (compareOp op) r) (ha : PE X a ta) (hb : PE X b tb) (hm : behindInMarks op b = false) : PT X (.Compare a [op] [b] pos) (tTest (tOp r ta tb)) := by
  intro pins s σ H Q I h
  refine wpAny_isTrue_Compare1 (thn (ha pins s σ H _ I h) fun v s1 ⟨x, H1, I1, r1, q1⟩ => thn (hb pins s1 σ H1 _ I1 q1) fun u s2 ⟨y, H2, I2, r2, q2⟩ =>
    thn (ho pins s2 σ H2 x y v u _ I2 r1 r2 q2) fun c s3 ⟨z, H3, I3, r3, k, e, q3⟩ => ?_) hm
  subst e
  cases r3
  exact wpAny_truthy_bool ⟨H3, I3, q3⟩
/-! ### truth -/
theorem line63 : (sizeLine : Nat) < 2 ^ 63 := by rw [sizeLine_eq]; decide
/-! ### strs and bytes -/
/-! ### scalar builtins, by CallR -/
theorem vals1 {x : V} {us : List Value} (r : Vals [x] us) : ∃ u, us = [u] ∧ RelV x u := by
  cases r with
  | cons r1 r2 => cases r2; exact ⟨_, rfl, r1⟩
end
end L2
namespace L2
open PySem PySem.Spec PyProof.Rows
/-! ### an instance, its attributes a map -/
structure ObjM (h : Heap) (x dx C : Addr) (mA : Str → Option Value) : Prop where
  obj : h.get? x = some (PySem.W.instObj C dx)
  ns : h.Ns1 dx mA
  ne : dx ≠ x
theorem lookIn_ns {h : Heap} {dx : Addr} {mA : Str → Option Value} (n : h.Ns1 dx mA) : ∃ od, h.get? dx = some od ∧ ∀ name, PySem.W.lookIn name od = some (mA name) := by
  obtain ⟨o, es, ep, ho, hd, hk, _, hm⟩ := n
  refine ⟨o, ho, fun name => ?_⟩
  have e := hm name
  unfold nsFind findBy at e
  rw [← Array.find?_toList] at e
  unfold PySem.W.lookIn
  rw [hd]
  dsimp only
  split
  · rename_i y q
    rw [q] at e
    exact congrArg some e
  · rename_i q
    rw [q] at e
    have a : es.toList.any (·.refKey) = false := by
      rw [List.any_eq_false]
      intro y hy
      obtain ⟨z, t, hkey⟩ := hk y (Array.mem_toList_iff.mp hy)
      simp [DictEntry.refKey, hkey]
    have a' : ¬ es.toList.any (·.refKey) = true := by rw [a]; exact Bool.false_ne_true
    rw [if_neg a']
    exact congrArg some e
theorem ObjM.look {h : Heap} {x dx C : Addr} {mA : Str → Option Value} (I : ObjM h x dx C mA) : ∃ od, PySem.W.InstAt h x (PySem.W.instObj C dx) C (some od) ∧ ∀ name, PySem.W.lookIn name od = some (mA name) :=
  let ⟨od, ho, hl⟩ := lookIn_ns I.ns
  ⟨od, ⟨I.obj, rfl, rfl, ho⟩, hl⟩
section
variable {prog : Program} {w : World} {A : Around} {E : Value → Shared → Prop} {s : Shared} {K : PySem.W.Frag} {x dx C f : Addr} {mA : Str → Option Value} {name : Str} {v : Value}
theorem get_map {expr : Bool} {Q : Value → Shared → Prop} (X : K.In s.heap) (I : ObjM s.heap x dx C mA) (hg : PySem.W.plainGet K C name = true) (hh : PySem.W.hasDictIn K C = true)
    (ha : PySem.W.findIn K (.ref C) name = some none) (hv : mA name = some v) (hv' : PySem.W.handedIn v = true) (h : Q v { s with toks := s.toks + 1 }) :
    wpAny (model prog w) A (getAttr (.ref x) name expr) Q E s := by
  obtain ⟨od, J, hl⟩ := I.look
  exact PySem.W.get_value X J (PySem.W.plainGet_of hg).1 (PySem.W.findObj_own hh ha rfl (by rw [hl, hv])) hv' h
theorem get_meth {pl : Sem Bool} {Q : Value × List Value → Shared → Prop} (X : K.In s.heap) (I : ObjM s.heap x dx C mA) (hg : PySem.W.plainGet K C name = true)
    (hf : PySem.W.findIn K (.ref C) name = some (some (.ref f))) (ht : PySem.W.isFn K (.ref f) = true) (hv : mA name = none) (h : Q (.ref f, [.ref x]) s) :
    wpAny (model prog w) A (getMethod (.ref x) name pl) Q E s := by
  obtain ⟨od, J, hl⟩ := I.look
  exact PySem.W.method_fn X J (PySem.W.plainGet_of hg).1 (PySem.W.plainGet_of hg).2 hf (beq_iff_eq.mp ht) (by show (PySem.W.lookIn name od).map (·.isSome) = some false; rw [hl, hv]; rfl) h
theorem set_map {ns : List Str} {Q : Unit → Shared → Prop} (X : K.In s.heap) (I : ObjM s.heap x dx C mA)
    (hs : PySem.W.findIn K (.ref C) "__setattr__" = some (some (.builtin "object.__setattr__"))) (hp : PySem.W.plainOver K C = true) (ht : PySem.W.takerIn K C name = some none) (hh : PySem.W.hasDictIn K C = true)
    (hw : PySem.Within mA ns) (hsz : ns.length ≤ sizeLine)
    (h : ∀ h', ObjM h' x dx C (fun y => if y = name then some v else mA y) → Heap.SameBut dx s.heap h' → Q () { s with heap := h', toks := s.toks + 2 }) :
    wpAny (model prog w) A (setAttr (.ref x) name v) Q E s := by
  obtain ⟨od, J, hl⟩ := I.look
  refine PySem.W.set_plain X J hs (PySem.W.osa_open (s := { s with toks := s.toks + 1 }) (r := none) X J hp ht fun b => ?_)
  obtain ⟨cd, hc, hd'⟩ := PySem.W.any_some hh
  have hx : s.heap.get? x = some ⟨.ref C, some dx, .plain, #[]⟩ := I.obj
  refine wpAny_bind (wpAny_pure (wpAny_bind (wpAny_bind (wpAny_loadPart hx (wpAny_bind (PySem.W.Looks.here (s := { s with toks := s.toks + 1 }) (PySem.W.looks_clsIn X hc) ?_))))))
  rw [hd']
  refine wpAny_pure (a := some dx) (wpAny_bind (wpAny_pure (wpAny_bind ?_)))
  refine wpAny_nsSet1 (s := { s with toks := s.toks + 1 }) I.ns fun h' hn2 hs2 => ?_
  obtain ⟨oD, esD, epD, hoD, hdD, hcD⟩ := hn2.count (PySem.Within.cons name v hw)
  refine wpAny_bind (wpAny_lookBehind hoD (by rw [hdD]; exact pastItsLine_dict (Nat.le_trans hcD (by rw [List.length_cons]; omega))) ?_)
  exact wpAny_pure (h _ ⟨(hs2.2 _ (Ne.symm I.ne)).trans I.obj, hn2, I.ne⟩ hs2)
/-- C(..): the dict at the heap's end, the instance behind it; then its __init__ -/
theorem make_map {R : Result → Shared → Prop} {vs : List Value} {kw : List (Str × Value)} (X : K.In s.heap) (hm : PySem.W.makesIn K C = true)
    (hi : PySem.W.findIn K (.ref C) "__init__" = some (some (.ref f))) (hf : PySem.W.typeIn K (.ref f) = some (.type "function"))
    (h : codeAny (model prog w) (A.under (.builtin "type.__call__" ⟨.ref C :: vs, kw⟩)) (.call (.ref f) ⟨.ref (s.heap.objs.size + 1) :: vs, kw⟩) (PySem.W.InitBack (s.heap.objs.size + 1) R)
      { s with heap := (s.heap.push PySem.W.emptyDict).push (PySem.W.instObj C s.heap.objs.size) }) :
    codeAny (model prog w) A (.call (.ref C) ⟨vs, kw⟩) R s := by
  obtain ⟨hh, g, d, t, os⟩ := s
  exact PySem.W.make_core (PySem.W.makes_of X hm) (PySem.W.looks_findIn X hi) (fun self => PySem.W.bind_fn X self hf) (.inl rfl) h
end
/-! ### the attributes as a list of pairs -/
def putF (f : Str) (v : V) : List (Str × V) → List (Str × V)
  | [] => [(f, v)]
  | (g, x) :: r => if g = f then (g, v) :: r else (g, x) :: putF f v r
theorem lookup_putF (f g : Str) (v : V) : ∀ fs : List (Str × V), (putF f v fs).lookup g = if g = f then some v else fs.lookup g
  | [] => by
    show List.lookup g [(f, v)] = _
    by_cases h : g = f
    · have hb : (g == f) = true := beq_iff_eq.mpr h
      simp only [List.lookup, hb, if_pos h]
    · have hb : (g == f) = false := beq_eq_false_iff_ne.mpr h
      simp only [List.lookup, hb, if_neg h]
  | (k, x) :: r => by
    have ih := lookup_putF f g v r
    rw [show putF f v ((k, x) :: r) = (if k = f then (k, v) :: r else (k, x) :: putF f v r) from rfl]
    by_cases hk : k = f
    · rw [if_pos hk]
      by_cases h : g = k
      · have hb : (g == k) = true := beq_iff_eq.mpr h
        simp only [List.lookup, hb, if_pos (h.trans hk)]
      · have hb : (g == k) = false := beq_eq_false_iff_ne.mpr h
        simp only [List.lookup, hb, if_neg (fun e : g = f => h (e.trans hk.symm))]
    · rw [if_neg hk]
      by_cases h : g = k
      · have hb : (g == k) = true := beq_iff_eq.mpr h
        simp only [List.lookup, hb, if_neg (fun e : g = f => hk (h.symm.trans e))]
      · have hb : (g == k) = false := beq_eq_false_iff_ne.mpr h
        simp only [List.lookup, hb]
        exact ih
theorem keys_putF (f : Str) (v : V) : ∀ fs : List (Str × V), f ∈ (putF f v fs).map (·.1) ∧ ∀ g, g ∈ fs.map (·.1) → g ∈ (putF f v fs).map (·.1)
  | [] => ⟨by simp [putF], fun g h => by simp at h⟩
  | (k, x) :: r => by
    obtain ⟨i1, i2⟩ := keys_putF f v r
    rw [show putF f v ((k, x) :: r) = (if k = f then (k, v) :: r else (k, x) :: putF f v r) from rfl]
    by_cases hk : k = f
    · rw [if_pos hk]
      subst hk
      exact ⟨by simp, fun g h => by simpa using h⟩
    · rw [if_neg hk]
      refine ⟨?_, fun g h => ?_⟩
      · rw [List.map_cons]
        exact List.mem_cons_of_mem _ i1
      · rw [List.map_cons] at h ⊢
        rcases List.mem_cons.mp h with e | e
        · exact List.mem_cons.mpr (.inl e)
        · exact List.mem_cons_of_mem _ (i2 g e)
theorem length_putF (f : Str) (v : V) : ∀ fs : List (Str × V), (putF f v fs).length ≤ fs.length + 1
  | [] => by simp [putF]
  | (k, x) :: r => by
    have ih := length_putF f v r
    rw [show putF f v ((k, x) :: r) = (if k = f then (k, v) :: r else (k, x) :: putF f v r) from rfl]
    by_cases hk : k = f
    · rw [if_pos hk, List.length_cons, List.length_cons]; omega
    · rw [if_neg hk, List.length_cons, List.length_cons]; omega
theorem RelO.some_of {v : V} {o : Option Value} (r : RelO (some v) o) : ∃ u, o = some u ∧ RelV v u := by
  cases o with
  | none => exact (show False from r).elim
  | some u => exact ⟨u, rfl, r⟩
theorem RelO.none_of {o : Option Value} (r : RelO none o) : o = none := by
  cases o with
  | none => rfl
  | some u => exact (show False from r).elim
theorem handed_of {v : V} {u : Value} (r : RelV v u) : PySem.W.handedIn u = true := by
  cases v with
  | non => cases (show u = Value.none from r); rfl
  | bl b => cases (show u = Value.bool b from r); rfl
  | int i => obtain ⟨t, e⟩ := (show ∃ t, u = Value.int i t from r); cases e; rfl
  | str x => obtain ⟨t, e⟩ := (show ∃ t, u = Value.str x t from r); cases e; rfl
  | byt b => obtain ⟨t, e⟩ := (show ∃ t, u = Value.bytes b t from r); cases e; rfl
  | flt b => obtain ⟨t, e⟩ := (show ∃ t, u = Value.float b t from r); cases e; rfl
  | ref a => cases (show u = Value.ref a from r); rfl
  | ty n => cases (show u = Value.type n from r); rfl
section
variable {P : Program} {w : World} {H H' : Hp} {h h' : Heap} {a C dx : Addr} {fs fs' : List (Str × V)}
theorem ins_get (hok : HOk P w H h) (e : H a = some (.ins C dx fs)) : ∃ mA, ObjM h a dx C mA ∧ (∀ f, RelO (fs.lookup f) (mA f)) ∧ PySem.Within mA (fs.map (·.1)) ∧ fs.length ≤ 1000 ∧ H dx = some (.own a) := by
  obtain ⟨d, z, ne, ob, mA, n, r, q⟩ := (show ObjOk P w H h a (.ins C dx fs) from hok a _ e)
  exact ⟨mA, ⟨ob, n, ne⟩, r, q, z, d⟩
end
/-! ### what of the text a class must have -/
structure Cls (K : PySem.W.Frag) (C : Addr) : Prop where
  pg : PySem.W.plainGet K C Str.empty = true
  hd : PySem.W.hasDictIn K C = true
  po : PySem.W.plainOver K C = true
  sa : PySem.W.findIn K (.ref C) "__setattr__" = some (some (.builtin "object.__setattr__"))
theorem Cls.get {K : PySem.W.Frag} {C : Addr} (c : Cls K C) (f : Str) : PySem.W.plainGet K C f = true := c.pg
/-- no class of it has the name -/
def NoAttr (K : PySem.W.Frag) (C : Addr) (f : Str) : Prop := PySem.W.findIn K (.ref C) f = some none
theorem NoAttr.taker {K : PySem.W.Frag} {C : Addr} {f : Str} (n : NoAttr K C f) : PySem.W.takerIn K C f = some none := by
  unfold PySem.W.takerIn
  rw [show PySem.W.findIn K (.ref C) f = some none from n]
  rfl
/-- a constant of the class -/
structure Con (K : PySem.W.Frag) (C : Addr) (f : Str) (v : V) (u : Value) : Prop where
  at_ : PySem.W.findIn K (.ref C) f = some (some u)
  rel : RelV v u
  get : PySem.W.specialIn K u "__get__" = some none
  cp : PySem.W.copiedNames.contains f = false
/-- a method: a plain def of the class or of one above it -/
structure Meth (K : PySem.W.Frag) (C : Addr) (m : Str) (f : Addr) : Prop where
  at_ : PySem.W.findIn K (.ref C) m = some (some (.ref f))
  fn : PySem.W.isFn K (.ref f) = true
  kp : PySem.W.keepIn K (.ref f) = true
section
variable {X : Cx} {pins : List (Addr × Obj)} {σ : St} {H : Hp} {s : Shared} {a C dx : Addr} {fs : List (Str × V)} {f : Str} {v : V} {A : Around} {E : Value → Shared → Prop}
theorem getattr_ok {b : Bool} {Q : Value → Shared → Prop} (I : Inv X pins σ H s) (e : H a = some (.ins C dx fs)) (c : Cls X.K C) (n : NoAttr X.K C f) (l : fs.lookup f = some v)
    (h : ∀ u s', Inv X pins σ H s' → RelV v u → Q u s') : wpAny (model X.prog X.w) A (getAttr (.ref a) f b) Q E s := by
  obtain ⟨mA, O, r, _, _, _⟩ := ins_get I.hok e
  obtain ⟨u, hu, ru⟩ := RelO.some_of (v := v) (o := mA f) (by rw [← l]; exact r f)
  exact get_map I.kIn O (c.get f) c.hd n hu (handed_of ru) (h u _ (I.tok _) ru)
theorem getmeth_ok {m : Str} {g : Addr} {pl : Sem Bool} {Q : Value × List Value → Shared → Prop} (I : Inv X pins σ H s) (e : H a = some (.ins C dx fs)) (c : Cls X.K C) (k : Meth X.K C m g) (l : fs.lookup m = none)
    (h : Q (.ref g, [.ref a]) s) : wpAny (model X.prog X.w) A (getMethod (.ref a) m pl) Q E s := by
  obtain ⟨mA, O, r, _, _, _⟩ := ins_get I.hok e
  have hn : mA m = none := RelO.none_of (by rw [← l]; exact r m)
  exact get_meth I.kIn O (c.get m) k.at_ k.fn hn h
theorem setattr_ok {y : V} {u : Value} {Q : Unit → Shared → Prop} (I : Inv X pins σ H s) (e : H a = some (.ins C dx fs)) (c : Cls X.K C) (n : NoAttr X.K C f) (hl : fs.length < 1000) (ry : RelV y u)
    (h : ∀ s', Inv X pins σ (upd H a (.ins C dx (putF f y fs))) s' → Q () s') : wpAny (model X.prog X.w) A (setAttr (.ref a) f u) Q E s := by
  obtain ⟨mA, O, r, wi, _, ho⟩ := ins_get I.hok e
  have hz : (fs.map (·.1)).length ≤ sizeLine := by rw [List.length_map, sizeLine_eq]; omega
  refine set_map I.kIn O c.sa c.po n.taker c.hd wi hz fun h' O' sb => h _ ?_
  have hd : ∃ o, h'.get? dx = some o := let ⟨o, _, _, e', _⟩ := O'.ns; ⟨o, e'⟩
  refine I.write (x := a) (e := dx) (by rw [e]; exact True.intro) (.inr ho) (fun b q hb z => (sb.2 b hb).trans z) hd ?_
  refine ⟨by rw [upd_ne O.ne]; exact ho, ?_, O.ne, O'.obj, _, O'.ns, fun g => ?_, fun g hg => ?_⟩
  · have := length_putF f y fs; omega
  · show RelO ((putF f y fs).lookup g) (if g = f then some u else mA g)
    rw [lookup_putF]
    by_cases q : g = f
    · rw [if_pos q, if_pos q]; exact ry
    · rw [if_neg q, if_neg q]; exact r g
  · by_cases q : g = f
    · rw [q]; exact (keys_putF f y fs).1
    · refine (keys_putF f y fs).2 g (wi g fun z => hg ?_)
      show (if g = f then some u else mA g) = none
      rw [if_neg q]; exact z
/-- a new instance, tracked, without attributes -/
theorem Inv.made (I : Inv X pins σ H s) : Inv X pins σ (upd (upd H s.heap.objs.size (.own (s.heap.objs.size + 1))) (s.heap.objs.size + 1) (.ins C s.heap.objs.size []))
    { s with heap := (s.heap.push PySem.W.emptyDict).push (PySem.W.instObj C s.heap.objs.size) } := by
  have e1 : (s.heap.push PySem.W.emptyDict).get? s.heap.objs.size = some PySem.W.emptyDict := Heap.get?_push_size s.heap rfl
  have e2 : ((s.heap.push PySem.W.emptyDict).push (PySem.W.instObj C s.heap.objs.size)).get? (s.heap.objs.size + 1) = some (PySem.W.instObj C s.heap.objs.size) := by
    have := Heap.get?_push_size (s.heap.push PySem.W.emptyDict) (o := PySem.W.instObj C s.heap.objs.size) rfl
    rwa [Heap.size_push] at this
  have e3 : (s.heap.push PySem.W.emptyDict).Ns s.heap.objs.size (fun _ => none) := ⟨PySem.W.emptyDict, #[], _, e1, rfl, (fun e he => absurd he (by simp)), fun _ => rfl⟩
  have I1 := I.laid (a := s.heap.objs.size) (o := .own (s.heap.objs.size + 1)) (h' := s.heap.push PySem.W.emptyDict) (t' := s.toks) (fun b u q => Heap.get?_push_of_some _ q) (Nat.le_refl _) ⟨_, e1⟩
  refine I1.laid (a := s.heap.objs.size + 1) (o := .ins C s.heap.objs.size []) (t' := s.toks) (fun b u q => Heap.get?_push_of_some _ q) (Nat.le_of_eq (Heap.size_push _ _)) ?_
  have ne : s.heap.objs.size ≠ s.heap.objs.size + 1 := Nat.ne_of_lt (Nat.lt_succ_self _)
  refine ⟨by rw [upd_ne ne, upd_same], Nat.zero_le _, ne, e2, fun _ => none, (Heap.Ns1.of_empty e3).at fun o q => Heap.get?_push_of_some _ q, fun _ => True.intro, fun y hy => absurd rfl hy⟩
/-- e.f where nothing but the object is asked: through attributeBase (super) and the last hold -/
theorem attr_of {prog : Program} {w : World} {env : Env} {e : Expr} {f : Str} {pos : Pos} {s : Shared} {Q : Value → Shared → Prop} (hb : attributeBase e f env (eval e env) = eval e env)
    (h : wpAny (model prog w) A (eval e env) (fun o s₁ => wpAny (model prog w) A (getAttr o f true) Q E s₁) E s) : wpAny (model prog w) A (eval (.Attribute e f pos) env) Q E s :=
  Attribute_any_ h (by rw [arm_eval_Attribute, hb])
end
/-! ### readings and rules -/
/-- e.f, an attribute of the instance -/
def tFld (K : PySem.W.Frag) (ta : TE) (f : Str) : TE := fun σ H Q => ta σ H fun x H1 => ∃ a C dx fs v, x = .ref a ∧ H1 a = some (.ins C dx fs) ∧ Cls K C ∧ NoAttr K C f ∧ fs.lookup f = some v ∧ Q v H1
/-- e.f = value -/
def sFld (K : PySem.W.Frag) (ta tv : TE) (f : Str) : TS := fun D σ H => tv σ H fun y H1 => ta σ H1 fun x H2 => ∃ a C dx fs, x = .ref a ∧ H2 a = some (.ins C dx fs) ∧ Cls K C ∧ NoAttr K C f ∧ fs.length < 1000 ∧
  D.nx σ (upd H2 a (.ins C dx (putF f y fs)))
section
variable {X : Cx} {o e value : Expr} {f : Str} {pos pos' tpos : Pos} {ta tv : TE}
theorem pe_fld (he : PE X e ta) (hb : attributeBase e f X.env (eval e X.env) = eval e X.env) : PE X (.Attribute e f pos) (tFld X.K ta f) := by
  intro pins s σ H Q I h
  refine attr_of hb (thn (he pins s σ H _ I h) fun u s1 ⟨x, H1, I1, rx, a, C, dx, fs, v, ex, ea, c, n, l, q⟩ => ?_)
  subst ex
  obtain rfl : u = Value.ref a := rx
  exact getattr_ok I1 ea c n l fun u' s2 I2 ru => ⟨v, H1, I2, ru, q⟩
theorem ps_fld (ha : PE X o ta) (hv : PE X value tv) (hs : swapsWith value (some (.Attribute o f pos')) pos.line X.env = pure false) : PS X (.Assign [.Attribute o f pos'] value pos) (sFld X.K ta tv f) := by
  intro pins s σ H D I h
  refine plainObj_wpAny_Assign_Attribute (thn (hv pins s σ H _ I h) fun u s1 ⟨y, H1, I1, ry, q⟩ => thn (ha pins s1 σ H1 _ I1 q) fun ov s2 ⟨x, H2, I2, rx, a, C, dx, fs, ex, ea, c, n, l, q2⟩ => ?_) hs
  subst ex
  obtain rfl : ov = Value.ref a := rx
  exact setattr_ok I2 ea c n l ry fun s3 I3 => ⟨σ, _, I3, q2⟩
end
/-! ### isinstance -/
section
variable {X : Cx} {pins : List (Addr × Obj)} {σ : St} {H : Hp} {s : Shared} {A : Around} {E : Value → Shared → Prop} {Q : Value → Shared → Prop} {c : Value} {b : Bool}
/-- the type of a value, as the fragment's deciders take it; for an instance its class -/
inductive TyOf (K : PySem.W.Frag) (H : Hp) : V → Value → Prop where
  | non : TyOf K H .non (.type "NoneType")
  | bl (x : Bool) : TyOf K H (.bl x) (.type "bool")
  | int (i : Int) : TyOf K H (.int i) (.type "int")
  | str (x : Str) : TyOf K H (.str x) (.type "str")
  | flt (x : UInt64) : TyOf K H (.flt x) (.type "float")
  | lst {a : Addr} {xs : List V} (e : H a = some (.lst xs)) : TyOf K H (.ref a) (.type "list")
  | frz {a : Addr} {o : Obj} {xs : List V} (e : H a = some (.frz o (.lst xs))) : TyOf K H (.ref a) (.type "list")
  | tup {a : Addr} {xs : List V} (e : H a = some (.tup xs)) : TyOf K H (.ref a) (.type "tuple")
  | dK {a : Addr} {kvs : List (Key × V)} (e : H a = some (.dK kvs)) : TyOf K H (.ref a) (.type "dict")
  | dT {a : Addr} {kvs : List (List Key × V)} (e : H a = some (.dT kvs)) : TyOf K H (.ref a) (.type "dict")
  | ins {a C dx : Addr} {fs : List (Str × V)} (e : H a = some (.ins C dx fs)) (cl : Cls K C) (ha : PySem.W.findIn K (.ref C) "__class__" = some (some (.builtin "object.__class__")))
      (hn : PySem.W.specialIn K (.builtin "object.__class__") "__get__" = some (some (.builtin "getset_descriptor.__get__"))) (htk : PySem.W.takesIn K (.builtin "object.__class__") = some true)
      (hm : PySem.W.mroIn K C (.type "object") = some true) : TyOf K H (.ref a) (.ref C)
end
end L2
namespace L2
open PySem PySem.Spec PyProof.Rows
/-! ### room -/
structure Room (k : Nat) (A : Around) : Prop where
  hd : A.handled = none
  dp : A.depth + 3 * k + 5 < recursionLimit
  un : A.units + 16 * k + 200 < cLine
theorem Room.mono {j k : Nat} {A : Around} (r : Room k A) (h : j ≤ k) : Room j A := ⟨r.hd, by have := r.dp; omega, by have := r.un; omega⟩
theorem Room.deeper {k : Nat} {A : Around} (r : Room (k + 1) A) (env : Env) : Room k (A.deeper env) :=
  ⟨r.hd, by have := r.dp; show A.depth + 1 + 3 * k + 5 < _; omega, by have := r.un; show A.units + 3 + 16 * k + 200 < _; omega⟩
theorem make_depth {A : Around} {C : Addr} {us : List Value} {kw : List (Str × Value)} : (A.under (.builtin "type.__call__" ⟨.ref C :: us, kw⟩)).depth = A.depth + 1 := by
  first | rfl | simp [Around.under, Code.weight, Code.isCreation, Code.isGuard, Code.isCaller, Code.frames, Code.isFrame, guardIds]
theorem make_units {A : Around} {C : Addr} {us : List Value} {kw : List (Str × Value)} : (A.under (.builtin "type.__call__" ⟨.ref C :: us, kw⟩)).units = A.units + 1 := by
  first | rfl | simp [Around.under, Code.cUnits, Code.frames, Code.isFrame]
theorem Room.make {k : Nat} {A : Around} (r : Room (k + 1) A) (C : Addr) (us : List Value) (kw : List (Str × Value)) : Room k (A.under (.builtin "type.__call__" ⟨.ref C :: us, kw⟩)) :=
  ⟨r.hd, by have := r.dp; rw [make_depth]; omega, by have := r.un; rw [make_units]; omega⟩
theorem Room.depth {k : Nat} {A : Around} (r : Room k A) : A.depth < recursionLimit := by have := r.dp; omega
theorem Room.units {k : Nat} {A : Around} (r : Room k A) : A.units + 64 < cLine := by have := r.un; omega
/-! ### argument lists and displays -/
def tNil : TA := fun _ H Q => Q [] H
def tCons (ta : TE) (tr : TA) : TA := fun σ H Q => ta σ H fun x H1 => tr σ H1 fun xs H2 => Q (x :: xs) H2
section
variable {X : Cx} {e : Expr} {es : List Expr} {te : TE} {t : TA} {pos : Pos}
theorem pa_nil : PA X [] tNil := fun _ _ _ _ H Q I h => Calls.spliced_nil ⟨[], H, I, .nil, h⟩
theorem pa_cons (ha : PE X e te) (hr : PA X es t) (hs : starEach (e :: es) X.env = (false, eval e X.env) :: starEach es X.env := by rfl) : PA X (e :: es) (tCons te t) := by
  intro pos pins s σ H Q I h
  rw [hs]
  show wpAny _ _ (spliced ((false, eval e X.env) :: backTo pos (starEach es X.env))) _ _ s
  refine Calls.spliced_cons (thn (ha pins s σ H _ I h) fun u s1 ⟨x, H1, I1, r1, q1⟩ => ?_)
  exact thn (hr pos pins s1 σ H1 _ I1 q1) fun us s2 ⟨xs, H2, I2, r2, q2⟩ => ⟨x :: xs, H2, I2, .cons r1 r2, q2⟩
/-- a tuple, a list of written items -/
def tTup (t : TA) : TE := fun σ H Q => t σ H fun xs H1 => xs.length ≤ sizeLine ∧ ∀ p, H1 p = none → Q (.ref p) (upd H1 p (.tup xs))
def tLst (t : TA) : TE := fun σ H Q => t σ H fun xs H1 => xs.length ≤ sizeLine ∧ ∀ p, H1 p = none → Q (.ref p) (upd H1 p (.lst xs))
theorem pe_tup {x1} (h : PA X es t) : PE X (.Tuple es x1 pos) (tTup t) := by
  intro pins s σ H Q I hq
  refine wpAny_Tuple_spliced (thn (h pos pins s σ H _ I hq) fun us s1 ⟨xs, H1, I1, r, z, q⟩ => ⟨by rw [← r.length]; exact z, ?_⟩)
  have hf : H1 s1.heap.objs.size = none := I1.hok.fresh (Nat.le_refl _)
  refine ⟨.ref s1.heap.objs.size, upd H1 s1.heap.objs.size (.tup xs), I1.laid (t' := s1.toks) (fun b u e => Heap.get?_push_of_some _ e) (Nat.le_refl _) ?_, rfl, q _ hf⟩
  exact ⟨z, us, r, ⟨_, Heap.get?_push_size _ rfl, rfl, _, rfl⟩⟩
theorem pe_lst (h : PA X es t) : PE X (.List es pos) (tLst t) := by
  intro pins s σ H Q I hq
  refine wpAny_List_spliced (thn (h pos pins s σ H _ I hq) fun us s1 ⟨xs, H1, I1, r, z, q⟩ => ⟨by rw [← r.length]; exact z, ?_⟩)
  have hf : H1 s1.heap.objs.size = none := I1.hok.fresh (Nat.le_refl _)
  refine ⟨.ref s1.heap.objs.size, upd H1 s1.heap.objs.size (.lst xs), I1.laid (t' := s1.toks) (fun b u e => Heap.get?_push_of_some _ e) (Nat.le_refl _) ?_, rfl, q _ hf⟩
  exact ⟨z, us, 0, r, Heap.get?_push_size _ rfl⟩
end
/-! ### what a def promises -/
/-- a def's promise: the bound arguments in the parameters' order, the heap, the wanted end, the wanted exception -/
abbrev Sp := List V → Hp → VK → XK → Prop
/-- how an exception lies behind a call (file 08 gives it): the callers' frames, abstract heap and state ahead of the call, the wish, the exception, the state -/
abbrev CXT := List Env → Hp → Shared → XK → Value → Shared → Prop
/-- the state at a call -/
structure Env0 (P : Program) (w : World) (K : PySem.W.Frag) (mg : Str → Option Value) (base : Heap) (A : Around) (outer : List Env) (s : Shared) (H : Hp) : Prop where
  frames : A.frames = some outer
  mod : Mod K mg base
  bs : ∀ b o, base.get? b = some o → s.heap.get? b = some o ∧ H b = none
  bsz : base.objs.size ≤ s.heap.objs.size
  funs : s.heap.FunFrames base outer
  frf : ∀ b ∈ frs outer, H b = none
  hok : HOk P w H s.heap
  bare : AllBare s.gens
/-- a call's end -/
def CE (outer : List Env) (P : Program) (w : World) (H : Hp) (s : Shared) (Q : VK) (u : Value) (s' : Shared) : Prop :=
  ∃ v H', s'.os = s.os ∧ AllBare s'.gens ∧ Un (frs outer) [] H H' s.heap s'.heap ∧ HOk P w H' s'.heap ∧ RelV v u ∧ Q v H'
def CR (CX : CXT) (outer : List Env) (P : Program) (w : World) (H : Hp) (s : Shared) (Q : VK) (E : XK) (r : Result) (s' : Shared) : Prop :=
  match r with
  | .ok (.ret u) => CE outer P w H s Q u s'
  | .ok _ => False
  | .error e => CX outer H s E e s'
structure FnOk (P : Program) (w : World) (K : PySem.W.Frag) (mg : Str → Option Value) (base : Heap) (CX : CXT) (k : Nat) (f : Addr) (fd : FuncData) (ps : List Str) (sp : Sp) : Prop where
  len : ∀ vs H Q E, sp vs H Q E → vs.length = ps.length
  run : ∀ (A : Around) (outer : List Env) (s : Shared) (H : Hp) (args : Args) (us : List Value) (vs : List V) (Q : VK) (E : XK), Room k A → Env0 P w K mg base A outer s H → BindsTo s fd args (ps.zip us) → Vals vs us → sp vs H Q E →
    codeAny (model P w) A (.call (.ref f) args) (CR CX outer P w H s Q E) s
theorem Env0.make {P : Program} {w : World} {K : PySem.W.Frag} {mg : Str → Option Value} {base : Heap} {A : Around} {outer : List Env} {s : Shared} {H : Hp} (e : Env0 P w K mg base A outer s H) (C : Addr) (us : List Value) (kw : List (Str × Value)) :
    Env0 P w K mg base (A.under (.builtin "type.__call__" ⟨.ref C :: us, kw⟩)) outer s H := ⟨by first | exact e.frames | (simpa [Around.under, Code.envs, Code.isFrame, pushEnvs] using e.frames), e.mod, e.bs, e.bsz, e.funs, e.frf, e.hok, e.bare⟩
section
variable {X : Cx} {pins : List (Addr × Obj)} {σ : St} {H : Hp} {s s' : Shared}
/-- from a body: what a callee wants -/
theorem Inv.env0 (I : Inv X pins σ H s) : Env0 X.prog X.w X.K X.mg X.base X.A X.stack s H :=
  ⟨I.ok.frames, I.ok.mod, I.bs, Nat.le_trans I.ok.bsz I.sz, I.stack, I.stkFree, I.hok, I.bare⟩
/-- behind a call -/
theorem Inv.after {Q : VK} {u : Value} (I : Inv X pins σ H s) (h : CE X.stack X.prog X.w H s Q u s') : EP X pins σ Q u s' := by
  obtain ⟨v, H', os, bare, un, hok, r, q⟩ := h
  obtain ⟨hh, g, d, t, os'⟩ := s'
  obtain rfl : os' = s.os := os
  exact ⟨v, H', I.call (h' := hh) (g' := g) (d' := d) (t' := t) (ch := []) un hok bare (fun b z => absurd z (by simp)), r, q⟩
end
/-! ### calls -/
/-- f(..): the written arguments, then the defaults dvs; E: what is wanted of an exception -/
def tCall (sp : Sp) (dvs : List V) (E : XK) (t : TA) : TE := fun σ H Q => t σ H fun vs H1 => sp (vs ++ dvs) H1 Q E
/-- o.m(..) of an instance of the class at C -/
def tMeth (C : Addr) (m : Str) (sp : Sp) (dvs : List V) (E : XK) (ta : TE) (t : TA) : TE := fun σ H Q => ta σ H fun x H1 => ∃ a dx fs, x = .ref a ∧ H1 a = some (.ins C dx fs) ∧ fs.lookup m = none ∧
  t σ H1 fun vs H2 => sp (x :: (vs ++ dvs)) H2 Q E
/-- C(..): a new instance and its dict, then __init__ -/
def tMake (C : Addr) (sp : Sp) (dvs : List V) (E : XK) (t : TA) : TE := fun σ H Q => t σ H fun vs H1 => ∀ x dx, H1 x = none → H1 dx = none → dx ≠ x →
  sp (.ref x :: (vs ++ dvs)) (upd (upd H1 dx (.own x)) x (.ins C dx [])) (fun v H2 => v = .non ∧ Q (.ref x) H2) E
/-- how the parameters are bound: us the positional arguments, kw the keywords' values by name, ds the defaults that fill up -/
def Binds (K : PySem.W.Frag) (fd : FuncData) (ps : List Str) (ds : List Value) : Prop :=
  ∀ (s : Shared) (us : List Value), K.In s.heap → (us ++ ds).length = ps.length → BindsTo s fd ⟨us, []⟩ (ps.zip (us ++ ds))
/-- every parameter is given -/
theorem Binds.all {K : PySem.W.Frag} {fd : FuncData} {ps : List Str} (h : ∀ us : List Value, us.length = ps.length → bindArgs fd ⟨us, []⟩ = pure (ps.zip us)) : Binds K fd ps [] := fun s us _ hl => by
  rw [List.append_nil] at hl ⊢
  exact .of_eq (h us hl)
/-- an exception of a callee reaches what this body wants of exceptions -/
def Passes (CX : CXT) (X : Cx) (E : XK) : Prop := ∀ (pins : List (Addr × Obj)) (σ : St) (H : Hp) (s : Shared) (e : Value) (s' : Shared), Inv X pins σ H s → CX X.stack H s E e s' → X.xe e s'
section
variable {X : Cx} {CX : CXT} {k : Nat} {f C : Addr} {fd : FuncData} {ps : List Str} {sp : Sp} {dvs : List V} {ds : List Value} {E : XK} {x m : Str} {p pos apos : Pos} {e o : Expr} {es : List Expr} {ta : TE} {t : TA}
/-- the callee runs -/
theorem run_fn {pins : List (Addr × Obj)} {σ : St} {H : Hp} {s : Shared} {Q : VK} {us : List Value} {vs : List V} (F : FnOk X.prog X.w X.K X.mg X.base CX k f fd ps sp) (hr : Room k X.A) (hb : Binds X.K fd ps ds) (hd : Vals dvs ds) (hx : Passes CX X E)
    (I : Inv X pins σ H s) (r : Vals vs us) (h : sp (vs ++ dvs) H Q E) : wpAny (model X.prog X.w) X.A (call (.ref f) us) (EP X pins σ Q) X.xe s := by
  have r2 : Vals (vs ++ dvs) (us ++ ds) := r.append hd
  have hl : (us ++ ds).length = ps.length := by rw [← r2.length]; exact F.len _ _ _ _ h
  refine wpAny_call (codeAny_mono (F.run X.A X.stack s H ⟨us, []⟩ (us ++ ds) (vs ++ dvs) Q E hr I.env0 (hb s us I.kIn hl) r2 h) fun r s' hq => ?_)
  cases r with
  | error e => exact hx pins σ H s e s' I hq
  | ok fl =>
    cases fl with
    | ret u => exact I.after hq
    | next => exact False.elim hq
    | brk => exact False.elim hq
    | cont => exact False.elim hq
theorem pe_call (F : FnOk X.prog X.w X.K X.mg X.base CX k f fd ps sp) (hr : Room k X.A) (hg : Gl X x) (hm : X.mg x = some (.ref f)) (hk : PySem.W.keepIn X.K (.ref f) = true) (hb : Binds X.K fd ps ds) (hd : Vals dvs ds) (hx : Passes CX X E)
    (ha : PA X (e :: es) t) (hdb : (x == ("__debug__" : Str)) = false := by decide) (he : starEach (e :: es) X.env = (false, eval e X.env) :: starEach es X.env := by rfl) (hpl : (backTo pos (starEach es X.env)).any (·.1) = false := by rfl) :
    PE X (.Call (.Name x p) (e :: es) [] pos) (tCall sp dvs E t) := by
  intro pins s σ H Q I h
  refine wpAny_Call_Name_kw (ld_glob I hg hm ?_ hdb)
  refine PySem.W.callWith_K (h₀ := X.base) I.ok.mod.kin hk (thn (ha pos pins s σ H _ I h) fun us s1 ⟨vs, H1, I1, r, q⟩ => ⟨I1.kIn, ?_⟩) he hpl
  exact run_fn F hr hb hd hx I1 r q
/-- o.m(e, ..) -/
theorem pe_meth {pl : Sem Bool} (he : PE X o ta) (c : Cls X.K C) (hm : Meth X.K C m f) (F : FnOk X.prog X.w X.K X.mg X.base CX k f fd ps sp) (hr : Room k X.A) (hb : Binds X.K fd ps ds) (hd : Vals dvs ds) (hx : Passes CX X E) (ha : PA X (e :: es) t)
    (hst : starEach (e :: es) X.env = (false, eval e X.env) :: starEach es X.env := by rfl) (hpl : (backTo pos (starEach es X.env)).any (·.1) = false := by rfl)
    (ht : eval (.Call (.Attribute o m apos) (e :: es) [] pos) X.env = (do
      let ov ← eval o X.env
      standAt apos.atName
      let (f, first) ← holding [ov] (getMethod ov m pl)
      callWith pos f first (backTo pos (starEach (e :: es) X.env)) (backToKw pos (keywordEach [] X.env))) := by rfl) :
    PE X (.Call (.Attribute o m apos) (e :: es) [] pos) (tMeth C m sp dvs E ta t) := by
  intro pins s σ H Q I h
  refine PySem.W.methodCall_KW (pl := pl) (thn (he pins s σ H _ I h) fun u s1 ⟨x, H1, I1, rx, a, dx, fs, ex, ea, l, q⟩ => ?_) ht
  subst ex
  obtain rfl : u = Value.ref a := rx
  refine getmeth_ok I1 ea c hm l ?_
  refine PySem.W.callWith_K (first := [.ref a]) (h₀ := X.base) I.ok.mod.kin hm.kp (thn (ha pos pins s1 σ H1 _ I1 q) fun us s2 ⟨vs, H2, I2, r, q2⟩ => ⟨I2.kIn, ?_⟩) hst hpl
  exact run_fn (us := .ref a :: us) (vs := .ref a :: vs) F hr hb hd hx I2 (.cons rfl r) q2
/-- o.m() -/
theorem pe_meth0 {pl : Sem Bool} (he : PE X o ta) (c : Cls X.K C) (hm : Meth X.K C m f) (F : FnOk X.prog X.w X.K X.mg X.base CX k f fd ps sp) (hr : Room k X.A) (hb : Binds X.K fd ps ds) (hd : Vals dvs ds) (hx : Passes CX X E)
    (ht : eval (.Call (.Attribute o m apos) [] [] pos) X.env = (do
      let ov ← eval o X.env
      standAt apos.atName
      let (f, first) ← holding [ov] (getMethod ov m pl)
      callWith pos f first (backTo pos (starEach [] X.env)) (backToKw pos (keywordEach [] X.env))) := by rfl) :
    PE X (.Call (.Attribute o m apos) [] [] pos) (tMeth C m sp dvs E ta tNil) := by
  intro pins s σ H Q I h
  refine PySem.W.methodCall_KW (pl := pl) (thn (he pins s σ H _ I h) fun u s1 ⟨x, H1, I1, rx, a, dx, fs, ex, ea, l, q⟩ => ?_) ht
  subst ex
  obtain rfl : u = Value.ref a := rx
  refine getmeth_ok I1 ea c hm l ?_
  exact PySem.W.callWith_K0 (first := [.ref a]) I1.kIn hm.kp (run_fn (us := [.ref a]) (vs := [.ref a]) F hr hb hd hx I1 (.cons rfl .nil) q)
/-- what a class must have to be made -/
structure Mk (K : PySem.W.Frag) (C f : Addr) : Prop where
  makes : PySem.W.makesIn K C = true
  init : PySem.W.findIn K (.ref C) "__init__" = some (some (.ref f))
  fn : PySem.W.isFn K (.ref f) = true
  kp : PySem.W.keepIn K (.ref C) = true
theorem run_make {pins : List (Addr × Obj)} {σ : St} {H : Hp} {s : Shared} {Q : VK} {us : List Value} {vs : List V} (M : Mk X.K C f) (F : FnOk X.prog X.w X.K X.mg X.base CX k f fd ps sp) (hr : Room (k + 1) X.A) (hb : Binds X.K fd ps ds) (hd : Vals dvs ds)
    (hx : Passes CX X E) (I : Inv X pins σ H s) (r : Vals vs us)
    (h : ∀ x dx, H x = none → H dx = none → dx ≠ x → sp (.ref x :: (vs ++ dvs)) (upd (upd H dx (.own x)) x (.ins C dx [])) (fun v H2 => v = .non ∧ Q (.ref x) H2) E) :
    wpAny (model X.prog X.w) X.A (call (.ref C) us) (EP X pins σ Q) X.xe s := by
  have hq := h (s.heap.objs.size + 1) s.heap.objs.size (I.hok.fresh (Nat.le_succ _)) (I.hok.fresh (Nat.le_refl _)) (Nat.ne_of_lt (Nat.lt_succ_self _))
  have I2 := Inv.made (C := C) I
  have r2 : Vals (V.ref (s.heap.objs.size + 1) :: (vs ++ dvs)) (Value.ref (s.heap.objs.size + 1) :: (us ++ ds)) := .cons rfl (r.append hd)
  have hl : (Value.ref (s.heap.objs.size + 1) :: us ++ ds).length = ps.length := by
    have e := r2.length
    rw [F.len _ _ _ _ hq] at e
    exact e.symm
  refine wpAny_call (make_map (f := f) I.kIn M.makes M.init (beq_iff_eq.mp M.fn) (codeAny_mono (F.run _ X.stack _ _ ⟨Value.ref (s.heap.objs.size + 1) :: us, []⟩ (Value.ref (s.heap.objs.size + 1) :: (us ++ ds)) _ _ E (hr.make C us [])
    (I2.env0.make C us []) (hb _ (Value.ref (s.heap.objs.size + 1) :: us) I2.kIn hl) r2 hq) fun r s' hq' => ?_))
  cases r with
  | error e => exact hx pins σ _ _ e s' I2 hq'
  | ok fl =>
    cases fl with
    | ret u =>
      obtain ⟨v, H', I3, rv, ev, q3⟩ := I2.after hq'
      subst ev
      exact ⟨rv, ⟨V.ref (s.heap.objs.size + 1), H', I3, rfl, q3⟩⟩
    | next => exact False.elim hq'
    | brk => exact False.elim hq'
    | cont => exact False.elim hq'
theorem pe_make (M : Mk X.K C f) (F : FnOk X.prog X.w X.K X.mg X.base CX k f fd ps sp) (hr : Room (k + 1) X.A) (hg : Gl X x) (hm : X.mg x = some (.ref C)) (hb : Binds X.K fd ps ds) (hd : Vals dvs ds) (hx : Passes CX X E)
    (ha : PA X (e :: es) t) (hdb : (x == ("__debug__" : Str)) = false := by decide) (he : starEach (e :: es) X.env = (false, eval e X.env) :: starEach es X.env := by rfl) (hpl : (backTo pos (starEach es X.env)).any (·.1) = false := by rfl) :
    PE X (.Call (.Name x p) (e :: es) [] pos) (tMake C sp dvs E t) := by
  intro pins s σ H Q I h
  refine wpAny_Call_Name_kw (ld_glob I hg hm ?_ hdb)
  refine PySem.W.callWith_K (h₀ := X.base) I.ok.mod.kin M.kp (thn (ha pos pins s σ H _ I h) fun us s1 ⟨vs, H1, I1, r, q⟩ => ⟨I1.kIn, ?_⟩) he hpl
  exact run_make M F hr hb hd hx I1 r q
end
/-! ### keywords -/
section
variable {X : Cx} {CX : CXT} {k : Nat} {f C : Addr} {fd : FuncData} {ps ks : List Str} {sp : Sp} {E : XK} {x m : Str} {p pos apos kpos : Pos} {e o : Expr} {es : List Expr} {kws : List Keyword} {te ta : TE} {t tk : TA} {nm : Option Str}
/-- how a call with keywords binds: g puts the positional values us and the keywords' values ws (names ks) in the parameters' order, defaults among them -/
structure KBinds (K : PySem.W.Frag) (fd : FuncData) (ps ks : List Str) (g : List Value → List Value → List Value) (gV : List V → List V → List V) : Prop where
  to : ∀ (s : Shared) (us ws : List Value), K.In s.heap → (g us ws).length = ps.length → BindsTo s fd ⟨us, ks.zip ws⟩ (ps.zip (g us ws))
  rel : ∀ {vs : List V} {us : List Value} {zs : List V} {ws : List Value}, Vals vs us → Vals zs ws → Vals (gV vs zs) (g us ws)
variable {g : List Value → List Value → List Value} {gV : List V → List V → List V}
end
/-! ### a def's body keeps its promise -/
/-- names: the parameters first -/
structure FnScope (N P : List Str) (sc : Scope) : Prop where
  kind : sc.kind = .function
  co : sc.isCoroutine = false
  gen : sc.isGenerator = false
  nd : N.Nodup
  pre : N.take P.length = P
  par : ∀ x ∈ P, sc.names.lookup x = some .local ∨ sc.names.lookup x = some .cell
  nofree : ∀ y ∈ sc.names, y.2 ≠ .free
theorem bindL_out {kindOf : Str → Option NameKind} {x : Str} : ∀ {binds : List (Str × Value)} {m : Str → Option Value}, (∀ v, (x, v) ∉ binds) → bindL kindOf binds m x = m x
  | [], _, _ => rfl
  | (n, v) :: r, m, h => by
    unfold bindL
    rw [bindL_out fun w hw => h w (List.mem_cons_of_mem _ hw)]
    split
    · have : x ≠ n := by rintro rfl; exact h v List.mem_cons_self
      simp [this]
    · rfl
theorem bindC_out {kindOf : Str → Option NameKind} {x : Str} : ∀ {binds : List (Str × Value)} {m : Str → Option Value}, (∀ v, (x, v) ∉ binds) → bindC kindOf binds m x = m x
  | [], _, _ => rfl
  | (n, v) :: r, m, h => by
    unfold bindC
    rw [bindC_out fun w hw => h w (List.mem_cons_of_mem _ hw)]
    split
    · rfl
    · have : x ≠ n := by rintro rfl; exact h v List.mem_cons_self
      simp [this]
theorem bindL_get {kindOf : Str → Option NameKind} {x : Str} {v : Value} : ∀ {P : List Str} {vs : List Value} {i : Nat} {m : Str → Option Value}, P.Nodup → P[i]? = some x → vs[i]? = some v → kindOf x = some .local →
    bindL kindOf (P.zip vs) m x = some v
  | [], _, _, _, _, h, _, _ => by simp at h
  | _ :: _, [], _, _, _, _, h, _ => by simp at h
  | p :: P, w :: vs, 0, m, nd, h1, h2, hk => by
    simp at h1 h2; subst h1; subst h2
    show bindL kindOf ((p, w) :: P.zip vs) m p = _
    unfold bindL
    rw [bindL_out fun v hv => (List.nodup_cons.mp nd).1 (List.of_mem_zip hv).1, if_pos hk]
    simp
  | p :: P, w :: vs, i + 1, m, nd, h1, h2, hk => by
    show bindL kindOf ((p, w) :: P.zip vs) m x = _
    unfold bindL
    exact bindL_get (i := i) (List.nodup_cons.mp nd).2 (by simpa using h1) (by simpa using h2) hk
theorem bindC_get {kindOf : Str → Option NameKind} {x : Str} {v : Value} : ∀ {P : List Str} {vs : List Value} {i : Nat} {m : Str → Option Value}, P.Nodup → P[i]? = some x → vs[i]? = some v → kindOf x ≠ some .local →
    bindC kindOf (P.zip vs) m x = some v
  | [], _, _, _, _, h, _, _ => by simp at h
  | _ :: _, [], _, _, _, _, h, _ => by simp at h
  | p :: P, w :: vs, 0, m, nd, h1, h2, hk => by
    simp at h1 h2; subst h1; subst h2
    show bindC kindOf ((p, w) :: P.zip vs) m p = _
    unfold bindC
    rw [bindC_out fun v hv => (List.nodup_cons.mp nd).1 (List.of_mem_zip hv).1, if_neg hk]
    simp
  | p :: P, w :: vs, i + 1, m, nd, h1, h2, hk => by
    show bindC kindOf ((p, w) :: P.zip vs) m x = _
    unfold bindC
    exact bindC_get (i := i) (List.nodup_cons.mp nd).2 (by simpa using h1) (by simpa using h2) hk
/-- the names' values at the entry -/
def start (N : List Str) (vs : List V) : St := vs.map some ++ List.replicate (N.length - vs.length) none
/-- the context of a def's body, at its entry; an exception leaves the frame, then lies as CX says -/
def cxOf (CX : CXT) (P : Program) (w : World) (K : PySem.W.Frag) (mg : Str → Option Value) (base : Heap) (N : List Str) (qual : Str) (scope : Scope) (f : Addr) (cd : Value) (A : Around) (outer : List Env) (s : Shared) (H : Hp) (E : XK) : Cx where
  prog := P
  w := w
  K := K
  mg := mg
  base := base
  A := A.deeper (envOfC qual scope s.heap.objs.size f cd)
  N := N
  s_0 := s
  H_0 := H
  env := envOfC qual scope s.heap.objs.size f cd
  outer := outer
  stack := envOfC qual scope s.heap.objs.size f cd :: outer
  ex := []
  calm := true
  fn := fun _ => true
  pn := []
  xe := fun e s' => wpAny (model P w) (A.deeper (envOfC qual scope s.heap.objs.size f cd)) (leaving (envOfC qual scope s.heap.objs.size f cd) e) (fun _ s'' => CX outer H s E e s'') (fun e' s'' => CX outer H s E e' s'') s'
theorem cell_has {sc : Scope} {n : Nat} {x : Str} (h : sc.names.lookup x = some .cell) : ∃ c, (cellsFrom n sc.names []).lookup x = some c := by
  have q := PySem.W.cellsFrom_some sc.names n [] (.inl h)
  exact Option.isSome_iff_exists.mp q
theorem inv_start {CX : CXT} {P : Program} {w : World} {K : PySem.W.Frag} {mg : Str → Option Value} {base : Heap} {N ps : List Str} {qual : Str} {scope : Scope} {f : Addr} {cd : Value} {A : Around} {outer : List Env} {s s1 : Shared} {H : Hp} {E : XK} {us : List Value} {vs : List V}
    (S : FnScope N ps scope) (hd : A.handled = none) (e0 : Env0 P w K mg base A outer s H) (hl : vs.length = ps.length) (r : Vals vs us)
    (x : InCallC s s.heap.objs.size (bindL (envOfC qual scope s.heap.objs.size f cd).kindOf (ps.zip us) fun _ => none) (cellsFrom (s.heap.objs.size + 1) scope.names []) (bindC (envOfC qual scope s.heap.objs.size f cd).kindOf (ps.zip us) fun _ => none) s1) :
    Inv (cxOf CX P w K mg base N qual scope f cd A outer s H E) [] (start N vs) H s1 := by
  have hpl : ps.length ≤ N.length := by have := congrArg List.length S.pre; rw [List.length_take] at this; omega
  obtain ⟨h1, tk, rfl, hk⟩ := x.done
  have noA : ∀ b : Addr, b ∉ (cxOf CX P w K mg base N qual scope f cd A outer s H E).ex := fun b z => absurd (show b ∈ ([] : List Addr) from z) (by simp)
  refine ⟨⟨e0.mod, S.kind, rfl, rfl, Nat.le_refl _, fun y z c h1 h2 => ?_, fun y hy => ?_, fun y c _ h => ?_, fun _ => hd, Around.frames_deeper e0.frames, .inr ⟨rfl, rfl⟩, fun b z => absurd z (noA b), e0.bs, e0.bsz, fun b _ _ => noA b, fun b z => absurd z (noA b), e0.funs, e0.frf⟩,
    rfl, e0.bare, Un.kept hk, ⟨_, x.toInCall.ns, fun i y v h1 h2 h3 => ?_⟩, fun y c h => ⟨_, x.cell y c h⟩, e0.hok.fresh (Nat.le_refl _), fun y c h => ?_, fun p hp => absurd (show p ∈ ([] : List (Addr × Obj)) from hp) (by simp), e0.hok.kept hk, ?_⟩
  · exact name_of_addr x.apart (PySem.mem_of_lookup h1) (PySem.mem_of_lookup h2)
  · have hy : scope.names.lookup y = some .cell ∨ scope.names.lookup y = some .free := hy
    rcases hy with hy | hy
    · exact cell_has hy
    · exact absurd rfl (S.nofree _ (PySem.mem_of_lookup hy))
  · exact Nat.le_of_lt (x.above y c (PySem.mem_of_lookup h))
  · have hi : i < vs.length := by
      unfold start at h2
      by_cases hi : i < vs.length
      · exact hi
      · rw [List.getElem?_append_right (by simpa using hi)] at h2
        rw [List.getElem?_replicate] at h2
        split at h2 <;> cases h2
    have ha : vs[i]? = some v := by
      unfold start at h2
      rw [List.getElem?_append_left (by simpa using hi), List.getElem?_map] at h2
      cases e : vs[i]? with
      | none => rw [e] at h2; cases h2
      | some a => rw [e] at h2; cases h2; rfl
    obtain ⟨u, hu, rv⟩ := r.get ha
    have hp : ps[i]? = some y := by
      rw [← S.pre, List.getElem?_take_of_lt (by omega)]; exact h1
    have ndP : ps.Nodup := by rw [← S.pre]; exact S.nd.sublist (List.take_sublist _ _)
    refine ⟨u, rv, ?_⟩
    rcases S.par y (List.mem_of_getElem? hp) with k | k
    · exact .inl ⟨k, bindL_get ndP hp hu k⟩
    · obtain ⟨c, e⟩ := cell_has (n := s.heap.objs.size + 1) k
      refine .inr ⟨.inl k, c, e, ?_⟩
      have q := x.cell y c e
      rw [bindC_get ndP hp hu (by show scope.names.lookup y ≠ _; rw [k]; decide)] at q
      exact q
  · exact e0.hok.fresh (Nat.le_of_lt (x.above y c (PySem.mem_of_lookup h)))
  · unfold start
    show _ = N.length
    rw [List.length_append, List.length_map, List.length_replicate]
    omega
/-- THE RULE: a def (or a method) of the text, by its body. The body's reading t is chosen for each entry; it is run at the parameters' values -/
theorem fn_of {CX : CXT} {P : Program} {w : World} {K : PySem.W.Frag} {mg : Str → Option Value} {base : Heap} {k : Nat} {f : Addr} {name qual : Str} {params : Arguments} {body : List Stmt} {scope : Scope} {dV kV doc pm cdv ct oc : Value} {an od : Option Addr}
    {osl : Array (Option Value)} {N ps : List Str} {sp : Sp} (lk : K.lookup f = some ⟨oc, od, .func (PySem.W.fnOf name qual params body scope dV kV doc pm an cdv ct), osl⟩) (hcd : PySem.W.codeIn K cdv qual = true) (S : FnScope N ps scope)
    (len : ∀ vs H Q E, sp vs H Q E → vs.length = ps.length)
    (hbody : ∀ (A : Around) (outer : List Env) (s : Shared) (H : Hp) (vs : List V) (Q : VK) (E : XK), Room k (A.deeper (envOfC qual scope s.heap.objs.size f cdv)) → sp vs H Q E →
      ∃ t, PSs (cxOf CX P w K mg base N qual scope f cdv A outer s H E) body t ∧ t { nx := fun _ H' => Q .non H', rt := Q } (start N vs) H) :
    FnOk P w K mg base CX (k + 1) f (PySem.W.fnOf name qual params body scope dV kV doc pm an cdv ct) ps sp := by
  refine ⟨len, fun A outer s H args us vs Q E hr e0 hb r hsp => ?_⟩
  have hl := len _ _ _ _ hsp
  have KX : K.In s.heap := e0.mod.kin.keeps fun b o e => (e0.bs b o e).1
  have lim : s.heap.NoLimit := e0.mod.nolimit.keeps fun b o e => (e0.bs b o e).1
  have hkind : ∀ y ∈ ps.zip us, scope.names.lookup y.1 = some .local ∨ (scope.names.lookup y.1 = some .cell ∧ ((cellsFrom (s.heap.objs.size + 1) scope.names []).lookup y.1).isSome = true) := fun ⟨n, v⟩ hy => by
    rcases S.par n (List.of_mem_zip hy).1 with q | q
    · exact .inl q
    · exact .inr ⟨q, PySem.W.cellsFrom_some _ _ _ (.inl q)⟩
  refine codeAny_call_function hr.depth (KX _ _ lk) rfl S.co S.gen rfl (PySem.W.codeRec_of KX hcd) (hb _ _ _ _ ?_)
  refine wpAny_newFunctionEnv_cells S.kind hkind fun env he s1 x => ?_
  subst he
  refine ⟨lim.keeps x.toInCall.keep, codeAny_func ?_⟩
  obtain ⟨t, ht, hq⟩ := hbody A outer s H vs Q E (hr.deeper _) hsp
  have I : Inv (cxOf CX P w K mg base N qual scope f cdv A outer s H E) [] (start N vs) H s1 := inv_start S hr.hd e0 hl r x
  refine wpAny_mono (ht [] s1 (start N vs) H _ I hq) (fun fl s' hs => ?_) fun e s' hs => hs
  have fin : ∀ {σ' : St} {H' : Hp} {v : V} {u : Value}, Inv (cxOf CX P w K mg base N qual scope f cdv A outer s H E) [] σ' H' s' → RelV v u → Q v H' → CE outer P w H s Q u s' :=
    fun {σ' H' v u} J rv q => ⟨v, H', J.os, J.bare, J.base, J.hok, rv, q⟩
  cases fl with
  | ret u =>
    obtain ⟨v, σ', H', J, rv, q⟩ := hs
    exact fin J rv q
  | next =>
    obtain ⟨σ', H', J, q⟩ := hs
    exact fin (v := V.non) (u := Value.none) J rfl q
  | brk =>
    obtain ⟨_, _, _, q⟩ := hs
    exact False.elim q
  | cont =>
    obtain ⟨_, _, _, q⟩ := hs
    exact False.elim q
end L2
namespace L2
open PySem PySem.Spec PyProof.Rows
section
variable {X : Cx} {x : Str} {p pos : Pos} {e : Expr} {es : List Expr} {t : TA} {id T : String} {r : List V → Hp → VK → Prop}
def tCB (r : List V → Hp → VK → Prop) (t : TA) : TE := fun σ H Q => t σ H fun vs H1 => r vs H1 Q
/-- f(e, ..), f a built-in function -/
theorem pe_callB (hc : CallR X (.builtin id) r) (hg : Gl X x) (hm : X.mg x = none) (hv : bootBuiltins x = some (.builtin id)) (ha : PA X (e :: es) t) (hn : x ≠ "__name__" := by decide) (hdb : (x == ("__debug__" : Str)) = false := by decide)
    (he : starEach (e :: es) X.env = (false, eval e X.env) :: starEach es X.env := by rfl) (hpl : (backTo pos (starEach es X.env)).any (·.1) = false := by rfl) : PE X (.Call (.Name x p) (e :: es) [] pos) (tCB r t) := by
  intro pins s σ H Q I h
  refine wpAny_Call_Name_kw (ld_blt I hg hm hv ?_ hn hdb)
  exact PyProof.Rows.callWith_builtin1 (thn (ha pos pins s σ H _ I h) fun us s1 ⟨vs, H1, I1, r1, q1⟩ => hc pins s1 σ H1 vs us Q I1 r1 q1) he hpl
/-- T(e, ..), T a built-in type -/
theorem pe_callTy (hc : CallR X (.type T) r) (hg : Gl X x) (hm : X.mg x = none) (hv : bootBuiltins x = some (.type T)) (ha : PA X (e :: es) t) (hn : x ≠ "__name__" := by decide) (hdb : (x == ("__debug__" : Str)) = false := by decide)
    (he : starEach (e :: es) X.env = (false, eval e X.env) :: starEach es X.env := by rfl) (hpl : (backTo pos (starEach es X.env)).any (·.1) = false := by rfl) : PE X (.Call (.Name x p) (e :: es) [] pos) (tCB r t) := by
  intro pins s σ H Q I h
  refine wpAny_Call_Name_kw (ld_blt I hg hm hv ?_ hn hdb)
  exact PyProof.Rows.callWith_type1 (thn (ha pos pins s σ H _ I h) fun us s1 ⟨vs, H1, I1, r1, q1⟩ => hc pins s1 σ H1 vs us Q I1 r1 q1) he hpl
end
end L2
namespace HT
open PySem PyProof.Rows
section
open PySem.SeqAt
open PySem.AutoSeq1 (wpAny_loadPart')
open PySem.MeetsSeq PySem.MeetsSeq2 PySem.MeetsSeq3
end
section
variable {prog : Program} {w : World} {A : Around} {E : Value → Shared → Prop} {s : Shared}
/-! ### t[a:b], not the whole -/
/-- a slice's bound as a place among n (d where it is left out) -/
def sIx (n d : Nat) : Option Int → Nat
  | none => d
  | some v => if v < 0 then (v + (n : Int)).toNat else min v.toNat n
theorem sIx_nat (n d k : Nat) : sIx n d (some (k : Int)) = min k n := by
  show (if (k : Int) < 0 then ((k : Int) + (n : Int)).toNat else min (k : Int).toNat n) = min k n
  rw [if_neg (by omega), Int.toNat_natCast]
end
end HT
namespace L2
open PySem PySem.Spec PyProof.Rows
/-! ### the parts of a slice -/
abbrev TO := St → Hp → (Option Int → Hp → Prop) → Prop
/-- a slice's part (left out, or an int) -/
def PO (X : Cx) (e : Option Expr) (t : TO) : Prop :=
  ∀ (pins : List (Addr × Obj)) (s : Shared) (σ : St) (H : Hp) (Q : Option Int → Hp → Prop), Inv X pins σ H s → t σ H Q →
    wpAny (model X.prog X.w) X.A (evalPart e X.env) (fun u s' => ∃ o H', Inv X pins σ H' s' ∧ IsPart u o ∧ Q o H') X.xe s
def tPart (t : TE) : TO := fun σ H Q => t σ H fun x H1 => ∃ i, x = .int i ∧ Q (some i) H1
section
variable {X : Cx} {e : Expr} {te : TE} {lo hi : Option Expr} {tl th : TO} {pos p2 : Pos}
theorem po_some (h : PE X e te) : PO X (some e) (tPart te) := by
  intro pins s σ H Q I hw
  rw [evalPart_some]
  refine thn (h pins s σ H _ I hw) fun u s1 ⟨x, H1, I1, r1, q1⟩ => ?_
  obtain ⟨i, rfl, q⟩ := q1
  obtain ⟨t, rfl⟩ := r1
  exact ⟨some i, H1, I1, .int i t, q⟩
/-- what a slice of a value is, by values: the slice object stands at sl -/
def SlR (X : Cx) (r : V → Option Int → Option Int → Hp → VK → Prop) : Prop :=
  ∀ (pins : List (Addr × Obj)) (s : Shared) (σ : St) (H : Hp) (x : V) (v vl vu : Value) (lo hi : Option Int) (sl : Addr) (Q : VK), Inv X pins σ H s → RelV x v → s.heap.IsSliceOf sl vl vu .none → IsPart vl lo → IsPart vu hi → r x lo hi H Q →
    ∃ T id, typeLookup (.type T) "__getitem__" = pure (some (.builtin id)) ∧ s.TypeIs v T ∧ wpAny (model X.prog X.w) X.A (getItem v (.ref sl)) (EP X pins σ Q) X.xe s
def tSl (r : V → Option Int → Option Int → Hp → VK → Prop) (te : TE) (tl th : TO) : TE := fun σ H Q => te σ H fun x H1 => tl σ H1 fun l H2 => th σ H2 fun u H3 => r x l u H3 Q
/-- a[lo:hi], any a -/
theorem pe_slice {r : V → Option Int → Option Int → Hp → VK → Prop} (hr : SlR X r) (he : PE X e te) (hl : PO X lo tl) (hu : PO X hi th) : PE X (.Subscript e (.Slice lo hi none p2) pos) (tSl r te tl th) := by
  intro pins s σ H Q I h
  refine Subscript_ (thn (he pins s σ H _ I h) fun v s1 ⟨x, H1, I1, r1, q1⟩ => ?_)
  refine wpAny_Slice (thn (hl pins s1 σ H1 _ I1 q1) fun vl s2 ⟨l, H2, I2, pl, q2⟩ => thn (hu pins s2 σ H2 _ I2 q2) fun vu s3 ⟨u, H3, I3, pu, q3⟩ => ?_)
  rw [evalPart_none]
  refine wpAny_pure ?_
  have I4 : Inv X pins σ H3 { s3 with heap := s3.heap.push { cls := .type "slice", data := .fields #[vl, vu, .none] } } := I3.kept (t' := s3.toks) fun b ob q => Heap.get?_push_of_some _ q
  obtain ⟨T, id, hT, ht, hg⟩ := hr pins { s3 with heap := s3.heap.push { cls := .type "slice", data := .fields #[vl, vu, .none] } } σ H3 x v vl vu l u s3.heap.objs.size Q I4 r1 (Heap.IsSliceOf.new ..) pl pu q3
  show wpAny (model X.prog X.w) X.A (subscriptTail e (.Slice lo hi none p2) v (.ref s3.heap.objs.size)) (EP X pins σ Q) X.xe { s3 with heap := s3.heap.push { cls := .type "slice", data := .fields #[vl, vu, .none] } }
  exact tail_any (ops := [.ref s3.heap.objs.size, v]) ht hT hg (by with_unfolding_all rfl)
/-- the items of xs[lo:hi] -/
def cutV (xs : List V) (lo hi : Option Int) : List V := (xs.drop (HT.sIx xs.length 0 lo)).take (HT.sIx xs.length xs.length hi - HT.sIx xs.length 0 lo)
theorem cutV_length (xs : List V) (lo hi : Option Int) : (cutV xs lo hi).length ≤ xs.length := by
  unfold cutV
  rw [List.length_take, List.length_drop]
  omega
/-! ### t < u, t + u -/
end
end L2
namespace L2
open PySem PySem.Spec PyProof.Rows
/-! ### places -/
/-- the place that an index of any sign means -/
def ixN (n : Nat) (i : Int) : Option Nat := if 0 ≤ i then (if i < n then some i.toNat else none) else if -(n : Int) ≤ i then some (i + n).toNat else none
def atI {α : Type} (xs : List α) (i : Int) : Option α := (ixN xs.length i).bind fun j => xs[j]?
theorem ixN_seq {n : Nat} {i : Int} {j : Nat} (h : ixN n i = some j) : seqIndex? i n = some j ∧ j < n ∧ -(n : Int) ≤ i ∧ i < n := by
  unfold ixN at h
  by_cases h0 : 0 ≤ i
  · rw [if_pos h0] at h
    by_cases h1 : i < n
    · rw [if_pos h1] at h
      have e : i.toNat = j := Option.some.inj h
      exact ⟨by rw [seqIndex_of h0 h1, e], by omega, by omega, h1⟩
    · rw [if_neg h1] at h; cases h
  · rw [if_neg h0] at h
    by_cases h1 : -(n : Int) ≤ i
    · rw [if_pos h1] at h
      have e : (i + n).toNat = j := Option.some.inj h
      exact ⟨by rw [seqIndex_neg (by omega) h1, e], by omega, h1, by omega⟩
    · rw [if_neg h1] at h; cases h
theorem atI_get {α : Type} {xs : List α} {i : Int} {v : α} (h : atI xs i = some v) : ∃ j, seqIndex? i xs.length = some j ∧ xs[j]? = some v ∧ j < xs.length ∧ -(xs.length : Int) ≤ i ∧ i < xs.length := by
  unfold atI at h
  cases e : ixN xs.length i with
  | none => rw [e] at h; cases h
  | some j =>
    rw [e] at h
    obtain ⟨h1, h2, h3, h4⟩ := ixN_seq e
    exact ⟨j, h1, h, h2, h3, h4⟩
theorem atI_nat {α : Type} {xs : List α} {j : Nat} {v : α} (h : xs[j]? = some v) : atI xs (j : Int) = some v := by
  have hj : j < xs.length := (List.getElem?_eq_some_iff.mp h).1
  have e : ixN xs.length (j : Int) = some j := by
    unfold ixN
    rw [if_pos (by omega), if_pos (by omega)]; simp
  unfold atI; rw [e]; exact h
/-! ### what may be subscripted -/
/-- what stands as an index of a plain subscript -/
def PlainIx (b : Expr) : Prop := ∀ o i, subscripted b false o i = operate [o, i] (getItem o i)
/-- a subscript by values -/
def IxR (X : Cx) (r : R2) : Prop :=
  ∀ (value slice : Expr) (pins : List (Addr × Obj)) (s : Shared) (σ : St) (H : Hp) (x y : V) (v u : Value) (Q : VK), Inv X pins σ H s → RelV x v → RelV y u → r x y H Q →
    subscripted slice false v u = operate [v, u] (getItem v u) → wpAny (model X.prog X.w) X.A (subscriptTail value slice v u) (EP X pins σ Q) X.xe s
/-- a call of a builtin's method by values: the receiver, the arguments -/
def MtR (X : Cx) (id : String) (r : V → List V → Hp → VK → Prop) : Prop :=
  ∀ (pins : List (Addr × Obj)) (s : Shared) (σ : St) (H : Hp) (x : V) (xs : List V) (v : Value) (us : List Value) (Q : VK), Inv X pins σ H s → RelV x v → Vals xs us → r x xs H Q →
    wpAny (model X.prog X.w) X.A (call (.builtin id) (v :: us)) (EP X pins σ Q) X.xe s
section
variable {X : Cx} {a b : Expr} {ta tb : TE} {pos : Pos}
/-- a[b] -/
theorem pe_ix {r : R2} (hr : IxR X r) (ha : PE X a ta) (hb : PE X b tb) (hs : PlainIx b) : PE X (.Subscript a b pos) (tOp r ta tb) := by
  intro pins s σ H Q I h
  exact Subscript_ (binT ha hb I h fun v u s2 x y H2 I2 rx ry q => hr a b pins s2 σ H2 x y v u Q I2 rx ry q (hs _ _))
def rIxL (K : PySem.W.Frag) : R2 := fun x y H Q => ∃ p xs i v, x = .ref p ∧ y = .int i ∧ SqL K H p xs ∧ atI xs i = some v ∧ Q v H
def rIxT (K : PySem.W.Frag) : R2 := fun x y H Q => ∃ p xs i v, x = .ref p ∧ y = .int i ∧ SqT K H p xs ∧ atI xs i = some v ∧ Q v H
theorem ix_list : IxR X (rIxL X.K) := by
  intro value slice pins s σ H x y v u Q I rx ry h hs
  obtain ⟨p, xs, i, z, rfl, rfl, hq, he, q⟩ := h
  cases rx
  obtain ⟨t, rfl⟩ := ry
  obtain ⟨its, r, pl, hz⟩ := I.list hq
  obtain ⟨j, h1, h2, h3, h4, h5⟩ := atI_get he
  obtain ⟨w, ew, rw'⟩ := r.get h2
  have hl := r.length
  have hn := line63
  have fin : EP X pins σ Q w s := ⟨z, H, I, rw', q⟩
  by_cases h0 : 0 ≤ i
  · have hj : i.toNat = j := by
      rw [seqIndex_of h0 h5] at h1
      exact Option.some.inj h1
    exact item_listR pl.isList h0 (by omega) (by rw [hj]; simpa using ew) fin hs
  · have hj : (i + (its.toArray.size : Int)).toNat = j := by
      rw [seqIndex_neg (by omega) h4] at h1
      rw [List.size_toArray, ← hl]
      exact Option.some.inj h1
    exact subscriptTail_builtinR (x := w) pl.isList.typeIs slot_list_getitem.lookup
      (wpAny_getItem_list_neg (Q := fun r s' => r = w ∧ EP X pins σ Q r s') pl.isList (by omega) (by rw [List.size_toArray] <;> omega) (by omega) (by rw [hj]; simpa using ew) ⟨rfl, fin⟩) hs
theorem ix_tup : IxR X (rIxT X.K) := by
  intro value slice pins s σ H x y v u Q I rx ry h hs
  obtain ⟨p, xs, i, z, rfl, rfl, hq, he, q⟩ := h
  cases rx
  obtain ⟨t, rfl⟩ := ry
  obtain ⟨its, r, pl, hz⟩ := I.tuple hq
  obtain ⟨j, h1, h2, h3, h4, h5⟩ := atI_get he
  obtain ⟨w, ew, rw'⟩ := r.get h2
  have hl := r.length
  have hn := line63
  have fin : EP X pins σ Q w s := ⟨z, H, I, rw', q⟩
  exact subscriptTail_builtinR (x := w) pl.typeIs slot_tuple_getitem.lookup
    (getItem_tuple (j := j) (Q := fun r s' => r = w ∧ EP X pins σ Q r s') pl (by omega) (by omega) (by rw [List.size_toArray, ← hl]; exact h1) (by simpa using ew) ⟨rfl, fin⟩) hs
/-! ### xs[i] = v, any sign -/
/-- the list's object behind a store -/
theorem mapSeq_set (its : List Value) (n j : Nat) (u : Value) : Obj.mapSeq (·.setIfInBounds j u) { cls := .type "list", data := .seq its.toArray n } = { cls := .type "list", data := .seq (its.set j u).toArray n } := by
  simp [Obj.mapSeq]
theorem Inv.lst {pins : List (Addr × Obj)} {σ : St} {H : Hp} {s : Shared} {p : Addr} {xs : List V} (I : Inv X pins σ H s) (h : H p = some (.lst xs)) :
    ∃ (its : List Value) (n : Nat), Vals xs its ∧ s.heap.get? p = some { cls := .type "list", data := .seq its.toArray n } ∧ xs.length ≤ sizeLine := by
  obtain ⟨z, its, n, r, e⟩ := I.hok p _ h
  exact ⟨its, n, r, e, z⟩
/-- the list at p is written by an update of its object -/
theorem Inv.lstUpd {pins : List (Addr × Obj)} {σ : St} {H : Hp} {s : Shared} {p : Addr} {xs ys : List V} {its its' : List Value} {n n' : Nat} {f : Obj → Obj} (I : Inv X pins σ H s) (h : H p = some (.lst xs))
    (ho : s.heap.get? p = some { cls := .type "list", data := .seq its.toArray n }) (hf : f { cls := .type "list", data := .seq its.toArray n } = { cls := .type "list", data := .seq its'.toArray n' }) (r : Vals ys its') (hz : ys.length ≤ sizeLine) (t : Nat) :
    Inv X pins σ (upd H p (.lst ys)) { s with heap := s.heap.update p f, toks := t } := by
  have e : (s.heap.update p f).get? p = some { cls := .type "list", data := .seq its'.toArray n' } := by
    rw [Heap.get?_update_self f ho (by rw [hf] <;> rfl), hf]
  refine I.write (x := p) (e := p) (by rw [h]; trivial) (.inl rfl) (fun b u hb q => (Heap.get?_update_other _ _ (Ne.symm hb)).trans q) ⟨_, e⟩ ?_
  exact ⟨hz, its', n', r, e⟩
def rSetL : V → V → V → Hp → (Hp → Prop) → Prop := fun o i v H Q => ∃ p xs k j, o = .ref p ∧ i = .int k ∧ H p = some (.lst xs) ∧ ixN xs.length k = some j ∧ Q (upd H p (.lst (xs.set j v)))
theorem set_list : PSet X rSetL := by
  intro pins s σ H o i v ov iv u Q I ro ri rv h
  obtain ⟨p, xs, k, j, rfl, rfl, hp, hj, q⟩ := h
  cases ro
  obtain ⟨t, rfl⟩ := ri
  obtain ⟨its, n, r, ho, hz⟩ := I.lst hp
  obtain ⟨h1, h2, h3, h4⟩ := ixN_seq hj
  have hl := r.length
  have hn := line63
  have I' : Inv X pins σ (upd H p (.lst (xs.set j v))) { s with heap := s.heap.update p (Obj.mapSeq (·.setIfInBounds j u)) } :=
    I.lstUpd hp ho (mapSeq_set its n j u) (r.set rv j) (by rw [List.length_set]; exact hz) s.toks
  by_cases h0 : 0 ≤ k
  · have hk : k.toNat = j := by
      rw [seqIndex_of h0 h4] at h1
      exact Option.some.inj h1
    exact PySem.W.ki_setAt ho h0 (by omega) (by rw [List.size_toArray, ← hl]; exact h4) (by rw [hk]; exact ⟨_, I', q⟩)
  · have hk : (k + (its.toArray.size : Int)).toNat = j := by
      rw [seqIndex_neg (by omega) h3] at h1
      rw [List.size_toArray, ← hl]
      exact Option.some.inj h1
    exact PySem.W.ki_setBack ho (by omega) (by rw [List.size_toArray, ← hl]; exact h3) (by omega) (by rw [hk]; exact ⟨_, I', q⟩)
/-! ### slices -/
theorem slice_bounds (lo hi : Option Int) (n : Nat) : (sliceBounds lo hi none n).1 = ((HT.sIx n 0 lo : Nat) : Int) ∧ (sliceBounds lo hi none n).2.1 = ((HT.sIx n n hi : Nat) : Int) ∧ (sliceBounds lo hi none n).2.2 = 1 := by
  refine ⟨?_, ?_, rfl⟩
  · cases lo with
    | none => simp [sliceBounds, HT.sIx]
    | some i =>
      simp only [sliceBounds, HT.sIx, Option.getD_none, show (1 : Int) > 0 by decide, if_true]
      by_cases h : i < 0
      · simp only [h, if_true] <;> omega
      · simp only [h, if_false] <;> omega
  · cases hi with
    | none => simp [sliceBounds, HT.sIx]
    | some i =>
      simp only [sliceBounds, HT.sIx, Option.getD_none, show (1 : Int) > 0 by decide, if_true]
      by_cases h : i < 0
      · simp only [h, if_true] <;> omega
      · simp only [h, if_false] <;> omega
theorem slicePick_cut (its : List Value) (lo hi : Option Int) : slicePick its.toArray lo hi none = ((its.drop (HT.sIx its.length 0 lo)).take (HT.sIx its.length its.length hi - HT.sIx its.length 0 lo)).toArray := by
  obtain ⟨h1, h2, h3⟩ := slice_bounds lo hi its.toArray.size
  unfold slicePick
  rw [h1, h2, h3]
  simp only [sliceRange_one, pick_run, List.size_toArray] <;> rfl
/-- xs[lo:hi] of a list: a new list -/
def rSlL (K : PySem.W.Frag) : V → Option Int → Option Int → Hp → VK → Prop := fun x lo hi H Q => ∃ a xs, x = .ref a ∧ SqL K H a xs ∧ ∀ p, H p = none → Q (.ref p) (upd H p (.lst (cutV xs lo hi)))
theorem sl_list : SlR X (rSlL X.K) := by
  intro pins s σ H x v vl vu lo hi sl Q I rx hs pl pu h
  obtain ⟨a, xs, rfl, hx, q⟩ := h
  cases rx
  obtain ⟨its, r, ht, hz⟩ := I.list hx
  have hlen := r.length
  refine ⟨"list", _, slot_list_getitem.lookup, ht.isList.typeIs, ?_⟩
  refine wpAny_getItem_list_slice ht.isList hs pl pu .none (by simp) ?_ (by rw [List.size_toArray] <;> omega)
  rw [slicePick_cut, ← hlen]
  refine ⟨.ref s.heap.objs.size, _, I.laid (t' := s.toks) (o := .lst (cutV xs lo hi)) (fun b ob q => Heap.get?_push_of_some _ q) (Nat.le_refl _) ?_, rfl, q _ (I.hok.fresh (Nat.le_refl _))⟩
  exact ⟨Nat.le_trans (cutV_length xs lo hi) hz, _, 0, (r.drop (HT.sIx xs.length 0 lo)).take (HT.sIx xs.length xs.length hi - HT.sIx xs.length 0 lo), Heap.get?_push_size _ rfl⟩
/-! ### in, not in: flat items -/
/-! ### len, list(x), tuple(x) of any list or tuple that is read -/
theorem call_len_seq : CallR X (.builtin "len") (fun xs H Q => ∃ p ys, xs = [.ref p] ∧ (SqL X.K H p ys ∨ SqT X.K H p ys) ∧ Q (.int ys.length) H) := by
  intro pins s σ H xs us Q I r h
  obtain ⟨p, ys, rfl, hq, q⟩ := h
  obtain ⟨u, rfl, rx⟩ := vals1 r
  cases rx
  have hn := line63
  rcases hq with hq | hq
  · obtain ⟨its, r', pl, hz⟩ := I.list hq
    have hlen := r'.length
    exact Calls.call_len_list pl.isList (by simp only [List.size_toArray] <;> omega) ⟨.int ys.length, H, I.tok _, ⟨s.toks + 1, by rw [List.size_toArray, hlen]⟩, q⟩
  · obtain ⟨its, r', pl, hz⟩ := I.tuple hq
    have hlen := r'.length
    exact len_tuple pl (by simp only [List.size_toArray] <;> omega) ⟨.int ys.length, H, I.tok _, ⟨s.toks + 1, by rw [List.size_toArray, hlen]⟩, q⟩
theorem call_list_of : CallR X (.type "list") (fun xs H Q => ∃ p ys, xs = [.ref p] ∧ (SqL X.K H p ys ∨ SqT X.K H p ys) ∧ ∀ l, H l = none → Q (.ref l) (upd H l (.lst ys))) := by
  intro pins s σ H xs us Q I r h
  obtain ⟨p, ys, rfl, hq, q⟩ := h
  obtain ⟨u, rfl, rx⟩ := vals1 r
  cases rx
  have fin : ∀ (its : List Value), Vals ys its → ys.length ≤ sizeLine → ∀ (h' : Heap) (c' : Nat), (∀ b o', s.heap.get? b = some o' → h'.get? b = some o') →
      h'.get? s.heap.objs.size = some { cls := .type "list", dict := none, data := .seq its.toArray c', slots := #[] } → EP X pins σ Q (.ref s.heap.objs.size) { s with heap := h' } := fun its r' hz h' c' kp e =>
    ⟨.ref s.heap.objs.size, _, I.laid (t' := s.toks) kp (Nat.le_refl _) (show ObjOk X.prog X.w _ h' _ (.lst ys) from ⟨hz, its, c', r', e⟩), rfl, q _ (I.hok.fresh (Nat.le_refl _))⟩
  rcases hq with hq | hq
  · obtain ⟨its, r', pl, hz⟩ := I.list hq
    have hlen := r'.length
    obtain ⟨o, ho, hc, n, hd⟩ := pl.isList
    exact call_list_seq p (.inl rfl) ho hc hd (fun h' c' kp e => fin its r' hz h' c' kp e) (by simp only [List.size_toArray] <;> omega)
  · obtain ⟨its, r', pl, hz⟩ := I.tuple hq
    have hlen := r'.length
    obtain ⟨o, ho, hc, n, hd⟩ := pl
    exact call_list_seq p (.inr rfl) ho hc hd (fun h' c' kp e => fin its r' hz h' c' kp e) (by simp only [List.size_toArray] <;> omega)
/-! ### the call of a builtin's method: o.m(..) -/
/-- the value is of that builtin type -/
def tyV (K : PySem.W.Frag) (T : String) (x : V) (H : Hp) : Prop := match x with
  | .str _ => T = "str"
  | .int _ => T = "int"
  | .ref p => (T = "list" ∧ ∃ xs, SqL K H p xs) ∨ (T = "tuple" ∧ ∃ o, K.lookup p = some o ∧ o.cls = .type "tuple" ∧ o.dict = none) ∨
      (T = "dict" ∧ ((∃ kvs, H p = some (.dK kvs)) ∨ ∃ kvs, H p = some (.dT kvs))) ∨ (T = "set" ∧ ∃ S n, H p = some (.set S n))
  | _ => False
theorem tyV_is {pins : List (Addr × Obj)} {σ : St} {H : Hp} {s : Shared} {T : String} {x : V} {v : Value} (I : Inv X pins σ H s) (r : RelV x v) (ty : tyV X.K T x H) :
    s.TypeIs v T ∧ ∀ a, v = .ref a → ∃ ob, s.heap.get? a = some ob ∧ ob.dict = none := by
  cases x with
  | str z =>
    obtain ⟨t, rfl⟩ := r
    cases (show T = "str" from ty)
    exact ⟨typeIs_str s z t, fun _ e => nomatch e⟩
  | int i =>
    obtain ⟨t, rfl⟩ := r
    cases (show T = "int" from ty)
    exact ⟨typeIs_int s i t, fun _ e => nomatch e⟩
  | ref p =>
    cases r
    rcases ty with ⟨rfl, xs, hq⟩ | ⟨rfl, o, hk, hc, hd⟩ | ⟨rfl, hk⟩ | ⟨rfl, S, n, hk⟩
    · obtain ⟨its, _, pl, _⟩ := I.list hq
      refine ⟨pl.isList.typeIs, fun a e => ?_⟩
      cases e
      obtain ⟨o, n, e, c, hd, _⟩ := pl
      exact ⟨o, e, hd⟩
    · refine ⟨⟨o, I.kIn p o hk, hc⟩, fun a e => ?_⟩
      cases e
      exact ⟨o, I.kIn _ o hk, hd⟩
    · have z : ∃ o, s.heap.get? p = some o ∧ o.ExactDict := by
        rcases hk with ⟨kvs, hk⟩ | ⟨kvs, hk⟩
        · obtain ⟨_, _, _, _, o, _, _, e, ex, _⟩ := I.hok p _ hk
          exact ⟨o, e, ex⟩
        · obtain ⟨_, _, _, _, o, _, _, e, ex, _⟩ := I.hok p _ hk
          exact ⟨o, e, ex⟩
      obtain ⟨o, e, ex⟩ := z
      refine ⟨⟨o, e, ex.1⟩, fun a e2 => ?_⟩
      cases e2
      exact ⟨o, e, ex.2.1⟩
    · obtain ⟨o, _, _, _, e, ex, _⟩ := I.hok p _ hk
      refine ⟨⟨o, e, ex.1⟩, fun a e2 => ?_⟩
      cases e2
      exact ⟨o, e, ex.2.1⟩
  | _ => exact False.elim ty
def tBM (K : PySem.W.Frag) (T : String) (r : V → List V → Hp → VK → Prop) (to : TE) (t : TA) : TE := fun σ H Q => to σ H fun x H1 => tyV K T x H1 ∧ t σ H1 fun xs H2 => r x xs H2 Q
variable {o e : Expr} {es : List Expr} {to : TE} {t : TA} {name : Str} {apos cpos : Pos} {T id : String} {r : V → List V → Hp → VK → Prop}
theorem pe_bm (pa : PlainAttrs T) (slot : Slot T name id) (hty : typeOf (.builtin id) = pure (.type "method_descriptor")) (hm : MtR X id r) (ho : PE X o to) (ha : PA X (e :: es) t)
    (hbase : attributeBase o name X.env (eval o X.env) = eval o X.env := by rfl)
    (hfew : ((backTo cpos (starEach (e :: es) X.env)).all (fun x => !x.1) && (backToKw cpos (keywordEach [] X.env)).all (fun x => x.1.isSome)
      && decide ((e :: es).length + ([] : List Keyword).length + (if ([] : List Keyword).isEmpty then 0 else 1) < 30)) = true := by rfl)
    (hline : (apos.endLine == cpos.line) = true := by rfl) (hs : starEach (e :: es) X.env = (false, eval e X.env) :: starEach es X.env := by rfl) (hplain : (backTo cpos (starEach es X.env)).any (·.1) = false := by rfl) :
    PE X (.Call (.Attribute o name apos) (e :: es) [] cpos) (tBM X.K T r to t) := by
  intro pins s σ H Q I h
  refine wpAny_Call_method_late hbase hfew hline rfl (thn (ho pins s σ H _ I h) fun v s1 ⟨x, H1, I1, r1, ty, q1⟩ => ?_)
  obtain ⟨h1, h2⟩ := tyV_is I1 r1 ty
  refine ⟨T, id, pa, slot, hty, h1, h2, ?_⟩
  have hA := ha cpos pins s1 σ H1 _ I1 q1
  rw [hs] at hA ⊢
  refine Calls.callWith_builtin (by show (false || (backTo cpos (starEach es X.env)).any (·.1)) = false; rw [hplain] <;> rfl) (Calls.evalArgs_plain ?_)
  exact thn hA fun us s2 ⟨vs, H2, I2, r2, q2⟩ => hm pins s2 σ H2 x vs v us Q I2 r1 r2 q2
/- xs.append(e), list.index on a module's tuple .. are MtR facts of 06m -/
end
end L2
namespace L2
open PySem PySem.Spec PyProof.Rows
def MtM (X : Cx) (id : String) (r : V → List V → Hp → VK → Prop) : Prop :=
  ∀ (pins : List (Addr × Obj)) (s : Shared) (σ : St) (H : Hp) (x : V) (xs : List V) (v : Value) (us : List Value) (Q : VK), Inv X pins σ H s → RelV x v → Vals xs us → r x xs H Q →
    wpAny (model X.prog X.w) X.A (call (.builtin id) (v :: us)) (EP X pins σ Q) X.xe s
/-! ### lists of values -/
theorem Vals.one : ∀ {x : V} {us : List Value}, Vals [x] us → ∃ u, us = [u] ∧ RelV x u
  | _, _, .cons r .nil => ⟨_, rfl, r⟩
theorem Vals.rep {xs : List V} {us : List Value} (h : Vals xs us) : ∀ k : Nat, Vals (List.replicate k xs).flatten (List.replicate k us).flatten
  | 0 => .nil
  | k + 1 => by
    rw [List.replicate_succ, List.replicate_succ, List.flatten_cons, List.flatten_cons]
    exact Vals.append h (Vals.rep h k)
theorem foldl_rep (its : List Value) : ∀ (k : Nat) (acc : List Value),
    List.foldl (fun x1 x2 => x1 ++ x2) acc.toArray (List.replicate k its.toArray) = (acc ++ (List.replicate k its).flatten).toArray
  | 0, acc => by simp
  | k + 1, acc => by
    have e : acc.toArray ++ its.toArray = (acc ++ its).toArray := by simp
    have e2 : (acc ++ its) ++ (List.replicate k its).flatten = acc ++ (List.replicate (k + 1) its).flatten := by
      rw [List.replicate_succ, List.flatten_cons, List.append_assoc]
    rw [← e2, ← foldl_rep its k (acc ++ its), ← e, List.replicate_succ, List.foldl_cons]
section
variable {X : Cx} {pins : List (Addr × Obj)} {σ : St} {H : Hp} {s : Shared} {l b : Addr} {xs ys zs : List V}
/-! ### the two steps: a tracked list is rewritten, a new list is laid -/
theorem Inv.lset {its its' : List Value} {n : Nat} {f : Array Value → Array Value} {t' : Nat} (I : Inv X pins σ H s) (hH : H l = some (.lst xs))
    (e : s.heap.get? l = some { cls := .type "list", data := .seq its.toArray n }) (hf : f its.toArray = its'.toArray) (hv : Vals ys its') (hz : ys.length ≤ sizeLine) :
    Inv X pins σ (upd H l (.lst ys)) { s with heap := s.heap.update l (Obj.mapSeq f), toks := t' } := by
  have q := PySem.IsL.update e f
  rw [hf] at q
  refine I.write (x := l) (e := l) (by rw [hH]; exact trivial) (.inl rfl) (fun b' u hb hu => (Heap.get?_update_other s.heap (Obj.mapSeq f) (Ne.symm hb)).trans hu) ⟨_, q⟩ ?_
  exact ⟨hz, its', _, hv, q⟩
theorem Inv.lnew {its : List Value} {t' : Nat} (I : Inv X pins σ H s) (hv : Vals ys its) (hz : ys.length ≤ sizeLine) :
    Inv X pins σ (upd H s.heap.objs.size (.lst ys)) { s with heap := s.heap.push { cls := .type "list", data := .seq its.toArray }, toks := t' } :=
  I.laid (fun _ _ q => Heap.get?_push_of_some _ q) (Nat.le_refl _) ⟨hz, its, 0, hv, Heap.get?_push_size _ rfl⟩
theorem Inv.fresh (I : Inv X pins σ H s) : H s.heap.objs.size = none := I.hok.fresh (Nat.le_refl _)
theorem Inv.lstM (I : Inv X pins σ H s) (hH : H l = some (.lst xs)) : xs.length ≤ sizeLine ∧ ∃ (its : List Value) (n : Nat), Vals xs its ∧ xs.length = its.length ∧ s.heap.get? l = some { cls := .type "list", data := .seq its.toArray n } := by
  obtain ⟨z, its, n, r, e⟩ := I.hok l _ hH
  exact ⟨z, its, n, r, r.length, e⟩
theorem notLongL {n : Nat} (h : n ≤ sizeLine) : Builtin.List.listTooLong n = false := by
  unfold Builtin.List.listTooLong
  exact decide_eq_false (by omega)
end
section
variable {X : Cx}
/-! ### methods -/
def rAppend : V → List V → Hp → VK → Prop := fun x vs H Q => ∃ l xs y, x = .ref l ∧ vs = [y] ∧ H l = some (.lst xs) ∧ xs.length < sizeLine ∧ Q .non (upd H l (.lst (xs ++ [y])))
theorem mt_append : MtM X "list.append" rAppend := by
  intro pins s σ H x vs v us Q I rx rv h
  obtain ⟨l, xs, y, rfl, rfl, hH, hz, q⟩ := h
  cases rx
  obtain ⟨u, rfl, ru⟩ := rv.one
  obtain ⟨z, its, n, r, hl, e⟩ := I.lstM hH
  refine call_meets F.slot_list_append ⟨_, e, rfl⟩ F.entry_list_append (F.args_list_append_2 _ _) (PySem.list_append l its.toArray n u (by rw [List.size_toArray]; omega)) ⟨e, ?_⟩
  refine ⟨.non, _, I.lset (its' := its ++ [u]) hH e (by simp) (r.append (.cons ru .nil)) ?_, rfl, q⟩
  rw [List.length_append, List.length_singleton]
  omega
def rExtend : V → List V → Hp → VK → Prop := fun x vs H Q => ∃ l b xs zs, x = .ref l ∧ vs = [.ref b] ∧ H l = some (.lst xs) ∧ H b = some (.lst zs) ∧ xs.length + zs.length ≤ sizeLine ∧ Q .non (upd H l (.lst (xs ++ zs)))
theorem mt_extend : MtM X "list.extend" rExtend := by
  intro pins s σ H x vs v us Q I rx rv h
  obtain ⟨l, b, xs, zs, rfl, rfl, hH, hB, hz, q⟩ := h
  cases rx
  obtain ⟨u, rfl, ru⟩ := rv.one
  cases ru
  obtain ⟨z, its, n, r, hl, e⟩ := I.lstM hH
  obtain ⟨z2, its2, n2, r2, hl2, e2⟩ := I.lstM hB
  have hsz : its.toArray.size + its2.toArray.size ≤ sizeLine := by rw [List.size_toArray, List.size_toArray]; omega
  have hlong : ¬ (!its.toArray.isEmpty && Builtin.List.listTooLong (its.toArray.size + its2.toArray.size)) = true := by
    rw [notLongL hsz, Bool.and_false]
    exact Bool.false_ne_true
  refine call_meets F.slot_list_extend ⟨_, e, rfl⟩ F.entry_list_extend (F.args_list_extend_2 _ _)
    (AutoSeq1.list_extend_list_list_0 l its.toArray n b its2.toArray n2 hlong (by rw [List.size_toArray]; omega) (by omega)) ⟨e, e2, ?_⟩
  refine ⟨.non, _, I.lset (its' := its ++ its2) hH e (by simp) (r.append r2) ?_, rfl, q⟩
  rw [List.length_append]
  omega
/-! ### list + list, list += list, list * int -/
def rCat : R2 := fun x y H Q => ∃ l b xs zs, x = .ref l ∧ y = .ref b ∧ H l = some (.lst xs) ∧ H b = some (.lst zs) ∧ xs.length + zs.length ≤ sizeLine ∧ ∀ p, H p = none → Q (.ref p) (upd H p (.lst (xs ++ zs)))
theorem op_cat : OpR X (binaryOp .Add) rCat := by
  intro pins s σ H x y v u Q I rx ry h
  obtain ⟨l, b, xs, zs, rfl, rfl, hH, hB, hz, q⟩ := h
  cases rx
  cases ry
  obtain ⟨z, its, n, r, hl, e⟩ := I.lstM hH
  obtain ⟨z2, its2, n2, r2, hl2, e2⟩ := I.lstM hB
  refine PySem.P.add_list e e2 ?_ (by rw [List.size_toArray, List.size_toArray]; omega)
  have ea : its.toArray ++ its2.toArray = (its ++ its2).toArray := by simp
  rw [ea]
  exact ⟨.ref _, _, I.lnew (t' := s.toks) (r.append r2) (by rw [List.length_append]; omega), rfl, q _ I.fresh⟩
/-- a list times an int (a negative one is nothing) -/
def rRep : R2 := fun x y H Q => ∃ l k xs, x = .ref l ∧ y = .int k ∧ H l = some (.lst xs) ∧ -(2 ^ 63) ≤ k ∧ k < 2 ^ 63 ∧ xs.length * k.toNat ≤ sizeLine ∧
  ∀ p, H p = none → Q (.ref p) (upd H p (.lst (List.replicate k.toNat xs).flatten))
theorem len_rep {α : Type} (xs : List α) (k : Nat) : (List.replicate k xs).flatten.length = k * xs.length := by
  induction k with
  | zero => simp
  | succ k ih => rw [List.replicate_succ, List.flatten_cons, List.length_append, ih, Nat.succ_mul, Nat.add_comm]
theorem op_rep : OpR X (binaryOp .Mult) rRep := by
  intro pins s σ H x y v u Q I rx ry h
  obtain ⟨l, k, xs, rfl, rfl, hH, h1, h2, hz, q⟩ := h
  cases rx
  obtain ⟨t, rfl⟩ := ry
  obtain ⟨z, its, n, r, hl, e⟩ := I.lstM hH
  have hlen : its.toArray.size * k.toNat ≤ sizeLine := by rw [List.size_toArray, ← hl]; exact hz
  have hcap : ¬ its.toArray.size * k.toNat > (2 ^ 63 - 1) / 8 := by
    have : (sizeLine : Nat) ≤ (2 ^ 63 - 1) / 8 := by decide
    omega
  have hfit : ¬ (!Builtin.List.listFitsIndex k) = true := by
    rw [fitsIndex_both h1 h2]
    exact Bool.false_ne_true
  have hlong : ¬ Builtin.List.listTooLong (its.toArray.size * k.toNat) = true := by
    rw [notLongL hlen]
    exact Bool.false_ne_true
  have hnew : List.foldl (fun x1 x2 => x1 ++ x2) #[] (List.replicate (if its.toArray.isEmpty = true then 0 else k.toNat) its.toArray) = (List.replicate k.toNat its).flatten.toArray := by
    have f0 : ∀ m : Nat, List.foldl (fun x1 x2 => x1 ++ x2) #[] (List.replicate m its.toArray) = (List.replicate m its).flatten.toArray := fun m => by
      have := foldl_rep its m []
      rw [List.nil_append] at this
      exact this
    rw [f0]
    cases its with
    | nil => simp
    | cons a r' => rw [if_neg (by simp)]
  refine wpAny_binaryOp_repeat_ref (T := "list") (U := "int") (by decide) ⟨_, e, rfl⟩ (fun s' => typeIs_int s' k t) noFill_list_mul F.fills_int_mul F.slot_int_rmul repeat_list F.slot_int_index.lookup
    (call_meets F.slot_int_rmul (typeIs_int s k t) F.entry_int_rmul (F.args_int_rmul_2 _ _) (int___rmul___int_list k t l its.toArray n)
      ⟨e, rfl, ⟨_, e, rfl⟩, call_meets F.slot_list_mul ⟨_, e, rfl⟩ F.entry_list_mul (F.args_list_mul_2 _ _) (AutoListH.list___mul___list_int_3 l its.toArray n k t hfit hcap hlong) ⟨e, ?_⟩⟩)
  rw [hnew]
  exact ⟨.ref _, _, I.lnew (t' := s.toks) (r.rep k.toNat) (by rw [len_rep, Nat.mul_comm]; exact hz), rfl, q _ I.fresh⟩
/-! ### del xs[i] -/
end
/-! ### xs[a:b] = ys -/
section
variable {prog : Program} {w : World} {A : Around} {E : Value → Shared → Prop} {s : Shared}
set_option maxRecDepth 100000 in
end
section
variable {X : Cx}
end
end L2
namespace L2
open PySem PySem.Spec PyProof.Rows
theorem Vals.ints : ∀ {ns : List Int} {us : List Value}, Vals (ns.map V.int) us → IntsAre us ns
  | [], us, h => by
    rw [List.map_nil] at h
    cases h
    exact IntsAre.nil
  | n :: ns, us, h => by
    rw [List.map_cons] at h
    cases h with
    | cons r t =>
      obtain ⟨k, rfl⟩ := r
      exact IntsAre.cons n k (Vals.ints t)
theorem Vals.bls : ∀ {bs : List Bool} {us : List Value}, Vals (bs.map V.bl) us → us = bs.map Value.bool
  | [], us, h => by
    rw [List.map_nil] at h
    cases h
    rfl
  | b :: bs, us, h => by
    rw [List.map_cons] at h
    cases h with
    | cons r t =>
      cases r
      rw [Vals.bls t, List.map_cons]
theorem Vals.ref1 {a : Addr} {us : List Value} (r : Vals [V.ref a] us) : us = [Value.ref a] := by
  cases r with
  | cons r t =>
    cases t
    cases r
    rfl
/-! ### the library's walks over a list of ints, kept objects alone -/
section
variable {prog : Program} {w : World} {A : Around} {E : Value → Shared → Prop} {s : Shared} {l : Addr} {its : List Value} {ns : List Int} {Q : Value → Shared → Prop}
theorem sum_raw (hh : A.handled = none) (hl : s.heap.IsList l its.toArray) (hi : IntsAre its ns)
    (h : ∀ h' tk t', (∀ b o, s.heap.get? b = some o → h'.get? b = some o) → Q (.int ns.sum t') { s with heap := h', toks := tk }) : wpAny (model prog w) A (call (.builtin "sum") [.ref l]) Q E s := by
  obtain ⟨xs, e⟩ := hi.allInts.items
  have hn : numsOf (intItems xs).toList = ns := by rw [← e]; exact hi.numsOf
  rw [nums_intItems] at hn
  rw [e] at hl
  refine PySem.sum_intListG hh hl fun h' tk t' hk => ?_
  have := h h' tk t' hk
  rw [preSum_eq, List.take_of_length_le (by simp), hn]; exact this
theorem max_raw (hh : A.handled = none) (hl : s.heap.IsList l its.toArray) (hi : IntsAre its ns) (hne : 0 < ns.length)
    (h : ∀ h' tk M t', (∀ b o, s.heap.get? b = some o → h'.get? b = some o) → M ∈ ns → (∀ a, a ∈ ns → a ≤ M) → Q (.int M t') { s with heap := h', toks := tk }) : wpAny (model prog w) A (call (.builtin "max") [.ref l]) Q E s := by
  obtain ⟨xs, e⟩ := hi.allInts.items
  have hn : numsOf (intItems xs).toList = ns := by rw [← e]; exact hi.numsOf
  rw [nums_intItems] at hn
  subst hn
  rw [e] at hl
  have hsz : 0 < xs.size := by simpa using hne
  refine PySem.max_intList hh hl hsz fun v h' tk hv hk => ?_
  obtain ⟨t, rfl⟩ := intItems_at hv
  obtain ⟨h1, h2⟩ := argBest_gt (numAt xs) (xs.size - 1)
  refine h h' tk _ t hk ?_ fun a ha => ?_
  · rw [numAt_eq]; exact PySem.getD_mem (by rw [List.length_map, Array.length_toList]; omega)
  · obtain ⟨j, hj, rfl⟩ := mem_getD ha
    rw [List.length_map, Array.length_toList] at hj
    rw [← numAt_eq]; exact h2 j (by omega)
end
/-! ### the calls, by values (CallR of 03t; MtR of 06l) -/
section
variable {X : Cx}
/-- sum(xs) of a list of ints -/
def rSum (K : PySem.W.Frag) : List V → Hp → VK → Prop := fun vs H Q => ∃ (a : Addr) (ns : List Int), vs = [V.ref a] ∧ SqL K H a (ns.map V.int) ∧ Q (.int ns.sum) H
/-- max(xs), min(xs) of a list of ints -/
def rMax (K : PySem.W.Frag) : List V → Hp → VK → Prop := fun vs H Q => ∃ (a : Addr) (ns : List Int), vs = [V.ref a] ∧ SqL K H a (ns.map V.int) ∧ 0 < ns.length ∧ ∀ m, m ∈ ns → (∀ y, y ∈ ns → y ≤ m) → Q (.int m) H
theorem cr_sum (hc : X.calm = true) : CallR X (.builtin "sum") (rSum X.K) := by
  intro pins s σ H vs us Q I r h
  obtain ⟨a, ns, rfl, hs, q⟩ := h
  obtain ⟨its, rv, hl, _⟩ := I.list hs
  rw [Vals.ref1 r]
  exact sum_raw (I.ok.hd hc) hl.isList rv.ints fun h' tk t' hk => ⟨.int _, H, I.kept hk, ⟨_, rfl⟩, q⟩
theorem cr_max (hc : X.calm = true) : CallR X (.builtin "max") (rMax X.K) := by
  intro pins s σ H vs us Q I r h
  obtain ⟨a, ns, rfl, hs, hne, q⟩ := h
  obtain ⟨its, rv, hl, _⟩ := I.list hs
  rw [Vals.ref1 r]
  exact max_raw (I.ok.hd hc) hl.isList rv.ints hne fun h' tk m t' hk h1 h2 => ⟨.int _, H, I.kept hk, ⟨_, rfl⟩, q m h1 h2⟩
/-! sorted, sort (fewer than 64 items: the library's own bound) -/
end
/-! ### list.index, flat items -/
section
variable {X : Cx}
end
/-! ### type(x) of an own instance; is, is not of a module's class -/
section
variable {X : Cx}
end
/-! ### any(xs), all(xs) of a list of bools -/
theorem iter_any {prog : Program} {w : World} {A : Around} {E : Value → Shared → Prop} {s : Shared} {l : Addr} {items : Array Value} {Q : Value → Shared → Prop} (hl : s.heap.IsList l items)
    (h : ∀ s₂ : Shared, s₂ = { s with heap := s.heap.push { cls := .type "list_iterator", data := .fields #[.ref l, .int 0 0] } } →
      (s₂.heap.IsListIter s.heap.objs.size l 0 ∧ s₂.heap.IsList l items) → l ≠ s.heap.objs.size → Q (.ref s.heap.objs.size) s₂) : wpAny (model prog w) A (pyIter (.ref l)) Q E s := by
  have hlt : l < s.heap.objs.size := by obtain ⟨_, e, _⟩ := hl; exact Heap.lt_size e
  exact wpAny_pyIter_list hl (h _ rfl ⟨⟨_, Heap.get?_push_size _ rfl, rfl, rfl⟩, hl.push _⟩ (Nat.ne_of_lt hlt))
theorem truth_bools {prog : Program} {w : World} {A : Around} {bs : List Bool} {its : List Value} (e : its = bs.map Value.bool) :
    TruthOf prog w A (fun i v => its.toArray[i]? = some v) (fun i => bs.getD i false) := fun i v s Q E hv hq => by
  have hv' : its[i]? = some v := by simpa using hv
  rw [e, List.getElem?_map] at hv'
  obtain ⟨b, hb, rfl⟩ := Option.map_eq_some_iff.mp hv'
  have hg : bs.getD i false = b := by rw [List.getD_eq_getElem?_getD, hb] <;> rfl
  have hq' : Q (bs.getD i false) s := hq
  rw [hg] at hq'
  exact wpAny_truthy_bool hq'
theorem all_range : ∀ bs : List Bool, (List.range bs.length).all (fun i => bs.getD i false) = bs.all id
  | [] => rfl
  | b :: bs => by
    rw [List.length_cons, List.range_succ_eq_map, List.all_cons, List.all_map, List.all_cons, ← all_range bs]
    all_goals rfl
section
variable {X : Cx}
def rAll (K : PySem.W.Frag) : List V → Hp → VK → Prop := fun vs H Q => ∃ (a : Addr) (bs : List Bool), vs = [V.ref a] ∧ SqL K H a (bs.map V.bl) ∧ Q (.bl (bs.all id)) H
theorem cr_all (hc : X.calm = true) : CallR X (.builtin "all") (rAll X.K) := by
  intro pins s σ H vs us Q I r h
  obtain ⟨a, bs, rfl, hs, q⟩ := h
  obtain ⟨its, rv, hl, _⟩ := I.list hs
  rw [Vals.ref1 r]
  have hb := rv.bls
  refine call_all_walk (iter_any hl.isList fun s₂ e2 st hne => ?_)
  subst e2
  refine ⟨_, _, _, _, _, _, _, rfl, Walks.list (A := X.A.in1) (I.ok.hd hc) _ a hne its.toArray, st, truth_bools hb, fun h' tk hk => ?_⟩
  refine ⟨.bl _, H, I.kept fun b o eo => hk b o (fun hmem => ?_) (Heap.get?_push_of_some _ eo), ?_, q⟩
  · rcases List.mem_cons.mp hmem with e1 | hmem
    · exact absurd (e1 ▸ Heap.lt_size eo) (Nat.lt_irrefl _)
    · cases hmem
  · show Value.bool _ = Value.bool _
    rw [← all_range, hb, List.size_toArray, List.length_map]
end
/-! ### == and != of data at any depth: none, bools, ints, texts, lists, tuples -/
mutual
inductive Dp (K : PySem.W.Frag) (H : Hp) : V → PyData → Prop
  | non : Dp K H .non .none
  | bl (b : Bool) : Dp K H (.bl b) (.bool b)
  | int (i : Int) : Dp K H (.int i) (.int i)
  | str (x : Str) : Dp K H (.str x) (.str x)
  | lst {a : Addr} {xs : List V} {ds : List PyData} : SqL K H a xs → DpAll K H xs ds → Dp K H (.ref a) (.list ds)
  | tup {a : Addr} {xs : List V} {ds : List PyData} : SqT K H a xs → DpAll K H xs ds → Dp K H (.ref a) (.tuple ds)
inductive DpAll (K : PySem.W.Frag) (H : Hp) : List V → List PyData → Prop
  | nil : DpAll K H [] []
  | cons {v : V} {vs : List V} {d : PyData} {ds : List PyData} : Dp K H v d → DpAll K H vs ds → DpAll K H (v :: vs) (d :: ds)
end
section
variable {X : Cx} {pins : List (Addr × Obj)} {σ : St} {H : Hp} {s : Shared}
mutual
theorem Dp.reads (I : Inv X pins σ H s) : ∀ (d : PyData) (v : V) (u : Value), Dp X.K H v d → RelV v u → ∃ as, Reads s.heap u d as
  | .none, _, _, h, r => by
    cases h
    cases r
    exact ⟨_, Reads.none⟩
  | .bool b, _, _, h, r => by
    cases h
    cases r
    exact ⟨_, Reads.bool b⟩
  | .int i, _, _, h, r => by
    cases h
    obtain ⟨t, rfl⟩ := r
    exact ⟨_, Reads.int i t⟩
  | .str x, _, _, h, r => by
    cases h
    obtain ⟨t, rfl⟩ := r
    exact ⟨_, Reads.str x t⟩
  | .list ds, _, _, h, r => by
    cases h with
    | lst hs ha =>
      cases r
      obtain ⟨its, rv, ⟨o, n, ho, hc, _, hd⟩, _⟩ := I.list hs
      obtain ⟨as, hr⟩ := Dp.readsAll I ds _ its ha rv
      exact ⟨_, Reads.list ho hc hd hr⟩
  | .tuple ds, _, _, h, r => by
    cases h with
    | tup hs ha =>
      cases r
      obtain ⟨its, rv, ⟨o, ho, hc, n, hd⟩, _⟩ := I.tuple hs
      obtain ⟨as, hr⟩ := Dp.readsAll I ds _ its ha rv
      exact ⟨_, Reads.tuple ho hc hd hr⟩
  | .dict _, _, _, h, _ => by cases h
theorem Dp.readsAll (I : Inv X pins σ H s) : ∀ (ds : List PyData) (vs : List V) (us : List Value), DpAll X.K H vs ds → Vals vs us → ∃ as, ReadsAll s.heap us ds as
  | [], _, _, h, r => by
    cases h
    cases r
    exact ⟨_, ReadsAll.nil⟩
  | d :: ds, _, _, h, r => by
    cases h with
    | cons h1 h2 =>
      cases r with
      | cons r1 r2 =>
        obtain ⟨as, q1⟩ := Dp.reads I d _ _ h1 r1
        obtain ⟨bs, q2⟩ := Dp.readsAll I ds _ _ h2 r2
        exact ⟨_, ReadsAll.cons q1 q2⟩
end
end
section
variable {X : Cx}
def rEqD (K : PySem.W.Frag) : R2 := fun x y H Q => ∃ d e, Dp K H x d ∧ Dp K H y e ∧ SeqAt.shaped d = true ∧ SeqAt.shaped e = true ∧ Q (.bl (PyData.eqv d e)) H
def rNeD (K : PySem.W.Frag) : R2 := fun x y H Q => ∃ d e, Dp K H x d ∧ Dp K H y e ∧ SeqAt.shaped d = true ∧ SeqAt.shaped e = true ∧ Q (.bl (!PyData.eqv d e)) H
theorem op_eqD (hu : X.A.units + 64 < cLine) : OpR X (compareOp .Eq) (rEqD X.K) := by
  intro pins s σ H x y v u Q I rx ry h
  obtain ⟨d, e, hd, he, sd, se, q⟩ := h
  obtain ⟨as, r1⟩ := Dp.reads I d x v hd rx
  obtain ⟨bs, r2⟩ := Dp.reads I e y u he ry
  exact SeqAt.compareEq_shaped r1 r2 sd se hu ⟨.bl _, H, I, rfl, q⟩
theorem op_neD (hu : X.A.units + 64 < cLine) : OpR X (compareOp .NotEq) (rNeD X.K) := by
  intro pins s σ H x y v u Q I rx ry h
  obtain ⟨d, e, hd, he, sd, se, q⟩ := h
  obtain ⟨as, r1⟩ := Dp.reads I d x v hd rx
  obtain ⟨bs, r2⟩ := Dp.reads I e y u he ry
  exact SeqAt.compareNe_shaped r1 r2 sd se hu ⟨.bl _, H, I, rfl, q⟩
end
end L2
namespace L2
open PySem PySem.Spec PyProof.Rows
abbrev CellAt (h : Heap) (c : Addr) (v : Option Value) : Prop := h.IsCell c v
def relS (scope sc : Scope) : Scope :=
  { scope with names := scope.names.map fun (n, k) => if (k == .free && sc.kind == .function && sc.names.lookup n == some .cell) then (n, .cell) else (n, k) }
def cloFrom (cells : List (Str × Addr)) : List (Str × NameKind) → List (Str × Addr) → List (Str × Addr)
  | [], acc => acc
  | (n, k) :: r, acc => if k == .free then cloFrom cells r ((n, (cells.lookup n).getD 0) :: acc) else cloFrom cells r acc
theorem closure_loop (env : Env) (f : Str × NameKind → List (Str × Addr) → Sem (ForInStep (List (Str × Addr))))
    (hf : ∀ n k c, f (n, k) c = if k == .free then (do let a ← cellOf env n; pure (.yield ((n, a) :: c))) else pure (.yield c)) :
    ∀ (names : List (Str × NameKind)) (acc : List (Str × Addr)), (∀ y ∈ names, y.2 = .free → ∃ c, env.cells.lookup y.1 = some c) → forIn names acc f = pure (cloFrom env.cells names acc)
  | [], acc, _ => by rw [List.forIn_nil]; rfl
  | (n, k) :: r, acc, h => by
    rw [List.forIn_cons, hf]
    have ih := fun acc => closure_loop env f hf r acc fun y hy => h y (List.mem_cons_of_mem _ hy)
    unfold cloFrom
    by_cases hk : (k == NameKind.free) = true
    · rw [if_pos hk, if_pos hk]
      obtain ⟨c, hc⟩ := h (n, k) List.mem_cons_self (by simpa using hk)
      have e : cellOf env n = pure c := by unfold cellOf; rw [hc]
      rw [e]
      have e2 : (env.cells.lookup n).getD 0 = c := by rw [hc]; rfl
      rw [e2]
      exact ih _
    · rw [if_neg hk, if_neg hk]
      exact ih _
theorem closure_ok {scope : Scope} {env : Env} (h : ∀ y ∈ scope.names, y.2 = .free → ∃ c, env.cells.lookup y.1 = some c) : closureFor scope env = pure (cloFrom env.cells scope.names []) := by
  simp only [closureFor]
  rw [closure_loop env _ (fun n k c => rfl) scope.names [] h]
  rfl
theorem mem_lookup {α : Type} : ∀ {l : List (Str × α)} {n : Str} {c : α}, (n, c) ∈ l → ∃ c', l.lookup n = some c'
  | (k, v) :: r, n, c, h => by
    rw [List.lookup_cons]
    cases hb : n == k with
    | true => exact ⟨_, rfl⟩
    | false =>
      rcases List.mem_cons.mp h with e | h
      · cases e; simp at hb
      · exact mem_lookup h
theorem cloFrom_mem {cells : List (Str × Addr)} : ∀ {names : List (Str × NameKind)} {acc : List (Str × Addr)} {n : Str} {c : Addr}, (n, c) ∈ cloFrom cells names acc → (n, c) ∈ acc ∨ ((n, .free) ∈ names ∧ c = (cells.lookup n).getD 0)
  | [], _, _, _, h => .inl h
  | (m, k) :: r, acc, n, c, h => by
    unfold cloFrom at h
    split at h
    · rename_i hk
      have hk : k = .free := by simpa using hk
      rcases cloFrom_mem h with h | ⟨h1, h2⟩
      · rcases List.mem_cons.mp h with e | h
        · cases e; exact .inr ⟨hk ▸ List.mem_cons_self, rfl⟩
        · exact .inl h
      · exact .inr ⟨List.mem_cons_of_mem _ h1, h2⟩
    · rcases cloFrom_mem h with h | ⟨h1, h2⟩
      · exact .inl h
      · exact .inr ⟨List.mem_cons_of_mem _ h1, h2⟩
theorem cloFrom_acc {cells : List (Str × Addr)} : ∀ {names : List (Str × NameKind)} {acc : List (Str × Addr)} {p : Str × Addr}, p ∈ acc → p ∈ cloFrom cells names acc
  | [], _, _, h => h
  | (m, k) :: r, acc, p, h => by
    unfold cloFrom
    split
    · exact cloFrom_acc (List.mem_cons_of_mem _ h)
    · exact cloFrom_acc h
theorem cloFrom_has {cells : List (Str × Addr)} : ∀ {names : List (Str × NameKind)} {acc : List (Str × Addr)} {n : Str}, (n, .free) ∈ names → (n, (cells.lookup n).getD 0) ∈ cloFrom cells names acc
  | (m, k) :: r, acc, n, h => by
    unfold cloFrom
    rcases List.mem_cons.mp h with e | h
    · cases e
      exact cloFrom_acc List.mem_cons_self
    · split
      · exact cloFrom_has h
      · exact cloFrom_has h
theorem cells_mem : ∀ {names : List (Str × NameKind)} {h : Heap} {acc : List (Str × Addr)} {x : Str} {c : Addr}, (x, c) ∈ cellsFrom h.objs.size names acc →
    (x, c) ∈ acc ∨ ((x, .cell) ∈ names ∧ h.objs.size ≤ c ∧ CellAt (pushCells h names) c none)
  | [], _, _, _, _, h => .inl h
  | (n, k) :: r, h, acc, x, c, hm => by
    unfold cellsFrom at hm
    unfold pushCells
    split at hm
    · rename_i hk
      rw [if_pos hk]
      have hk : k = .cell := by simpa using hk
      rw [← Heap.size_push h { cls := .type "cell", data := .cell none }] at hm
      rcases cells_mem hm with hm | ⟨h1, h2, h3⟩
      · rcases List.mem_cons.mp hm with e | hm
        · cases e
          exact .inr ⟨hk ▸ List.mem_cons_self, Nat.le_refl _, _, pushCells_keeps r _ _ _ (Heap.get?_push_size _ rfl), rfl⟩
        · exact .inl hm
      · rw [Heap.size_push] at h2
        exact .inr ⟨List.mem_cons_of_mem _ h1, Nat.le_of_succ_le h2, h3⟩
    · rename_i hk
      rw [if_neg hk]
      rcases cells_mem hm with hm | ⟨h1, h2, h3⟩
      · exact .inl hm
      · exact .inr ⟨List.mem_cons_of_mem _ h1, h2, h3⟩
theorem cells_acc : ∀ {names : List (Str × NameKind)} {n : Nat} {acc : List (Str × Addr)} {p : Str × Addr}, p ∈ acc → p ∈ cellsFrom n names acc
  | [], _, _, _, h => h
  | (m, k) :: r, n, acc, p, h => by
    unfold cellsFrom
    split
    · exact cells_acc (List.mem_cons_of_mem _ h)
    · exact cells_acc h
theorem cells_has : ∀ {names : List (Str × NameKind)} {n : Nat} {acc : List (Str × Addr)} {x : Str}, (x, .cell) ∈ names → ∃ c, (x, c) ∈ cellsFrom n names acc
  | (m, k) :: r, n, acc, x, h => by
    unfold cellsFrom
    rcases List.mem_cons.mp h with e | h
    · cases e
      exact ⟨n, cells_acc List.mem_cons_self⟩
    · split
      · exact cells_has h
      · exact cells_has h
theorem cells_inj : ∀ {names : List (Str × NameKind)} {h : Heap} {acc : List (Str × Addr)} {x y : Str} {c : Addr}, (∀ p ∈ acc, p.2 < h.objs.size) → (∀ x y c, (x, c) ∈ acc → (y, c) ∈ acc → x = y) →
    (x, c) ∈ cellsFrom h.objs.size names acc → (y, c) ∈ cellsFrom h.objs.size names acc → x = y
  | [], _, _, _, _, _, _, hi, h1, h2 => hi _ _ _ h1 h2
  | (n, k) :: r, h, acc, x, y, c, hl, hi, h1, h2 => by
    unfold cellsFrom at h1 h2
    split at h1
    · rename_i hk
      rw [if_pos hk] at h2
      rw [← Heap.size_push h { cls := .type "cell", data := .cell none }] at h1 h2
      refine cells_inj (h := h.push _) (fun p hp => ?_) (fun x y c a b => ?_) h1 h2
      · rw [Heap.size_push]
        rcases List.mem_cons.mp hp with rfl | hp
        · exact Nat.lt_succ_self _
        · exact Nat.lt_succ_of_lt (hl p hp)
      · rcases List.mem_cons.mp a with e | a <;> rcases List.mem_cons.mp b with e' | b
        · cases e; cases e'; rfl
        · cases e; exact absurd (hl _ b) (Nat.lt_irrefl _)
        · cases e'; exact absurd (hl _ a) (Nat.lt_irrefl _)
        · exact hi _ _ _ a b
    · rename_i hk
      rw [if_neg hk] at h2
      exact cells_inj hl hi h1 h2
theorem newEnv_comp {M : Model} {A : Around} {E : Value → Shared → Prop} {s : Shared} {scope : Scope} {globals : Addr} {closure : List (Str × Addr)} {qual : Str} {func : Option Addr} {code : Value} {around : Env} {builtins : Addr} {Q : Env → Shared → Prop}
    (h : Q (newEnv scope s.heap.objs.size globals (cellsFrom (s.heap.objs.size + 1) scope.names closure) qual func code (some around) builtins)
      { s with heap := pushCells (s.heap.push { cls := .type "dict", data := .dict #[] }) scope.names }) :
    wpAny M A (newFunctionEnv scope globals closure [] qual func code (some around) builtins) Q E s := by
  simp only [newFunctionEnv, Option.isSome_some, if_true]
  refine wpAny_bind (wpAny_alloc ?_)
  refine wpAny_bind (wpAny_layCells _ (fun n k c => rfl) scope.names closure _ _ ?_)
  rw [show ({ s with heap := s.heap.push { cls := .type "dict", data := .dict #[] } } : Shared).heap.objs.size = s.heap.objs.size + 1 from Heap.size_push ..]
  rw [List.forIn_nil]
  exact wpAny_bind (wpAny_pure (wpAny_pure h))
/-- every name of the written scope, in the scope that runs -/
theorem lookup_relS {sc : Scope} : ∀ {names : List (Str × NameKind)} {x : Str} {k : NameKind},
    (names.map fun (n, k) => if (k == NameKind.free && sc.kind == .function && sc.names.lookup n == some .cell) then (n, NameKind.cell) else (n, k)).lookup x = some k →
    ∃ k', names.lookup x = some k' ∧ (k = k' ∨ (k' = .free ∧ k = .cell))
  | [], _, _, h => by simp at h
  | (n, k₀) :: r, x, k, h => by
    have ih := @lookup_relS sc r x k
    have h' : List.lookup x ((if (k₀ == NameKind.free && sc.kind == .function && sc.names.lookup n == some .cell) = true then (n, NameKind.cell) else (n, k₀)) :: (r.map _)) = some k := h
    cases hx : x == n with
    | true =>
      simp only [List.lookup_cons, hx]
      by_cases hc : (k₀ == NameKind.free && sc.kind == .function && sc.names.lookup n == some .cell) = true
      · rw [if_pos hc] at h'
        simp only [List.lookup_cons, hx] at h'
        cases h'
        simp only [Bool.and_eq_true, beq_iff_eq] at hc
        exact ⟨k₀, rfl, .inr ⟨hc.1.1, rfl⟩⟩
      · rw [if_neg hc] at h'
        simp only [List.lookup_cons, hx] at h'
        cases h'
        exact ⟨_, rfl, .inl rfl⟩
    | false =>
      simp only [List.lookup_cons, hx]
      by_cases hc : (k₀ == NameKind.free && sc.kind == .function && sc.names.lookup n == some .cell) = true
      · rw [if_pos hc] at h'
        simp only [List.lookup_cons, hx] at h'
        exact ih h'
      · rw [if_neg hc] at h'
        simp only [List.lookup_cons, hx] at h'
        exact ih h'
/-- the names of a comprehension's block: its own (with their places in N), or captured -/
structure BlkOk (N : List Str) (sc scope : Scope) (own : List (Str × Nat)) : Prop where
  kind : scope.kind = .function
  uniq : ∀ y ∈ scope.names, scope.names.lookup y.1 = some y.2
  ix : ∀ p ∈ own, N[p.2]? = some p.1
  free : ∀ y ∈ scope.names, y.2 = .free → sc.names.lookup y.1 = some .cell ∨ sc.names.lookup y.1 = some .free
  own : ∀ y ∈ scope.names, y.2 = .local ∨ y.2 = .cell → y.1 ∈ own.map (·.1) ∨ y.1 ∉ N
/-- the slots of the block's own names forgotten -/
def wipe (σ : St) : List Nat → St
  | [] => σ
  | v :: vs => (wipe σ vs).set v none
theorem wipe_length (σ : St) : ∀ vs : List Nat, (wipe σ vs).length = σ.length
  | [] => rfl
  | v :: vs => by unfold wipe; rw [List.length_set, wipe_length σ vs]
theorem wipe_some {σ : St} {i : Nat} {x : V} : ∀ {vs : List Nat}, (wipe σ vs)[i]? = some (some x) → σ[i]? = some (some x) ∧ i ∉ vs
  | [], h => ⟨h, by simp⟩
  | v :: vs, h => by
    unfold wipe at h
    by_cases hi : v = i
    · subst hi
      by_cases hv : v < (wipe σ vs).length
      · rw [List.getElem?_set_self hv] at h; cases h
      · rw [List.getElem?_eq_none (by simpa using hv)] at h; cases h
    · rw [List.getElem?_set_ne hi] at h
      obtain ⟨h1, h2⟩ := wipe_some h
      exact ⟨h1, by simp only [List.mem_cons, not_or]; exact ⟨fun e => hi e.symm, h2⟩⟩
/-- the context of a block that starts at s, its iterator's objects at fp -/
abbrev Cx.blk (X : Cx) (s : Shared) (H : Hp) (scope : Scope) (cenv : Env) (fp : List Addr) : Cx := { X with s_0 := s, H_0 := H, env := cenv, outer := X.stack, ex := fp, fn := fun x => scope.names.lookup x == some .cell, pn := [], xe := fun _ _ => False }
section
variable {X : Cx} {pins : List (Addr × Obj)} {σ : St} {H : Hp} {s : Shared}
theorem block_start {scope : Scope} {own : List (Str × Nat)} {fp : List Addr} (I : Inv X pins σ H s) (ok : BlkOk X.N X.env.scope scope own) (hN : X.N.Nodup) (hfp : ∀ b ∈ fp, FpOk X pins H b ∧ b < s.heap.objs.size) :
    Inv (X.blk s H scope (compEnvC scope (cellsFrom (s.heap.objs.size + 1) scope.names (cloFrom X.env.cells scope.names [])) s.heap.objs.size X.env) fp) [] (wipe σ (own.map (·.2))) H { s with heap := pushCells (s.heap.push { cls := .type "dict", data := .dict #[] }) scope.names } := by
  have hfree : ∀ y ∈ scope.names, y.2 = .free → ∃ c, X.env.cells.lookup y.1 = some c := fun y hy e => by
    rcases ok.free y hy e with k | k
    · exact I.ok.has _ (.inl k)
    · exact I.ok.has _ (.inr k)
  generalize hcenv : compEnvC scope (cellsFrom (s.heap.objs.size + 1) scope.names (cloFrom X.env.cells scope.names [])) s.heap.objs.size X.env = cenv
  have kp : ∀ b o, s.heap.get? b = some o → (pushCells (s.heap.push { cls := .type "dict", data := .dict #[] }) scope.names).get? b = some o := fun b o e => pushCells_keeps _ _ _ _ (Heap.get?_push_of_some _ e)
  have hL : cenv.locals = s.heap.objs.size := by rw [← hcenv]; rfl
  have hcl : cenv.cells = cellsFrom (s.heap.objs.size + 1) scope.names (cloFrom X.env.cells scope.names []) := by rw [← hcenv]; rfl
  have hsc : cenv.scope = relS scope X.env.scope := by rw [← hcenv]; rfl
  rw [← Heap.size_push s.heap { cls := .type "dict", data := .dict #[] }] at hcl
  have cm : ∀ {y c}, (y, c) ∈ cloFrom X.env.cells scope.names [] → X.env.cells.lookup y = some c ∧ c < s.heap.objs.size := fun {y c} hm => by
    rcases cloFrom_mem hm with hm | ⟨h1, rfl⟩
    · cases hm
    · obtain ⟨c, hc⟩ := hfree _ h1 rfl
      rw [hc]
      obtain ⟨w, z⟩ := I.cell _ _ hc
      exact ⟨rfl, z.lt⟩
  have mem : ∀ {y c}, cenv.cells.lookup y = some c → (X.env.cells.lookup y = some c ∧ c < s.heap.objs.size) ∨ (s.heap.objs.size + 1 ≤ c ∧ CellAt (pushCells (s.heap.push { cls := .type "dict", data := .dict #[] }) scope.names) c none) := fun {y c} e => by
    rw [hcl] at e
    rcases cells_mem (PySem.mem_of_lookup e) with hm | ⟨_, h2, h3⟩
    · exact .inl (cm hm)
    · rw [Heap.size_push] at h2; exact .inr ⟨h2, h3⟩
  have look : ∀ {y}, scope.names.lookup y = some .free → ∃ c, cenv.cells.lookup y = some c ∧ X.env.cells.lookup y = some c := fun {y} hl => by
    have hy : (y, NameKind.free) ∈ scope.names := PySem.mem_of_lookup hl
    obtain ⟨c', e'⟩ := mem_lookup (cells_acc (names := scope.names) (n := (s.heap.push { cls := .type "dict", data := .dict #[] }).objs.size) (cloFrom_has (cells := X.env.cells) (acc := []) hy))
    rw [← hcl] at e'
    refine ⟨c', e', ?_⟩
    rw [hcl] at e'
    rcases cells_mem (PySem.mem_of_lookup e') with hm | ⟨h1, _, _⟩
    · exact (cm hm).1
    · have := ok.uniq _ h1
      rw [hl] at this; cases this
  have okB : (X.blk s H scope cenv fp).Ok := by
    refine ⟨I.ok.mod, by show cenv.scope.kind = _; rw [hsc]; exact ok.kind, by show cenv.globals = _; rw [← hcenv]; exact I.ok.glob, by show cenv.builtins = _; rw [← hcenv]; exact I.ok.blt, by show s.heap.objs.size ≤ cenv.locals; rw [hL]; exact Nat.le_refl _,
      fun y z c e1 e2 => ?_, fun y hy => ?_, fun y c z e => ?_, I.ok.hd, I.ok.frames, .inl rfl, fun b hb => ⟨?_, fun y c e z => ?_⟩, I.bs, Nat.le_trans I.ok.bsz I.sz, fun b o e hb => ?_, fun b hb z => ?_, I.stack, I.stkFree⟩
    · have e1 : cenv.cells.lookup y = some c := e1
      have e2 : cenv.cells.lookup z = some c := e2
      rw [hcl] at e1 e2
      refine cells_inj (fun p hp => ?_) (fun y z c a b => I.ok.inj y z c (cm a).1 (cm b).1) (PySem.mem_of_lookup e1) (PySem.mem_of_lookup e2)
      rw [Heap.size_push]
      exact Nat.lt_succ_of_lt (cm (y := p.1) (c := p.2) hp).2
    · show ∃ c, cenv.cells.lookup y = some c
      have key : ∀ k, cenv.kindOf y = some k → (k = .cell ∨ k = .free) → ∃ c, cenv.cells.lookup y = some c := fun k hk hk' => by
        unfold Env.kindOf at hk
        rw [hsc] at hk
        obtain ⟨k', e, r⟩ := lookup_relS hk
        have : k' = .cell ∨ k' = .free := by
          rcases r with rfl | ⟨rfl, _⟩
          · exact hk'
          · exact .inr rfl
        rcases this with rfl | rfl
        · obtain ⟨c, hm⟩ := cells_has (n := (s.heap.push { cls := .type "dict", data := .dict #[] }).objs.size) (acc := cloFrom X.env.cells scope.names []) (PySem.mem_of_lookup e)
          obtain ⟨c', e'⟩ := mem_lookup hm
          exact ⟨c', by rw [hcl]; exact e'⟩
        · obtain ⟨c, h1, _⟩ := look e
          exact ⟨c, h1⟩
      rcases hy with hy | hy
      · exact key _ hy (.inl rfl)
      · exact key _ hy (.inr rfl)
    · have z : (scope.names.lookup y == some NameKind.cell) = true := z
      have z : scope.names.lookup y = some .cell := by simpa using z
      have e : cenv.cells.lookup y = some c := e
      rw [hcl] at e
      rcases cells_mem (PySem.mem_of_lookup e) with hm | ⟨_, h2, _⟩
      · rcases cloFrom_mem hm with hm | ⟨h1, _⟩
        · cases hm
        · have q := ok.uniq _ h1
          rw [z] at q; cases q
      · rw [Heap.size_push] at h2
        exact Nat.le_of_succ_le h2
    · show b ≠ cenv.locals
      rw [hL]; exact Nat.ne_of_lt (hfp b hb).2
    · have e : cenv.cells.lookup y = some c := e
      rcases mem e with ⟨h1, _⟩ | ⟨h1, _⟩
      · exact (hfp b hb).1.2.2.2.2.1 y c h1 z
      · have h2 : s.heap.objs.size + 1 ≤ b := by rw [← z]; exact h1
        exact absurd (Nat.lt_of_lt_of_le (hfp b hb).2 (Nat.le_of_succ_le h2)) (Nat.lt_irrefl _)
    · rcases (hfp b hb).1.2.2.2.1 with z | z
      · exact I.ok.noex b o e z
      · exact absurd (Nat.lt_of_lt_of_le (Heap.lt_size e) (Nat.le_trans I.ok.bsz z)) (Nat.lt_irrefl _)
    · rcases List.mem_cons.mp (I.stkSub b z) with z | z
      · exact (hfp b hb).1.2.1 z
      · exact (hfp b hb).1.2.2.1 z
  refine ⟨okB, rfl, I.bare, Un.kept kp, ⟨fun _ => none, ?_, fun i y av e1 e2 e3 => ?_⟩, fun y c e => ?_, ?_, fun y c e => ?_, fun p hp => ?_, I.hok.kept kp, by rw [wipe_length]; exact I.len⟩
  · show Heap.Ns _ cenv.locals _
    rw [hL]
    exact Heap.Ns.keeps (Heap.Ns.new ..) fun b o e => pushCells_keeps _ _ _ _ e
  · obtain ⟨e2, hne⟩ := wipe_some e2
    have hfr : scope.names.lookup y = some .free ∧ (cenv.kindOf y = some .cell ∨ cenv.kindOf y = some .free) := by
      have key : ∀ k, cenv.scope.names.lookup y = some k → k = .local ∨ k = .cell ∨ k = .free → scope.names.lookup y = some .free ∧ (cenv.kindOf y = some .cell ∨ cenv.kindOf y = some .free) := fun k hk hk' => by
        have hk0 := hk
        rw [hsc] at hk
        obtain ⟨k', e, r⟩ := lookup_relS hk
        have no : ¬ (k' = .local ∨ k' = .cell) := fun hh => by
          rcases ok.own _ (PySem.mem_of_lookup e) hh with e' | e'
          · obtain ⟨p, hp, hpy⟩ := List.mem_map.mp e'
            have e3 := ok.ix p hp
            have : p.1 = y := hpy
            rw [this] at e3
            exact hne (List.mem_map.mpr ⟨p, hp, nodup_ix hN e3 e1⟩)
          · exact e' (List.mem_of_getElem? e1)
        rcases r with rfl | ⟨rfl, rfl⟩
        · rcases hk' with rfl | rfl | rfl
          · exact absurd (.inl rfl) no
          · exact absurd (.inr rfl) no
          · exact ⟨e, .inr hk0⟩
        · exact ⟨e, .inl hk0⟩
      have e3 : Vis cenv.scope y := e3
      rcases e3 with e3 | e3 | e3
      · exact key _ e3 (.inl rfl)
      · exact key _ e3 (.inr (.inl rfl))
      · exact key _ e3 (.inr (.inr rfl))
    obtain ⟨m, hn, hl⟩ := I.loc
    have hvis : Vis X.env.scope y := (ok.free _ (PySem.mem_of_lookup hfr.1) rfl).elim (fun k => .inr (.inl k)) (fun k => .inr (.inr k))
    obtain ⟨w, r, q⟩ := hl i y av e1 e2 hvis
    refine ⟨w, r, .inr ⟨hfr.2, ?_⟩⟩
    obtain ⟨c, h1, h2⟩ := look hfr.1
    rcases q with ⟨k, _⟩ | ⟨_, c', e', z⟩
    · have k : X.env.scope.names.lookup y = some .local := k
      rcases ok.free _ (PySem.mem_of_lookup hfr.1) rfl with k' | k' <;> rw [show X.env.scope.names.lookup y = _ from k'] at k <;> cases k
    · rw [h2] at e'; cases e'
      exact ⟨c, h1, z.keeps kp⟩
  · have e : cenv.cells.lookup y = some c := e
    rcases mem e with ⟨h1, _⟩ | ⟨_, z⟩
    · obtain ⟨w, z⟩ := I.cell y c h1
      exact ⟨w, z.keeps kp⟩
    · exact ⟨_, z⟩
  · show H cenv.locals = none
    rw [hL]; exact I.hok.fresh (Nat.le_refl _)
  · have e : cenv.cells.lookup y = some c := e
    rcases mem e with ⟨h1, _⟩ | ⟨h1, _⟩
    · exact I.freeC y c h1
    · exact I.hok.fresh (Nat.le_of_succ_le h1)
  · exact absurd (show p ∈ ([] : List (Addr × Obj)) ++ [] from hp) (by simp)
/-- an item appended to a tracked list -/
theorem app_ok {E : Value → Shared → Prop} {D : Addr} {xs : List V} {y : V} {v : Value} {Q : Value → Shared → Prop} (I : Inv X pins σ H s) (hD : H D = some (.lst xs)) (hz : xs.length < sizeLine) (r : RelV y v)
    (h : ∀ s', Inv X pins σ (upd H D (.lst (xs ++ [y]))) s' → Q .none s') : wpAny (model X.prog X.w) X.A (call (.builtin "list.append") [.ref D, v]) Q E s := by
  obtain ⟨hz', its, n, ri, e⟩ := I.hok D _ hD
  have hl := ri.length
  refine append_at (hsz := by rw [List.size_toArray]; omega) e fun h' sb ho' => ?_
  refine h { s with heap := h' } (I.write (t' := s.toks) (by rw [hD]; trivial) (.inl rfl) (fun b u hb q => (sb.2 b hb).trans q) ⟨_, ho'⟩ ⟨by rw [List.length_append]; exact hz, its ++ [v], n + 1, ri.append (.cons r .nil), ?_⟩)
  rw [ho']
  simp
/-- a clause's tests -/
def PTs (X : Cx) (ifs : List Expr) (t : TT) : Prop :=
  ∀ (pins : List (Addr × Obj)) (s : Shared) (σ : St) (H : Hp) (Q : Bool → Hp → Prop), Inv X pins σ H s → t σ H Q →
    wpAny (model X.prog X.w) X.A (forIn ifs true fun c r => if r = true then do let ok ← isTrue c X.env (eval c X.env); pure (ForInStep.yield ok) else pure (ForInStep.yield r)) (TP X pins σ Q) X.xe s
def tYes : TT := fun _ H Q => Q true H
theorem pts_nil : PTs X [] tYes := fun _ _ _ H _ I h => wpAny_tests_nil ⟨H, I, h⟩
theorem pts_one {c : Expr} {t : TT} (h : PT X c t) : PTs X [c] t := fun pins s σ H Q I hw => wpAny_tests_one (h pins s σ H Q I hw)
end
theorem thnF {α : Type} {t : Sem α} {Q Q' : α → Shared → Prop} {M : Model} {A : Around} {E : Value → Shared → Prop} {s : Shared} (h : wpAny M A t Q (fun _ _ => False) s) (hQ : ∀ a s, Q a s → Q' a s) : wpAny M A t Q' E s := wpAny_mono h hQ fun _ _ z => False.elim z
/-- the loop of a list comprehension's block, the target of any form (codeAny_compLoop_tests asks a target that no tuple goes to; statement and proof follow it, PyProof/CompMap.lean:41-61, with the step letOwnedTupleGo kept) -/
theorem compLoop_any {prog : Program} {w : World} {A : Around} {R : Result → Shared → Prop} {s : Shared} {elt target iter : Expr} {ifs : List Expr} {scope : Scope} {pos : Pos} {it acc : Value} {env : Env} (I : Nat → Shared → Prop)
    (turn : ∀ n s, I n s → wpAny (model prog w) A (pyNext it) (fun r s₁ => match r with
      | none => R (.ok .next) s₁
      | some v => wpAny (model prog w) A (letOwnedTupleGo target it v) (fun _ s₁' => wpAny (model prog w) A (assign target env v) (fun _ s₂ =>
          wpAny (model prog w) A (forIn ifs true fun c r => if r = true then do let ok ← isTrue c env (eval c env); pure (ForInStep.yield ok) else pure (ForInStep.yield r)) (fun ok s₃ =>
            if ok = true then wpAny (model prog w) A (eval elt env) (fun x s₄ =>
              wpAny (model prog w) A (call (.builtin "list.append") [acc, x]) (fun _ s₅ => ∃ m, m < n ∧ I m s₅) (notedBy (model prog w) A env fun e s' => R (.error e) s') s₄) (notedBy (model prog w) A env fun e s' => R (.error e) s') s₃
            else ∃ m, m < n ∧ I m s₃) (notedBy (model prog w) A env fun e s' => R (.error e) s') s₂) (notedBy (model prog w) A env fun e s' => R (.error e) s') s₁') (notedBy (model prog w) A env fun e s' => R (.error e) s') s₁) (notedBy (model prog w) A env fun e s' => R (.error e) s') s)
    (n : Nat) (h : I n s) :
    codeAny (model prog w) A (.compLoop (.ListComp elt [⟨target, iter, ifs, 0⟩] scope pos) 0 it acc env) R s := by
  refine codeAny_loop rfl I (fun n s hI => ?_) n h
  show wpAny _ A ((compTurn (.ListComp elt [⟨target, iter, ifs, 0⟩] scope pos) 0 it acc env).onRaise (fun x => do noteFrame x env; theTreesLotGoes x)) _ _ s
  refine wpAny_noted ?_
  rw [compTurn_list]
  refine wpAny_bind (wpAny_standAt (wpAny_bind (wpAny_mono (turn n s hI) (fun r s₁ h₁ => ?_) fun _ _ h' => h')))
  cases r with
  | none => exact wpAny_pure h₁
  | some v =>
    refine wpAny_bind (wpAny_mono h₁ (fun _ s₁' h₁' => ?_) fun _ _ h' => h')
    refine wpAny_bind (wpAny_mono h₁' (fun _ s₂ h₂ => wpAny_bind (wpAny_mono h₂ (fun ok s₃ h₃ => ?_) fun _ _ h' => h')) fun _ _ h' => h')
    cases ok with
    | false => exact wpAny_pure ⟨rfl, h₃⟩
    | true =>
      exact wpAny_bind (wpAny_bind (wpAny_mono h₃ (fun x s₄ h₄ => wpAny_bind (wpAny_mono h₄ (fun _ s₅ h₅ => wpAny_pure (wpAny_pure ⟨rfl, h₅⟩)) fun _ _ h' => h')) fun _ _ h' => h'))
section
variable {X : Cx}
/-- [elt for target in iter if ..]: D the new list; W by the turn and a measure, Nx what a turn is to reach -/
def tLc (wi : TI) (g : TG) (tt : TT) (te : TE) (vs : List Nat) : TE := fun σ H Q => wi σ H fun J H1 => ∀ D, H1 D = none → ∃ W : Nat → Nat → Hp → Prop, (∃ m, W 0 m (upd H1 D (.lst []))) ∧ ∀ i m H, W i m H →
  (J.stop i H ∧ Q (.ref D) H) ∨ (J.go i H ∧ ∃ Nx : Hp → Prop, (∀ H', Nx H' → ∃ m', m' < m ∧ W (i + 1) m' H') ∧ ∀ x H', J.yld i H x H' → g x (wipe σ vs) H' fun σ2 H2 => wipe σ2 vs = wipe σ vs ∧ tt σ2 H2 fun b H3 =>
    if b = true then te σ2 H3 fun y H4 => ∃ acc, H4 D = some (.lst acc) ∧ acc.length < sizeLine ∧ Nx (upd H4 D (.lst (acc ++ [y]))) else Nx H3)
theorem lc_core {pins : List (Addr × Obj)} {s : Shared} {σ : St} {H : Hp} {Q : VK} {elt tg iter : Expr} {ifs : List Expr} {scope : Scope} {own : List (Str × Nat)} {pos pos' : Pos} {wi : TI} {g : TG} {tt : TT} {te : TE} {use : Option (Value → Sem Unit)} {Qf : Value → Shared → Prop}
    (hc : X.calm = true) (hN : X.N.Nodup) (I : Inv X pins σ H s) (hi : PI X tg iter wi) (ok : BlkOk X.N X.env.scope scope own)
    (hg : ∀ (s : Shared) (H : Hp) (C : Addr) (cl : List (Str × Addr)) (fp : List Addr), PG (X.blk s H scope (compEnvC scope cl C X.env) fp) tg g) (ht : ∀ (s : Shared) (H : Hp) (C : Addr) (cl : List (Str × Addr)) (fp : List Addr), PTs (X.blk s H scope (compEnvC scope cl C X.env) fp) ifs tt)
    (he : ∀ (s : Shared) (H : Hp) (C : Addr) (cl : List (Str × Addr)) (fp : List Addr), PE (X.blk s H scope (compEnvC scope cl C X.env) fp) elt te) (hs : ∀ x, foldedSetIterable iter X.env x = pure x)
    (h : tLc wi g tt te (own.map (·.2)) σ H Q)
    (hRR : ∀ D C s' m H', Inv X pins σ H' s' → Q (.ref D) H' → s'.heap.Ns C m → FpOk X pins H' C → compPost (model X.prog X.w) X.A X.xe use Qf (.ref D) C (.ok .next) s') :
    wpAny (model X.prog X.w) X.A (comprehension (.ListComp elt [⟨tg, iter, ifs, 0⟩] scope pos) scope X.env pos' (newList []) false (eval iter X.env) use) Qf X.xe s := by
  have hfree : ∀ y ∈ scope.names, y.2 = .free → ∃ c, X.env.cells.lookup y.1 = some c := fun y hy e => by
    rcases ok.free y hy e with k | k
    · exact I.ok.has _ (.inl k)
    · exact I.ok.has _ (.inr k)
  refine wpAny_comprehension_free (use := use) rfl hs (closure_ok hfree) ok.kind (fun y hy e => by rw [ok.uniq y hy, e])
    (thn (hi pins s σ H _ I h) fun xv s1 hx => thn hx fun itv s2 h2 => ?_)
  obtain ⟨it, fp, tn, J, H2, e, I2, T, st2, f2, q⟩ := h2
  subst e
  refine wpAny_newObj_type (newEnv_comp ?_) (by show 0 ≤ sizeLine; decide)
  generalize hD : s2.heap.objs.size = D
  have hDn : H2 D = none := I2.hok.fresh (Nat.le_of_eq hD)
  obtain ⟨W, ⟨m0, w0⟩, turn⟩ := q D hDn
  -- the new list
  generalize hs3 : ({ s2 with heap := s2.heap.push { cls := .type "list", data := .seq ([] : List Value).toArray } } : Shared) = s3
  have I3 : Inv X pins σ (upd H2 D (.lst [])) s3 := by
    rw [← hs3]
    refine I2.laid (t' := s2.toks) (fun b o e => Heap.get?_push_of_some _ e) (Nat.le_of_eq hD) ⟨Nat.zero_le _, [], 0, .nil, ?_⟩
    rw [← hD]
    exact Heap.get?_push_size _ rfl
  have h3 : s3.heap = s2.heap.push { cls := .type "list", data := .seq ([] : List Value).toArray } := by rw [← hs3]
  have sz : ∀ b ∈ fp, b < s2.heap.objs.size := fun b hb => by
    obtain ⟨o, e, _⟩ := T.obj _ _ st2 b hb
    exact Heap.lt_size e
  have f3 : ∀ b ∈ fp, FpOk X pins (upd H2 D (.lst [])) b ∧ b < s3.heap.objs.size := fun b hb => by
    have hlt := sz b hb
    refine ⟨⟨?_, (f2 b hb).2⟩, by rw [h3, Heap.size_push]; exact Nat.lt_succ_of_lt hlt⟩
    rw [upd_ne (by rw [← hD]; exact Nat.ne_of_lt hlt)]
    exact (f2 b hb).1
  have st3 : tn 0 s3.heap := T.keep _ _ _ st2 fun b _ o e => by rw [h3]; exact Heap.get?_push_of_some _ e
  have I4 := block_start I3 ok hN f3
  have pg := hg s3 (upd H2 D (.lst [])) s3.heap.objs.size (cellsFrom (s3.heap.objs.size + 1) scope.names (cloFrom X.env.cells scope.names [])) fp
  have pt := ht s3 (upd H2 D (.lst [])) s3.heap.objs.size (cellsFrom (s3.heap.objs.size + 1) scope.names (cloFrom X.env.cells scope.names [])) fp
  have pe := he s3 (upd H2 D (.lst [])) s3.heap.objs.size (cellsFrom (s3.heap.objs.size + 1) scope.names (cloFrom X.env.cells scope.names [])) fp
  show codeAny _ _ (.compStart (.ListComp elt [⟨tg, iter, ifs, 0⟩] scope pos) 0 (.ref it) (.ref D) (compEnvC scope (cellsFrom (s3.heap.objs.size + 1) scope.names (cloFrom X.env.cells scope.names [])) s3.heap.objs.size X.env)) (compPost (model X.prog X.w) X.A X.xe use Qf (.ref D) s3.heap.objs.size) { s3 with heap := pushCells (s3.heap.push { cls := .type "dict", data := .dict #[] }) scope.names }
  have nfp : ∀ b ∈ fp, (upd H2 D (.lst [])) b = none := fun b hb => (f3 b hb).1.1
  generalize hce : compEnvC scope (cellsFrom (s3.heap.objs.size + 1) scope.names (cloFrom X.env.cells scope.names [])) s3.heap.objs.size X.env = ce at I4 pg pt pe ⊢
  have cL : ce.locals = s3.heap.objs.size := by subst hce; rfl
  generalize hH3 : upd H2 D (.lst []) = H3 at I3 I4 pg pt pe w0 nfp f3
  generalize hs4 : ({ s3 with heap := pushCells (s3.heap.push { cls := .type "dict", data := .dict #[] }) scope.names } : Shared) = s4 at I4 ⊢
  have st4 : tn 0 s4.heap := T.keep _ _ _ st3 fun b _ o e => by rw [← hs4]; exact pushCells_keeps _ _ _ _ (Heap.get?_push_of_some _ e)
  have stat : ∀ {σ' : St} {H' : Hp} {s' : Shared}, Inv (X.blk s3 H3 scope ce fp) [] σ' H' s' → (∀ b ∈ fp, H' b = none) → ∀ b ∈ fp, FpOk (X.blk s3 H3 scope ce fp) [] H' b := fun {σ' H' s'} I' hn b hb =>
    ⟨hn b hb, (I'.ok.exf b hb).1, I'.ok.exfs b hb, .inl hb, fun x c e => (I'.ok.exf b hb).2 x c e, fun p hp => absurd (show p ∈ ([] : List (Addr × Obj)) ++ [] from hp) (by simp)⟩
  have loop : codeAny (model X.prog X.w) X.A (.compLoop (.ListComp elt [⟨tg, iter, ifs, 0⟩] scope pos) 0 (.ref it) (.ref D) ce) (compPost (model X.prog X.w) X.A X.xe use Qf (.ref D) s3.heap.objs.size) s4 := by
    refine compLoop_any (fun n s' => ∃ i H', Inv (X.blk s3 H3 scope ce fp) [] (wipe σ (own.map (·.2))) H' s' ∧ tn i s'.heap ∧ (∀ b ∈ fp, H' b = none) ∧ W i n H') ?_ m0 ⟨0, H3, I4, st4, nfp, w0⟩
    rintro n s5 ⟨i, H5, I5, st5, n5, w5⟩
    rcases turn i n H5 w5 with ⟨stop, qq⟩ | ⟨go, Nx, hNx, step⟩
    · have td := T.done (X.blk s3 H3 scope ce fp) rfl rfl rfl hc i [] s5 _ H5 (fun _ _ => False) I5 (stat I5 n5) st5 stop
      refine thnF td fun r s6 ⟨hr, I6⟩ => ?_
      subst hr
      -- back in the def's context
      have I7 : Inv X pins σ H5 s6 := I3.call' (ch := fp) I6.os I6.base I6.hok I6.bare fun b hb => ⟨(f3 b hb).1.2.2.2.1, (f3 b hb).1.2.1, (f3 b hb).1.2.2.2.2.1, (f3 b hb).1.2.2.2.2.2⟩
      have nC : H5 s3.heap.objs.size = none := by
        have z : H5 ce.locals = none := I6.free
        rw [cL] at z
        exact z
      obtain ⟨m, hn, _⟩ := I6.loc
      have hn : s6.heap.Ns ce.locals m := hn
      rw [cL] at hn
      exact hRR D s3.heap.objs.size s6 m H5 I7 qq hn (I3.fpOk (Nat.le_refl _) nC)
    · have ti := T.item (X.blk s3 H3 scope ce fp) rfl rfl rfl hc i [] s5 _ H5 (fun _ _ => False) I5 (stat I5 n5) st5 go
      refine thnF ti fun r s6 ⟨u, hr, h6⟩ => ?_
      subst hr
      refine thnF h6 fun _ s7 ⟨x, H7, I7, r7, y7, st7, n7⟩ => ?_
      have I7' := I7.pinned (stat I7 n7) (T.obj _ _ st7)
      refine thnF (pg _ s7 _ H7 x u _ I7' r7 (step x H7 y7)) fun _ s8 ⟨σ8, H8, I8, hw8, q8⟩ => ?_
      refine thnF (pt _ s8 σ8 H8 _ I8 q8) fun b s9 ⟨H9, I9, q9⟩ => ?_
      -- the turn's end
      have fin : ∀ {s' : Shared} {H' : Hp}, Inv (X.blk s3 H3 scope ce fp) ([] ++ pinsAt fp s7.heap) σ8 H' s' → Nx H' → ∃ m, m < n ∧ ∃ i H', Inv (X.blk s3 H3 scope ce fp) [] (wipe σ (own.map (·.2))) H' s' ∧ tn i s'.heap ∧ (∀ b ∈ fp, H' b = none) ∧ W i m H' := fun {s' H'} I' nx => by
        obtain ⟨m', hm, w'⟩ := hNx H' nx
        have pin' : ∀ b ∈ fp, ∀ o, s7.heap.get? b = some o → s'.heap.get? b = some o ∧ H' b = none := fun b hb o e =>
          let z := I'.pin (b, o) (List.mem_append_right _ (List.mem_append_right _ (mem_pinsAt hb e)))
          ⟨z.1, z.2.1⟩
        have hl : (wipe σ (own.map (·.2))).length = σ8.length := by rw [← hw8, wipe_length]
        refine ⟨m', hm, i + 1, H', (I'.unpinned (pins := [])).weak hl (fun j v e => ?_), T.keep _ _ _ st7 fun b hb o e => (pin' b hb o e).1, fun b hb => ?_, w'⟩
        · rw [← hw8] at e
          exact (wipe_some e).1
        · obtain ⟨o, e, _⟩ := T.obj _ _ st7 b hb
          exact (pin' b hb o e).2
      cases b with
      | false =>
        simp only [Bool.false_eq_true, if_false] at q9 ⊢
        exact fin I9 q9
      | true =>
        simp only [if_true] at q9 ⊢
        refine thnF (pe _ s9 σ8 H9 _ I9 q9) fun z s10 ⟨yv, H10, I10, r10, acc, hD10, hz10, nx⟩ => ?_
        exact app_ok (X := X.blk s3 H3 scope ce fp) I10 hD10 hz10 r10 fun s11 I11 => fin I11 nx
  exact codeAny_compStart_list loop (T.self X.A 0 _ _ _ st4 loop)
/-- as a value -/
theorem pe_lc {elt tg iter : Expr} {ifs : List Expr} {scope : Scope} {own : List (Str × Nat)} {pos : Pos} {wi : TI} {g : TG} {tt : TT} {te : TE} (hc : X.calm = true) (hN : X.N.Nodup) (hi : PI X tg iter wi) (ok : BlkOk X.N X.env.scope scope own)
    (hg : ∀ (s : Shared) (H : Hp) (C : Addr) (cl : List (Str × Addr)) (fp : List Addr), PG (X.blk s H scope (compEnvC scope cl C X.env) fp) tg g) (ht : ∀ (s : Shared) (H : Hp) (C : Addr) (cl : List (Str × Addr)) (fp : List Addr), PTs (X.blk s H scope (compEnvC scope cl C X.env) fp) ifs tt)
    (he : ∀ (s : Shared) (H : Hp) (C : Addr) (cl : List (Str × Addr)) (fp : List Addr), PE (X.blk s H scope (compEnvC scope cl C X.env) fp) elt te) (hs : ∀ x, foldedSetIterable iter X.env x = pure x := by intro _; rfl) :
    PE X (.ListComp elt [⟨tg, iter, ifs, 0⟩] scope pos) (tLc wi g tt te (own.map (·.2))) := by
  intro pins s σ H Q I h
  rw [eval_ListComp]
  refine lc_core hc hN I hi ok hg ht he hs h fun D C s' m H' I' q hn f => ⟨m, hn, fun h'' sb => ?_⟩
  obtain ⟨f0, f1, f2, f3, f4, f5⟩ := f
  exact ⟨.ref D, H', I'.turned (t' := s'.toks) (fun b o hb e => (sb.2 b hb).trans e) f0 f1 f3 f4 f5, rfl, q⟩
/-- name = [..] on one line, the name a local -/
theorem ps_setLc {i : Nat} {y : Str} {py : Pos} {elt tg iter : Expr} {ifs : List Expr} {scope : Scope} {own : List (Str × Nat)} {pos spos : Pos} {wi : TI} {g : TG} {tt : TT} {te : TE} (hc : X.calm = true) (hN : X.N.Nodup) (hy : X.N[i]? = some y) (hyl : X.env.scope.names.lookup y = some .local)
    (hsw : swapsWith (.ListComp elt [⟨tg, iter, ifs, 0⟩] scope pos) (some (.Name y py)) spos.line X.env = pure true) (hi : PI X tg iter wi) (ok : BlkOk X.N X.env.scope scope own)
    (hg : ∀ (s : Shared) (H : Hp) (C : Addr) (cl : List (Str × Addr)) (fp : List Addr), PG (X.blk s H scope (compEnvC scope cl C X.env) fp) tg g) (ht : ∀ (s : Shared) (H : Hp) (C : Addr) (cl : List (Str × Addr)) (fp : List Addr), PTs (X.blk s H scope (compEnvC scope cl C X.env) fp) ifs tt)
    (he : ∀ (s : Shared) (H : Hp) (C : Addr) (cl : List (Str × Addr)) (fp : List Addr), PE (X.blk s H scope (compEnvC scope cl C X.env) fp) elt te) (hs : ∀ x, foldedSetIterable iter X.env x = pure x := by intro _; rfl) :
    PS X (.Assign [.Name y py] (.ListComp elt [⟨tg, iter, ifs, 0⟩] scope pos) spos) (tAsg (tLc wi g tt te (own.map (·.2))) (gName i)) := by
  intro pins s σ H D I h
  rw [exec_Assign_Name_used _ _ _ _ hsw]
  refine wpAny_bind (wpAny_standAt (wpAny_bind ?_))
  show wpAny _ X.A (do let _ ← comprehension (.ListComp elt [⟨tg, iter, ifs, 0⟩] scope pos) scope X.env (firstIterPos [⟨tg, iter, ifs, 0⟩] pos) (newList []) false (eval iter X.env) (some (assign (.Name y py) X.env))) _ _ s
  have h : tLc wi g tt te (own.map (·.2)) σ H (fun x H1 => gName i x σ H1 D.nx) := h
  refine wpAny_bind (thn (lc_core (Qf := fun _ s' => SP X pins D .next s') hc hN I hi ok hg ht he hs h fun L C s' m H' I' q hn f => ?_) fun _ s' hq => wpAny_pure (wpAny_pure hq))
  show wpAny _ _ (assign (.Name y py) X.env (.ref L)) _ _ _
  refine wpAny_assign_Name (store_ok2 (v := V.ref L) I' hN hy (.inl hyl) rfl (fun s2 I2 ⟨a, sb, ha⟩ => ?_) (.inr hyl))
  obtain ⟨f0, f1, f2, f3, f4, f5⟩ := f
  have haC : C ≠ a := by
    rcases ha with z | z
    · rw [z]; exact f1
    · exact fun e => f4 y a z e.symm
  refine ⟨m, hn.sameBut sb haC, fun h3 sb3 => ?_⟩
  exact ⟨_, H', I2.turned (t' := s2.toks) (fun b o hb e => (sb3.2 b hb).trans e) f0 f1 f3 f4 f5, q⟩
theorem sw_true {elt : Expr} {gs : List Comprehension} {scope : Scope} {pos py : Pos} {y : Str} {l : Nat} {env : Env} (hk : env.scope.kind = .function) (hy : env.scope.names.lookup y = some .local) (hl : (py.line == pos.line) = true)
    (ha : (scope.names.any fun (n, k) => n == y && (k == .local || k == .cell)) = false) : swapsWith (.ListComp elt gs scope pos) (some (.Name y py)) l env = pure true := by
  have ky : env.kindOf y = some .local := hy
  have hb : env.blockKind = .function := by unfold Env.blockKind; rw [hk]; rfl
  unfold swapsWith
  simp only [hb, ky, ha, Expr.pos, hl]
  rfl
end
/-! ### the forms one uses -/
/-- over a range: Pv by the turn and the heap (the new list at D within) -/
theorem lc_range {lo : Int} {n : Nat} {g : TG} {tt : TT} {te : TE} {vs : List Nat} {σ : St} {H1 : Hp} {D : Addr} {Qd : Hp → Prop} (Pv : Nat → Hp → Prop) (h0 : Pv 0 (upd H1 D (.lst [])))
    (hs : ∀ i H, i < n → Pv i H → g (.int (lo + i)) (wipe σ vs) H fun σ2 H2 => wipe σ2 vs = wipe σ vs ∧ tt σ2 H2 fun b H3 =>
      if b = true then te σ2 H3 fun y H4 => ∃ acc, H4 D = some (.lst acc) ∧ acc.length < sizeLine ∧ Pv (i + 1) (upd H4 D (.lst (acc ++ [y]))) else Pv (i + 1) H3) (hd : ∀ H, Pv n H → Qd H) :
    ∃ W : Nat → Nat → Hp → Prop, (∃ m, W 0 m (upd H1 D (.lst []))) ∧ ∀ i m H, W i m H →
      ((Itr lo n).stop i H ∧ Qd H) ∨ ((Itr lo n).go i H ∧ ∃ Nx : Hp → Prop, (∀ H', Nx H' → ∃ m', m' < m ∧ W (i + 1) m' H') ∧ ∀ x H', (Itr lo n).yld i H x H' → g x (wipe σ vs) H' fun σ2 H2 => wipe σ2 vs = wipe σ vs ∧ tt σ2 H2 fun b H3 =>
        if b = true then te σ2 H3 fun y H4 => ∃ acc, H4 D = some (.lst acc) ∧ acc.length < sizeLine ∧ Nx (upd H4 D (.lst (acc ++ [y]))) else Nx H3) := by
  refine ⟨fun i m H => m = n - i ∧ i ≤ n ∧ Pv i H, ⟨n, by simp, Nat.zero_le _, h0⟩, ?_⟩
  rintro i m H ⟨rfl, hi, p⟩
  by_cases hlt : i < n
  · refine .inr ⟨hlt, Pv (i + 1), fun H' p' => ⟨n - (i + 1), by omega, rfl, hlt, p'⟩, fun x H' y => ?_⟩
    obtain ⟨e, y⟩ := y
    subst e y
    exact hs i _ hlt p
  · have e : i = n := by omega
    subst e
    exact .inl ⟨Nat.le_refl _, hd H p⟩
/-- over a list that the block leaves as it is -/
theorem lc_list {K : PySem.W.Frag} {a : Addr} {xs : List V} {g : TG} {tt : TT} {te : TE} {vs : List Nat} {σ : St} {H1 : Hp} {D : Addr} {Qd : Hp → Prop} (Pv : Nat → Hp → Prop) (h0 : Pv 0 (upd H1 D (.lst []))) (hl : ∀ i H, i ≤ xs.length → Pv i H → SqL K H a xs)
    (hs : ∀ i x H, xs[i]? = some x → Pv i H → g x (wipe σ vs) H fun σ2 H2 => wipe σ2 vs = wipe σ vs ∧ tt σ2 H2 fun b H3 =>
      if b = true then te σ2 H3 fun y H4 => ∃ acc, H4 D = some (.lst acc) ∧ acc.length < sizeLine ∧ Pv (i + 1) (upd H4 D (.lst (acc ++ [y]))) else Pv (i + 1) H3) (hd : ∀ H, Pv xs.length H → Qd H) :
    ∃ W : Nat → Nat → Hp → Prop, (∃ m, W 0 m (upd H1 D (.lst []))) ∧ ∀ i m H, W i m H →
      ((Itl K a).stop i H ∧ Qd H) ∨ ((Itl K a).go i H ∧ ∃ Nx : Hp → Prop, (∀ H', Nx H' → ∃ m', m' < m ∧ W (i + 1) m' H') ∧ ∀ x H', (Itl K a).yld i H x H' → g x (wipe σ vs) H' fun σ2 H2 => wipe σ2 vs = wipe σ vs ∧ tt σ2 H2 fun b H3 =>
        if b = true then te σ2 H3 fun y H4 => ∃ acc, H4 D = some (.lst acc) ∧ acc.length < sizeLine ∧ Nx (upd H4 D (.lst (acc ++ [y]))) else Nx H3) := by
  refine ⟨fun i m H => m = xs.length - i ∧ i ≤ xs.length ∧ Pv i H, ⟨xs.length, by simp, Nat.zero_le _, h0⟩, ?_⟩
  rintro i m H ⟨rfl, hi, p⟩
  have q := hl i H hi p
  by_cases hlt : i < xs.length
  · refine .inr ⟨⟨xs, xs[i], q, by simp [hlt]⟩, Pv (i + 1), fun H' p' => ⟨xs.length - (i + 1), by omega, rfl, hlt, p'⟩, fun x H' y => ?_⟩
    obtain ⟨e, y⟩ := y
    subst e
    exact hs i x _ (y xs q) p
  · have e : i = xs.length := by omega
    subst e
    exact .inl ⟨⟨xs, q, Nat.le_refl _⟩, hd H p⟩
def blkC (N : List Str) (sc scope : Scope) (own : List (Str × Nat)) : Bool :=
  (match scope.kind with | .function => true | _ => false) && (scope.names.all fun y => decide (scope.names.lookup y.1 = some y.2)) && (own.all fun p => decide (N[p.2]? = some p.1)) &&
    (scope.names.all fun y => match y.2 with
      | .free => (match sc.names.lookup y.1 with | some .cell => true | some .free => true | _ => false)
      | .local => decide (y.1 ∈ own.map (·.1)) || decide (y.1 ∉ N)
      | .cell => decide (y.1 ∈ own.map (·.1)) || decide (y.1 ∉ N)
      | _ => true)
theorem blkOk_by {N : List Str} {sc scope : Scope} {own : List (Str × Nat)} (h : blkC N sc scope own = true) : BlkOk N sc scope own := by
  unfold blkC at h
  simp only [Bool.and_eq_true, List.all_eq_true, decide_eq_true_eq] at h
  obtain ⟨⟨⟨h1, h2⟩, h3⟩, h4⟩ := h
  refine ⟨?_, h2, h3, fun y hy e => ?_, fun y hy e => ?_⟩
  · split at h1
    · assumption
    · cases h1
  · have q := h4 y hy
    simp only [e] at q
    split at q <;> first | exact .inl (by assumption) | exact .inr (by assumption) | cases q
  · have q := h4 y hy
    rcases e with e | e <;> (simp only [e, Bool.or_eq_true, decide_eq_true_eq] at q; exact q)
end L2
namespace L2
open PySem PySem.Spec PyProof.Rows
/-! ### lists of pairs as tables -/
section
variable {κ : Type} [DecidableEq κ]
end
/-! ### a tracked dict, its keys ints and texts or tuples of these -/
section
variable {P : Program} {w : World} {H : Hp} {h : Heap} {a : Addr}
end
section
variable {X : Cx} {pins : List (Addr × Obj)} {σ : St} {H : Hp} {s : Shared} {a : Addr} {y v : V} {u r : Value} {o : Option V} {A : Around} {E : Value → Shared → Prop}
end
section
variable {X : Cx} {pins : List (Addr × Obj)} {σ : St} {H : Hp} {s : Shared} {a : Addr} {kvs : List (Key × V)} {k : Key} {u : Value} {A : Around} {E : Value → Shared → Prop}
end
/-! ### readings and rules -/
/-- the element of a subscription, not a slice -/
def NoSl (i : Expr) : Prop := ∀ ov iv, subscripted i false ov iv = operate [ov, iv] (getItem ov iv)
theorem subD_of {prog : Program} {w : World} {A : Around} {E : Value → Shared → Prop} {s : Shared} {env : Env} {value slice : Expr} {pos : Pos} {T id : String} {Q : Value → Shared → Prop}
    (hl : typeLookup (.type T) "__getitem__" = pure (some (.builtin id))) (hs : NoSl slice)
    (h : wpAny (model prog w) A (eval value env) (fun o s₁ => wpAny (model prog w) A (eval slice env) (fun i s₂ => s₂.TypeIs o T ∧ wpAny (model prog w) A (getItem o i) Q E s₂) E s₁) E s) :
    wpAny (model prog w) A (eval (.Subscript value slice pos) env) Q E s := by
  refine Subscript_ (wpAny_mono h (fun o s₁ h₁ => wpAny_mono h₁ (fun i s₂ h₂ => ?_) fun _ _ x => x) fun _ _ x => x)
  obtain ⟨hT, h₂⟩ := h₂
  unfold subscriptTail
  refine wpAny_bind ?_
  rw [getitemInPython_of_ne hT.not_modules]
  refine wpAny_bind (wpAny_specialOf hT hl ?_)
  have fin : wpAny (model prog w) A (subscripted slice false o i) (fun r s₃ => wpAny (model prog w) A (letTemporaryGo value o r >>= fun _ => pure r) Q E s₃) E s₂ := by
    rw [hs o i]
    exact wpAny_operating (wpAny_mono h₂ (fun r s₃ h₃ => wpAny_bind (wpAny_letTemporaryGo (wpAny_pure h₃))) fun _ _ x => x)
  first
    | exact wpAny_pure (wpAny_bind fin)
    | exact wpAny_bind (wpAny_pure (wpAny_bind fin))
    | exact wpAny_bind fin
section
variable {X : Cx} {o i e value : Expr} {pos pos' tpos : Pos} {td ty tv : TE}
end
/-! ### displays -/
section
variable {X : Cx} {pos : Pos}
end
/-! ### methods -/
/-- a method call o.m(e) of a built-in, with one argument: what must be seen of the text -/
structure M1 (X : Cx) (o : Expr) (m : Str) (apos : Pos) (e : Expr) (cpos : Pos) : Prop where
  base : attributeBase o m X.env (eval o X.env) = eval o X.env
  few : ((backTo cpos (starEach [e] X.env)).all (fun x => !x.1) && (backToKw cpos (keywordEach [] X.env)).all (fun x => x.1.isSome)
    && decide (([e] : List Expr).length + ([] : List Keyword).length + (if ([] : List Keyword).isEmpty then 0 else 1) < 30)) = true
  line : (apos.endLine == cpos.line) = true
  trees : backTo cpos (starEach [e] X.env) = [(false, eval e X.env)]
structure M2 (X : Cx) (o : Expr) (m : Str) (apos : Pos) (e f : Expr) (cpos : Pos) : Prop where
  base : attributeBase o m X.env (eval o X.env) = eval o X.env
  few : ((backTo cpos (starEach [e, f] X.env)).all (fun x => !x.1) && (backToKw cpos (keywordEach [] X.env)).all (fun x => x.1.isSome)
    && decide (([e, f] : List Expr).length + ([] : List Keyword).length + (if ([] : List Keyword).isEmpty then 0 else 1) < 30)) = true
  line : (apos.endLine == cpos.line) = true
  trees : backTo cpos (starEach [e, f] X.env) = [(false, eval e X.env), (false, eval f X.env)]
section
variable {X : Cx} {pins : List (Addr × Obj)} {σ : St} {H : Hp} {s : Shared} {a : Addr} {y d : V} {u r : Value} {o : Option V} {A : Around} {E : Value → Shared → Prop}
end
section
variable {X : Cx} {o e f : Expr} {apos cpos : Pos} {td ty tx : TE}
end
/-! ### dict(d): a copy -/
section
variable {X : Cx} {pins : List (Addr × Obj)} {σ : St} {H : Hp} {s : Shared} {a : Addr} {kvs : List (Key × V)} {A : Around} {E : Value → Shared → Prop}
end
section
variable {X : Cx} {pins : List (Addr × Obj)} {σ : St} {H : Hp} {s : Shared} {a : Addr} {y : V} {u : Value} {A : Around} {E : Value → Shared → Prop}
end
end L2
namespace L2
open PySem PySem.Spec PyProof.Rows
section
variable {X : Cx} {pins : List (Addr × Obj)} {σ : St} {H : Hp} {s : Shared} {h' : Heap}
/-- several records of ours have turned -/
theorem Inv.turnedL {t' : Nat} {ch : List Addr} (I : Inv X pins σ H s) (k : ∀ b o, b ∉ ch → s.heap.get? b = some o → h'.get? b = some o) (hf : ∀ b ∈ ch, FpOk X pins H b) : Inv X pins σ H { s with heap := h', toks := t' } := by
  have nit : ∀ b u, H b = some u → b ∉ ch := fun b u e z => by
    have q := (hf b z).1
    rw [q] at e; cases e
  refine I.step (g' := s.gens) (d' := s.drawn) (ch := ch) (fun b hb => ⟨(hf b hb).2.2.2.1, (hf b hb).2.1, (hf b hb).2.2.2.2.1, (hf b hb).2.2.2.2.2⟩) (fun b o _ _ hc e _ => k b o hc e) (fun b o _ _ hc e _ => ⟨o.slots, k b o hc e⟩)
    (fun _ _ _ _ n => n) (fun b o hc e => ⟨o, k b o hc e⟩) (fun _ _ e => e) (fun _ _ _ e => e) (fun b ps e => ⟨#[], by rw [e]; simp⟩) (fun m hm => ?_) (fun b u e => ?_) I.bare
  · obtain ⟨o, es, ep, ho, r⟩ := hm
    exact ⟨o, es, ep, k _ o (fun z => (hf _ z).2.1 rfl) ho, r⟩
  · refine (I.hok b u e).stay (fun c v hc q => k c v ?_ q) (fun _ q => q) fun _ _ q => q
    rcases hc with z | z
    · rw [z]; exact nit b u e
    · exact nit c _ z
/-- .. and one new object is laid -/
theorem Inv.turnedNew {t' : Nat} {ch : List Addr} {T : Addr} {ob : HO} (I : Inv X pins σ H s) (k : ∀ b o, b ∉ ch → s.heap.get? b = some o → h'.get? b = some o) (hf : ∀ b ∈ ch, FpOk X pins H b) (hT : s.heap.objs.size ≤ T)
    (new : ObjOk X.prog X.w (upd H T ob) h' T ob) : Inv X pins σ (upd H T ob) { s with heap := h', toks := t' } := by
  have hn : H T = none := I.hok.fresh hT
  have nit : ∀ b u, H b = some u → b ∉ ch := fun b u e z => by
    have q := (hf b z).1
    rw [q] at e; cases e
  refine I.step (g' := s.gens) (d' := s.drawn) (ch := ch) (fun b hb => ⟨(hf b hb).2.2.2.1, (hf b hb).2.1, (hf b hb).2.2.2.2.1, (hf b hb).2.2.2.2.2⟩) (fun b o _ _ hc e _ => k b o hc e) (fun b o _ _ hc e _ => ⟨o.slots, k b o hc e⟩)
    (fun b o _ e n => ?_) (fun b o hc e => ⟨o, k b o hc e⟩) (fun b xs e => ?_) (fun b o u e => ?_) (fun b ps e => ⟨#[], ?_⟩) (fun m hm => ?_) (fun b u e => ?_) I.bare
  · rw [upd_ne (Nat.ne_of_lt (Nat.lt_of_lt_of_le (Heap.lt_size e) hT))]; exact n
  · rw [upd_ne (ne_of_none e hn)]; exact e
  · rw [upd_ne (ne_of_none e hn)]; exact e
  · rw [upd_ne (ne_of_none e hn), e]; simp
  · obtain ⟨o, es, ep, ho, r⟩ := hm
    exact ⟨o, es, ep, k _ o (fun z => (hf _ z).2.1 rfl) ho, r⟩
  · by_cases hb : b = T
    · subst hb
      rw [upd_same] at e
      cases e
      exact new
    · rw [upd_ne hb] at e
      refine (I.hok b u e).stay (fun c v hc q => k c v ?_ q) (fun c q => by rw [upd_ne (ne_of_none q hn)]; exact q) fun c xs q => by rw [upd_ne (ne_of_none q hn)]; exact q
      rcases hc with z | z
      · rw [z]; exact nit b u e
      · exact nit c _ z
/-! ### locking a thing while a statement runs -/
end
section
variable {X : Cx}
/-! ### one iterator just laid -/
theorem pi_one {tg : Expr} {pins : List (Addr × Obj)} {σ : St} {H : Hp} {s : Shared} {R : It → Hp → Prop} {J : It} {tn : Nat → Heap → Prop} {tk : Nat} (I : Inv X pins σ H s) (o : Obj)
    (T : Turn X.prog X.w X.K tg J [s.heap.objs.size] s.heap.objs.size tn) (st : tn 0 (s.heap.push o)) (q : R J H) : PIE X pins σ tg R (.ref s.heap.objs.size) { s with heap := s.heap.push o, toks := tk } := by
  refine ⟨s.heap.objs.size, [s.heap.objs.size], tn, J, H, rfl, I.kept fun b ob e => Heap.get?_push_of_some _ e, T, st, fun b hb => ?_, q⟩
  have e : b = s.heap.objs.size := by simpa using hb
  subst e
  exact I.fpOk (Nat.le_refl _) (I.hok.fresh (Nat.le_refl _))
end
/-! ### range with a step -/
/-- lo, lo + c, .. (n of them) -/
def Itc (lo c : Int) (n : Nat) : It := ⟨fun i _ => i < n, fun i H x H' => H' = H ∧ x = .int (lo + (i : Nat) * c), fun i _ => n ≤ i⟩
theorem turn_rangeC {P : Program} {w : World} {K : PySem.W.Frag} {tg : Expr} (it : Addr) (lo c : Int) (n : Nat) : Turn P w K tg (Itc lo c n) [it] it (fun i h => IsRangeIter h it (lo + (i : Nat) * c) ((n : Int) - (i : Nat)) c) where
  mem := by simp
  obj := fun i h st b hb => by
    have e : b = it := by simpa using hb
    subst e
    exact ⟨_, st, fun v z => nomatch z⟩
  keep := fun i h h' st k => k it (by simp) _ st
  item := by
    intro X hP hw hK hc i pins s σ H E I hf st hg
    subst hP hw hK
    obtain ⟨f0, f1, f2, f3, f4, f5⟩ := hf it (by simp)
    have W := Walks.range (prog := X.prog) (w := X.w) (I.ok.hd hc) it lo c n
    refine W.item i s _ _ hg st fun v h' tk hv st' kk => ?_
    obtain ⟨t, rfl⟩ := hv
    have I1 : Inv X pins σ H { s with heap := h', toks := tk } := I.turned (fun b o hb e => kk b o (by simpa using hb) e) f0 f1 f3 f4 f5
    exact ⟨_, rfl, go_of (s := { s with heap := h', toks := tk }) (n := "range_iterator") st' rfl rfl (by decide) ⟨.int (lo + (i : Nat) * c), H, I1, ⟨t, rfl⟩, ⟨rfl, rfl⟩, st', fun b hb => (hf b hb).1⟩⟩
  done := by
    intro X hP hw hK hc i pins s σ H E I hf st hg
    subst hP hw hK
    obtain ⟨f0, f1, f2, f3, f4, f5⟩ := hf it (by simp)
    exact wpAny_pyNext_range_end (I.ok.hd hc) st (by have : n ≤ i := hg; omega) fun h' eb => ⟨rfl, I.turned (t' := s.toks) (fun b o hb e => eb b o hb e) f0 f1 f3 f4 f5⟩
  self := fun A i s Q E st h => wpAny_pyIter_rangeiter st h
/-- range(i, j, c): small bounds, n items -/
def RgC (i j c : Int) (n : Nat) : Prop := c ≠ 0 ∧ c.natAbs < 1073741824 ∧ Builtin.Range.small i j c = true ∧ Builtin.Range.rangeSize i j c = n
theorem RgC.neg {i j : Int} (ha : -(2 ^ 62) ≤ i) (ha' : i < 2 ^ 62) (hb : -(2 ^ 62) ≤ j) (hb' : j < 2 ^ 62) : RgC i j (-1) (i - j).toNat :=
  ⟨by decide, by decide, PySem.W.small_down ha ha' hb hb', PySem.W.rangeSize_downNat i j⟩
def iRng3 (ta : TA) : TI := fun σ H R => ta σ H fun vs H1 => ∃ (i j c : Int) (n : Nat), vs = [.int i, .int j, .int c] ∧ RgC i j c n ∧ R (Itc i c n) H1
section
variable {X : Cx} {tg : Expr}
theorem pi_range3 {a b c : Expr} {ta : TA} {p pos : Pos} (hg : Gl X "range") (hm : X.mg "range" = none) (ha : PA X [a, b, c] ta)
    (hs : starEach [a, b, c] X.env = (false, eval a X.env) :: starEach [b, c] X.env := by rfl) (hpl : (backTo pos (starEach [b, c] X.env)).any (·.1) = false := by rfl) :
    PI X tg (.Call (.Name "range" p) [a, b, c] [] pos) (iRng3 ta) := by
  intro pins s σ H R I h
  refine Call_ (ld_blt I hg hm boot_range (PyProof.Rows.callWith_type1 (thn (ha pos pins s σ H _ I h) fun us s1 ⟨vs, H1, I1, r1, q1⟩ => ?_) hs hpl))
  obtain ⟨i, j, k, n, e, ⟨c0, c1, c2, c3⟩, q⟩ := q1
  subst e
  cases r1 with
  | cons r rr =>
    cases rr with
    | cons r' rr =>
      cases rr with
      | cons r'' rr =>
        cases rr
        obtain ⟨t, rfl⟩ := r
        obtain ⟨t', rfl⟩ := r'
        obtain ⟨t'', rfl⟩ := r''
        refine call_range_3 c0 ?_ (.inl (PyProof.noPylong_small c1))
        refine wpAny_pyIter_range (IsRange.new ..) c2 ?_
        have I2 : Inv X pins σ H1 { s1 with heap := s1.heap.push { cls := .type "range", data := .fields #[.int i t, .int j t', .int k t''] } } := I1.kept (t' := s1.toks) fun b o e => Heap.get?_push_of_some _ e
        refine pi_one (tk := s1.toks) I2 _ (turn_rangeC _ i k n) ?_ q
        have e1 : i + ((0 : Nat) : Int) * k = i := by simp
        have e2 : (n : Int) - ((0 : Nat) : Int) = Builtin.Range.rangeSize i j k := by rw [c3]; simp
        show IsRangeIter _ _ (i + ((0 : Nat) : Int) * k) ((n : Int) - ((0 : Nat) : Int)) k
        rw [e1, e2]
        exact Heap.get?_push_size _ rfl
end
/-- the turns of a step range, for the for loop -/
theorem for_rangeC {lo c : Int} {n : Nat} {g : TG} {tb : TS} {D : Ends} {σ : St} {H : Hp} (Pv : Nat → St → Hp → Prop) (h0 : Pv 0 σ H)
    (hs : ∀ i σ H, i < n → Pv i σ H → g (.int (lo + (i : Nat) * c)) σ H fun σ2 H2 => tb { D with nx := Pv (i + 1), ct := Pv (i + 1), bk := D.nx } σ2 H2) (hd : ∀ σ H, Pv n σ H → D.nx σ H) :
    ∃ W : Nat → Nat → St → Hp → Prop, (∃ m, W 0 m σ H) ∧ ∀ i m σ H, W i m σ H →
      ((Itc lo c n).stop i H ∧ D.nx σ H) ∨ ((Itc lo c n).go i H ∧ ∃ N : St → Hp → Prop, (∀ σ' H', N σ' H' → ∃ m', m' < m ∧ W (i + 1) m' σ' H') ∧ ∀ x H', (Itc lo c n).yld i H x H' → g x σ H' fun σ2 H2 => tb { D with nx := N, ct := N, bk := D.nx } σ2 H2) := by
  refine ⟨fun i m σ H => m = n - i ∧ i ≤ n ∧ Pv i σ H, ⟨n, by simp, Nat.zero_le _, h0⟩, ?_⟩
  rintro i m σ H ⟨rfl, hi, p⟩
  by_cases hlt : i < n
  · refine .inr ⟨hlt, Pv (i + 1), fun σ' H' p' => ⟨n - (i + 1), by omega, rfl, hlt, p'⟩, fun x H' y => ?_⟩
    obtain ⟨e, y⟩ := y
    subst e y
    exact hs i σ _ hlt p
  · have e : i = n := by omega
    subst e
    exact .inl ⟨Nat.le_refl _, hd σ H p⟩
/-! ### reversed(list) -/
section
variable {X : Cx} {tg : Expr}
end
/-! ### a str -/
/-! ### a dict's keys: any dict's entries -/
section
variable {prog : Program} {w : World} {A : Around} {E : Value → Shared → Prop} {s : Shared}
end
/-! ### a locked dict -/
section
variable {X : Cx} {pins : List (Addr × Obj)} {σ : St} {H : Hp} {s : Shared} {d : Addr} {o : Obj}
end
section
variable {P : Program} {w : World} {K : PySem.W.Frag} {tg : Expr} {d : Addr} {o : Obj} {es : Array DictEntry} {ep : Nat}
end
/-! ### for k in d, d.keys(), d.values(), d.items() -/
section
variable {X : Cx} {tg e : Expr} {td : TE} {apos cpos : Pos}
end
/-! ### enumerate(list) -/
/-- the list at a as it stands at each turn, each item in a new pair -/
def Ite (K : PySem.W.Frag) (a : Addr) : It :=
  ⟨fun i H => ∃ (xs : List V) (x : V), SqL K H a xs ∧ xs[i]? = some x, fun i H v H' => ∃ T x, v = .ref T ∧ H T = none ∧ H' = upd H T (.tup [.int (i : Nat), x]) ∧ ∀ xs, SqL K H a xs → xs[i]? = some x, fun i H => ∃ xs : List V, SqL K H a xs ∧ xs.length ≤ i⟩
theorem turn_enum {P : Program} {w : World} {K : PySem.W.Frag} {elts : List Expr} {kk : Nat} {tpos : Pos} (a e it : Addr) :
    Turn P w K (.Tuple elts kk tpos) (Ite K a) [e, it] e (fun i h => (∃ old, IsEnum h e it ((i : Nat) : Int) old) ∧ h.IsListIter it a i ∧ e ≠ it) where
  mem := by simp
  obj := fun i h st b hb => by
    obtain ⟨⟨old, he⟩, ⟨o, ho, hc, hd⟩, _⟩ := st
    have e' : b = e ∨ b = it := by simpa using hb
    rcases e' with z | z
    · rw [z]; exact ⟨_, he, fun v q => nomatch q⟩
    · rw [z]; exact ⟨o, ho, fun v q => by rw [hd] at q; cases q⟩
  keep := fun i h h' st k => let ⟨⟨old, he⟩, hi, hne⟩ := st; ⟨⟨old, k e (by simp) _ he⟩, hi.at fun o q => k it (by simp) o q, hne⟩
  item := by
    intro X hP hw hK hc i pins s σ H E I hf st hg
    subst hP hw hK
    obtain ⟨⟨old, he⟩, hit, hne⟩ := st
    obtain ⟨xs, x, hq, hx⟩ := hg
    obtain ⟨its, rv, p, hz⟩ := I.list hq
    obtain ⟨u, hu, ru⟩ := rv.get hx
    have hel : e < s.heap.objs.size := Heap.lt_size he
    have hil : it < s.heap.objs.size := by obtain ⟨_, q, _⟩ := hit; exact Heap.lt_size q
    refine wpAny_pyNext_enum_item he hit p.isList (x := u) (by simpa using hu) hne fun h' ho hit' hT hsz hk => ?_
    refine ⟨_, rfl, wpAny_letOwnedTupleGo_enum (s := { s with heap := h', toks := s.toks + 1 }) ho fun h'' he' sb => ?_⟩
    have hT2 : h''.get? s.heap.objs.size = some { cls := .type "tuple", data := .seq #[.int i s.toks, u] } := (sb.2 _ (Nat.ne_of_gt hel)).trans hT
    have new : ObjOk X.prog X.w (upd H s.heap.objs.size (.tup [.int (i : Nat), x])) h'' s.heap.objs.size (.tup [.int (i : Nat), x]) :=
      ⟨by show 2 ≤ sizeLine; decide, [.int i s.toks, u], .cons ⟨_, rfl⟩ (.cons ru .nil), ⟨_, hT2, rfl, _, rfl⟩⟩
    have I1 : Inv X pins σ (upd H s.heap.objs.size (.tup [.int (i : Nat), x])) { s with heap := h'', toks := s.toks + 1 } :=
      I.turnedNew (ch := [e, it]) (fun b ob hb q => (sb.2 b (fun z => hb (by simp [z]))).trans (hk b ob (fun z => hb (by simp [z])) (fun z => hb (by simp [z])) q)) hf (Nat.le_refl _) new
    refine ⟨.ref s.heap.objs.size, _, I1, rfl, ⟨_, x, rfl, I.hok.fresh (Nat.le_refl _), rfl, fun ys hy => by rw [I.list_inj hy hq]; exact hx⟩, ⟨⟨u, ?_⟩, hit'.at fun o q => (sb.2 it (Ne.symm hne)).trans q, hne⟩, fun b hb => ?_⟩
    · have e1 : ((i + 1 : Nat) : Int) = (i : Int) + 1 := by omega
      rw [e1]; exact he'
    · have hb' : b < s.heap.objs.size := by
        have e' : b = e ∨ b = it := by simpa using hb
        rcases e' with z | z
        · rw [z]; exact hel
        · rw [z]; exact hil
      rw [upd_ne (Nat.ne_of_lt hb')]
      exact (hf b hb).1
  done := by
    intro X hP hw hK hc i pins s σ H E I hf st hg
    subst hP hw hK
    obtain ⟨⟨old, he⟩, hit, hne⟩ := st
    obtain ⟨xs, hq, hx⟩ := hg
    obtain ⟨its, rv, p, hz⟩ := I.list hq
    obtain ⟨f0, f1, f2, f3, f4, f5⟩ := hf it (by simp)
    have hl := rv.length
    exact wpAny_pyNext_enum_end (I.ok.hd hc) he hit p.isList (by simp; omega) fun h' eb => ⟨rfl, I.turned (t' := s.toks) (fun b o hb q => eb b o hb q) f0 f1 f3 f4 f5⟩
  self := fun A i s Q E st h => let ⟨⟨_, he⟩, _⟩ := st; wpAny_pyIter_enum he h
def iEnum (K : PySem.W.Frag) (ta : TA) : TI := fun σ H R => ta σ H fun vs H1 => ∃ a xs, vs = [.ref a] ∧ SqL K H1 a xs ∧ R (Ite K a) H1
theorem pi_enum {X : Cx} {e : Expr} {ta : TA} {p pos tpos : Pos} {elts : List Expr} {kk : Nat} (hg : Gl X "enumerate") (hm : X.mg "enumerate" = none) (ha : PA X [e] ta) (hs : starEach [e] X.env = [(false, eval e X.env)] := by rfl) :
    PI X (.Tuple elts kk tpos) (.Call (.Name "enumerate" p) [e] [] pos) (iEnum X.K ta) := by
  intro pins s σ H R I h
  refine Call_ (ld_blt I hg hm boot_enumerate (PyProof.Rows.callWith_type1 (thn (ha pos pins s σ H _ I h) fun us s1 ⟨vs, H1, I1, r1, q1⟩ => ?_) hs rfl))
  obtain ⟨a, xs, ex, hq, q⟩ := q1
  subst ex
  cases r1 with
  | cons r rr =>
    cases rr
    cases r
    obtain ⟨its, rv, p', hz⟩ := I1.list hq
    refine call_enumerate_list p'.isList fun h' he hit hsz hk => wpAny_pyIter_enum he ?_
    have I2 : Inv X pins σ H1 { s1 with heap := h' } := I1.kept (t' := s1.toks) hk
    refine ⟨s1.heap.objs.size + 1, [s1.heap.objs.size + 1, s1.heap.objs.size], _, _, H1, rfl, I2, turn_enum a (s1.heap.objs.size + 1) s1.heap.objs.size, ⟨⟨.none, he⟩, hit, Nat.succ_ne_self _⟩, fun b hb => ?_, q⟩
    have e' : b = s1.heap.objs.size + 1 ∨ b = s1.heap.objs.size := by simpa using hb
    have hle : s1.heap.objs.size ≤ b := by
      rcases e' with z | z
      · rw [z]; exact Nat.le_add_right _ _
      · rw [z]; exact Nat.le_refl _
    exact I1.fpOk hle (I1.hok.fresh hle)
/-! ### zip(list, list) -/
theorem boot_zip5 : bootBuiltins "zip" = some (.type "zip") := by decide +kernel
/-- the lists at a and b as they stand at each turn, the items in new pairs -/
def Itz (K : PySem.W.Frag) (a b : Addr) : It :=
  ⟨fun i H => ∃ (xs ys : List V) (x y : V), SqL K H a xs ∧ SqL K H b ys ∧ xs[i]? = some x ∧ ys[i]? = some y,
    fun i H v H' => ∃ T x y, v = .ref T ∧ H T = none ∧ H' = upd H T (.tup [x, y]) ∧ (∀ xs, SqL K H a xs → xs[i]? = some x) ∧ ∀ ys, SqL K H b ys → ys[i]? = some y,
    fun i H => ∃ xs ys : List V, SqL K H a xs ∧ SqL K H b ys ∧ (xs.length ≤ i ∨ ys.length ≤ i)⟩
theorem turn_zip {P : Program} {w : World} {K : PySem.W.Frag} {elts : List Expr} {kk : Nat} {tpos : Pos} {a b z TI TO i1 i2 : Addr} (D : ZipApart z TI TO i1 i2 a b) :
    Turn P w K (.Tuple elts kk tpos) (Itz K a b) [z, TI, TO, i1, i2] z (fun i h => IsZip h z TI TO .none ∧ IsPair h TI (.ref i1) (.ref i2) ∧ (∃ x y, IsPair h TO x y) ∧ h.IsListIter i1 a i ∧ h.IsListIter i2 b i) where
  mem := by simp
  obj := fun i h st c hc => by
    obtain ⟨hz, hTI, ⟨x, y, hTO⟩, ⟨o1, e1, _, d1⟩, ⟨o2, e2, _, d2⟩⟩ := st
    have e' : c = z ∨ c = TI ∨ c = TO ∨ c = i1 ∨ c = i2 := by simpa using hc
    rcases e' with q | q | q | q | q
    · rw [q]; exact ⟨_, hz, fun v q => nomatch q⟩
    · rw [q]; exact ⟨_, hTI, fun v q => nomatch q⟩
    · rw [q]; exact ⟨_, hTO, fun v q => nomatch q⟩
    · rw [q]; exact ⟨o1, e1, fun v q => by rw [d1] at q; cases q⟩
    · rw [q]; exact ⟨o2, e2, fun v q => by rw [d2] at q; cases q⟩
  keep := fun i h h' st k => by
    obtain ⟨hz, hTI, ⟨x, y, hTO⟩, h1, h2⟩ := st
    exact ⟨k z (by simp) _ hz, k TI (by simp) _ hTI, ⟨x, y, k TO (by simp) _ hTO⟩, h1.at fun o q => k i1 (by simp) o q, h2.at fun o q => k i2 (by simp) o q⟩
  item := by
    intro X hP hw hK hc i pins s σ H E I hf st hg
    subst hP hw hK
    obtain ⟨hz, hTI, ⟨x0, y0, hTO⟩, h1, h2⟩ := st
    obtain ⟨xs, ys, x, y, hqx, hqy, hx, hy⟩ := hg
    obtain ⟨its, rv, p, _⟩ := I.list hqx
    obtain ⟨its2, rv2, p2, _⟩ := I.list hqy
    obtain ⟨u, hu, ru⟩ := rv.get hx
    obtain ⟨u2, hu2, ru2⟩ := rv2.get hy
    have hzl : z < s.heap.objs.size := Heap.lt_size hz
    refine wpAny_pyNext_zip_item D hz hTI hTO h1 h2 p.isList p2.isList (x := u) (y := u2) (by simpa using hu) (by simpa using hu2) fun h' z' TO' h1' h2' hT hsz hk => ?_
    refine ⟨_, rfl, wpAny_letOwnedTupleGo_zip (s := { s with heap := h' }) z' fun h'' z'' sb => ?_⟩
    have hT2 : h''.get? s.heap.objs.size = some { cls := .type "tuple", data := .seq #[u, u2] } := (sb.2 _ (Nat.ne_of_gt hzl)).trans hT
    have new : ObjOk X.prog X.w (upd H s.heap.objs.size (.tup [x, y])) h'' s.heap.objs.size (.tup [x, y]) :=
      ⟨by show 2 ≤ sizeLine; decide, [u, u2], .cons ru (.cons ru2 .nil), ⟨_, hT2, rfl, _, rfl⟩⟩
    have I1 : Inv X pins σ (upd H s.heap.objs.size (.tup [x, y])) { s with heap := h'' } :=
      I.turnedNew (t' := s.toks) (ch := [z, TI, TO, i1, i2]) (fun c o hb q => (sb.2 c (fun q' => hb (by simp [q']))).trans (hk c o (fun q' => hb (by simp [q'])) (fun q' => hb (by simp [q'])) (fun q' => hb (by simp [q'])) (fun q' => hb (by simp [q'])) q)) hf (Nat.le_refl _) new
    refine ⟨.ref s.heap.objs.size, _, I1, rfl, ⟨_, x, y, rfl, I.hok.fresh (Nat.le_refl _), rfl, fun l hl => by rw [I.list_inj hl hqx]; exact hx, fun l hl => by rw [I.list_inj hl hqy]; exact hy⟩, ⟨z'', ?_, ⟨u, u2, ?_⟩, ?_, ?_⟩, fun c hcm => ?_⟩
    · exact (sb.2 _ D.TIz).trans (hk _ _ D.TIz D.TITO D.TIi1 D.TIi2 hTI)
    · exact (sb.2 _ D.TOz).trans TO'
    · exact h1'.at fun o q => (sb.2 _ D.i1z).trans q
    · exact h2'.at fun o q => (sb.2 _ D.i2z).trans q
    · have hlt : c < s.heap.objs.size := by
        have e' : c = z ∨ c = TI ∨ c = TO ∨ c = i1 ∨ c = i2 := by simpa using hcm
        rcases e' with q | q | q | q | q
        · rw [q]; exact hzl
        · rw [q]; exact Heap.lt_size hTI
        · rw [q]; exact Heap.lt_size hTO
        · rw [q]; obtain ⟨_, e1, _⟩ := h1; exact Heap.lt_size e1
        · rw [q]; obtain ⟨_, e2, _⟩ := h2; exact Heap.lt_size e2
      rw [upd_ne (Nat.ne_of_lt hlt)]
      exact (hf c hcm).1
  done := by
    intro X hP hw hK hc i pins s σ H E I hf st hg
    subst hP hw hK
    obtain ⟨hz, hTI, ⟨x0, y0, hTO⟩, h1, h2⟩ := st
    obtain ⟨xs, ys, hqx, hqy, hend⟩ := hg
    obtain ⟨its, rv, p, _⟩ := I.list hqx
    obtain ⟨its2, rv2, p2, _⟩ := I.list hqy
    have l1 := rv.length
    have l2 := rv2.length
    have he : its.toArray[i]? = none ∨ its2.toArray[i]? = none := by
      rcases hend with q | q
      · exact .inl (by simp; omega)
      · exact .inr (by simp; omega)
    exact wpAny_pyNext_zip_end (I.ok.hd hc) D hz hTI hTO h1 h2 p.isList p2.isList he fun h' hk => ⟨rfl, I.turnedL (t' := s.toks) (ch := [z, TI, TO, i1, i2]) (fun c o hb q =>
      hk c o (fun q' => hb (by simp [q'])) (fun q' => hb (by simp [q'])) (fun q' => hb (by simp [q'])) (fun q' => hb (by simp [q'])) q) hf⟩
  self := fun A i s Q E st h => wpAny_pyIter_zip st.1 h
def iZip (K : PySem.W.Frag) (ta : TA) : TI := fun σ H R => ta σ H fun vs H1 => ∃ a b xs ys, vs = [.ref a, .ref b] ∧ SqL K H1 a xs ∧ SqL K H1 b ys ∧ R (Itz K a b) H1
theorem pi_zip {X : Cx} {e e2 : Expr} {ta : TA} {p pos tpos : Pos} {elts : List Expr} {kk : Nat} (hg : Gl X "zip") (hm : X.mg "zip" = none) (ha : PA X [e, e2] ta)
    (hs : starEach [e, e2] X.env = (false, eval e X.env) :: starEach [e2] X.env := by rfl) (hpl : (backTo pos (starEach [e2] X.env)).any (·.1) = false := by rfl) :
    PI X (.Tuple elts kk tpos) (.Call (.Name "zip" p) [e, e2] [] pos) (iZip X.K ta) := by
  intro pins s σ H R I h
  refine Call_ (ld_blt I hg hm boot_zip5 (PyProof.Rows.callWith_type1 (thn (ha pos pins s σ H _ I h) fun us s1 ⟨vs, H1, I1, r1, q1⟩ => ?_) hs hpl))
  obtain ⟨a, b, xs, ys, ex, hqx, hqy, q⟩ := q1
  subst ex
  cases r1 with
  | cons r rr =>
    cases rr with
    | cons r' rr =>
      cases rr
      cases r
      cases r'
      obtain ⟨its, rv, p1, _⟩ := I1.list hqx
      obtain ⟨its2, rv2, p2, _⟩ := I1.list hqy
      have la : a < s1.heap.objs.size := p1.lt
      have lb : b < s1.heap.objs.size := p2.lt
      refine call_zip_2 p1.isList p2.isList fun h' hz hTI hTO h1 h2 hsz hk => wpAny_pyIter_zip hz ?_
      have I2 : Inv X pins σ H1 { s1 with heap := h' } := I1.kept (t' := s1.toks) hk
      refine ⟨s1.heap.objs.size + 4, [s1.heap.objs.size + 4, s1.heap.objs.size + 2, s1.heap.objs.size + 3, s1.heap.objs.size, s1.heap.objs.size + 1], _, _, H1, rfl, I2, turn_zip (PySem.W.ktu_apart s1.heap.objs.size a b la lb), ⟨hz, hTI, ⟨_, _, hTO⟩, h1, h2⟩, fun c hcm => ?_, q⟩
      have e' : c = s1.heap.objs.size + 4 ∨ c = s1.heap.objs.size + 2 ∨ c = s1.heap.objs.size + 3 ∨ c = s1.heap.objs.size ∨ c = s1.heap.objs.size + 1 := by simpa using hcm
      have hle : s1.heap.objs.size ≤ c := by
        rcases e' with z | z | z | z | z
        · rw [z]; exact Nat.le_add_right _ _
        · rw [z]; exact Nat.le_add_right _ _
        · rw [z]; exact Nat.le_add_right _ _
        · rw [z]; exact Nat.le_refl _
        · rw [z]; exact Nat.le_add_right _ _
      exact I1.fpOk hle (I1.hok.fresh hle)
end L2
/-! SHORT WORDS over the layer: a def of the text, its body, what a loop and a test want. -/
namespace L2
open PySem PySem.Spec PyProof.Rows
/-! ### the text by places -/
/-- the j-th statement of a class's body -/
def inClass (s : Stmt) (j : Nat) : Stmt := match s with
  | .ClassDef _ _ _ body _ _ _ _ _ _ _ => body.getD j (.Pass ⟨0, 0, 0, 0⟩)
  | _ => .Pass ⟨0, 0, 0, 0⟩
def defArgs (s : Stmt) : Arguments := match s with
  | .FunctionDef _ a _ _ _ _ _ _ _ _ => a
  | _ => { posonlyargs := [], args := [], vararg := none, kwonlyargs := [], kw_defaults := [], kwarg := none, defaults := [] }
def defBody (s : Stmt) : List Stmt := match s with
  | .FunctionDef _ _ b _ _ _ _ _ _ _ => b
  | _ => []
def defScope (s : Stmt) : Scope := match s with
  | .FunctionDef _ _ _ _ _ _ sc _ _ _ => sc
  | _ => { kind := .function, names := [], isGenerator := false, isCoroutine := false }
/-! ### no exception leaves a def -/
abbrev CX0 : CXT := fun _ _ _ _ _ _ => False
abbrev E0 : XK := fun _ _ _ => False
theorem pass0 {X : Cx} : Passes CX0 X E0 := fun _ _ _ _ _ _ _ h => h.elim
/-! ### a def (or method) of the text as it stands behind the top -/
structure Fun (K : PySem.W.Frag) (x qual : Str) (st : Stmt) (f : Addr) (fd : FuncData) : Prop where
  ex : ∃ (oc : Value) (od : Option Addr) (kV doc pm : Value) (an : Option Addr) (cdv ct : Value) (osl : Array (Option Value)),
    fd = PySem.W.fnOf x qual (defArgs st) (defBody st) (defScope st) .none kV doc pm an cdv ct ∧ K.lookup f = some ⟨oc, od, .func fd, osl⟩ ∧ PySem.W.codeIn K cdv qual = true
  kp : PySem.W.keepIn K (.ref f) = true
section
variable {P : Program} {w : World} {K : PySem.W.Frag} {mg : Str → Option Value} {base : Heap}
/-- THE RULE for a def: its body as a term of rules, and the reading of that term -/
theorem Fun.ok {x qual : Str} {st : Stmt} {f : Addr} {fd : FuncData} {N ps : List Str} {k : Nat} {sp : Sp} (F : Fun K x qual st f fd) (S : FnScope N ps (defScope st)) (len : ∀ vs H Q E, sp vs H Q E → vs.length = ps.length)
    (hbody : ∀ (cdv : Value) (A : Around) (outer : List Env) (s : Shared) (H : Hp) (vs : List V) (Q : VK) (E : XK), Room k (A.deeper (envOfC qual (defScope st) s.heap.objs.size f cdv)) → sp vs H Q E →
      ∃ t, PSs (cxOf CX0 P w K mg base N qual (defScope st) f cdv A outer s H E).nox (defBody st) t ∧ t { nx := fun _ H' => Q .non H', rt := Q } (start N vs) H) : FnOk P w K mg base CX0 (k + 1) f fd ps sp := by
  obtain ⟨oc, od, kV, doc, pm, an, cdv, ct, osl, rfl, lk, hcd⟩ := F.ex
  refine fn_of lk hcd S len fun A outer s H vs Q E hr hsp => ?_
  obtain ⟨t, h, q⟩ := hbody cdv A outer s H vs Q E hr hsp
  exact ⟨t, h.nox, q⟩
/-- how its arguments bind (no defaults): h is «fun _ _ _ _ _ _ us hl => match us, hl with | [_, _], _ => rfl», one _ a parameter -/
theorem Fun.binds {x qual : Str} {st : Stmt} {f : Addr} {fd : FuncData} {ps : List Str} (F : Fun K x qual st f fd)
    (h : ∀ (kV doc pm : Value) (an : Option Addr) (cdv ct : Value) (us : List Value), us.length = ps.length → bindArgs (PySem.W.fnOf x qual (defArgs st) (defBody st) (defScope st) .none kV doc pm an cdv ct) ⟨us, []⟩ = pure (ps.zip us)) : Binds K fd ps [] := by
  obtain ⟨oc, od, kV, doc, pm, an, cdv, ct, osl, rfl, lk, hcd⟩ := F.ex
  exact .all (h kV doc pm an cdv ct)
theorem fun_mk {x qual : Str} {st : Stmt} {f : Addr} {oc : Value} {od an : Option Addr} {osl : Array (Option Value)} {kV doc pm cdv ct : Value} (l : K.lookup f = some ⟨oc, od, .func (PySem.W.fnOf x qual (defArgs st) (defBody st) (defScope st) .none kV doc pm an cdv ct), osl⟩)
    (c : PySem.W.codeIn K cdv qual = true) (k : PySem.W.keepIn K (.ref f) = true) : Fun K x qual st f (PySem.W.fnOf x qual (defArgs st) (defBody st) (defScope st) .none kV doc pm an cdv ct) := ⟨⟨oc, od, kV, doc, pm, an, cdv, ct, osl, rfl, l, c⟩, k⟩
end
/-! ### expressions in short: the name that stands in the i-th slot -/
section
variable {X : Cx}
theorem pv (i : Nat) {x : Str} {pos : Pos} (hN : X.N[i]? = some x := by rfl) (hv : Vis X.env.scope x := by first | exact Or.inl rfl | exact Or.inr (Or.inl rfl) | exact Or.inr (Or.inr rfl)) (hd : (x == ("__debug__" : Str)) = false := by decide)
    (hcd : (x == ("__classdict__" : Str)) = false := by decide) : PE X (.Name x pos) (tVar i) := pe_var hN hv hd hcd
end
/-! ### tests -/
/-! ### heaps -/
/-- all that was tracked is as it was -/
def Same (H H' : Hp) : Prop := ∀ b o, H b = some o → H' b = some o
theorem Same.trans {H H1 H2 : Hp} (a : Same H H1) (b : Same H1 H2) : Same H H2 := fun c o h => b c o (a c o h)
theorem Same.free {H H' : Hp} (e : Same H H') {l : Addr} (h : H' l = Option.none) : H l = Option.none := by
  cases q : H l with
  | none => rfl
  | some o =>
    rw [e l o q] at h
    cases h
theorem Same.seq {K : PySem.W.Frag} {H H' : Hp} {a : Addr} {xs : List V} (e : Same H H') (h : SqL K H a xs) : SqL K H' a xs := by
  rcases h with (h | ⟨o, h⟩) | h
  · exact .inl (.inl (e _ _ h))
  · exact .inl (.inr ⟨o, e _ _ h⟩)
  · exact .inr h
/-! ### a dict's pairs: keys that differ -/
section
variable {κ : Type} [DecidableEq κ]
end
/-! ### lists -/
theorem at_of {xs : List V} {z : Int} {j : Nat} {v : V} (e : z = (j : Int)) (h : xs[j]? = some v) : atI xs z = some v := by
  rw [e]
  exact atI_nat h
/-- a new instance and its __init__ leave all that was tracked as it was -/
theorem Same.made {H H1 : Hp} {x dx C : Addr} (nx : H x = Option.none) (nd : H dx = Option.none) (k : ∀ b o, (upd (upd H dx (.own x)) x (.ins C dx [])) b = some o → b ≠ x → H1 b = some o) : Same H H1 := fun b o e =>
  k b o (by rw [upd_ne (ne_of_none e nx), upd_ne (ne_of_none e nd)]; exact e) (ne_of_none e nx)
end L2
section
set_option Elab.async false
set_option linter.all false
set_option maxRecDepth 100000
set_option maxHeartbeats 2000000
namespace L2
open PySem PySem.Spec PyProof.Rows
open PySem.W (WData Codec OpenSpec Well WellAll ReadsW ReadsAllW)
/-! ### an answer as data -/
mutual
/-- x stands for the datum d, lists and tuples all the way -/
inductive Dw (K : PySem.W.Frag) (H : Hp) : V → WData → Prop
  | non : Dw K H .non .none
  | bl (b : Bool) : Dw K H (.bl b) (.bool b)
  | int (i : Int) : Dw K H (.int i) (.int i)
  | str (x : Str) : Dw K H (.str x) (.str x)
  | byt (b : Array UInt8) : Dw K H (.byt b) (.bytes b.toList)
  | lst {a : Addr} {xs : List V} {ds : List WData} : SqL K H a xs → DwAll K H xs ds → Dw K H (.ref a) (.list ds)
  | tup {a : Addr} {xs : List V} {ds : List WData} : SqT K H a xs → DwAll K H xs ds → Dw K H (.ref a) (.tuple ds)
inductive DwAll (K : PySem.W.Frag) (H : Hp) : List V → List WData → Prop
  | nil : DwAll K H [] []
  | cons {v : V} {vs : List V} {d : WData} {ds : List WData} : Dw K H v d → DwAll K H vs ds → DwAll K H (v :: vs) (d :: ds)
end
theorem dw_ints {K : PySem.W.Frag} {H : Hp} : ∀ ns : List Int, DwAll K H (ns.map V.int) (ns.map WData.int)
  | [] => .nil
  | n :: r => .cons (.int n) (dw_ints r)
theorem ints_dw {K : PySem.W.Frag} {H : Hp} : ∀ (ns : List Int) (xs : List V), DwAll K H xs (ns.map WData.int) → xs = ns.map V.int
  | [], xs, h => by
    cases h
    rfl
  | n :: r, xs, h => by
    cases h with
    | cons h1 h2 =>
      cases h1
      rw [ints_dw r _ h2] <;> rfl
section
variable {P : Program} {w : World} {K : PySem.W.Frag} {H : Hp} {h : Heap} {R : PySem.W.WRecords} {cl : Str → Option Addr}
theorem sqL_at {a : Addr} {xs : List V} (hok : HOk P w H h) (KX : K.In h) (q : SqL K H a xs) : ∃ (its : List Value) (o : Obj) (n : Nat), Vals xs its ∧ h.get? a = some o ∧ o.cls = .type "list" ∧ o.data = .seq its.toArray n := by
  rcases q with q | ⟨o, its, n, e, hc, _, hd, _, hv⟩
  · obtain ⟨_, its, n, hv, e⟩ := (show ObjOk P w H h a (.lst xs) from q.ok hok)
    exact ⟨its, _, n, hv, e, rfl, rfl⟩
  · exact ⟨its.toList, o, n, hv, KX _ _ e, hc, by simp [hd]⟩
theorem sqT_at {a : Addr} {xs : List V} (hok : HOk P w H h) (KX : K.In h) (q : SqT K H a xs) : ∃ (its : List Value) (o : Obj) (n : Nat), Vals xs its ∧ h.get? a = some o ∧ o.cls = .type "tuple" ∧ o.data = .seq its.toArray n := by
  rcases q with q | ⟨o, its, n, e, hc, hd, _, hv⟩
  · obtain ⟨_, its, hv, o, e, hc, n, hd⟩ := (show ObjOk P w H h a (.tup xs) from q.ok hok)
    exact ⟨its, o, n, hv, e, hc, hd⟩
  · exact ⟨its.toList, o, n, hv, KX _ _ e, hc, by simp [hd]⟩
mutual
theorem Dw.reads (hok : HOk P w H h) (KX : K.In h) : ∀ (d : WData) (v : V) (u : Value), Dw K H v d → RelV v u → ∃ as, ReadsW R cl h u d as
  | .none, _, _, x, r => by
    cases x
    cases r
    exact ⟨_, ReadsW.none⟩
  | .bool b, _, _, x, r => by
    cases x
    cases r
    exact ⟨_, ReadsW.bool b⟩
  | .int i, _, _, x, r => by
    cases x
    obtain ⟨t, rfl⟩ := r
    exact ⟨_, ReadsW.int i t⟩
  | .str s, _, _, x, r => by
    cases x
    obtain ⟨t, rfl⟩ := r
    exact ⟨_, ReadsW.str s t⟩
  | .bytes b, _, _, x, r => by
    cases x
    obtain ⟨t, rfl⟩ := r
    exact ⟨_, ReadsW.bytes _ t⟩
  | .list ds, _, _, x, r => by
    cases x with
    | lst hs ha =>
      cases r
      obtain ⟨its, o, n, rv, ho, hc, hd⟩ := sqL_at hok KX hs
      obtain ⟨as, hr⟩ := Dw.readsAll hok KX ds _ its ha rv
      exact ⟨_, ReadsW.list ho hc hd hr⟩
  | .tuple ds, _, _, x, r => by
    cases x with
    | tup hs ha =>
      cases r
      obtain ⟨its, o, n, rv, ho, hc, hd⟩ := sqT_at hok KX hs
      obtain ⟨as, hr⟩ := Dw.readsAll hok KX ds _ its ha rv
      exact ⟨_, ReadsW.tuple ho hc hd hr⟩
  | .float _, _, _, x, _ => by cases x
  | .dict _, _, _, x, _ => by cases x
  | .bytearray _, _, _, x, _ => by cases x
  | .set _, _, _, x, _ => by cases x
  | .frozenset _, _, _, x, _ => by cases x
  | .obj _ _, _, _, x, _ => by cases x
theorem Dw.readsAll (hok : HOk P w H h) (KX : K.In h) : ∀ (ds : List WData) (vs : List V) (us : List Value), DwAll K H vs ds → Vals vs us → ∃ as, ReadsAllW R cl h us ds as
  | [], _, _, x, r => by
    cases x
    cases r
    exact ⟨_, ReadsAllW.nil⟩
  | d :: ds, _, _, x, r => by
    cases x with
    | cons h1 h2 =>
      cases r with
      | cons r1 r2 =>
        obtain ⟨as, q1⟩ := Dw.reads hok KX d _ _ h1 r1
        obtain ⟨bs, q2⟩ := Dw.readsAll hok KX ds _ _ h2 r2
        exact ⟨_, ReadsAllW.cons q1 q2⟩
end
end
/-! ### the arguments -/
mutual
/-- data that a codec tells -/
def plW : WData → Bool
  | .none => true
  | .bool _ => true
  | .int _ => true
  | .str _ => true
  | .bytes _ => true
  | .list xs => plWs xs
  | .tuple xs => plWs xs
  | _ => false
def plWs : List WData → Bool
  | [] => true
  | x :: r => plW x && plWs r
end
theorem plWs_map {α : Type} {f : α → WData} (h : ∀ a, plW (f a) = true) : ∀ l : List α, plWs (l.map f) = true
  | [] => rfl
  | x :: r => by
    show (plW (f x) && plWs (r.map f)) = true
    rw [h x, plWs_map h r] <;> rfl
theorem pl_enc : ∀ (c : Codec) (a : c.denote), plW (c.enc a) = true
  | .unit, _ => rfl
  | .bool, _ => rfl
  | .int _ _, _ => rfl
  | .nat _ _, _ => rfl
  | .u8, _ => rfl
  | .bytes _ _, _ => rfl
  | .text _ _ _ _, _ => rfl
  | .list _ _ c, a => plWs_map (fun x => pl_enc c x) a
  | .pair c d, a => by
    show (plW (c.enc a.1) && (plW (d.enc a.2) && true)) = true
    rw [pl_enc c a.1, pl_enc d a.2] <;> rfl
  | .triple c d e, a => by
    show (plW (c.enc a.1) && (plW (d.enc a.2.1) && (plW (e.enc a.2.2) && true))) = true
    rw [pl_enc c a.1, pl_enc d a.2.1, pl_enc e a.2.2] <;> rfl
  | .option c, none => rfl
  | .option c, some x => pl_enc c x
theorem pl_encAll : ∀ (cs : List Codec) (a : Codec.denoteAll cs), plWs (Codec.encAll cs a) = true
  | [], _ => rfl
  | c :: cs, a => by
    show (plW (c.enc a.1) && plWs (Codec.encAll cs a.2)) = true
    rw [pl_enc c a.1, pl_encAll cs a.2] <;> rfl
theorem weight_mem : ∀ {xs : List WData} {d : WData}, d ∈ xs → d.weight ≤ WData.weightAll xs
  | [], d, h => absurd h (by simp)
  | x :: r, d, h => by
    show d.weight ≤ x.weight + 1 + WData.weightAll r
    rcases List.mem_cons.mp h with e | m
    · rw [e]
      omega
    · have z := weight_mem m
      omega
def toV : Value → V
  | .none => .non
  | .bool b => .bl b
  | .int i _ => .int i
  | .str x _ => .str x
  | .bytes b _ => .byt b
  | .ref a => .ref a
  | _ => .non
/-- a value of the arguments, its objects among A -/
def OkU (A : List Addr) : Value → Prop
  | .none => True
  | .bool _ => True
  | .int _ _ => True
  | .str _ _ => True
  | .bytes _ _ => True
  | .ref a => a ∈ A
  | _ => False
theorem OkU.mono {A B : List Addr} (h : ∀ a ∈ A, a ∈ B) : ∀ {u : Value}, OkU A u → OkU B u := fun {u} x => by
  cases u with
  | ref a => exact h a x
  | none => trivial
  | bool b => trivial
  | int i t => trivial
  | str s t => trivial
  | bytes b t => trivial
  | _ => exact False.elim x
theorem relV_toV {A : List Addr} {u : Value} (x : OkU A u) : RelV (toV u) u := by
  cases u with
  | ref a => rfl
  | none => rfl
  | bool b => rfl
  | int i t => exact ⟨t, rfl⟩
  | str s t => exact ⟨t, rfl⟩
  | bytes b t => exact ⟨t, rfl⟩
  | _ => exact False.elim x
theorem vals_toV {A : List Addr} : ∀ {vs : List Value}, (∀ u ∈ vs, OkU A u) → Vals (vs.map toV) vs
  | [], _ => .nil
  | u :: r, h => .cons (relV_toV (h u (List.mem_cons_self ..))) (vals_toV fun x hx => h x (List.mem_cons_of_mem _ hx))
/-- an object of the arguments -/
def ArgOb (h : Heap) (A : List Addr) (a : Addr) : Prop := ∃ vs : List Value, vs.length ≤ sizeLine ∧ (∀ u ∈ vs, OkU A u) ∧
  (h.get? a = some { cls := .type "list", data := .seq vs.toArray } ∨ h.get? a = some { cls := .type "tuple", data := .seq vs.toArray })
theorem ArgOb.mono {h : Heap} {A B : List Addr} {a : Addr} (k : ∀ a ∈ A, a ∈ B) (x : ArgOb h A a) : ArgOb h B a := by
  obtain ⟨vs, h1, h2, h3⟩ := x
  exact ⟨vs, h1, fun u hu => (h2 u hu).mono k, h3⟩
theorem wellAll_len {P : Params} {h : Heap} : ∀ {vs : List Value} {ds : List WData}, WellAll P h vs ds → vs.length = ds.length
  | _, _, .nil => rfl
  | _, _, .cons _ b => by
    show _ + 1 = _ + 1
    rw [wellAll_len b]
theorem well_list {P : Params} {h : Heap} {v : Value} {ds : List WData} (x : Well P h v (.list ds)) : ∃ (a : Addr) (vs : List Value), v = .ref a ∧ h.get? a = some { cls := .type "list", data := .seq vs.toArray } ∧ WellAll P h vs ds := by
  cases x with
  | list ho hall => exact ⟨_, _, rfl, ho, hall⟩
theorem well_tuple {P : Params} {h : Heap} {v : Value} {ds : List WData} (x : Well P h v (.tuple ds)) : ∃ (a : Addr) (vs : List Value), v = .ref a ∧ h.get? a = some { cls := .type "tuple", data := .seq vs.toArray } ∧ WellAll P h vs ds := by
  cases x with
  | tuple ho hall => exact ⟨_, _, rfl, ho, hall⟩
theorem well_cons {P : Params} {h : Heap} {us : List Value} {d : WData} {ds : List WData} (x : WellAll P h us (d :: ds)) : ∃ (v : Value) (vs : List Value), us = v :: vs ∧ Well P h v d ∧ WellAll P h vs ds := by
  cases x with
  | cons a b => exact ⟨_, _, rfl, a, b⟩
theorem line_of {n : Nat} (h : n ≤ 1048576) : n ≤ sizeLine := Nat.le_trans h (by decide)
section
variable {P : Params} {h : Heap}
mutual
theorem area_one : ∀ (d : WData) (v : Value), Well P h v d → plW d = true → d.weight ≤ 1048576 → ∃ A : List Addr, OkU A v ∧ ∀ a ∈ A, ArgOb h A a
  | .none, _, x, _, _ => by
    cases x
    exact ⟨[], trivial, fun a m => absurd m (by simp)⟩
  | .bool b, _, x, _, _ => by
    cases x
    exact ⟨[], trivial, fun a m => absurd m (by simp)⟩
  | .int i, _, x, _, _ => by
    cases x
    exact ⟨[], trivial, fun a m => absurd m (by simp)⟩
  | .str s, _, x, _, _ => by
    cases x
    exact ⟨[], trivial, fun a m => absurd m (by simp)⟩
  | .bytes b, _, x, _, _ => by
    cases x
    exact ⟨[], trivial, fun a m => absurd m (by simp)⟩
  | .list ds, _, x, p, z => by
    obtain ⟨a, vs, rfl, ho, hall⟩ := well_list x
    have z2 : WData.weightAll ds ≤ 1048576 := z
    obtain ⟨A, h1, h2⟩ := area_all ds _ hall p fun d hd => Nat.le_trans (weight_mem hd) z2
    have k : ∀ b ∈ A, b ∈ a :: A := fun b hb => List.mem_cons_of_mem _ hb
    refine ⟨a :: A, List.mem_cons_self .., fun b hb => ?_⟩
    rcases List.mem_cons.mp hb with e | m
    · rw [e]
      exact ⟨vs, line_of (by rw [wellAll_len hall]; exact Nat.le_trans (PySem.W.length_le_weightAllW ds) z2), fun u hu => (h1 u hu).mono k, .inl ho⟩
    · exact (h2 b m).mono k
  | .tuple ds, _, x, p, z => by
    obtain ⟨a, vs, rfl, ho, hall⟩ := well_tuple x
    have z2 : WData.weightAll ds ≤ 1048576 := z
    obtain ⟨A, h1, h2⟩ := area_all ds _ hall p fun d hd => Nat.le_trans (weight_mem hd) z2
    have k : ∀ b ∈ A, b ∈ a :: A := fun b hb => List.mem_cons_of_mem _ hb
    refine ⟨a :: A, List.mem_cons_self .., fun b hb => ?_⟩
    rcases List.mem_cons.mp hb with e | m
    · rw [e]
      exact ⟨vs, line_of (by rw [wellAll_len hall]; exact Nat.le_trans (PySem.W.length_le_weightAllW ds) z2), fun u hu => (h1 u hu).mono k, .inr ho⟩
    · exact (h2 b m).mono k
  | .float _, _, _, p, _ => Bool.noConfusion (show false = true from p)
  | .dict _, _, _, p, _ => Bool.noConfusion (show false = true from p)
  | .bytearray _, _, _, p, _ => Bool.noConfusion (show false = true from p)
  | .set _, _, _, p, _ => Bool.noConfusion (show false = true from p)
  | .frozenset _, _, _, p, _ => Bool.noConfusion (show false = true from p)
  | .obj _ _, _, _, p, _ => Bool.noConfusion (show false = true from p)
theorem area_all : ∀ (ds : List WData) (vs : List Value), WellAll P h vs ds → plWs ds = true → (∀ d ∈ ds, d.weight ≤ 1048576) → ∃ A : List Addr, (∀ u ∈ vs, OkU A u) ∧ ∀ a ∈ A, ArgOb h A a
  | [], _, x, _, _ => by
    cases x
    exact ⟨[], fun u m => absurd m (by simp), fun a m => absurd m (by simp)⟩
  | d :: ds, _, x, p, z => by
    obtain ⟨v, vs, rfl, x1, x2⟩ := well_cons x
    have q : plW d = true ∧ plWs ds = true := Bool.and_eq_true_iff.mp p
    obtain ⟨A, a1, a2⟩ := area_one d v x1 q.1 (z d (List.mem_cons_self ..))
    obtain ⟨B, b1, b2⟩ := area_all ds vs x2 q.2 fun e he => z e (List.mem_cons_of_mem _ he)
    have kA : ∀ b ∈ A, b ∈ A ++ B := fun b hb => List.mem_append.mpr (.inl hb)
    have kB : ∀ b ∈ B, b ∈ A ++ B := fun b hb => List.mem_append.mpr (.inr hb)
    refine ⟨A ++ B, fun u hu => ?_, fun b hb => ?_⟩
    · rcases List.mem_cons.mp hu with e | m
      · rw [e]
        exact a1.mono kA
      · exact (b1 u m).mono kB
    · rcases List.mem_append.mp hb with m | m
      · exact (a2 b m).mono kA
      · exact (b2 b m).mono kB
end
end
/-- what is tracked of an argument's object -/
def hoOf (o : Obj) : Option HO := match o.data with
  | .seq vs _ => if (o.cls == Value.type "list") = true then some (.frz o (.lst (vs.toList.map toV))) else some (.frz o (.tup (vs.toList.map toV)))
  | _ => none
def argH (K : PySem.W.Frag) (h : Heap) (A : List Addr) : Hp := fun b => if b ∈ A then (if (K.lookup b).isNone = true then (h.get? b).bind hoOf else none) else none
/-- nothing is tracked but what is known to the object -/
def OnlyF (H : Hp) : Prop := ∀ b, H b = none ∨ ∃ o u, H b = some (.frz o u)
theorem hoOf_lst (vs : List Value) : hoOf { cls := .type "list", data := .seq vs.toArray } = some (.frz { cls := .type "list", data := .seq vs.toArray } (.lst (vs.map toV))) := by
  show (if (Value.type "list" == Value.type "list") = true then some (HO.frz { cls := .type "list", data := .seq vs.toArray } (.lst (vs.toArray.toList.map toV))) else some (HO.frz { cls := .type "list", data := .seq vs.toArray } (.tup (vs.toArray.toList.map toV)))) = _
  rw [if_pos (beq_self_eq_true _)]
theorem hoOf_tup (vs : List Value) : hoOf { cls := .type "tuple", data := .seq vs.toArray } = some (.frz { cls := .type "tuple", data := .seq vs.toArray } (.tup (vs.map toV))) := by
  show (if (Value.type "tuple" == Value.type "list") = true then some (HO.frz { cls := .type "tuple", data := .seq vs.toArray } (.lst (vs.toArray.toList.map toV))) else some (HO.frz { cls := .type "tuple", data := .seq vs.toArray } (.tup (vs.toArray.toList.map toV)))) = _
  rw [if_neg (by decide)]
section
variable {P : Program} {w : World} {K : PySem.W.Frag} {h : Heap} {A : List Addr}
theorem argH_at {b : Addr} {o : Obj} (hb : b ∈ A) (hk : K.lookup b = none) (e : h.get? b = some o) : argH K h A b = hoOf o := by
  unfold argH
  rw [if_pos hb, hk, if_pos (show (none : Option Obj).isNone = true from rfl), e] <;> rfl
theorem of_argH {b : Addr} {u : HO} (q : argH K h A b = some u) : b ∈ A ∧ K.lookup b = none := by
  unfold argH at q
  by_cases hb : b ∈ A
  · rw [if_pos hb] at q
    cases hk : K.lookup b with
    | none => exact ⟨hb, rfl⟩
    | some o =>
      rw [hk, if_neg (by simp)] at q
      cases q
  · rw [if_neg hb] at q
    cases q
/-- what stands tracked -/
theorem argH_is (ar : ∀ a ∈ A, ArgOb h A a) {b : Addr} {u : HO} (q : argH K h A b = some u) : K.lookup b = none ∧ ∃ vs : List Value, vs.length ≤ sizeLine ∧ (∀ u ∈ vs, OkU A u) ∧
    ((h.get? b = some { cls := .type "list", data := .seq vs.toArray } ∧ u = .frz { cls := .type "list", data := .seq vs.toArray } (.lst (vs.map toV))) ∨
     (h.get? b = some { cls := .type "tuple", data := .seq vs.toArray } ∧ u = .frz { cls := .type "tuple", data := .seq vs.toArray } (.tup (vs.map toV)))) := by
  obtain ⟨hb, hk⟩ := of_argH q
  obtain ⟨vs, h1, h2, h3⟩ := ar b hb
  refine ⟨hk, vs, h1, h2, ?_⟩
  rcases h3 with e | e
  · rw [argH_at hb hk e, hoOf_lst] at q
    exact .inl ⟨e, (Option.some.inj q).symm⟩
  · rw [argH_at hb hk e, hoOf_tup] at q
    exact .inr ⟨e, (Option.some.inj q).symm⟩
theorem argH_only (ar : ∀ a ∈ A, ArgOb h A a) : OnlyF (argH K h A) := fun b => by
  cases q : argH K h A b with
  | none => exact .inl rfl
  | some u =>
    obtain ⟨_, vs, _, _, ⟨_, e⟩ | ⟨_, e⟩⟩ := argH_is ar q
    · exact .inr ⟨_, _, by rw [e]⟩
    · exact .inr ⟨_, _, by rw [e]⟩
theorem argH_ok (ar : ∀ a ∈ A, ArgOb h A a) : HOk P w (argH K h A) h := fun b u q => by
  obtain ⟨_, vs, h1, h2, ⟨e, rfl⟩ | ⟨e, rfl⟩⟩ := argH_is ar q
  · exact ⟨e, by rw [List.length_map]; exact h1, vs, _, vals_toV h2, e⟩
  · exact ⟨e, by rw [List.length_map]; exact h1, vs, vals_toV h2, _, e, rfl, _, rfl⟩
theorem seq_inj {c c' : Value} {vs us : List Value} (e : (some { cls := c, data := .seq vs.toArray } : Option Obj) = some { cls := c', data := .seq us.toArray }) : c = c' ∧ vs = us := by
  have e1 := Option.some.inj e
  have e2 : c = c' := congrArg Obj.cls e1
  have e3 : Data.seq vs.toArray = Data.seq us.toArray := congrArg Obj.data e1
  injection e3 with e4
  refine ⟨e2, ?_⟩
  have e5 := congrArg Array.toList e4
  simpa using e5
/-- a list argument -/
theorem argL (KX : K.In h) (ar : ∀ a ∈ A, ArgOb h A a) {a : Addr} {vs : List Value} (ha : a ∈ A) (e : h.get? a = some { cls := .type "list", data := .seq vs.toArray }) : (∀ u ∈ vs, OkU A u) ∧ SqL K (argH K h A) a (vs.map toV) := by
  obtain ⟨us, h1, h2, h3⟩ := ar a ha
  have hu : us = vs := by
    rcases h3 with q | q
    · rw [e] at q
      exact (seq_inj q).2.symm
    · rw [e] at q
      exact absurd (Value.type.inj (seq_inj q).1) (by decide)
  subst hu
  refine ⟨h2, ?_⟩
  cases hk : K.lookup a with
  | none => exact .inl (.inr ⟨_, by rw [argH_at ha hk e, hoOf_lst]⟩)
  | some o =>
    have e2 := KX a o hk
    rw [e] at e2
    obtain rfl := Option.some.inj e2
    exact .inr ⟨_, us.toArray, _, hk, rfl, rfl, rfl, by rw [List.size_toArray]; exact h1, by simpa using vals_toV h2⟩
theorem argT (KX : K.In h) (ar : ∀ a ∈ A, ArgOb h A a) {a : Addr} {vs : List Value} (ha : a ∈ A) (e : h.get? a = some { cls := .type "tuple", data := .seq vs.toArray }) : (∀ u ∈ vs, OkU A u) ∧ SqT K (argH K h A) a (vs.map toV) := by
  obtain ⟨us, h1, h2, h3⟩ := ar a ha
  have hu : us = vs := by
    rcases h3 with q | q
    · rw [e] at q
      exact absurd (Value.type.inj (seq_inj q).1) (by decide)
    · rw [e] at q
      exact (seq_inj q).2.symm
  subst hu
  refine ⟨h2, ?_⟩
  cases hk : K.lookup a with
  | none => exact .inl (.inr ⟨_, by rw [argH_at ha hk e, hoOf_tup]⟩)
  | some o =>
    have e2 := KX a o hk
    rw [e] at e2
    obtain rfl := Option.some.inj e2
    exact .inr ⟨_, us.toArray, _, hk, rfl, rfl, by rw [List.size_toArray]; exact h1, by simpa using vals_toV h2⟩
mutual
theorem dw_one {Pm : Params} (KX : K.In h) (ar : ∀ a ∈ A, ArgOb h A a) : ∀ (d : WData) (v : Value), Well Pm h v d → plW d = true → OkU A v → Dw K (argH K h A) (toV v) d
  | .none, _, x, _, _ => by
    cases x
    exact .non
  | .bool b, _, x, _, _ => by
    cases x
    exact .bl b
  | .int i, _, x, _, _ => by
    cases x
    exact .int i
  | .str s, _, x, _, _ => by
    cases x
    exact .str s
  | .bytes b, _, x, _, _ => by
    cases x
    have z := Dw.byt (K := K) (H := argH K h A) b.toArray
    exact z
  | .list ds, _, x, p, hu => by
    obtain ⟨a, vs, rfl, ho, hall⟩ := well_list x
    obtain ⟨h2, hs⟩ := argL KX ar hu ho
    exact .lst hs (dw_all KX ar ds _ hall p h2)
  | .tuple ds, _, x, p, hu => by
    obtain ⟨a, vs, rfl, ho, hall⟩ := well_tuple x
    obtain ⟨h2, hs⟩ := argT KX ar hu ho
    exact .tup hs (dw_all KX ar ds _ hall p h2)
  | .float _, _, _, p, _ => Bool.noConfusion (show false = true from p)
  | .dict _, _, _, p, _ => Bool.noConfusion (show false = true from p)
  | .bytearray _, _, _, p, _ => Bool.noConfusion (show false = true from p)
  | .set _, _, _, p, _ => Bool.noConfusion (show false = true from p)
  | .frozenset _, _, _, p, _ => Bool.noConfusion (show false = true from p)
  | .obj _ _, _, _, p, _ => Bool.noConfusion (show false = true from p)
theorem dw_all {Pm : Params} (KX : K.In h) (ar : ∀ a ∈ A, ArgOb h A a) : ∀ (ds : List WData) (vs : List Value), WellAll Pm h vs ds → plWs ds = true → (∀ u ∈ vs, OkU A u) → DwAll K (argH K h A) (vs.map toV) ds
  | [], _, x, _, _ => by
    cases x
    exact .nil
  | d :: ds, _, x, p, hu => by
    obtain ⟨v, vs, rfl, x1, x2⟩ := well_cons x
    have q : plW d = true ∧ plWs ds = true := Bool.and_eq_true_iff.mp p
    exact .cons (dw_one KX ar d v x1 q.1 (hu _ (List.mem_cons_self ..))) (dw_all KX ar ds vs x2 q.2 fun u m => hu u (List.mem_cons_of_mem _ m))
end
end
/-! ### the call -/
theorem spec_call {P : Program} {w : World} {K : PySem.W.Frag} {mg mb : Str → Option Value} {CX : CXT} {k : Nat} {fa : Addr} {fd : FuncData} {ps : List Str} {sp : Sp} {s₁ : Shared} {vals : List Value} {ds : List WData} {R : PySem.W.WRecords} {cl : Str → Option Addr} {d0 : WData}
    (KX : K.In s₁.heap) (hns : s₁.heap.Ns mainGlobals mg) (hb : s₁.heap.Ns builtinsNs mb) (hbb : ∀ x : Str, x ≠ "__name__" → mb x = bootBuiltins x) (hlim : s₁.heap.NoLimit) (hg : s₁.gens = #[])
    (hwl : WellAll w.params s₁.heap vals ds) (hpl : plWs ds = true) (hwt : ∀ d ∈ ds, d.weight ≤ 1048576) (hr : Room k callerA)
    (F : ∀ base : Heap, K.In base → base.Ns mainGlobals mg → FnOk P w K mg base CX k fa fd ps sp) (hbind : ∀ (s : Shared) (us : List Value), us.length = ps.length → BindsTo s fd ⟨us, []⟩ (ps.zip us)) (hlen : ds.length = ps.length)
    (hsp : ∀ (H : Hp) (xs : List V), OnlyF H → DwAll K H xs ds → sp xs H (fun v H' => Dw K H' v d0) fun _ _ _ => False)
    (hCX : ∀ H e s', CX [] H s₁ (fun _ _ _ => False) e s' → False) :
    codeAny (model P w) callerA (.call (.ref fa) ⟨vals, []⟩) (fun r s' => ∃ u as, r = .ok (.ret u) ∧ ReadsW R cl s'.heap u d0 as ∧ OldK s₁.heap s'.heap ∧ s'.os = s₁.os ∧ AllBare s'.gens) s₁ := by
  obtain ⟨A, ho, ar⟩ := area_all ds vals hwl hpl hwt
  have hO : OnlyF (argH K s₁.heap A) := argH_only ar
  have hok : HOk P w (argH K s₁.heap A) s₁.heap := argH_ok ar
  have hS := dw_all KX ar ds vals hwl hpl ho
  have hV := vals_toV ho
  have hK : ∀ b u, argH K s₁.heap A b = some u → K.lookup b = none := fun b u q => (argH_is ar q).1
  have noA : ∀ {b : Addr} {o : Obj} {es : Array DictEntry} {ep : Nat}, s₁.heap.get? b = some o → o.data = .dict es ep → argH K s₁.heap A b = none := fun {b o es ep} e d => by
    cases q : argH K s₁.heap A b with
    | none => rfl
    | some u =>
      obtain ⟨_, vs, _, _, ⟨e2, _⟩ | ⟨e2, _⟩⟩ := argH_is ar q
      · rw [e2] at e
        cases e
        have d' : Data.seq vs.toArray _ = Data.dict es ep := d
        cases d'
      · rw [e2] at e
        cases e
        have d' : Data.seq vs.toArray _ = Data.dict es ep := d
        cases d'
  generalize argH K s₁.heap A = H at hO hok hS hK noA
  have base_of : ∀ {b : Addr} {o : Obj}, s₁.heap.get? b = some o → H b = none → (hidT s₁.heap H).get? b = some o := fun e n => hidT_get e n
  have nsK : ∀ {b : Addr} {m : Str → Option Value}, s₁.heap.Ns b m → (hidT s₁.heap H).Ns b m := fun {b m} ⟨o, es, ep, e, d, r⟩ => ⟨o, es, ep, base_of e (noA e d), d, r⟩
  have nK : ∀ b o, K.lookup b = some o → H b = none := fun b o e => by
    cases q : H b with
    | none => rfl
    | some u =>
      rw [hK b u q] at e
      cases e
  have hKb : K.In (hidT s₁.heap H) := fun b o e => base_of (KX b o e) (nK b o e)
  have hM : Mod K mg (hidT s₁.heap H) := ⟨hKb, nsK hns, ⟨mb, nsK hb, hbb⟩, let ⟨mc, h1, h2⟩ := hlim; ⟨mc, nsK h1, h2⟩⟩
  have e0 : Env0 P w K mg (hidT s₁.heap H) callerA [] s₁ H := ⟨rfl, hM, fun b o e => of_hidT e, Nat.le_of_eq (hidT_size _ _), trivial, fun b hb => absurd (show b ∈ ([] : List Addr) from hb) (by simp), hok, .of_eq hg⟩
  have hl : vals.length = ps.length := by rw [wellAll_len hwl]; exact hlen
  refine codeAny_mono ((F _ hKb (nsK hns)).run callerA [] s₁ H ⟨vals, []⟩ vals (vals.map toV) _ _ hr e0 (hbind s₁ vals hl) hV (hsp H _ hO hS)) fun r s' x => ?_
  cases r with
  | error e => exact (hCX H e s' x).elim
  | ok fl =>
    cases fl with
    | next => exact False.elim x
    | brk => exact False.elim x
    | cont => exact False.elim x
    | ret u =>
      obtain ⟨v, H', os, bare, un, hok', r', q⟩ := x
      have kept : ∀ b o, s₁.heap.get? b = some o → s'.heap.get? b = some o := fun b o e => by
        cases q2 : H b with
        | none => exact un.keep b o e q2 (by intro z; exact absurd (show b ∈ ([] : List Addr) from z) (by simp)) (by simp)
        | some u2 =>
          rcases hO b with z | ⟨ob, u3, z⟩
          · rw [q2] at z
            cases z
          · have z2 := un.frzs b ob _ z
            obtain ⟨e1, _⟩ := hok b _ z
            obtain ⟨e2, _⟩ := hok' b _ z2
            rw [e] at e1
            cases e1
            exact e2
      have KX' : K.In s'.heap := fun b o e => kept b o (KX b o e)
      obtain ⟨as, hrd⟩ := Dw.reads (R := R) (cl := cl) hok' KX' d0 v u q r'
      exact ⟨u, as, rfl, hrd, OldK.of_keep kept, os, bare⟩
/-! ### the row -/
theorem layable_weight {ds : List WData} (h : WData.layableAll ds = true) : ∀ d ∈ ds, d.weight ≤ 1048576 := fun d hd =>
  (PySem.W.layableW_iff.mp (List.all_eq_true.mp h d hd)).2.2
theorem encAll_len : ∀ (cs : List Codec) (a : Codec.denoteAll cs), (Codec.encAll cs a).length = cs.length
  | [], _ => rfl
  | c :: cs, a => by
    show (Codec.encAll cs a.2).length + 1 = cs.length + 1
    rw [encAll_len cs a.2]
/-- the goal that k_headS leaves (case hc), from the promise of the row's def: whatever the arguments that the codecs let and the row asks for, the def gives what stands for enc (f ..) -/
theorem walk_spec {r : OpenSpec} {k : Nat} {q : Program} {loose : List Str} {XP : (Str → Option Value) → Heap → Prop} {YP : World → Heap → Prop} {d : DefRec} {K : Params → PySem.W.Frag} {CX : World → CXT} {ps : List Str} {sp : World → Sp}
    (hwell : r.wellSaid = true) (hdf : d.params.defaults = []) (hlen : r.args.length = ps.length) (hr : Room k callerA)
    (hY : ∀ (w : World) (h : Heap), YP w h → (K w.params).In h)
    (F : ∀ (w : World) (mg : Str → Option Value) (fa : Addr) (h : Heap), YP w h → (K w.params).In h → h.Ns mainGlobals mg → mg d.name = some (.ref fa) →
      ∃ fd : FuncData, (∀ (s : Shared) (us : List Value), us.length = ps.length → BindsTo s fd ⟨us, []⟩ (ps.zip us)) ∧
        ∀ base : Heap, (K w.params).In base → base.Ns mainGlobals mg → FnOk r.prog w (K w.params) mg base (CX w) k fa fd ps (sp w))
    (hsp : ∀ (w : World) (H : Hp) (xs : List V) (a : Codec.denoteAll r.args), OnlyF H → Codec.withinAll r.args a = true → Codec.app r.args r.asked a = true → DwAll (K w.params) H xs (Codec.encAll r.args a) →
      sp w xs H (fun v H' => Dw (K w.params) H' v (r.ret.enc (Codec.app r.args r.f a))) fun _ _ _ => False)
    (hCX : ∀ (w : World) (H : Hp) (s : Shared) (e : Value) (s' : Shared), CX w [] H s (fun _ _ _ => False) e s' → False) :
    PySem.W.WalkOS q loose XP YP r d [] (fun f vs => PySem.call f vs) := by
  intro w s_0 s₁ mg mb G Y fa o pm cd doc dV kV ho hd hcd hD hmg hg args vals as hpre hlay hrd hwl hlo
  obtain ⟨a, e1, e2⟩ := PySem.W.os_pre_some hpre
  obtain ⟨e3, hwi⟩ := Codec.encAll_of_decAll r.args args a e1
  subst e3
  have KX := hY w _ Y
  obtain ⟨fd, hb, hF⟩ := F w mg fa _ Y KX G.T.g hmg
  refine PySem.W.enter_call (codeAny_mono (spec_call (R := []) (cl := classAt s_0.heap) (d0 := r.ret.enc (Codec.app r.args r.f a)) KX G.T.g G.T.b G.T.builtins G.T.nolimit hg hwl (pl_encAll _ _) (layable_weight hlay) hr hF hb (by rw [encAll_len]; exact hlen)
    (fun H xs hO hS => hsp w H xs a hO hwi e2 hS) fun H e s' => hCX w H s₁ e s') fun r' s' hq => ?_)
  obtain ⟨u, as', rfl, h1, h2, h3, h4⟩ := hq
  exact ⟨.inl ⟨u, _, as', rfl, fun _ => rfl, h1, (OpenSpec.post_iff hwell hwi _ _).mpr rfl, fun z => Bool.noConfusion (show false = true from z)⟩, h2, h3, h4⟩
/-- the same where the promise hangs on the written part alone -/
theorem walk_specK {r : OpenSpec} {k : Nat} {q : Program} {loose : List Str} {XP : (Str → Option Value) → Heap → Prop} {YP : World → Heap → Prop} {d : DefRec} {K : Params → PySem.W.Frag} {CX : CXT} {ps : List Str} {sp : PySem.W.Frag → Sp}
    (hwell : r.wellSaid = true) (hdf : d.params.defaults = []) (hlen : r.args.length = ps.length) (hr : Room k callerA)
    (hY : ∀ (w : World) (h : Heap), YP w h → (K w.params).In h)
    (F : ∀ (w : World) (mg : Str → Option Value) (fa : Addr) (h : Heap), YP w h → (K w.params).In h → h.Ns mainGlobals mg → mg d.name = some (.ref fa) →
      ∃ fd : FuncData, (∀ (s : Shared) (us : List Value), us.length = ps.length → BindsTo s fd ⟨us, []⟩ (ps.zip us)) ∧
        ∀ base : Heap, (K w.params).In base → base.Ns mainGlobals mg → FnOk r.prog w (K w.params) mg base CX k fa fd ps (sp (K w.params)))
    (hsp : ∀ (K : PySem.W.Frag) (H : Hp) (xs : List V) (a : Codec.denoteAll r.args), OnlyF H → Codec.withinAll r.args a = true → Codec.app r.args r.asked a = true → DwAll K H xs (Codec.encAll r.args a) →
      sp K xs H (fun v H' => Dw K H' v (r.ret.enc (Codec.app r.args r.f a))) fun _ _ _ => False)
    (hCX : ∀ (H : Hp) (s : Shared) (e : Value) (s' : Shared), CX [] H s (fun _ _ _ => False) e s' → False) :
    PySem.W.WalkOS q loose XP YP r d [] (fun f vs => PySem.call f vs) :=
  walk_spec (K := K) (CX := fun _ => CX) (sp := fun w => sp (K w.params)) hwell hdf hlen hr hY F (fun w H xs a h1 h2 h3 h4 => hsp (K w.params) H xs a h1 h2 h3 h4) fun _ H s e s' => hCX H s e s'
end L2
end

set_option Elab.async false
set_option linter.all false
namespace M
open Vbecak
/-! fractions in lowest terms -/
theorem lowest_pos {p : Frac} (h : 0 < p.2) : lowest p = (p.1 / Nat.gcd p.1 p.2, p.2 / Nat.gcd p.1 p.2) := by
  unfold lowest
  rw [if_neg (Nat.pos_iff_ne_zero.mp (Nat.gcd_pos_of_pos_right _ h))]
/-- p is g times its lowest form -/
theorem lowest_spec {p : Frac} (h : 0 < p.2) : ∃ g, 0 < g ∧ p.1 = g * (lowest p).1 ∧ p.2 = g * (lowest p).2 ∧ Nat.gcd (lowest p).1 (lowest p).2 = 1 := by
  have hg := Nat.gcd_pos_of_pos_right p.1 h
  refine ⟨Nat.gcd p.1 p.2, hg, ?_, ?_, ?_⟩
  · rw [lowest_pos h]
    exact (Nat.mul_div_cancel' (Nat.gcd_dvd_left _ _)).symm
  · rw [lowest_pos h]
    exact (Nat.mul_div_cancel' (Nat.gcd_dvd_right _ _)).symm
  · rw [lowest_pos h]
    exact Nat.gcd_div_gcd_div_gcd_of_pos_right h
theorem lowest_snd_pos {p : Frac} (h : 0 < p.2) : 0 < (lowest p).2 := by
  obtain ⟨g, hg, _, h2, _⟩ := lowest_spec h
  rcases Nat.eq_zero_or_pos (lowest p).2 with e | e
  · rw [e] at h2; omega
  · exact e
theorem lowest_fst_le (p : Frac) : (lowest p).1 ≤ p.1 := by
  unfold lowest; split
  · exact Nat.le_refl _
  · exact Nat.div_le_self _ _
theorem lowest_snd_le (p : Frac) : (lowest p).2 ≤ p.2 := by
  unfold lowest; split
  · exact Nat.le_refl _
  · exact Nat.div_le_self _ _
theorem cop_eq {a b c e : Nat} (hb : 0 < b) (he : 0 < e) (h1 : Nat.gcd a b = 1) (h2 : Nat.gcd c e = 1) (h : a * e = c * b) : a = c ∧ b = e := by
  have b1 : b ∣ e := by
    have : b ∣ a * e := ⟨c, by rw [h, Nat.mul_comm]⟩
    exact Nat.Coprime.dvd_of_dvd_mul_left (Nat.Coprime.symm h1) this
  have e1 : e ∣ b := by
    have : e ∣ c * b := ⟨a, by rw [← h, Nat.mul_comm]⟩
    exact Nat.Coprime.dvd_of_dvd_mul_left (Nat.Coprime.symm h2) this
  have be : b = e := Nat.dvd_antisymm b1 e1
  subst be
  exact ⟨Nat.eq_of_mul_eq_mul_right hb h, rfl⟩
theorem lowest_congr {p q : Frac} (hp : 0 < p.2) (hq : 0 < q.2) (h : p.1 * q.2 = q.1 * p.2) : lowest p = lowest q := by
  obtain ⟨g, hg, p1, p2, pc⟩ := lowest_spec hp
  obtain ⟨k, hk, q1, q2, qc⟩ := lowest_spec hq
  have hp2 := lowest_snd_pos hp
  have hq2 := lowest_snd_pos hq
  have e : (lowest p).1 * (lowest q).2 = (lowest q).1 * (lowest p).2 := by
    have : (g * k) * ((lowest p).1 * (lowest q).2) = (g * k) * ((lowest q).1 * (lowest p).2) := by
      calc (g * k) * ((lowest p).1 * (lowest q).2) = (g * (lowest p).1) * (k * (lowest q).2) := by simp only [Nat.mul_assoc, Nat.mul_comm, Nat.mul_left_comm]
        _ = (k * (lowest q).1) * (g * (lowest p).2) := by rw [← p1, ← q2, ← q1, ← p2]; exact h
        _ = (g * k) * ((lowest q).1 * (lowest p).2) := by simp only [Nat.mul_assoc, Nat.mul_comm, Nat.mul_left_comm]
    exact Nat.eq_of_mul_eq_mul_left (Nat.mul_pos hg hk) this
  obtain ⟨a, b⟩ := cop_eq hp2 hq2 pc qc e
  exact Prod.ext a b
theorem lowest_plus {p q : Frac} (hp : 0 < p.2) (hq : 0 < q.2) :
    lowest ((lowest p).1 * (lowest q).2 + (lowest q).1 * (lowest p).2, (lowest p).2 * (lowest q).2) = lowest (p.1 * q.2 + q.1 * p.2, p.2 * q.2) := by
  obtain ⟨g, hg, p1, p2, pc⟩ := lowest_spec hp
  obtain ⟨k, hk, q1, q2, qc⟩ := lowest_spec hq
  have hp2 := lowest_snd_pos hp
  have hq2 := lowest_snd_pos hq
  refine lowest_congr (Nat.mul_pos hp2 hq2) (Nat.mul_pos hp hq) ?_
  show ((lowest p).1 * (lowest q).2 + (lowest q).1 * (lowest p).2) * (p.2 * q.2) = (p.1 * q.2 + q.1 * p.2) * ((lowest p).2 * (lowest q).2)
  generalize (lowest p).1 = a at *
  generalize (lowest p).2 = b at *
  generalize (lowest q).1 = c at *
  generalize (lowest q).2 = e at *
  rw [p1, p2, q1, q2]
  simp only [Nat.add_mul, Nat.mul_add, Nat.mul_assoc, Nat.mul_comm, Nat.mul_left_comm]
theorem lowest_times {p q : Frac} (hp : 0 < p.2) (hq : 0 < q.2) :
    lowest ((lowest p).1 * (lowest q).1, (lowest p).2 * (lowest q).2) = lowest (p.1 * q.1, p.2 * q.2) := by
  obtain ⟨g, hg, p1, p2, pc⟩ := lowest_spec hp
  obtain ⟨k, hk, q1, q2, qc⟩ := lowest_spec hq
  have hp2 := lowest_snd_pos hp
  have hq2 := lowest_snd_pos hq
  refine lowest_congr (Nat.mul_pos hp2 hq2) (Nat.mul_pos hp hq) ?_
  show ((lowest p).1 * (lowest q).1) * (p.2 * q.2) = (p.1 * q.1) * ((lowest p).2 * (lowest q).2)
  generalize (lowest p).1 = a at *
  generalize (lowest p).2 = b at *
  generalize (lowest q).1 = c at *
  generalize (lowest q).2 = e at *
  rw [p1, p2, q1, q2]
  simp only [Nat.mul_assoc, Nat.mul_comm, Nat.mul_left_comm]
theorem lowest_fst_pos {p : Frac} (h : 0 < p.2) (h1 : 0 < p.1) : 0 < (lowest p).1 := by
  obtain ⟨g, hg, p1, p2, pc⟩ := lowest_spec h
  rcases Nat.eq_zero_or_pos (lowest p).1 with e | e
  · rw [e] at p1; omega
  · exact e
theorem lowest_fst_zero {p : Frac} (h : 0 < p.2) : (lowest p).1 = 0 ↔ p.1 = 0 := by
  constructor
  · intro e
    rcases Nat.eq_zero_or_pos p.1 with z | z
    · exact z
    · have := lowest_fst_pos h z; omega
  · intro e
    have := lowest_fst_le p; omega
theorem lowest_over {p q : Frac} (hp : 0 < p.2) (hq : 0 < q.2) (hn : 0 < q.1) :
    lowest ((lowest p).1 * (lowest q).2, (lowest p).2 * (lowest q).1) = lowest (p.1 * q.2, p.2 * q.1) := by
  obtain ⟨g, hg, p1, p2, pc⟩ := lowest_spec hp
  obtain ⟨k, hk, q1, q2, qc⟩ := lowest_spec hq
  have hp2 := lowest_snd_pos hp
  have hq1 := lowest_fst_pos hq hn
  refine lowest_congr (Nat.mul_pos hp2 hq1) (Nat.mul_pos hp hn) ?_
  show ((lowest p).1 * (lowest q).2) * (p.2 * q.1) = (p.1 * q.2) * ((lowest p).2 * (lowest q).1)
  generalize (lowest p).1 = a at *
  generalize (lowest p).2 = b at *
  generalize (lowest q).1 = c at *
  generalize (lowest q).2 = e at *
  rw [p1, p2, q1, q2]
  simp only [Nat.mul_assoc, Nat.mul_comm, Nat.mul_left_comm]
theorem lowest_le_iff {p : Frac} (h : 0 < p.2) : (lowest p).2 ≤ (lowest p).1 ↔ p.2 ≤ p.1 := by
  obtain ⟨g, hg, p1, p2, pc⟩ := lowest_spec h
  constructor
  · intro e; rw [p1, p2]; exact Nat.mul_le_mul_left _ e
  · intro e; rw [p1, p2] at e; exact Nat.le_of_mul_le_mul_left e hg
theorem lowest_lt_iff {p : Frac} (h : 0 < p.2) : (lowest p).1 < (lowest p).2 ↔ p.1 < p.2 := by
  have := lowest_le_iff h; omega
theorem lowest_gt_iff {p : Frac} (h : 0 < p.2) : (lowest p).2 < (lowest p).1 ↔ p.2 < p.1 := by
  obtain ⟨g, hg, p1, p2, pc⟩ := lowest_spec h
  constructor
  · intro e; rw [p1, p2]; exact Nat.mul_lt_mul_of_pos_left e hg
  · intro e; rw [p1, p2] at e; exact Nat.lt_of_mul_lt_mul_left e
theorem lowest_zero_iff {p : Frac} (h : 0 < p.2) : ((lowest p).1 = 0 ∧ (lowest p).2 = 1) ↔ p.1 = 0 := by
  constructor
  · intro e; exact (lowest_fst_zero h).mp e.1
  · intro e
    refine ⟨(lowest_fst_zero h).mpr e, ?_⟩
    rw [lowest_pos h, e, Nat.gcd_zero_left]
    exact Nat.div_self h
theorem lowest_one_iff {p : Frac} (h : 0 < p.2) : ((lowest p).1 = 1 ∧ (lowest p).2 = 1) ↔ p.1 = p.2 := by
  obtain ⟨g, hg, p1, p2, pc⟩ := lowest_spec h
  constructor
  · intro e; rw [p1, p2, e.1, e.2]
  · intro e
    have hh : (lowest p).1 = (lowest p).2 := by rw [p1, p2] at e; exact Nat.eq_of_mul_eq_mul_left hg e
    rw [hh, Nat.gcd_self] at pc
    exact ⟨hh.trans pc, pc⟩
end M

set_option Elab.async false
set_option linter.all false
namespace M
open Vbecak
/-! sums over ranges -/
def sg (n : Nat) (f : Nat → Nat) : Nat := ((List.range n).map f).sum
theorem sg_zero (f : Nat → Nat) : sg 0 f = 0 := rfl
theorem sum_app : ∀ (a b : List Nat), (a ++ b).sum = a.sum + b.sum
  | [], b => by simp
  | x :: a, b => by rw [List.cons_append, List.sum_cons, List.sum_cons, sum_app a b]; omega
theorem sg_succ (n : Nat) (f : Nat → Nat) : sg (n + 1) f = sg n f + f n := by
  unfold sg
  rw [List.range_succ, List.map_append, sum_app]
  simp
theorem sg_head (n : Nat) (f : Nat → Nat) : sg (n + 1) f = f 0 + sg n (fun i => f (i + 1)) := by
  induction n with
  | zero => rw [sg_succ, sg_zero, sg_zero]; omega
  | succ n ih => rw [sg_succ, ih, sg_succ]; omega
theorem sg_congr {n : Nat} {f g : Nat → Nat} (h : ∀ i, i < n → f i = g i) : sg n f = sg n g := by
  induction n with
  | zero => rfl
  | succ n ih => rw [sg_succ, sg_succ, ih (fun i hi => h i (by omega)), h n (by omega)]
theorem sg_le {n c : Nat} {f : Nat → Nat} (h : ∀ i, i < n → f i ≤ c) : sg n f ≤ n * c := by
  induction n with
  | zero => rw [sg_zero]; omega
  | succ n ih =>
    rw [sg_succ, Nat.succ_mul]
    exact Nat.add_le_add (ih fun i hi => h i (by omega)) (h n (by omega))
theorem sg_mul (n c : Nat) (f : Nat → Nat) : sg n (fun i => c * f i) = c * sg n f := by
  induction n with
  | zero => rw [sg_zero, sg_zero]; omega
  | succ n ih => rw [sg_succ, sg_succ, ih, Nat.mul_add]
theorem sg_add (n : Nat) (f g : Nat → Nat) : sg n (fun i => f i + g i) = sg n f + sg n g := by
  induction n with
  | zero => rfl
  | succ n ih => rw [sg_succ, sg_succ, sg_succ, ih]; omega
theorem sg_swap (n m : Nat) (f : Nat → Nat → Nat) : sg n (fun i => sg m (fun j => f i j)) = sg m (fun j => sg n (fun i => f i j)) := by
  induction n with
  | zero =>
    rw [sg_zero]
    induction m with
    | zero => rfl
    | succ m ih => rw [sg_succ, ← ih, sg_zero]
  | succ n ih =>
    rw [sg_succ, ih, ← sg_add]
    exact sg_congr fun j _ => (sg_succ n fun i => f i j).symm
theorem sg_split (a n : Nat) (f : Nat → Nat) : sg (a + n) f = sg a f + sg n (fun k => f (a + k)) := by
  induction n with
  | zero => rw [sg_zero]; rfl
  | succ n ih => rw [← Nat.add_assoc, sg_succ, ih, sg_succ]; omega
theorem sg_const0 (n : Nat) : sg n (fun _ => 0) = 0 := by
  induction n with
  | zero => rfl
  | succ n ih => rw [sg_succ, ih]
/-! lives -/
structure LOk (D B : Nat) (l : Life) : Prop where
  d0 : 0 < l.d
  dD : l.d ≤ D
  a0 : 1 ≤ l.births.length
  a8 : l.births.length ≤ 8
  sl : l.stay.length + 1 = l.births.length
  bB : ∀ b ∈ l.births, b ≤ B
  ss : ∀ s ∈ l.stay, s ≤ l.d
theorem LOk.mono {D B D' B' : Nat} {l : Life} (h : LOk D B l) (h1 : D ≤ D') (h2 : B ≤ B') : LOk D' B' l :=
  ⟨h.d0, Nat.le_trans h.dD h1, h.a0, h.a8, h.sl, fun b hb => Nat.le_trans (h.bB b hb) h2, h.ss⟩
theorem getD_of {l : List Nat} {i : Nat} (h : i < l.length) : l.getD i 0 = l[i] := by
  simp [List.getD, List.getElem?_eq_getElem h]
theorem LOk.birth {D B : Nat} {l : Life} (h : LOk D B l) (i : Nat) : l.births.getD i 0 ≤ B := by
  by_cases hi : i < l.births.length
  · rw [getD_of hi]; exact h.bB _ (List.getElem_mem hi)
  · have e : l.births[i]? = none := List.getElem?_eq_none (by omega)
    simp [List.getD, e]
theorem LOk.stay_le {D B : Nat} {l : Life} (h : LOk D B l) (i : Nat) : l.stay.getD i 0 ≤ l.d := by
  by_cases hi : i < l.stay.length
  · rw [getD_of hi]; exact h.ss _ (List.getElem_mem hi)
  · have e : l.stay[i]? = none := List.getElem?_eq_none (by omega)
    simp [List.getD, e]
theorem foldl_mul (c : Nat) : ∀ (l : List Nat) (a : Nat), l.foldl (fun a s => a * s) (c * a) = c * l.foldl (fun a s => a * s) a
  | [], a => rfl
  | x :: l, a => by
    rw [List.foldl_cons, List.foldl_cons, Nat.mul_assoc]
    exact foldl_mul c l (a * x)
theorem reached_zero (l : Life) : reached l 0 = 1 := by
  unfold reached; simp
theorem reached_succ (l : Life) {i : Nat} (h : i < l.stay.length) : reached l (i + 1) = reached l i * l.stay.getD i 0 := by
  unfold reached
  rw [List.take_add_one, List.foldl_append, List.getElem?_eq_getElem h, getD_of h]
  rfl
theorem reached_le {D B : Nat} {l : Life} (h : LOk D B l) : ∀ i, i ≤ l.stay.length → reached l i ≤ l.d ^ i
  | 0, _ => by rw [reached_zero]; simp
  | i + 1, hi => by
    rw [reached_succ l (by omega), Nat.pow_succ]
    exact Nat.mul_le_mul (reached_le h i (by omega)) (h.stay_le i)
/-- the step of the births to come: V k = b k * d ^ n + s k * V (k + 1) -/
theorem from_ages (l : Life) (k : Nat) : (from_ l k).ages = l.births.length - k := by
  unfold from_ Life.ages; simp
theorem getD_drop (l : List Nat) (k i : Nat) : (l.drop k).getD i 0 = l.getD (k + i) 0 := by
  simp [List.getD, List.getElem?_drop]
theorem reached_from (l : Life) (k i : Nat) (hk : k < l.stay.length) : reached (from_ l k) (i + 1) = l.stay.getD k 0 * reached (from_ l (k + 1)) i := by
  unfold reached from_
  show ((l.stay.drop k).take (i + 1)).foldl (fun a s => a * s) 1 = _
  rw [List.drop_eq_getElem_cons hk, List.take_succ_cons, List.foldl_cons, getD_of hk]
  have := foldl_mul l.stay[k] ((l.stay.drop (k + 1)).take i) 1
  rw [Nat.mul_one] at this
  rw [Nat.one_mul]
  exact this
theorem born_from (l : Life) (k i : Nat) (hk : k < l.stay.length) : born (from_ l k) (i + 1) = l.stay.getD k 0 * born (from_ l (k + 1)) i := by
  unfold born
  rw [reached_from l k i hk]
  show (l.births.drop k).getD (i + 1) 0 * _ = _ * ((l.births.drop (k + 1)).getD i 0 * _)
  rw [getD_drop, getD_drop, show k + (i + 1) = k + 1 + i by omega]
  simp only [Nat.mul_left_comm]
theorem value_fst (l : Life) (k : Nat) : (value l k).1 = sg (l.births.length - k) (fun i => born (from_ l k) i * l.d ^ (l.births.length - k - 1 - i)) := by
  show allAges (from_ l k) (born (from_ l k)) = _
  unfold allAges
  rw [from_ages]
  rfl
theorem value_snd (l : Life) (k : Nat) : (value l k).2 = l.d ^ (l.births.length - k) := by
  show l.d ^ (from_ l k).ages = _
  rw [from_ages]
theorem value_step {D B : Nat} {l : Life} (h : LOk D B l) {k n : Nat} (hk : l.births.length = k + 1 + n) (hn : 0 < n) :
    (value l k).1 = l.births.getD k 0 * l.d ^ n + l.stay.getD k 0 * (value l (k + 1)).1 := by
  have hs := h.sl
  rw [value_fst, value_fst, show l.births.length - k = n + 1 by omega, show l.births.length - (k + 1) = n by omega, sg_head]
  congr 1
  · show born (from_ l k) 0 * l.d ^ (n + 1 - 1 - 0) = _
    unfold born
    rw [reached_zero]
    show (l.births.drop k).getD 0 0 * 1 * _ = _
    rw [getD_drop, Nat.mul_one]
    rfl
  · rw [← sg_mul]
    refine sg_congr fun i hi => ?_
    rw [born_from l k i (by omega), show n + 1 - 1 - (i + 1) = n - 1 - i by omega, Nat.mul_assoc]
theorem value_last {D B : Nat} {l : Life} (h : LOk D B l) {k : Nat} (hk : l.births.length = k + 1) : value l k = (l.births.getD k 0, l.d) := by
  have h1 : (value l k).1 = l.births.getD k 0 := by
    rw [value_fst, show l.births.length - k = 0 + 1 by omega, sg_head, sg_zero]
    unfold born
    rw [reached_zero]
    show (l.births.drop k).getD 0 0 * 1 * _ ^ 0 + 0 = _
    rw [getD_drop]
    simp
  have h2 : (value l k).2 = l.d := by
    rw [value_snd, show l.births.length - k = 1 by omega, Nat.pow_one]
  exact Prod.ext h1 h2
theorem from_zero (l : Life) : from_ l 0 = l := rfl
theorem net_value (l : Life) : net l = value l 0 := rfl
theorem value_pos {D B : Nat} {l : Life} (h : LOk D B l) (k : Nat) : 0 < (value l k).2 := by
  rw [value_snd]; exact Nat.pow_pos h.d0
theorem net_pos {D B : Nat} {l : Life} (h : LOk D B l) : 0 < (net l).2 := value_pos h 0
/-! sizes -/
def Sm (p : Frac) : Prop := p.1 < 2 ^ 1000 ∧ p.2 < 2 ^ 1000
theorem dpow_le {D B : Nat} {l : Life} (h : LOk D B l) (hD : D ≤ 400) {k : Nat} (hk : k ≤ 8) : l.d ^ k ≤ 400 ^ 8 := by
  have h1 : l.d ^ k ≤ 400 ^ k := Nat.pow_le_pow_left (Nat.le_trans h.dD hD) k
  exact Nat.le_trans h1 (Nat.pow_le_pow_right (by decide) hk)
theorem LOk.from {D B : Nat} {l : Life} (h : LOk D B l) {k : Nat} (hk : k < l.births.length) : LOk D B (from_ l k) := by
  have := h.sl
  have := h.a8
  refine ⟨h.d0, h.dD, ?_, ?_, ?_, fun b hb => h.bB b (List.mem_of_mem_drop hb), fun s hs => h.ss s (List.mem_of_mem_drop hs)⟩
  · show 1 ≤ (l.births.drop k).length; rw [List.length_drop]; omega
  · show (l.births.drop k).length ≤ 8; rw [List.length_drop]; omega
  · show (l.stay.drop k).length + 1 = (l.births.drop k).length; rw [List.length_drop, List.length_drop]; omega
theorem reached_bd {D B : Nat} {l : Life} (h : LOk D B l) (hD : D ≤ 400) {i : Nat} (hi : i < l.births.length) : reached l i ≤ 400 ^ 8 := by
  have := h.sl
  have := h.a8
  exact Nat.le_trans (reached_le h i (by omega)) (dpow_le h hD (by omega))
theorem born_bd {D B : Nat} {l : Life} (h : LOk D B l) (hD : D ≤ 400) {i : Nat} (hi : i < l.births.length) : born l i ≤ B * 400 ^ 8 :=
  Nat.mul_le_mul (h.birth i) (reached_bd h hD hi)
theorem all_bd {D B : Nat} {l : Life} (h : LOk D B l) (hD : D ≤ 400) {f : Nat → Nat} {c : Nat} (hf : ∀ i, i < l.births.length → f i ≤ c) : allAges l f ≤ 8 * (c * 400 ^ 8) := by
  have h8 := h.a8
  refine Nat.le_trans (sg_le (n := l.births.length) (c := c * 400 ^ 8) fun i hi => ?_) (Nat.mul_le_mul_right _ h8)
  exact Nat.mul_le_mul (hf i hi) (dpow_le h hD (by show l.births.length - 1 - i ≤ 8; omega))
theorem net_bd {D B : Nat} {l : Life} (h : LOk D B l) (hD : D ≤ 400) (hB : B ≤ 20000) : (net l).1 ≤ 8 * (20000 * 400 ^ 8 * 400 ^ 8) :=
  all_bd h hD fun i hi => Nat.le_trans (born_bd h hD hi) (Nat.mul_le_mul_right _ hB)
theorem value_bd {D B : Nat} {l : Life} (h : LOk D B l) (hD : D ≤ 400) (hB : B ≤ 20000) {k : Nat} (hk : k < l.births.length) : (value l k).1 ≤ 8 * (20000 * 400 ^ 8 * 400 ^ 8) := net_bd (h.from hk) hD hB
theorem value_sm {D B : Nat} {l : Life} (h : LOk D B l) (hD : D ≤ 400) (hB : B ≤ 20000) {k : Nat} (hk : k < l.births.length) : Sm (value l k) := by
  refine ⟨Nat.lt_of_le_of_lt (value_bd h hD hB hk) (by decide +kernel), ?_⟩
  rw [value_snd]
  have := h.a8
  exact Nat.lt_of_le_of_lt (dpow_le h hD (by omega)) (by decide +kernel)
end M

set_option Elab.async false
set_option linter.all false
namespace M
open Vbecak
theorem dot_comm : ∀ a b : List Nat, dot a b = dot b a
  | [], [] => rfl
  | [], _ :: _ => rfl
  | _ :: _, [] => rfl
  | x :: a, y :: b => by
    have ih := dot_comm a b
    unfold dot at ih ⊢
    rw [List.zipWith_cons_cons, List.zipWith_cons_cons, List.sum_cons, List.sum_cons, ih, Nat.mul_comm]
theorem dot_cons (x y : Nat) (a b : List Nat) : dot (x :: a) (y :: b) = x * y + dot a b := by
  unfold dot; rw [List.zipWith_cons_cons, List.sum_cons]
theorem dot_sg : ∀ (n : Nat) (a b : List Nat), a.length = n → b.length = n → dot a b = sg n (fun k => a.getD k 0 * b.getD k 0)
  | 0, [], [], _, _ => rfl
  | n + 1, x :: a, y :: b, ha, hb => by
    rw [dot_cons, sg_head, dot_sg n a b (by simpa using ha) (by simpa using hb)]
    rfl
theorem dot_rep : ∀ (n : Nat) (x : List Nat), dot (List.replicate n 0) x = 0
  | 0, _ => by unfold dot; simp
  | n + 1, [] => by unfold dot; simp
  | n + 1, y :: x => by rw [List.replicate_succ, dot_cons, dot_rep n x]; omega
theorem dot_set : ∀ (n i s : Nat) (x : List Nat), i < n → x.length = n → dot ((List.replicate n 0).set i s) x = s * x.getD i 0
  | n + 1, 0, s, y :: x, _, _ => by
    rw [List.replicate_succ, List.set_cons_zero, dot_cons, dot_rep]; rfl
  | n + 1, i + 1, s, y :: x, hi, hx => by
    rw [List.replicate_succ, List.set_cons_succ, dot_cons, dot_set n i s x (by omega) (by simpa using hx)]
    simp
  | n + 1, _, _, [], _, hx => by simp at hx
/-! the table of a year -/
def tableTimes (T : Rows) (x : List Nat) : List Nat := T.map fun r => dot r x
def yearRow (l : Life) (i : Nat) : List Nat := (List.replicate l.ages 0).set i (l.stay.getD i 0)
def yearTable (l : Life) : Rows := l.births :: (List.range (l.ages - 1)).map (yearRow l)
theorem after_succ (l : Life) : ∀ (t : Nat) (x : List Nat), after l (t + 1) x = next l (after l t x)
  | 0, x => rfl
  | t + 1, x => by
    show after l (t + 1) (next l x) = next l (after l t (next l x))
    exact after_succ l t (next l x)
theorem next_len {D B : Nat} {l : Life} (h : LOk D B l) {x : List Nat} (hx : x.length = l.ages) : (next l x).length = l.ages := by
  unfold next
  rw [List.length_cons, List.length_zipWith, hx]
  have := h.sl
  unfold Life.ages
  omega
theorem after_len {D B : Nat} {l : Life} (h : LOk D B l) : ∀ (t : Nat) {x : List Nat}, x.length = l.ages → (after l t x).length = l.ages
  | 0, _, hx => hx
  | t + 1, _, hx => after_len h t (next_len h hx)
theorem table_next {D B : Nat} {l : Life} (h : LOk D B l) {x : List Nat} (hx : x.length = l.ages) : tableTimes (yearTable l) x = next l x := by
  have hs := h.sl
  unfold tableTimes yearTable next
  rw [List.map_cons]
  congr 1
  have ha : l.ages = l.births.length := rfl
  refine List.ext_getElem ?_ fun i h1 h2 => ?_
  · rw [List.length_map, List.length_map, List.length_range, List.length_zipWith, hx]; omega
  · rw [List.length_map, List.length_map, List.length_range] at h1
    rw [List.getElem_map, List.getElem_map, List.getElem_range, List.getElem_zipWith]
    unfold yearRow
    rw [dot_set l.ages i _ x (by omega) hx, getD_of (by omega), getD_of (by omega)]
theorem table_matrix {D B : Nat} {l : Life} (h : LOk D B l) : yearTable l = matrix l := by
  have hs := h.sl
  have h0 := h.a0
  have ha : l.ages = l.births.length := rfl
  unfold yearTable matrix
  refine List.ext_getElem ?_ fun i h1 h2 => ?_
  · rw [List.length_cons, List.length_map, List.length_range, List.length_map, List.length_range]; omega
  · rw [List.length_cons, List.length_map, List.length_range] at h1
    rw [List.getElem_map, List.getElem_range]
    cases i with
    | zero =>
      rw [List.getElem_cons_zero]
      refine List.ext_getElem ?_ fun j h3 h4 => ?_
      · rw [List.length_map, List.length_range]; rfl
      · rw [List.getElem_map, List.getElem_range, if_pos rfl, getD_of h3]
    | succ i =>
      rw [List.getElem_cons_succ, List.getElem_map, List.getElem_range]
      unfold yearRow
      refine List.ext_getElem ?_ fun j h3 h4 => ?_
      · rw [List.length_set, List.length_replicate, List.length_map, List.length_range]
      · rw [List.getElem_map, List.getElem_range, if_neg (by omega), List.getElem_set]
        by_cases e : i = j
        · subst e; rw [if_pos rfl, if_pos rfl]
        · rw [if_neg e, if_neg (by omega), List.getElem_replicate]
/-! powers, by residues -/
structure Sq (N : Nat) (T : Rows) : Prop where
  len : T.length = N
  row : ∀ r ∈ T, r.length = N
def en (T : Rows) (i j : Nat) : Nat := (T.getD i []).getD j 0
def mv (N : Nat) (f : Nat → Nat → Nat) (y : Nat → Nat) (i : Nat) : Nat := sg N fun k => f i k * y k
def mm (N : Nat) (f g : Nat → Nat → Nat) (i j : Nat) : Nat := sg N fun k => f i k * g k j
def itr (N : Nat) (f : Nat → Nat → Nat) : Nat → (Nat → Nat) → (Nat → Nat)
  | 0, y => y
  | t + 1, y => itr N f t (mv N f y)
def cgv (q N : Nat) (y z : Nat → Nat) : Prop := ∀ i, i < N → y i % q = z i % q
def cgm (q N : Nat) (f g : Nat → Nat → Nat) : Prop := ∀ i j, i < N → j < N → f i j % q = g i j % q
theorem sg_mod {q n : Nat} {f g : Nat → Nat} (h : ∀ i, i < n → f i % q = g i % q) : sg n f % q = sg n g % q := by
  induction n with
  | zero => rfl
  | succ n ih => rw [sg_succ, sg_succ, Nat.add_mod, ih fun i hi => h i (by omega), h n (by omega), ← Nat.add_mod]
theorem mv_cg {q N : Nat} {f g : Nat → Nat → Nat} {y z : Nat → Nat} (hf : cgm q N f g) (hy : cgv q N y z) : cgv q N (mv N f y) (mv N g z) := fun i hi =>
  sg_mod fun k hk => by rw [Nat.mul_mod, hf i k hi hk, hy k hk, ← Nat.mul_mod]
theorem cgv_trans {q N : Nat} {a b c : Nat → Nat} (h : cgv q N a b) (h' : cgv q N b c) : cgv q N a c := fun i hi => (h i hi).trans (h' i hi)
theorem cgm_refl {q N : Nat} (f : Nat → Nat → Nat) : cgm q N f f := fun _ _ _ _ => rfl
theorem cgv_refl {q N : Nat} (y : Nat → Nat) : cgv q N y y := fun _ _ => rfl
theorem itr_cg {q N : Nat} {f g : Nat → Nat → Nat} (hf : cgm q N f g) : ∀ (t : Nat) {y z : Nat → Nat}, cgv q N y z → cgv q N (itr N f t y) (itr N g t z)
  | 0, _, _, h => h
  | t + 1, _, _, h => itr_cg hf t (mv_cg hf h)
theorem mv_mm (N : Nat) (f g : Nat → Nat → Nat) (y : Nat → Nat) : mv N (mm N f g) y = mv N f (mv N g y) := by
  funext i
  unfold mv mm
  have e1 : (fun j => sg N (fun k => f i k * g k j) * y j) = fun j => sg N (fun k => f i k * (g k j * y j)) := by
    funext j
    rw [Nat.mul_comm, ← sg_mul]
    exact sg_congr fun k _ => by rw [Nat.mul_comm, Nat.mul_assoc]
  rw [e1, sg_swap]
  exact sg_congr fun k _ => sg_mul N (f i k) fun j => g k j * y j
theorem itr_add (N : Nat) (f : Nat → Nat → Nat) : ∀ (a b : Nat) (y : Nat → Nat), itr N f (a + b) y = itr N f a (itr N f b y)
  | a, 0, y => rfl
  | a, b + 1, y => itr_add N f a b (mv N f y)
theorem itr_mm (N : Nat) (f : Nat → Nat → Nat) : ∀ (t : Nat) (y : Nat → Nat), itr N (mm N f f) t y = itr N f (2 * t) y
  | 0, _ => rfl
  | t + 1, y => by
    show itr N (mm N f f) t (mv N (mm N f f) y) = itr N f (2 * t + 1 + 1) y
    rw [itr_mm N f t, mv_mm]
    rfl
theorem en_of {T : Rows} {i : Nat} (h : i < T.length) (j : Nat) : en T i j = T[i].getD j 0 := by
  unfold en
  simp [List.getD, List.getElem?_eq_getElem h]
theorem col_get {T : Rows} {j k : Nat} (h : k < T.length) : (column T j).getD k 0 = en T k j := by
  unfold column
  rw [en_of h]
  simp [List.getD, h]
theorem times_sq {q N : Nat} {a b : Rows} (ha : Sq N a) (hb : Sq N b) : Sq N (timesMod q a b) := by
  refine ⟨by unfold timesMod; rw [List.length_map, ha.len], fun r hr => ?_⟩
  unfold timesMod at hr
  obtain ⟨x, _, e⟩ := List.mem_map.mp hr
  rw [← e, List.length_map, List.length_range, hb.len]
theorem times_en {q N : Nat} {a b : Rows} (ha : Sq N a) (hb : Sq N b) : cgm q N (en (timesMod q a b)) (mm N (en a) (en b)) := fun i j hi hj => by
  have hi' : i < a.length := by rw [ha.len]; exact hi
  rw [en_of (by unfold timesMod; rw [List.length_map]; exact hi')]
  unfold timesMod
  rw [List.getElem_map, getD_of (by rw [List.length_map, List.length_range, hb.len]; exact hj), List.getElem_map, List.getElem_range, Nat.mod_mod]
  congr 1
  rw [dot_sg N _ _ (ha.row _ (List.getElem_mem hi')) (by unfold column; rw [List.length_map, hb.len])]
  refine sg_congr fun k hk => ?_
  rw [col_get (by rw [hb.len]; exact hk), en_of hi']
/-- the program's own loop -/
def restsLoop (q : Nat) : Nat → Nat → Rows → List Nat → List Nat
  | 0, _, _, y => y
  | k + 1, t, T, y => if t = 0 then y else restsLoop q k (t / 2) (timesMod q T T) (if t % 2 = 1 then (tableTimes T y).map (fun a => a % q) else y)
theorem tt_len {N : Nat} {T : Rows} (h : Sq N T) (y : List Nat) : (tableTimes T y).length = N := by unfold tableTimes; rw [List.length_map, h.len]
theorem tt_get {N : Nat} {T : Rows} (h : Sq N T) {y : List Nat} (hy : y.length = N) {i : Nat} (hi : i < N) : (tableTimes T y).getD i 0 = mv N (en T) (fun k => y.getD k 0) i := by
  have hi' : i < T.length := by rw [h.len]; exact hi
  rw [getD_of (by rw [tt_len h]; exact hi)]
  unfold tableTimes mv
  rw [List.getElem_map, dot_sg N _ _ (h.row _ (List.getElem_mem hi')) hy]
  exact sg_congr fun k _ => by rw [en_of hi']
theorem getD_mod (q : Nat) (y : List Nat) (i : Nat) : (y.map fun a => a % q).getD i 0 = y.getD i 0 % q := by
  simp only [List.getD, List.getElem?_map]
  cases y[i]? <;> simp
theorem loop_ok {q N : Nat} : ∀ (k t : Nat) (T : Rows) (y : List Nat), t < 2 ^ k → Sq N T → y.length = N → (∀ a ∈ y, a = a % q) →
    (restsLoop q k t T y).length = N ∧ (∀ a ∈ restsLoop q k t T y, a = a % q) ∧ cgv q N (fun i => (restsLoop q k t T y).getD i 0) (itr N (en T) t fun i => y.getD i 0)
  | 0, t, T, y, ht, _, hy, hq => by
    have : t = 0 := by simpa using ht
    subst this
    exact ⟨hy, hq, cgv_refl _⟩
  | k + 1, t, T, y, ht, hT, hy, hq => by
    unfold restsLoop
    by_cases h0 : t = 0
    · rw [if_pos h0]; subst h0; exact ⟨hy, hq, cgv_refl _⟩
    · rw [if_neg h0]
      have h2 : t / 2 < 2 ^ k := by rw [Nat.pow_succ] at ht; omega
      by_cases h1 : t % 2 = 1
      · rw [if_pos h1]
        obtain ⟨a, b, c⟩ := loop_ok k (t / 2) (timesMod q T T) ((tableTimes T y).map fun a => a % q) h2 (times_sq hT hT) (by rw [List.length_map, tt_len hT]) (fun a ha => by
          obtain ⟨x, _, e⟩ := List.mem_map.mp ha
          rw [← e, Nat.mod_mod])
        refine ⟨a, b, cgv_trans c ?_⟩
        have s1 : cgv q N (fun i => ((tableTimes T y).map fun a => a % q).getD i 0) (mv N (en T) fun i => y.getD i 0) := fun i hi => by
          show ((tableTimes T y).map fun a => a % q).getD i 0 % q = _
          rw [getD_mod, Nat.mod_mod, tt_get hT hy hi]
        have s2 := itr_cg (times_en (q := q) hT hT) (t / 2) s1
        refine cgv_trans s2 ?_
        rw [itr_mm]
        have e : itr N (en T) t (fun i => y.getD i 0) = itr N (en T) (2 * (t / 2)) (mv N (en T) fun i => y.getD i 0) := by
          have : t = 2 * (t / 2) + 1 := by omega
          exact congrArg (fun n => itr N (en T) n (fun i => y.getD i 0)) this
        rw [e]
        exact cgv_refl _
      · rw [if_neg h1]
        obtain ⟨a, b, c⟩ := loop_ok k (t / 2) (timesMod q T T) y h2 (times_sq hT hT) hy hq
        refine ⟨a, b, cgv_trans c ?_⟩
        have s2 := itr_cg (times_en (q := q) hT hT) (t / 2) (cgv_refl (q := q) fun i => y.getD i 0)
        refine cgv_trans s2 ?_
        rw [itr_mm, show 2 * (t / 2) = t by omega]
        exact cgv_refl _
theorem power_ok {q N : Nat} (x : Nat → Nat) : ∀ (k t : Nat) (m r : Rows), t < 2 ^ k → Sq N m → Sq N r →
    Sq N (powerMod q k t m r) ∧ cgv q N (mv N (en (powerMod q k t m r)) x) (mv N (en r) (itr N (en m) t x))
  | 0, t, m, r, ht, _, hr => by
    have : t = 0 := by simpa using ht
    subst this
    exact ⟨hr, cgv_refl _⟩
  | k + 1, t, m, r, ht, hm, hr => by
    have h2 : t / 2 < 2 ^ k := by rw [Nat.pow_succ] at ht; omega
    unfold powerMod
    by_cases h1 : t % 2 = 1
    · rw [if_pos h1]
      obtain ⟨a, c⟩ := power_ok x k (t / 2) (timesMod q m m) (timesMod q r m) h2 (times_sq hm hm) (times_sq hr hm)
      refine ⟨a, cgv_trans c ?_⟩
      have s2 := itr_cg (times_en (q := q) hm hm) (t / 2) (cgv_refl (q := q) x)
      rw [itr_mm] at s2
      have s3 := mv_cg (times_en (q := q) hr hm) s2
      refine cgv_trans s3 ?_
      rw [mv_mm]
      have e : mv N (en m) (itr N (en m) (2 * (t / 2)) x) = itr N (en m) t x := by
        have := itr_add N (en m) 1 (2 * (t / 2)) x
        rw [show 1 + 2 * (t / 2) = t by omega] at this
        rw [this]
        rfl
      rw [e]
      exact cgv_refl _
    · rw [if_neg h1]
      obtain ⟨a, c⟩ := power_ok x k (t / 2) (timesMod q m m) r h2 (times_sq hm hm) hr
      refine ⟨a, cgv_trans c ?_⟩
      have s2 := itr_cg (times_en (q := q) hm hm) (t / 2) (cgv_refl (q := q) x)
      rw [itr_mm, show 2 * (t / 2) = t by omega] at s2
      exact mv_cg (cgm_refl _) s2
theorem sq_mod {q N : Nat} {T : Rows} (h : Sq N T) : Sq N (T.map fun r => r.map fun a => a % q) := by
  refine ⟨by rw [List.length_map, h.len], fun r hr => ?_⟩
  obtain ⟨x, hx, e⟩ := List.mem_map.mp hr
  rw [← e, List.length_map, h.row x hx]
theorem en_mod {q N : Nat} {T : Rows} (h : Sq N T) : cgm q N (en (T.map fun r => r.map fun a => a % q)) (en T) := fun i j hi hj => by
  have hi' : i < T.length := by rw [h.len]; exact hi
  rw [en_of (by rw [List.length_map]; exact hi'), List.getElem_map, getD_mod, Nat.mod_mod, en_of hi']
theorem matrix_sq (l : Life) : Sq l.ages (matrix l) := by
  unfold matrix
  refine ⟨by rw [List.length_map, List.length_range], fun r hr => ?_⟩
  obtain ⟨x, hx, e⟩ := List.mem_map.mp hr
  rw [← e, List.length_map, List.length_range]
theorem unit_sq (n : Nat) : Sq n (unit n) := by
  unfold unit
  refine ⟨by rw [List.length_map, List.length_range], fun r hr => ?_⟩
  obtain ⟨x, hx, e⟩ := List.mem_map.mp hr
  rw [← e, List.length_map, List.length_range]
theorem unit_en {n i j : Nat} (hi : i < n) (hj : j < n) : en (unit n) i j = if i = j then 1 else 0 := by
  rw [en_of (by rw [(unit_sq n).len]; exact hi)]
  unfold unit
  rw [List.getElem_map, getD_of (by rw [List.length_map, List.length_range]; exact hj), List.getElem_map, List.getElem_range, List.getElem_range]
theorem sg_one (y : Nat → Nat) (i : Nat) : ∀ n, sg n (fun k => (if i = k then 1 else 0) * y k) = if i < n then y i else 0
  | 0 => by rw [sg_zero, if_neg (by omega)]
  | n + 1 => by
    rw [sg_succ, sg_one y i n]
    by_cases h : i = n
    · subst h; rw [if_neg (by omega), if_pos rfl, if_pos (by omega)]; omega
    · rw [if_neg h]
      by_cases h2 : i < n
      · rw [if_pos h2, if_pos (by omega)]; omega
      · rw [if_neg h2, if_neg (by omega)]; omega
theorem unit_mv {n : Nat} (y : Nat → Nat) (q : Nat) : cgv q n (mv n (en (unit n)) y) y := fun i hi => by
  congr 1
  unfold mv
  rw [sg_congr (g := fun k => (if i = k then 1 else 0) * y k) fun k hk => by rw [unit_en hi hk], sg_one, if_pos hi]
theorem far_ok {D B : Nat} {l : Life} (h : LOk D B l) {t q : Nat} (ht : t < 2 ^ 64) {x : List Nat} (hx : x.length = l.ages) :
    restsLoop q 64 t (yearTable l) (x.map fun a => a % q) = farMod l t q x := by
  rw [table_matrix h]
  obtain ⟨a, b, c⟩ := loop_ok (q := q) 64 t (matrix l) (x.map fun a => a % q) ht (matrix_sq l) (by rw [List.length_map, hx]) (fun a ha => by
    obtain ⟨z, _, e⟩ := List.mem_map.mp ha
    rw [← e, Nat.mod_mod])
  obtain ⟨sp, pc⟩ := power_ok (q := q) (fun i => x.getD i 0) 64 t ((matrix l).map fun r => r.map fun a => a % q) ((unit l.ages).map fun r => r.map fun a => a % q) ht (sq_mod (matrix_sq l)) (sq_mod (unit_sq l.ages))
  have s1 : cgv q l.ages (fun i => (x.map fun a => a % q).getD i 0) (fun i => x.getD i 0) := fun i _ => by
    show (x.map fun a => a % q).getD i 0 % q = _
    rw [getD_mod, Nat.mod_mod]
  have c2 := cgv_trans c (itr_cg (cgm_refl (en (matrix l))) t s1)
  have p2 := cgv_trans pc (mv_cg (en_mod (unit_sq l.ages)) (itr_cg (en_mod (q := q) (matrix_sq l)) t (cgv_refl (fun i => x.getD i 0))))
  have p3 := cgv_trans p2 (unit_mv _ q)
  unfold farMod
  refine List.ext_getElem ?_ fun i h1 h2 => ?_
  · rw [a, List.length_map, sp.len]
  · rw [List.getElem_map]
    have hi : i < l.ages := by rw [a] at h1; exact h1
    have e1 := c2 i hi
    have e2 := p3 i hi
    rw [b _ (List.getElem_mem h1)]
    have e3 : (restsLoop q 64 t (matrix l) (x.map fun a => a % q))[i] = (restsLoop q 64 t (matrix l) (x.map fun a => a % q)).getD i 0 := (getD_of h1).symm
    rw [e3]
    refine e1.trans (e2.symm.trans ?_)
    congr 1
    have hi2 : i < (powerMod q 64 t ((matrix l).map fun r => r.map fun a => a % q) ((unit l.ages).map fun r => r.map fun a => a % q)).length := by rw [sp.len]; exact hi
    rw [dot_sg l.ages _ _ (sp.row _ (List.getElem_mem hi2)) hx]
    exact sg_congr fun k _ => by rw [en_of hi2]
end M

set_option Elab.async false
set_option linter.all false
namespace M
open Vbecak
/-! births of one newborn -/
def one (l : Life) : List Nat := 1 :: List.replicate (l.ages - 1) 0
theorem renew_len (l : Life) : ∀ t, (renewals l t).length = t + 1
  | 0 => rfl
  | t + 1 => by show (renewed l (renewals l t) :: renewals l t).length = _; rw [List.length_cons, renew_len l t]
theorem zip_sum (f : Nat → Nat) : ∀ (n k : Nat) (b : List Nat), (((List.range' k n).zip b).map fun p => f p.1 * p.2).sum = sg n fun i => f (k + i) * b.getD i 0
  | 0, k, b => by simp [sg_zero]
  | n + 1, k, [] => by
    rw [List.zip_nil_right]
    have : (fun i => f (k + i) * ([] : List Nat).getD i 0) = fun _ => 0 := by funext i; simp
    rw [this, sg_const0]
    rfl
  | n + 1, k, x :: b => by
    rw [List.range'_succ, List.zip_cons_cons, List.map_cons, List.sum_cons, zip_sum f n (k + 1) b, sg_head]
    show f k * x + _ = f (k + 0) * x + _
    congr 1
    exact sg_congr fun i _ => by rw [show k + 1 + i = k + (i + 1) by omega]; rfl
theorem renewed_sg (l : Life) (b : List Nat) : renewed l b = sg l.ages fun i => born l i * b.getD i 0 := by
  unfold renewed
  rw [List.range_eq_range', zip_sum]
  exact sg_congr fun i _ => by rw [Nat.zero_add]
theorem births_ok {D B : Nat} {l : Life} (h : LOk D B l) : ∀ t, after l t (one l) = (List.range l.ages).map fun i => reached l i * (renewals l t).getD i 0
  | 0 => by
    have h0 := h.a0
    have ha : l.ages = l.births.length := rfl
    show one l = _
    unfold one
    refine List.ext_getElem ?_ fun i h1 h2 => ?_
    · rw [List.length_cons, List.length_replicate, List.length_map, List.length_range]; omega
    · rw [List.getElem_map, List.getElem_range]
      cases i with
      | zero => rw [List.getElem_cons_zero, reached_zero]; rfl
      | succ i => rw [List.getElem_cons_succ, List.getElem_replicate]; show 0 = _ * ([1] : List Nat).getD (i + 1) 0; simp
  | t + 1 => by
    have h0 := h.a0
    have hs := h.sl
    have ha : l.ages = l.births.length := rfl
    rw [after_succ, births_ok h t]
    unfold next
    show _ = (List.range l.ages).map fun i => reached l i * (renewed l (renewals l t) :: renewals l t).getD i 0
    refine List.ext_getElem ?_ fun i h1 h2 => ?_
    · rw [List.length_cons, List.length_zipWith, List.length_map, List.length_range, List.length_map, List.length_range]; omega
    · rw [List.getElem_map, List.getElem_range]
      rw [List.length_map, List.length_range] at h2
      cases i with
      | zero =>
        rw [List.getElem_cons_zero, reached_zero, Nat.one_mul]
        show _ = renewed l (renewals l t)
        rw [renewed_sg, dot_sg l.ages _ _ rfl (by rw [List.length_map, List.length_range])]
        refine sg_congr fun k hk => ?_
        rw [getD_of (l := (List.range l.ages).map _) (by rw [List.length_map, List.length_range]; exact hk), List.getElem_map, List.getElem_range]
        unfold born
        rw [Nat.mul_assoc]
      | succ i =>
        rw [List.getElem_cons_succ, List.getElem_zipWith, List.getElem_map, List.getElem_range, reached_succ l (by omega), getD_of (l := l.stay) (by omega)]
        show _ = _ * (renewals l t).getD i 0
        simp only [Nat.mul_assoc, Nat.mul_left_comm]
theorem births_head {D B : Nat} {l : Life} (h : LOk D B l) (t : Nat) : (after l t (one l)).getD 0 0 = (renewals l t).headD 0 := by
  have h0 := h.a0
  have ha : l.ages = l.births.length := rfl
  rw [births_ok h t, getD_of (by rw [List.length_map, List.length_range]; omega), List.getElem_map, List.getElem_range, reached_zero, Nat.one_mul]
  cases renewals l t <;> rfl
theorem one_len {D B : Nat} {l : Life} (h : LOk D B l) : (one l).length = l.ages := by
  have h0 := h.a0
  have ha : l.ages = l.births.length := rfl
  unfold one
  rw [List.length_cons, List.length_replicate]; omega
/-! shares -/
theorem pow_split (d : Nat) {A i : Nat} (h : i < A) : d ^ A = d ^ (A - 1 - i) * (d * d ^ i) := by
  rw [← Nat.pow_succ', ← Nat.pow_add]
  congr 1; omega
theorem allAges_sg (l : Life) (f : Nat → Nat) : allAges l f = sg l.ages fun i => f i * l.d ^ (l.ages - 1 - i) := rfl
theorem leaned_sum (l : Life) {j : Nat} (hj : j + 1 ≤ l.ages) : allAges l (fun i => if j < i then born l i else 0) = sg (l.ages - (j + 1)) fun k => born l (j + 1 + k) * l.d ^ (l.ages - 1 - (j + 1 + k)) := by
  rw [allAges_sg]
  have e : l.ages = (j + 1) + (l.ages - (j + 1)) := by omega
  have := sg_split (j + 1) (l.ages - (j + 1)) (fun i => (if j < i then born l i else 0) * l.d ^ (l.ages - 1 - i))
  rw [← e] at this
  rw [this, sg_congr (g := fun _ => 0) (n := j + 1) fun i hi => by rw [if_neg (by omega), Nat.zero_mul], sg_const0, Nat.zero_add]
  exact sg_congr fun k _ => by rw [if_pos (by omega)]
/-! the common divisor of several -/
theorem gcd_filter (p : Nat → Bool) (f : Nat → Nat) : ∀ (l : List Nat) (a : Nat), ((l.filter p).map f).foldl Nat.gcd a = (l.map fun i => if p i = true then f i else 0).foldl Nat.gcd a
  | [], a => rfl
  | x :: l, a => by
    rw [List.map_cons, List.foldl_cons]
    by_cases h : p x = true
    · rw [List.filter_cons_of_pos h, List.map_cons, List.foldl_cons, if_pos h]
      exact gcd_filter p f l _
    · rw [List.filter_cons_of_neg h, if_neg h, Nat.gcd_zero_right]
      exact gcd_filter p f l a
theorem born_zero {l : Life} {i : Nat} : born l i = 0 ↔ ¬ (0 < l.births.getD i 0 ∧ 0 < reached l i) := by
  unfold born
  rw [Nat.mul_eq_zero]; omega
theorem rhythm_ok (l : Life) : gcdAll (((List.range l.ages).filter fun i => decide (0 < l.births.getD i 0 ∧ 0 < reached l i)).map fun i => i + 1) = rhythm l := by
  unfold rhythm gcdAll
  rw [gcd_filter]
  congr 1
  refine List.map_congr_left fun i _ => ?_
  by_cases h : born l i = 0
  · rw [if_pos h, if_neg (by rw [decide_eq_true_iff]; exact born_zero.mp h)]
  · rw [if_neg h, if_pos (by rw [decide_eq_true_iff]; exact Classical.not_not.mp fun q => h (born_zero.mpr q))]
theorem gcd_pos_of : ∀ (l : List Nat) (a : Nat), (0 < a ∨ ∃ x ∈ l, 0 < x) → 0 < l.foldl Nat.gcd a
  | [], a, h => by
    rcases h with h | ⟨x, hx, _⟩
    · exact h
    · simp at hx
  | y :: l, a, h => by
    rw [List.foldl_cons]
    refine gcd_pos_of l _ ?_
    rcases h with h | ⟨x, hx, h⟩
    · exact .inl (Nat.gcd_pos_of_pos_left _ h)
    · rcases List.mem_cons.mp hx with rfl | hx
      · exact .inl (Nat.gcd_pos_of_pos_right _ h)
      · exact .inr ⟨x, hx, h⟩
theorem gcd_le_of : ∀ (l : List Nat) (a c : Nat), a ≤ c → (∀ x ∈ l, x ≤ c) → l.foldl Nat.gcd a ≤ c
  | [], a, c, h, _ => h
  | y :: l, a, c, h, hl => by
    rw [List.foldl_cons]
    refine gcd_le_of l _ c ?_ fun x hx => hl x (List.mem_cons_of_mem _ hx)
    rcases Nat.eq_zero_or_pos a with e | e
    · rw [e, Nat.gcd_zero_left]; exact hl y List.mem_cons_self
    · exact Nat.le_trans (Nat.gcd_le_left _ e) h
/-! steady -/
def steadyNum (l : Life) (i : Nat) : Nat := reached l i * l.d ^ (l.ages - 1 - i)
theorem steady_num {D B : Nat} {l : Life} (h : LOk D B l) {i : Nat} (hi : i < l.ages) : l.d ^ (l.ages - 1) * (lowest (reached l i, l.d ^ i)).1 / (lowest (reached l i, l.d ^ i)).2 = steadyNum l i := by
  have hp : 0 < (reached l i, l.d ^ i).2 := Nat.pow_pos h.d0
  obtain ⟨g, hg, e1, e2, _⟩ := lowest_spec hp
  have h2 := lowest_snd_pos hp
  generalize (lowest (reached l i, l.d ^ i)).1 = u at *
  generalize (lowest (reached l i, l.d ^ i)).2 = w at *
  have e1 : reached l i = g * u := e1
  have e2 : l.d ^ i = g * w := e2
  unfold steadyNum
  have e3 : l.d ^ (l.ages - 1) = l.d ^ (l.ages - 1 - i) * l.d ^ i := by rw [← Nat.pow_add]; congr 1; omega
  rw [e3, e2, e1]
  have : l.d ^ (l.ages - 1 - i) * (g * w) * u = g * u * l.d ^ (l.ages - 1 - i) * w := by simp only [Nat.mul_assoc, Nat.mul_comm, Nat.mul_left_comm]
  rw [this]
  exact Nat.mul_div_cancel _ h2
/-! spare -/
theorem find_rev (p : Nat → Bool) : ∀ n, ((List.range n).reverse.find? p = none ∧ (List.range n).filter p = []) ∨
    ∃ k, (List.range n).reverse.find? p = some k ∧ k ∈ (List.range n).filter p ∧ ∀ j ∈ (List.range n).filter p, j ≤ k
  | 0 => .inl ⟨rfl, rfl⟩
  | n + 1 => by
    rw [List.range_succ, List.reverse_append, List.filter_append]
    show ((n :: (List.range n).reverse).find? p = none ∧ _) ∨ ∃ k, (n :: (List.range n).reverse).find? p = some k ∧ _
    by_cases h : p n = true
    · refine .inr ⟨n, by rw [List.find?_cons, h], ?_, fun j hj => ?_⟩
      · rw [List.mem_append]
        exact .inr (List.mem_filter.mpr ⟨by simp, h⟩)
      · rcases List.mem_append.mp hj with q | q
        · have := List.mem_range.mp (List.mem_filter.mp q).1; omega
        · have := (List.mem_filter.mp q).1
          simp at this; omega
    · have hn : p n = false := by simpa using h
      have e : [n].filter p = [] := by simp [hn]
      rw [List.find?_cons, hn, e, List.append_nil]
      exact find_rev p n
theorem thin_ok {l : Life} (h : LOk 20 1000 l) (k : Nat) : LOk 400 20000 (thinned l k) := by
  have hd := h.dD
  have hd0 := h.d0
  refine ⟨Nat.mul_pos hd0 hd0, ?_, ?_, ?_, ?_, fun b hb => ?_, fun s hs => ?_⟩
  · exact Nat.mul_le_mul hd hd
  · show 1 ≤ (l.births.map _).length; rw [List.length_map]; exact h.a0
  · show (l.births.map _).length ≤ 8; rw [List.length_map]; exact h.a8
  · show (l.stay.map _).length + 1 = (l.births.map _).length; rw [List.length_map, List.length_map]; exact h.sl
  · obtain ⟨x, hx, e⟩ := List.mem_map.mp hb
    rw [← e]
    exact Nat.mul_le_mul (h.bB x hx) (by omega : l.d - k ≤ 20)
  · obtain ⟨x, hx, e⟩ := List.mem_map.mp hs
    rw [← e]
    exact Nat.mul_le_mul (h.ss x hx) (Nat.sub_le _ _)
/-! sizes of the representatives -/
theorem born_term_bd {l : Life} (h : LOk 20 1000 l) {i : Nat} (hi : i < l.ages) : born l i * l.d ^ (l.ages - 1 - i) ≤ 20000 * 400 ^ 8 * 400 ^ 8 := by
  have h8 := h.a8
  have ha : l.ages = l.births.length := rfl
  have hm := h.mono (D' := 400) (B' := 20000) (by decide) (by decide)
  exact Nat.mul_le_mul (born_bd hm (by decide) hi) (dpow_le hm (by decide) (by omega))
theorem mem_le_sum : ∀ {l : List Nat} {x : Nat}, x ∈ l → x ≤ l.sum
  | y :: l, x, h => by
    rw [List.sum_cons]
    rcases List.mem_cons.mp h with rfl | h
    · omega
    · have := mem_le_sum h; omega
theorem take_sum_le : ∀ (l : List Nat) (i : Nat), (l.take i).sum ≤ l.sum
  | [], i => by simp
  | x :: l, 0 => by simp
  | x :: l, i + 1 => by rw [List.take_succ_cons, List.sum_cons, List.sum_cons]; have := take_sum_le l i; omega
end M

set_option Elab.async false
set_option linter.all false
namespace M
open Vbecak
theorem num_t {s : State} {n lo hi : Int} {k : Nat → Out} (h : lo ≤ n ∧ n ≤ hi) : withNum s n lo hi k = k n.toNat := by unfold withNum; rw [if_pos h]
theorem num_f {s : State} {n lo hi : Int} {k : Nat → Out} (h : ¬ (lo ≤ n ∧ n ≤ hi)) : withNum s n lo hi k = (s, [-3]) := by unfold withNum; rw [if_neg h]; rfl
/-- what the program asks of a herd -/
def herdB (l : Life) (x : List Int) : Bool := decide (x.length = l.ages) && x.all fun a => decide (0 ≤ a ∧ a ≤ 10000)
theorem herd_t {s : State} {l : Life} {x : List Int} {k : List Nat → Out} (h : herdB l x = true) : numbers s l x k = k (x.map Int.toNat) := by
  unfold herdB at h
  rw [Bool.and_eq_true, decide_eq_true_iff] at h
  unfold numbers withList
  rw [if_pos ⟨⟨by omega, by omega⟩, h.2⟩]
theorem herd_f {s : State} {l : Life} {x : List Int} {k : List Nat → Out} (h : herdB l x = false) : numbers s l x k = (s, [-4]) := by
  unfold herdB at h
  unfold numbers withList
  rw [if_neg]
  · rfl
  · rintro ⟨h1, h2⟩
    have h3 : (decide (x.length = l.ages) && x.all fun a => decide (0 ≤ a ∧ a ≤ 10000)) = true := by
      rw [Bool.and_eq_true, decide_eq_true_iff]
      exact ⟨by omega, h2⟩
    rw [h] at h3
    cases h3
theorem herd_len {l : Life} {x : List Int} (h : herdB l x = true) : (x.map Int.toNat).length = l.ages := by
  unfold herdB at h
  rw [Bool.and_eq_true, decide_eq_true_iff] at h
  rw [List.length_map]; exact h.1
theorem herd_mem {l : Life} {x : List Int} (h : herdB l x = true) : ∀ a ∈ x, 0 ≤ a ∧ a ≤ 10000 := by
  unfold herdB at h
  rw [Bool.and_eq_true] at h
  intro a ha
  exact of_decide_eq_true (List.all_eq_true.mp h.2 a ha)
theorem herd_le {l : Life} {x : List Int} (h : herdB l x = true) : ∀ a ∈ x.map Int.toNat, a ≤ 10000 := by
  intro a ha
  obtain ⟨b, hb, rfl⟩ := List.mem_map.mp ha
  have := herd_mem h b hb
  omega
theorem nn_map : ∀ {x : List Int}, (∀ a ∈ x, 0 ≤ a) → (x.map Int.toNat).map (fun (n : Nat) => (n : Int)) = x
  | [], _ => rfl
  | a :: x, h => by
    rw [List.map_cons, List.map_cons, nn_map fun b hb => h b (List.mem_cons_of_mem _ hb)]
    congr 1
    exact Int.toNat_of_nonneg (h a List.mem_cons_self)
/-- what life answers -/
def lifeCode (d : Int) (b t : List Int) : Int :=
  if 1 ≤ d ∧ d ≤ 20 then
    if (1 ≤ b.length ∧ b.length ≤ 8) ∧ (b.all fun x => decide (0 ≤ x ∧ x ≤ 1000)) = true then
      if t.length + 1 = b.length ∧ (t.all fun x => decide (0 ≤ x ∧ x ≤ d)) = true then 0 else -4
    else -4
  else -3
def lifeOf (d : Int) (b t : List Int) : Life := ⟨d.toNat, b.map Int.toNat, t.map Int.toNat⟩
theorem act_life (s : State) (d : Int) (b t : List Int) : act s (.life d b t) = if lifeCode d b t = 0 then (⟨some (lifeOf d b t)⟩, [0]) else (s, [lifeCode d b t]) := by
  show withNum s d 1 20 (fun d => withList s 1 8 1000 b fun b => withList s (b.length - 1) (b.length - 1) (d : Int) t fun t => ({ life := some ⟨d, b, t⟩ }, [0])) = _
  unfold lifeCode
  by_cases h1 : 1 ≤ d ∧ d ≤ 20
  · rw [num_t h1, if_pos h1]
    unfold withList
    by_cases h2 : (1 ≤ b.length ∧ b.length ≤ 8) ∧ (b.all fun x => decide (0 ≤ x ∧ x ≤ 1000)) = true
    · rw [if_pos h2, if_pos h2]
      have e : ((d.toNat : Nat) : Int) = d := Int.toNat_of_nonneg (by omega)
      dsimp only
      rw [e, List.length_map]
      by_cases h3 : t.length + 1 = b.length ∧ (t.all fun x => decide (0 ≤ x ∧ x ≤ d)) = true
      · rw [if_pos h3, if_pos ⟨⟨by omega, by omega⟩, h3.2⟩, if_pos rfl]
        rfl
      · rw [if_neg h3, if_neg (by rintro ⟨a, c⟩; exact h3 ⟨by omega, c⟩), if_neg (by decide)]
        rfl
    · rw [if_neg h2, if_neg h2, if_neg (by decide)]
      rfl
  · rw [num_f h1, if_neg h1, if_neg (by decide)]
theorem lifeOf_ok {d : Int} {b t : List Int} (h : lifeCode d b t = 0) : LOk 20 1000 (lifeOf d b t) ∧ (1 ≤ d ∧ d ≤ 20) ∧ (∀ a ∈ b, 0 ≤ a) ∧ (∀ a ∈ t, 0 ≤ a) := by
  unfold lifeCode at h
  split at h
  · split at h
    · split at h
      · rename_i h1 h2 h3
        have hb : ∀ a ∈ b, 0 ≤ a ∧ a ≤ 1000 := fun a ha => of_decide_eq_true (List.all_eq_true.mp h2.2 a ha)
        have ht : ∀ a ∈ t, 0 ≤ a ∧ a ≤ d := fun a ha => of_decide_eq_true (List.all_eq_true.mp h3.2 a ha)
        refine ⟨⟨?_, ?_, ?_, ?_, ?_, ?_, ?_⟩, h1, fun a ha => (hb a ha).1, fun a ha => (ht a ha).1⟩
        · show 0 < d.toNat; omega
        · show d.toNat ≤ 20; omega
        · show 1 ≤ (b.map Int.toNat).length; rw [List.length_map]; exact h2.1.1
        · show (b.map Int.toNat).length ≤ 8; rw [List.length_map]; exact h2.1.2
        · show (t.map Int.toNat).length + 1 = (b.map Int.toNat).length; rw [List.length_map, List.length_map]; exact h3.1
        · intro a ha
          obtain ⟨c, hc, rfl⟩ := List.mem_map.mp ha
          have := hb c hc; omega
        · intro a ha
          obtain ⟨c, hc, rfl⟩ := List.mem_map.mp ha
          have := ht c hc
          show c.toNat ≤ d.toNat; omega
      · cases h
    · cases h
  · cases h
/-! a refusal or an answer changes no life but life's -/
theorem num_fst {s : State} {n lo hi : Int} {k : Nat → Out} (h : ∀ m, (k m).1 = s) : (withNum s n lo hi k).1 = s := by
  unfold withNum; split
  · exact h _
  · rfl
theorem list_fst {s : State} {lo hi : Nat} {most : Int} {l : List Int} {k : List Nat → Out} (h : ∀ m, (k m).1 = s) : (withList s lo hi most l k).1 = s := by
  unfold withList; split
  · exact h _
  · rfl
theorem net_fst {s : State} {l : Life} {k : Out} (h : k.1 = s) : (withNet s l k).1 = s := by
  unfold withNet; split
  · rfl
  · exact h
theorem life_fst {s : State} {k : Life → Out} (h : ∀ l, (k l).1 = s) : (withLife s k).1 = s := by
  unfold withLife; split
  · rfl
  · exact h _
theorem life_none {s : State} {k : Life → Out} (h : s.life = none) : withLife s k = (s, [-1]) := by
  unfold withLife; rw [h]; rfl
def notLife : Call → Prop
  | .life _ _ _ => False
  | _ => True
theorem act_fst {s : State} {c : Call} (h : notLife c) : (act s c).1 = s := by
  cases c with
  | life d b t => cases h
  | told => exact life_fst fun l => rfl
  | after t x => exact life_fst fun l => num_fst fun m => list_fst fun y => by split <;> rfl
  | far t q x => exact life_fst fun l => num_fst fun m => num_fst fun m => list_fst fun y => rfl
  | net => exact life_fst fun l => rfl
  | fate x => exact life_fst fun l => list_fst fun y => rfl
  | value i => exact life_fst fun l => num_fst fun m => rfl
  | worth x => exact life_fst fun l => list_fst fun y => rfl
  | years => exact life_fst fun l => rfl
  | share i => exact life_fst fun l => num_fst fun m => net_fst rfl
  | leaned j => exact life_fst fun l => num_fst fun m => net_fst rfl
  | age => exact life_fst fun l => net_fst rfl
  | spare =>
    refine life_fst fun l => ?_
    show (match Vbecak.spare l with | none => bad s (-6) | some k => (s, [(k : Int)])).1 = s
    split <;> rfl
  | steady =>
    refine life_fst fun l => ?_
    show (match Vbecak.steady l with | none => bad s (-6) | some x => (s, 0 :: Vbecak.«ints» x)).1 = s
    split <;> rfl
  | rhythm => exact life_fst fun l => rfl
  | births t => exact life_fst fun l => num_fst fun m => by show (if _ then _ else _ : Out).1 = s; split <;> rfl
  | reached i => exact life_fst fun l => num_fst fun m => rfl
theorem act_none {c : Call} (h : notLife c) : (act ⟨none⟩ c).2 = [-1] := by
  cases c with
  | life d b t => cases h
  | _ => rfl
/-! how long an answer is -/
theorem num_len {s : State} {n lo hi : Int} {k : Nat → Out} (h : ∀ m, (k m).2.length ≤ 20) : (withNum s n lo hi k).2.length ≤ 20 := by
  unfold withNum; split
  · exact h _
  · show 1 ≤ 20; omega
theorem herd_len20 {s : State} {l : Life} {x : List Int} {k : List Nat → Out} (h : ∀ m, m.length = l.ages → (k m).2.length ≤ 20) : (numbers s l x k).2.length ≤ 20 := by
  by_cases q : herdB l x = true
  · rw [herd_t q]; exact h _ (herd_len q)
  · rw [herd_f (by simpa using q)]; show 1 ≤ 20; omega
theorem net_len {s : State} {l : Life} {k : Out} (h : k.2.length ≤ 20) : (withNet s l k).2.length ≤ 20 := by
  unfold withNet; split
  · show 1 ≤ 20; omega
  · exact h
theorem ints_len (x : List Nat) : (Vbecak.«ints» x).length = x.length := List.length_map _
theorem far_len (l : Life) (t q : Nat) (x : List Nat) (ht : t < 2 ^ 64) : (farMod l t q x).length = l.ages := by
  unfold farMod
  rw [List.length_map]
  exact (power_ok (q := q) (fun i => x.getD i 0) 64 t _ _ ht (sq_mod (matrix_sq l)) (sq_mod (unit_sq l.ages))).1.len
theorem act_len {l : Life} (h : LOk 20 1000 l) (c : Call) : (act ⟨some l⟩ c).2.length ≤ 20 := by
  have h8 := h.a8
  have hs := h.sl
  have ha : l.ages = l.births.length := rfl
  cases c with
  | life d b t =>
    rw [act_life]
    split
    · show 1 ≤ 20; omega
    · show 1 ≤ 20; omega
  | told =>
    show ([0, (l.d : Int), (l.ages : Int)] ++ Vbecak.«ints» (l.births ++ l.stay)).length ≤ 20
    rw [List.length_append, ints_len, List.length_append]
    show 3 + _ ≤ 20
    omega
  | after t x =>
    show (withNum (⟨some l⟩ : State) t 0 40 fun t => numbers ⟨some l⟩ l x fun x => if (Vbecak.after l t x).any (fun a => decide (MOST < a)) = true ∨ MOST < l.d ^ t then bad ⟨some l⟩ (-5) else (⟨some l⟩, [((l.d ^ t : Nat) : Int)] ++ Vbecak.«ints» (Vbecak.after l t x))).2.length ≤ 20
    refine num_len ?_
    intro m
    refine herd_len20 ?_
    intro y hy
    split
    · show 1 ≤ 20; omega
    · show ([((l.d ^ m : Nat) : Int)] ++ Vbecak.«ints» (Vbecak.after l m y)).length ≤ 20
      rw [List.length_append, ints_len, after_len h m hy]
      show 1 + _ ≤ 20
      omega
  | far t q x =>
    show (withNum (⟨some l⟩ : State) t 0 (MOST : Int) fun t => withNum ⟨some l⟩ q 1 1000000000 fun q => numbers ⟨some l⟩ l x fun x => (⟨some l⟩, 0 :: Vbecak.«ints» (farMod l t q x))).2.length ≤ 20
    by_cases ht : 0 ≤ t ∧ t ≤ (MOST : Int)
    · rw [num_t ht]
      refine num_len ?_
      intro q
      refine herd_len20 ?_
      intro y hy
      dsimp only
      have e : (MOST : Int) = 1000000000000000000 := rfl
      rw [List.length_cons, ints_len, far_len _ _ _ _ (by omega)]
      omega
    · rw [num_f ht]; show 1 ≤ 20; omega
  | net => show 2 ≤ 20; omega
  | fate x =>
    show (numbers (⟨some l⟩ : State) l x fun x => (⟨some l⟩, [(Vbecak.fate l x : Int)])).2.length ≤ 20
    refine herd_len20 ?_
    intro y hy
    show 1 ≤ 20; omega
  | value i =>
    show (withNum (⟨some l⟩ : State) i 0 ((l.ages : Int) - 1) fun i => tell ⟨some l⟩ (Vbecak.value l i)).2.length ≤ 20
    refine num_len ?_
    intro m
    show 2 ≤ 20; omega
  | worth x =>
    show (numbers (⟨some l⟩ : State) l x fun x => tell ⟨some l⟩ (Vbecak.worth l x)).2.length ≤ 20
    refine herd_len20 ?_
    intro y hy
    show 2 ≤ 20; omega
  | years => show 2 ≤ 20; omega
  | share i =>
    show (withNum (⟨some l⟩ : State) i 0 ((l.ages : Int) - 1) fun i => withNet ⟨some l⟩ l (tell ⟨some l⟩ (Vbecak.share l i))).2.length ≤ 20
    refine num_len ?_
    intro m
    exact net_len (by show 2 ≤ 20; omega)
  | leaned j =>
    show (withNum (⟨some l⟩ : State) j 0 ((l.ages : Int) - 2) fun j => withNet ⟨some l⟩ l (tell ⟨some l⟩ (Vbecak.leaned l j))).2.length ≤ 20
    refine num_len ?_
    intro m
    exact net_len (by show 2 ≤ 20; omega)
  | age => exact net_len (by show 2 ≤ 20; omega)
  | spare =>
    show (match Vbecak.spare l with | none => bad _ (-6) | some k => ((⟨some l⟩ : State), [(k : Int)])).2.length ≤ 20
    split
    · show 1 ≤ 20; omega
    · show 1 ≤ 20; omega
  | steady =>
    show (match Vbecak.steady l with | none => bad _ (-6) | some x => ((⟨some l⟩ : State), 0 :: Vbecak.«ints» x)).2.length ≤ 20
    split
    · show 1 ≤ 20; omega
    · rename_i x hx
      unfold Vbecak.steady at hx
      split at hx
      · cases hx
        show (0 :: Vbecak.«ints» _).length ≤ 20
        rw [List.length_cons, ints_len, List.length_map, List.length_map, List.length_range]
        omega
      · cases hx
  | rhythm => show 1 ≤ 20; omega
  | births t =>
    show (withNum (⟨some l⟩ : State) t 0 40 fun t => if MOST < (renewals l t).headD 0 ∨ MOST < l.d ^ t then bad ⟨some l⟩ (-5) else (⟨some l⟩, [((renewals l t).headD 0 : Int), ((l.d ^ t : Nat) : Int)])).2.length ≤ 20
    refine num_len ?_
    intro m
    split
    · show 1 ≤ 20; omega
    · show 2 ≤ 20; omega
  | reached i =>
    show (withNum (⟨some l⟩ : State) i 0 ((l.ages : Int) - 1) fun i => tell ⟨some l⟩ (Vbecak.reached l i, l.d ^ i)).2.length ≤ 20
    refine num_len ?_
    intro m
    show 2 ≤ 20; omega
end M

set_option Elab.async false
set_option linter.all false
set_option maxRecDepth 100000
set_option maxHeartbeats 2000000
namespace G
open PySem PySem.Spec PyProof.Rows L2
def top (i : Nat) : Stmt := PySem.Challenge.pw_ageclasses_s01_answers.main.body.getD i (.Pass ⟨0, 0, 0, 0⟩)
section
variable {X : Cx}
/-! ### rules beyond the layer's -/
def CMulB (i j : Int) : Prop := i.natAbs < 2 ^ 4000 ∧ j.natAbs < 2 ^ 4000
theorem bits_le {k : Int} (h : k.natAbs < 2 ^ 4000) : Builtin.Int.intBits k ≤ 4000 := by
  unfold Builtin.Int.intBits
  split
  · exact Nat.zero_le _
  · have : k.natAbs.log2 < 4000 := by
      rcases Nat.eq_zero_or_pos k.natAbs with h0 | hp
      · rw [h0]; decide
      · exact (Nat.log2_lt (Nat.ne_of_gt hp)).mpr h
    omega
theorem CMulB.ok {i j : Int} (h : CMulB i j) : IntMulOk i j := by
  have h1 := bits_le h.1
  have h2 := bits_le h.2
  have e : bitsLine = 134217728 := by decide
  unfold IntMulOk
  have : Builtin.Int.intTooBig (Builtin.Int.intBits i + Builtin.Int.intBits j) = false := by
    unfold Builtin.Int.intTooBig
    rw [e]
    exact decide_eq_false (by omega)
  rw [this]
  simp
theorem op_mulB : OpR X (binaryOp .Mult) (rI CMulB fun i j => .int (i * j)) := opI fun _ _ _ _ _ _ _ hc q => mul_int q hc.ok
def CDivB (i j : Int) : Prop := 0 < j ∧ j.natAbs < 2 ^ 9000
theorem op_fdivB : OpR X (binaryOp .FloorDiv) (rI CDivB fun i j => .int (i / j)) := opI fun i j _ _ _ _ _ hc q => by
  have h1 : (0 : Int) < j := hc.1
  exact floordiv_int (by omega) (by rw [Int.fdiv_eq_ediv_of_nonneg i (by omega)]; exact q) (.inl (PyProof.noPylong_of_log2 ((Nat.log2_lt (by omega)).mpr hc.2)))
theorem pg_pair {K : PySem.W.Frag} (hK : X.K = K) {x y : Str} {p1 p2 pos : Pos} {k i j : Nat} (hc : X.calm = true) (hN : X.N.Nodup) (hi : X.N[i]? = some x) (hj : X.N[j]? = some y) (hx : X.env.scope.names.lookup x = some .local) (hy : X.env.scope.names.lookup y = some .local) :
    PG X (.Tuple [.Name x p1, .Name y p2] k pos) (gTup K 2 (gCons (gName i) (gCons (gName j) gNil))) := by
  subst hK
  exact pg_tup hc (pgs_cons (pg_name hN hi (.inl hx) (.inr hx)) (pgs_cons (pg_name hN hj (.inl hy) (.inr hy)) pgs_nil))
theorem ix_listK {K : PySem.W.Frag} (hK : X.K = K) : IxR X (rIxL K) := by
  subst hK
  exact ix_list
/-- a number of the file's top -/
theorem pe_cst {x : Str} {i : Int} {pos : Pos} (h : ∃ t, X.mg x = some (.int i t)) (hg : Gl X x) (hd : (x == ("__debug__" : Str)) = false := by decide) : PE X (.Name x pos) (tC (.int i)) := by
  obtain ⟨t, e⟩ := h
  exact pe_glob hg e ⟨t, rfl⟩ hd
/-- a def of the text, all that a call of it asks -/
structure FOk (P : Program) (w : World) (K : PySem.W.Frag) (mg : Str → Option Value) (base : Heap) (x : Str) (k : Nat) (ps : List Str) (sp : Sp) : Prop where
  ex : ∃ f fd, mg x = some (.ref f) ∧ PySem.W.keepIn K (.ref f) = true ∧ Binds K fd ps [] ∧ FnOk P w K mg base CX0 k f fd ps sp
theorem pe_fn {x : Str} {k : Nat} {ps : List Str} {sp : Sp} {e : Expr} {es : List Expr} {t : TA} {p pos : Pos} (gk : FOk X.prog X.w X.K X.mg X.base x k ps sp) (hr : Room k X.A) (hg : Gl X x) (ha : PA X (e :: es) t)
    (hdb : (x == ("__debug__" : Str)) = false := by decide) (he : starEach (e :: es) X.env = (false, eval e X.env) :: starEach es X.env := by rfl) (hpl : (backTo pos (starEach es X.env)).any (·.1) = false := by rfl) :
    PE X (.Call (.Name x p) (e :: es) [] pos) (tCall sp [] E0 t) := by
  obtain ⟨f, fd, hm, hk, hb, F⟩ := gk.ex
  exact pe_call F hr hg hm hk hb .nil pass0 ha hdb he hpl
/-- a class of the text -/
structure COk (P : Program) (w : World) (K : PySem.W.Frag) (mg : Str → Option Value) (base : Heap) (x : Str) (C : Addr) (k : Nat) (ps : List Str) (sp : Sp) : Prop where
  ex : ∃ f fd, mg x = some (.ref C) ∧ Mk K C f ∧ Binds K fd ps [] ∧ FnOk P w K mg base CX0 k f fd ps sp
theorem pe_mk {x : Str} {C : Addr} {k : Nat} {ps : List Str} {sp : Sp} {e : Expr} {es : List Expr} {t : TA} {p pos : Pos} (gk : COk X.prog X.w X.K X.mg X.base x C k ps sp) (hr : Room (k + 1) X.A) (hg : Gl X x) (ha : PA X (e :: es) t)
    (hdb : (x == ("__debug__" : Str)) = false := by decide) (he : starEach (e :: es) X.env = (false, eval e X.env) :: starEach es X.env := by rfl) (hpl : (backTo pos (starEach es X.env)).any (·.1) = false := by rfl) :
    PE X (.Call (.Name x p) (e :: es) [] pos) (tMake C sp [] E0 t) := by
  obtain ⟨f, fd, hm, hk, hb, F⟩ := gk.ex
  exact pe_make hk F hr hg hm hb .nil pass0 ha hdb he hpl
/-- a method of the text -/
structure MOk (P : Program) (w : World) (K : PySem.W.Frag) (mg : Str → Option Value) (base : Heap) (C : Addr) (m : Str) (k : Nat) (ps : List Str) (sp : Sp) : Prop where
  ex : ∃ f fd, Meth K C m f ∧ Binds K fd ps [] ∧ FnOk P w K mg base CX0 k f fd ps sp
theorem pe_mt {o : Expr} {ta : TE} {C : Addr} {m : Str} {k : Nat} {ps : List Str} {sp : Sp} {e : Expr} {es : List Expr} {t : TA} {apos pos : Pos} {pl : Sem Bool} (c : Cls X.K C) (gk : MOk X.prog X.w X.K X.mg X.base C m k ps sp) (hr : Room k X.A) (ho : PE X o ta) (ha : PA X (e :: es) t)
    (hst : starEach (e :: es) X.env = (false, eval e X.env) :: starEach es X.env := by rfl) (hpl : (backTo pos (starEach es X.env)).any (·.1) = false := by rfl)
    (ht : eval (.Call (.Attribute o m apos) (e :: es) [] pos) X.env = (do
      let ov ← eval o X.env
      standAt apos.atName
      let (f, first) ← holding [ov] (getMethod ov m pl)
      callWith pos f first (backTo pos (starEach (e :: es) X.env)) (backToKw pos (keywordEach [] X.env))) := by rfl) :
    PE X (.Call (.Attribute o m apos) (e :: es) [] pos) (tMeth C m sp [] E0 ta t) := by
  obtain ⟨f, fd, hm, hb, F⟩ := gk.ex
  exact pe_meth ho c hm F hr hb .nil pass0 ha hst hpl ht
theorem pe_mt0 {o : Expr} {ta : TE} {C : Addr} {m : Str} {k : Nat} {ps : List Str} {sp : Sp} {apos pos : Pos} {pl : Sem Bool} (c : Cls X.K C) (gk : MOk X.prog X.w X.K X.mg X.base C m k ps sp) (hr : Room k X.A) (ho : PE X o ta)
    (ht : eval (.Call (.Attribute o m apos) [] [] pos) X.env = (do
      let ov ← eval o X.env
      standAt apos.atName
      let (f, first) ← holding [ov] (getMethod ov m pl)
      callWith pos f first (backTo pos (starEach [] X.env)) (backToKw pos (keywordEach [] X.env))) := by rfl) :
    PE X (.Call (.Attribute o m apos) [] [] pos) (tMeth C m sp [] E0 ta tNil) := by
  obtain ⟨f, fd, hm, hb, F⟩ := gk.ex
  exact pe_meth0 ho c hm F hr hb .nil pass0 ht
/-- a dict of the file's top: whole keys, objects -/
inductive EsAre : List DictEntry → List (Int × Addr) → Prop
  | nil : EsAre [] []
  | cons {e : DictEntry} {k : Int} {t : Tok} {a : Addr} {es : List DictEntry} {l : List (Int × Addr)} : e.key = .int k t → e.val = .ref a → e.hash = hashInt k → EsAre es l → EsAre (e :: es) ((k, a) :: l)
def TabIs (o : Obj) (l : List (Int × Addr)) : Prop := ∃ es ep, o.ExactDict ∧ o.data = .dict es ep ∧ EsAre es.toList l
structure TabOk (K : PySem.W.Frag) (mg : Str → Option Value) (x : Str) (l : List (Int × Addr)) : Prop where
  ex : ∃ d o, mg x = some (.ref d) ∧ K.lookup d = some o ∧ TabIs o l
theorem EsAre.find {es : List DictEntry} {l : List (Int × Addr)} (h : EsAre es l) (k : Int) : (es.find? fun e => Value.isInt k e.key).map (·.val) = (l.lookup k).map Value.ref := by
  induction h with
  | nil => rfl
  | @cons e k' t a es l h1 h2 h3 h4 ih =>
    rw [List.find?_cons, h1, List.lookup_cons]
    by_cases q : k = k'
    · subst q
      have e1 : Value.isInt k (.int k t) = true := by simp [Value.isInt]
      rw [e1, beq_self_eq_true]
      show some e.val = some (Value.ref a)
      rw [h2]
    · have e1 : Value.isInt k (.int k' t) = false := by
        cases e1 : Value.isInt k (.int k' t) with
        | false => rfl
        | true =>
          obtain ⟨t', e2⟩ := Value.isInt_shape e1
          cases e2
          exact absurd rfl q
      have : (k == k') = false := beq_eq_false_iff_ne.mpr q
      rw [e1, this]
      exact ih
theorem EsAre.keys {es : List DictEntry} {l : List (Int × Addr)} (h : EsAre es l) {P : Program} {w : World} : ∀ e ∈ es, ∃ k, (PySem.intKind P w).is k e.key = true ∧ e.hash = (PySem.intKind P w).hash k := by
  induction h with
  | nil => intro e he; cases he
  | @cons e k' t a es l h1 h2 h3 h4 ih =>
    intro e' he
    rcases List.mem_cons.mp he with rfl | he
    · exact ⟨k', by rw [h1]; exact intKind_is P w k' t, h3⟩
    · exact ih e' he
def tTab (l : List (Int × Addr)) (ti : TE) : TE := fun σ H Q => ti σ H fun y H1 => ∃ k a, y = .int k ∧ l.lookup k = some a ∧ Q (.ref a) H1
theorem pe_tab {x : Str} {l : List (Int × Addr)} {i : Expr} {ti : TE} {p pos : Pos} (gk : TabOk X.K X.mg x l) (hg : Gl X x) (hi : PE X i ti) (hs : NoSl i) (hdb : (x == ("__debug__" : Str)) = false := by decide) :
    PE X (.Subscript (.Name x p) i pos) (tTab l ti) := by
  obtain ⟨d, o, hm, hl, es, ep, hx, hd, he⟩ := gk.ex
  intro pins s σ H Q I h
  refine subD_of PySem.F.slot_dict_getitem.lookup hs (ld_glob I hg hm (thn (hi pins s σ H _ I h) fun iv s2 ⟨y, H2, I2, ry, k, a, ey, hk, q2⟩ => ?_) hdb)
  subst ey
  obtain ⟨t, rfl⟩ : ∃ t, iv = Value.int k t := ry
  have mp : s2.heap.MapOf (PySem.intKind X.prog X.w) d (fun k => (l.lookup k).map Value.ref) := by
    refine ⟨o, es, ep, I2.kIn d o hl, hx, hd, fun e h' => he.keys e (by simpa using h'), fun k => ?_⟩
    show _ = (l.lookup k).map Value.ref
    rw [← he.find k]
    unfold findBy
    rw [← Array.find?_toList]
    rfl
  refine ⟨mp.typeIs, wpAny_getItem_of (intKind_is _ _ _ _) mp (v := Value.ref a) (by rw [hk]; rfl) ?_⟩
  exact ⟨.ref a, H2, I2.tok _, rfl, q2⟩
/-- a call of a value: one of several defs -/
structure VOk (P : Program) (w : World) (K : PySem.W.Frag) (mg : Str → Option Value) (base : Heap) (k : Nat) (ps : List Str) (l : List (Int × Addr)) (sp : Int → Sp) : Prop where
  at_ : ∀ n f, (n, f) ∈ l → ∃ fd, PySem.W.keepIn K (.ref f) = true ∧ Binds K fd ps [] ∧ FnOk P w K mg base CX0 k f fd ps (sp n)
def tCallV (l : List (Int × Addr)) (sp : Int → Sp) (i : Nat) (t : TA) : TE := fun σ H Q => ∃ n f, σ[i]? = some (some (.ref f)) ∧ (n, f) ∈ l ∧ t σ H fun vs H1 => sp n vs H1 Q E0
theorem pe_callV {x : Str} {k : Nat} {ps : List Str} {l : List (Int × Addr)} {sp : Int → Sp} {e : Expr} {es : List Expr} {t : TA} {p pos : Pos} (i : Nat) (gk : VOk X.prog X.w X.K X.mg X.base k ps l sp) (hr : Room k X.A) (hN : X.N[i]? = some x) (hv : Vis X.env.scope x) (ha : PA X (e :: es) t)
    (hdb : (x == ("__debug__" : Str)) = false := by decide) (hcd : (x == ("__classdict__" : Str)) = false := by decide) (he : starEach (e :: es) X.env = (false, eval e X.env) :: starEach es X.env := by rfl) (hpl : (backTo pos (starEach es X.env)).any (·.1) = false := by rfl) :
    PE X (.Call (.Name x p) (e :: es) [] pos) (tCallV l sp i t) := by
  intro pins s σ H Q I h
  obtain ⟨n, f, hf, hm, h⟩ := h
  obtain ⟨fd, hk, hb, F⟩ := gk.at_ n f hm
  refine wpAny_Call_Name_kw (thn (pe_var (X := X) (i := i) hN hv hdb hcd pins s σ H (fun v H' => v = .ref f ∧ H' = H) I ⟨_, hf, rfl, rfl⟩) fun u s1 ⟨v, H1, I1, r1, ev, eH⟩ => ?_)
  subst ev eH
  obtain rfl : u = Value.ref f := r1
  refine PySem.W.callWith_K (h₀ := X.base) I.ok.mod.kin hk (thn (ha pos pins s1 σ _ _ I1 h) fun us s2 ⟨vs, H2, I2, r, q⟩ => ⟨I2.kIn, ?_⟩) he hpl
  exact run_fn F hr hb .nil pass0 I2 r (by rw [List.append_nil]; exact q)
end
theorem ifT {b : Bool} {A B : Prop} (h : b = true) (x : A) : if b = true then A else B := by rw [if_pos h]; exact x
theorem ifF {b : Bool} {A B : Prop} (h : b = false) (x : B) : if b = true then A else B := by rw [if_neg (by rw [h]; exact Bool.false_ne_true)]; exact x
/-! ### heaps -/
/-- what is new in H' -/
def nw (H H' : Hp) : Hp := fun b => match H b with
  | none => H' b
  | some _ => none
theorem nw_new {H H' : Hp} {b : Addr} (h : H b = none) : nw H H' b = H' b := by unfold nw; rw [h]
theorem nw_some {H H' : Hp} {b : Addr} {o : HO} (h : nw H H' b = some o) : H b = none ∧ H' b = some o := by
  unfold nw at h
  split at h
  · exact ⟨by assumption, h⟩
  · cases h
theorem nw_sub (H H' : Hp) : Same (nw H H') H' := fun b o h => (nw_some h).2
theorem nw_left {H H1 H2 : Hp} (s : Same H H1) : Same (nw H1 H2) (nw H H2) := fun b o h => by
  obtain ⟨h1, h2⟩ := nw_some h
  rw [nw_new (s.free h1)]; exact h2
theorem nw_right {H H1 H2 : Hp} (s : Same H1 H2) : Same (nw H H1) (nw H H2) := fun b o h => by
  obtain ⟨h1, h2⟩ := nw_some h
  rw [nw_new h1]; exact s _ _ h2
theorem Same.refl (H : Hp) : Same H H := fun _ _ h => h
theorem same_upd {H : Hp} {p : Addr} {o : HO} (h : H p = none) : Same H (upd H p o) := fun b o' e => by rw [upd_ne (ne_of_none e h)]; exact e
def Mono (R : Hp → V → Prop) : Prop := ∀ H H' v, Same H H' → R H v → R H' v
/-- a value comes back, new objects at most are laid, what it stands for is new -/
def Ret (H : Hp) (Q : VK) (R : Hp → V → Prop) : Prop := ∀ v H', Same H H' → R (nw H H') v → Q v H'
theorem Ret.at {H H1 : Hp} {Q : VK} {R : Hp → V → Prop} (hR : Mono R) (s : Same H H1) (r : Ret H Q R) : Ret H1 Q R := fun v H' s' h => r v H' (s.trans s') (hR _ _ _ (nw_left s) h)
/-! ### data -/
def FrA (p : Vbecak.Frac) (H : Hp) (v : V) : Prop := ∃ a, v = .ref a ∧ H a = some (.tup [.int ((Vbecak.lowest p).1 : Int), .int ((Vbecak.lowest p).2 : Int)])
theorem FrA.mono (p : Vbecak.Frac) : Mono (FrA p) := fun H H' v s ⟨a, e, h⟩ => ⟨a, e, s _ _ h⟩
theorem FrA.congr {p q : Vbecak.Frac} {H : Hp} {v : V} (hp : 0 < p.2) (hq : 0 < q.2) (h : p.1 * q.2 = q.1 * p.2) (x : FrA p H v) : FrA q H v := by
  unfold FrA at x ⊢
  rw [← M.lowest_congr hp hq h]; exact x
def nums (l : List Nat) : List V := l.map fun (n : Nat) => V.int (n : Int)
theorem nums_len (l : List Nat) : (nums l).length = l.length := List.length_map _
theorem nums_get {l : List Nat} {i : Nat} (h : i < l.length) : (nums l)[i]? = some (.int (l.getD i 0 : Nat)) := by
  unfold nums
  rw [List.getElem?_map, List.getElem?_eq_getElem h, M.getD_of h]; rfl
theorem nums_map (l : List Nat) : nums l = (l.map fun (n : Nat) => (n : Int)).map V.int := by unfold nums; rw [List.map_map]; rfl
def LsA (l : List Nat) (H : Hp) (v : V) : Prop := ∃ a, v = .ref a ∧ H a = some (.lst (nums l))
theorem LsA.mono (l : List Nat) : Mono (LsA l) := fun H H' v s ⟨a, e, h⟩ => ⟨a, e, s _ _ h⟩
/-- a list, each item told by its place -/
def LR (n : Nat) (R : Nat → Hp → V → Prop) (H : Hp) (v : V) : Prop := ∃ a us, v = .ref a ∧ H a = some (.lst us) ∧ us.length = n ∧ ∀ i u, us[i]? = some u → R i H u
theorem LR.mono {n : Nat} {R : Nat → Hp → V → Prop} (hR : ∀ i, Mono (R i)) : Mono (LR n R) := fun H H' v s ⟨a, us, e, h, l, q⟩ => ⟨a, us, e, s _ _ h, l, fun i u hu => hR i _ _ _ s (q i u hu)⟩
theorem LR.imp {n : Nat} {R R' : Nat → Hp → V → Prop} {H : Hp} {v : V} (h : ∀ i u, i < n → R i H u → R' i H u) (x : LR n R H v) : LR n R' H v := by
  obtain ⟨a, us, e, ha, hl, q⟩ := x
  refine ⟨a, us, e, ha, hl, fun i u hu => h i u ?_ (q i u hu)⟩
  rw [← hl]; exact (List.getElem?_eq_some_iff.mp hu).1
theorem LR.nums {n : Nat} {f : Nat → Nat} {H : Hp} {v : V} (x : LR n (fun i _ u => u = .int (f i : Nat)) H v) : LsA ((List.range n).map f) H v := by
  obtain ⟨a, us, e, ha, hl, q⟩ := x
  refine ⟨a, e, ?_⟩
  rw [ha]
  congr 2
  refine List.ext_getElem ?_ fun i h1 h2 => ?_
  · rw [nums_len, List.length_map, List.length_range, hl]
  · have h4 : i < n := by rw [← hl]; exact h1
    have this := q i us[i] (List.getElem?_eq_getElem h1)
    have h3 := nums_get (l := (List.range n).map f) (i := i) (by rw [List.length_map, List.length_range]; exact h4)
    rw [List.getElem?_eq_getElem h2] at h3
    rw [Option.some.inj h3, M.getD_of (by rw [List.length_map, List.length_range]; exact h4), List.getElem_map, List.getElem_range]
    exact this
/-! ### comprehensions -/
def off (D : Addr) (H : Hp) : Hp := fun b => if b = D then none else H b
theorem off_ne {D b : Addr} {H : Hp} (h : b ≠ D) : off D H b = H b := by unfold off; rw [if_neg h]
theorem off_some {D b : Addr} {H : Hp} {o : HO} (h : off D H b = some o) : b ≠ D ∧ H b = some o := by
  unfold off at h
  split at h
  · cases h
  · exact ⟨by assumption, h⟩
theorem off_sub (D : Addr) (H : Hp) : Same (off D H) H := fun b o h => (off_some h).2
/-- the state of a comprehension that has made us so far: H1 ahead of it, D the new list -/
structure Lc (H1 : Hp) (D : Addr) (us : List V) (R : Nat → Hp → V → Prop) (H : Hp) : Prop where
  at_ : H D = some (.lst us)
  same : Same H1 (off D H)
  item : ∀ i u, us[i]? = some u → R i (nw H1 (off D H)) u
theorem Lc.sm {H1 : Hp} {D : Addr} {us : List V} {R : Nat → Hp → V → Prop} {H : Hp} (x : Lc H1 D us R H) : Same H1 H := x.same.trans (off_sub _ _)
theorem Lc.start {H1 : Hp} {D : Addr} {R : Nat → Hp → V → Prop} (h : H1 D = none) : Lc H1 D [] R (upd H1 D (.lst [])) :=
  ⟨upd_same, fun b o e => by rw [off_ne (ne_of_none e h), upd_ne (ne_of_none e h)]; exact e, fun i u h => by simp at h⟩
theorem Lc.keep {H1 : Hp} {D : Addr} {us : List V} {R : Nat → Hp → V → Prop} {H H4 : Hp} (mono : ∀ i, Mono (R i)) (x : Lc H1 D us R H) (s : Same H H4) : Lc H1 D us R H4 := by
  have so : Same (off D H) (off D H4) := fun b o e => by
    obtain ⟨h1, h2⟩ := off_some e
    rw [off_ne h1]; exact s _ _ h2
  exact ⟨s _ _ x.at_, x.same.trans so, fun i u hu => mono i _ _ _ (nw_right so) (x.item i u hu)⟩
theorem Lc.push {H1 : Hp} {D : Addr} {us : List V} {R : Nat → Hp → V → Prop} {H H4 : Hp} {y : V} (mono : ∀ i, Mono (R i)) (x : Lc H1 D us R H) (s : Same H H4) (hy : R us.length (nw H H4) y) : Lc H1 D (us ++ [y]) R (upd H4 D (.lst (us ++ [y]))) := by
  have so : Same (off D H) (off D (upd H4 D (.lst (us ++ [y])))) := fun b o e => by
    obtain ⟨h1, h2⟩ := off_some e
    rw [off_ne h1, upd_ne h1]; exact s _ _ h2
  refine ⟨upd_same, x.same.trans so, fun i u hu => ?_⟩
  rw [List.getElem?_append] at hu
  split at hu
  · exact mono i _ _ _ (nw_right so) (x.item i u hu)
  · rename_i hi
    have e : i = us.length := by
      have := (List.getElem?_eq_some_iff.mp hu).1
      simp at this; omega
    subst e
    simp at hu
    subst hu
    refine mono _ _ _ _ (fun b o e => ?_) hy
    obtain ⟨h1, h2⟩ := nw_some e
    have nb : b ≠ D := (ne_of_none x.at_ h1).symm
    have : H1 b = none := x.sm.free h1
    rw [nw_new this, off_ne nb, upd_ne nb]
    exact h2
theorem Lc.done {H1 : Hp} {D : Addr} {us : List V} {R : Nat → Hp → V → Prop} {H : Hp} {n : Nat} (mono : ∀ i, Mono (R i)) (h : H1 D = none) (x : Lc H1 D us R H) (hn : us.length = n) : LR n R (nw H1 H) (.ref D) :=
  ⟨D, us, rfl, by rw [nw_new h]; exact x.at_, hn, fun i u hu => mono i _ _ _ (nw_right (off_sub _ _)) (x.item i u hu)⟩
theorem small_line {n : Nat} (h : n ≤ 100000) : n ≤ sizeLine := by rw [sizeLine_eq]; omega
theorem small_lt {n : Nat} (h : n ≤ 100000) : n < sizeLine := by rw [sizeLine_eq]; omega
theorem lc_rangeR {lo : Int} {n i0 : Nat} {te : TE} {vs : List Nat} {σ : L2.St} {H1 : Hp} {D : Addr} {Qd : Hp → Prop} (R : Nat → Hp → V → Prop) (mono : ∀ i, Mono (R i)) (hD : H1 D = none) (hn : n ≤ 100000)
    (hw : ∀ x, wipe ((wipe σ vs).set i0 (some x)) vs = wipe σ vs)
    (hs : ∀ i H Q, i < n → Same H1 H → Ret H Q (R i) → te ((wipe σ vs).set i0 (some (.int (lo + i)))) H Q) (hd : ∀ H2, Same H1 H2 → LR n R (nw H1 H2) (.ref D) → Qd H2) :
    ∃ W : Nat → Nat → Hp → Prop, (∃ m, W 0 m (upd H1 D (.lst []))) ∧ ∀ i m H, W i m H →
      ((Itr lo n).stop i H ∧ Qd H) ∨ ((Itr lo n).go i H ∧ ∃ Nx : Hp → Prop, (∀ H', Nx H' → ∃ m', m' < m ∧ W (i + 1) m' H') ∧ ∀ x H', (Itr lo n).yld i H x H' → gName i0 x (wipe σ vs) H' fun σ2 H2 => wipe σ2 vs = wipe σ vs ∧ tYes σ2 H2 fun b H3 =>
        if b = true then te σ2 H3 fun y H4 => ∃ acc, H4 D = some (.lst acc) ∧ acc.length < sizeLine ∧ Nx (upd H4 D (.lst (acc ++ [y]))) else Nx H3) := by
  refine lc_range (fun i H => ∃ us, us.length = i ∧ Lc H1 D us R H) ⟨[], rfl, Lc.start hD⟩ ?_ ?_
  · rintro i H hi ⟨us, hl, x⟩
    refine ⟨hw _, ?_⟩
    change te _ _ _
    refine hs i H _ hi x.sm fun y H4 s hy => ⟨us, s _ _ x.at_, small_lt (by omega), us ++ [y], by simp [hl], x.push mono s (by rw [hl]; exact hy)⟩
  · rintro H ⟨us, hl, x⟩
    exact hd _ x.sm (x.done mono hD hl)
theorem lc_listR {K : PySem.W.Frag} {a : Addr} {xs : List V} {i0 : Nat} {te : TE} {vs : List Nat} {σ : L2.St} {H1 : Hp} {D : Addr} {Qd : Hp → Prop} (R : Nat → Hp → V → Prop) (mono : ∀ i, Mono (R i)) (hD : H1 D = none) (hn : xs.length ≤ 100000) (hl : SqL K H1 a xs)
    (hw : ∀ x, wipe ((wipe σ vs).set i0 (some x)) vs = wipe σ vs)
    (hs : ∀ i x H Q, xs[i]? = some x → Same H1 H → Ret H Q (R i) → te ((wipe σ vs).set i0 (some x)) H Q) (hd : ∀ H2, Same H1 H2 → LR xs.length R (nw H1 H2) (.ref D) → Qd H2) :
    ∃ W : Nat → Nat → Hp → Prop, (∃ m, W 0 m (upd H1 D (.lst []))) ∧ ∀ i m H, W i m H →
      ((Itl K a).stop i H ∧ Qd H) ∨ ((Itl K a).go i H ∧ ∃ Nx : Hp → Prop, (∀ H', Nx H' → ∃ m', m' < m ∧ W (i + 1) m' H') ∧ ∀ x H', (Itl K a).yld i H x H' → gName i0 x (wipe σ vs) H' fun σ2 H2 => wipe σ2 vs = wipe σ vs ∧ tYes σ2 H2 fun b H3 =>
        if b = true then te σ2 H3 fun y H4 => ∃ acc, H4 D = some (.lst acc) ∧ acc.length < sizeLine ∧ Nx (upd H4 D (.lst (acc ++ [y]))) else Nx H3) := by
  refine lc_list (xs := xs) (fun i H => ∃ us, us.length = i ∧ Lc H1 D us R H) ⟨[], rfl, Lc.start hD⟩ (fun i H _ ⟨us, _, x⟩ => x.sm.seq hl) ?_ ?_
  · rintro i v H hi ⟨us, he, x⟩
    have hlt := (List.getElem?_eq_some_iff.mp hi).1
    refine ⟨hw _, ?_⟩
    change te _ _ _
    refine hs i v H _ hi x.sm fun y H4 s hy => ⟨us, s _ _ x.at_, small_lt (by omega), us ++ [y], by simp [he], x.push mono s (by rw [he]; exact hy)⟩
  · rintro H ⟨us, he, x⟩
    exact hd _ x.sm (x.done mono hD he)
theorem lc_enumR {K : PySem.W.Frag} {a : Addr} {xs : List V} {i0 i1 : Nat} {te : TE} {vs : List Nat} {σ : L2.St} {H1 : Hp} {D : Addr} {Qd : Hp → Prop} (R : Nat → Hp → V → Prop) (mono : ∀ i, Mono (R i)) (hD : H1 D = none) (hn : xs.length ≤ 100000) (hl : SqL K H1 a xs)
    (hw : ∀ x y, wipe (((wipe σ vs).set i0 (some x)).set i1 (some y)) vs = wipe σ vs)
    (hs : ∀ i x H Q, xs[i]? = some x → Same H1 H → Ret H Q (R i) → te (((wipe σ vs).set i0 (some (.int (i : Nat)))).set i1 (some x)) H Q) (hd : ∀ H2, Same H1 H2 → LR xs.length R (nw H1 H2) (.ref D) → Qd H2) :
    ∃ W : Nat → Nat → Hp → Prop, (∃ m, W 0 m (upd H1 D (.lst []))) ∧ ∀ i m H, W i m H →
      ((Ite K a).stop i H ∧ Qd H) ∨ ((Ite K a).go i H ∧ ∃ Nx : Hp → Prop, (∀ H', Nx H' → ∃ m', m' < m ∧ W (i + 1) m' H') ∧ ∀ x H', (Ite K a).yld i H x H' → gTup K 2 (gCons (gName i0) (gCons (gName i1) gNil)) x (wipe σ vs) H' fun σ2 H2 => wipe σ2 vs = wipe σ vs ∧ tYes σ2 H2 fun b H3 =>
        if b = true then te σ2 H3 fun y H4 => ∃ acc, H4 D = some (.lst acc) ∧ acc.length < sizeLine ∧ Nx (upd H4 D (.lst (acc ++ [y]))) else Nx H3) := by
  refine ⟨fun i m H => m = xs.length - i ∧ i ≤ xs.length ∧ ∃ us, us.length = i ∧ Lc H1 D us R H, ⟨xs.length, by simp, Nat.zero_le _, [], rfl, Lc.start hD⟩, ?_⟩
  rintro i m H ⟨rfl, hi, us, he, x⟩
  have q : SqL K H a xs := x.sm.seq hl
  by_cases hlt : i < xs.length
  · refine .inr ⟨⟨xs, xs[i], q, by simp [hlt]⟩, fun H' => ∃ us, us.length = i + 1 ∧ Lc H1 D us R H', fun H' ⟨us', l', x'⟩ => ⟨xs.length - (i + 1), by omega, rfl, hlt, us', l', x'⟩, ?_⟩
    rintro v H' ⟨T, y, rfl, hT, rfl, hy⟩
    have hy := hy xs q
    have sT : Same H (upd H T (.tup [.int (i : Nat), y])) := same_upd hT
    refine ⟨T, _, rfl, SqT.of upd_same, rfl, _, _, rfl, _, _, rfl, rfl, hw _ _, ?_⟩
    change te _ _ _
    have x2 := x.keep mono sT
    refine hs i y _ _ hy x2.sm fun z H4 s hz => ⟨us, s _ _ x2.at_, small_lt (by omega), us ++ [z], by simp [he], x2.push mono s (by rw [he]; exact hz)⟩
  · have e : i = xs.length := by omega
    refine .inl ⟨⟨xs, q, by omega⟩, hd _ x.sm (x.done mono hD (by omega))⟩
theorem lc_zipR {K : PySem.W.Frag} {a b : Addr} {xs ys : List V} {i0 i1 : Nat} {te : TE} {vs : List Nat} {σ : L2.St} {H1 : Hp} {D : Addr} {Qd : Hp → Prop} (R : Nat → Hp → V → Prop) (mono : ∀ i, Mono (R i)) (hD : H1 D = none) (hn : xs.length ≤ 100000) (hl : SqL K H1 a xs) (hl2 : SqL K H1 b ys) (hxy : ys.length = xs.length)
    (hw : ∀ x y, wipe (((wipe σ vs).set i0 (some x)).set i1 (some y)) vs = wipe σ vs)
    (hs : ∀ i x y H Q, xs[i]? = some x → ys[i]? = some y → Same H1 H → Ret H Q (R i) → te (((wipe σ vs).set i0 (some x)).set i1 (some y)) H Q) (hd : ∀ H2, Same H1 H2 → LR xs.length R (nw H1 H2) (.ref D) → Qd H2) :
    ∃ W : Nat → Nat → Hp → Prop, (∃ m, W 0 m (upd H1 D (.lst []))) ∧ ∀ i m H, W i m H →
      ((Itz K a b).stop i H ∧ Qd H) ∨ ((Itz K a b).go i H ∧ ∃ Nx : Hp → Prop, (∀ H', Nx H' → ∃ m', m' < m ∧ W (i + 1) m' H') ∧ ∀ x H', (Itz K a b).yld i H x H' → gTup K 2 (gCons (gName i0) (gCons (gName i1) gNil)) x (wipe σ vs) H' fun σ2 H2 => wipe σ2 vs = wipe σ vs ∧ tYes σ2 H2 fun b H3 =>
        if b = true then te σ2 H3 fun y H4 => ∃ acc, H4 D = some (.lst acc) ∧ acc.length < sizeLine ∧ Nx (upd H4 D (.lst (acc ++ [y]))) else Nx H3) := by
  refine ⟨fun i m H => m = xs.length - i ∧ i ≤ xs.length ∧ ∃ us, us.length = i ∧ Lc H1 D us R H, ⟨xs.length, by simp, Nat.zero_le _, [], rfl, Lc.start hD⟩, ?_⟩
  rintro i m H ⟨rfl, hi, us, he, x⟩
  have q : SqL K H a xs := x.sm.seq hl
  have q2 : SqL K H b ys := x.sm.seq hl2
  by_cases hlt : i < xs.length
  · have hlt2 : i < ys.length := by omega
    refine .inr ⟨⟨xs, ys, xs[i], ys[i], q, q2, by simp [hlt], by simp [hlt2]⟩, fun H' => ∃ us, us.length = i + 1 ∧ Lc H1 D us R H', fun H' ⟨us', l', x'⟩ => ⟨xs.length - (i + 1), by omega, rfl, hlt, us', l', x'⟩, ?_⟩
    rintro v H' ⟨T, y, z, rfl, hT, rfl, hy, hz⟩
    have hy := hy xs q
    have hz := hz ys q2
    have sT : Same H (upd H T (.tup [y, z])) := same_upd hT
    refine ⟨T, _, rfl, SqT.of upd_same, rfl, _, _, rfl, _, _, rfl, rfl, hw _ _, ?_⟩
    change te _ _ _
    have x2 := x.keep mono sT
    refine hs i y z _ _ hy hz x2.sm fun r H4 s hr => ⟨us, s _ _ x2.at_, small_lt (by omega), us ++ [r], by simp [he], x2.push mono s (by rw [he]; exact hr)⟩
  · have e : i = xs.length := by omega
    refine .inl ⟨⟨xs, ys, q, q2, .inl (by omega)⟩, hd _ x.sm (x.done mono hD (by omega))⟩
/-! ### lives -/
def lfs (d : Nat) (pb ps : Addr) (n : Nat) : List (Str × V) := putF "ages" (.int n) (putF "stays" (.ref ps) (putF "births" (.ref pb) (putF "d" (.int d) [])))
def LifeA (C : Addr) (l : Vbecak.Life) (H : Hp) (v : V) : Prop := ∃ a dx pb ps, v = .ref a ∧ H a = some (.ins C dx (lfs l.d pb ps l.ages)) ∧ H pb = some (.lst (nums l.births)) ∧ H ps = some (.lst (nums l.stay))
theorem LifeA.mono (C : Addr) (l : Vbecak.Life) : Mono (LifeA C l) := fun H H' v s ⟨a, dx, pb, ps, e, h1, h2, h3⟩ => ⟨a, dx, pb, ps, e, s _ _ h1, s _ _ h2, s _ _ h3⟩
theorem lfs_d (d : Nat) (pb ps : Addr) (n : Nat) : (lfs d pb ps n).lookup ("d" : Str) = some (.int d) := by
  unfold lfs
  rw [lookup_putF, if_neg (by decide +kernel), lookup_putF, if_neg (by decide +kernel), lookup_putF, if_neg (by decide +kernel), lookup_putF, if_pos rfl]
theorem lfs_births (d : Nat) (pb ps : Addr) (n : Nat) : (lfs d pb ps n).lookup ("births" : Str) = some (.ref pb) := by
  unfold lfs
  rw [lookup_putF, if_neg (by decide +kernel), lookup_putF, if_neg (by decide +kernel), lookup_putF, if_pos rfl]
theorem lfs_stays (d : Nat) (pb ps : Addr) (n : Nat) : (lfs d pb ps n).lookup ("stays" : Str) = some (.ref ps) := by
  unfold lfs
  rw [lookup_putF, if_neg (by decide +kernel), lookup_putF, if_pos rfl]
theorem lfs_ages (d : Nat) (pb ps : Addr) (n : Nat) : (lfs d pb ps n).lookup ("ages" : Str) = some (.int n) := by
  unfold lfs
  rw [lookup_putF, if_pos rfl]
end G

set_option Elab.async false
set_option linter.all false
set_option maxRecDepth 100000
set_option maxHeartbeats 2000000
set_option exponentiation.threshold 100000
namespace G
open PySem PySem.Spec PyProof.Rows L2
/-! ### what the text has -/
structure Tx (K : PySem.W.Frag) (mg : Str → Option Value) (CL CR : Addr) : Prop where
  clL : Cls K CL
  nL_d : NoAttr K CL "d"
  nL_births : NoAttr K CL "births"
  nL_stays : NoAttr K CL "stays"
  nL_ages : NoAttr K CL "ages"
  clR : Cls K CR
  nR_numbers : NoAttr K CR "numbers"
  nR_place : NoAttr K CR "place"
  b_range : mg "range" = none
  b_len : mg "len" = none
  b_sum : mg "sum" = none
  b_max : mg "max" = none
  b_all : mg "all" = none
  b_list : mg "list" = none
  b_enumerate : mg "enumerate" = none
  b_zip : mg "zip" = none
  c_NO_LIFE : ∃ t, mg "NO_LIFE" = some (.int (-1) t)
  c_WHOLE_OUT_OF_RANGE : ∃ t, mg "WHOLE_OUT_OF_RANGE" = some (.int (-3) t)
  c_LIST_OUT_OF_RANGE : ∃ t, mg "LIST_OUT_OF_RANGE" = some (.int (-4) t)
  c_TOO_GREAT : ∃ t, mg "TOO_GREAT" = some (.int (-5) t)
  c_NET_UNFIT : ∃ t, mg "NET_UNFIT" = some (.int (-6) t)
  c_MOST_PARTS : ∃ t, mg "MOST_PARTS" = some (.int 20 t)
  c_MOST_AGES : ∃ t, mg "MOST_AGES" = some (.int 8 t)
  c_MOST_BIRTHS : ∃ t, mg "MOST_BIRTHS" = some (.int 1000 t)
  c_MOST_OF_AN_AGE : ∃ t, mg "MOST_OF_AN_AGE" = some (.int 10000 t)
  c_MOST_YEARS : ∃ t, mg "MOST_YEARS" = some (.int 40 t)
  c_MOST_FAR_YEARS : ∃ t, mg "MOST_FAR_YEARS" = some (.int 1000000000000000000 t)
  c_MOST_DIVISOR : ∃ t, mg "MOST_DIVISOR" = some (.int 1000000000 t)
  c_GREATEST_TOLD : ∃ t, mg "GREATEST_TOLD" = some (.int 1000000000000000000 t)
  c_LIFE_CALL : ∃ t, mg "LIFE_CALL" = some (.int 0 t)
/-! ### ratios -/
def sp_common_divisor : Sp := fun vs H Q _ => ∃ a b : Nat, vs = [.int (a : Nat), .int (b : Nat)] ∧ Q (.int (Nat.gcd a b : Nat)) H
def sp_common_divisor_of : Sp := fun vs H Q _ => ∃ (l : List Nat) (va : V), vs = [va] ∧ LsA l H va ∧ Q (.int (Vbecak.gcdAll l : Nat)) H
def sp_power : Sp := fun vs H Q _ => ∃ b e : Nat, vs = [.int (b : Nat), .int (e : Nat)] ∧ b ≤ 400 ∧ e ≤ 40 ∧ Q (.int (b ^ e : Nat)) H
def sp_fraction : Sp := fun vs H Q _ => ∃ u l : Nat, vs = [.int (u : Nat), .int (l : Nat)] ∧ 0 < l ∧ l < 2 ^ 9000 ∧ Ret H Q (FrA (u, l))
def sp_plus : Sp := fun vs H Q _ => ∃ (p q : Vbecak.Frac) (va vb : V), vs = [va, vb] ∧ FrA p H va ∧ FrA q H vb ∧ 0 < p.2 ∧ 0 < q.2 ∧ M.Sm p ∧ M.Sm q ∧ Ret H Q (FrA (p.1 * q.2 + q.1 * p.2, p.2 * q.2))
def sp_times : Sp := fun vs H Q _ => ∃ (p q : Vbecak.Frac) (va vb : V), vs = [va, vb] ∧ FrA p H va ∧ FrA q H vb ∧ 0 < p.2 ∧ 0 < q.2 ∧ M.Sm p ∧ M.Sm q ∧ Ret H Q (FrA (p.1 * q.1, p.2 * q.2))
def sp_over : Sp := fun vs H Q _ => ∃ (p q : Vbecak.Frac) (va vb : V), vs = [va, vb] ∧ FrA p H va ∧ FrA q H vb ∧ 0 < p.2 ∧ 0 < q.2 ∧ 0 < q.1 ∧ M.Sm p ∧ M.Sm q ∧ Ret H Q (FrA (p.1 * q.2, p.2 * q.1))
def sp_added : Sp := fun vs H Q _ => ∃ (n : Nat) (f : Nat → Nat) (N : Nat) (va : V), vs = [va] ∧ LR n (fun i => FrA (f i, N)) H va ∧ 0 < N ∧ M.Sm (M.sg n f, N) ∧ Ret H Q (FrA (M.sg n f, N))
theorem smb1 {p : Vbecak.Frac} (h : M.Sm p) : (((Vbecak.lowest p).1 : Nat) : Int).natAbs < 2 ^ 4000 := by
  rw [Int.natAbs_natCast]
  exact Nat.lt_of_le_of_lt (M.lowest_fst_le p) (Nat.lt_of_lt_of_le h.1 (Nat.pow_le_pow_right (by decide) (by decide)))
theorem smb2 {p : Vbecak.Frac} (h : M.Sm p) : (((Vbecak.lowest p).2 : Nat) : Int).natAbs < 2 ^ 4000 := by
  rw [Int.natAbs_natCast]
  exact Nat.lt_of_le_of_lt (M.lowest_snd_le p) (Nat.lt_of_lt_of_le h.2 (Nat.pow_le_pow_right (by decide) (by decide)))
theorem mul_bd {a b c d : Nat} (ha : a ≤ c) (hb : b ≤ d) (hc : c < 2 ^ 1000) (hd : d < 2 ^ 1000) : a * b < 2 ^ 9000 := by
  have h1 : a * b ≤ 2 ^ 1000 * 2 ^ 1000 := Nat.mul_le_mul (by omega) (by omega)
  have h2 : (2 : Nat) ^ 1000 * 2 ^ 1000 < 2 ^ 9000 := by rw [← Nat.pow_add]; exact Nat.pow_lt_pow_right (by decide) (by decide)
  exact Nat.lt_of_le_of_lt h1 h2
section
variable {P : Program} {w : World} {K : PySem.W.Frag} {mg : Str → Option Value} {base : Heap} {CL CR : Addr}
theorem sc_common_divisor : FnScope ["a", "b", "rest"] ["a", "b"] (defScope (top 1)) := ⟨rfl, rfl, rfl, by decide +kernel, rfl, by decide +kernel, by decide +kernel⟩
theorem ok_common_divisor {f : Addr} {fd : FuncData} (F : Fun K "common_divisor" "common_divisor" (top 1) f fd) (T : Tx K mg CL CR)   :
    FnOk P w K mg base CX0 1 f fd ["a", "b"] sp_common_divisor := by
  refine F.ok sc_common_divisor (fun vs H Q E h => ?_) (fun cdv A outer s H vs Q E hr h => ?_)
  · obtain ⟨a, b, rfl, k⟩ := h
    rfl
  · obtain ⟨a, b, rfl, k⟩ := h
    refine ⟨_, (pss_cons (ps_while PassesOwn.never (pt_cmpR op_gt (pv 1) pe_int (nomark _)) (pss_cons (ps_set (i := 2) sc_common_divisor.nd rfl (Or.inl rfl) (pe_op op_mod (pv 0) (pv 1)))
      (pss_cons (ps_set (i := 0) sc_common_divisor.nd rfl (Or.inl rfl) (pv 1))
      (pss_one (ps_set (i := 1) sc_common_divisor.nd rfl (Or.inl rfl) (pv 2))))))
      (pss_one (ps_ret (pv 0)))), ?_⟩
    refine ⟨fun m σ' H' => ∃ (x : Nat) (r : Option V), σ' = [some (.int (x : Nat)), some (.int (m : Nat)), r] ∧ H' = H ∧ Nat.gcd x m = Nat.gcd a b, ⟨b, a, none, rfl, rfl, rfl⟩, ?_⟩
    rintro m σ' H' ⟨x, r, rfl, rfl, hg⟩
    refine ⟨_, rfl, _, _, rfl, rfl, _, rfl, ?_⟩
    by_cases hm : 0 < m
    · refine ifT (decide_eq_true (show (0 : Int) < (m : Nat) by omega)) ?_
      refine ⟨fun σ'' H'' => ∃ (y z : Nat) (r : Option V), σ'' = [some (.int (y : Nat)), some (.int (z : Nat)), r] ∧ H'' = H' ∧ z < m ∧ Nat.gcd y z = Nat.gcd a b, fun σ'' H'' ⟨y, z, r, e1, e2, hz, hg⟩ => ⟨z, hz, y, r, e1, e2, hg⟩, ?_⟩
      refine ⟨_, rfl, _, rfl, _, _, rfl, rfl, (show (0 : Int) < (m : Nat) by omega), _, rfl, _, rfl, ?_⟩
      refine ⟨m, x % m, _, rfl, rfl, Nat.mod_lt _ hm, ?_⟩
      rw [← hg, Nat.gcd_comm m, ← Nat.gcd_rec, Nat.gcd_comm]
    · refine ifF (decide_eq_false (by omega)) ?_
      refine ⟨_, rfl, ?_⟩
      have : m = 0 := by omega
      subst this
      rw [Nat.gcd_zero_right] at hg
      rw [hg]
      exact k
theorem sc_common_divisor_of : FnScope ["numbers", "divisor", "number"] ["numbers"] (defScope (top 2)) := ⟨rfl, rfl, rfl, by decide +kernel, rfl, by decide +kernel, by decide +kernel⟩
theorem ok_common_divisor_of {f : Addr} {fd : FuncData} (F : Fun K "common_divisor_of" "common_divisor_of" (top 2) f fd) (T : Tx K mg CL CR) (G_common_divisor : FOk P w K mg base "common_divisor" 1 ["a", "b"] sp_common_divisor)  :
    FnOk P w K mg base CX0 2 f fd ["numbers"] sp_common_divisor_of := by
  refine F.ok sc_common_divisor_of (fun vs H Q E h => ?_) (fun cdv A outer s H vs Q E hr h => ?_)
  · obtain ⟨l, va, rfl, ⟨a, rfl, ha⟩, k⟩ := h
    rfl
  · obtain ⟨l, va, rfl, ⟨a, rfl, ha⟩, k⟩ := h
    refine ⟨_, (pss_cons (ps_set (i := 1) sc_common_divisor_of.nd rfl (Or.inl rfl) pe_int)
      (pss_cons (ps_for PassesOwn.never rfl (pi_list (pv 0)) (pg_name (i := 2) sc_common_divisor_of.nd rfl (Or.inl rfl)) (pss_one (ps_set (i := 1) sc_common_divisor_of.nd rfl (Or.inl rfl) (pe_fn G_common_divisor (hr.mono (by decide)) rfl (pa_cons (pv 1) (pa_cons (pv 2) pa_nil))))))
      (pss_one (ps_ret (pv 1))))), ?_⟩
    refine ⟨_, rfl, a, rfl, ⟨_, SqL.of ha⟩, for_list (K := K) (a := a) (xs := nums l) (fun i σ' H' => ∃ r : Option V, σ' = [some (.ref a), some (.int ((l.take i).foldl Nat.gcd 0 : Nat)), r] ∧ H' = H) ⟨none, rfl, rfl⟩ (fun i σ' H' _ ⟨_, _, e⟩ => by rw [e]; exact SqL.of ha) ?_ ?_⟩
    · rintro i x σ' H' hi ⟨r, rfl, rfl⟩
      have hlt : i < l.length := by rw [← nums_len l]; exact (List.getElem?_eq_some_iff.mp hi).1
      rw [nums_get hlt] at hi
      cases hi
      refine ⟨_, rfl, _, rfl, _, _, rfl, ?_⟩
      refine ⟨some (.int (l.getD i 0 : Nat)), ?_, rfl⟩
      rw [List.take_add_one, List.foldl_append, List.getElem?_eq_getElem hlt, M.getD_of hlt]
      rfl
    · rintro σ' H' ⟨r, rfl, rfl⟩
      refine ⟨_, rfl, ?_⟩
      rw [nums_len, List.take_length]
      exact k
theorem sc_power : FnScope ["base", "exponent", "product", "k"] ["base", "exponent"] (defScope (top 3)) := ⟨rfl, rfl, rfl, by decide +kernel, rfl, by decide +kernel, by decide +kernel⟩
theorem ok_power {f : Addr} {fd : FuncData} (F : Fun K "power" "power" (top 3) f fd) (T : Tx K mg CL CR)   :
    FnOk P w K mg base CX0 1 f fd ["base", "exponent"] sp_power := by
  refine F.ok sc_power (fun vs H Q E h => ?_) (fun cdv A outer s H vs Q E hr h => ?_)
  · obtain ⟨b, e, rfl, hb, he, k⟩ := h
    rfl
  · obtain ⟨b, e, rfl, hb, he, k⟩ := h
    refine ⟨_, (pss_cons (ps_set (i := 2) sc_power.nd rfl (Or.inl rfl) pe_int)
      (pss_cons (ps_for PassesOwn.never rfl (pi_range1 rfl T.b_range (pa_cons (pv 1) pa_nil)) (pg_name (i := 3) sc_power.nd rfl (Or.inl rfl)) (pss_one (ps_set (i := 2) sc_power.nd rfl (Or.inl rfl) (pe_op op_mulB (pv 2) (pv 0)))))
      (pss_one (ps_ret (pv 2))))), ?_⟩
    refine ⟨_, rfl, _, rfl, by omega, by omega, for_range (fun i σ' H' => ∃ r : Option V, σ' = [some (.int (b : Nat)), some (.int (e : Nat)), some (.int (b ^ i : Nat)), r] ∧ H' = H) ⟨none, rfl, rfl⟩ ?_ ?_⟩
    · rintro i σ' H' hi ⟨r, rfl, rfl⟩
      have hi : i < e := by simpa using hi
      have h1 : b ^ i < 2 ^ 4000 := by
        have h2 : b ^ i ≤ 400 ^ i := Nat.pow_le_pow_left hb i
        have h3 : (400 : Nat) ^ i ≤ 400 ^ 40 := Nat.pow_le_pow_right (by decide) (by omega)
        exact Nat.lt_of_le_of_lt (Nat.le_trans h2 h3) (by decide +kernel)
      have h4 : b < 2 ^ 4000 := Nat.lt_of_le_of_lt hb (by decide +kernel)
      refine ⟨_, rfl, _, rfl, _, _, rfl, rfl, ⟨by rw [Int.natAbs_natCast]; exact h1, by rw [Int.natAbs_natCast]; exact h4⟩, ?_⟩
      exact ⟨_, rfl, rfl⟩
    · rintro σ' H' ⟨r, rfl, rfl⟩
      refine ⟨_, rfl, ?_⟩
      rw [Int.toNat_natCast]
      exact k
theorem sc_fraction : FnScope ["upper", "lower", "divisor"] ["upper", "lower"] (defScope (top 4)) := ⟨rfl, rfl, rfl, by decide +kernel, rfl, by decide +kernel, by decide +kernel⟩
theorem ok_fraction {f : Addr} {fd : FuncData} (F : Fun K "fraction" "fraction" (top 4) f fd) (T : Tx K mg CL CR) (G_common_divisor : FOk P w K mg base "common_divisor" 1 ["a", "b"] sp_common_divisor)  :
    FnOk P w K mg base CX0 2 f fd ["upper", "lower"] sp_fraction := by
  refine F.ok sc_fraction (fun vs H Q E h => ?_) (fun cdv A outer s H vs Q E hr h => ?_)
  · obtain ⟨u, l, rfl, hl, hb, k⟩ := h
    rfl
  · obtain ⟨u, l, rfl, hl, hb, k⟩ := h
    refine ⟨_, (pss_cons (ps_set (i := 2) sc_fraction.nd rfl (Or.inl rfl) (pe_fn G_common_divisor (hr.mono (by decide)) rfl (pa_cons (pv 0) (pa_cons (pv 1) pa_nil))))
      (pss_one (ps_ret (pe_tup (pa_cons (pe_op op_fdivB (pv 0) (pv 2)) (pa_cons (pe_op op_fdivB (pv 1) (pv 2)) pa_nil)))))), ?_⟩
    have hg := Nat.gcd_pos_of_pos_right u hl
    have hgl : Nat.gcd u l ≤ l := Nat.gcd_le_right _ hl
    have cd : CDivB 0 (Nat.gcd u l : Nat) := ⟨by omega, by rw [Int.natAbs_natCast]; exact Nat.lt_of_le_of_lt hgl hb⟩
    refine ⟨_, rfl, _, rfl, u, l, rfl, ?_⟩
    refine ⟨_, rfl, _, rfl, _, _, rfl, rfl, cd, _, rfl, _, rfl, _, _, rfl, rfl, cd, (by show 2 ≤ sizeLine; decide), fun p hp => ?_⟩
    refine k _ _ (same_upd hp) ⟨p, rfl, ?_⟩
    rw [nw_new hp, upd_same, M.lowest_pos hl]
    rfl
theorem sc_plus : FnScope ["a", "b"] ["a", "b"] (defScope (top 5)) := ⟨rfl, rfl, rfl, by decide +kernel, rfl, by decide +kernel, by decide +kernel⟩
theorem ok_plus {f : Addr} {fd : FuncData} (F : Fun K "plus" "plus" (top 5) f fd) (T : Tx K mg CL CR) (G_fraction : FOk P w K mg base "fraction" 2 ["upper", "lower"] sp_fraction)  :
    FnOk P w K mg base CX0 3 f fd ["a", "b"] sp_plus := by
  refine F.ok sc_plus (fun vs H Q E h => ?_) (fun cdv A outer s H vs Q E hr h => ?_)
  · obtain ⟨p, q, va, vb, rfl, ⟨a, rfl, ha⟩, ⟨b, rfl, hb⟩, hp, hq, sp, sq, k⟩ := h
    rfl
  · obtain ⟨p, q, va, vb, rfl, ⟨a, rfl, ha⟩, ⟨b, rfl, hb⟩, hp, hq, sp, sq, k⟩ := h
    refine ⟨_, (pss_one (ps_ret (pe_fn G_fraction (hr.mono (by decide)) rfl (pa_cons (pe_op op_add (pe_op op_mulB (pe_ix ix_tup (pv 0) pe_int (fun _ _ => rfl)) (pe_ix ix_tup (pv 1) pe_int (fun _ _ => rfl))) (pe_op op_mulB (pe_ix ix_tup (pv 1) pe_int (fun _ _ => rfl)) (pe_ix ix_tup (pv 0) pe_int (fun _ _ => rfl)))) (pa_cons (pe_op op_mulB (pe_ix ix_tup (pv 0) pe_int (fun _ _ => rfl)) (pe_ix ix_tup (pv 1) pe_int (fun _ _ => rfl))) pa_nil))))), ?_⟩
    refine ⟨_, rfl, _, _, _, _, rfl, rfl, SqT.of ha, (atI_nat (j := 0) rfl), _, rfl, _, _, _, _, rfl, rfl, SqT.of hb, (atI_nat (j := 1) rfl), _, _, rfl, rfl, ⟨smb1 sp, smb2 sq⟩, ?_⟩
    refine ⟨_, rfl, _, _, _, _, rfl, rfl, SqT.of hb, (atI_nat (j := 0) rfl), _, rfl, _, _, _, _, rfl, rfl, SqT.of ha, (atI_nat (j := 1) rfl), _, _, rfl, rfl, ⟨smb1 sq, smb2 sp⟩, _, _, rfl, rfl, ?_⟩
    refine ⟨_, rfl, _, _, _, _, rfl, rfl, SqT.of ha, (atI_nat (j := 1) rfl), _, rfl, _, _, _, _, rfl, rfl, SqT.of hb, (atI_nat (j := 1) rfl), _, _, rfl, rfl, ⟨smb2 sp, smb2 sq⟩, ?_⟩
    refine ⟨(Vbecak.lowest p).1 * (Vbecak.lowest q).2 + (Vbecak.lowest q).1 * (Vbecak.lowest p).2, (Vbecak.lowest p).2 * (Vbecak.lowest q).2, rfl, Nat.mul_pos (M.lowest_snd_pos hp) (M.lowest_snd_pos hq), mul_bd (M.lowest_snd_le p) (M.lowest_snd_le q) sp.2 sq.2, fun v H' s h => k v H' s ?_⟩
    unfold FrA at h ⊢
    rw [M.lowest_plus hp hq] at h
    exact h
theorem sc_times : FnScope ["a", "b"] ["a", "b"] (defScope (top 6)) := ⟨rfl, rfl, rfl, by decide +kernel, rfl, by decide +kernel, by decide +kernel⟩
theorem ok_times {f : Addr} {fd : FuncData} (F : Fun K "times" "times" (top 6) f fd) (T : Tx K mg CL CR) (G_fraction : FOk P w K mg base "fraction" 2 ["upper", "lower"] sp_fraction)  :
    FnOk P w K mg base CX0 3 f fd ["a", "b"] sp_times := by
  refine F.ok sc_times (fun vs H Q E h => ?_) (fun cdv A outer s H vs Q E hr h => ?_)
  · obtain ⟨p, q, va, vb, rfl, ⟨a, rfl, ha⟩, ⟨b, rfl, hb⟩, hp, hq, sp, sq, k⟩ := h
    rfl
  · obtain ⟨p, q, va, vb, rfl, ⟨a, rfl, ha⟩, ⟨b, rfl, hb⟩, hp, hq, sp, sq, k⟩ := h
    refine ⟨_, (pss_one (ps_ret (pe_fn G_fraction (hr.mono (by decide)) rfl (pa_cons (pe_op op_mulB (pe_ix ix_tup (pv 0) pe_int (fun _ _ => rfl)) (pe_ix ix_tup (pv 1) pe_int (fun _ _ => rfl))) (pa_cons (pe_op op_mulB (pe_ix ix_tup (pv 0) pe_int (fun _ _ => rfl)) (pe_ix ix_tup (pv 1) pe_int (fun _ _ => rfl))) pa_nil))))), ?_⟩
    refine ⟨_, rfl, _, _, _, _, rfl, rfl, SqT.of ha, (atI_nat (j := 0) rfl), _, rfl, _, _, _, _, rfl, rfl, SqT.of hb, (atI_nat (j := 0) rfl), _, _, rfl, rfl, ⟨smb1 sp, smb1 sq⟩, ?_⟩
    refine ⟨_, rfl, _, _, _, _, rfl, rfl, SqT.of ha, (atI_nat (j := 1) rfl), _, rfl, _, _, _, _, rfl, rfl, SqT.of hb, (atI_nat (j := 1) rfl), _, _, rfl, rfl, ⟨smb2 sp, smb2 sq⟩, ?_⟩
    refine ⟨(Vbecak.lowest p).1 * (Vbecak.lowest q).1, (Vbecak.lowest p).2 * (Vbecak.lowest q).2, rfl, Nat.mul_pos (M.lowest_snd_pos hp) (M.lowest_snd_pos hq), mul_bd (M.lowest_snd_le p) (M.lowest_snd_le q) sp.2 sq.2, fun v H' s h => k v H' s ?_⟩
    unfold FrA at h ⊢
    rw [M.lowest_times hp hq] at h
    exact h
theorem sc_over : FnScope ["a", "b"] ["a", "b"] (defScope (top 7)) := ⟨rfl, rfl, rfl, by decide +kernel, rfl, by decide +kernel, by decide +kernel⟩
theorem ok_over {f : Addr} {fd : FuncData} (F : Fun K "over" "over" (top 7) f fd) (T : Tx K mg CL CR) (G_fraction : FOk P w K mg base "fraction" 2 ["upper", "lower"] sp_fraction)  :
    FnOk P w K mg base CX0 3 f fd ["a", "b"] sp_over := by
  refine F.ok sc_over (fun vs H Q E h => ?_) (fun cdv A outer s H vs Q E hr h => ?_)
  · obtain ⟨p, q, va, vb, rfl, ⟨a, rfl, ha⟩, ⟨b, rfl, hb⟩, hp, hq, hn, sp, sq, k⟩ := h
    rfl
  · obtain ⟨p, q, va, vb, rfl, ⟨a, rfl, ha⟩, ⟨b, rfl, hb⟩, hp, hq, hn, sp, sq, k⟩ := h
    refine ⟨_, (pss_one (ps_ret (pe_fn G_fraction (hr.mono (by decide)) rfl (pa_cons (pe_op op_mulB (pe_ix ix_tup (pv 0) pe_int (fun _ _ => rfl)) (pe_ix ix_tup (pv 1) pe_int (fun _ _ => rfl))) (pa_cons (pe_op op_mulB (pe_ix ix_tup (pv 0) pe_int (fun _ _ => rfl)) (pe_ix ix_tup (pv 1) pe_int (fun _ _ => rfl))) pa_nil))))), ?_⟩
    refine ⟨_, rfl, _, _, _, _, rfl, rfl, SqT.of ha, (atI_nat (j := 0) rfl), _, rfl, _, _, _, _, rfl, rfl, SqT.of hb, (atI_nat (j := 1) rfl), _, _, rfl, rfl, ⟨smb1 sp, smb2 sq⟩, ?_⟩
    refine ⟨_, rfl, _, _, _, _, rfl, rfl, SqT.of ha, (atI_nat (j := 1) rfl), _, rfl, _, _, _, _, rfl, rfl, SqT.of hb, (atI_nat (j := 0) rfl), _, _, rfl, rfl, ⟨smb2 sp, smb1 sq⟩, ?_⟩
    refine ⟨(Vbecak.lowest p).1 * (Vbecak.lowest q).2, (Vbecak.lowest p).2 * (Vbecak.lowest q).1, rfl, Nat.mul_pos (M.lowest_snd_pos hp) (M.lowest_fst_pos hq hn), mul_bd (M.lowest_snd_le p) (M.lowest_fst_le q) sp.2 sq.1, fun v H' s h => k v H' s ?_⟩
    unfold FrA at h ⊢
    rw [M.lowest_over hp hq hn] at h
    exact h
theorem sc_added : FnScope ["fractions", "total", "part"] ["fractions"] (defScope (top 8)) := ⟨rfl, rfl, rfl, by decide +kernel, rfl, by decide +kernel, by decide +kernel⟩
theorem ok_added {f : Addr} {fd : FuncData} (F : Fun K "added" "added" (top 8) f fd) (T : Tx K mg CL CR) (G_fraction : FOk P w K mg base "fraction" 2 ["upper", "lower"] sp_fraction) (G_plus : FOk P w K mg base "plus" 3 ["a", "b"] sp_plus)  :
    FnOk P w K mg base CX0 4 f fd ["fractions"] sp_added := by
  refine F.ok sc_added (fun vs H Q E h => ?_) (fun cdv A outer s H vs Q E hr h => ?_)
  · obtain ⟨n, f, N, va, rfl, ⟨a, us, rfl, ha, hl, hu⟩, hN, hs, k⟩ := h
    rfl
  · obtain ⟨n, f, N, va, rfl, ⟨a, us, rfl, ha, hl, hu⟩, hN, hs, k⟩ := h
    refine ⟨_, (pss_cons (ps_set (i := 1) sc_added.nd rfl (Or.inl rfl) (pe_fn G_fraction (hr.mono (by decide)) rfl (pa_cons pe_int (pa_cons pe_int pa_nil))))
      (pss_cons (ps_for PassesOwn.never rfl (pi_list (pv 0)) (pg_name (i := 2) sc_added.nd rfl (Or.inl rfl)) (pss_one (ps_set (i := 1) sc_added.nd rfl (Or.inl rfl) (pe_fn G_plus (hr.mono (by decide)) rfl (pa_cons (pv 1) (pa_cons (pv 2) pa_nil))))))
      (pss_one (ps_ret (pv 1))))), ?_⟩
    refine ⟨0, 1, rfl, by decide, by decide +kernel, fun v0 H0 s0 h0 => ?_⟩
    refine ⟨_, rfl, a, rfl, ⟨_, SqL.of (s0 _ _ ha)⟩, for_list (K := K) (a := a) (xs := us) (fun i σ' H' => ∃ (v : V) (r : Option V), σ' = [some (.ref a), some v, r] ∧ Same H H' ∧ FrA (M.sg i f, N) (nw H H') v) ⟨v0, none, rfl, s0, ?_⟩ (fun i σ' H' _ ⟨_, _, _, s', _⟩ => SqL.of (s' _ _ ha)) ?_ ?_⟩
    · exact FrA.congr (by decide) hN (by show 0 * N = 0 * 1; omega) h0
    · rintro i u σ' H' hi ⟨v, r, rfl, s', hv⟩
      have hlt : i < n := by rw [← hl]; exact (List.getElem?_eq_some_iff.mp hi).1
      have hle : M.sg i f ≤ M.sg n f := by
        have := M.sg_split i (n - i) f
        rw [show i + (n - i) = n by omega] at this
        omega
      have hfi : f i ≤ M.sg n f := by
        have := M.sg_split (i + 1) (n - (i + 1)) f
        rw [show i + 1 + (n - (i + 1)) = n by omega, M.sg_succ] at this
        omega
      refine ⟨_, rfl, _, rfl, (M.sg i f, N), (f i, N), v, u, rfl, FrA.mono _ _ _ _ (nw_sub _ _) hv, FrA.mono _ _ _ _ s' (hu i u hi), hN, hN, ⟨Nat.lt_of_le_of_lt hle hs.1, hs.2⟩, ⟨Nat.lt_of_le_of_lt hfi hs.1, hs.2⟩, fun v2 H2 s2 h2 => ⟨v2, some u, rfl, s'.trans s2, ?_⟩⟩
      refine FrA.congr (Nat.mul_pos hN hN) hN ?_ (FrA.mono _ _ _ _ (nw_left s') h2)
      show (M.sg i f * N + f i * N) * N = M.sg (i + 1) f * (N * N)
      rw [M.sg_succ, ← Nat.add_mul, Nat.mul_assoc]
    · rintro σ' H' ⟨v, r, rfl, s', hv⟩
      refine ⟨_, rfl, ?_⟩
      rw [hl] at hv
      exact k _ _ s' hv
end
end G

set_option Elab.async false
set_option linter.all false
set_option maxRecDepth 100000
set_option maxHeartbeats 2000000
set_option exponentiation.threshold 100000
namespace G
open PySem PySem.Spec PyProof.Rows L2
def sp_LifeInit (CL : Addr) : Sp := fun vs H Q _ => ∃ (x dx : Addr) (d : Nat) (pb ps : Addr) (bs ss : List Nat), vs = [.ref x, .int (d : Nat), .ref pb, .ref ps] ∧ H x = some (.ins CL dx []) ∧ H pb = some (.lst (nums bs)) ∧ H ps = some (.lst (nums ss)) ∧
  ∀ H' : Hp, H' x = some (.ins CL dx (lfs d pb ps bs.length)) → (∀ b o, H b = some o → b ≠ x → H' b = some o) → Q .non H'
def sp_share_reaching (CL : Addr) : Sp := fun vs H Q _ => ∃ (l : Vbecak.Life) (lv : V) (i : Nat), vs = [lv, .int (i : Nat)] ∧ LifeA CL l H lv ∧ M.LOk 400 20000 l ∧ i < l.ages ∧ Ret H Q (FrA (Vbecak.reached l i, l.d ^ i))
def sp_years_to_live (CL : Addr) : Sp := fun vs H Q _ => ∃ (l : Vbecak.Life) (lv : V), vs = [lv] ∧ LifeA CL l H lv ∧ M.LOk 400 20000 l ∧ Ret H Q (FrA (Vbecak.years l))
def sp_births_to_come (CL : Addr) : Sp := fun vs H Q _ => ∃ (l : Vbecak.Life) (lv : V) (i : Nat), vs = [lv, .int (i : Nat)] ∧ LifeA CL l H lv ∧ M.LOk 400 20000 l ∧ i < l.ages ∧ Ret H Q (FrA (Vbecak.value l i))
def sp_herd_births_to_come (CL : Addr) : Sp := fun vs H Q _ => ∃ (l : Vbecak.Life) (lv : V) (x : List Nat) (vx : V), vs = [lv, vx] ∧ LifeA CL l H lv ∧ M.LOk 400 20000 l ∧ LsA x H vx ∧ x.length = l.ages ∧ (∀ a ∈ x, a ≤ 10000) ∧ Ret H Q (FrA (Vbecak.worth l x))
theorem len_put {f : Str} {v : V} {fs : List (Str × V)} {n : Nat} (h : fs.length ≤ n) : (putF f v fs).length ≤ n + 1 := Nat.le_trans (length_putF f v fs) (by omega)
theorem lowbd {n : Nat} (h : n ≤ 400 ^ 40) : n < 2 ^ 1000 := Nat.lt_of_le_of_lt h (by decide +kernel)
theorem lowbd9 {n : Nat} (h : n ≤ 400 ^ 40) : n < 2 ^ 9000 := Nat.lt_trans (lowbd h) (Nat.pow_lt_pow_right (by decide) (by decide))
theorem sm_small {a b : Nat} (ha : a ≤ 20000) (hb : b ≤ 400) : M.Sm (a, b) := ⟨lowbd (Nat.le_trans ha (by decide +kernel)), lowbd (Nat.le_trans hb (by decide +kernel))⟩
section
variable {P : Program} {w : World} {K : PySem.W.Frag} {mg : Str → Option Value} {base : Heap} {CL CR : Addr}
theorem sc_Life_init : FnScope ["self", "d", "births", "stays"] ["self", "d", "births", "stays"] (defScope (inClass (top 10) 0)) := ⟨rfl, rfl, rfl, by decide +kernel, rfl, by decide +kernel, by decide +kernel⟩
theorem ok_Life_init {f : Addr} {fd : FuncData} (F : Fun K "__init__" "Life.__init__" (inClass (top 10) 0) f fd) (T : Tx K mg CL CR)   :
    FnOk P w K mg base CX0 1 f fd ["self", "d", "births", "stays"] (sp_LifeInit CL) := by
  refine F.ok sc_Life_init (fun vs H Q E h => ?_) (fun cdv A outer s H vs Q E hr h => ?_)
  · obtain ⟨x, dx, d, pb, ps, bs, ss, rfl, hx, hb, hs, k⟩ := h
    rfl
  · obtain ⟨x, dx, d, pb, ps, bs, ss, rfl, hx, hb, hs, k⟩ := h
    refine ⟨_, (pss_cons (ps_fld (pv 0) (pv 1) rfl)
      (pss_cons (ps_fld (pv 0) (pv 2) rfl)
      (pss_cons (ps_fld (pv 0) (pv 3) rfl)
      (pss_one (ps_fld (pv 0) (pe_callB call_len_seq rfl T.b_len PySem.boot_len (pa_cons (pv 2) pa_nil)) rfl))))), ?_⟩
    have n1 : pb ≠ x := ne_of hb hx (by intro z; cases z)
    refine ⟨_, rfl, _, rfl, x, CL, dx, [], rfl, hx, T.clL, T.nL_d, (by decide), ?_⟩
    refine ⟨_, rfl, _, rfl, x, CL, dx, _, rfl, upd_same, T.clL, T.nL_births, Nat.lt_of_le_of_lt (len_put (n := 0) (Nat.le_refl _)) (by decide), ?_⟩
    refine ⟨_, rfl, _, rfl, x, CL, dx, _, rfl, upd_same, T.clL, T.nL_stays, Nat.lt_of_le_of_lt (len_put (len_put (n := 0) (Nat.le_refl _))) (by decide), ?_⟩
    refine ⟨_, rfl, pb, nums bs, rfl, .inl (SqL.of (by rw [upd_ne n1, upd_ne n1, upd_ne n1]; exact hb)), _, rfl, x, CL, dx, _, rfl, upd_same, T.clL, T.nL_ages, Nat.lt_of_le_of_lt (len_put (len_put (len_put (n := 0) (Nat.le_refl _)))) (by decide), ?_⟩
    refine k _ ?_ fun b o e nb => by rw [upd_ne nb, upd_ne nb, upd_ne nb, upd_ne nb]; exact e
    rw [upd_same, nums_len]
    rfl
theorem sc_share_reaching : FnScope ["life", "i", "share", "k"] ["life", "i"] (defScope (top 11)) := ⟨rfl, rfl, rfl, by decide +kernel, rfl, by decide +kernel, by decide +kernel⟩
theorem ok_share_reaching {f : Addr} {fd : FuncData} (F : Fun K "share_reaching" "share_reaching" (top 11) f fd) (T : Tx K mg CL CR) (G_fraction : FOk P w K mg base "fraction" 2 ["upper", "lower"] sp_fraction) (G_times : FOk P w K mg base "times" 3 ["a", "b"] sp_times)  :
    FnOk P w K mg base CX0 4 f fd ["life", "i"] (sp_share_reaching CL) := by
  refine F.ok sc_share_reaching (fun vs H Q E h => ?_) (fun cdv A outer s H vs Q E hr h => ?_)
  · obtain ⟨l, lv, i, rfl, ⟨a, dx, pb, ps, rfl, h1, h2, h3⟩, hok, hi, k⟩ := h
    rfl
  · obtain ⟨l, lv, i, rfl, ⟨a, dx, pb, ps, rfl, h1, h2, h3⟩, hok, hi, k⟩ := h
    refine ⟨_, (pss_cons (ps_set (i := 2) sc_share_reaching.nd rfl (Or.inl rfl) (pe_fn G_fraction (hr.mono (by decide)) rfl (pa_cons pe_int (pa_cons pe_int pa_nil))))
      (pss_cons (ps_for PassesOwn.never rfl (pi_range1 rfl T.b_range (pa_cons (pv 1) pa_nil)) (pg_name (i := 3) sc_share_reaching.nd rfl (Or.inl rfl)) (pss_one (ps_set (i := 2) sc_share_reaching.nd rfl (Or.inl rfl) (pe_fn G_times (hr.mono (by decide)) rfl (pa_cons (pv 2) (pa_cons (pe_fn G_fraction (hr.mono (by decide)) rfl (pa_cons (pe_ix ix_list (pe_fld (pv 0) rfl) (pv 3) (fun _ _ => rfl)) (pa_cons (pe_fld (pv 0) rfl) pa_nil))) pa_nil))))))
      (pss_one (ps_ret (pv 2))))), ?_⟩
    have ha : l.ages = l.births.length := rfl
    have hsl := hok.sl
    have h8 := hok.a8
    refine ⟨1, 1, rfl, by decide, by decide +kernel, fun v0 H0 s0 f0 => ?_⟩
    refine ⟨_, rfl, _, rfl, by omega, by omega, for_range (n := i) (fun j σ' H' => ∃ (v : V) (r : Option V), σ' = [some (.ref a), some (.int (i : Nat)), some v, r] ∧ Same H H' ∧ FrA (Vbecak.reached l j, l.d ^ j) (nw H H') v) ⟨v0, none, rfl, s0, ?_⟩ ?_ ?_⟩
    · rw [M.reached_zero]; exact f0
    · rintro j σ' H' hj ⟨v, r, rfl, s', hv⟩
      have hjs : j < l.stay.length := by omega
      refine ⟨_, rfl, _, rfl, a, CL, dx, _, _, rfl, s' _ _ h1, T.clL, T.nL_stays, lfs_stays _ _ _ _, _, rfl, ps, _, _, _, rfl, rfl, SqL.of (s' _ _ h3), at_of (j := j) (by omega) (nums_get hjs), ?_⟩
      refine ⟨_, rfl, a, CL, dx, _, _, rfl, s' _ _ h1, T.clL, T.nL_d, lfs_d _ _ _ _, ?_⟩
      refine ⟨l.stay.getD j 0, l.d, rfl, hok.d0, lowbd9 (Nat.le_trans hok.dD (by decide +kernel)), fun v1 H1 s1 f1 => ?_⟩
      have sm1 : M.Sm (Vbecak.reached l j, l.d ^ j) := ⟨lowbd (Nat.le_trans (M.reached_bd hok (by decide) (by omega)) (by decide +kernel)), lowbd (Nat.le_trans (M.dpow_le hok (by decide) (by omega)) (by decide +kernel))⟩
      have sm2 : M.Sm (l.stay.getD j 0, l.d) := sm_small (Nat.le_trans (hok.stay_le j) (Nat.le_trans hok.dD (by decide))) hok.dD
      refine ⟨(Vbecak.reached l j, l.d ^ j), (l.stay.getD j 0, l.d), v, v1, rfl, FrA.mono _ _ _ _ ((nw_sub _ _).trans s1) hv, FrA.mono _ _ _ _ (nw_sub _ _) f1, Nat.pow_pos hok.d0, hok.d0, sm1, sm2, fun v2 H2 s2 f2 => ?_⟩
      refine ⟨v2, _, rfl, (s'.trans s1).trans s2, ?_⟩
      rw [M.reached_succ l hjs, Nat.pow_succ]
      exact FrA.mono _ _ _ _ (nw_left (s'.trans s1)) f2
    · rintro σ' H' ⟨v, r, rfl, s', hv⟩
      exact ⟨_, rfl, k _ _ s' hv⟩
theorem sc_years_to_live : FnScope ["life", "i"] ["life"] (defScope (top 12)) := ⟨rfl, rfl, rfl, by decide +kernel, rfl, by decide +kernel, by decide +kernel⟩
theorem ok_years_to_live {f : Addr} {fd : FuncData} (F : Fun K "years_to_live" "years_to_live" (top 12) f fd) (T : Tx K mg CL CR) (G_share_reaching : FOk P w K mg base "share_reaching" 4 ["life", "i"] (sp_share_reaching CL)) (G_added : FOk P w K mg base "added" 4 ["fractions"] sp_added)  :
    FnOk P w K mg base CX0 5 f fd ["life"] (sp_years_to_live CL) := by
  refine F.ok sc_years_to_live (fun vs H Q E h => ?_) (fun cdv A outer s H vs Q E hr h => ?_)
  · obtain ⟨l, lv, rfl, hL, hok, k⟩ := h
    rfl
  · obtain ⟨l, lv, rfl, hL, hok, k⟩ := h
    refine ⟨_, (pss_one (ps_ret (pe_fn G_added (hr.mono (by decide)) rfl (pa_cons (pe_lc rfl sc_years_to_live.nd (pi_range1 rfl T.b_range (pa_cons (pe_fld (pv 0) rfl) pa_nil)) (blkOk_by (own := [("i", 1)]) (by show blkC ["life", "i"] (defScope (top 12)) _ [("i", 1)] = true; decide +kernel)) (fun _ _ _ _ _ => (pg_name (i := 1) sc_years_to_live.nd rfl (Or.inl rfl))) (fun _ _ _ _ _ => pts_nil) (fun _ _ _ _ _ => (pe_fn G_share_reaching (hr.mono (by decide)) rfl (pa_cons (pv 0) (pa_cons (pv 1) pa_nil))))) pa_nil)))), ?_⟩
    obtain ⟨a, dx, pb, ps, rfl, h1, h2, h3⟩ := id hL
    have ha : l.ages = l.births.length := rfl
    have h8 := hok.a8
    have hN : 0 < l.d ^ l.ages := Nat.pow_pos hok.d0
    have hs : Vbecak.years l = (M.sg l.ages (fun i => Vbecak.reached l i * l.d * l.d ^ (l.ages - 1 - i)), l.d ^ l.ages) := rfl
    refine ⟨_, rfl, a, CL, dx, _, _, rfl, h1, T.clL, T.nL_ages, lfs_ages _ _ _ _, (l.ages : Nat), rfl, by omega, by omega, fun D hD => lc_rangeR (n := l.ages) (fun i => FrA (Vbecak.reached l i * l.d * l.d ^ (l.ages - 1 - i), l.d ^ l.ages)) (fun i => FrA.mono _) hD (by omega) (fun _ => rfl) ?_ ?_⟩
    · intro i H' Q' hi s' r
      refine ⟨_, rfl, _, rfl, l, .ref a, i, (by rw [Int.zero_add]; rfl), LifeA.mono _ _ _ _ _ s' hL, hok, hi, fun v H2 s2 f2 => r v H2 s2 (FrA.congr (Nat.pow_pos hok.d0) hN ?_ f2)⟩
      show Vbecak.reached l i * l.d ^ l.ages = Vbecak.reached l i * l.d * l.d ^ (l.ages - 1 - i) * l.d ^ i
      rw [M.pow_split l.d hi]
      simp only [Nat.mul_assoc, Nat.mul_comm, Nat.mul_left_comm]
    · intro H2 s2 h2
      refine ⟨l.ages, _, l.d ^ l.ages, .ref D, rfl, LR.mono (fun i => FrA.mono _) _ _ _ (nw_sub _ _) h2, hN, ?_, Ret.at (FrA.mono _) s2 k⟩
      refine ⟨lowbd (Nat.le_trans (M.all_bd hok (by decide) (f := fun i => Vbecak.reached l i * l.d) (c := 400 ^ 8 * 400) fun i hi => Nat.mul_le_mul (M.reached_bd hok (by decide) hi) hok.dD) (by decide +kernel)), lowbd (Nat.le_trans (M.dpow_le hok (by decide) (by omega)) (by decide +kernel))⟩
theorem sc_births_to_come : FnScope ["life", "i", "last", "coming", "k", "later"] ["life", "i"] (defScope (top 13)) := ⟨rfl, rfl, rfl, by decide +kernel, rfl, by decide +kernel, by decide +kernel⟩
theorem ok_births_to_come {f : Addr} {fd : FuncData} (F : Fun K "births_to_come" "births_to_come" (top 13) f fd) (T : Tx K mg CL CR) (G_fraction : FOk P w K mg base "fraction" 2 ["upper", "lower"] sp_fraction) (G_times : FOk P w K mg base "times" 3 ["a", "b"] sp_times) (G_plus : FOk P w K mg base "plus" 3 ["a", "b"] sp_plus)  :
    FnOk P w K mg base CX0 4 f fd ["life", "i"] (sp_births_to_come CL) := by
  refine F.ok sc_births_to_come (fun vs H Q E h => ?_) (fun cdv A outer s H vs Q E hr h => ?_)
  · obtain ⟨l, lv, i, rfl, ⟨a, dx, pb, ps, rfl, h1, h2, h3⟩, hok, hi, k⟩ := h
    rfl
  · obtain ⟨l, lv, i, rfl, ⟨a, dx, pb, ps, rfl, h1, h2, h3⟩, hok, hi, k⟩ := h
    refine ⟨_, (pss_cons (ps_set (i := 2) sc_births_to_come.nd rfl (Or.inl rfl) (pe_op op_sub (pe_fld (pv 0) rfl) pe_int))
      (pss_cons (ps_set (i := 3) sc_births_to_come.nd rfl (Or.inl rfl) (pe_fn G_fraction (hr.mono (by decide)) rfl (pa_cons (pe_ix ix_list (pe_fld (pv 0) rfl) (pv 2) (fun _ _ => rfl)) (pa_cons (pe_fld (pv 0) rfl) pa_nil))))
      (pss_cons (ps_for PassesOwn.never rfl (pi_range3 rfl T.b_range (pa_cons (pe_op op_sub (pv 2) pe_int) (pa_cons (pe_op op_sub (pv 1) pe_int) (pa_cons (pe_un un_neg pe_int) pa_nil)))) (pg_name (i := 4) sc_births_to_come.nd rfl (Or.inl rfl)) (pss_cons (ps_set (i := 5) sc_births_to_come.nd rfl (Or.inl rfl) (pe_fn G_times (hr.mono (by decide)) rfl (pa_cons (pe_fn G_fraction (hr.mono (by decide)) rfl (pa_cons (pe_ix ix_list (pe_fld (pv 0) rfl) (pv 4) (fun _ _ => rfl)) (pa_cons (pe_fld (pv 0) rfl) pa_nil))) (pa_cons (pv 3) pa_nil))))
      (pss_one (ps_set (i := 3) sc_births_to_come.nd rfl (Or.inl rfl) (pe_fn G_plus (hr.mono (by decide)) rfl (pa_cons (pe_fn G_fraction (hr.mono (by decide)) rfl (pa_cons (pe_ix ix_list (pe_fld (pv 0) rfl) (pv 4) (fun _ _ => rfl)) (pa_cons (pe_fld (pv 0) rfl) pa_nil))) (pa_cons (pv 5) pa_nil)))))))
      (pss_one (ps_ret (pv 3)))))), ?_⟩
    have ha : l.ages = l.births.length := rfl
    have hsl := hok.sl
    have h8 := hok.a8
    have h0 := hok.a0
    refine ⟨_, rfl, a, CL, dx, _, _, rfl, h1, T.clL, T.nL_ages, lfs_ages _ _ _ _, _, _, rfl, rfl, ?_⟩
    refine ⟨_, rfl, a, CL, dx, _, _, rfl, h1, T.clL, T.nL_births, lfs_births _ _ _ _, _, rfl, pb, _, _, _, rfl, rfl, SqL.of h2, at_of (j := l.ages - 1) (by omega) (nums_get (by omega)), ?_⟩
    refine ⟨_, rfl, a, CL, dx, _, _, rfl, h1, T.clL, T.nL_d, lfs_d _ _ _ _, ?_⟩
    refine ⟨l.births.getD (l.ages - 1) 0, l.d, rfl, hok.d0, lowbd9 (Nat.le_trans hok.dD (by decide +kernel)), fun v0 H0 s0 f0 => ?_⟩
    refine ⟨_, rfl, _, _, rfl, rfl, _, rfl, _, _, rfl, rfl, _, rfl, _, _, _, l.ages - 1 - i, rfl, ?_, ?_⟩
    · have e : (((l.ages : Nat) : Int) - 1 - 1 - ((i : Nat) - 1)).toNat = l.ages - 1 - i := by omega
      have := RgC.neg (i := ((l.ages : Nat) : Int) - 1 - 1) (j := (i : Nat) - 1) (by omega) (by omega) (by omega) (by omega)
      rw [e] at this
      exact this
    refine for_rangeC (fun j σ' H' => ∃ (v : V) (r1 r2 : Option V), σ' = [some (.ref a), some (.int (i : Nat)), some (.int (((l.ages : Nat) : Int) - 1)), some v, r1, r2] ∧ Same H H' ∧ FrA (Vbecak.value l (l.ages - 1 - j)) (nw H H') v) ⟨v0, none, none, rfl, s0, ?_⟩ ?_ ?_
    · rw [M.value_last hok (k := l.ages - 1 - 0) (by omega)]
      exact f0
    · rintro j σ' H' hj ⟨v, r1, r2, rfl, s', hv⟩
      have hks : l.ages - 1 - (j + 1) < l.stay.length := by omega
      have hkb : l.ages - 1 - (j + 1) < l.births.length := by omega
      have hkj : l.ages - 1 - j = l.ages - 1 - (j + 1) + 1 := by omega
      have hlen : l.births.length = (l.ages - 1 - (j + 1)) + 1 + (j + 1) := by omega
      have ek : ((l.ages : Nat) : Int) - 1 - 1 + (j : Nat) * -1 = ((l.ages - 1 - (j + 1) : Nat) : Int) := by omega
      rw [hkj] at hv
      generalize l.ages - 1 - (j + 1) = m at *
      rw [ek]
      refine ⟨_, rfl, a, CL, dx, _, _, rfl, s' _ _ h1, T.clL, T.nL_stays, lfs_stays _ _ _ _, _, rfl, ps, _, _, _, rfl, rfl, SqL.of (s' _ _ h3), at_of (j := m) rfl (nums_get hks), ?_⟩
      refine ⟨_, rfl, a, CL, dx, _, _, rfl, s' _ _ h1, T.clL, T.nL_d, lfs_d _ _ _ _, ?_⟩
      refine ⟨l.stay.getD m 0, l.d, rfl, hok.d0, lowbd9 (Nat.le_trans hok.dD (by decide +kernel)), fun v1 H1 s1 f1 => ?_⟩
      have sm1 : M.Sm (l.stay.getD m 0, l.d) := sm_small (Nat.le_trans (hok.stay_le m) (Nat.le_trans hok.dD (by decide))) hok.dD
      have sm2 : M.Sm (Vbecak.value l (m + 1)) := M.value_sm hok (by decide) (by decide) (by omega)
      refine ⟨_, rfl, (l.stay.getD m 0, l.d), Vbecak.value l (m + 1), v1, v, rfl, FrA.mono _ _ _ _ (nw_sub _ _) f1, FrA.mono _ _ _ _ ((nw_sub _ _).trans s1) hv, hok.d0, M.value_pos hok _, sm1, sm2, fun v2 H2 s2 f2 => ?_⟩
      have t2 : Same H H2 := (s'.trans s1).trans s2
      refine ⟨_, rfl, a, CL, dx, _, _, rfl, t2 _ _ h1, T.clL, T.nL_births, lfs_births _ _ _ _, _, rfl, pb, _, _, _, rfl, rfl, SqL.of (t2 _ _ h2), at_of (j := m) rfl (nums_get hkb), ?_⟩
      refine ⟨_, rfl, a, CL, dx, _, _, rfl, t2 _ _ h1, T.clL, T.nL_d, lfs_d _ _ _ _, ?_⟩
      refine ⟨l.births.getD m 0, l.d, rfl, hok.d0, lowbd9 (Nat.le_trans hok.dD (by decide +kernel)), fun v3 H3 s3 f3 => ?_⟩
      have sm3 : M.Sm (l.births.getD m 0, l.d) := sm_small (hok.birth m) hok.dD
      have e1 : (Vbecak.value l (m + 1)).2 = l.d ^ (j + 1) := by rw [M.value_snd, show l.births.length - (m + 1) = j + 1 by omega]
      have sm4 : M.Sm (l.stay.getD m 0 * (Vbecak.value l (m + 1)).1, l.d * (Vbecak.value l (m + 1)).2) := by
        refine ⟨lowbd (Nat.le_trans (Nat.mul_le_mul (Nat.le_trans (hok.stay_le m) hok.dD) (M.value_bd hok (by decide) (by decide) (by omega))) (by decide +kernel)), ?_⟩
        show l.d * (Vbecak.value l (m + 1)).2 < 2 ^ 1000
        rw [e1]
        exact lowbd (Nat.le_trans (Nat.mul_le_mul hok.dD (M.dpow_le hok (by decide) (by omega))) (by decide +kernel))
      have hp4 : 0 < l.d * (Vbecak.value l (m + 1)).2 := Nat.mul_pos hok.d0 (M.value_pos hok _)
      refine ⟨_, rfl, (l.births.getD m 0, l.d), (l.stay.getD m 0 * (Vbecak.value l (m + 1)).1, l.d * (Vbecak.value l (m + 1)).2), v3, v2, rfl, FrA.mono _ _ _ _ (nw_sub _ _) f3, FrA.mono _ _ _ _ ((nw_sub _ _).trans s3) f2, hok.d0, hp4, sm3, sm4, fun v4 H4 s4 f4 => ?_⟩
      refine ⟨v4, _, _, rfl, (t2.trans s3).trans s4, FrA.congr (Nat.mul_pos hok.d0 hp4) (M.value_pos hok _) ?_ (FrA.mono _ _ _ _ (nw_left (t2.trans s3)) f4)⟩
      show (l.births.getD m 0 * (l.d * (Vbecak.value l (m + 1)).2) + l.stay.getD m 0 * (Vbecak.value l (m + 1)).1 * l.d) * (Vbecak.value l m).2 = (Vbecak.value l m).1 * (l.d * (l.d * (Vbecak.value l (m + 1)).2))
      rw [M.value_step hok (n := j + 1) hlen (by omega), e1, M.value_snd, show l.births.length - m = j + 1 + 1 by omega, show l.d ^ (j + 1 + 1) = l.d ^ (j + 1) * l.d from Nat.pow_succ _ _]
      generalize l.d ^ (j + 1) = X
      generalize (Vbecak.value l (m + 1)).1 = Y
      simp only [Nat.add_mul, Nat.mul_add, Nat.mul_assoc, Nat.mul_comm, Nat.mul_left_comm]
    · rintro σ' H' ⟨v, r1, r2, rfl, s', hv⟩
      rw [show l.ages - 1 - (l.ages - 1 - i) = i by omega] at hv
      exact ⟨_, rfl, k _ _ s' hv⟩
theorem sc_herd_births_to_come : FnScope ["life", "x", "i", "number"] ["life", "x"] (defScope (top 14)) := ⟨rfl, rfl, rfl, by decide +kernel, rfl, by decide +kernel, by decide +kernel⟩
theorem ok_herd_births_to_come {f : Addr} {fd : FuncData} (F : Fun K "herd_births_to_come" "herd_births_to_come" (top 14) f fd) (T : Tx K mg CL CR) (G_fraction : FOk P w K mg base "fraction" 2 ["upper", "lower"] sp_fraction) (G_times : FOk P w K mg base "times" 3 ["a", "b"] sp_times) (G_births_to_come : FOk P w K mg base "births_to_come" 4 ["life", "i"] (sp_births_to_come CL)) (G_added : FOk P w K mg base "added" 4 ["fractions"] sp_added)  :
    FnOk P w K mg base CX0 5 f fd ["life", "x"] (sp_herd_births_to_come CL) := by
  refine F.ok sc_herd_births_to_come (fun vs H Q E h => ?_) (fun cdv A outer s H vs Q E hr h => ?_)
  · obtain ⟨l, lv, x, vx, rfl, hL, hok, ⟨px, rfl, hx⟩, hlen, hbd, k⟩ := h
    rfl
  · obtain ⟨l, lv, x, vx, rfl, hL, hok, ⟨px, rfl, hx⟩, hlen, hbd, k⟩ := h
    refine ⟨_, (pss_one (ps_ret (pe_fn G_added (hr.mono (by decide)) rfl (pa_cons (pe_lc rfl sc_herd_births_to_come.nd (pi_enum rfl T.b_enumerate (pa_cons (pv 1) pa_nil)) (blkOk_by (own := [("i", 2), ("number", 3)]) (by show blkC ["life", "x", "i", "number"] (defScope (top 14)) _ [("i", 2), ("number", 3)] = true; decide +kernel)) (fun _ _ _ _ _ => (pg_pair (K := K) rfl (i := 2) (j := 3) rfl sc_herd_births_to_come.nd rfl rfl rfl rfl)) (fun _ _ _ _ _ => pts_nil) (fun _ _ _ _ _ => (pe_fn G_times (hr.mono (by decide)) rfl (pa_cons (pe_fn G_fraction (hr.mono (by decide)) rfl (pa_cons (pv 3) (pa_cons pe_int pa_nil))) (pa_cons (pe_fn G_births_to_come (hr.mono (by decide)) rfl (pa_cons (pv 0) (pa_cons (pv 2) pa_nil))) pa_nil))))) pa_nil)))), ?_⟩
    obtain ⟨a, dx, pb, ps, rfl, h1, h2, h3⟩ := id hL
    have ha : l.ages = l.births.length := rfl
    have h8 := hok.a8
    have hN : 0 < l.d ^ l.ages := Nat.pow_pos hok.d0
    have hxl : (nums x).length = l.ages := by rw [nums_len, hlen]
    have hx4 : ∀ i, x.getD i 0 ≤ 10000 := fun i => by
      by_cases hi : i < x.length
      · rw [M.getD_of hi]; exact hbd _ (List.getElem_mem hi)
      · have e : x[i]? = none := List.getElem?_eq_none (by omega)
        simp [List.getD, e]
    refine ⟨_, rfl, px, _, rfl, SqL.of hx, fun D hD => lc_enumR (xs := nums x) (fun i => FrA (x.getD i 0 * (Vbecak.value l i).1 * l.d ^ i, l.d ^ l.ages)) (fun i => FrA.mono _) hD (by omega) (SqL.of hx) (fun _ _ => rfl) ?_ ?_⟩
    · intro i u H' Q' hi s' r
      have hlt : i < x.length := by rw [← nums_len x]; exact (List.getElem?_eq_some_iff.mp hi).1
      rw [nums_get hlt] at hi
      cases hi
      refine ⟨_, rfl, x.getD i 0, 1, rfl, by decide, by decide +kernel, fun v1 H1 s1 f1 => ?_⟩
      refine ⟨_, rfl, _, rfl, l, .ref a, i, rfl, LifeA.mono _ _ _ _ _ (s'.trans s1) hL, hok, by omega, fun v2 H2 s2 f2 => ?_⟩
      refine ⟨(x.getD i 0, 1), Vbecak.value l i, v1, v2, rfl, FrA.mono _ _ _ _ ((nw_sub _ _).trans s2) f1, FrA.mono _ _ _ _ (nw_sub _ _) f2, Nat.zero_lt_one, M.value_pos hok _, sm_small (Nat.le_trans (hx4 i) (by decide)) (by decide), M.value_sm hok (by decide) (by decide) (by omega), fun v3 H3 s3 f3 => ?_⟩
      refine r v3 H3 ((s1.trans s2).trans s3) (FrA.congr (Nat.mul_pos Nat.zero_lt_one (M.value_pos hok _)) hN ?_ (FrA.mono _ _ _ _ (nw_left (s1.trans s2)) f3))
      show x.getD i 0 * (Vbecak.value l i).1 * l.d ^ l.ages = x.getD i 0 * (Vbecak.value l i).1 * l.d ^ i * (1 * (Vbecak.value l i).2)
      rw [M.value_snd, Nat.one_mul, show l.d ^ l.ages = l.d ^ i * l.d ^ (l.births.length - i) by rw [← Nat.pow_add]; congr 1; omega]
      simp only [Nat.mul_assoc]
    · intro H2 s2 h2
      rw [hxl] at h2
      refine ⟨l.ages, _, l.d ^ l.ages, .ref D, rfl, LR.mono (fun i => FrA.mono _) _ _ _ (nw_sub _ _) h2, hN, ?_, Ret.at (FrA.mono _) s2 k⟩
      refine ⟨lowbd (Nat.le_trans (M.sg_le (c := 10000 * (8 * (20000 * 400 ^ 8 * 400 ^ 8)) * 400 ^ 8) fun i hi => Nat.mul_le_mul (Nat.mul_le_mul (hx4 i) (M.value_bd hok (by decide) (by decide) hi)) (M.dpow_le hok (by decide) (by omega))) (Nat.le_trans (Nat.mul_le_mul_right _ (show l.ages ≤ 8 from h8)) (by decide +kernel))), lowbd (Nat.le_trans (M.dpow_le hok (by decide) (by omega)) (by decide +kernel))⟩
end
end G

set_option Elab.async false
set_option linter.all false
set_option maxRecDepth 100000
set_option maxHeartbeats 2000000
set_option exponentiation.threshold 100000
namespace G
open PySem PySem.Spec PyProof.Rows L2
def shx (l : Vbecak.Life) (i : Nat) : Nat := Vbecak.born l i * l.d ^ (l.ages - 1 - i)
def sp_share_of_births (CL : Addr) : Sp := fun vs H Q _ => ∃ (l : Vbecak.Life) (lv : V) (i : Nat), vs = [lv, .int (i : Nat)] ∧ LifeA CL l H lv ∧ M.LOk 20 1000 l ∧ i < l.ages ∧ 0 < (Vbecak.net l).1 ∧ Ret H Q (FrA (shx l i, (Vbecak.net l).1))
def sp_shares_above (CL : Addr) : Sp := fun vs H Q _ => ∃ (l : Vbecak.Life) (lv : V) (j : Nat), vs = [lv, .int (j : Nat)] ∧ LifeA CL l H lv ∧ M.LOk 20 1000 l ∧ j + 1 < l.ages ∧ 0 < (Vbecak.net l).1 ∧ Ret H Q (FrA (Vbecak.leaned l j))
def sp_mean_age_at_births (CL : Addr) : Sp := fun vs H Q _ => ∃ (l : Vbecak.Life) (lv : V), vs = [lv] ∧ LifeA CL l H lv ∧ M.LOk 20 1000 l ∧ 0 < (Vbecak.net l).1 ∧ Ret H Q (FrA (Vbecak.meanAge l))
def sp_lessened (CL : Addr) : Sp := fun vs H Q _ => ∃ (l : Vbecak.Life) (lv : V) (k : Nat), vs = [lv, .int (k : Nat)] ∧ LifeA CL l H lv ∧ M.LOk 20 1000 l ∧ k ≤ l.d ∧ Ret H Q (LifeA CL (Vbecak.thinned l k))
def lastsB (l : Vbecak.Life) : Bool := decide ((Vbecak.net l).2 ≤ (Vbecak.net l).1)
def sp_lasts (CL : Addr) : Sp := fun vs H Q _ => ∃ (l : Vbecak.Life) (lv : V), vs = [lv] ∧ LifeA CL l H lv ∧ M.LOk 400 20000 l ∧ ∀ H', Same H H' → Q (.bl (lastsB l)) H'
def sp_bearable_takes (CL : Addr) : Sp := fun vs H Q _ => ∃ (l : Vbecak.Life) (lv : V), vs = [lv] ∧ LifeA CL l H lv ∧ M.LOk 20 1000 l ∧ Ret H Q (LsA ((List.range (l.d + 1)).filter fun k => lastsB (Vbecak.thinned l k)))
def stl (l : Vbecak.Life) : List Nat := (List.range l.ages).map fun i => M.steadyNum l i
def sp_ages_to_one_another (CL : Addr) : Sp := fun vs H Q _ => ∃ (l : Vbecak.Life) (lv : V), vs = [lv] ∧ LifeA CL l H lv ∧ M.LOk 20 1000 l ∧ Ret H Q (LsA ((stl l).map fun a => a / Vbecak.gcdAll (stl l)))
def bearsB (l : Vbecak.Life) (i : Nat) : Bool := decide (0 < l.births.getD i 0 ∧ 0 < Vbecak.reached l i)
def sp_bears (CL : Addr) : Sp := fun vs H Q _ => ∃ (l : Vbecak.Life) (lv : V) (i : Nat), vs = [lv, .int (i : Nat)] ∧ LifeA CL l H lv ∧ M.LOk 20 1000 l ∧ i < l.ages ∧ ∀ H', Same H H' → Q (.bl (bearsB l i)) H'
def sp_births_rhythm (CL : Addr) : Sp := fun vs H Q _ => ∃ (l : Vbecak.Life) (lv : V), vs = [lv] ∧ LifeA CL l H lv ∧ M.LOk 20 1000 l ∧ ∀ H', Same H H' → Q (.int (Vbecak.rhythm l : Nat)) H'
theorem shx_bd {l : Vbecak.Life} (h : M.LOk 20 1000 l) {i : Nat} (hi : i < l.ages) : shx l i ≤ 20000 * 400 ^ 8 * 400 ^ 8 := M.born_term_bd h hi
theorem net_lb {l : Vbecak.Life} (h : M.LOk 20 1000 l) : (Vbecak.net l).1 < 2 ^ 1000 :=
  lowbd (Nat.le_trans (M.net_bd (h.mono (D' := 400) (B' := 20000) (by decide) (by decide)) (by decide) (by decide)) (by decide +kernel))
section
variable {P : Program} {w : World} {K : PySem.W.Frag} {mg : Str → Option Value} {base : Heap} {CL CR : Addr}
theorem sc_share_of_births : FnScope ["life", "i", "at_that_age"] ["life", "i"] (defScope (top 16)) := ⟨rfl, rfl, rfl, by decide +kernel, rfl, by decide +kernel, by decide +kernel⟩
theorem ok_share_of_births {f : Addr} {fd : FuncData} (F : Fun K "share_of_births" "share_of_births" (top 16) f fd) (T : Tx K mg CL CR) (G_fraction : FOk P w K mg base "fraction" 2 ["upper", "lower"] sp_fraction) (G_times : FOk P w K mg base "times" 3 ["a", "b"] sp_times) (G_over : FOk P w K mg base "over" 3 ["a", "b"] sp_over) (G_share_reaching : FOk P w K mg base "share_reaching" 4 ["life", "i"] (sp_share_reaching CL)) (G_births_to_come : FOk P w K mg base "births_to_come" 4 ["life", "i"] (sp_births_to_come CL))  :
    FnOk P w K mg base CX0 5 f fd ["life", "i"] (sp_share_of_births CL) := by
  refine F.ok sc_share_of_births (fun vs H Q E h => ?_) (fun cdv A outer s H vs Q E hr h => ?_)
  · obtain ⟨l, lv, i, rfl, hL, hok0, hi, hR, k⟩ := h
    rfl
  · obtain ⟨l, lv, i, rfl, hL, hok0, hi, hR, k⟩ := h
    refine ⟨_, (pss_cons (ps_set (i := 2) sc_share_of_births.nd rfl (Or.inl rfl) (pe_fn G_times (hr.mono (by decide)) rfl (pa_cons (pe_fn G_fraction (hr.mono (by decide)) rfl (pa_cons (pe_ix ix_list (pe_fld (pv 0) rfl) (pv 1) (fun _ _ => rfl)) (pa_cons (pe_fld (pv 0) rfl) pa_nil))) (pa_cons (pe_fn G_share_reaching (hr.mono (by decide)) rfl (pa_cons (pv 0) (pa_cons (pv 1) pa_nil))) pa_nil))))
      (pss_one (ps_ret (pe_fn G_over (hr.mono (by decide)) rfl (pa_cons (pv 2) (pa_cons (pe_fn G_births_to_come (hr.mono (by decide)) rfl (pa_cons (pv 0) (pa_cons pe_int pa_nil))) pa_nil)))))), ?_⟩
    obtain ⟨a, dx, pb, ps, rfl, h1, h2, h3⟩ := id hL
    have hok := hok0.mono (D' := 400) (B' := 20000) (by decide) (by decide)
    have ha : l.ages = l.births.length := rfl
    have h8 := hok.a8
    have h0 := hok.a0
    refine ⟨_, rfl, a, CL, dx, _, _, rfl, h1, T.clL, T.nL_births, lfs_births _ _ _ _, _, rfl, pb, _, _, _, rfl, rfl, SqL.of h2, at_of (j := i) rfl (nums_get hi), ?_⟩
    refine ⟨_, rfl, a, CL, dx, _, _, rfl, h1, T.clL, T.nL_d, lfs_d _ _ _ _, ?_⟩
    refine ⟨l.births.getD i 0, l.d, rfl, hok.d0, lowbd9 (Nat.le_trans hok.dD (by decide +kernel)), fun v1 H1 s1 f1 => ?_⟩
    refine ⟨_, rfl, _, rfl, l, .ref a, i, rfl, LifeA.mono _ _ _ _ _ s1 hL, hok, hi, fun v2 H2 s2 f2 => ?_⟩
    have sm1 : M.Sm (l.births.getD i 0, l.d) := sm_small (hok.birth i) hok.dD
    have rb := M.reached_bd hok (by decide) hi
    have sm2 : M.Sm (Vbecak.reached l i, l.d ^ i) := ⟨lowbd (Nat.le_trans rb (by decide +kernel)), lowbd (Nat.le_trans (M.dpow_le hok (by decide) (by omega)) (by decide +kernel))⟩
    refine ⟨(l.births.getD i 0, l.d), (Vbecak.reached l i, l.d ^ i), v1, v2, rfl, FrA.mono _ _ _ _ ((nw_sub _ _).trans s2) f1, FrA.mono _ _ _ _ (nw_sub _ _) f2, hok.d0, Nat.pow_pos hok.d0, sm1, sm2, fun v3 H3 s3 f3 => ?_⟩
    have t3 : Same H H3 := (s1.trans s2).trans s3
    refine ⟨_, rfl, _, rfl, l, .ref a, 0, rfl, LifeA.mono _ _ _ _ _ t3 hL, hok, by omega, fun v4 H4 s4 f4 => ?_⟩
    have sm3 : M.Sm (l.births.getD i 0 * Vbecak.reached l i, l.d * l.d ^ i) := ⟨lowbd (Nat.le_trans (Nat.mul_le_mul (hok.birth i) rb) (by decide +kernel)), lowbd (Nat.le_trans (Nat.mul_le_mul hok.dD (M.dpow_le hok (by decide) (by omega))) (by decide +kernel))⟩
    refine ⟨(l.births.getD i 0 * Vbecak.reached l i, l.d * l.d ^ i), Vbecak.value l 0, v3, v4, rfl, FrA.mono _ _ _ _ ((nw_sub _ _).trans s4) f3, FrA.mono _ _ _ _ (nw_sub _ _) f4, Nat.mul_pos hok.d0 (Nat.pow_pos hok.d0), M.value_pos hok 0, hR, sm3, M.value_sm hok (by decide) (by decide) (by omega), fun v5 H5 s5 f5 => ?_⟩
    refine k v5 H5 ((t3.trans s4).trans s5) (FrA.congr (Nat.mul_pos (Nat.mul_pos hok.d0 (Nat.pow_pos hok.d0)) hR) hR ?_ (FrA.mono _ _ _ _ (nw_left (t3.trans s4)) f5))
    show l.births.getD i 0 * Vbecak.reached l i * l.d ^ l.ages * (Vbecak.net l).1 = shx l i * (l.d * l.d ^ i * (Vbecak.net l).1)
    rw [M.pow_split l.d hi]
    unfold shx Vbecak.born
    simp only [Nat.mul_assoc, Nat.mul_comm, Nat.mul_left_comm]
theorem sc_shares_above : FnScope ["life", "j", "i"] ["life", "j"] (defScope (top 17)) := ⟨rfl, rfl, rfl, by decide +kernel, rfl, by decide +kernel, by decide +kernel⟩
theorem ok_shares_above {f : Addr} {fd : FuncData} (F : Fun K "shares_above" "shares_above" (top 17) f fd) (T : Tx K mg CL CR) (G_share_of_births : FOk P w K mg base "share_of_births" 5 ["life", "i"] (sp_share_of_births CL)) (G_added : FOk P w K mg base "added" 4 ["fractions"] sp_added)  :
    FnOk P w K mg base CX0 6 f fd ["life", "j"] (sp_shares_above CL) := by
  refine F.ok sc_shares_above (fun vs H Q E h => ?_) (fun cdv A outer s H vs Q E hr h => ?_)
  · obtain ⟨l, lv, j, rfl, hL, hok, hj, hR, k⟩ := h
    rfl
  · obtain ⟨l, lv, j, rfl, hL, hok, hj, hR, k⟩ := h
    refine ⟨_, (pss_one (ps_ret (pe_fn G_added (hr.mono (by decide)) rfl (pa_cons (pe_lc rfl sc_shares_above.nd (pi_range2 rfl T.b_range (pa_cons (pe_op op_add (pv 1) pe_int) (pa_cons (pe_fld (pv 0) rfl) pa_nil))) (blkOk_by (own := [("i", 2)]) (by show blkC ["life", "j", "i"] (defScope (top 17)) _ [("i", 2)] = true; decide +kernel)) (fun _ _ _ _ _ => (pg_name (i := 2) sc_shares_above.nd rfl (Or.inl rfl))) (fun _ _ _ _ _ => pts_nil) (fun _ _ _ _ _ => (pe_fn G_share_of_births (hr.mono (by decide)) rfl (pa_cons (pv 0) (pa_cons (pv 2) pa_nil))))) pa_nil)))), ?_⟩
    obtain ⟨a, dx, pb, ps, rfl, h1, h2, h3⟩ := id hL
    have ha : l.ages = l.births.length := rfl
    have h8 := hok.a8
    refine ⟨_, rfl, _, _, rfl, rfl, _, rfl, a, CL, dx, _, _, rfl, h1, T.clL, T.nL_ages, lfs_ages _ _ _ _, _, _, rfl, ⟨by omega, by omega, by omega, by omega⟩, fun D hD => ?_⟩
    have en : (((l.ages : Nat) : Int) - ((j : Nat) + 1)).toNat = l.ages - (j + 1) := by omega
    rw [en]
    refine lc_rangeR (n := l.ages - (j + 1)) (fun i => FrA (shx l (j + 1 + i), (Vbecak.net l).1)) (fun i => FrA.mono _) hD (by omega) (fun _ => rfl) ?_ ?_
    · intro i H' Q' hi s' r
      refine ⟨_, rfl, _, rfl, l, .ref a, j + 1 + i, rfl, LifeA.mono _ _ _ _ _ s' hL, hok, by omega, hR, fun v H2 s2 f2 => r v H2 s2 f2⟩
    · intro H2 s2 h2
      have e : Vbecak.leaned l j = (M.sg (l.ages - (j + 1)) (fun i => shx l (j + 1 + i)), (Vbecak.net l).1) := by
        unfold Vbecak.leaned
        rw [M.leaned_sum l (by omega)]
        rfl
      refine ⟨l.ages - (j + 1), fun i => shx l (j + 1 + i), (Vbecak.net l).1, .ref D, rfl, LR.mono (fun i => FrA.mono _) _ _ _ (nw_sub _ _) h2, hR, ⟨?_, net_lb hok⟩, ?_⟩
      · exact lowbd (Nat.le_trans (M.sg_le (c := 20000 * 400 ^ 8 * 400 ^ 8) fun i hi => shx_bd hok (by omega)) (Nat.le_trans (Nat.mul_le_mul_right _ (show l.ages - (j + 1) ≤ 8 by omega)) (by decide +kernel)))
      · rw [← e]; exact Ret.at (FrA.mono _) s2 k
theorem sc_mean_age_at_births : FnScope ["life", "i"] ["life"] (defScope (top 18)) := ⟨rfl, rfl, rfl, by decide +kernel, rfl, by decide +kernel, by decide +kernel⟩
theorem ok_mean_age_at_births {f : Addr} {fd : FuncData} (F : Fun K "mean_age_at_births" "mean_age_at_births" (top 18) f fd) (T : Tx K mg CL CR) (G_fraction : FOk P w K mg base "fraction" 2 ["upper", "lower"] sp_fraction) (G_times : FOk P w K mg base "times" 3 ["a", "b"] sp_times) (G_share_of_births : FOk P w K mg base "share_of_births" 5 ["life", "i"] (sp_share_of_births CL)) (G_added : FOk P w K mg base "added" 4 ["fractions"] sp_added)  :
    FnOk P w K mg base CX0 6 f fd ["life"] (sp_mean_age_at_births CL) := by
  refine F.ok sc_mean_age_at_births (fun vs H Q E h => ?_) (fun cdv A outer s H vs Q E hr h => ?_)
  · obtain ⟨l, lv, rfl, hL, hok, hR, k⟩ := h
    rfl
  · obtain ⟨l, lv, rfl, hL, hok, hR, k⟩ := h
    refine ⟨_, (pss_one (ps_ret (pe_fn G_added (hr.mono (by decide)) rfl (pa_cons (pe_lc rfl sc_mean_age_at_births.nd (pi_range1 rfl T.b_range (pa_cons (pe_fld (pv 0) rfl) pa_nil)) (blkOk_by (own := [("i", 1)]) (by show blkC ["life", "i"] (defScope (top 18)) _ [("i", 1)] = true; decide +kernel)) (fun _ _ _ _ _ => (pg_name (i := 1) sc_mean_age_at_births.nd rfl (Or.inl rfl))) (fun _ _ _ _ _ => pts_nil) (fun _ _ _ _ _ => (pe_fn G_times (hr.mono (by decide)) rfl (pa_cons (pe_fn G_fraction (hr.mono (by decide)) rfl (pa_cons (pe_op op_add (pv 1) pe_int) (pa_cons pe_int pa_nil))) (pa_cons (pe_fn G_share_of_births (hr.mono (by decide)) rfl (pa_cons (pv 0) (pa_cons (pv 1) pa_nil))) pa_nil))))) pa_nil)))), ?_⟩
    obtain ⟨a, dx, pb, ps, rfl, h1, h2, h3⟩ := id hL
    have ha : l.ages = l.births.length := rfl
    have h8 := hok.a8
    refine ⟨_, rfl, a, CL, dx, _, _, rfl, h1, T.clL, T.nL_ages, lfs_ages _ _ _ _, (l.ages : Nat), rfl, by omega, by omega, fun D hD => lc_rangeR (n := l.ages) (fun i => FrA ((i + 1) * Vbecak.born l i * l.d ^ (l.ages - 1 - i), (Vbecak.net l).1)) (fun i => FrA.mono _) hD (by omega) (fun _ => rfl) ?_ ?_⟩
    · intro i H' Q' hi s' r
      refine ⟨_, rfl, _, _, rfl, rfl, i + 1, 1, (by rw [Int.zero_add]; rfl), by decide, by decide +kernel, fun v1 H1 s1 f1 => ?_⟩
      refine ⟨_, rfl, _, rfl, l, .ref a, i, (by rw [Int.zero_add]; rfl), LifeA.mono _ _ _ _ _ (s'.trans s1) hL, hok, hi, hR, fun v2 H2 s2 f2 => ?_⟩
      have sm2 : M.Sm (shx l i, (Vbecak.net l).1) := ⟨lowbd (Nat.le_trans (shx_bd hok hi) (by decide +kernel)), net_lb hok⟩
      refine ⟨(i + 1, 1), (shx l i, (Vbecak.net l).1), v1, v2, rfl, FrA.mono _ _ _ _ ((nw_sub _ _).trans s2) f1, FrA.mono _ _ _ _ (nw_sub _ _) f2, Nat.zero_lt_one, hR, sm_small (by omega) (by decide), sm2, fun v3 H3 s3 f3 => ?_⟩
      refine r v3 H3 ((s1.trans s2).trans s3) (FrA.congr (Nat.mul_pos Nat.zero_lt_one hR) hR ?_ (FrA.mono _ _ _ _ (nw_left (s1.trans s2)) f3))
      show (i + 1) * shx l i * (Vbecak.net l).1 = (i + 1) * Vbecak.born l i * l.d ^ (l.ages - 1 - i) * (1 * (Vbecak.net l).1)
      unfold shx
      rw [Nat.one_mul]
      simp only [Nat.mul_assoc]
    · intro H2 s2 h2
      refine ⟨l.ages, _, (Vbecak.net l).1, .ref D, rfl, LR.mono (fun i => FrA.mono _) _ _ _ (nw_sub _ _) h2, hR, ⟨?_, net_lb hok⟩, Ret.at (FrA.mono _) s2 k⟩
      refine lowbd (Nat.le_trans (M.sg_le (c := 8 * (20000 * 400 ^ 8 * 400 ^ 8)) fun i hi => ?_) (Nat.le_trans (Nat.mul_le_mul_right _ (show l.ages ≤ 8 from h8)) (by decide +kernel)))
      rw [Nat.mul_assoc]
      exact Nat.mul_le_mul (by omega) (shx_bd hok hi)
theorem sc_lessened : FnScope ["life", "k", "left", "births", "stays", "number"] ["life", "k"] (defScope (top 19)) := ⟨rfl, rfl, rfl, by decide +kernel, rfl, by decide +kernel, by decide +kernel⟩
theorem ok_lessened {f : Addr} {fd : FuncData} (F : Fun K "lessened" "lessened" (top 19) f fd) (T : Tx K mg CL CR) (G_Life : COk P w K mg base "Life" CL 1 ["self", "d", "births", "stays"] (sp_LifeInit CL))  :
    FnOk P w K mg base CX0 3 f fd ["life", "k"] (sp_lessened CL) := by
  refine F.ok sc_lessened (fun vs H Q E h => ?_) (fun cdv A outer s H vs Q E hr h => ?_)
  · obtain ⟨l, lv, k, rfl, ⟨a, dx, pb, ps, rfl, h1, h2, h3⟩, hok, hk, kk⟩ := h
    rfl
  · obtain ⟨l, lv, k, rfl, ⟨a, dx, pb, ps, rfl, h1, h2, h3⟩, hok, hk, kk⟩ := h
    refine ⟨_, (pss_cons (ps_set (i := 2) sc_lessened.nd rfl (Or.inr rfl) (pe_op op_sub (pe_fld (pv 0) rfl) (pv 1)))
      (pss_cons (ps_setLc (i := 3) rfl sc_lessened.nd rfl rfl (sw_true rfl rfl rfl (by decide +kernel)) (pi_list (pe_fld (pv 0) rfl)) (blkOk_by (own := [("number", 5)]) (by show blkC ["life", "k", "left", "births", "stays", "number"] (defScope (top 19)) _ [("number", 5)] = true; decide +kernel)) (fun _ _ _ _ _ => (pg_name (i := 5) sc_lessened.nd rfl (Or.inl rfl))) (fun _ _ _ _ _ => pts_nil) (fun _ _ _ _ _ => (pe_op op_mulB (pv 2) (pv 5))))
      (pss_cons (ps_setLc (i := 4) rfl sc_lessened.nd rfl rfl (sw_true rfl rfl rfl (by decide +kernel)) (pi_list (pe_fld (pv 0) rfl)) (blkOk_by (own := [("number", 5)]) (by show blkC ["life", "k", "left", "births", "stays", "number"] (defScope (top 19)) _ [("number", 5)] = true; decide +kernel)) (fun _ _ _ _ _ => (pg_name (i := 5) sc_lessened.nd rfl (Or.inl rfl))) (fun _ _ _ _ _ => pts_nil) (fun _ _ _ _ _ => (pe_op op_mulB (pv 2) (pv 5))))
      (pss_one (ps_ret (pe_mk G_Life (hr.mono (by decide)) rfl (pa_cons (pe_op op_mulB (pe_fld (pv 0) rfl) (pe_fld (pv 0) rfl)) (pa_cons (pv 3) (pa_cons (pv 4) pa_nil))))))))), ?_⟩
    have h8 := hok.a8
    have hsl := hok.sl
    have hd := hok.dD
    have el : ((l.d : Nat) : Int) - (k : Nat) = ((l.d - k : Nat) : Int) := by omega
    have mb : ∀ n : Nat, n ≤ 1000 → CMulB ((l.d - k : Nat) : Int) (n : Nat) := fun n hn => ⟨by rw [Int.natAbs_natCast]; exact Nat.lt_of_le_of_lt (show l.d - k ≤ 1000 by omega) (by decide +kernel), by rw [Int.natAbs_natCast]; exact Nat.lt_of_le_of_lt hn (by decide +kernel)⟩
    refine ⟨_, rfl, a, CL, dx, _, _, rfl, h1, T.clL, T.nL_d, lfs_d _ _ _ _, _, rfl, _, _, rfl, rfl, ?_⟩
    dsimp only
    rw [el]
    refine ⟨_, rfl, a, CL, dx, _, _, rfl, h1, T.clL, T.nL_births, lfs_births _ _ _ _, pb, rfl, ⟨_, SqL.of h2⟩, fun q1 hD => lc_listR (xs := nums l.births) (fun i _ u => u = .int ((l.births.getD i 0 * (l.d - k) : Nat) : Nat)) (fun i _ _ _ _ h => h) hD (by rw [nums_len]; omega) (SqL.of h2) (fun _ => rfl) ?_ ?_⟩
    · intro i u H' Q' hi s' r
      have hlt : i < l.births.length := by rw [← nums_len l.births]; exact (List.getElem?_eq_some_iff.mp hi).1
      rw [nums_get hlt] at hi
      cases hi
      refine ⟨_, rfl, _, rfl, _, _, rfl, rfl, mb _ (hok.birth i), r _ _ (Same.refl _) ?_⟩
      rw [Nat.mul_comm (l.births.getD i 0)]
      rfl
    intro H1 s1 r1
    rw [nums_len] at r1
    obtain ⟨q1', e1, hq1⟩ := r1.nums
    cases e1
    refine ⟨_, rfl, a, CL, dx, _, _, rfl, s1 _ _ h1, T.clL, T.nL_stays, lfs_stays _ _ _ _, ps, rfl, ⟨_, SqL.of (s1 _ _ h3)⟩, fun q2 hD => lc_listR (xs := nums l.stay) (fun i _ u => u = .int ((l.stay.getD i 0 * (l.d - k) : Nat) : Nat)) (fun i _ _ _ _ h => h) hD (by rw [nums_len]; omega) (SqL.of (s1 _ _ h3)) (fun _ => rfl) ?_ ?_⟩
    · intro i u H' Q' hi s' r
      have hlt : i < l.stay.length := by rw [← nums_len l.stay]; exact (List.getElem?_eq_some_iff.mp hi).1
      rw [nums_get hlt] at hi
      cases hi
      refine ⟨_, rfl, _, rfl, _, _, rfl, rfl, mb _ (Nat.le_trans (hok.stay_le i) (by omega)), r _ _ (Same.refl _) ?_⟩
      rw [Nat.mul_comm (l.stay.getD i 0)]
      rfl
    intro H2 s2 r2
    rw [nums_len] at r2
    obtain ⟨q2', e2, hq2⟩ := r2.nums
    cases e2
    have t2 : Same H H2 := s1.trans s2
    have md : CMulB ((l.d : Nat) : Int) (l.d : Nat) := ⟨by rw [Int.natAbs_natCast]; exact Nat.lt_of_le_of_lt hd (by decide +kernel), by rw [Int.natAbs_natCast]; exact Nat.lt_of_le_of_lt hd (by decide +kernel)⟩
    refine ⟨_, rfl, a, CL, dx, _, _, rfl, t2 _ _ h1, T.clL, T.nL_d, lfs_d _ _ _ _, _, rfl, a, CL, dx, _, _, rfl, t2 _ _ h1, T.clL, T.nL_d, lfs_d _ _ _ _, _, _, rfl, rfl, md, _, rfl, _, rfl, fun x dx' nx ndx nex => ?_⟩
    have g1 := s2 _ _ (nw_sub _ _ _ _ hq1)
    have g2 := nw_sub _ _ _ _ hq2
    have u1 : ∀ {b : Addr} {o : HO}, H2 b = some o → (upd (upd H2 dx' (.own x)) x (.ins CL dx' [])) b = some o := fun {b o} e => by rw [upd_ne (ne_of_none e nx), upd_ne (ne_of_none e ndx)]; exact e
    refine ⟨x, dx', l.d * l.d, q1, q2, _, _, rfl, upd_same, u1 g1, u1 g2, fun H3 hx3 kp => ⟨rfl, ?_⟩⟩
    have s3 : Same H2 H3 := fun b o e => kp b o (u1 e) (ne_of_none e nx)
    refine kk _ _ (t2.trans s3) ⟨x, dx', q1, q2, rfl, ?_, ?_, ?_⟩
    · rw [nw_new (t2.free nx), hx3]
      have e1 : ((List.range l.births.length).map fun i => l.births.getD i 0 * (l.d - k)).length = (Vbecak.thinned l k).ages := by
        show _ = (l.births.map _).length
        rw [List.length_map, List.length_map, List.length_range]
      rw [e1]
      rfl
    · have e : (Vbecak.thinned l k).births = (List.range l.births.length).map fun i => l.births.getD i 0 * (l.d - k) := by
        show l.births.map _ = _
        refine List.ext_getElem (by simp) fun i a1 a2 => ?_
        rw [List.getElem_map, List.getElem_map, List.getElem_range, M.getD_of]
      rw [e]
      exact nw_right (s2.trans s3) _ _ hq1
    · have e : (Vbecak.thinned l k).stay = (List.range l.stay.length).map fun i => l.stay.getD i 0 * (l.d - k) := by
        show l.stay.map _ = _
        refine List.ext_getElem (by simp) fun i a1 a2 => ?_
        rw [List.getElem_map, List.getElem_map, List.getElem_range, M.getD_of]
      rw [e]
      exact nw_left s1 _ _ (nw_right s3 _ _ hq2)
theorem sc_lasts : FnScope ["life", "net"] ["life"] (defScope (top 20)) := ⟨rfl, rfl, rfl, by decide +kernel, rfl, by decide +kernel, by decide +kernel⟩
theorem ok_lasts {f : Addr} {fd : FuncData} (F : Fun K "lasts" "lasts" (top 20) f fd) (T : Tx K mg CL CR) (G_births_to_come : FOk P w K mg base "births_to_come" 4 ["life", "i"] (sp_births_to_come CL))  :
    FnOk P w K mg base CX0 5 f fd ["life"] (sp_lasts CL) := by
  refine F.ok sc_lasts (fun vs H Q E h => ?_) (fun cdv A outer s H vs Q E hr h => ?_)
  · obtain ⟨l, lv, rfl, hL, hok, k⟩ := h
    rfl
  · obtain ⟨l, lv, rfl, hL, hok, k⟩ := h
    refine ⟨_, (pss_cons (ps_set (i := 1) sc_lasts.nd rfl (Or.inl rfl) (pe_fn G_births_to_come (hr.mono (by decide)) rfl (pa_cons (pv 0) (pa_cons pe_int pa_nil))))
      (pss_one (ps_ret (pe_cmpR op_ge (pe_ix ix_tup (pv 1) pe_int (fun _ _ => rfl)) (pe_ix ix_tup (pv 1) pe_int (fun _ _ => rfl)) (nomark _))))), ?_⟩
    have h0 := hok.a0
    have ha : l.ages = l.births.length := rfl
    refine ⟨_, rfl, l, lv, 0, rfl, hL, hok, by omega, fun v1 H1 s1 ⟨a1, e1, g1⟩ => ?_⟩
    subst e1
    have g1 := nw_sub _ _ _ _ g1
    refine ⟨_, rfl, _, _, _, _, rfl, rfl, SqT.of g1, (atI_nat (j := 0) rfl), _, rfl, _, _, _, _, rfl, rfl, SqT.of g1, (atI_nat (j := 1) rfl), _, _, rfl, rfl, ?_⟩
    have e : decide (((Vbecak.lowest (Vbecak.value l 0)).2 : Int) ≤ ((Vbecak.lowest (Vbecak.value l 0)).1 : Int)) = lastsB l := by
      unfold lastsB
      rw [decide_eq_decide, Int.ofNat_le]
      exact M.lowest_le_iff (M.value_pos hok 0)
    dsimp only
    rw [e]
    exact k _ s1
theorem sc_bearable_takes : FnScope ["life", "k"] ["life"] (defScope (top 21)) := ⟨rfl, rfl, rfl, by decide +kernel, rfl, by decide +kernel, by decide +kernel⟩
theorem ok_bearable_takes {f : Addr} {fd : FuncData} (F : Fun K "bearable_takes" "bearable_takes" (top 21) f fd) (T : Tx K mg CL CR) (G_lessened : FOk P w K mg base "lessened" 3 ["life", "k"] (sp_lessened CL)) (G_lasts : FOk P w K mg base "lasts" 5 ["life"] (sp_lasts CL))  :
    FnOk P w K mg base CX0 6 f fd ["life"] (sp_bearable_takes CL) := by
  refine F.ok sc_bearable_takes (fun vs H Q E h => ?_) (fun cdv A outer s H vs Q E hr h => ?_)
  · obtain ⟨l, lv, rfl, hL, hok, k⟩ := h
    rfl
  · obtain ⟨l, lv, rfl, hL, hok, k⟩ := h
    refine ⟨_, (pss_one (ps_ret (pe_lc rfl sc_bearable_takes.nd (pi_range1 rfl T.b_range (pa_cons (pe_op op_add (pe_fld (pv 0) rfl) pe_int) pa_nil)) (blkOk_by (own := [("k", 1)]) (by show blkC ["life", "k"] (defScope (top 21)) _ [("k", 1)] = true; decide +kernel)) (fun _ _ _ _ _ => (pg_name (i := 1) sc_bearable_takes.nd rfl (Or.inl rfl))) (fun _ _ _ _ _ => (pts_one (pt_val (pe_fn G_lasts (hr.mono (by decide)) rfl (pa_cons (pe_fn G_lessened (hr.mono (by decide)) rfl (pa_cons (pv 0) (pa_cons (pv 1) pa_nil))) pa_nil))))) (fun _ _ _ _ _ => (pv 1))))), ?_⟩
    obtain ⟨a, dx, pb, ps, rfl, h1, h2, h3⟩ := id hL
    have hd := hok.dD
    refine ⟨_, rfl, a, CL, dx, _, _, rfl, h1, T.clL, T.nL_d, lfs_d _ _ _ _, _, _, rfl, rfl, _, rfl, by omega, by omega, fun D hD => ?_⟩
    have en : (((l.d : Nat) : Int) + 1).toNat = l.d + 1 := by omega
    rw [en]
    refine lc_range (n := l.d + 1) (fun i H' => Same H (off D H') ∧ H' D = some (.lst (nums ((List.range i).filter fun k => lastsB (Vbecak.thinned l k))))) ⟨(Lc.start (R := fun _ _ _ => True) hD).same, upd_same⟩ ?_ ?_
    · rintro i H' hi ⟨s', hD'⟩
      have sH : Same H H' := s'.trans (off_sub _ _)
      refine ⟨rfl, _, rfl, _, rfl, l, .ref a, i, (by rw [Int.zero_add]; rfl), LifeA.mono _ _ _ _ _ sH hL, hok, by omega, fun v1 H1 s1 g1 => ?_⟩
      refine ⟨Vbecak.thinned l i, v1, rfl, LifeA.mono _ _ _ _ _ (nw_sub _ _) g1, M.thin_ok hok i, fun H2 s2 => ⟨_, rfl, ?_⟩⟩
      have so : Same H (off D H2) := fun b o e => by
        have nb : b ≠ D := ne_of_none e hD
        rw [off_ne nb]
        exact s2 _ _ (s1 _ _ (sH _ _ e))
      have hD2 := s2 _ _ (s1 _ _ hD')
      rw [List.range_succ, List.filter_append]
      by_cases hb : lastsB (Vbecak.thinned l i) = true
      · refine ifT hb ?_
        refine ⟨_, rfl, _, hD2, small_lt ?_, fun b o e => ?_, ?_⟩
        · rw [nums_len]
          exact Nat.le_trans (List.length_filter_le _ _) (by rw [List.length_range]; omega)
        · have nb : b ≠ D := ne_of_none e hD
          rw [off_ne nb, upd_ne nb]
          exact sH.trans (s1.trans s2) _ _ e
        · rw [upd_same]
          have : [i].filter (fun k => lastsB (Vbecak.thinned l k)) = [i] := by simp [hb]
          rw [this, Int.zero_add]
          unfold nums
          rw [List.map_append]
          rfl
      · refine ifF (by simpa using hb) ?_
        refine ⟨so, ?_⟩
        have : [i].filter (fun k => lastsB (Vbecak.thinned l k)) = [] := by simp [hb]
        rw [this, List.append_nil]
        exact hD2
    · rintro H' ⟨s', hD'⟩
      exact k _ _ (s'.trans (off_sub _ _)) ⟨D, rfl, by rw [nw_new hD]; exact hD'⟩
theorem sc_ages_to_one_another : FnScope ["life", "shares", "scale", "numbers", "divisor", "i", "number", "upper", "lower"] ["life"] (defScope (top 22)) := ⟨rfl, rfl, rfl, by decide +kernel, rfl, by decide +kernel, by decide +kernel⟩
theorem ok_ages_to_one_another {f : Addr} {fd : FuncData} (F : Fun K "ages_to_one_another" "ages_to_one_another" (top 22) f fd) (T : Tx K mg CL CR) (G_share_reaching : FOk P w K mg base "share_reaching" 4 ["life", "i"] (sp_share_reaching CL)) (G_power : FOk P w K mg base "power" 1 ["base", "exponent"] sp_power) (G_common_divisor_of : FOk P w K mg base "common_divisor_of" 2 ["numbers"] sp_common_divisor_of)  :
    FnOk P w K mg base CX0 5 f fd ["life"] (sp_ages_to_one_another CL) := by
  refine F.ok sc_ages_to_one_another (fun vs H Q E h => ?_) (fun cdv A outer s H vs Q E hr h => ?_)
  · obtain ⟨l, lv, rfl, hL, hok0, k⟩ := h
    rfl
  · obtain ⟨l, lv, rfl, hL, hok0, k⟩ := h
    refine ⟨_, (pss_cons (ps_setLc (i := 1) rfl sc_ages_to_one_another.nd rfl rfl (sw_true rfl rfl rfl (by decide +kernel)) (pi_range1 rfl T.b_range (pa_cons (pe_fld (pv 0) rfl) pa_nil)) (blkOk_by (own := [("i", 5)]) (by show blkC ["life", "shares", "scale", "numbers", "divisor", "i", "number", "upper", "lower"] (defScope (top 22)) _ [("i", 5)] = true; decide +kernel)) (fun _ _ _ _ _ => (pg_name (i := 5) sc_ages_to_one_another.nd rfl (Or.inl rfl))) (fun _ _ _ _ _ => pts_nil) (fun _ _ _ _ _ => (pe_fn G_share_reaching (hr.mono (by decide)) rfl (pa_cons (pv 0) (pa_cons (pv 5) pa_nil)))))
      (pss_cons (ps_set (i := 2) sc_ages_to_one_another.nd rfl (Or.inr rfl) (pe_fn G_power (hr.mono (by decide)) rfl (pa_cons (pe_fld (pv 0) rfl) (pa_cons (pe_op op_sub (pe_fld (pv 0) rfl) pe_int) pa_nil))))
      (pss_cons (ps_setLc (i := 3) rfl sc_ages_to_one_another.nd rfl rfl (sw_true rfl rfl rfl (by decide +kernel)) (pi_list (pv 1)) (blkOk_by (own := [("upper", 7), ("lower", 8)]) (by show blkC ["life", "shares", "scale", "numbers", "divisor", "i", "number", "upper", "lower"] (defScope (top 22)) _ [("upper", 7), ("lower", 8)] = true; decide +kernel)) (fun _ _ _ _ _ => (pg_pair (K := K) rfl (i := 7) (j := 8) rfl sc_ages_to_one_another.nd rfl rfl rfl rfl)) (fun _ _ _ _ _ => pts_nil) (fun _ _ _ _ _ => (pe_op op_fdivB (pe_op op_mulB (pv 2) (pv 7)) (pv 8))))
      (pss_cons (ps_set (i := 4) sc_ages_to_one_another.nd rfl (Or.inr rfl) (pe_fn G_common_divisor_of (hr.mono (by decide)) rfl (pa_cons (pv 3) pa_nil)))
      (pss_one (ps_ret (pe_lc rfl sc_ages_to_one_another.nd (pi_list (pv 3)) (blkOk_by (own := [("number", 6)]) (by show blkC ["life", "shares", "scale", "numbers", "divisor", "i", "number", "upper", "lower"] (defScope (top 22)) _ [("number", 6)] = true; decide +kernel)) (fun _ _ _ _ _ => (pg_name (i := 6) sc_ages_to_one_another.nd rfl (Or.inl rfl))) (fun _ _ _ _ _ => pts_nil) (fun _ _ _ _ _ => (pe_op op_fdivB (pv 6) (pv 4)))))))))), ?_⟩
    obtain ⟨a, dx, pb, ps, rfl, h1, h2, h3⟩ := id hL
    have hok := hok0.mono (D' := 400) (B' := 20000) (by decide) (by decide)
    have ha : l.ages = l.births.length := rfl
    have h8 := hok.a8
    have h0 := hok.a0
    have hd := hok.dD
    refine ⟨_, rfl, a, CL, dx, _, _, rfl, h1, T.clL, T.nL_ages, lfs_ages _ _ _ _, (l.ages : Nat), rfl, by omega, by omega, fun D hD => lc_rangeR (n := l.ages) (fun i => FrA (Vbecak.reached l i, l.d ^ i)) (fun i => FrA.mono _) hD (by omega) (fun _ => rfl) ?_ ?_⟩
    · intro i H' Q' hi s' r
      exact ⟨_, rfl, _, rfl, l, .ref a, i, (by rw [Int.zero_add]; rfl), LifeA.mono _ _ _ _ _ s' hL, hok, hi, r⟩
    intro H1 s1 g1
    obtain ⟨q1, us, e1, hq1, hl1, hu1⟩ := LR.mono (fun i => FrA.mono _) _ _ _ (nw_sub _ _) g1
    cases e1
    refine ⟨_, rfl, a, CL, dx, _, _, rfl, s1 _ _ h1, T.clL, T.nL_d, lfs_d _ _ _ _, _, rfl, a, CL, dx, _, _, rfl, s1 _ _ h1, T.clL, T.nL_ages, lfs_ages _ _ _ _, _, _, rfl, rfl, l.d, l.ages - 1, ?_, by omega, by omega, ?_⟩
    · have e : ((l.ages : Nat) : Int) - 1 = ((l.ages - 1 : Nat) : Int) := by omega
      dsimp only
      rw [e]; rfl
    refine ⟨_, rfl, D, rfl, ⟨_, SqL.of hq1⟩, fun D2 hD2 => ?_⟩
    refine lc_list (xs := us) (fun i H' => ∃ ws, ws.length = i ∧ Lc H1 D2 ws (fun i _ u => u = .int (M.steadyNum l i : Nat)) H') ⟨[], rfl, Lc.start hD2⟩ (fun i H' _ ⟨ws, _, x⟩ => x.sm.seq (SqL.of hq1)) ?_ ?_
    · rintro i u H' hi ⟨ws, hw, x⟩
      have hlt : i < l.ages := by rw [← hl1]; exact (List.getElem?_eq_some_iff.mp hi).1
      obtain ⟨q, eq, hq⟩ := hu1 i u hi
      subst eq
      have hp : 0 < (Vbecak.reached l i, l.d ^ i).2 := Nat.pow_pos hok.d0
      have m1 : CMulB ((l.d ^ (l.ages - 1) : Nat) : Int) ((Vbecak.lowest (Vbecak.reached l i, l.d ^ i)).1 : Nat) := by
        refine ⟨?_, ?_⟩
        · rw [Int.natAbs_natCast]; exact Nat.lt_of_le_of_lt (M.dpow_le hok (by decide) (by omega)) (by decide +kernel)
        · rw [Int.natAbs_natCast]; exact Nat.lt_of_le_of_lt (Nat.le_trans (M.lowest_fst_le _) (M.reached_bd hok (by decide) hlt)) (by decide +kernel)
      have d1 : CDivB (((l.d ^ (l.ages - 1) : Nat) : Int) * ((Vbecak.lowest (Vbecak.reached l i, l.d ^ i)).1 : Nat)) ((Vbecak.lowest (Vbecak.reached l i, l.d ^ i)).2 : Nat) := by
        refine ⟨?_, ?_⟩
        · have := M.lowest_snd_pos hp; omega
        · rw [Int.natAbs_natCast]; exact lowbd9 (Nat.le_trans (M.lowest_snd_le _) (Nat.le_trans (M.dpow_le hok (by decide) (show i ≤ 8 by omega)) (by decide +kernel)))
      refine ⟨q, _, rfl, SqT.of (x.sm _ _ hq), rfl, _, _, rfl, _, _, rfl, rfl, rfl, ?_⟩
      refine ⟨_, rfl, _, rfl, _, _, rfl, rfl, m1, _, rfl, _, _, rfl, rfl, d1, ws, x.at_, small_lt (by omega), _, by simp [hw], x.push (fun i _ _ _ _ h => h) (Same.refl _) ?_⟩
      rw [hw, ← M.steady_num hok hlt]
      rfl
    · rintro H2 ⟨ws, hw, x⟩
      rw [hl1] at hw
      have s2 : Same H1 H2 := x.sm
      obtain ⟨q2, e2, hq2⟩ := (x.done (fun i _ _ _ _ h => h) hD2 hw).nums
      cases e2
      have g2 : H2 D2 = some (.lst (nums (stl l))) := nw_sub _ _ _ _ hq2
      refine ⟨_, rfl, stl l, .ref D2, rfl, ⟨D2, rfl, g2⟩, ?_⟩
      refine ⟨_, rfl, D2, rfl, ⟨_, SqL.of g2⟩, fun D3 hD3 => lc_listR (xs := nums (stl l)) (fun i _ u => u = .int ((stl l).getD i 0 / Vbecak.gcdAll (stl l) : Nat)) (fun i _ _ _ _ h => h) hD3 (by rw [nums_len]; unfold stl; rw [List.length_map, List.length_range]; omega) (SqL.of g2) (fun _ => rfl) ?_ ?_⟩
      · intro i u H' Q' hi s' r
        have hlt : i < (stl l).length := by rw [← nums_len]; exact (List.getElem?_eq_some_iff.mp hi).1
        rw [nums_get hlt] at hi
        cases hi
        have gp : 0 < Vbecak.gcdAll (stl l) := by
          refine M.gcd_pos_of _ _ (.inr ⟨M.steadyNum l 0, List.mem_map.mpr ⟨0, List.mem_range.mpr (by omega), rfl⟩, ?_⟩)
          unfold M.steadyNum
          rw [M.reached_zero, Nat.one_mul]
          exact Nat.pow_pos hok.d0
        have gb : Vbecak.gcdAll (stl l) ≤ 400 ^ 8 * 400 ^ 8 := by
          refine M.gcd_le_of _ _ _ (Nat.zero_le _) fun x hx => ?_
          obtain ⟨j, hj, e⟩ := List.mem_map.mp hx
          have hj := List.mem_range.mp hj
          rw [← e]
          exact Nat.mul_le_mul (M.reached_bd hok (by decide) hj) (M.dpow_le hok (by decide) (by omega))
        refine ⟨_, rfl, _, rfl, _, _, rfl, rfl, ⟨by omega, by rw [Int.natAbs_natCast]; exact lowbd9 (Nat.le_trans gb (by decide +kernel))⟩, r _ _ (Same.refl _) rfl⟩
      · intro H3 s3 r3
        rw [nums_len] at r3
        refine k _ _ ((s1.trans s2).trans s3) ?_
        have e : (stl l).map (fun a => a / Vbecak.gcdAll (stl l)) = (List.range (stl l).length).map fun i => (stl l).getD i 0 / Vbecak.gcdAll (stl l) := by
          refine List.ext_getElem (by simp) fun i a1 a2 => ?_
          rw [List.getElem_map, List.getElem_map, List.getElem_range, M.getD_of]
        rw [e]
        exact LsA.mono _ _ _ _ (nw_left (s1.trans s2)) r3.nums
theorem sc_bears : FnScope ["life", "i"] ["life", "i"] (defScope (top 23)) := ⟨rfl, rfl, rfl, by decide +kernel, rfl, by decide +kernel, by decide +kernel⟩
theorem ok_bears {f : Addr} {fd : FuncData} (F : Fun K "bears" "bears" (top 23) f fd) (T : Tx K mg CL CR) (G_share_reaching : FOk P w K mg base "share_reaching" 4 ["life", "i"] (sp_share_reaching CL))  :
    FnOk P w K mg base CX0 5 f fd ["life", "i"] (sp_bears CL) := by
  refine F.ok sc_bears (fun vs H Q E h => ?_) (fun cdv A outer s H vs Q E hr h => ?_)
  · obtain ⟨l, lv, i, rfl, hL, hok0, hi, k⟩ := h
    rfl
  · obtain ⟨l, lv, i, rfl, hL, hok0, hi, k⟩ := h
    refine ⟨_, (pss_one (ps_ret (pe_and (pe_cmpR op_gt (pe_ix ix_list (pe_fld (pv 0) rfl) (pv 1) (fun _ _ => rfl)) pe_int (nomark _)) (pe_one (pe_cmpR op_gt (pe_ix ix_tup (pe_fn G_share_reaching (hr.mono (by decide)) rfl (pa_cons (pv 0) (pa_cons (pv 1) pa_nil))) pe_int (fun _ _ => rfl)) pe_int (nomark _)))))), ?_⟩
    obtain ⟨a, dx, pb, ps, rfl, h1, h2, h3⟩ := id hL
    have hok := hok0.mono (D' := 400) (B' := 20000) (by decide) (by decide)
    refine ⟨_, rfl, a, CL, dx, _, _, rfl, h1, T.clL, T.nL_births, lfs_births _ _ _ _, _, rfl, pb, _, _, _, rfl, rfl, SqL.of h2, at_of (j := i) rfl (nums_get hi), _, _, rfl, rfl, _, rfl, ?_⟩
    by_cases hb : 0 < l.births.getD i 0
    · refine ifT (decide_eq_true (by omega)) ?_
      refine ⟨_, rfl, _, rfl, l, .ref a, i, rfl, hL, hok, hi, fun v1 H1 s1 ⟨a1, e1, g1⟩ => ?_⟩
      subst e1
      refine ⟨_, _, _, _, rfl, rfl, SqT.of (nw_sub _ _ _ _ g1), (atI_nat (j := 0) rfl), _, _, rfl, rfl, ?_⟩
      have e : decide ((0 : Int) < ((Vbecak.lowest (Vbecak.reached l i, l.d ^ i)).1 : Int)) = bearsB l i := by
        unfold bearsB
        rw [decide_eq_decide]
        have hz := M.lowest_fst_zero (p := (Vbecak.reached l i, l.d ^ i)) (Nat.pow_pos hok.d0)
        have hz : (Vbecak.lowest (Vbecak.reached l i, l.d ^ i)).1 = 0 ↔ Vbecak.reached l i = 0 := hz
        omega
      dsimp only
      rw [e]
      exact k _ s1
    · refine ifF (decide_eq_false (by omega)) ?_
      have e : bearsB l i = false := decide_eq_false (by omega)
      rw [← e]
      exact k _ (Same.refl _)
theorem sc_births_rhythm : FnScope ["life", "i"] ["life"] (defScope (top 24)) := ⟨rfl, rfl, rfl, by decide +kernel, rfl, by decide +kernel, by decide +kernel⟩
theorem ok_births_rhythm {f : Addr} {fd : FuncData} (F : Fun K "births_rhythm" "births_rhythm" (top 24) f fd) (T : Tx K mg CL CR) (G_bears : FOk P w K mg base "bears" 5 ["life", "i"] (sp_bears CL)) (G_common_divisor_of : FOk P w K mg base "common_divisor_of" 2 ["numbers"] sp_common_divisor_of)  :
    FnOk P w K mg base CX0 6 f fd ["life"] (sp_births_rhythm CL) := by
  refine F.ok sc_births_rhythm (fun vs H Q E h => ?_) (fun cdv A outer s H vs Q E hr h => ?_)
  · obtain ⟨l, lv, rfl, hL, hok, k⟩ := h
    rfl
  · obtain ⟨l, lv, rfl, hL, hok, k⟩ := h
    refine ⟨_, (pss_one (ps_ret (pe_fn G_common_divisor_of (hr.mono (by decide)) rfl (pa_cons (pe_lc rfl sc_births_rhythm.nd (pi_range1 rfl T.b_range (pa_cons (pe_fld (pv 0) rfl) pa_nil)) (blkOk_by (own := [("i", 1)]) (by show blkC ["life", "i"] (defScope (top 24)) _ [("i", 1)] = true; decide +kernel)) (fun _ _ _ _ _ => (pg_name (i := 1) sc_births_rhythm.nd rfl (Or.inl rfl))) (fun _ _ _ _ _ => (pts_one (pt_val (pe_fn G_bears (hr.mono (by decide)) rfl (pa_cons (pv 0) (pa_cons (pv 1) pa_nil)))))) (fun _ _ _ _ _ => (pe_op op_add (pv 1) pe_int))) pa_nil)))), ?_⟩
    obtain ⟨a, dx, pb, ps, rfl, h1, h2, h3⟩ := id hL
    have ha : l.ages = l.births.length := rfl
    have h8 := hok.a8
    refine ⟨_, rfl, a, CL, dx, _, _, rfl, h1, T.clL, T.nL_ages, lfs_ages _ _ _ _, (l.ages : Nat), rfl, by omega, by omega, fun D hD => ?_⟩
    refine lc_range (n := l.ages) (fun i H' => Same H (off D H') ∧ H' D = some (.lst (nums (((List.range i).filter fun k => bearsB l k).map fun i => i + 1)))) ⟨(Lc.start (R := fun _ _ _ => True) hD).same, upd_same⟩ ?_ ?_
    · rintro i H' hi ⟨s', hD'⟩
      have sH : Same H H' := s'.trans (off_sub _ _)
      refine ⟨rfl, _, rfl, _, rfl, l, .ref a, i, (by rw [Int.zero_add]; rfl), LifeA.mono _ _ _ _ _ sH hL, hok, hi, fun H2 s2 => ⟨_, rfl, ?_⟩⟩
      have so : Same H (off D H2) := fun b o e => by
        have nb : b ≠ D := ne_of_none e hD
        rw [off_ne nb]
        exact s2 _ _ (sH _ _ e)
      have hD2 := s2 _ _ hD'
      rw [List.range_succ, List.filter_append, List.map_append]
      by_cases hb : bearsB l i = true
      · refine ifT hb ?_
        refine ⟨_, rfl, _, _, rfl, rfl, _, hD2, small_lt ?_, fun b o e => ?_, ?_⟩
        · rw [nums_len, List.length_map]
          exact Nat.le_trans (List.length_filter_le _ _) (by rw [List.length_range]; omega)
        · have nb : b ≠ D := ne_of_none e hD
          rw [off_ne nb, upd_ne nb]
          exact sH.trans s2 _ _ e
        · rw [upd_same]
          have : [i].filter (fun k => bearsB l k) = [i] := by simp [hb]
          rw [this, Int.zero_add]
          unfold nums
          rw [List.map_append]
          rfl
      · refine ifF (by simpa using hb) ?_
        refine ⟨so, ?_⟩
        have : [i].filter (fun k => bearsB l k) = [] := by simp [hb]
        rw [this, List.map_nil, List.append_nil]
        exact hD2
    · rintro H' ⟨s', hD'⟩
      refine ⟨_, .ref D, rfl, ⟨D, rfl, hD'⟩, ?_⟩
      have e : Vbecak.gcdAll (((List.range l.ages).filter fun k => bearsB l k).map fun i => i + 1) = Vbecak.rhythm l := M.rhythm_ok l
      rw [e]
      exact k _ (s'.trans (off_sub _ _))
end
end G

set_option Elab.async false
set_option linter.all false
set_option maxRecDepth 100000
set_option maxHeartbeats 2000000
set_option exponentiation.threshold 100000
namespace G
open PySem PySem.Spec PyProof.Rows L2
def TbA (T : List (List Nat)) : Hp → V → Prop := LR T.length (fun i => LsA (T.getD i []))
theorem TbA.mono (T : List (List Nat)) : Mono (TbA T) := LR.mono fun i => LsA.mono _
def Low (T : List (List Nat)) : Prop := ∀ r ∈ T, ∀ a ∈ r, a < 2 ^ 64
theorem getDL {T : List (List Nat)} {i : Nat} (h : i < T.length) : T.getD i [] = T[i] := by
  simp [List.getD, List.getElem?_eq_getElem h]
theorem sum_cast : ∀ l : List Nat, (l.map fun (n : Nat) => (n : Int)).sum = ((l.sum : Nat) : Int)
  | [] => rfl
  | a :: l => by rw [List.map_cons, List.sum_cons, List.sum_cons, sum_cast l, Int.natCast_add]
theorem rep_flat : ∀ (n : Nat), (List.replicate n [V.int 0]).flatten = nums (List.replicate n 0)
  | 0 => rfl
  | n + 1 => by
    rw [List.replicate_succ, List.flatten_cons, rep_flat n, List.replicate_succ]
    rfl
theorem nums_set (l : List Nat) (i s : Nat) : (nums l).set i (.int (s : Nat)) = nums (l.set i s) := by
  unfold nums
  rw [List.map_set]
theorem year_row {D B : Nat} {l : Vbecak.Life} (h : M.LOk D B l) {j : Nat} (hj : j + 1 < l.ages) : (M.yearTable l).getD (j + 1) [] = M.yearRow l j := by
  unfold M.yearTable
  rw [List.getD_cons_succ, getDL (by rw [List.length_map, List.length_range]; omega), List.getElem_map, List.getElem_range]
theorem year_len {D B : Nat} {l : Vbecak.Life} (h : M.LOk D B l) : (M.yearTable l).length = l.ages := by
  have h0 := h.a0
  have ha : l.ages = l.births.length := rfl
  unfold M.yearTable
  rw [List.length_cons, List.length_map, List.length_range]; omega
theorem year_sq {D B : Nat} {l : Vbecak.Life} (h : M.LOk D B l) : M.Sq l.ages (M.yearTable l) := by
  rw [M.table_matrix h]; exact M.matrix_sq l
theorem year_low {l : Vbecak.Life} (h : M.LOk 20 1000 l) : Low (M.yearTable l) := by
  intro r hr a hA
  unfold M.yearTable at hr
  rcases List.mem_cons.mp hr with rfl | hr
  · exact Nat.lt_of_le_of_lt (h.bB a hA) (by decide)
  · obtain ⟨i, _, rfl⟩ := List.mem_map.mp hr
    unfold M.yearRow at hA
    have := List.mem_or_eq_of_mem_set hA
    rcases this with q | q
    · have := (List.mem_replicate.mp q).2; omega
    · rw [q]; exact Nat.lt_of_le_of_lt (h.stay_le i) (Nat.lt_of_le_of_lt h.dD (by decide))
def sp_year_table (CL : Addr) : Sp := fun vs H Q _ => ∃ (l : Vbecak.Life) (lv : V), vs = [lv] ∧ LifeA CL l H lv ∧ M.LOk 20 1000 l ∧ Ret H Q (TbA (M.yearTable l))
def sp_row_times : Sp := fun vs H Q _ => ∃ (r x : List Nat) (vr vx : V), vs = [vr, vx] ∧ LsA r H vr ∧ LsA x H vx ∧ x.length = r.length ∧ r.length ≤ 1000 ∧ (∀ a ∈ r, a < 2 ^ 64) ∧ ∀ H', Same H H' → Q (.int (Vbecak.dot r x : Nat)) H'
def sp_table_times : Sp := fun vs H Q _ => ∃ (T : List (List Nat)) (x : List Nat) (vt vx : V), vs = [vt, vx] ∧ TbA T H vt ∧ LsA x H vx ∧ (∀ r ∈ T, r.length = x.length) ∧ T.length ≤ 1000 ∧ x.length ≤ 1000 ∧ Low T ∧ Ret H Q (LsA (M.tableTimes T x))
def sp_rests : Sp := fun vs H Q _ => ∃ (x : List Nat) (q : Nat) (vx : V), vs = [vx, .int (q : Nat)] ∧ LsA x H vx ∧ 0 < q ∧ x.length ≤ 1000 ∧ Ret H Q (LsA (x.map fun a => a % q))
def sp_column : Sp := fun vs H Q _ => ∃ (T : List (List Nat)) (k : Nat) (vt : V), vs = [vt, .int (k : Nat)] ∧ TbA T H vt ∧ (∀ r ∈ T, k < r.length) ∧ T.length ≤ 1000 ∧ Ret H Q (LsA (Vbecak.column T k))
def sp_squared : Sp := fun vs H Q _ => ∃ (T : List (List Nat)) (q : Nat) (vt : V), vs = [vt, .int (q : Nat)] ∧ TbA T H vt ∧ M.Sq T.length T ∧ T.length ≤ 1000 ∧ Low T ∧ 0 < q ∧ Ret H Q (TbA (Vbecak.timesMod q T T))
def sp_numbers_after (CL : Addr) : Sp := fun vs H Q _ => ∃ (l : Vbecak.Life) (lv : V) (t : Nat) (x : List Nat) (vx : V), vs = [lv, .int (t : Nat), vx] ∧ LifeA CL l H lv ∧ M.LOk 20 1000 l ∧ t ≤ 40 ∧ LsA x H vx ∧ x.length = l.ages ∧ Ret H Q (LsA (Vbecak.after l t x))
def sp_rests_after (CL : Addr) : Sp := fun vs H Q _ => ∃ (l : Vbecak.Life) (lv : V) (t q : Nat) (x : List Nat) (vx : V), vs = [lv, .int (t : Nat), .int (q : Nat), vx] ∧ LifeA CL l H lv ∧ M.LOk 20 1000 l ∧ t < 2 ^ 64 ∧ 0 < q ∧ q ≤ 1000000000 ∧ LsA x H vx ∧ x.length = l.ages ∧ Ret H Q (LsA (Vbecak.farMod l t q x))
def sp_newborn_after (CL : Addr) : Sp := fun vs H Q _ => ∃ (l : Vbecak.Life) (lv : V) (t : Nat), vs = [lv, .int (t : Nat)] ∧ LifeA CL l H lv ∧ M.LOk 20 1000 l ∧ t ≤ 40 ∧ ∀ H', Same H H' → Q (.int ((Vbecak.renewals l t).headD 0 : Nat)) H'
section
variable {P : Program} {w : World} {K : PySem.W.Frag} {mg : Str → Option Value} {base : Heap} {CL CR : Addr}
theorem sc_year_table : FnScope ["life", "table", "i", "row"] ["life"] (defScope (top 26)) := ⟨rfl, rfl, rfl, by decide +kernel, rfl, by decide +kernel, by decide +kernel⟩
theorem ok_year_table {f : Addr} {fd : FuncData} (F : Fun K "year_table" "year_table" (top 26) f fd) (T : Tx K mg CL CR)   :
    FnOk P w K mg base CX0 1 f fd ["life"] (sp_year_table CL) := by
  refine F.ok sc_year_table (fun vs H Q E h => ?_) (fun cdv A outer s H vs Q E hr h => ?_)
  · obtain ⟨l, lv, rfl, hL, hok, k⟩ := h
    rfl
  · obtain ⟨l, lv, rfl, hL, hok, k⟩ := h
    refine ⟨_, (pss_cons (ps_set (i := 1) sc_year_table.nd rfl (Or.inl rfl) (pe_lst (pa_cons (pe_callTy call_list_of rfl T.b_list boot_list (pa_cons (pe_fld (pv 0) rfl) pa_nil)) pa_nil)))
      (pss_cons (ps_for PassesOwn.never rfl (pi_range1 rfl T.b_range (pa_cons (pe_op op_sub (pe_fld (pv 0) rfl) pe_int) pa_nil)) (pg_name (i := 2) sc_year_table.nd rfl (Or.inl rfl)) (pss_cons (ps_set (i := 3) sc_year_table.nd rfl (Or.inl rfl) (pe_op op_rep (pe_lst (pa_cons pe_int pa_nil)) (pe_fld (pv 0) rfl)))
      (pss_cons (ps_asg (pe_ix ix_list (pe_fld (pv 0) rfl) (pv 2) (fun _ _ => rfl)) (pg_sub (pv 3) (pv 2) set_list (fun _ => rfl)))
      (pss_one (ps_expr (pe_bm PySem.F.plainAttrs_list PySem.F.slot_list_append PySem.F.type_list_append mt_append (pv 1) (pa_cons (pv 3) pa_nil)))))))
      (pss_one (ps_ret (pv 1))))), ?_⟩
    obtain ⟨a, dx, pb, ps, rfl, h1, h2, h3⟩ := id hL
    have ha : l.ages = l.births.length := rfl
    have h8 := hok.a8
    have h0 := hok.a0
    have hsl := hok.sl
    refine ⟨_, rfl, a, CL, dx, _, _, rfl, h1, T.clL, T.nL_births, lfs_births _ _ _ _, pb, _, rfl, .inl (SqL.of h2), fun p hp => ?_⟩
    refine ⟨(by show 1 ≤ sizeLine; decide), fun tb htb => ?_⟩
    have htb0 : H tb = none := (same_upd hp).free htb
    have ntb : p ≠ tb := ne_of_none (upd_same (H := H) (a := p) (o := .lst (nums l.births))) htb
    have L0 : Lc H tb [.ref p] (fun i => LsA ((M.yearTable l).getD i [])) (upd (upd H p (.lst (nums l.births))) tb (.lst [.ref p])) := by
      refine ⟨upd_same, fun b o e => ?_, fun i u hu => ?_⟩
      · have n1 : b ≠ tb := ne_of_none e htb0
        rw [off_ne n1, upd_ne n1, upd_ne (ne_of_none e hp)]; exact e
      · have e : i = 0 := by
          have := (List.getElem?_eq_some_iff.mp hu).1
          simp at this; omega
        subst e
        simp at hu
        subst hu
        exact ⟨p, rfl, by rw [nw_new hp, off_ne ntb, upd_ne ntb, upd_same]; rfl⟩
    refine ⟨_, rfl, a, CL, dx, _, _, rfl, L0.sm _ _ h1, T.clL, T.nL_ages, lfs_ages _ _ _ _, _, _, rfl, rfl, _, rfl, by omega, by omega, ?_⟩
    have en : (((l.ages : Nat) : Int) - 1).toNat = l.ages - 1 := by omega
    rw [en]
    refine for_range (n := l.ages - 1) (fun j σ' H' => ∃ (us : List V) (r1 r2 : Option V), σ' = [some (.ref a), some (.ref tb), r1, r2] ∧ us.length = j + 1 ∧ Lc H tb us (fun i => LsA ((M.yearTable l).getD i [])) H') ⟨_, none, none, rfl, rfl, L0⟩ ?_ ?_
    · rintro j σ' H' hj ⟨us, r1, r2, rfl, hl, x⟩
      have hjs : j < l.stay.length := by omega
      refine ⟨(by show 1 ≤ sizeLine; decide), fun q0 hq0 => ?_⟩
      have sA : Same H' (upd H' q0 (.lst [.int 0])) := same_upd hq0
      refine ⟨_, rfl, a, CL, dx, _, _, rfl, sA _ _ (x.sm _ _ h1), T.clL, T.nL_ages, lfs_ages _ _ _ _, q0, _, _, rfl, rfl, upd_same, by omega, by omega, small_line (by show 1 * ((l.ages : Nat) : Int).toNat ≤ 100000; omega), fun r hr0 => ?_⟩
      have sB : Same H' (upd (upd H' q0 (.lst [.int 0])) r (.lst (List.replicate ((l.ages : Nat) : Int).toNat [V.int 0]).flatten)) := sA.trans (same_upd hr0)
      have hrH : H' r = none := sA.free hr0
      refine ⟨_, rfl, a, CL, dx, _, _, rfl, sB _ _ (x.sm _ _ h1), T.clL, T.nL_stays, lfs_stays _ _ _ _, _, rfl, ps, _, _, _, rfl, rfl, SqL.of (sB _ _ (x.sm _ _ h3)), at_of (j := j) (by omega) (nums_get hjs), ?_⟩
      refine ⟨_, rfl, _, rfl, r, _, _, j, rfl, rfl, upd_same, ?_, ?_⟩
      · rw [Int.toNat_natCast, rep_flat, nums_len, List.length_replicate]
        unfold ixN
        rw [if_pos (by omega), if_pos (by omega)]
        congr 1
        omega
      have sC : Same H' (upd (upd (upd H' q0 (.lst [.int 0])) r (.lst (List.replicate ((l.ages : Nat) : Int).toNat [V.int 0]).flatten)) r (.lst ((List.replicate ((l.ages : Nat) : Int).toNat [V.int 0]).flatten.set j (.int (l.stay.getD j 0 : Nat))))) := by
        rw [upd_upd]
        exact sA.trans (same_upd hr0)
      refine ⟨_, rfl, .inl ⟨rfl, _, SqL.of (sC _ _ x.at_)⟩, _, rfl, tb, us, _, rfl, rfl, sC _ _ x.at_, small_lt (by omega), ?_⟩
      refine ⟨us ++ [.ref r], _, _, rfl, by simp [hl], x.push (fun i => LsA.mono _) sC ?_⟩
      refine ⟨r, rfl, ?_⟩
      rw [nw_new hrH, upd_same, hl, year_row hok (by omega), Int.toNat_natCast, rep_flat, nums_set]
      rfl
    · rintro σ' H' ⟨us, r1, r2, rfl, hl, x⟩
      refine ⟨_, rfl, k _ _ x.sm ?_⟩
      exact x.done (fun i => LsA.mono _) htb0 (by rw [hl, year_len hok]; omega)
theorem sc_row_times : FnScope ["row", "numbers", "a", "b"] ["row", "numbers"] (defScope (top 27)) := ⟨rfl, rfl, rfl, by decide +kernel, rfl, by decide +kernel, by decide +kernel⟩
theorem ok_row_times {f : Addr} {fd : FuncData} (F : Fun K "row_times" "row_times" (top 27) f fd) (T : Tx K mg CL CR)   :
    FnOk P w K mg base CX0 1 f fd ["row", "numbers"] sp_row_times := by
  refine F.ok sc_row_times (fun vs H Q E h => ?_) (fun cdv A outer s H vs Q E hr h => ?_)
  · obtain ⟨r, x, vr, vx, rfl, ⟨pr, rfl, hr1⟩, ⟨px, rfl, hx⟩, hl, h1, hb, k⟩ := h
    rfl
  · obtain ⟨r, x, vr, vx, rfl, ⟨pr, rfl, hr1⟩, ⟨px, rfl, hx⟩, hl, h1, hb, k⟩ := h
    refine ⟨_, (pss_one (ps_ret (pe_callB (cr_sum rfl) rfl T.b_sum boot_sum (pa_cons (pe_lc rfl sc_row_times.nd (pi_zip rfl T.b_zip (pa_cons (pv 0) (pa_cons (pv 1) pa_nil))) (blkOk_by (own := [("a", 2), ("b", 3)]) (by show blkC ["row", "numbers", "a", "b"] (defScope (top 27)) _ [("a", 2), ("b", 3)] = true; decide +kernel)) (fun _ _ _ _ _ => (pg_pair (K := K) rfl (i := 2) (j := 3) rfl sc_row_times.nd rfl rfl rfl rfl)) (fun _ _ _ _ _ => pts_nil) (fun _ _ _ _ _ => (pe_op op_mul (pv 2) (pv 3)))) pa_nil)))), ?_⟩
    refine ⟨_, rfl, _, rfl, pr, px, _, _, rfl, SqL.of hr1, SqL.of hx, fun D hD => lc_zipR (xs := nums r) (ys := nums x) (fun i _ u => u = .int ((r.getD i 0 * x.getD i 0 : Nat) : Nat)) (fun i _ _ _ _ h => h) hD (by rw [nums_len]; omega) (SqL.of hr1) (SqL.of hx) (by rw [nums_len, nums_len]; exact hl) (fun _ _ => rfl) ?_ ?_⟩
    · intro i u v H' Q' hu hv s' rr
      have hlt : i < r.length := by rw [← nums_len r]; exact (List.getElem?_eq_some_iff.mp hu).1
      rw [nums_get hlt] at hu
      rw [nums_get (by omega)] at hv
      cases hu
      cases hv
      have h64 : r.getD i 0 < 2 ^ 64 := by rw [M.getD_of hlt]; exact hb _ (List.getElem_mem hlt)
      exact ⟨_, rfl, _, rfl, _, _, rfl, rfl, .inl ⟨by omega, by omega⟩, rr _ _ (Same.refl _) rfl⟩
    · intro H2 s2 r2
      rw [nums_len] at r2
      obtain ⟨q, e, hq⟩ := r2.nums
      cases e
      refine ⟨D, ((List.range r.length).map fun i => r.getD i 0 * x.getD i 0).map (fun (n : Nat) => (n : Int)), rfl, SqL.of (by rw [← nums_map]; exact nw_sub _ _ _ _ hq), ?_⟩
      rw [sum_cast]
      have : ((List.range r.length).map fun i => r.getD i 0 * x.getD i 0).sum = Vbecak.dot r x := (M.dot_sg r.length r x rfl hl).symm
      rw [this]
      exact k _ s2
theorem sc_table_times : FnScope ["table", "numbers", "row"] ["table", "numbers"] (defScope (top 28)) := ⟨rfl, rfl, rfl, by decide +kernel, rfl, by decide +kernel, by decide +kernel⟩
theorem ok_table_times {f : Addr} {fd : FuncData} (F : Fun K "table_times" "table_times" (top 28) f fd) (T : Tx K mg CL CR) (G_row_times : FOk P w K mg base "row_times" 1 ["row", "numbers"] sp_row_times)  :
    FnOk P w K mg base CX0 2 f fd ["table", "numbers"] sp_table_times := by
  refine F.ok sc_table_times (fun vs H Q E h => ?_) (fun cdv A outer s H vs Q E hr h => ?_)
  · obtain ⟨Tb, x, vt, vx, rfl, ⟨pt, us, rfl, hT, hlT, hu⟩, hx, hrow, h1, h2, hlow, k⟩ := h
    rfl
  · obtain ⟨Tb, x, vt, vx, rfl, ⟨pt, us, rfl, hT, hlT, hu⟩, hx, hrow, h1, h2, hlow, k⟩ := h
    refine ⟨_, (pss_one (ps_ret (pe_lc rfl sc_table_times.nd (pi_list (pv 0)) (blkOk_by (own := [("row", 2)]) (by show blkC ["table", "numbers", "row"] (defScope (top 28)) _ [("row", 2)] = true; decide +kernel)) (fun _ _ _ _ _ => (pg_name (i := 2) sc_table_times.nd rfl (Or.inl rfl))) (fun _ _ _ _ _ => pts_nil) (fun _ _ _ _ _ => (pe_fn G_row_times (hr.mono (by decide)) rfl (pa_cons (pv 2) (pa_cons (pv 1) pa_nil))))))), ?_⟩
    refine ⟨_, rfl, pt, rfl, ⟨_, SqL.of hT⟩, fun D hD => lc_listR (xs := us) (fun i _ u => u = .int (Vbecak.dot (Tb.getD i []) x : Nat)) (fun i _ _ _ _ h => h) hD (by omega) (SqL.of hT) (fun _ => rfl) ?_ ?_⟩
    · intro i u H' Q' hi s' r
      have hlt : i < Tb.length := by rw [← hlT]; exact (List.getElem?_eq_some_iff.mp hi).1
      have hm : Tb.getD i [] ∈ Tb := by rw [getDL hlt]; exact List.getElem_mem hlt
      have hrl := hrow _ hm
      refine ⟨_, rfl, _, rfl, Tb.getD i [], x, u, vx, rfl, LsA.mono _ _ _ _ s' (hu i u hi), LsA.mono _ _ _ _ s' hx, hrl.symm, by omega, hlow _ hm, fun H2 s2 => r _ _ s2 rfl⟩
    · intro H2 s2 r2
      rw [hlT] at r2
      have e : M.tableTimes Tb x = (List.range Tb.length).map fun i => Vbecak.dot (Tb.getD i []) x := by
        unfold M.tableTimes
        refine List.ext_getElem (by simp) fun i a1 a2 => ?_
        rw [List.getElem_map, List.getElem_map, List.getElem_range, getDL]
      refine k _ _ s2 ?_
      rw [e]
      exact r2.nums
theorem sc_rests : FnScope ["numbers", "q", "number"] ["numbers", "q"] (defScope (top 29)) := ⟨rfl, rfl, rfl, by decide +kernel, rfl, by decide +kernel, by decide +kernel⟩
theorem ok_rests {f : Addr} {fd : FuncData} (F : Fun K "rests" "rests" (top 29) f fd) (T : Tx K mg CL CR)   :
    FnOk P w K mg base CX0 1 f fd ["numbers", "q"] sp_rests := by
  refine F.ok sc_rests (fun vs H Q E h => ?_) (fun cdv A outer s H vs Q E hr h => ?_)
  · obtain ⟨x, q, vx, rfl, ⟨px, rfl, hx⟩, hq, hl, k⟩ := h
    rfl
  · obtain ⟨x, q, vx, rfl, ⟨px, rfl, hx⟩, hq, hl, k⟩ := h
    refine ⟨_, (pss_one (ps_ret (pe_lc rfl sc_rests.nd (pi_list (pv 0)) (blkOk_by (own := [("number", 2)]) (by show blkC ["numbers", "q", "number"] (defScope (top 29)) _ [("number", 2)] = true; decide +kernel)) (fun _ _ _ _ _ => (pg_name (i := 2) sc_rests.nd rfl (Or.inl rfl))) (fun _ _ _ _ _ => pts_nil) (fun _ _ _ _ _ => (pe_op op_mod (pv 2) (pv 1)))))), ?_⟩
    refine ⟨_, rfl, px, rfl, ⟨_, SqL.of hx⟩, fun D hD => lc_listR (xs := nums x) (fun i _ u => u = .int (x.getD i 0 % q : Nat)) (fun i _ _ _ _ h => h) hD (by rw [nums_len]; omega) (SqL.of hx) (fun _ => rfl) ?_ ?_⟩
    · intro i u H' Q' hi s' r
      have hlt : i < x.length := by rw [← nums_len x]; exact (List.getElem?_eq_some_iff.mp hi).1
      rw [nums_get hlt] at hi
      cases hi
      exact ⟨_, rfl, _, rfl, _, _, rfl, rfl, (show (0 : Int) < (q : Nat) by omega), r _ _ (Same.refl _) rfl⟩
    · intro H2 s2 r2
      rw [nums_len] at r2
      have e : x.map (fun a => a % q) = (List.range x.length).map fun i => x.getD i 0 % q := by
        refine List.ext_getElem (by simp) fun i a1 a2 => ?_
        rw [List.getElem_map, List.getElem_map, List.getElem_range, M.getD_of]
      refine k _ _ s2 ?_
      rw [e]
      exact r2.nums
theorem sc_column : FnScope ["table", "k", "row"] ["table", "k"] (defScope (top 30)) := ⟨rfl, rfl, rfl, by decide +kernel, rfl, by decide +kernel, by decide +kernel⟩
theorem ok_column {f : Addr} {fd : FuncData} (F : Fun K "column" "column" (top 30) f fd) (T : Tx K mg CL CR)   :
    FnOk P w K mg base CX0 1 f fd ["table", "k"] sp_column := by
  refine F.ok sc_column (fun vs H Q E h => ?_) (fun cdv A outer s H vs Q E hr h => ?_)
  · obtain ⟨Tb, c, vt, rfl, ⟨pt, us, rfl, hT, hlT, hu⟩, hrow, h1, k⟩ := h
    rfl
  · obtain ⟨Tb, c, vt, rfl, ⟨pt, us, rfl, hT, hlT, hu⟩, hrow, h1, k⟩ := h
    refine ⟨_, (pss_one (ps_ret (pe_lc rfl sc_column.nd (pi_list (pv 0)) (blkOk_by (own := [("row", 2)]) (by show blkC ["table", "k", "row"] (defScope (top 30)) _ [("row", 2)] = true; decide +kernel)) (fun _ _ _ _ _ => (pg_name (i := 2) sc_column.nd rfl (Or.inl rfl))) (fun _ _ _ _ _ => pts_nil) (fun _ _ _ _ _ => (pe_ix (ix_listK (K := K) rfl) (pv 2) (pv 1) (fun _ _ => rfl)))))), ?_⟩
    refine ⟨_, rfl, pt, rfl, ⟨_, SqL.of hT⟩, fun D hD => lc_listR (xs := us) (fun i _ u => u = .int ((Tb.getD i []).getD c 0 : Nat)) (fun i _ _ _ _ h => h) hD (by omega) (SqL.of hT) (fun _ => rfl) ?_ ?_⟩
    · intro i u H' Q' hi s' r
      have hlt : i < Tb.length := by rw [← hlT]; exact (List.getElem?_eq_some_iff.mp hi).1
      have hm : Tb.getD i [] ∈ Tb := by rw [getDL hlt]; exact List.getElem_mem hlt
      obtain ⟨pu, rfl, hpu⟩ := hu i u hi
      exact ⟨_, rfl, _, rfl, pu, _, _, _, rfl, rfl, SqL.of (s' _ _ hpu), at_of (j := c) rfl (nums_get (hrow _ hm)), r _ _ (Same.refl _) rfl⟩
    · intro H2 s2 r2
      rw [hlT] at r2
      have e : Vbecak.column Tb c = (List.range Tb.length).map fun i => (Tb.getD i []).getD c 0 := by
        unfold Vbecak.column
        refine List.ext_getElem (by simp) fun i a1 a2 => ?_
        rw [List.getElem_map, List.getElem_map, List.getElem_range, getDL]
      refine k _ _ s2 ?_
      rw [e]
      exact r2.nums
theorem sc_squared : FnScope ["table", "q", "columns", "k", "row"] ["table", "q"] (defScope (top 31)) := ⟨rfl, rfl, rfl, by decide +kernel, rfl, by decide +kernel, by decide +kernel⟩
theorem ok_squared {f : Addr} {fd : FuncData} (F : Fun K "squared" "squared" (top 31) f fd) (T : Tx K mg CL CR) (G_column : FOk P w K mg base "column" 1 ["table", "k"] sp_column) (G_table_times : FOk P w K mg base "table_times" 2 ["table", "numbers"] sp_table_times) (G_rests : FOk P w K mg base "rests" 1 ["numbers", "q"] sp_rests)  :
    FnOk P w K mg base CX0 3 f fd ["table", "q"] sp_squared := by
  refine F.ok sc_squared (fun vs H Q E h => ?_) (fun cdv A outer s H vs Q E hr h => ?_)
  · obtain ⟨Tb, q, vt, rfl, hTb, hsq, h1, hlow, hq, k⟩ := h
    rfl
  · obtain ⟨Tb, q, vt, rfl, hTb, hsq, h1, hlow, hq, k⟩ := h
    refine ⟨_, (pss_cons (ps_set (i := 2) sc_squared.nd rfl (Or.inr rfl) (pe_lc rfl sc_squared.nd (pi_range1 rfl T.b_range (pa_cons (pe_callB call_len_seq rfl T.b_len PySem.boot_len (pa_cons (pv 0) pa_nil)) pa_nil)) (blkOk_by (own := [("k", 3)]) (by show blkC ["table", "q", "columns", "k", "row"] (defScope (top 31)) _ [("k", 3)] = true; decide +kernel)) (fun _ _ _ _ _ => (pg_name (i := 3) sc_squared.nd rfl (Or.inl rfl))) (fun _ _ _ _ _ => pts_nil) (fun _ _ _ _ _ => (pe_fn G_column (hr.mono (by decide)) rfl (pa_cons (pv 0) (pa_cons (pv 3) pa_nil))))))
      (pss_one (ps_ret (pe_lc rfl sc_squared.nd (pi_list (pv 0)) (blkOk_by (own := [("row", 4)]) (by show blkC ["table", "q", "columns", "k", "row"] (defScope (top 31)) _ [("row", 4)] = true; decide +kernel)) (fun _ _ _ _ _ => (pg_name (i := 4) sc_squared.nd rfl (Or.inl rfl))) (fun _ _ _ _ _ => pts_nil) (fun _ _ _ _ _ => (pe_fn G_rests (hr.mono (by decide)) rfl (pa_cons (pe_fn G_table_times (hr.mono (by decide)) rfl (pa_cons (pv 2) (pa_cons (pv 4) pa_nil))) (pa_cons (pv 1) pa_nil)))))))), ?_⟩
    obtain ⟨pt, us, rfl, hT, hlT, hu⟩ := id hTb
    refine ⟨_, rfl, pt, us, rfl, .inl (SqL.of hT), ((us.length : Nat) : Int), rfl, by omega, by omega, fun D hD => ?_⟩
    rw [Int.toNat_natCast, hlT]
    refine lc_rangeR (n := Tb.length) (fun i => LsA (Vbecak.column Tb i)) (fun i => LsA.mono _) hD (by omega) (fun _ => rfl) ?_ ?_
    · intro i H' Q' hi s' r
      exact ⟨_, rfl, _, rfl, Tb, i, .ref pt, (by rw [Int.zero_add]; rfl), TbA.mono _ _ _ _ s' hTb, fun x hx => by rw [hsq.row x hx]; exact hi, h1, r⟩
    intro H1 s1 r1
    have hcl : ∀ r ∈ (List.range Tb.length).map (Vbecak.column Tb), r.length = Tb.length := fun r hr => by
      obtain ⟨j, _, rfl⟩ := List.mem_map.mp hr
      unfold Vbecak.column
      rw [List.length_map]
    have hclow : Low ((List.range Tb.length).map (Vbecak.column Tb)) := fun r hr x hx => by
      obtain ⟨j, hj, rfl⟩ := List.mem_map.mp hr
      unfold Vbecak.column at hx
      obtain ⟨y, hy, rfl⟩ := List.mem_map.mp hx
      have hjl : j < y.length := by rw [hsq.row y hy]; exact List.mem_range.mp hj
      rw [M.getD_of hjl]
      exact hlow y hy _ (List.getElem_mem hjl)
    have hC : TbA ((List.range Tb.length).map (Vbecak.column Tb)) H1 (.ref D) := by
      have r1 := LR.mono (fun i => LsA.mono _) _ _ _ (nw_sub _ _) r1
      unfold TbA
      rw [List.length_map, List.length_range]
      refine LR.imp (fun i u hi h => ?_) r1
      rw [getDL (by rw [List.length_map, List.length_range]; exact hi), List.getElem_map, List.getElem_range]
      exact h
    refine ⟨_, rfl, pt, rfl, ⟨_, SqL.of (s1 _ _ hT)⟩, fun D2 hD2 => lc_listR (xs := us) (fun i => LsA ((Vbecak.timesMod q Tb Tb).getD i [])) (fun i => LsA.mono _) hD2 (by omega) (SqL.of (s1 _ _ hT)) (fun _ => rfl) ?_ ?_⟩
    · intro i u H' Q' hi s' r
      have hlt : i < Tb.length := by rw [← hlT]; exact (List.getElem?_eq_some_iff.mp hi).1
      have hm : Tb.getD i [] ∈ Tb := by rw [getDL hlt]; exact List.getElem_mem hlt
      have hrl := hsq.row _ hm
      refine ⟨_, rfl, _, rfl, _, Tb.getD i [], .ref D, u, rfl, TbA.mono _ _ _ _ s' hC, LsA.mono _ _ _ _ (s1.trans s') (hu i u hi), fun x hx => by rw [hcl x hx, hrl], by rw [List.length_map, List.length_range]; exact h1, by omega, hclow, fun v2 H2 s2 f2 => ?_⟩
      refine ⟨_, rfl, _, q, v2, rfl, LsA.mono _ _ _ _ (nw_sub _ _) f2, hq, by unfold M.tableTimes; rw [List.length_map, List.length_map, List.length_range]; exact h1, fun v3 H3 s3 f3 => ?_⟩
      refine r _ _ (s2.trans s3) ?_
      have e : (Vbecak.timesMod q Tb Tb).getD i [] = (M.tableTimes ((List.range Tb.length).map (Vbecak.column Tb)) (Tb.getD i [])).map fun a => a % q := by
        rw [getDL (by unfold Vbecak.timesMod; rw [List.length_map]; exact hlt), getDL hlt]
        unfold Vbecak.timesMod M.tableTimes
        rw [List.getElem_map, List.map_map, List.map_map]
        refine List.map_congr_left fun j _ => ?_
        show Vbecak.dot Tb[i] (Vbecak.column Tb j) % q = Vbecak.dot (Vbecak.column Tb j) Tb[i] % q
        rw [M.dot_comm]
      rw [e]
      exact LsA.mono _ _ _ _ (nw_left s2) f3
    · intro H2 s2 r2
      refine k _ _ (s1.trans s2) ?_
      unfold TbA
      have e : (Vbecak.timesMod q Tb Tb).length = us.length := by unfold Vbecak.timesMod; rw [List.length_map, hlT]
      rw [e]
      exact LR.mono (fun i => LsA.mono _) _ _ _ (nw_left s1) r2
theorem sc_numbers_after : FnScope ["life", "t", "x", "table", "numbers", "year"] ["life", "t", "x"] (defScope (top 32)) := ⟨rfl, rfl, rfl, by decide +kernel, rfl, by decide +kernel, by decide +kernel⟩
theorem ok_numbers_after {f : Addr} {fd : FuncData} (F : Fun K "numbers_after" "numbers_after" (top 32) f fd) (T : Tx K mg CL CR) (G_year_table : FOk P w K mg base "year_table" 1 ["life"] (sp_year_table CL)) (G_table_times : FOk P w K mg base "table_times" 2 ["table", "numbers"] sp_table_times)  :
    FnOk P w K mg base CX0 3 f fd ["life", "t", "x"] (sp_numbers_after CL) := by
  refine F.ok sc_numbers_after (fun vs H Q E h => ?_) (fun cdv A outer s H vs Q E hr h => ?_)
  · obtain ⟨l, lv, t, x, vx, rfl, hL, hok, ht, ⟨px, rfl, hx⟩, hlen, k⟩ := h
    rfl
  · obtain ⟨l, lv, t, x, vx, rfl, hL, hok, ht, ⟨px, rfl, hx⟩, hlen, k⟩ := h
    refine ⟨_, (pss_cons (ps_set (i := 3) sc_numbers_after.nd rfl (Or.inl rfl) (pe_fn G_year_table (hr.mono (by decide)) rfl (pa_cons (pv 0) pa_nil)))
      (pss_cons (ps_set (i := 4) sc_numbers_after.nd rfl (Or.inl rfl) (pe_callTy call_list_of rfl T.b_list boot_list (pa_cons (pv 2) pa_nil)))
      (pss_cons (ps_for PassesOwn.never rfl (pi_range1 rfl T.b_range (pa_cons (pv 1) pa_nil)) (pg_name (i := 5) sc_numbers_after.nd rfl (Or.inl rfl)) (pss_one (ps_set (i := 4) sc_numbers_after.nd rfl (Or.inl rfl) (pe_fn G_table_times (hr.mono (by decide)) rfl (pa_cons (pv 3) (pa_cons (pv 4) pa_nil))))))
      (pss_one (ps_ret (pv 4)))))), ?_⟩
    have h8 := hok.a8
    have ha : l.ages = l.births.length := rfl
    refine ⟨_, rfl, l, lv, rfl, hL, hok, fun v1 H1 s1 f1 => ?_⟩
    refine ⟨_, rfl, px, _, rfl, .inl (SqL.of (s1 _ _ hx)), fun p hp => ?_⟩
    have s2 := same_upd (o := .lst (nums x)) hp
    refine ⟨_, rfl, _, rfl, by omega, by omega, for_range (n := t) (fun j σ' H' => ∃ (v : V) (r : Option V), σ' = [some lv, some (.int (t : Nat)), some (.ref px), some v1, some v, r] ∧ Same H H' ∧ TbA (M.yearTable l) H' v1 ∧ LsA (Vbecak.after l j x) (nw H H') v) ⟨.ref p, none, rfl, s1.trans s2, TbA.mono _ _ _ _ ((nw_sub _ _).trans s2) f1, p, rfl, ?_⟩ ?_ ?_⟩
    · rw [nw_new (s1.free hp), upd_same]; rfl
    · rintro j σ' H' hj ⟨v, r, rfl, s', hT, hv⟩
      have hal := M.after_len hok j hlen
      refine ⟨_, rfl, _, rfl, M.yearTable l, Vbecak.after l j x, v1, v, rfl, hT, LsA.mono _ _ _ _ (nw_sub _ _) hv, fun r hr => by rw [(year_sq hok).row r hr, hal], by rw [year_len hok]; omega, by omega, year_low hok, fun v2 H2 s2 f2 => ⟨v2, _, rfl, s'.trans s2, TbA.mono _ _ _ _ s2 hT, ?_⟩⟩
      rw [M.after_succ, ← M.table_next hok hal]
      exact LsA.mono _ _ _ _ (nw_left s') f2
    · rintro σ' H' ⟨v, r, rfl, s', hT, hv⟩
      exact ⟨_, rfl, k _ _ s' hv⟩
theorem sc_rests_after : FnScope ["life", "t", "q", "x", "table", "numbers", "years"] ["life", "t", "q", "x"] (defScope (top 33)) := ⟨rfl, rfl, rfl, by decide +kernel, rfl, by decide +kernel, by decide +kernel⟩
theorem ok_rests_after {f : Addr} {fd : FuncData} (F : Fun K "rests_after" "rests_after" (top 33) f fd) (T : Tx K mg CL CR) (G_year_table : FOk P w K mg base "year_table" 1 ["life"] (sp_year_table CL)) (G_rests : FOk P w K mg base "rests" 1 ["numbers", "q"] sp_rests) (G_table_times : FOk P w K mg base "table_times" 2 ["table", "numbers"] sp_table_times) (G_squared : FOk P w K mg base "squared" 3 ["table", "q"] sp_squared)  :
    FnOk P w K mg base CX0 4 f fd ["life", "t", "q", "x"] (sp_rests_after CL) := by
  refine F.ok sc_rests_after (fun vs H Q E h => ?_) (fun cdv A outer s H vs Q E hr h => ?_)
  · obtain ⟨l, lv, t, q, x, vx, rfl, hL, hok, ht, hq, hq9, hx, hlen, k⟩ := h
    rfl
  · obtain ⟨l, lv, t, q, x, vx, rfl, hL, hok, ht, hq, hq9, hx, hlen, k⟩ := h
    refine ⟨_, (pss_cons (ps_set (i := 4) sc_rests_after.nd rfl (Or.inl rfl) (pe_fn G_year_table (hr.mono (by decide)) rfl (pa_cons (pv 0) pa_nil)))
      (pss_cons (ps_set (i := 5) sc_rests_after.nd rfl (Or.inl rfl) (pe_fn G_rests (hr.mono (by decide)) rfl (pa_cons (pv 3) (pa_cons (pv 2) pa_nil))))
      (pss_cons (ps_set (i := 6) sc_rests_after.nd rfl (Or.inl rfl) (pv 1))
      (pss_cons (ps_while PassesOwn.never (pt_cmpR op_gt (pv 6) pe_int (nomark _)) (pss_cons (ps_if (pt_cmpR op_eq (pe_op op_mod (pv 6) pe_int) pe_int (nomark _)) (pss_one (ps_set (i := 5) sc_rests_after.nd rfl (Or.inl rfl) (pe_fn G_rests (hr.mono (by decide)) rfl (pa_cons (pe_fn G_table_times (hr.mono (by decide)) rfl (pa_cons (pv 4) (pa_cons (pv 5) pa_nil))) (pa_cons (pv 2) pa_nil))))) pss_nil)
      (pss_cons (ps_set (i := 4) sc_rests_after.nd rfl (Or.inl rfl) (pe_fn G_squared (hr.mono (by decide)) rfl (pa_cons (pv 4) (pa_cons (pv 2) pa_nil))))
      (pss_one (ps_set (i := 6) sc_rests_after.nd rfl (Or.inl rfl) (pe_op op_fdivB (pv 6) pe_int))))))
      (pss_one (ps_ret (pv 5))))))), ?_⟩
    have h8 := hok.a8
    have ha : l.ages = l.births.length := rfl
    refine ⟨_, rfl, l, lv, rfl, hL, hok, fun v1 H1 s1 f1 => ?_⟩
    refine ⟨_, rfl, _, rfl, x, q, vx, rfl, LsA.mono _ _ _ _ s1 hx, hq, by omega, fun v2 H2 s2 f2 => ?_⟩
    refine ⟨_, rfl, ?_⟩
    refine ⟨fun m σ' H' => ∃ (kk : Nat) (Tb : List (List Nat)) (y : List Nat) (vt vy : V), σ' = [some lv, some (.int (t : Nat)), some (.int (q : Nat)), some vx, some vt, some vy, some (.int (m : Nat))] ∧ Same H H' ∧ TbA Tb H' vt ∧ LsA y (nw H H') vy ∧ m < 2 ^ kk ∧ M.Sq l.ages Tb ∧ Low Tb ∧ y.length = l.ages ∧ M.restsLoop q kk m Tb y = Vbecak.farMod l t q x,
      ⟨t, 64, M.yearTable l, _, v1, v2, rfl, s1.trans s2, TbA.mono _ _ _ _ ((nw_sub _ _).trans s2) f1, LsA.mono _ _ _ _ (nw_left s1) f2, ht, year_sq hok, year_low hok, by rw [List.length_map]; exact hlen, M.far_ok hok ht hlen⟩, ?_⟩
    rintro m σ' H' ⟨kk, Tb, y, vt, vy, rfl, s', hT, hy, hm, hsq, hlow, hyl, hres⟩
    refine ⟨_, rfl, _, _, rfl, rfl, _, rfl, ?_⟩
    by_cases h0 : 0 < m
    · refine ifT (decide_eq_true (show (0 : Int) < (m : Nat) by omega)) ?_
      obtain ⟨k2, rfl⟩ : ∃ k2, kk = k2 + 1 := by
        cases kk with
        | zero => simp at hm; omega
        | succ k2 => exact ⟨k2, rfl⟩
      have hm2 : m / 2 < 2 ^ k2 := by rw [Nat.pow_succ] at hm; omega
      unfold M.restsLoop at hres
      rw [if_neg (show ¬ m = 0 by omega)] at hres
      have hTl := hsq.len
      have hsqT : M.Sq Tb.length Tb := by rw [hTl]; exact hsq
      have sqq := M.times_sq (q := q) hsq hsq
      have lowq : Low (Vbecak.timesMod q Tb Tb) := fun r hr z hz => by
        unfold Vbecak.timesMod at hr
        obtain ⟨r0, _, rfl⟩ := List.mem_map.mp hr
        obtain ⟨j, _, rfl⟩ := List.mem_map.mp hz
        exact Nat.lt_trans (Nat.mod_lt _ hq) (by omega)
      refine ⟨fun σ'' H'' => ∃ (Tb : List (List Nat)) (y : List Nat) (vt vy : V), σ'' = [some lv, some (.int (t : Nat)), some (.int (q : Nat)), some vx, some vt, some vy, some (.int ((m / 2 : Nat) : Int))] ∧ Same H H'' ∧ TbA Tb H'' vt ∧ LsA y (nw H H'') vy ∧ M.Sq l.ages Tb ∧ Low Tb ∧ y.length = l.ages ∧ M.restsLoop q k2 (m / 2) Tb y = Vbecak.farMod l t q x, fun σ'' H'' ⟨Tb, y, vt, vy, e1, e2, e3, e4, e5, e6, e7, e8⟩ => ⟨m / 2, by omega, k2, Tb, y, vt, vy, e1, e2, e3, e4, hm2, e5, e6, e7, e8⟩, ?_⟩
      have fin : ∀ (y2 : List Nat) (vy2 : V) (H4 : Hp), Same H H4 → TbA Tb H4 vt → LsA y2 (nw H H4) vy2 → y2.length = l.ages → M.restsLoop q k2 (m / 2) (Vbecak.timesMod q Tb Tb) y2 = Vbecak.farMod l t q x →
          ∀ (Q4 : VK), (∀ v5 H5, Same H4 H5 → TbA (Vbecak.timesMod q Tb Tb) (nw H4 H5) v5 → Q4 v5 H5) → sp_squared [vt, .int (q : Nat)] H4 Q4 E0 := fun y2 vy2 H4 s4 hT4 hy4 hl4 hr4 Q4 kq =>
        ⟨Tb, q, vt, rfl, hT4, hsqT, by omega, hlow, hq, kq⟩
      refine ⟨_, rfl, _, _, rfl, rfl, (show (0 : Int) < 2 by decide), rfl, _, rfl, ?_⟩
      by_cases hodd : m % 2 = 1
      · refine ifT (decide_eq_true (show V.int (((m : Nat) : Int) % 2) = V.int 1 by congr 1; omega)) ?_
        rw [if_pos hodd] at hres
        refine ⟨_, rfl, _, rfl, Tb, y, vt, vy, rfl, hT, LsA.mono _ _ _ _ (nw_sub _ _) hy, fun r hr => by rw [hsq.row r hr, hyl], by omega, by omega, hlow, fun v3 H3 s3 f3 => ?_⟩
        refine ⟨_, rfl, _, q, v3, rfl, LsA.mono _ _ _ _ (nw_sub _ _) f3, hq, by rw [M.tt_len hsq]; omega, fun v4 H4 s4 f4 => ?_⟩
        have t4 : Same H H4 := (s'.trans s3).trans s4
        have hT4 := TbA.mono _ _ _ _ (s3.trans s4) hT
        have hy4 : LsA _ (nw H H4) v4 := LsA.mono _ _ _ _ (nw_left (s'.trans s3)) f4
        have hl4 : ((M.tableTimes Tb y).map fun a => a % q).length = l.ages := by rw [List.length_map, M.tt_len hsq]
        refine ⟨_, rfl, _, rfl, fin _ v4 H4 t4 hT4 hy4 hl4 hres _ fun v5 H5 s5 f5 => ?_⟩
        refine ⟨_, rfl, _, _, rfl, rfl, ⟨by decide, by decide +kernel⟩, ?_⟩
        exact ⟨_, _, v5, v4, rfl, t4.trans s5, TbA.mono _ _ _ _ (nw_sub _ _) f5, LsA.mono _ _ _ _ (nw_right s5) hy4, sqq, lowq, hl4, hres⟩
      · refine ifF (decide_eq_false (by intro e; injection e with e; omega)) ?_
        rw [if_neg hodd] at hres
        refine ⟨_, rfl, _, rfl, fin y vy H' s' hT hy hyl hres _ fun v5 H5 s5 f5 => ?_⟩
        refine ⟨_, rfl, _, _, rfl, rfl, ⟨by decide, by decide +kernel⟩, ?_⟩
        exact ⟨_, _, v5, vy, rfl, s'.trans s5, TbA.mono _ _ _ _ (nw_sub _ _) f5, LsA.mono _ _ _ _ (nw_right s5) hy, sqq, lowq, hyl, hres⟩
    · refine ifF (decide_eq_false (by omega)) ?_
      have e0 : m = 0 := by omega
      subst e0
      have ey : M.restsLoop q kk 0 Tb y = y := by
        cases kk with
        | zero => rfl
        | succ k2 => unfold M.restsLoop; rw [if_pos rfl]
      rw [ey] at hres
      refine ⟨_, rfl, k _ _ s' ?_⟩
      rw [← hres]
      exact hy
theorem sc_newborn_after : FnScope ["life", "t", "one"] ["life", "t"] (defScope (top 34)) := ⟨rfl, rfl, rfl, by decide +kernel, rfl, by decide +kernel, by decide +kernel⟩
theorem ok_newborn_after {f : Addr} {fd : FuncData} (F : Fun K "newborn_after" "newborn_after" (top 34) f fd) (T : Tx K mg CL CR) (G_numbers_after : FOk P w K mg base "numbers_after" 3 ["life", "t", "x"] (sp_numbers_after CL))  :
    FnOk P w K mg base CX0 4 f fd ["life", "t"] (sp_newborn_after CL) := by
  refine F.ok sc_newborn_after (fun vs H Q E h => ?_) (fun cdv A outer s H vs Q E hr h => ?_)
  · obtain ⟨l, lv, t, rfl, hL, hok, ht, k⟩ := h
    rfl
  · obtain ⟨l, lv, t, rfl, hL, hok, ht, k⟩ := h
    refine ⟨_, (pss_cons (ps_set (i := 2) sc_newborn_after.nd rfl (Or.inl rfl) (pe_op op_cat (pe_lst (pa_cons pe_int pa_nil)) (pe_op op_rep (pe_lst (pa_cons pe_int pa_nil)) (pe_op op_sub (pe_fld (pv 0) rfl) pe_int))))
      (pss_one (ps_ret (pe_ix ix_list (pe_fn G_numbers_after (hr.mono (by decide)) rfl (pa_cons (pv 0) (pa_cons (pv 1) (pa_cons (pv 2) pa_nil)))) pe_int (fun _ _ => rfl))))), ?_⟩
    obtain ⟨a, dx, pb, ps, rfl, h1, h2, h3⟩ := id hL
    have ha : l.ages = l.births.length := rfl
    have h8 := hok.a8
    have h0 := hok.a0
    refine ⟨(by show 1 ≤ sizeLine; decide), fun p1 hp1 => ?_⟩
    have s1 := same_upd (o := .lst [.int 1]) hp1
    refine ⟨(by show 1 ≤ sizeLine; decide), fun p2 hp2 => ?_⟩
    have s2 := s1.trans (same_upd (o := .lst [.int 0]) hp2)
    have e1 : (((l.ages : Nat) : Int) - 1).toNat = l.ages - 1 := by omega
    refine ⟨_, rfl, a, CL, dx, _, _, rfl, s2 _ _ h1, T.clL, T.nL_ages, lfs_ages _ _ _ _, _, _, rfl, rfl, p2, _, _, rfl, rfl, upd_same, by omega, by omega, small_line (by show 1 * (((l.ages : Nat) : Int) - 1).toNat ≤ 100000; omega), fun p3 hp3 => ?_⟩
    rw [e1, rep_flat]
    have n12 : p1 ≠ p2 := ne_of_none upd_same hp2
    have g1 : (upd (upd H p1 (.lst [.int 1])) p2 (.lst [.int 0])) p1 = some (.lst [.int 1]) := by rw [upd_ne n12, upd_same]
    have s3 := s2.trans (same_upd (o := .lst (nums (List.replicate (l.ages - 1) 0))) hp3)
    refine ⟨p1, p3, _, _, rfl, rfl, by rw [upd_ne (ne_of_none g1 hp3)]; exact g1, upd_same, small_line (by rw [nums_len, List.length_replicate]; show 1 + (l.ages - 1) ≤ 100000; omega), fun p4 hp4 => ?_⟩
    have s4 := s3.trans (same_upd (o := .lst ([V.int 1] ++ nums (List.replicate (l.ages - 1) 0))) hp4)
    refine ⟨_, rfl, _, rfl, _, rfl, l, .ref a, t, M.one l, .ref p4, rfl, LifeA.mono _ _ _ _ _ s4 hL, hok, ht, ⟨p4, rfl, ?_⟩, M.one_len hok, fun v5 H5 s5 ⟨p5, e5, f5⟩ => ?_⟩
    · rw [upd_same]; rfl
    subst e5
    have hal := M.after_len hok t (M.one_len hok)
    refine ⟨p5, _, _, _, rfl, rfl, SqL.of (nw_sub _ _ _ _ f5), at_of (j := 0) rfl (nums_get (by omega)), ?_⟩
    rw [M.births_head hok]
    exact k _ (s4.trans s5)
end
end G

set_option Elab.async false
set_option linter.all false
set_option maxRecDepth 100000
set_option maxHeartbeats 2000000
set_option exponentiation.threshold 100000
namespace G
open PySem PySem.Spec PyProof.Rows L2
def IsL (ns : List Int) (H : Hp) (v : V) : Prop := ∃ a, v = .ref a ∧ H a = some (.lst (ns.map V.int))
theorem IsL.mono (ns : List Int) : Mono (IsL ns) := fun H H' v s ⟨a, e, h⟩ => ⟨a, e, s _ _ h⟩
theorem IsL.nat {x : List Int} {H : Hp} {u : V} (h : IsL x H u) (nn : ∀ a ∈ x, 0 ≤ a) : LsA (x.map Int.toNat) H u := by
  obtain ⟨a, e, h⟩ := h
  refine ⟨a, e, ?_⟩
  rw [nums_map, M.nn_map nn]
  exact h
def RwA (rows : List (List Int)) : Hp → V → Prop := LR rows.length (fun i => IsL (rows.getD i []))
theorem RwA.mono (rows : List (List Int)) : Mono (RwA rows) := LR.mono fun i => IsL.mono _
theorem nil_of {α : Type} {l : List α} (h : l.length = 0) : l = [] := List.length_eq_zero_iff.mp h
theorem one_of {α : Type} {l : List α} (h : l.length = 1) : ∃ a, l = [a] := List.length_eq_one_iff.mp h
theorem two_of {α : Type} {l : List α} (h : l.length = 2) : ∃ a b, l = [a, b] := by
  match l, h with
  | [a, b], _ => exact ⟨a, b, rfl⟩
theorem rw1 {x : List Int} {H : Hp} {v : V} (h : RwA [x] H v) : ∃ pr u, v = .ref pr ∧ H pr = some (.lst [u]) ∧ IsL x H u := by
  obtain ⟨pr, us, e, hp, hl, hu⟩ := h
  obtain ⟨u, rfl⟩ := one_of (show us.length = 1 from hl)
  exact ⟨pr, u, e, hp, hu 0 u rfl⟩
theorem rw2 {x y : List Int} {H : Hp} {v : V} (h : RwA [x, y] H v) : ∃ pr u w, v = .ref pr ∧ H pr = some (.lst [u, w]) ∧ IsL x H u ∧ IsL y H w := by
  obtain ⟨pr, us, e, hp, hl, hu⟩ := h
  obtain ⟨u, w, rfl⟩ := two_of (show us.length = 2 from hl)
  exact ⟨pr, u, w, e, hp, hu 0 u rfl, hu 1 w rfl⟩
theorem shp {n : Int} {a b : Nat} {ws : List Int} {rows : List (List Int)} (h : PyVbecak.shape n = some (ws.length, rows.length)) (e : PyVbecak.shape n = some (a, b)) : ws.length = a ∧ rows.length = b := by
  rw [h] at e
  injection e with e
  injection e with e1 e2
  exact ⟨e1, e2⟩
/-- a new list of whole numbers comes back -/
def RetL (H : Hp) (Q : VK) (ns : List Int) : Prop := ∀ (H' : Hp) (p : Addr), Same H H' → H p = none → H' p = some (.lst (ns.map V.int)) → Q (.ref p) H'
theorem ret1 {H H1 : Hp} {Q : VK} {ns : List Int} {us : List V} {p : Addr} (k : RetL H Q ns) (s : Same H H1) (hp : H1 p = none) (e : us = ns.map V.int) : Q (.ref p) (upd H1 p (.lst us)) :=
  k _ p (s.trans (same_upd hp)) (s.free hp) (by rw [upd_same, e])
def sp_within : Sp := fun vs H Q _ => ∃ a b c : Int, vs = [.int a, .int b, .int c] ∧ Q (.bl (decide (b ≤ a ∧ a ≤ c))) H
def allB (ns : List Int) (b c : Int) : Bool := ns.all fun x => decide (b ≤ x ∧ x ≤ c)
def sp_all_within : Sp := fun vs H Q _ => ∃ (ns : List Int) (va : V) (b c : Int), vs = [va, .int b, .int c] ∧ IsL ns H va ∧ ns.length ≤ 1000 ∧ ∀ H', Same H H' → Q (.bl (allB ns b c)) H'
def sp_is_herd (CL : Addr) : Sp := fun vs H Q _ => ∃ (l : Vbecak.Life) (lv : V) (ns : List Int) (vx : V), vs = [lv, vx] ∧ LifeA CL l H lv ∧ IsL ns H vx ∧ ns.length ≤ 1000 ∧ ∀ H', Same H H' → Q (.bl (M.herdB l ns)) H'
def sp_answer_life : Sp := fun vs H Q _ => ∃ (d : Int) (bs ss : List Int) (vb vt : V), vs = [.int d, vb, vt] ∧ IsL bs H vb ∧ IsL ss H vt ∧ bs.length ≤ 1000 ∧ ss.length ≤ 1000 ∧ RetL H Q [M.lifeCode d bs ss]
def sp_fate_of : Sp := fun vs H Q _ => ∃ (p q : Vbecak.Frac) (vn vw : V), vs = [vn, vw] ∧ FrA p H vn ∧ FrA q H vw ∧ 0 < p.2 ∧ 0 < q.2 ∧ Q (.int ((if q.1 = 0 then 0 else if p.2 < p.1 then 2 else if p.1 = p.2 then 1 else 0 : Nat) : Int)) H
def sp_no_births_to_come (CL : Addr) : Sp := fun vs H Q _ => ∃ (l : Vbecak.Life) (lv : V), vs = [lv] ∧ LifeA CL l H lv ∧ M.LOk 20 1000 l ∧ ∀ H', Same H H' → Q (.bl (decide ((Vbecak.net l).1 = 0))) H'
/-- an answering def: the call of number n with its whole numbers ws and its rows -/
def sp_ans (CL : Addr) (n : Int) : Sp := fun vs H Q _ => ∃ (l : Vbecak.Life) (lv wv rv : V) (ws : List Int) (rows : List (List Int)), vs = [lv, wv, rv] ∧ LifeA CL l H lv ∧ M.LOk 20 1000 l ∧ IsL ws H wv ∧ RwA rows H rv ∧ (∀ r ∈ rows, r.length ≤ 1000) ∧
  PyVbecak.shape n = some (ws.length, rows.length) ∧ RetL H Q (Vbecak.step ⟨some l⟩ ((n :: ws) :: rows)).2
section
variable {P : Program} {w : World} {K : PySem.W.Frag} {mg : Str → Option Value} {base : Heap} {CL CR : Addr}
theorem sc_within : FnScope ["number", "least", "greatest"] ["number", "least", "greatest"] (defScope (top 51)) := ⟨rfl, rfl, rfl, by decide +kernel, rfl, by decide +kernel, by decide +kernel⟩
theorem ok_within {f : Addr} {fd : FuncData} (F : Fun K "within" "within" (top 51) f fd) (T : Tx K mg CL CR)   :
    FnOk P w K mg base CX0 1 f fd ["number", "least", "greatest"] sp_within := by
  refine F.ok sc_within (fun vs H Q E h => ?_) (fun cdv A outer s H vs Q E hr h => ?_)
  · obtain ⟨a, b, c, rfl, k⟩ := h
    rfl
  · obtain ⟨a, b, c, rfl, k⟩ := h
    refine ⟨_, (pss_one (ps_ret (pe_and (pe_cmpR op_le (pv 1) (pv 0) (nomark _)) (pe_one (pe_cmpR op_le (pv 0) (pv 2) (nomark _)))))), ?_⟩
    refine ⟨_, rfl, _, rfl, _, _, rfl, rfl, _, rfl, ?_⟩
    by_cases h1 : b ≤ a
    · refine ifT (decide_eq_true h1) ?_
      refine ⟨_, rfl, _, rfl, _, _, rfl, rfl, ?_⟩
      have e : decide (a ≤ c) = decide (b ≤ a ∧ a ≤ c) := by simp [h1]
      dsimp only
      rw [e]
      exact k
    · refine ifF (decide_eq_false h1) ?_
      have e : decide (b ≤ a ∧ a ≤ c) = false := by simp [h1]
      rw [e] at k
      exact k
theorem sc_all_within : FnScope ["numbers", "least", "greatest", "number"] ["numbers", "least", "greatest"] (defScope (top 52)) := ⟨rfl, rfl, rfl, by decide +kernel, rfl, by decide +kernel, by decide +kernel⟩
theorem ok_all_within {f : Addr} {fd : FuncData} (F : Fun K "all_within" "all_within" (top 52) f fd) (T : Tx K mg CL CR) (G_within : FOk P w K mg base "within" 1 ["number", "least", "greatest"] sp_within)  :
    FnOk P w K mg base CX0 2 f fd ["numbers", "least", "greatest"] sp_all_within := by
  refine F.ok sc_all_within (fun vs H Q E h => ?_) (fun cdv A outer s H vs Q E hr h => ?_)
  · obtain ⟨ns, va, b, c, rfl, ⟨a, rfl, ha⟩, hl, k⟩ := h
    rfl
  · obtain ⟨ns, va, b, c, rfl, ⟨a, rfl, ha⟩, hl, k⟩ := h
    refine ⟨_, (pss_one (ps_ret (pe_callB (cr_all rfl) rfl T.b_all boot_all (pa_cons (pe_lc rfl sc_all_within.nd (pi_list (pv 0)) (blkOk_by (own := [("number", 3)]) (by show blkC ["numbers", "least", "greatest", "number"] (defScope (top 52)) _ [("number", 3)] = true; decide +kernel)) (fun _ _ _ _ _ => (pg_name (i := 3) sc_all_within.nd rfl (Or.inl rfl))) (fun _ _ _ _ _ => pts_nil) (fun _ _ _ _ _ => (pe_fn G_within (hr.mono (by decide)) rfl (pa_cons (pv 3) (pa_cons (pv 1) (pa_cons (pv 2) pa_nil)))))) pa_nil)))), ?_⟩
    refine ⟨_, rfl, a, rfl, ⟨_, SqL.of ha⟩, fun D hD => lc_listR (xs := ns.map V.int) (fun i _ u => ∃ z, ns[i]? = some z ∧ u = .bl (decide (b ≤ z ∧ z ≤ c))) (fun i _ _ _ _ h => h) hD (by rw [List.length_map]; omega) (SqL.of ha) (fun _ => rfl) ?_ ?_⟩
    · intro i u H' Q' hi s' r
      rw [List.getElem?_map] at hi
      obtain ⟨z, hz, rfl⟩ := Option.map_eq_some_iff.mp hi
      exact ⟨_, rfl, _, rfl, _, rfl, z, b, c, rfl, r _ _ (Same.refl _) ⟨z, hz, rfl⟩⟩
    · intro H2 s2 r2
      obtain ⟨q, us, e, hq, hl2, hu⟩ := r2
      cases e
      have eu : us = (ns.map fun z => decide (b ≤ z ∧ z ≤ c)).map V.bl := by
        refine List.ext_getElem? fun i => ?_
        rw [List.getElem?_map, List.getElem?_map]
        cases hi : us[i]? with
        | none =>
          have h1 := List.getElem?_eq_none_iff.mp hi
          rw [List.length_map] at hl2
          rw [List.getElem?_eq_none (show ns.length ≤ i by omega)]
          rfl
        | some u =>
          obtain ⟨z, hz, rfl⟩ := hu i u hi
          rw [hz]
          rfl
      refine ⟨D, ns.map fun z => decide (b ≤ z ∧ z ≤ c), rfl, SqL.of (by rw [← eu]; exact nw_sub _ _ _ _ hq), ?_⟩
      rw [List.all_map]
      exact k _ s2
theorem sc_is_herd : FnScope ["life", "x"] ["life", "x"] (defScope (top 53)) := ⟨rfl, rfl, rfl, by decide +kernel, rfl, by decide +kernel, by decide +kernel⟩
theorem ok_is_herd {f : Addr} {fd : FuncData} (F : Fun K "is_herd" "is_herd" (top 53) f fd) (T : Tx K mg CL CR) (G_all_within : FOk P w K mg base "all_within" 2 ["numbers", "least", "greatest"] sp_all_within)  :
    FnOk P w K mg base CX0 3 f fd ["life", "x"] (sp_is_herd CL) := by
  refine F.ok sc_is_herd (fun vs H Q E h => ?_) (fun cdv A outer s H vs Q E hr h => ?_)
  · obtain ⟨l, lv, ns, vx, rfl, hL, hx, hl, k⟩ := h
    rfl
  · obtain ⟨l, lv, ns, vx, rfl, hL, hx, hl, k⟩ := h
    refine ⟨_, (pss_one (ps_ret (pe_and (pe_cmpR op_eq (pe_callB call_len_seq rfl T.b_len PySem.boot_len (pa_cons (pv 1) pa_nil)) (pe_fld (pv 0) rfl) (nomark _)) (pe_one (pe_fn G_all_within (hr.mono (by decide)) rfl (pa_cons (pv 1) (pa_cons pe_int (pa_cons (pe_cst T.c_MOST_OF_AN_AGE rfl) pa_nil)))))))), ?_⟩
    obtain ⟨a, dx, pb, ps, rfl, h1, h2, h3⟩ := id hL
    obtain ⟨px, rfl, hpx⟩ := id hx
    refine ⟨_, rfl, px, _, rfl, .inl (SqL.of hpx), _, rfl, a, CL, dx, _, _, rfl, h1, T.clL, T.nL_ages, lfs_ages _ _ _ _, rfl, _, rfl, ?_⟩
    by_cases h : ns.length = l.ages
    · refine ifT (decide_eq_true (by rw [List.length_map, h])) ?_
      refine ⟨_, rfl, ns, .ref px, 0, 10000, rfl, hx, hl, fun H' s' => ?_⟩
      have e : allB ns 0 10000 = M.herdB l ns := by
        unfold M.herdB
        rw [decide_eq_true h, Bool.true_and]
        rfl
      rw [e]
      exact k _ s'
    · refine ifF (decide_eq_false (by rw [List.length_map]; intro e; injection e with e; omega)) ?_
      have e : M.herdB l ns = false := by
        unfold M.herdB
        rw [decide_eq_false h, Bool.false_and]
      have := k _ (Same.refl _)
      rw [e] at this
      exact this
theorem sc_answer_life : FnScope ["d", "births", "stays"] ["d", "births", "stays"] (defScope (top 54)) := ⟨rfl, rfl, rfl, by decide +kernel, rfl, by decide +kernel, by decide +kernel⟩
theorem ok_answer_life {f : Addr} {fd : FuncData} (F : Fun K "answer_life" "answer_life" (top 54) f fd) (T : Tx K mg CL CR) (G_within : FOk P w K mg base "within" 1 ["number", "least", "greatest"] sp_within) (G_all_within : FOk P w K mg base "all_within" 2 ["numbers", "least", "greatest"] sp_all_within)  :
    FnOk P w K mg base CX0 4 f fd ["d", "births", "stays"] sp_answer_life := by
  refine F.ok sc_answer_life (fun vs H Q E h => ?_) (fun cdv A outer s H vs Q E hr h => ?_)
  · obtain ⟨d, bs, ss, vb, vt, rfl, hb, ht, hlb, hlt, k⟩ := h
    rfl
  · obtain ⟨d, bs, ss, vb, vt, rfl, hb, ht, hlb, hlt, k⟩ := h
    refine ⟨_, (pss_cons (ps_if (pt_not (pt_val (pe_fn G_within (hr.mono (by decide)) rfl (pa_cons (pv 0) (pa_cons pe_int (pa_cons (pe_cst T.c_MOST_PARTS rfl) pa_nil)))))) (pss_one (ps_ret (pe_lst (pa_cons (pe_cst T.c_WHOLE_OUT_OF_RANGE rfl) pa_nil)))) pss_nil)
      (pss_cons (ps_if (PW.pt (pw_or (pt_not (pt_val (pe_fn G_within (hr.mono (by decide)) rfl (pa_cons (pe_callB call_len_seq rfl T.b_len PySem.boot_len (pa_cons (pv 1) pa_nil)) (pa_cons pe_int (pa_cons (pe_cst T.c_MOST_AGES rfl) pa_nil)))))) (pw_or1 (pt_not (pt_val (pe_fn G_all_within (hr.mono (by decide)) rfl (pa_cons (pv 1) (pa_cons pe_int (pa_cons (pe_cst T.c_MOST_BIRTHS rfl) pa_nil))))))))) (pss_one (ps_ret (pe_lst (pa_cons (pe_cst T.c_LIST_OUT_OF_RANGE rfl) pa_nil)))) pss_nil)
      (pss_cons (ps_if (PW.pt (pw_or (pt_cmpR op_ne (pe_callB call_len_seq rfl T.b_len PySem.boot_len (pa_cons (pv 2) pa_nil)) (pe_op op_sub (pe_callB call_len_seq rfl T.b_len PySem.boot_len (pa_cons (pv 1) pa_nil)) pe_int) (nomark _)) (pw_or1 (pt_not (pt_val (pe_fn G_all_within (hr.mono (by decide)) rfl (pa_cons (pv 2) (pa_cons pe_int (pa_cons (pv 0) pa_nil))))))))) (pss_one (ps_ret (pe_lst (pa_cons (pe_cst T.c_LIST_OUT_OF_RANGE rfl) pa_nil)))) pss_nil)
      (pss_one (ps_ret (pe_lst (pa_cons pe_int pa_nil))))))), ?_⟩
    obtain ⟨pb, rfl, hpb⟩ := id hb
    obtain ⟨pt, rfl, hpt⟩ := id ht
    refine ⟨_, rfl, d, 1, 20, rfl, _, rfl, ?_⟩
    unfold M.lifeCode at k
    by_cases c1 : 1 ≤ d ∧ d ≤ 20
    · refine ifF (by rw [decide_eq_true c1]; rfl) ?_
      rw [if_pos c1] at k
      refine ⟨_, rfl, pb, _, rfl, .inl (SqL.of hpb), _, 1, 8, rfl, _, rfl, ?_⟩
      by_cases c2 : 1 ≤ bs.length ∧ bs.length ≤ 8
      · refine ifF (by rw [decide_eq_true (show (1 : Int) ≤ ((bs.map V.int).length : Nat) ∧ (((bs.map V.int).length : Nat) : Int) ≤ 8 by rw [List.length_map]; omega)]; rfl) ?_
        refine ⟨_, rfl, bs, .ref pb, 0, 1000, rfl, hb, hlb, fun H1 s1 => ⟨_, rfl, ?_⟩⟩
        by_cases c3 : allB bs 0 1000 = true
        · refine ifF (by rw [c3]; rfl) ?_
          rw [if_pos ⟨c2, c3⟩] at k
          refine ⟨_, rfl, pt, _, rfl, .inl (SqL.of (s1 _ _ hpt)), _, rfl, pb, _, rfl, .inl (SqL.of (s1 _ _ hpb)), _, _, rfl, rfl, rfl, _, rfl, ?_⟩
          by_cases c4 : ss.length + 1 = bs.length
          · refine ifF (by rw [decide_eq_true (by rw [List.length_map, List.length_map]; congr 1; omega)]; rfl) ?_
            refine ⟨_, rfl, _, rfl, ss, .ref pt, 0, d, rfl, IsL.mono _ _ _ _ s1 ht, hlt, fun H2 s2 => ⟨_, rfl, ?_⟩⟩
            by_cases c5 : allB ss 0 d = true
            · refine ifF (by rw [c5]; rfl) ?_
              rw [if_pos ⟨c4, c5⟩] at k
              exact ⟨(by show 1 ≤ sizeLine; decide), fun p hp => ret1 k (s1.trans s2) hp rfl⟩
            · refine ifT (by simp [c5]) ?_
              rw [if_neg (fun q => c5 q.2)] at k
              exact ⟨(by show 1 ≤ sizeLine; decide), fun p hp => ret1 k (s1.trans s2) hp rfl⟩
          · refine ifT (by rw [decide_eq_false (by rw [List.length_map, List.length_map]; intro e; injection e with e; omega)]; rfl) ?_
            rw [if_neg (fun q => c4 q.1)] at k
            exact ⟨(by show 1 ≤ sizeLine; decide), fun p hp => ret1 k s1 hp rfl⟩
        · refine ifT (by simp [c3]) ?_
          rw [if_neg (fun q => c3 q.2)] at k
          exact ⟨(by show 1 ≤ sizeLine; decide), fun p hp => ret1 k s1 hp rfl⟩
      · refine ifT (by rw [decide_eq_false (show ¬ ((1 : Int) ≤ ((bs.map V.int).length : Nat) ∧ (((bs.map V.int).length : Nat) : Int) ≤ 8) by rw [List.length_map]; omega)]; rfl) ?_
        rw [if_neg (fun q => c2 q.1)] at k
        exact ⟨(by show 1 ≤ sizeLine; decide), fun p hp => ret1 k (Same.refl _) hp rfl⟩
    · refine ifT (by rw [decide_eq_false c1]; rfl) ?_
      rw [if_neg c1] at k
      exact ⟨(by show 1 ≤ sizeLine; decide), fun p hp => ret1 k (Same.refl _) hp rfl⟩
theorem sc_fate_of : FnScope ["net", "worth"] ["net", "worth"] (defScope (top 59)) := ⟨rfl, rfl, rfl, by decide +kernel, rfl, by decide +kernel, by decide +kernel⟩
theorem ok_fate_of {f : Addr} {fd : FuncData} (F : Fun K "fate_of" "fate_of" (top 59) f fd) (T : Tx K mg CL CR)   :
    FnOk P w K mg base CX0 1 f fd ["net", "worth"] sp_fate_of := by
  refine F.ok sc_fate_of (fun vs H Q E h => ?_) (fun cdv A outer s H vs Q E hr h => ?_)
  · obtain ⟨p, q, vn, vw, rfl, ⟨a, rfl, ha⟩, ⟨b, rfl, hb⟩, hp, hq, k⟩ := h
    rfl
  · obtain ⟨p, q, vn, vw, rfl, ⟨a, rfl, ha⟩, ⟨b, rfl, hb⟩, hp, hq, k⟩ := h
    refine ⟨_, (pss_cons (ps_if (PW.pt (pw_or (pt_cmpR op_eq (pe_ix ix_tup (pv 1) pe_int (fun _ _ => rfl)) pe_int (nomark _)) (pw_or1 (pt_cmpR op_lt (pe_ix ix_tup (pv 0) pe_int (fun _ _ => rfl)) (pe_ix ix_tup (pv 0) pe_int (fun _ _ => rfl)) (nomark _))))) (pss_one (ps_ret pe_int)) pss_nil)
      (pss_cons (ps_if (pt_cmpR op_gt (pe_ix ix_tup (pv 0) pe_int (fun _ _ => rfl)) (pe_ix ix_tup (pv 0) pe_int (fun _ _ => rfl)) (nomark _)) (pss_one (ps_ret pe_int)) pss_nil)
      (pss_one (ps_ret pe_int)))), ?_⟩
    refine ⟨_, rfl, _, _, _, _, rfl, rfl, SqT.of hb, (atI_nat (j := 0) rfl), rfl, _, rfl, ?_⟩
    have z1 := M.lowest_fst_zero hq
    have z2 := M.lowest_lt_iff hp
    have z3 := M.lowest_gt_iff hp
    by_cases c1 : q.1 = 0
    · refine ifT (decide_eq_true (by rw [z1.mpr c1]; rfl)) ?_
      rw [if_pos c1] at k
      exact k
    · refine ifF (decide_eq_false (by intro e; injection e with e; omega)) ?_
      rw [if_neg c1] at k
      refine ⟨_, rfl, _, _, _, _, rfl, rfl, SqT.of ha, (atI_nat (j := 0) rfl), _, rfl, _, _, _, _, rfl, rfl, SqT.of ha, (atI_nat (j := 1) rfl), _, _, rfl, rfl, _, rfl, ?_⟩
      by_cases c2 : p.1 < p.2
      · refine ifT (decide_eq_true (by have := z2.mpr c2; omega)) ?_
        rw [if_neg (show ¬ p.2 < p.1 by omega), if_neg (show ¬ p.1 = p.2 by omega)] at k
        exact k
      · refine ifF (decide_eq_false (by intro e; exact c2 (z2.mp (by omega)))) ?_
        refine ⟨_, rfl, _, _, _, _, rfl, rfl, SqT.of ha, (atI_nat (j := 0) rfl), _, rfl, _, _, _, _, rfl, rfl, SqT.of ha, (atI_nat (j := 1) rfl), _, _, rfl, rfl, _, rfl, ?_⟩
        by_cases c3 : p.2 < p.1
        · refine ifT (decide_eq_true (by have := z3.mpr c3; omega)) ?_
          rw [if_pos c3] at k
          exact k
        · refine ifF (decide_eq_false (by intro e; exact c3 (z3.mp (by omega)))) ?_
          rw [if_neg c3, if_pos (show p.1 = p.2 by omega)] at k
          exact k
theorem sc_no_births_to_come : FnScope ["life"] ["life"] (defScope (top 64)) := ⟨rfl, rfl, rfl, by decide +kernel, rfl, by decide +kernel, by decide +kernel⟩
theorem ok_no_births_to_come {f : Addr} {fd : FuncData} (F : Fun K "no_births_to_come" "no_births_to_come" (top 64) f fd) (T : Tx K mg CL CR) (G_births_to_come : FOk P w K mg base "births_to_come" 4 ["life", "i"] (sp_births_to_come CL))  :
    FnOk P w K mg base CX0 5 f fd ["life"] (sp_no_births_to_come CL) := by
  refine F.ok sc_no_births_to_come (fun vs H Q E h => ?_) (fun cdv A outer s H vs Q E hr h => ?_)
  · obtain ⟨l, lv, rfl, hL, hok0, k⟩ := h
    rfl
  · obtain ⟨l, lv, rfl, hL, hok0, k⟩ := h
    refine ⟨_, (pss_one (ps_ret (pe_cmpR (op_eqD hr.units) (pe_fn G_births_to_come (hr.mono (by decide)) rfl (pa_cons (pv 0) (pa_cons pe_int pa_nil))) (pe_tup (pa_cons pe_int (pa_cons pe_int pa_nil))) (nomark _)))), ?_⟩
    have hok := hok0.mono (D' := 400) (B' := 20000) (by decide) (by decide)
    have h0 := hok.a0
    have ha : l.ages = l.births.length := rfl
    refine ⟨_, rfl, l, lv, 0, rfl, hL, hok, by omega, fun v1 H1 s1 ⟨a1, e1, g1⟩ => ?_⟩
    subst e1
    have g1 := nw_sub _ _ _ _ g1
    refine ⟨(by show 2 ≤ sizeLine; decide), fun p hp => ?_⟩
    have s2 := same_upd (o := .tup [.int 0, .int 1]) hp
    refine ⟨_, _, .tup (SqT.of (s2 _ _ g1)) (.cons (.int _) (.cons (.int _) .nil)), .tup (SqT.of upd_same) (.cons (.int _) (.cons (.int _) .nil)), rfl, rfl, ?_⟩
    have e : PyData.eqv (.tuple [.int ((Vbecak.lowest (Vbecak.value l 0)).1 : Int), .int ((Vbecak.lowest (Vbecak.value l 0)).2 : Int)]) (.tuple [.int 0, .int 1]) = decide ((Vbecak.net l).1 = 0) := by
      have z := M.lowest_zero_iff (M.value_pos hok 0)
      have z : ((Vbecak.lowest (Vbecak.value l 0)).1 = 0 ∧ (Vbecak.lowest (Vbecak.value l 0)).2 = 1) ↔ (Vbecak.net l).1 = 0 := z
      simp only [PyData.eqv, PyData.eqvAll, Bool.and_true]
      rw [Bool.eq_iff_iff, Bool.and_eq_true, beq_iff_eq, beq_iff_eq, decide_eq_true_iff]
      omega
    dsimp only
    rw [e]
    exact k _ (s1.trans s2)
end
end G

set_option Elab.async false
set_option linter.all false
set_option maxRecDepth 100000
set_option maxHeartbeats 2000000
set_option exponentiation.threshold 100000
namespace G
open PySem PySem.Spec PyProof.Rows L2
theorem frl {p : Vbecak.Frac} {H : Hp} {a : Addr} (h : H a = some (.tup [.int ((Vbecak.lowest p).1 : Int), .int ((Vbecak.lowest p).2 : Int)])) : H a = some (.tup (([((Vbecak.lowest p).1 : Int), ((Vbecak.lowest p).2 : Int)] : List Int).map V.int)) := h
section
variable {P : Program} {w : World} {K : PySem.W.Frag} {mg : Str → Option Value} {base : Heap} {CL CR : Addr}
theorem sc_answer_told : FnScope ["life", "wholes", "rows"] ["life", "wholes", "rows"] (defScope (top 55)) := ⟨rfl, rfl, rfl, by decide +kernel, rfl, by decide +kernel, by decide +kernel⟩
theorem ok_answer_told {f : Addr} {fd : FuncData} (F : Fun K "answer_told" "answer_told" (top 55) f fd) (T : Tx K mg CL CR)   :
    FnOk P w K mg base CX0 8 f fd ["life", "wholes", "rows"] (sp_ans CL 1) := by
  refine F.ok sc_answer_told (fun vs H Q E h => ?_) (fun cdv A outer s H vs Q E hr h => ?_)
  · obtain ⟨l, lv, wv, rv, ws, rows, rfl, hL, hok, hw, hrw, h30, hsh, k⟩ := h
    rfl
  · obtain ⟨l, lv, wv, rv, ws, rows, rfl, hL, hok, hw, hrw, h30, hsh, k⟩ := h
    refine ⟨_, (pss_one (ps_ret (pe_op op_cat (pe_op op_cat (pe_lst (pa_cons pe_int (pa_cons (pe_fld (pv 0) rfl) (pa_cons (pe_fld (pv 0) rfl) pa_nil)))) (pe_fld (pv 0) rfl)) (pe_fld (pv 0) rfl)))), ?_⟩
    obtain ⟨a, dx, pb, ps, rfl, h1, h2, h3⟩ := id hL
    obtain ⟨e1, e2⟩ := shp hsh (show PyVbecak.shape 1 = some (0, 0) by decide)
    obtain rfl := nil_of e1
    obtain rfl := nil_of e2
    have ha : l.ages = l.births.length := rfl
    have h8 := hok.a8
    have hsl := hok.sl
    have k : RetL H Q ([0, (l.d : Int), (l.ages : Int)] ++ Vbecak.«ints» (l.births ++ l.stay)) := k
    refine ⟨_, rfl, a, CL, dx, _, _, rfl, h1, T.clL, T.nL_d, lfs_d _ _ _ _, _, rfl, a, CL, dx, _, _, rfl, h1, T.clL, T.nL_ages, lfs_ages _ _ _ _, (by show 3 ≤ sizeLine; decide), fun p1 hp1 => ?_⟩
    have s1 := same_upd (o := .lst [.int 0, .int (l.d : Nat), .int (l.ages : Nat)]) hp1
    refine ⟨_, rfl, a, CL, dx, _, _, rfl, s1 _ _ h1, T.clL, T.nL_births, lfs_births _ _ _ _, p1, pb, _, _, rfl, rfl, upd_same, s1 _ _ h2, small_line (by rw [nums_len]; show 3 + _ ≤ _; omega), fun p2 hp2 => ?_⟩
    have s2 := s1.trans (same_upd (o := .lst ([.int 0, .int (l.d : Nat), .int (l.ages : Nat)] ++ nums l.births)) hp2)
    refine ⟨_, rfl, a, CL, dx, _, _, rfl, s2 _ _ h1, T.clL, T.nL_stays, lfs_stays _ _ _ _, p2, ps, _, _, rfl, rfl, upd_same, s2 _ _ h3, small_line (by rw [List.length_append, nums_len, nums_len]; show 3 + _ + _ ≤ _; omega), fun p3 hp3 => ret1 k s2 hp3 ?_⟩
    unfold Vbecak.«ints»
    rw [List.map_append, List.map_append, List.map_append, ← nums_map, ← nums_map, List.append_assoc]
    rfl
theorem sc_answer_net : FnScope ["life", "wholes", "rows"] ["life", "wholes", "rows"] (defScope (top 58)) := ⟨rfl, rfl, rfl, by decide +kernel, rfl, by decide +kernel, by decide +kernel⟩
theorem ok_answer_net {f : Addr} {fd : FuncData} (F : Fun K "answer_net" "answer_net" (top 58) f fd) (T : Tx K mg CL CR) (G_births_to_come : FOk P w K mg base "births_to_come" 4 ["life", "i"] (sp_births_to_come CL))  :
    FnOk P w K mg base CX0 8 f fd ["life", "wholes", "rows"] (sp_ans CL 4) := by
  refine F.ok sc_answer_net (fun vs H Q E h => ?_) (fun cdv A outer s H vs Q E hr h => ?_)
  · obtain ⟨l, lv, wv, rv, ws, rows, rfl, hL, hok0, hw, hrw, h30, hsh, k⟩ := h
    rfl
  · obtain ⟨l, lv, wv, rv, ws, rows, rfl, hL, hok0, hw, hrw, h30, hsh, k⟩ := h
    refine ⟨_, (pss_one (ps_ret (pe_callTy call_list_of rfl T.b_list boot_list (pa_cons (pe_fn G_births_to_come (hr.mono (by decide)) rfl (pa_cons (pv 0) (pa_cons pe_int pa_nil))) pa_nil)))), ?_⟩
    obtain ⟨e1, e2⟩ := shp hsh (show PyVbecak.shape 4 = some (0, 0) by decide)
    obtain rfl := nil_of e1
    obtain rfl := nil_of e2
    have hok := hok0.mono (D' := 400) (B' := 20000) (by decide) (by decide)
    have ha : l.ages = l.births.length := rfl
    have h0 := hok.a0
    refine ⟨_, rfl, l, lv, 0, rfl, hL, hok, by omega, fun v1 H1 s1 ⟨a1, e1, g1⟩ => ?_⟩
    subst e1
    exact ⟨a1, _, rfl, .inr (SqT.of (nw_sub _ _ _ _ g1)), fun p hp => ret1 k s1 hp rfl⟩
theorem sc_answer_years : FnScope ["life", "wholes", "rows"] ["life", "wholes", "rows"] (defScope (top 63)) := ⟨rfl, rfl, rfl, by decide +kernel, rfl, by decide +kernel, by decide +kernel⟩
theorem ok_answer_years {f : Addr} {fd : FuncData} (F : Fun K "answer_years" "answer_years" (top 63) f fd) (T : Tx K mg CL CR) (G_years_to_live : FOk P w K mg base "years_to_live" 5 ["life"] (sp_years_to_live CL))  :
    FnOk P w K mg base CX0 8 f fd ["life", "wholes", "rows"] (sp_ans CL 8) := by
  refine F.ok sc_answer_years (fun vs H Q E h => ?_) (fun cdv A outer s H vs Q E hr h => ?_)
  · obtain ⟨l, lv, wv, rv, ws, rows, rfl, hL, hok0, hw, hrw, h30, hsh, k⟩ := h
    rfl
  · obtain ⟨l, lv, wv, rv, ws, rows, rfl, hL, hok0, hw, hrw, h30, hsh, k⟩ := h
    refine ⟨_, (pss_one (ps_ret (pe_callTy call_list_of rfl T.b_list boot_list (pa_cons (pe_fn G_years_to_live (hr.mono (by decide)) rfl (pa_cons (pv 0) pa_nil)) pa_nil)))), ?_⟩
    obtain ⟨e1, e2⟩ := shp hsh (show PyVbecak.shape 8 = some (0, 0) by decide)
    obtain rfl := nil_of e1
    obtain rfl := nil_of e2
    have hok := hok0.mono (D' := 400) (B' := 20000) (by decide) (by decide)
    refine ⟨_, rfl, l, lv, rfl, hL, hok, fun v1 H1 s1 ⟨a1, e1, g1⟩ => ?_⟩
    subst e1
    exact ⟨a1, _, rfl, .inr (SqT.of (nw_sub _ _ _ _ g1)), fun p hp => ret1 k s1 hp rfl⟩
theorem sc_answer_value : FnScope ["life", "wholes", "rows", "i"] ["life", "wholes", "rows"] (defScope (top 61)) := ⟨rfl, rfl, rfl, by decide +kernel, rfl, by decide +kernel, by decide +kernel⟩
theorem ok_answer_value {f : Addr} {fd : FuncData} (F : Fun K "answer_value" "answer_value" (top 61) f fd) (T : Tx K mg CL CR) (G_within : FOk P w K mg base "within" 1 ["number", "least", "greatest"] sp_within) (G_births_to_come : FOk P w K mg base "births_to_come" 4 ["life", "i"] (sp_births_to_come CL))  :
    FnOk P w K mg base CX0 8 f fd ["life", "wholes", "rows"] (sp_ans CL 6) := by
  refine F.ok sc_answer_value (fun vs H Q E h => ?_) (fun cdv A outer s H vs Q E hr h => ?_)
  · obtain ⟨l, lv, wv, rv, ws, rows, rfl, hL, hok0, hw, hrw, h30, hsh, k⟩ := h
    rfl
  · obtain ⟨l, lv, wv, rv, ws, rows, rfl, hL, hok0, hw, hrw, h30, hsh, k⟩ := h
    refine ⟨_, (pss_cons (ps_set (i := 3) sc_answer_value.nd rfl (Or.inl rfl) (pe_ix ix_list (pv 1) pe_int (fun _ _ => rfl)))
      (pss_cons (ps_if (pt_not (pt_val (pe_fn G_within (hr.mono (by decide)) rfl (pa_cons (pv 3) (pa_cons pe_int (pa_cons (pe_op op_sub (pe_fld (pv 0) rfl) pe_int) pa_nil)))))) (pss_one (ps_ret (pe_lst (pa_cons (pe_cst T.c_WHOLE_OUT_OF_RANGE rfl) pa_nil)))) pss_nil)
      (pss_one (ps_ret (pe_callTy call_list_of rfl T.b_list boot_list (pa_cons (pe_fn G_births_to_come (hr.mono (by decide)) rfl (pa_cons (pv 0) (pa_cons (pv 3) pa_nil))) pa_nil)))))), ?_⟩
    obtain ⟨a, dx, pb, ps, rfl, h1, h2, h3⟩ := id hL
    obtain ⟨e1, e2⟩ := shp hsh (show PyVbecak.shape 6 = some (1, 0) by decide)
    obtain ⟨t, rfl⟩ := one_of e1
    obtain rfl := nil_of e2
    obtain ⟨pw, rfl, hpw⟩ := hw
    have hok := hok0.mono (D' := 400) (B' := 20000) (by decide) (by decide)
    have k : RetL H Q (Vbecak.withNum ⟨some l⟩ t 0 ((l.ages : Int) - 1) fun i => Vbecak.tell ⟨some l⟩ (Vbecak.value l i)).2 := k
    refine ⟨_, rfl, pw, _, _, _, rfl, rfl, SqL.of hpw, (atI_nat (j := 0) rfl), ?_⟩
    refine ⟨_, rfl, _, rfl, a, CL, dx, _, _, rfl, h1, T.clL, T.nL_ages, lfs_ages _ _ _ _, _, _, rfl, rfl, t, 0, _, rfl, _, rfl, ?_⟩
    by_cases ht : 0 ≤ t ∧ t ≤ (l.ages : Int) - 1
    · refine ifF (by rw [decide_eq_true ht]; rfl) ?_
      rw [M.num_t ht] at k
      obtain ⟨n, rfl⟩ : ∃ n : Nat, t = (n : Int) := ⟨t.toNat, by omega⟩
      rw [Int.toNat_natCast] at k
      refine ⟨_, rfl, _, rfl, l, .ref a, n, rfl, hL, hok, by omega, fun v1 H1 s1 ⟨a1, e1, g1⟩ => ?_⟩
      subst e1
      exact ⟨a1, _, rfl, .inr (SqT.of (nw_sub _ _ _ _ g1)), fun p hp => ret1 k s1 hp rfl⟩
    · refine ifT (by rw [decide_eq_false ht]; rfl) ?_
      rw [M.num_f ht] at k
      exact ⟨(by show 1 ≤ sizeLine; decide), fun p hp => ret1 k (Same.refl _) hp rfl⟩
theorem sc_answer_reached : FnScope ["life", "wholes", "rows", "i"] ["life", "wholes", "rows"] (defScope (top 72)) := ⟨rfl, rfl, rfl, by decide +kernel, rfl, by decide +kernel, by decide +kernel⟩
theorem ok_answer_reached {f : Addr} {fd : FuncData} (F : Fun K "answer_reached" "answer_reached" (top 72) f fd) (T : Tx K mg CL CR) (G_within : FOk P w K mg base "within" 1 ["number", "least", "greatest"] sp_within) (G_share_reaching : FOk P w K mg base "share_reaching" 4 ["life", "i"] (sp_share_reaching CL))  :
    FnOk P w K mg base CX0 8 f fd ["life", "wholes", "rows"] (sp_ans CL 16) := by
  refine F.ok sc_answer_reached (fun vs H Q E h => ?_) (fun cdv A outer s H vs Q E hr h => ?_)
  · obtain ⟨l, lv, wv, rv, ws, rows, rfl, hL, hok0, hw, hrw, h30, hsh, k⟩ := h
    rfl
  · obtain ⟨l, lv, wv, rv, ws, rows, rfl, hL, hok0, hw, hrw, h30, hsh, k⟩ := h
    refine ⟨_, (pss_cons (ps_set (i := 3) sc_answer_reached.nd rfl (Or.inl rfl) (pe_ix ix_list (pv 1) pe_int (fun _ _ => rfl)))
      (pss_cons (ps_if (pt_not (pt_val (pe_fn G_within (hr.mono (by decide)) rfl (pa_cons (pv 3) (pa_cons pe_int (pa_cons (pe_op op_sub (pe_fld (pv 0) rfl) pe_int) pa_nil)))))) (pss_one (ps_ret (pe_lst (pa_cons (pe_cst T.c_WHOLE_OUT_OF_RANGE rfl) pa_nil)))) pss_nil)
      (pss_one (ps_ret (pe_callTy call_list_of rfl T.b_list boot_list (pa_cons (pe_fn G_share_reaching (hr.mono (by decide)) rfl (pa_cons (pv 0) (pa_cons (pv 3) pa_nil))) pa_nil)))))), ?_⟩
    obtain ⟨a, dx, pb, ps, rfl, h1, h2, h3⟩ := id hL
    obtain ⟨e1, e2⟩ := shp hsh (show PyVbecak.shape 16 = some (1, 0) by decide)
    obtain ⟨t, rfl⟩ := one_of e1
    obtain rfl := nil_of e2
    obtain ⟨pw, rfl, hpw⟩ := hw
    have hok := hok0.mono (D' := 400) (B' := 20000) (by decide) (by decide)
    have k : RetL H Q (Vbecak.withNum ⟨some l⟩ t 0 ((l.ages : Int) - 1) fun i => Vbecak.tell ⟨some l⟩ (Vbecak.reached l i, l.d ^ i)).2 := k
    refine ⟨_, rfl, pw, _, _, _, rfl, rfl, SqL.of hpw, (atI_nat (j := 0) rfl), ?_⟩
    refine ⟨_, rfl, _, rfl, a, CL, dx, _, _, rfl, h1, T.clL, T.nL_ages, lfs_ages _ _ _ _, _, _, rfl, rfl, t, 0, _, rfl, _, rfl, ?_⟩
    by_cases ht : 0 ≤ t ∧ t ≤ (l.ages : Int) - 1
    · refine ifF (by rw [decide_eq_true ht]; rfl) ?_
      rw [M.num_t ht] at k
      obtain ⟨n, rfl⟩ : ∃ n : Nat, t = (n : Int) := ⟨t.toNat, by omega⟩
      rw [Int.toNat_natCast] at k
      refine ⟨_, rfl, _, rfl, l, .ref a, n, rfl, hL, hok, by omega, fun v1 H1 s1 ⟨a1, e1, g1⟩ => ?_⟩
      subst e1
      exact ⟨a1, _, rfl, .inr (SqT.of (nw_sub _ _ _ _ g1)), fun p hp => ret1 k s1 hp rfl⟩
    · refine ifT (by rw [decide_eq_false ht]; rfl) ?_
      rw [M.num_f ht] at k
      exact ⟨(by show 1 ≤ sizeLine; decide), fun p hp => ret1 k (Same.refl _) hp rfl⟩
theorem sc_answer_share : FnScope ["life", "wholes", "rows", "i"] ["life", "wholes", "rows"] (defScope (top 65)) := ⟨rfl, rfl, rfl, by decide +kernel, rfl, by decide +kernel, by decide +kernel⟩
theorem ok_answer_share {f : Addr} {fd : FuncData} (F : Fun K "answer_share" "answer_share" (top 65) f fd) (T : Tx K mg CL CR) (G_within : FOk P w K mg base "within" 1 ["number", "least", "greatest"] sp_within) (G_no_births_to_come : FOk P w K mg base "no_births_to_come" 5 ["life"] (sp_no_births_to_come CL)) (G_share_of_births : FOk P w K mg base "share_of_births" 5 ["life", "i"] (sp_share_of_births CL))  :
    FnOk P w K mg base CX0 8 f fd ["life", "wholes", "rows"] (sp_ans CL 9) := by
  refine F.ok sc_answer_share (fun vs H Q E h => ?_) (fun cdv A outer s H vs Q E hr h => ?_)
  · obtain ⟨l, lv, wv, rv, ws, rows, rfl, hL, hok, hw, hrw, h30, hsh, k⟩ := h
    rfl
  · obtain ⟨l, lv, wv, rv, ws, rows, rfl, hL, hok, hw, hrw, h30, hsh, k⟩ := h
    refine ⟨_, (pss_cons (ps_set (i := 3) sc_answer_share.nd rfl (Or.inl rfl) (pe_ix ix_list (pv 1) pe_int (fun _ _ => rfl)))
      (pss_cons (ps_if (pt_not (pt_val (pe_fn G_within (hr.mono (by decide)) rfl (pa_cons (pv 3) (pa_cons pe_int (pa_cons (pe_op op_sub (pe_fld (pv 0) rfl) pe_int) pa_nil)))))) (pss_one (ps_ret (pe_lst (pa_cons (pe_cst T.c_WHOLE_OUT_OF_RANGE rfl) pa_nil)))) pss_nil)
      (pss_cons (ps_if (pt_val (pe_fn G_no_births_to_come (hr.mono (by decide)) rfl (pa_cons (pv 0) pa_nil))) (pss_one (ps_ret (pe_lst (pa_cons (pe_cst T.c_NET_UNFIT rfl) pa_nil)))) pss_nil)
      (pss_one (ps_ret (pe_callTy call_list_of rfl T.b_list boot_list (pa_cons (pe_fn G_share_of_births (hr.mono (by decide)) rfl (pa_cons (pv 0) (pa_cons (pv 3) pa_nil))) pa_nil))))))), ?_⟩
    obtain ⟨a, dx, pb, ps, rfl, h1, h2, h3⟩ := id hL
    obtain ⟨e1, e2⟩ := shp hsh (show PyVbecak.shape 9 = some (1, 0) by decide)
    obtain ⟨t, rfl⟩ := one_of e1
    obtain rfl := nil_of e2
    obtain ⟨pw, rfl, hpw⟩ := hw
    have k : RetL H Q (Vbecak.withNum ⟨some l⟩ t 0 ((l.ages : Int) - 1) fun i => Vbecak.withNet ⟨some l⟩ l (Vbecak.tell ⟨some l⟩ (Vbecak.share l i))).2 := k
    refine ⟨_, rfl, pw, _, _, _, rfl, rfl, SqL.of hpw, (atI_nat (j := 0) rfl), ?_⟩
    refine ⟨_, rfl, _, rfl, a, CL, dx, _, _, rfl, h1, T.clL, T.nL_ages, lfs_ages _ _ _ _, _, _, rfl, rfl, t, 0, _, rfl, _, rfl, ?_⟩
    by_cases ht : 0 ≤ t ∧ t ≤ (l.ages : Int) - 1
    · refine ifF (by rw [decide_eq_true ht]; rfl) ?_
      rw [M.num_t ht] at k
      obtain ⟨n, rfl⟩ : ∃ n : Nat, t = (n : Int) := ⟨t.toNat, by omega⟩
      rw [Int.toNat_natCast] at k
      unfold Vbecak.withNet at k
      refine ⟨_, rfl, l, .ref a, rfl, hL, hok, fun H1 s1 => ⟨_, rfl, ?_⟩⟩
      by_cases hR : (Vbecak.net l).1 = 0
      · refine ifT (decide_eq_true hR) ?_
        rw [if_pos hR] at k
        exact ⟨(by show 1 ≤ sizeLine; decide), fun p hp => ret1 k s1 hp rfl⟩
      · refine ifF (decide_eq_false hR) ?_
        rw [if_neg hR] at k
        refine ⟨_, rfl, _, rfl, l, .ref a, n, rfl, LifeA.mono _ _ _ _ _ s1 hL, hok, by omega, by omega, fun v2 H2 s2 ⟨a2, e2, g2⟩ => ?_⟩
        subst e2
        exact ⟨a2, _, rfl, .inr (SqT.of (nw_sub _ _ _ _ g2)), fun p hp => ret1 k (s1.trans s2) hp rfl⟩
    · refine ifT (by rw [decide_eq_false ht]; rfl) ?_
      rw [M.num_f ht] at k
      exact ⟨(by show 1 ≤ sizeLine; decide), fun p hp => ret1 k (Same.refl _) hp rfl⟩
theorem sc_answer_leaned : FnScope ["life", "wholes", "rows", "j"] ["life", "wholes", "rows"] (defScope (top 66)) := ⟨rfl, rfl, rfl, by decide +kernel, rfl, by decide +kernel, by decide +kernel⟩
theorem ok_answer_leaned {f : Addr} {fd : FuncData} (F : Fun K "answer_leaned" "answer_leaned" (top 66) f fd) (T : Tx K mg CL CR) (G_within : FOk P w K mg base "within" 1 ["number", "least", "greatest"] sp_within) (G_no_births_to_come : FOk P w K mg base "no_births_to_come" 5 ["life"] (sp_no_births_to_come CL)) (G_shares_above : FOk P w K mg base "shares_above" 6 ["life", "j"] (sp_shares_above CL))  :
    FnOk P w K mg base CX0 8 f fd ["life", "wholes", "rows"] (sp_ans CL 10) := by
  refine F.ok sc_answer_leaned (fun vs H Q E h => ?_) (fun cdv A outer s H vs Q E hr h => ?_)
  · obtain ⟨l, lv, wv, rv, ws, rows, rfl, hL, hok, hw, hrw, h30, hsh, k⟩ := h
    rfl
  · obtain ⟨l, lv, wv, rv, ws, rows, rfl, hL, hok, hw, hrw, h30, hsh, k⟩ := h
    refine ⟨_, (pss_cons (ps_set (i := 3) sc_answer_leaned.nd rfl (Or.inl rfl) (pe_ix ix_list (pv 1) pe_int (fun _ _ => rfl)))
      (pss_cons (ps_if (pt_not (pt_val (pe_fn G_within (hr.mono (by decide)) rfl (pa_cons (pv 3) (pa_cons pe_int (pa_cons (pe_op op_sub (pe_fld (pv 0) rfl) pe_int) pa_nil)))))) (pss_one (ps_ret (pe_lst (pa_cons (pe_cst T.c_WHOLE_OUT_OF_RANGE rfl) pa_nil)))) pss_nil)
      (pss_cons (ps_if (pt_val (pe_fn G_no_births_to_come (hr.mono (by decide)) rfl (pa_cons (pv 0) pa_nil))) (pss_one (ps_ret (pe_lst (pa_cons (pe_cst T.c_NET_UNFIT rfl) pa_nil)))) pss_nil)
      (pss_one (ps_ret (pe_callTy call_list_of rfl T.b_list boot_list (pa_cons (pe_fn G_shares_above (hr.mono (by decide)) rfl (pa_cons (pv 0) (pa_cons (pv 3) pa_nil))) pa_nil))))))), ?_⟩
    obtain ⟨a, dx, pb, ps, rfl, h1, h2, h3⟩ := id hL
    obtain ⟨e1, e2⟩ := shp hsh (show PyVbecak.shape 10 = some (1, 0) by decide)
    obtain ⟨t, rfl⟩ := one_of e1
    obtain rfl := nil_of e2
    obtain ⟨pw, rfl, hpw⟩ := hw
    have k : RetL H Q (Vbecak.withNum ⟨some l⟩ t 0 ((l.ages : Int) - 2) fun i => Vbecak.withNet ⟨some l⟩ l (Vbecak.tell ⟨some l⟩ (Vbecak.leaned l i))).2 := k
    refine ⟨_, rfl, pw, _, _, _, rfl, rfl, SqL.of hpw, (atI_nat (j := 0) rfl), ?_⟩
    refine ⟨_, rfl, _, rfl, a, CL, dx, _, _, rfl, h1, T.clL, T.nL_ages, lfs_ages _ _ _ _, _, _, rfl, rfl, t, 0, _, rfl, _, rfl, ?_⟩
    by_cases ht : 0 ≤ t ∧ t ≤ (l.ages : Int) - 2
    · refine ifF (by rw [decide_eq_true ht]; rfl) ?_
      rw [M.num_t ht] at k
      obtain ⟨n, rfl⟩ : ∃ n : Nat, t = (n : Int) := ⟨t.toNat, by omega⟩
      rw [Int.toNat_natCast] at k
      unfold Vbecak.withNet at k
      refine ⟨_, rfl, l, .ref a, rfl, hL, hok, fun H1 s1 => ⟨_, rfl, ?_⟩⟩
      by_cases hR : (Vbecak.net l).1 = 0
      · refine ifT (decide_eq_true hR) ?_
        rw [if_pos hR] at k
        exact ⟨(by show 1 ≤ sizeLine; decide), fun p hp => ret1 k s1 hp rfl⟩
      · refine ifF (decide_eq_false hR) ?_
        rw [if_neg hR] at k
        refine ⟨_, rfl, _, rfl, l, .ref a, n, rfl, LifeA.mono _ _ _ _ _ s1 hL, hok, by omega, by omega, fun v2 H2 s2 ⟨a2, e2, g2⟩ => ?_⟩
        subst e2
        exact ⟨a2, _, rfl, .inr (SqT.of (nw_sub _ _ _ _ g2)), fun p hp => ret1 k (s1.trans s2) hp rfl⟩
    · refine ifT (by rw [decide_eq_false ht]; rfl) ?_
      rw [M.num_f ht] at k
      exact ⟨(by show 1 ≤ sizeLine; decide), fun p hp => ret1 k (Same.refl _) hp rfl⟩
theorem sc_answer_age : FnScope ["life", "wholes", "rows"] ["life", "wholes", "rows"] (defScope (top 67)) := ⟨rfl, rfl, rfl, by decide +kernel, rfl, by decide +kernel, by decide +kernel⟩
theorem ok_answer_age {f : Addr} {fd : FuncData} (F : Fun K "answer_age" "answer_age" (top 67) f fd) (T : Tx K mg CL CR) (G_no_births_to_come : FOk P w K mg base "no_births_to_come" 5 ["life"] (sp_no_births_to_come CL)) (G_mean_age_at_births : FOk P w K mg base "mean_age_at_births" 6 ["life"] (sp_mean_age_at_births CL))  :
    FnOk P w K mg base CX0 8 f fd ["life", "wholes", "rows"] (sp_ans CL 11) := by
  refine F.ok sc_answer_age (fun vs H Q E h => ?_) (fun cdv A outer s H vs Q E hr h => ?_)
  · obtain ⟨l, lv, wv, rv, ws, rows, rfl, hL, hok, hw, hrw, h30, hsh, k⟩ := h
    rfl
  · obtain ⟨l, lv, wv, rv, ws, rows, rfl, hL, hok, hw, hrw, h30, hsh, k⟩ := h
    refine ⟨_, (pss_cons (ps_if (pt_val (pe_fn G_no_births_to_come (hr.mono (by decide)) rfl (pa_cons (pv 0) pa_nil))) (pss_one (ps_ret (pe_lst (pa_cons (pe_cst T.c_NET_UNFIT rfl) pa_nil)))) pss_nil)
      (pss_one (ps_ret (pe_callTy call_list_of rfl T.b_list boot_list (pa_cons (pe_fn G_mean_age_at_births (hr.mono (by decide)) rfl (pa_cons (pv 0) pa_nil)) pa_nil))))), ?_⟩
    obtain ⟨e1, e2⟩ := shp hsh (show PyVbecak.shape 11 = some (0, 0) by decide)
    obtain rfl := nil_of e1
    obtain rfl := nil_of e2
    have k : RetL H Q (Vbecak.withNet ⟨some l⟩ l (Vbecak.tell ⟨some l⟩ (Vbecak.meanAge l))).2 := k
    unfold Vbecak.withNet at k
    refine ⟨_, rfl, l, lv, rfl, hL, hok, fun H1 s1 => ⟨_, rfl, ?_⟩⟩
    by_cases hR : (Vbecak.net l).1 = 0
    · refine ifT (decide_eq_true hR) ?_
      rw [if_pos hR] at k
      exact ⟨(by show 1 ≤ sizeLine; decide), fun p hp => ret1 k s1 hp rfl⟩
    · refine ifF (decide_eq_false hR) ?_
      rw [if_neg hR] at k
      refine ⟨_, rfl, l, lv, rfl, LifeA.mono _ _ _ _ _ s1 hL, hok, by omega, fun v2 H2 s2 ⟨a2, e2, g2⟩ => ?_⟩
      subst e2
      exact ⟨a2, _, rfl, .inr (SqT.of (nw_sub _ _ _ _ g2)), fun p hp => ret1 k (s1.trans s2) hp rfl⟩
theorem sc_answer_rhythm : FnScope ["life", "wholes", "rows"] ["life", "wholes", "rows"] (defScope (top 70)) := ⟨rfl, rfl, rfl, by decide +kernel, rfl, by decide +kernel, by decide +kernel⟩
theorem ok_answer_rhythm {f : Addr} {fd : FuncData} (F : Fun K "answer_rhythm" "answer_rhythm" (top 70) f fd) (T : Tx K mg CL CR) (G_births_rhythm : FOk P w K mg base "births_rhythm" 6 ["life"] (sp_births_rhythm CL))  :
    FnOk P w K mg base CX0 8 f fd ["life", "wholes", "rows"] (sp_ans CL 14) := by
  refine F.ok sc_answer_rhythm (fun vs H Q E h => ?_) (fun cdv A outer s H vs Q E hr h => ?_)
  · obtain ⟨l, lv, wv, rv, ws, rows, rfl, hL, hok, hw, hrw, h30, hsh, k⟩ := h
    rfl
  · obtain ⟨l, lv, wv, rv, ws, rows, rfl, hL, hok, hw, hrw, h30, hsh, k⟩ := h
    refine ⟨_, (pss_one (ps_ret (pe_lst (pa_cons (pe_fn G_births_rhythm (hr.mono (by decide)) rfl (pa_cons (pv 0) pa_nil)) pa_nil)))), ?_⟩
    obtain ⟨e1, e2⟩ := shp hsh (show PyVbecak.shape 14 = some (0, 0) by decide)
    obtain rfl := nil_of e1
    obtain rfl := nil_of e2
    exact ⟨_, rfl, l, lv, rfl, hL, hok, fun H1 s1 => ⟨(by show 1 ≤ sizeLine; decide), fun p hp => ret1 k s1 hp rfl⟩⟩
theorem sc_answer_fate : FnScope ["life", "wholes", "rows", "x"] ["life", "wholes", "rows"] (defScope (top 60)) := ⟨rfl, rfl, rfl, by decide +kernel, rfl, by decide +kernel, by decide +kernel⟩
theorem ok_answer_fate {f : Addr} {fd : FuncData} (F : Fun K "answer_fate" "answer_fate" (top 60) f fd) (T : Tx K mg CL CR) (G_is_herd : FOk P w K mg base "is_herd" 3 ["life", "x"] (sp_is_herd CL)) (G_births_to_come : FOk P w K mg base "births_to_come" 4 ["life", "i"] (sp_births_to_come CL)) (G_herd_births_to_come : FOk P w K mg base "herd_births_to_come" 5 ["life", "x"] (sp_herd_births_to_come CL)) (G_fate_of : FOk P w K mg base "fate_of" 1 ["net", "worth"] sp_fate_of)  :
    FnOk P w K mg base CX0 8 f fd ["life", "wholes", "rows"] (sp_ans CL 5) := by
  refine F.ok sc_answer_fate (fun vs H Q E h => ?_) (fun cdv A outer s H vs Q E hr h => ?_)
  · obtain ⟨l, lv, wv, rv, ws, rows, rfl, hL, hok0, hw, hrw, h30, hsh, k⟩ := h
    rfl
  · obtain ⟨l, lv, wv, rv, ws, rows, rfl, hL, hok0, hw, hrw, h30, hsh, k⟩ := h
    refine ⟨_, (pss_cons (ps_set (i := 3) sc_answer_fate.nd rfl (Or.inl rfl) (pe_ix ix_list (pv 2) pe_int (fun _ _ => rfl)))
      (pss_cons (ps_if (pt_not (pt_val (pe_fn G_is_herd (hr.mono (by decide)) rfl (pa_cons (pv 0) (pa_cons (pv 3) pa_nil))))) (pss_one (ps_ret (pe_lst (pa_cons (pe_cst T.c_LIST_OUT_OF_RANGE rfl) pa_nil)))) pss_nil)
      (pss_one (ps_ret (pe_lst (pa_cons (pe_fn G_fate_of (hr.mono (by decide)) rfl (pa_cons (pe_fn G_births_to_come (hr.mono (by decide)) rfl (pa_cons (pv 0) (pa_cons pe_int pa_nil))) (pa_cons (pe_fn G_herd_births_to_come (hr.mono (by decide)) rfl (pa_cons (pv 0) (pa_cons (pv 3) pa_nil))) pa_nil))) pa_nil)))))), ?_⟩
    obtain ⟨e1, e2⟩ := shp hsh (show PyVbecak.shape 5 = some (0, 1) by decide)
    obtain rfl := nil_of e1
    obtain ⟨x, rfl⟩ := one_of e2
    obtain ⟨pr, u, rfl, hpr, hx⟩ := rw1 hrw
    have hok := hok0.mono (D' := 400) (B' := 20000) (by decide) (by decide)
    have ha : l.ages = l.births.length := rfl
    have h0 := hok.a0
    have k : RetL H Q (Vbecak.numbers ⟨some l⟩ l x fun x => (⟨some l⟩, [(Vbecak.fate l x : Int)])).2 := k
    refine ⟨_, rfl, pr, _, _, _, rfl, rfl, SqL.of hpr, (atI_nat (j := 0) rfl), ?_⟩
    refine ⟨_, rfl, _, rfl, l, lv, x, u, rfl, hL, hx, h30 x (by simp), fun H1 s1 => ⟨_, rfl, ?_⟩⟩
    by_cases hh : M.herdB l x = true
    · refine ifF (by rw [hh]; rfl) ?_
      rw [M.herd_t hh] at k
      refine ⟨_, rfl, l, lv, 0, rfl, LifeA.mono _ _ _ _ _ s1 hL, hok, by omega, fun v2 H2 s2 f2 => ?_⟩
      have hxn := IsL.nat (IsL.mono _ _ _ _ (s1.trans s2) hx) fun a hA => (M.herd_mem hh a hA).1
      refine ⟨_, rfl, _, rfl, l, lv, _, u, rfl, LifeA.mono _ _ _ _ _ (s1.trans s2) hL, hok, hxn, M.herd_len hh, M.herd_le hh, fun v3 H3 s3 f3 => ?_⟩
      refine ⟨_, _, v2, v3, rfl, FrA.mono _ _ _ _ ((nw_sub _ _).trans s3) f2, FrA.mono _ _ _ _ (nw_sub _ _) f3, M.value_pos hok 0, Nat.pow_pos hok.d0, (by show 1 ≤ sizeLine; decide), fun p hp => ret1 k ((s1.trans s2).trans s3) hp rfl⟩
    · refine ifT (by simp [hh]) ?_
      rw [M.herd_f (by simpa using hh)] at k
      exact ⟨(by show 1 ≤ sizeLine; decide), fun p hp => ret1 k s1 hp rfl⟩
theorem sc_answer_worth : FnScope ["life", "wholes", "rows", "x"] ["life", "wholes", "rows"] (defScope (top 62)) := ⟨rfl, rfl, rfl, by decide +kernel, rfl, by decide +kernel, by decide +kernel⟩
theorem ok_answer_worth {f : Addr} {fd : FuncData} (F : Fun K "answer_worth" "answer_worth" (top 62) f fd) (T : Tx K mg CL CR) (G_is_herd : FOk P w K mg base "is_herd" 3 ["life", "x"] (sp_is_herd CL)) (G_herd_births_to_come : FOk P w K mg base "herd_births_to_come" 5 ["life", "x"] (sp_herd_births_to_come CL))  :
    FnOk P w K mg base CX0 8 f fd ["life", "wholes", "rows"] (sp_ans CL 7) := by
  refine F.ok sc_answer_worth (fun vs H Q E h => ?_) (fun cdv A outer s H vs Q E hr h => ?_)
  · obtain ⟨l, lv, wv, rv, ws, rows, rfl, hL, hok0, hw, hrw, h30, hsh, k⟩ := h
    rfl
  · obtain ⟨l, lv, wv, rv, ws, rows, rfl, hL, hok0, hw, hrw, h30, hsh, k⟩ := h
    refine ⟨_, (pss_cons (ps_set (i := 3) sc_answer_worth.nd rfl (Or.inl rfl) (pe_ix ix_list (pv 2) pe_int (fun _ _ => rfl)))
      (pss_cons (ps_if (pt_not (pt_val (pe_fn G_is_herd (hr.mono (by decide)) rfl (pa_cons (pv 0) (pa_cons (pv 3) pa_nil))))) (pss_one (ps_ret (pe_lst (pa_cons (pe_cst T.c_LIST_OUT_OF_RANGE rfl) pa_nil)))) pss_nil)
      (pss_one (ps_ret (pe_callTy call_list_of rfl T.b_list boot_list (pa_cons (pe_fn G_herd_births_to_come (hr.mono (by decide)) rfl (pa_cons (pv 0) (pa_cons (pv 3) pa_nil))) pa_nil)))))), ?_⟩
    obtain ⟨e1, e2⟩ := shp hsh (show PyVbecak.shape 7 = some (0, 1) by decide)
    obtain rfl := nil_of e1
    obtain ⟨x, rfl⟩ := one_of e2
    obtain ⟨pr, u, rfl, hpr, hx⟩ := rw1 hrw
    have hok := hok0.mono (D' := 400) (B' := 20000) (by decide) (by decide)
    have k : RetL H Q (Vbecak.numbers ⟨some l⟩ l x fun x => Vbecak.tell ⟨some l⟩ (Vbecak.worth l x)).2 := k
    refine ⟨_, rfl, pr, _, _, _, rfl, rfl, SqL.of hpr, (atI_nat (j := 0) rfl), ?_⟩
    refine ⟨_, rfl, _, rfl, l, lv, x, u, rfl, hL, hx, h30 x (by simp), fun H1 s1 => ⟨_, rfl, ?_⟩⟩
    by_cases hh : M.herdB l x = true
    · refine ifF (by rw [hh]; rfl) ?_
      rw [M.herd_t hh] at k
      have hxn := IsL.nat (IsL.mono _ _ _ _ s1 hx) fun a hA => (M.herd_mem hh a hA).1
      refine ⟨_, rfl, _, rfl, l, lv, _, u, rfl, LifeA.mono _ _ _ _ _ s1 hL, hok, hxn, M.herd_len hh, M.herd_le hh, fun v3 H3 s3 ⟨a3, e3, g3⟩ => ?_⟩
      subst e3
      exact ⟨a3, _, rfl, .inr (SqT.of (nw_sub _ _ _ _ g3)), fun p hp => ret1 k (s1.trans s3) hp rfl⟩
    · refine ifT (by simp [hh]) ?_
      rw [M.herd_f (by simpa using hh)] at k
      exact ⟨(by show 1 ≤ sizeLine; decide), fun p hp => ret1 k s1 hp rfl⟩
theorem sc_answer_far : FnScope ["life", "wholes", "rows", "t", "q", "x"] ["life", "wholes", "rows"] (defScope (top 57)) := ⟨rfl, rfl, rfl, by decide +kernel, rfl, by decide +kernel, by decide +kernel⟩
theorem ok_answer_far {f : Addr} {fd : FuncData} (F : Fun K "answer_far" "answer_far" (top 57) f fd) (T : Tx K mg CL CR) (G_within : FOk P w K mg base "within" 1 ["number", "least", "greatest"] sp_within) (G_is_herd : FOk P w K mg base "is_herd" 3 ["life", "x"] (sp_is_herd CL)) (G_rests_after : FOk P w K mg base "rests_after" 4 ["life", "t", "q", "x"] (sp_rests_after CL))  :
    FnOk P w K mg base CX0 8 f fd ["life", "wholes", "rows"] (sp_ans CL 3) := by
  refine F.ok sc_answer_far (fun vs H Q E h => ?_) (fun cdv A outer s H vs Q E hr h => ?_)
  · obtain ⟨l, lv, wv, rv, ws, rows, rfl, hL, hok, hw, hrw, h30, hsh, k⟩ := h
    rfl
  · obtain ⟨l, lv, wv, rv, ws, rows, rfl, hL, hok, hw, hrw, h30, hsh, k⟩ := h
    refine ⟨_, (pss_cons (ps_set (i := 3) sc_answer_far.nd rfl (Or.inl rfl) (pe_ix ix_list (pv 1) pe_int (fun _ _ => rfl)))
      (pss_cons (ps_set (i := 4) sc_answer_far.nd rfl (Or.inl rfl) (pe_ix ix_list (pv 1) pe_int (fun _ _ => rfl)))
      (pss_cons (ps_set (i := 5) sc_answer_far.nd rfl (Or.inl rfl) (pe_ix ix_list (pv 2) pe_int (fun _ _ => rfl)))
      (pss_cons (ps_if (PW.pt (pw_or (pt_not (pt_val (pe_fn G_within (hr.mono (by decide)) rfl (pa_cons (pv 3) (pa_cons pe_int (pa_cons (pe_cst T.c_MOST_FAR_YEARS rfl) pa_nil)))))) (pw_or1 (pt_not (pt_val (pe_fn G_within (hr.mono (by decide)) rfl (pa_cons (pv 4) (pa_cons pe_int (pa_cons (pe_cst T.c_MOST_DIVISOR rfl) pa_nil))))))))) (pss_one (ps_ret (pe_lst (pa_cons (pe_cst T.c_WHOLE_OUT_OF_RANGE rfl) pa_nil)))) pss_nil)
      (pss_cons (ps_if (pt_not (pt_val (pe_fn G_is_herd (hr.mono (by decide)) rfl (pa_cons (pv 0) (pa_cons (pv 5) pa_nil))))) (pss_one (ps_ret (pe_lst (pa_cons (pe_cst T.c_LIST_OUT_OF_RANGE rfl) pa_nil)))) pss_nil)
      (pss_one (ps_ret (pe_op op_cat (pe_lst (pa_cons pe_int pa_nil)) (pe_fn G_rests_after (hr.mono (by decide)) rfl (pa_cons (pv 0) (pa_cons (pv 3) (pa_cons (pv 4) (pa_cons (pv 5) pa_nil))))))))))))), ?_⟩
    obtain ⟨e1, e2⟩ := shp hsh (show PyVbecak.shape 3 = some (2, 1) by decide)
    obtain ⟨t, q, rfl⟩ := two_of e1
    obtain ⟨x, rfl⟩ := one_of e2
    obtain ⟨pr, u, rfl, hpr, hx⟩ := rw1 hrw
    obtain ⟨pw, rfl, hpw⟩ := hw
    have ha : l.ages = l.births.length := rfl
    have h8 := hok.a8
    have k : RetL H Q (Vbecak.withNum ⟨some l⟩ t 0 1000000000000000000 fun t => Vbecak.withNum ⟨some l⟩ q 1 1000000000 fun q => Vbecak.numbers ⟨some l⟩ l x fun x => (⟨some l⟩, 0 :: Vbecak.«ints» (Vbecak.farMod l t q x))).2 := k
    refine ⟨_, rfl, pw, _, _, _, rfl, rfl, SqL.of hpw, (atI_nat (j := 0) rfl), ?_⟩
    refine ⟨_, rfl, pw, _, _, _, rfl, rfl, SqL.of hpw, (atI_nat (j := 1) rfl), ?_⟩
    refine ⟨_, rfl, pr, _, _, _, rfl, rfl, SqL.of hpr, (atI_nat (j := 0) rfl), ?_⟩
    refine ⟨_, rfl, t, 0, 1000000000000000000, rfl, _, rfl, ?_⟩
    by_cases ht : 0 ≤ t ∧ t ≤ 1000000000000000000
    · refine ifF (by rw [decide_eq_true ht]; rfl) ?_
      rw [M.num_t ht] at k
      refine ⟨_, rfl, q, 1, 1000000000, rfl, _, rfl, ?_⟩
      by_cases hq : 1 ≤ q ∧ q ≤ 1000000000
      · refine ifF (by rw [decide_eq_true hq]; rfl) ?_
        rw [M.num_t hq] at k
        obtain ⟨n, rfl⟩ : ∃ n : Nat, t = (n : Int) := ⟨t.toNat, by omega⟩
        obtain ⟨m, rfl⟩ : ∃ m : Nat, q = (m : Int) := ⟨q.toNat, by omega⟩
        rw [Int.toNat_natCast, Int.toNat_natCast] at k
        refine ⟨_, rfl, _, rfl, l, lv, x, u, rfl, hL, hx, h30 x (by simp), fun H1 s1 => ⟨_, rfl, ?_⟩⟩
        by_cases hh : M.herdB l x = true
        · refine ifF (by rw [hh]; rfl) ?_
          rw [M.herd_t hh] at k
          refine ⟨(by show 1 ≤ sizeLine; decide), fun p1 hp1 => ?_⟩
          have s2 := s1.trans (same_upd (o := .lst [.int 0]) hp1)
          have hxn := IsL.nat (IsL.mono _ _ _ _ s2 hx) fun a hA => (M.herd_mem hh a hA).1
          refine ⟨_, rfl, _, rfl, _, rfl, _, rfl, l, lv, n, m, _, u, rfl, LifeA.mono _ _ _ _ _ s2 hL, hok, by omega, by omega, by omega, hxn, M.herd_len hh, fun v3 H3 s3 ⟨a3, e3, g3⟩ => ?_⟩
          subst e3
          refine ⟨p1, a3, _, _, rfl, rfl, s3 _ _ upd_same, nw_sub _ _ _ _ g3, small_line (by rw [nums_len, M.far_len _ _ _ _ (by omega)]; show 1 + _ ≤ _; omega), fun p hp => ret1 k (s2.trans s3) hp ?_⟩
          show V.int 0 :: nums _ = V.int 0 :: (Vbecak.«ints» _).map V.int
          unfold Vbecak.«ints»
          rw [← nums_map]
        · refine ifT (by simp [hh]) ?_
          rw [M.herd_f (by simpa using hh)] at k
          exact ⟨(by show 1 ≤ sizeLine; decide), fun p hp => ret1 k s1 hp rfl⟩
      · refine ifT (by rw [decide_eq_false hq]; rfl) ?_
        rw [M.num_f hq] at k
        exact ⟨(by show 1 ≤ sizeLine; decide), fun p hp => ret1 k (Same.refl _) hp rfl⟩
    · refine ifT (by rw [decide_eq_false ht]; rfl) ?_
      rw [M.num_f ht] at k
      exact ⟨(by show 1 ≤ sizeLine; decide), fun p hp => ret1 k (Same.refl _) hp rfl⟩
theorem sc_answer_after : FnScope ["life", "wholes", "rows", "t", "x", "answer"] ["life", "wholes", "rows"] (defScope (top 56)) := ⟨rfl, rfl, rfl, by decide +kernel, rfl, by decide +kernel, by decide +kernel⟩
theorem ok_answer_after {f : Addr} {fd : FuncData} (F : Fun K "answer_after" "answer_after" (top 56) f fd) (T : Tx K mg CL CR) (G_within : FOk P w K mg base "within" 1 ["number", "least", "greatest"] sp_within) (G_is_herd : FOk P w K mg base "is_herd" 3 ["life", "x"] (sp_is_herd CL)) (G_power : FOk P w K mg base "power" 1 ["base", "exponent"] sp_power) (G_numbers_after : FOk P w K mg base "numbers_after" 3 ["life", "t", "x"] (sp_numbers_after CL))  :
    FnOk P w K mg base CX0 8 f fd ["life", "wholes", "rows"] (sp_ans CL 2) := by
  refine F.ok sc_answer_after (fun vs H Q E h => ?_) (fun cdv A outer s H vs Q E hr h => ?_)
  · obtain ⟨l, lv, wv, rv, ws, rows, rfl, hL, hok, hw, hrw, h30, hsh, k⟩ := h
    rfl
  · obtain ⟨l, lv, wv, rv, ws, rows, rfl, hL, hok, hw, hrw, h30, hsh, k⟩ := h
    refine ⟨_, (pss_cons (ps_set (i := 3) sc_answer_after.nd rfl (Or.inl rfl) (pe_ix ix_list (pv 1) pe_int (fun _ _ => rfl)))
      (pss_cons (ps_set (i := 4) sc_answer_after.nd rfl (Or.inl rfl) (pe_ix ix_list (pv 2) pe_int (fun _ _ => rfl)))
      (pss_cons (ps_if (pt_not (pt_val (pe_fn G_within (hr.mono (by decide)) rfl (pa_cons (pv 3) (pa_cons pe_int (pa_cons (pe_cst T.c_MOST_YEARS rfl) pa_nil)))))) (pss_one (ps_ret (pe_lst (pa_cons (pe_cst T.c_WHOLE_OUT_OF_RANGE rfl) pa_nil)))) pss_nil)
      (pss_cons (ps_if (pt_not (pt_val (pe_fn G_is_herd (hr.mono (by decide)) rfl (pa_cons (pv 0) (pa_cons (pv 4) pa_nil))))) (pss_one (ps_ret (pe_lst (pa_cons (pe_cst T.c_LIST_OUT_OF_RANGE rfl) pa_nil)))) pss_nil)
      (pss_cons (ps_set (i := 5) sc_answer_after.nd rfl (Or.inl rfl) (pe_op op_cat (pe_lst (pa_cons (pe_fn G_power (hr.mono (by decide)) rfl (pa_cons (pe_fld (pv 0) rfl) (pa_cons (pv 3) pa_nil))) pa_nil)) (pe_fn G_numbers_after (hr.mono (by decide)) rfl (pa_cons (pv 0) (pa_cons (pv 3) (pa_cons (pv 4) pa_nil))))))
      (pss_cons (ps_if (pt_cmpR op_gt (pe_callB (cr_max rfl) rfl T.b_max boot_max (pa_cons (pv 5) pa_nil)) (pe_cst T.c_GREATEST_TOLD rfl) (nomark _)) (pss_one (ps_ret (pe_lst (pa_cons (pe_cst T.c_TOO_GREAT rfl) pa_nil)))) pss_nil)
      (pss_one (ps_ret (pv 5))))))))), ?_⟩
    obtain ⟨a, dx, pb, ps, rfl, h1, h2, h3⟩ := id hL
    obtain ⟨e1, e2⟩ := shp hsh (show PyVbecak.shape 2 = some (1, 1) by decide)
    obtain ⟨t, rfl⟩ := one_of e1
    obtain ⟨x, rfl⟩ := one_of e2
    obtain ⟨pr, u, rfl, hpr, hx⟩ := rw1 hrw
    obtain ⟨pw, rfl, hpw⟩ := hw
    have ha : l.ages = l.births.length := rfl
    have h8 := hok.a8
    have hd := hok.dD
    have k : RetL H Q (Vbecak.withNum ⟨some l⟩ t 0 40 fun t => Vbecak.numbers ⟨some l⟩ l x fun x => if (Vbecak.after l t x).any (fun a => decide (Vbecak.MOST < a)) = true ∨ Vbecak.MOST < l.d ^ t then Vbecak.bad ⟨some l⟩ (-5) else (⟨some l⟩, [((l.d ^ t : Nat) : Int)] ++ Vbecak.«ints» (Vbecak.after l t x))).2 := k
    refine ⟨_, rfl, pw, _, _, _, rfl, rfl, SqL.of hpw, (atI_nat (j := 0) rfl), ?_⟩
    refine ⟨_, rfl, pr, _, _, _, rfl, rfl, SqL.of hpr, (atI_nat (j := 0) rfl), ?_⟩
    refine ⟨_, rfl, t, 0, 40, rfl, _, rfl, ?_⟩
    by_cases ht : 0 ≤ t ∧ t ≤ 40
    · refine ifF (by rw [decide_eq_true ht]; rfl) ?_
      rw [M.num_t ht] at k
      obtain ⟨n, rfl⟩ : ∃ n : Nat, t = (n : Int) := ⟨t.toNat, by omega⟩
      rw [Int.toNat_natCast] at k
      refine ⟨_, rfl, _, rfl, l, .ref a, x, u, rfl, hL, hx, h30 x (by simp), fun H1 s1 => ⟨_, rfl, ?_⟩⟩
      by_cases hh : M.herdB l x = true
      · refine ifF (by rw [hh]; rfl) ?_
        rw [M.herd_t hh] at k
        have hlen := M.herd_len hh
        have hal := M.after_len hok n hlen
        refine ⟨_, rfl, a, CL, dx, _, _, rfl, s1 _ _ h1, T.clL, T.nL_d, lfs_d _ _ _ _, _, rfl, l.d, n, rfl, by omega, by omega, (by show 1 ≤ sizeLine; decide), fun p1 hp1 => ?_⟩
        have s2 := s1.trans (same_upd (o := .lst [.int (l.d ^ n : Nat)]) hp1)
        have hxn := IsL.nat (IsL.mono _ _ _ _ s2 hx) fun a hA => (M.herd_mem hh a hA).1
        refine ⟨_, rfl, _, rfl, _, rfl, l, .ref a, n, _, u, rfl, LifeA.mono _ _ _ _ _ s2 hL, hok, by omega, hxn, hlen, fun v3 H3 s3 ⟨a3, e3, g3⟩ => ?_⟩
        subst e3
        refine ⟨p1, a3, _, _, rfl, rfl, s3 _ _ upd_same, nw_sub _ _ _ _ g3, small_line (by rw [nums_len, hal]; show 1 + _ ≤ _; omega), fun p hp => ?_⟩
        have eA : [V.int (l.d ^ n : Nat)] ++ nums (Vbecak.after l n (x.map Int.toNat)) = (((l.d ^ n : Nat) : Int) :: (Vbecak.after l n (x.map Int.toNat)).map (fun (m : Nat) => (m : Int))).map V.int := by
          rw [List.map_cons, ← nums_map]
          rfl
        refine ⟨_, rfl, p, (((l.d ^ n : Nat) : Int) :: (Vbecak.after l n (x.map Int.toNat)).map (fun (m : Nat) => (m : Int))), rfl, SqL.of (by rw [upd_same, eA]), Nat.zero_lt_succ _, fun m hm hmax => ⟨_, _, rfl, rfl, _, rfl, ?_⟩⟩
        have t3 : Same H H3 := s2.trans s3
        have eM : Vbecak.MOST = 1000000000000000000 := rfl
        by_cases hb : (1000000000000000000 : Int) < m
        · refine ifT (decide_eq_true hb) ?_
          rw [if_pos ?_] at k
          · exact ⟨(by show 1 ≤ sizeLine; decide), fun p' hp' => ret1 k (t3.trans (same_upd hp)) hp' rfl⟩
          · rcases List.mem_cons.mp hm with e | e
            · exact .inr (by rw [eM]; omega)
            · obtain ⟨z, hz, e⟩ := List.mem_map.mp e
              exact .inl (List.any_eq_true.mpr ⟨z, hz, decide_eq_true (by rw [eM]; omega)⟩)
        · refine ifF (decide_eq_false hb) ?_
          rw [if_neg ?_] at k
          · refine ⟨_, rfl, ret1 k t3 hp ?_⟩
            rw [eA]
            rfl
          · rintro (q | q)
            · obtain ⟨z, hz, e⟩ := List.any_eq_true.mp q
              have e := of_decide_eq_true e
              have := hmax (z : Int) (List.mem_cons_of_mem _ (List.mem_map.mpr ⟨z, hz, rfl⟩))
              rw [eM] at e
              omega
            · have := hmax _ List.mem_cons_self
              rw [eM] at q
              omega
      · refine ifT (by simp [hh]) ?_
        rw [M.herd_f (by simpa using hh)] at k
        exact ⟨(by show 1 ≤ sizeLine; decide), fun p hp => ret1 k s1 hp rfl⟩
    · refine ifT (by rw [decide_eq_false ht]; rfl) ?_
      rw [M.num_f ht] at k
      exact ⟨(by show 1 ≤ sizeLine; decide), fun p hp => ret1 k (Same.refl _) hp rfl⟩
theorem sc_answer_births : FnScope ["life", "wholes", "rows", "t", "answer"] ["life", "wholes", "rows"] (defScope (top 71)) := ⟨rfl, rfl, rfl, by decide +kernel, rfl, by decide +kernel, by decide +kernel⟩
theorem ok_answer_births {f : Addr} {fd : FuncData} (F : Fun K "answer_births" "answer_births" (top 71) f fd) (T : Tx K mg CL CR) (G_within : FOk P w K mg base "within" 1 ["number", "least", "greatest"] sp_within) (G_newborn_after : FOk P w K mg base "newborn_after" 4 ["life", "t"] (sp_newborn_after CL)) (G_power : FOk P w K mg base "power" 1 ["base", "exponent"] sp_power)  :
    FnOk P w K mg base CX0 8 f fd ["life", "wholes", "rows"] (sp_ans CL 15) := by
  refine F.ok sc_answer_births (fun vs H Q E h => ?_) (fun cdv A outer s H vs Q E hr h => ?_)
  · obtain ⟨l, lv, wv, rv, ws, rows, rfl, hL, hok, hw, hrw, h30, hsh, k⟩ := h
    rfl
  · obtain ⟨l, lv, wv, rv, ws, rows, rfl, hL, hok, hw, hrw, h30, hsh, k⟩ := h
    refine ⟨_, (pss_cons (ps_set (i := 3) sc_answer_births.nd rfl (Or.inl rfl) (pe_ix ix_list (pv 1) pe_int (fun _ _ => rfl)))
      (pss_cons (ps_if (pt_not (pt_val (pe_fn G_within (hr.mono (by decide)) rfl (pa_cons (pv 3) (pa_cons pe_int (pa_cons (pe_cst T.c_MOST_YEARS rfl) pa_nil)))))) (pss_one (ps_ret (pe_lst (pa_cons (pe_cst T.c_WHOLE_OUT_OF_RANGE rfl) pa_nil)))) pss_nil)
      (pss_cons (ps_set (i := 4) sc_answer_births.nd rfl (Or.inl rfl) (pe_lst (pa_cons (pe_fn G_newborn_after (hr.mono (by decide)) rfl (pa_cons (pv 0) (pa_cons (pv 3) pa_nil))) (pa_cons (pe_fn G_power (hr.mono (by decide)) rfl (pa_cons (pe_fld (pv 0) rfl) (pa_cons (pv 3) pa_nil))) pa_nil))))
      (pss_cons (ps_if (pt_cmpR op_gt (pe_callB (cr_max rfl) rfl T.b_max boot_max (pa_cons (pv 4) pa_nil)) (pe_cst T.c_GREATEST_TOLD rfl) (nomark _)) (pss_one (ps_ret (pe_lst (pa_cons (pe_cst T.c_TOO_GREAT rfl) pa_nil)))) pss_nil)
      (pss_one (ps_ret (pv 4))))))), ?_⟩
    obtain ⟨a, dx, pb, ps, rfl, h1, h2, h3⟩ := id hL
    obtain ⟨e1, e2⟩ := shp hsh (show PyVbecak.shape 15 = some (1, 0) by decide)
    obtain ⟨t, rfl⟩ := one_of e1
    obtain rfl := nil_of e2
    obtain ⟨pw, rfl, hpw⟩ := hw
    have hd := hok.dD
    have k : RetL H Q (Vbecak.withNum ⟨some l⟩ t 0 40 fun t => if Vbecak.MOST < (Vbecak.renewals l t).headD 0 ∨ Vbecak.MOST < l.d ^ t then Vbecak.bad ⟨some l⟩ (-5) else (⟨some l⟩, [((Vbecak.renewals l t).headD 0 : Int), ((l.d ^ t : Nat) : Int)])).2 := k
    refine ⟨_, rfl, pw, _, _, _, rfl, rfl, SqL.of hpw, (atI_nat (j := 0) rfl), ?_⟩
    refine ⟨_, rfl, t, 0, 40, rfl, _, rfl, ?_⟩
    by_cases ht : 0 ≤ t ∧ t ≤ 40
    · refine ifF (by rw [decide_eq_true ht]; rfl) ?_
      rw [M.num_t ht] at k
      obtain ⟨n, rfl⟩ : ∃ n : Nat, t = (n : Int) := ⟨t.toNat, by omega⟩
      rw [Int.toNat_natCast] at k
      refine ⟨_, rfl, _, rfl, l, .ref a, n, rfl, hL, hok, by omega, fun H1 s1 => ?_⟩
      refine ⟨_, rfl, a, CL, dx, _, _, rfl, s1 _ _ h1, T.clL, T.nL_d, lfs_d _ _ _ _, _, rfl, l.d, n, rfl, by omega, by omega, (by show 2 ≤ sizeLine; decide), fun p hp => ?_⟩
      generalize (Vbecak.renewals l n).headD 0 = z at *
      refine ⟨_, rfl, p, [(z : Int), ((l.d ^ n : Nat) : Int)], rfl, SqL.of upd_same, Nat.zero_lt_succ _, fun m hm hmax => ⟨_, _, rfl, rfl, _, rfl, ?_⟩⟩
      have eM : Vbecak.MOST = 1000000000000000000 := rfl
      by_cases hb : (1000000000000000000 : Int) < m
      · refine ifT (decide_eq_true hb) ?_
        rw [if_pos ?_] at k
        · exact ⟨(by show 1 ≤ sizeLine; decide), fun p' hp' => ret1 k (s1.trans (same_upd hp)) hp' rfl⟩
        · rcases List.mem_cons.mp hm with e | e
          · exact .inl (by rw [eM]; omega)
          · have e := List.mem_singleton.mp e
            exact .inr (by rw [eM]; omega)
      · refine ifF (decide_eq_false hb) ?_
        rw [if_neg ?_] at k
        · exact ⟨_, rfl, ret1 k s1 hp rfl⟩
        · have q1 := hmax _ List.mem_cons_self
          have q2 := hmax _ (List.mem_cons_of_mem _ List.mem_cons_self)
          rw [eM]
          omega
    · refine ifT (by rw [decide_eq_false ht]; rfl) ?_
      rw [M.num_f ht] at k
      exact ⟨(by show 1 ≤ sizeLine; decide), fun p hp => ret1 k (Same.refl _) hp rfl⟩
theorem sc_answer_spare : FnScope ["life", "wholes", "rows", "takes"] ["life", "wholes", "rows"] (defScope (top 68)) := ⟨rfl, rfl, rfl, by decide +kernel, rfl, by decide +kernel, by decide +kernel⟩
theorem ok_answer_spare {f : Addr} {fd : FuncData} (F : Fun K "answer_spare" "answer_spare" (top 68) f fd) (T : Tx K mg CL CR) (G_bearable_takes : FOk P w K mg base "bearable_takes" 6 ["life"] (sp_bearable_takes CL))  :
    FnOk P w K mg base CX0 8 f fd ["life", "wholes", "rows"] (sp_ans CL 12) := by
  refine F.ok sc_answer_spare (fun vs H Q E h => ?_) (fun cdv A outer s H vs Q E hr h => ?_)
  · obtain ⟨l, lv, wv, rv, ws, rows, rfl, hL, hok, hw, hrw, h30, hsh, k⟩ := h
    rfl
  · obtain ⟨l, lv, wv, rv, ws, rows, rfl, hL, hok, hw, hrw, h30, hsh, k⟩ := h
    refine ⟨_, (pss_cons (ps_set (i := 3) sc_answer_spare.nd rfl (Or.inl rfl) (pe_fn G_bearable_takes (hr.mono (by decide)) rfl (pa_cons (pv 0) pa_nil)))
      (pss_cons (ps_if (pt_cmpR op_eq (pe_callB call_len_seq rfl T.b_len PySem.boot_len (pa_cons (pv 3) pa_nil)) pe_int (nomark _)) (pss_one (ps_ret (pe_lst (pa_cons (pe_cst T.c_NET_UNFIT rfl) pa_nil)))) pss_nil)
      (pss_one (ps_ret (pe_lst (pa_cons (pe_callB (cr_max rfl) rfl T.b_max boot_max (pa_cons (pv 3) pa_nil)) pa_nil)))))), ?_⟩
    obtain ⟨e1, e2⟩ := shp hsh (show PyVbecak.shape 12 = some (0, 0) by decide)
    obtain rfl := nil_of e1
    obtain rfl := nil_of e2
    have k : RetL H Q (match ((List.range (l.d + 1)).reverse).find? (fun k => lastsB (Vbecak.thinned l k)) with | none => Vbecak.bad ⟨some l⟩ (-6) | some k => ((⟨some l⟩ : Vbecak.State), [(k : Int)])).2 := k
    refine ⟨_, rfl, l, lv, rfl, hL, hok, fun v1 H1 s1 ⟨a1, e1, g1⟩ => ?_⟩
    subst e1
    have g1 := nw_sub _ _ _ _ g1
    refine ⟨_, rfl, a1, _, rfl, .inl (SqL.of g1), rfl, _, rfl, ?_⟩
    rcases M.find_rev (fun k => lastsB (Vbecak.thinned l k)) (l.d + 1) with ⟨f1, f2⟩ | ⟨m, f1, f2, f3⟩
    · rw [f1] at k
      rw [f2]
      refine ifT (decide_eq_true rfl) ?_
      exact ⟨(by show 1 ≤ sizeLine; decide), fun p hp => ret1 k s1 hp rfl⟩
    · rw [f1] at k
      refine ifF (decide_eq_false ?_) ?_
      · intro e
        injection e with e
        rw [nums_len] at e
        have := List.length_pos_of_mem f2
        omega
      · refine ⟨_, rfl, a1, _, rfl, SqL.of (by rw [← nums_map]; exact g1), by rw [List.length_map]; exact List.length_pos_of_mem f2, fun z hz hmax => ?_⟩
        have e : z = (m : Int) := by
          obtain ⟨y, hy, e⟩ := List.mem_map.mp hz
          have q1 := f3 y hy
          have q2 := hmax (m : Int) (List.mem_map.mpr ⟨m, f2, rfl⟩)
          omega
        subst e
        exact ⟨(by show 1 ≤ sizeLine; decide), fun p hp => ret1 k s1 hp rfl⟩
theorem sc_answer_steady : FnScope ["life", "wholes", "rows"] ["life", "wholes", "rows"] (defScope (top 69)) := ⟨rfl, rfl, rfl, by decide +kernel, rfl, by decide +kernel, by decide +kernel⟩
theorem ok_answer_steady {f : Addr} {fd : FuncData} (F : Fun K "answer_steady" "answer_steady" (top 69) f fd) (T : Tx K mg CL CR) (G_births_to_come : FOk P w K mg base "births_to_come" 4 ["life", "i"] (sp_births_to_come CL)) (G_ages_to_one_another : FOk P w K mg base "ages_to_one_another" 5 ["life"] (sp_ages_to_one_another CL))  :
    FnOk P w K mg base CX0 8 f fd ["life", "wholes", "rows"] (sp_ans CL 13) := by
  refine F.ok sc_answer_steady (fun vs H Q E h => ?_) (fun cdv A outer s H vs Q E hr h => ?_)
  · obtain ⟨l, lv, wv, rv, ws, rows, rfl, hL, hok0, hw, hrw, h30, hsh, k⟩ := h
    rfl
  · obtain ⟨l, lv, wv, rv, ws, rows, rfl, hL, hok0, hw, hrw, h30, hsh, k⟩ := h
    refine ⟨_, (pss_cons (ps_if (pt_cmpR (op_neD hr.units) (pe_fn G_births_to_come (hr.mono (by decide)) rfl (pa_cons (pv 0) (pa_cons pe_int pa_nil))) (pe_tup (pa_cons pe_int (pa_cons pe_int pa_nil))) (nomark _)) (pss_one (ps_ret (pe_lst (pa_cons (pe_cst T.c_NET_UNFIT rfl) pa_nil)))) pss_nil)
      (pss_one (ps_ret (pe_op op_cat (pe_lst (pa_cons pe_int pa_nil)) (pe_fn G_ages_to_one_another (hr.mono (by decide)) rfl (pa_cons (pv 0) pa_nil)))))), ?_⟩
    obtain ⟨e1, e2⟩ := shp hsh (show PyVbecak.shape 13 = some (0, 0) by decide)
    obtain rfl := nil_of e1
    obtain rfl := nil_of e2
    have hok := hok0.mono (D' := 400) (B' := 20000) (by decide) (by decide)
    have h0 := hok.a0
    have h8 := hok.a8
    have ha : l.ages = l.births.length := rfl
    have k : RetL H Q (match Vbecak.steady l with | none => Vbecak.bad ⟨some l⟩ (-6) | some x => ((⟨some l⟩ : Vbecak.State), 0 :: Vbecak.«ints» x)).2 := k
    refine ⟨_, rfl, l, lv, 0, rfl, hL, hok, by omega, fun v1 H1 s1 ⟨a1, e1, g1⟩ => ?_⟩
    subst e1
    have g1 := nw_sub _ _ _ _ g1
    refine ⟨(by show 2 ≤ sizeLine; decide), fun p hp => ?_⟩
    have s2 := same_upd (o := .tup [.int 1, .int 1]) hp
    refine ⟨_, _, .tup (SqT.of (s2 _ _ g1)) (.cons (.int _) (.cons (.int _) .nil)), .tup (SqT.of upd_same) (.cons (.int _) (.cons (.int _) .nil)), rfl, rfl, _, rfl, ?_⟩
    have e : PyData.eqv (.tuple [.int ((Vbecak.lowest (Vbecak.value l 0)).1 : Int), .int ((Vbecak.lowest (Vbecak.value l 0)).2 : Int)]) (.tuple [.int 1, .int 1]) = decide ((Vbecak.net l).1 = (Vbecak.net l).2) := by
      have z := M.lowest_one_iff (M.value_pos hok 0)
      have z : ((Vbecak.lowest (Vbecak.value l 0)).1 = 1 ∧ (Vbecak.lowest (Vbecak.value l 0)).2 = 1) ↔ (Vbecak.net l).1 = (Vbecak.net l).2 := z
      simp only [PyData.eqv, PyData.eqvAll, Bool.and_true]
      rw [Bool.eq_iff_iff, Bool.and_eq_true, beq_iff_eq, beq_iff_eq, decide_eq_true_iff]
      omega
    unfold Vbecak.steady at k
    have t2 : Same H _ := s1.trans s2
    by_cases hR : (Vbecak.net l).1 = (Vbecak.net l).2
    · refine ifF (by rw [e, decide_eq_true hR]; rfl) ?_
      rw [if_pos hR] at k
      refine ⟨(by show 1 ≤ sizeLine; decide), fun p1 hp1 => ?_⟩
      have s3 := t2.trans (same_upd (o := .lst [.int 0]) hp1)
      refine ⟨_, rfl, l, lv, rfl, LifeA.mono _ _ _ _ _ s3 hL, hok0, fun v3 H3 s4 ⟨a3, e3, g3⟩ => ?_⟩
      subst e3
      refine ⟨p1, a3, _, _, rfl, rfl, s4 _ _ upd_same, nw_sub _ _ _ _ g3, small_line (by rw [nums_len, List.length_map]; unfold stl; rw [List.length_map, List.length_range]; show 1 + _ ≤ _; omega), fun p' hp' => ret1 k (s3.trans s4) hp' ?_⟩
      show V.int 0 :: nums _ = V.int 0 :: (Vbecak.«ints» _).map V.int
      unfold Vbecak.«ints»
      rw [← nums_map]
      rfl
    · refine ifT (by rw [e, decide_eq_false hR]; rfl) ?_
      rw [if_neg hR] at k
      exact ⟨(by show 1 ≤ sizeLine; decide), fun p' hp' => ret1 k t2 hp' rfl⟩
end
end G

set_option Elab.async false
set_option linter.all false
set_option maxRecDepth 100000
set_option maxHeartbeats 2000000
set_option exponentiation.threshold 100000
namespace G
open PySem PySem.Spec PyProof.Rows L2
/-! ### the reader -/
theorem putF_putF (f : Str) (v u : V) : ∀ fs : List (Str × V), putF f v (putF f u fs) = putF f v fs
  | [] => by
    show (if f = f then _ else _) = _
    rw [if_pos rfl]
    rfl
  | (g, x) :: r => by
    by_cases h : g = f
    · have e1 : putF f u ((g, x) :: r) = (g, u) :: r := by show (if g = f then _ else _) = _; rw [if_pos h]
      have e2 : putF f v ((g, x) :: r) = (g, v) :: r := by show (if g = f then _ else _) = _; rw [if_pos h]
      rw [e1, e2]
      show (if g = f then _ else _) = _
      rw [if_pos h]
    · have e1 : putF f u ((g, x) :: r) = (g, x) :: putF f u r := by show (if g = f then _ else _) = _; rw [if_neg h]
      have e2 : putF f v ((g, x) :: r) = (g, x) :: putF f v r := by show (if g = f then _ else _) = _; rw [if_neg h]
      rw [e1, e2, ← putF_putF f v u r]
      show (if g = f then _ else _) = _
      rw [if_neg h]
def rfs (a : Addr) (n : Nat) : List (Str × V) := putF "place" (.int (n : Nat)) (putF "numbers" (.ref a) [])
theorem rfs_put (a : Addr) (n m : Nat) : putF "place" (.int (m : Nat)) (rfs a n) = rfs a m := putF_putF _ _ _ _
theorem rfs_place (a : Addr) (n : Nat) : (rfs a n).lookup ("place" : Str) = some (.int (n : Nat)) := by
  unfold rfs
  rw [lookup_putF, if_pos rfl]
theorem rfs_numbers (a : Addr) (n : Nat) : (rfs a n).lookup ("numbers" : Str) = some (.ref a) := by
  unfold rfs
  rw [lookup_putF, if_neg (by decide +kernel), lookup_putF, if_pos rfl]
theorem rfs_no (a : Addr) (n : Nat) {m : Str} (h1 : ¬ m = "place") (h2 : ¬ m = "numbers") : (rfs a n).lookup m = none := by
  unfold rfs
  rw [lookup_putF, if_neg h1, lookup_putF, if_neg h2]
  all_goals rfl
theorem rfs_len (a : Addr) (n : Nat) : (rfs a n).length < 1000 := Nat.lt_of_le_of_lt (len_put (len_put (n := 0) (Nat.le_refl _))) (by decide)
def RdP (CR : Addr) (a : Addr) (pos : Nat) (H : Hp) (rd : Addr) : Prop := ∃ dx, H rd = some (.ins CR dx (rfs a pos))
/-- all but rd stands as it stood -/
def Fm (rd : Addr) (H H' : Hp) : Prop := ∀ b o, H b = some o → b ≠ rd → H' b = some o
theorem Fm.trans {rd : Addr} {H H1 H2 : Hp} (a : Fm rd H H1) (b : Fm rd H1 H2) : Fm rd H H2 := fun c o e n => b c o (a c o e n) n
theorem Fm.off {rd : Addr} {H H' : Hp} (f : Fm rd H H') : Same (off rd H) (off rd H') := fun b o e => by
  obtain ⟨h1, h2⟩ := off_some e
  rw [off_ne h1]; exact f _ _ h2 h1
theorem Same.fm {rd : Addr} {H H' : Hp} (s : Same H H') : Fm rd H H' := fun b o e _ => s _ _ e
theorem Fm.free {rd : Addr} {H H' : Hp} (f : Fm rd H H') {p : Addr} (hp : H' p = none) (n : p ≠ rd) : H p = none := by
  cases q : H p with
  | none => rfl
  | some o => rw [f p o q n] at hp; cases hp
theorem off_upd {rd D : Addr} {H : Hp} {o : HO} (h : D ≠ rd) : off rd (upd H D o) = upd (off rd H) D o := by
  funext b
  simp only [off, upd]
  by_cases h1 : b = rd
  · rw [if_pos h1, if_neg (fun e => h (e.symm.trans h1)), if_pos h1]
  · rw [if_neg h1, if_neg h1]
theorem off_upd_same {rd : Addr} {H : Hp} {o : HO} : off rd (upd H rd o) = off rd H := by
  funext b
  unfold off upd
  by_cases h1 : b = rd
  · rw [if_pos h1, if_pos h1]
  · rw [if_neg h1, if_neg h1, if_neg h1]
def sp_ReaderInit (K : PySem.W.Frag) (CR : Addr) : Sp := fun vs H Q _ => ∃ (x dx a : Addr), vs = [.ref x, .ref a] ∧ H x = some (.ins CR dx []) ∧ ∀ H' : Hp, H' x = some (.ins CR dx (rfs a 0)) → (∀ b o, H b = some o → b ≠ x → H' b = some o) → Q .non H'
def sp_R_at_end (K : PySem.W.Frag) (CR : Addr) : Sp := fun vs H Q _ => ∃ (rd a : Addr) (ns : List Int) (pos : Nat), vs = [.ref rd] ∧ RdP CR a pos H rd ∧ SqL K (off rd H) a (ns.map V.int) ∧ Q (.bl (decide (ns.length ≤ pos))) H
def sp_R_take (K : PySem.W.Frag) (CR : Addr) : Sp := fun vs H Q _ => ∃ (rd a : Addr) (ns : List Int) (pos m : Nat), vs = [.ref rd, .int (m : Nat)] ∧ RdP CR a pos H rd ∧ SqL K (off rd H) a (ns.map V.int) ∧ pos + m ≤ ns.length ∧
  ∀ (H' : Hp) (p : Addr), Fm rd H H' → H p = none → p ≠ rd → RdP CR a (pos + m) H' rd → H' p = some (.lst (((ns.drop pos).take m).map V.int)) → Q (.ref p) H'
def sp_R_take_one (K : PySem.W.Frag) (CR : Addr) : Sp := fun vs H Q _ => ∃ (rd a : Addr) (ns : List Int) (pos : Nat) (z : Int), vs = [.ref rd] ∧ RdP CR a pos H rd ∧ SqL K (off rd H) a (ns.map V.int) ∧ ns[pos]? = some z ∧
  ∀ (H' : Hp), Fm rd H H' → RdP CR a (pos + 1) H' rd → Q (.int z) H'
def sp_R_take_rows (K : PySem.W.Frag) (CR : Addr) : Sp := fun vs H Q _ => ∃ (rd a : Addr) (ns : List Int) (pos m : Nat) (xs : List (List Int)) (t : List Int), vs = [.ref rd, .int (m : Nat)] ∧ RdP CR a pos H rd ∧ SqL K (off rd H) a (ns.map V.int) ∧ m ≤ 10 ∧ pos ≤ ns.length ∧ PyFlat.rows m (ns.drop pos) = some (xs, t) ∧
  ∀ (H' : Hp) (v : V) (pos' : Nat), Fm rd H H' → t = ns.drop pos' → pos' ≤ ns.length → RdP CR a pos' H' rd → RwA xs (nw (off rd H) (off rd H')) v → Q v H'
theorem cut_nat (ns : List Int) (pos m : Nat) (h : pos + m ≤ ns.length) : cutV (ns.map V.int) (some (pos : Int)) (some ((pos : Nat) + (m : Nat) : Int)) = ((ns.drop pos).take m).map V.int := by
  unfold cutV
  have e : ((pos : Nat) : Int) + (m : Nat) = ((pos + m : Nat) : Int) := by omega
  rw [e, HT.sIx_nat, HT.sIx_nat, List.length_map, Nat.min_eq_left (show pos ≤ ns.length by omega), Nat.min_eq_left h, show pos + m - pos = m by omega, List.map_take, List.map_drop]
theorem row_some {r : List Int} {x s : List Int} (h : PyFlat.row r = some (x, s)) : ∃ (n : Nat) (r' : List Int), r = (n : Int) :: r' ∧ n ≤ r'.length ∧ x = r'.take n ∧ s = r'.drop n := by
  match r, h with
  | [], h => cases h
  | n :: r', h =>
    have h : (if 0 ≤ n ∧ n.toNat ≤ r'.length then some (r'.take n.toNat, r'.drop n.toNat) else none) = some (x, s) := h
    split at h
    · rename_i c
      injection h with h
      injection h with h1 h2
      exact ⟨n.toNat, r', by rw [Int.toNat_of_nonneg c.1], c.2, h1.symm, h2.symm⟩
    · cases h
theorem rows_zero {r : List Int} {xs : List (List Int)} {t : List Int} (h : PyFlat.rows 0 r = some (xs, t)) : xs = [] ∧ t = r := by
  unfold PyFlat.rows at h
  injection h with h
  injection h with h1 h2
  exact ⟨h1.symm, h2.symm⟩
theorem rows_succ {k : Nat} {r : List Int} {xs : List (List Int)} {t : List Int} (h : PyFlat.rows (k + 1) r = some (xs, t)) : ∃ x s ys, PyFlat.row r = some (x, s) ∧ PyFlat.rows k s = some (ys, t) ∧ xs = x :: ys := by
  unfold PyFlat.rows at h
  split at h
  · cases h
  · rename_i x s e
    split at h
    · cases h
    · rename_i ys t' e2
      injection h with h
      injection h with h1 h2
      subst h2
      exact ⟨x, s, ys, e, e2, h1.symm⟩
theorem drop_cons {ns : List Int} {pos : Nat} {z : Int} {r : List Int} (h : ns.drop pos = z :: r) : ns[pos]? = some z ∧ r = ns.drop (pos + 1) ∧ pos < ns.length := by
  have hl : pos < ns.length := by
    have := congrArg List.length h
    rw [List.length_drop, List.length_cons] at this
    omega
  rw [List.drop_eq_getElem_cons hl] at h
  injection h with h1 h2
  exact ⟨by rw [List.getElem?_eq_getElem hl, h1], h2.symm, hl⟩
section
variable {P : Program} {w : World} {K : PySem.W.Frag} {mg : Str → Option Value} {base : Heap} {CL CR : Addr} {tblS tblA : List (Int × Addr)}
theorem sc_Reader_init : FnScope ["self", "numbers"] ["self", "numbers"] (defScope (inClass (top 50) 0)) := ⟨rfl, rfl, rfl, by decide +kernel, rfl, by decide +kernel, by decide +kernel⟩
theorem ok_Reader_init {f : Addr} {fd : FuncData} (F : Fun K "__init__" "Reader.__init__" (inClass (top 50) 0) f fd) (T : Tx K mg CL CR)   :
    FnOk P w K mg base CX0 1 f fd ["self", "numbers"] (sp_ReaderInit K CR) := by
  refine F.ok sc_Reader_init (fun vs H Q E h => ?_) (fun cdv A outer s H vs Q E hr h => ?_)
  · obtain ⟨x, dx, a, rfl, hx, k⟩ := h
    rfl
  · obtain ⟨x, dx, a, rfl, hx, k⟩ := h
    refine ⟨_, (pss_cons (ps_fld (pv 0) (pv 1) rfl)
      (pss_one (ps_fld (pv 0) pe_int rfl))), ?_⟩
    refine ⟨_, rfl, _, rfl, x, CR, dx, [], rfl, hx, T.clR, T.nR_numbers, (by decide), ?_⟩
    refine ⟨_, rfl, x, CR, dx, _, rfl, upd_same, T.clR, T.nR_place, Nat.lt_of_le_of_lt (len_put (n := 0) (Nat.le_refl _)) (by decide), ?_⟩
    refine k _ ?_ fun b o e nb => by rw [upd_ne nb, upd_ne nb]; exact e
    rw [upd_same]
    rfl
theorem sc_Reader_at_end : FnScope ["self"] ["self"] (defScope (inClass (top 50) 1)) := ⟨rfl, rfl, rfl, by decide +kernel, rfl, by decide +kernel, by decide +kernel⟩
theorem ok_Reader_at_end {f : Addr} {fd : FuncData} (F : Fun K "at_end" "Reader.at_end" (inClass (top 50) 1) f fd) (T : Tx K mg CL CR)   :
    FnOk P w K mg base CX0 1 f fd ["self"] (sp_R_at_end K CR) := by
  refine F.ok sc_Reader_at_end (fun vs H Q E h => ?_) (fun cdv A outer s H vs Q E hr h => ?_)
  · obtain ⟨rd, a, ns, pos, rfl, ⟨dx, h1⟩, hS, k⟩ := h
    rfl
  · obtain ⟨rd, a, ns, pos, rfl, ⟨dx, h1⟩, hS, k⟩ := h
    refine ⟨_, (pss_one (ps_ret (pe_cmpR op_ge (pe_fld (pv 0) rfl) (pe_callB call_len_seq rfl T.b_len PySem.boot_len (pa_cons (pe_fld (pv 0) rfl) pa_nil)) (nomark _)))), ?_⟩
    refine ⟨_, rfl, rd, CR, dx, _, _, rfl, h1, T.clR, T.nR_place, rfs_place _ _, _, rfl, rd, CR, dx, _, _, rfl, h1, T.clR, T.nR_numbers, rfs_numbers _ _, a, _, rfl, .inl ((off_sub _ _).seq hS), _, _, rfl, rfl, ?_⟩
    have e : decide ((((ns.map V.int).length : Nat) : Int) ≤ ((pos : Nat) : Int)) = decide (ns.length ≤ pos) := by
      rw [decide_eq_decide, List.length_map]
      omega
    dsimp only
    rw [e]
    exact k
theorem sc_Reader_take : FnScope ["self", "many", "start"] ["self", "many"] (defScope (inClass (top 50) 2)) := ⟨rfl, rfl, rfl, by decide +kernel, rfl, by decide +kernel, by decide +kernel⟩
theorem ok_Reader_take {f : Addr} {fd : FuncData} (F : Fun K "take" "Reader.take" (inClass (top 50) 2) f fd) (T : Tx K mg CL CR)   :
    FnOk P w K mg base CX0 1 f fd ["self", "many"] (sp_R_take K CR) := by
  refine F.ok sc_Reader_take (fun vs H Q E h => ?_) (fun cdv A outer s H vs Q E hr h => ?_)
  · obtain ⟨rd, a, ns, pos, m, rfl, ⟨dx, h1⟩, hS, hle, k⟩ := h
    rfl
  · obtain ⟨rd, a, ns, pos, m, rfl, ⟨dx, h1⟩, hS, hle, k⟩ := h
    refine ⟨_, (pss_cons (ps_set (i := 2) sc_Reader_take.nd rfl (Or.inl rfl) (pe_fld (pv 0) rfl))
      (pss_cons (ps_fld (pv 0) (pe_op op_add (pv 2) (pv 1)) rfl)
      (pss_one (ps_ret (pe_slice sl_list (pe_fld (pv 0) rfl) (po_some (pv 2)) (po_some (pe_fld (pv 0) rfl))))))), ?_⟩
    refine ⟨_, rfl, rd, CR, dx, _, _, rfl, h1, T.clR, T.nR_place, rfs_place _ _, ?_⟩
    refine ⟨_, rfl, _, rfl, _, _, rfl, rfl, _, rfl, rd, CR, dx, _, rfl, h1, T.clR, T.nR_place, rfs_len _ _, ?_⟩
    have eF : putF "place" (V.int ((pos : Nat) + (m : Nat) : Int)) (rfs a pos) = rfs a (pos + m) := rfs_put a pos (pos + m)
    have f1 : Fm rd H (upd H rd (.ins CR dx (rfs a (pos + m)))) := fun b o e n => by rw [upd_ne n]; exact e
    dsimp only
    rw [eF]
    refine ⟨_, rfl, rd, CR, dx, _, _, rfl, upd_same, T.clR, T.nR_numbers, rfs_numbers _ _, _, rfl, _, rfl, _, rfl, rd, CR, dx, _, _, rfl, upd_same, T.clR, T.nR_place, rfs_place _ _, _, rfl, a, _, rfl, (off_sub rd _).seq (f1.off.seq hS), fun p hp => ?_⟩
    have np : p ≠ rd := fun e => by rw [e, upd_same] at hp; cases hp
    refine k _ p (f1.trans (Same.fm (same_upd hp))) (f1.free hp np) np ⟨dx, by rw [upd_ne np.symm]; exact upd_same⟩ ?_
    rw [upd_same]
    have := cut_nat ns pos m hle
    rw [← this]
    rfl
theorem sc_Reader_take_one : FnScope ["self"] ["self"] (defScope (inClass (top 50) 3)) := ⟨rfl, rfl, rfl, by decide +kernel, rfl, by decide +kernel, by decide +kernel⟩
theorem ok_Reader_take_one {f : Addr} {fd : FuncData} (F : Fun K "take_one" "Reader.take_one" (inClass (top 50) 3) f fd) (T : Tx K mg CL CR) (M_take : MOk P w K mg base CR "take" 1 ["self", "many"] (sp_R_take K CR))  :
    FnOk P w K mg base CX0 2 f fd ["self"] (sp_R_take_one K CR) := by
  refine F.ok sc_Reader_take_one (fun vs H Q E h => ?_) (fun cdv A outer s H vs Q E hr h => ?_)
  · obtain ⟨rd, a, ns, pos, z, rfl, ⟨dx, h1⟩, hS, hz, k⟩ := h
    rfl
  · obtain ⟨rd, a, ns, pos, z, rfl, ⟨dx, h1⟩, hS, hz, k⟩ := h
    refine ⟨_, (pss_one (ps_ret (pe_ix ix_list (pe_mt T.clR M_take (hr.mono (by decide)) (pv 0) (pa_cons pe_int pa_nil)) pe_int (fun _ _ => rfl)))), ?_⟩
    have hlt : pos < ns.length := (List.getElem?_eq_some_iff.mp hz).1
    refine ⟨_, rfl, rd, dx, _, rfl, h1, rfs_no _ _ (by decide +kernel) (by decide +kernel), rd, a, ns, pos, 1, rfl, ⟨dx, h1⟩, hS, by omega, fun H' p f hp np hr hl => ?_⟩
    have e : (ns.drop pos).take 1 = [z] := by
      rw [List.drop_eq_getElem_cons hlt]
      rw [List.getElem?_eq_getElem hlt] at hz
      injection hz with hz
      rw [hz]
      rfl
    rw [e] at hl
    exact ⟨p, _, _, _, rfl, rfl, SqL.of hl, (atI_nat (j := 0) rfl), k _ f hr⟩
theorem sc_Reader_take_rows : FnScope ["self", "many", "rows", "k", "length"] ["self", "many"] (defScope (inClass (top 50) 4)) := ⟨rfl, rfl, rfl, by decide +kernel, rfl, by decide +kernel, by decide +kernel⟩
theorem ok_Reader_take_rows {f : Addr} {fd : FuncData} (F : Fun K "take_rows" "Reader.take_rows" (inClass (top 50) 4) f fd) (T : Tx K mg CL CR) (M_take_one : MOk P w K mg base CR "take_one" 2 ["self"] (sp_R_take_one K CR)) (M_take : MOk P w K mg base CR "take" 1 ["self", "many"] (sp_R_take K CR))  :
    FnOk P w K mg base CX0 3 f fd ["self", "many"] (sp_R_take_rows K CR) := by
  refine F.ok sc_Reader_take_rows (fun vs H Q E h => ?_) (fun cdv A outer s H vs Q E hr h => ?_)
  · obtain ⟨rd, a, ns, pos, m, xs, t, rfl, ⟨dx, h1⟩, hS, hm, hpos, hrows, k⟩ := h
    rfl
  · obtain ⟨rd, a, ns, pos, m, xs, t, rfl, ⟨dx, h1⟩, hS, hm, hpos, hrows, k⟩ := h
    refine ⟨_, (pss_cons (ps_set (i := 2) sc_Reader_take_rows.nd rfl (Or.inl rfl) (pe_lst pa_nil))
      (pss_cons (ps_for PassesOwn.never rfl (pi_range1 rfl T.b_range (pa_cons (pv 1) pa_nil)) (pg_name (i := 3) sc_Reader_take_rows.nd rfl (Or.inl rfl)) (pss_cons (ps_set (i := 4) sc_Reader_take_rows.nd rfl (Or.inl rfl) (pe_mt0 T.clR M_take_one (hr.mono (by decide)) (pv 0)))
      (pss_one (ps_expr (pe_bm PySem.F.plainAttrs_list PySem.F.slot_list_append PySem.F.type_list_append mt_append (pv 2) (pa_cons (pe_mt T.clR M_take (hr.mono (by decide)) (pv 0) (pa_cons (pv 4) pa_nil)) pa_nil))))))
      (pss_one (ps_ret (pv 2))))), ?_⟩
    refine ⟨Nat.zero_le _, fun tb htb => ?_⟩
    have nt : tb ≠ rd := (ne_of_none h1 htb).symm
    have htb0 : off rd H tb = none := by rw [off_ne nt]; exact htb
    have f0 : Fm rd H (upd H tb (.lst [])) := Same.fm (same_upd htb)
    refine ⟨_, rfl, _, rfl, by omega, by omega, for_range (n := m) (fun j σ' H' => ∃ (us : List V) (ds ls : List (List Int)) (pj : Nat) (r1 r2 : Option V), σ' = [some (.ref rd), some (.int (m : Nat)), some (.ref tb), r1, r2] ∧ us.length = j ∧ ds.length = j ∧ xs = ds ++ ls ∧ Fm rd H H' ∧ RdP CR a pj H' rd ∧ pj ≤ ns.length ∧ PyFlat.rows (m - j) (ns.drop pj) = some (ls, t) ∧ Lc (off rd H) tb us (fun i => IsL (xs.getD i [])) (off rd H'))
      ⟨[], [], xs, pos, none, none, rfl, rfl, rfl, rfl, f0, ⟨dx, by rw [upd_ne nt.symm]; exact h1⟩, hpos, hrows, ?_⟩ ?_ ?_⟩
    · rw [off_upd nt]
      exact Lc.start htb0
    · rintro j σ' H' hj ⟨us, ds, ls, pj, r1, r2, rfl, hul, hdl, hx, f, ⟨dx', h1'⟩, hpj, hr, L⟩
      obtain ⟨q, hq⟩ : ∃ q, m - j = q + 1 := ⟨m - j - 1, by omega⟩
      rw [hq] at hr
      obtain ⟨x, s, ys, e1, e2, e3⟩ := rows_succ hr
      obtain ⟨n, r', er, hn, ex, es⟩ := row_some e1
      obtain ⟨g1, g2, g3⟩ := drop_cons er
      have hSL : SqL K (off rd H') a (ns.map V.int) := f.off.seq hS
      refine ⟨_, rfl, rd, dx', _, rfl, h1', rfs_no _ _ (by decide +kernel) (by decide +kernel), rd, a, ns, pj, n, rfl, ⟨dx', h1'⟩, hSL, g1, fun H2 f2 ⟨dx2, h12⟩ => ?_⟩
      have hlen : pj + 1 + n ≤ ns.length := by
        have := congrArg List.length g2
        rw [List.length_drop] at this
        omega
      have htb2 : H2 tb = some (.lst us) := by
        have q := (off_some L.at_).2
        exact f2 _ _ q nt
      refine ⟨_, rfl, .inl ⟨rfl, _, SqL.of htb2⟩, _, rfl, rd, dx2, _, rfl, h12, rfs_no _ _ (by decide +kernel) (by decide +kernel), _, rfl, rd, a, ns, pj + 1, n, rfl, ⟨dx2, h12⟩, f2.off.seq hSL, hlen, fun H3 p f3 hp np ⟨dx3, h13⟩ hl => ?_⟩
      refine ⟨tb, us, _, rfl, rfl, f3 _ _ htb2 nt, small_lt (by omega), ?_⟩
      have fm3 : Fm rd H' H3 := f2.trans f3
      have hpH' : H' p = none := by
        cases q : H' p with
        | none => rfl
        | some o => rw [f2 p o q np] at hp; cases hp
      have xg : xs.getD us.length [] = x := by
        rw [hx, e3, hul, ← hdl]
        simp [List.getD]
      have L2 := L.push (y := .ref p) (fun i => IsL.mono _) fm3.off (by
        rw [xg]
        refine ⟨p, rfl, ?_⟩
        rw [nw_new (by rw [off_ne np]; exact hpH'), off_ne np, hl, ex, g2])
      refine ⟨us ++ [.ref p], ds ++ [x], ys, pj + 1 + n, _, _, rfl, by simp [hul], by simp [hdl], by rw [hx, e3]; simp, (fun b o e nb => by rw [upd_ne (ne_of_none e htb)]; exact (f.trans fm3) b o e nb), ⟨dx3, by rw [upd_ne nt.symm]; exact h13⟩, hlen, ?_, by rw [off_upd nt]; exact L2⟩
      rw [show m - (j + 1) = q by omega, ← List.drop_drop, ← g2, ← es]
      exact e2
    · rintro σ' H' ⟨us, ds, ls, pj, r1, r2, rfl, hul, hdl, hx, f, hr', hpj, hr, L⟩
      rw [Nat.sub_self] at hr
      obtain ⟨e1, e2⟩ := rows_zero hr
      subst e1
      rw [List.append_nil] at hx
      refine ⟨_, rfl, k H' (.ref tb) pj f e2 hpj hr' ?_⟩
      have := L.done (fun i => IsL.mono _) htb0 (n := xs.length) (by rw [hx, hul, hdl])
      exact this
end
end G

set_option Elab.async false
set_option linter.all false
set_option maxRecDepth 100000
set_option maxHeartbeats 2000000
set_option exponentiation.threshold 100000
namespace G
open PySem PySem.Spec PyProof.Rows L2
theorem shape_cases {n : Int} {a b : Nat} (h : PyVbecak.shape n = some (a, b)) : (n = 0 ∧ a = 1 ∧ b = 2) ∨ (n = 1 ∧ a = 0 ∧ b = 0) ∨ (n = 2 ∧ a = 1 ∧ b = 1) ∨ (n = 3 ∧ a = 2 ∧ b = 1) ∨ (n = 4 ∧ a = 0 ∧ b = 0) ∨ (n = 5 ∧ a = 0 ∧ b = 1) ∨ (n = 6 ∧ a = 1 ∧ b = 0) ∨ (n = 7 ∧ a = 0 ∧ b = 1) ∨ (n = 8 ∧ a = 0 ∧ b = 0) ∨ (n = 9 ∧ a = 1 ∧ b = 0) ∨ (n = 10 ∧ a = 1 ∧ b = 0) ∨ (n = 11 ∧ a = 0 ∧ b = 0) ∨ (n = 12 ∧ a = 0 ∧ b = 0) ∨ (n = 13 ∧ a = 0 ∧ b = 0) ∨ (n = 14 ∧ a = 0 ∧ b = 0) ∨ (n = 15 ∧ a = 1 ∧ b = 0) ∨ (n = 16 ∧ a = 1 ∧ b = 0) := by
  unfold PyVbecak.shape at h
  by_cases c0 : n = 0
  · rw [if_pos c0] at h
    simp only [Option.some.injEq, Prod.mk.injEq] at h
    exact (Or.inl ⟨c0, h.1.symm, h.2.symm⟩)
  rw [if_neg c0] at h
  by_cases c1 : n = 1
  · rw [if_pos c1] at h
    simp only [Option.some.injEq, Prod.mk.injEq] at h
    exact (Or.inr (Or.inl ⟨c1, h.1.symm, h.2.symm⟩))
  rw [if_neg c1] at h
  by_cases c2 : n = 2
  · rw [if_pos c2] at h
    simp only [Option.some.injEq, Prod.mk.injEq] at h
    exact (Or.inr (Or.inr (Or.inl ⟨c2, h.1.symm, h.2.symm⟩)))
  rw [if_neg c2] at h
  by_cases c3 : n = 3
  · rw [if_pos c3] at h
    simp only [Option.some.injEq, Prod.mk.injEq] at h
    exact (Or.inr (Or.inr (Or.inr (Or.inl ⟨c3, h.1.symm, h.2.symm⟩))))
  rw [if_neg c3] at h
  by_cases c4 : n = 4
  · rw [if_pos c4] at h
    simp only [Option.some.injEq, Prod.mk.injEq] at h
    exact (Or.inr (Or.inr (Or.inr (Or.inr (Or.inl ⟨c4, h.1.symm, h.2.symm⟩)))))
  rw [if_neg c4] at h
  by_cases c5 : n = 5
  · rw [if_pos c5] at h
    simp only [Option.some.injEq, Prod.mk.injEq] at h
    exact (Or.inr (Or.inr (Or.inr (Or.inr (Or.inr (Or.inl ⟨c5, h.1.symm, h.2.symm⟩))))))
  rw [if_neg c5] at h
  by_cases c6 : n = 6
  · rw [if_pos c6] at h
    simp only [Option.some.injEq, Prod.mk.injEq] at h
    exact (Or.inr (Or.inr (Or.inr (Or.inr (Or.inr (Or.inr (Or.inl ⟨c6, h.1.symm, h.2.symm⟩)))))))
  rw [if_neg c6] at h
  by_cases c7 : n = 7
  · rw [if_pos c7] at h
    simp only [Option.some.injEq, Prod.mk.injEq] at h
    exact (Or.inr (Or.inr (Or.inr (Or.inr (Or.inr (Or.inr (Or.inr (Or.inl ⟨c7, h.1.symm, h.2.symm⟩))))))))
  rw [if_neg c7] at h
  by_cases c8 : n = 8
  · rw [if_pos c8] at h
    simp only [Option.some.injEq, Prod.mk.injEq] at h
    exact (Or.inr (Or.inr (Or.inr (Or.inr (Or.inr (Or.inr (Or.inr (Or.inr (Or.inl ⟨c8, h.1.symm, h.2.symm⟩)))))))))
  rw [if_neg c8] at h
  by_cases c9 : n = 9
  · rw [if_pos c9] at h
    simp only [Option.some.injEq, Prod.mk.injEq] at h
    exact (Or.inr (Or.inr (Or.inr (Or.inr (Or.inr (Or.inr (Or.inr (Or.inr (Or.inr (Or.inl ⟨c9, h.1.symm, h.2.symm⟩))))))))))
  rw [if_neg c9] at h
  by_cases c10 : n = 10
  · rw [if_pos c10] at h
    simp only [Option.some.injEq, Prod.mk.injEq] at h
    exact (Or.inr (Or.inr (Or.inr (Or.inr (Or.inr (Or.inr (Or.inr (Or.inr (Or.inr (Or.inr (Or.inl ⟨c10, h.1.symm, h.2.symm⟩)))))))))))
  rw [if_neg c10] at h
  by_cases c11 : n = 11
  · rw [if_pos c11] at h
    simp only [Option.some.injEq, Prod.mk.injEq] at h
    exact (Or.inr (Or.inr (Or.inr (Or.inr (Or.inr (Or.inr (Or.inr (Or.inr (Or.inr (Or.inr (Or.inr (Or.inl ⟨c11, h.1.symm, h.2.symm⟩))))))))))))
  rw [if_neg c11] at h
  by_cases c12 : n = 12
  · rw [if_pos c12] at h
    simp only [Option.some.injEq, Prod.mk.injEq] at h
    exact (Or.inr (Or.inr (Or.inr (Or.inr (Or.inr (Or.inr (Or.inr (Or.inr (Or.inr (Or.inr (Or.inr (Or.inr (Or.inl ⟨c12, h.1.symm, h.2.symm⟩)))))))))))))
  rw [if_neg c12] at h
  by_cases c13 : n = 13
  · rw [if_pos c13] at h
    simp only [Option.some.injEq, Prod.mk.injEq] at h
    exact (Or.inr (Or.inr (Or.inr (Or.inr (Or.inr (Or.inr (Or.inr (Or.inr (Or.inr (Or.inr (Or.inr (Or.inr (Or.inr (Or.inl ⟨c13, h.1.symm, h.2.symm⟩))))))))))))))
  rw [if_neg c13] at h
  by_cases c14 : n = 14
  · rw [if_pos c14] at h
    simp only [Option.some.injEq, Prod.mk.injEq] at h
    exact (Or.inr (Or.inr (Or.inr (Or.inr (Or.inr (Or.inr (Or.inr (Or.inr (Or.inr (Or.inr (Or.inr (Or.inr (Or.inr (Or.inr (Or.inl ⟨c14, h.1.symm, h.2.symm⟩)))))))))))))))
  rw [if_neg c14] at h
  by_cases c15 : n = 15
  · rw [if_pos c15] at h
    simp only [Option.some.injEq, Prod.mk.injEq] at h
    exact (Or.inr (Or.inr (Or.inr (Or.inr (Or.inr (Or.inr (Or.inr (Or.inr (Or.inr (Or.inr (Or.inr (Or.inr (Or.inr (Or.inr (Or.inr (Or.inl ⟨c15, h.1.symm, h.2.symm⟩))))))))))))))))
  rw [if_neg c15] at h
  by_cases c16 : n = 16
  · rw [if_pos c16] at h
    simp only [Option.some.injEq, Prod.mk.injEq] at h
    exact (Or.inr (Or.inr (Or.inr (Or.inr (Or.inr (Or.inr (Or.inr (Or.inr (Or.inr (Or.inr (Or.inr (Or.inr (Or.inr (Or.inr (Or.inr (Or.inr ⟨c16, h.1.symm, h.2.symm⟩))))))))))))))))
  rw [if_neg c16] at h
  cases h
theorem dec_ok {n : Int} {ws : List Int} {rows : List (List Int)} (h : PyVbecak.shape n = some (ws.length, rows.length)) (h0 : n ≠ 0) : ∃ c, Vbecak.decode ((n :: ws) :: rows) = some c ∧ M.notLife c := by
  rcases shape_cases h with ⟨rfl, e1, e2⟩ | ⟨rfl, e1, e2⟩ | ⟨rfl, e1, e2⟩ | ⟨rfl, e1, e2⟩ | ⟨rfl, e1, e2⟩ | ⟨rfl, e1, e2⟩ | ⟨rfl, e1, e2⟩ | ⟨rfl, e1, e2⟩ | ⟨rfl, e1, e2⟩ | ⟨rfl, e1, e2⟩ | ⟨rfl, e1, e2⟩ | ⟨rfl, e1, e2⟩ | ⟨rfl, e1, e2⟩ | ⟨rfl, e1, e2⟩ | ⟨rfl, e1, e2⟩ | ⟨rfl, e1, e2⟩ | ⟨rfl, e1, e2⟩
  · exact absurd rfl h0
  · obtain rfl := nil_of e1
    obtain rfl := nil_of e2
    exact ⟨_, rfl, trivial⟩
  · obtain ⟨t, rfl⟩ := one_of e1
    obtain ⟨x, rfl⟩ := one_of e2
    exact ⟨_, rfl, trivial⟩
  · obtain ⟨t, q, rfl⟩ := two_of e1
    obtain ⟨x, rfl⟩ := one_of e2
    exact ⟨_, rfl, trivial⟩
  · obtain rfl := nil_of e1
    obtain rfl := nil_of e2
    exact ⟨_, rfl, trivial⟩
  · obtain rfl := nil_of e1
    obtain ⟨x, rfl⟩ := one_of e2
    exact ⟨_, rfl, trivial⟩
  · obtain ⟨t, rfl⟩ := one_of e1
    obtain rfl := nil_of e2
    exact ⟨_, rfl, trivial⟩
  · obtain rfl := nil_of e1
    obtain ⟨x, rfl⟩ := one_of e2
    exact ⟨_, rfl, trivial⟩
  · obtain rfl := nil_of e1
    obtain rfl := nil_of e2
    exact ⟨_, rfl, trivial⟩
  · obtain ⟨t, rfl⟩ := one_of e1
    obtain rfl := nil_of e2
    exact ⟨_, rfl, trivial⟩
  · obtain ⟨t, rfl⟩ := one_of e1
    obtain rfl := nil_of e2
    exact ⟨_, rfl, trivial⟩
  · obtain rfl := nil_of e1
    obtain rfl := nil_of e2
    exact ⟨_, rfl, trivial⟩
  · obtain rfl := nil_of e1
    obtain rfl := nil_of e2
    exact ⟨_, rfl, trivial⟩
  · obtain rfl := nil_of e1
    obtain rfl := nil_of e2
    exact ⟨_, rfl, trivial⟩
  · obtain rfl := nil_of e1
    obtain rfl := nil_of e2
    exact ⟨_, rfl, trivial⟩
  · obtain ⟨t, rfl⟩ := one_of e1
    obtain rfl := nil_of e2
    exact ⟨_, rfl, trivial⟩
  · obtain ⟨t, rfl⟩ := one_of e1
    obtain rfl := nil_of e2
    exact ⟨_, rfl, trivial⟩
theorem row_len {l : List Int} (h : VbecakNeutral.row l = true) : l.length ≤ 1000 := by
  unfold VbecakNeutral.row at h
  have := of_decide_eq_true (Bool.and_eq_true_iff.mp h).1
  omega
theorem asked_rows {n : Int} {ws : List Int} {rows : List (List Int)} (h : PyVbecak.shape n = some (ws.length, rows.length)) (h1 : VbecakNeutral.asked1 ((n :: ws) :: rows) = true) : ∀ r ∈ rows, r.length ≤ 1000 := by
  rcases shape_cases h with ⟨rfl, e1, e2⟩ | ⟨rfl, e1, e2⟩ | ⟨rfl, e1, e2⟩ | ⟨rfl, e1, e2⟩ | ⟨rfl, e1, e2⟩ | ⟨rfl, e1, e2⟩ | ⟨rfl, e1, e2⟩ | ⟨rfl, e1, e2⟩ | ⟨rfl, e1, e2⟩ | ⟨rfl, e1, e2⟩ | ⟨rfl, e1, e2⟩ | ⟨rfl, e1, e2⟩ | ⟨rfl, e1, e2⟩ | ⟨rfl, e1, e2⟩ | ⟨rfl, e1, e2⟩ | ⟨rfl, e1, e2⟩ | ⟨rfl, e1, e2⟩
  · obtain ⟨t, rfl⟩ := one_of e1
    obtain ⟨x, y, rfl⟩ := two_of e2
    have h1 : (VbecakNeutral.whole t && VbecakNeutral.row x && VbecakNeutral.row y) = true := h1
    intro r hr
    rcases List.mem_cons.mp hr with rfl | hr
    · exact row_len (Bool.and_eq_true_iff.mp (Bool.and_eq_true_iff.mp h1).1).2
    · obtain rfl := List.mem_singleton.mp hr
      exact row_len (Bool.and_eq_true_iff.mp h1).2
  · obtain rfl := nil_of e1
    obtain rfl := nil_of e2
    intro r hr; cases hr
  · obtain ⟨t, rfl⟩ := one_of e1
    obtain ⟨x, rfl⟩ := one_of e2
    have h1 : (VbecakNeutral.whole t && VbecakNeutral.row x) = true := h1
    intro r hr
    obtain rfl := List.mem_singleton.mp hr
    exact row_len (Bool.and_eq_true_iff.mp h1).2
  · obtain ⟨t, q, rfl⟩ := two_of e1
    obtain ⟨x, rfl⟩ := one_of e2
    have h1 : (VbecakNeutral.whole t && VbecakNeutral.whole q && VbecakNeutral.row x) = true := h1
    intro r hr
    obtain rfl := List.mem_singleton.mp hr
    exact row_len (Bool.and_eq_true_iff.mp h1).2
  · obtain rfl := nil_of e1
    obtain rfl := nil_of e2
    intro r hr; cases hr
  · obtain rfl := nil_of e1
    obtain ⟨x, rfl⟩ := one_of e2
    have h1 : VbecakNeutral.row x = true := h1
    intro r hr
    obtain rfl := List.mem_singleton.mp hr
    exact row_len h1
  · obtain ⟨t, rfl⟩ := one_of e1
    obtain rfl := nil_of e2
    intro r hr; cases hr
  · obtain rfl := nil_of e1
    obtain ⟨x, rfl⟩ := one_of e2
    have h1 : VbecakNeutral.row x = true := h1
    intro r hr
    obtain rfl := List.mem_singleton.mp hr
    exact row_len h1
  · obtain rfl := nil_of e1
    obtain rfl := nil_of e2
    intro r hr; cases hr
  · obtain ⟨t, rfl⟩ := one_of e1
    obtain rfl := nil_of e2
    intro r hr; cases hr
  · obtain ⟨t, rfl⟩ := one_of e1
    obtain rfl := nil_of e2
    intro r hr; cases hr
  · obtain rfl := nil_of e1
    obtain rfl := nil_of e2
    intro r hr; cases hr
  · obtain rfl := nil_of e1
    obtain rfl := nil_of e2
    intro r hr; cases hr
  · obtain rfl := nil_of e1
    obtain rfl := nil_of e2
    intro r hr; cases hr
  · obtain rfl := nil_of e1
    obtain rfl := nil_of e2
    intro r hr; cases hr
  · obtain ⟨t, rfl⟩ := one_of e1
    obtain rfl := nil_of e2
    intro r hr; cases hr
  · obtain ⟨t, rfl⟩ := one_of e1
    obtain rfl := nil_of e2
    intro r hr; cases hr
theorem lookup_mem {l : List (Int × Addr)} {n : Int} {f : Addr} (h : l.lookup n = some f) : (n, f) ∈ l := by
  induction l with
  | nil => cases h
  | cons p l ih =>
    obtain ⟨m, g⟩ := p
    rw [List.lookup_cons] at h
    by_cases q : n = m
    · subst q
      rw [beq_self_eq_true] at h
      injection h with h
      subst h
      exact List.mem_cons_self
    · have : (n == m) = false := beq_eq_false_iff_ne.mpr q
      rw [this] at h
      exact List.mem_cons_of_mem _ (ih h)
theorem whole_id (c : List (List Int)) : PyVbecak.whole c = c := by
  unfold PyVbecak.whole
  split <;> rfl
theorem calls_eq {ns : List Int} {cs : List (List (List Int))} (h : PyVbecak.calls ns = some cs) : PyFlat.calls PyVbecak.shape ns.length ns = some cs := by
  unfold PyVbecak.calls at h
  split at h
  · cases h
  · rename_i cs' e
    injection h with h
    rw [e, ← h]
    have : cs'.map PyVbecak.whole = cs' := by
      rw [show PyVbecak.whole = id from funext whole_id, List.map_id]
    rw [this]
theorem calls_nil {f : Nat} {cs : List (List (List Int))} (h : PyFlat.calls PyVbecak.shape f [] = some cs) : cs = [] := by
  cases f <;> (unfold PyFlat.calls at h; injection h with h; exact h.symm)
theorem calls_cons {f : Nat} {p : Int} {r : List Int} {cs : List (List (List Int))} (h : PyFlat.calls PyVbecak.shape f (p :: r) = some cs) :
    ∃ (n k : Nat) (xs : List (List Int)) (t : List Int) (cs' : List (List (List Int))) (f' : Nat), PyVbecak.shape p = some (n, k) ∧ n ≤ r.length ∧ PyFlat.rows k (r.drop n) = some (xs, t) ∧ PyFlat.calls PyVbecak.shape f' t = some cs' ∧ cs = ((p :: r.take n) :: xs) :: cs' := by
  cases f with
  | zero => cases h
  | succ f =>
    unfold PyFlat.calls at h
    split at h
    · cases h
    · rename_i c t e
      split at h
      · cases h
      · rename_i cs' e2
        injection h with h
        have e : (match PyVbecak.shape p with | none => none | some (n, k) => if r.length < n then none else match PyFlat.rows k (r.drop n) with | none => none | some (xs, t) => some ((p :: r.take n) :: xs, t)) = some (c, t) := e
        split at e
        · cases e
        · rename_i n k e3
          split at e
          · cases e
          · rename_i hn
            split at e
            · cases e
            · rename_i xs t' e4
              injection e with e
              injection e with e5 e6
              subst e6
              exact ⟨n, k, xs, _, cs', f, e3, by omega, e4, e2, by rw [← h, ← e5]⟩
theorem rows_len : ∀ {k : Nat} {r : List Int} {xs : List (List Int)} {t : List Int}, PyFlat.rows k r = some (xs, t) → xs.length = k
  | 0, r, xs, t, h => by rw [(rows_zero h).1]; rfl
  | k + 1, r, xs, t, h => by
    obtain ⟨x, s, ys, _, e2, e3⟩ := rows_succ h
    rw [e3, List.length_cons, rows_len e2]
def StA (CL : Addr) (st : Vbecak.State) (H : Hp) (lv : V) : Prop := (st = ⟨none⟩ ∧ lv = .non) ∨ ∃ l, st = ⟨some l⟩ ∧ LifeA CL l H lv ∧ M.LOk 20 1000 l
theorem StA.mono (CL : Addr) (st : Vbecak.State) : Mono (StA CL st) := fun H H' v s h => by
  rcases h with h | ⟨l, e, h1, h2⟩
  · exact .inl h
  · exact .inr ⟨l, e, LifeA.mono _ _ _ _ _ s h1, h2⟩
def sp_answer_by (CL : Addr) : Sp := fun vs H Q _ => ∃ (st : Vbecak.State) (lv wv rv : V) (n : Int) (ws : List Int) (rows : List (List Int)), vs = [lv, .int n, wv, rv] ∧ StA CL st H lv ∧ IsL ws H wv ∧ RwA rows H rv ∧ (∀ r ∈ rows, r.length ≤ 1000) ∧ PyVbecak.shape n = some (ws.length, rows.length) ∧ n ≠ 0 ∧ RetL H Q (Vbecak.step st ((n :: ws) :: rows)).2
def sp_answers (K : PySem.W.Frag) : Sp := fun vs H Q _ => ∃ (a : Addr) (ns : List Int), vs = [.ref a] ∧ SqL K H a (ns.map V.int) ∧ PyVbecak.answers_asked ns = true ∧ ∀ (H' : Hp) (p : Addr), H' p = some (.lst ((PyVbecak.answers ns).map V.int)) → Q (.ref p) H'
theorem step_other {st : Vbecak.State} {n : Int} {ws : List Int} {rows : List (List Int)} (h : PyVbecak.shape n = some (ws.length, rows.length)) (h0 : n ≠ 0) : (Vbecak.step st ((n :: ws) :: rows)).1 = st ∧ (st = ⟨none⟩ → (Vbecak.step st ((n :: ws) :: rows)).2 = [-1]) ∧ (∀ l, st = ⟨some l⟩ → M.LOk 20 1000 l → (Vbecak.step st ((n :: ws) :: rows)).2.length ≤ 20) := by
  obtain ⟨c, e, nl⟩ := dec_ok h h0
  unfold Vbecak.step
  rw [e]
  exact ⟨M.act_fst nl, fun q => by subst q; exact M.act_none nl, fun l q hl => by subst q; exact M.act_len hl c⟩
section
variable {P : Program} {w : World} {K : PySem.W.Frag} {mg : Str → Option Value} {base : Heap} {CL CR : Addr} {tblS tblA : List (Int × Addr)}
theorem sc_answer_by : FnScope ["life", "number", "wholes", "rows", "answering"] ["life", "number", "wholes", "rows"] (defScope (top 75)) := ⟨rfl, rfl, rfl, by decide +kernel, rfl, by decide +kernel, by decide +kernel⟩
theorem ok_answer_by {f : Addr} {fd : FuncData} (F : Fun K "answer_by" "answer_by" (top 75) f fd) (T : Tx K mg CL CR)  (G_tab : VOk P w K mg base 8 ["life", "wholes", "rows"] tblA (sp_ans CL)) (T_ANSWERING : TabOk K mg "ANSWERING" tblA) (hA : ∀ (n : Int) (s : Nat × Nat), PyVbecak.shape n = some s → n ≠ 0 → ∃ f, tblA.lookup n = some f) :
    FnOk P w K mg base CX0 9 f fd ["life", "number", "wholes", "rows"] (sp_answer_by CL) := by
  refine F.ok sc_answer_by (fun vs H Q E h => ?_) (fun cdv A outer s H vs Q E hr h => ?_)
  · obtain ⟨st, lv, wv, rv, n, ws, rows, rfl, hst, hw, hrw, h30, hsh, hn0, k⟩ := h
    rfl
  · obtain ⟨st, lv, wv, rv, n, ws, rows, rfl, hst, hw, hrw, h30, hsh, hn0, k⟩ := h
    refine ⟨_, (pss_cons (ps_if (pt_cmp (pc_isN (pv 0))) (pss_one (ps_ret (pe_lst (pa_cons (pe_cst T.c_NO_LIFE rfl) pa_nil)))) pss_nil)
      (pss_cons (ps_set (i := 4) sc_answer_by.nd rfl (Or.inl rfl) (pe_tab T_ANSWERING rfl (pv 1) (fun _ _ => rfl)))
      (pss_one (ps_ret (pe_callV 4 G_tab (hr.mono (by decide)) rfl (Or.inl rfl) (pa_cons (pv 0) (pa_cons (pv 2) (pa_cons (pv 3) pa_nil)))))))), ?_⟩
    refine ⟨_, rfl, _, rfl, ?_⟩
    rcases hst with ⟨e, rfl⟩ | ⟨l, e, hL, hok⟩
    · refine ifT (decide_eq_true rfl) ?_
      rw [(step_other hsh hn0).2.1 e] at k
      exact ⟨(by show 1 ≤ sizeLine; decide), fun p hp => ret1 k (Same.refl _) hp rfl⟩
    · subst e
      obtain ⟨a, dx, pb, ps, rfl, h1, h2, h3⟩ := id hL
      refine ifF (decide_eq_false (by intro e; cases e)) ?_
      obtain ⟨f, hf⟩ := hA n _ hsh hn0
      refine ⟨_, rfl, n, f, rfl, hf, ?_⟩
      exact ⟨n, f, rfl, lookup_mem hf, _, rfl, _, rfl, _, rfl, l, .ref a, wv, rv, ws, rows, rfl, hL, hok, hw, hrw, h30, hsh, k⟩
/-! ### the whole -/
def Oo (rd gv : Addr) (H : Hp) : Hp := off gv (off rd H)
theorem Oo_sub (rd gv : Addr) (H : Hp) : Same (Oo rd gv H) H := fun b o e => (off_some (off_some e).2).2
theorem Oo_rd (rd gv : Addr) (H : Hp) : Same (Oo rd gv H) (off rd H) := fun b o e => (off_some e).2
theorem Oo_at {rd gv b : Addr} {H : Hp} (h1 : b ≠ rd) (h2 : b ≠ gv) : Oo rd gv H b = H b := by
  unfold Oo
  rw [off_ne h2, off_ne h1]
theorem Oo_fm {rd gv : Addr} {H H' : Hp} (f : Fm rd H H') : Same (Oo rd gv H) (Oo rd gv H') := fun b o e => by
  obtain ⟨n1, e⟩ := off_some e
  obtain ⟨n2, e⟩ := off_some e
  rw [Oo_at n2 n1]
  exact f _ _ e n2
theorem Oo_upd {rd gv : Addr} {H : Hp} {o : HO} : Oo rd gv (upd H gv o) = Oo rd gv H := by
  funext b
  simp only [Oo, off, upd]
  by_cases h1 : b = gv
  · rw [if_pos h1, if_pos h1]
  · rw [if_neg h1, if_neg h1, if_neg h1]
/-- between two calls: m calls are left -/
def Wt (K : PySem.W.Frag) (CL CR a rd gv : Addr) (ns : List Int) (m : Nat) (lv : V) (H : Hp) : Prop := ∃ (pos : Nat) (st : Vbecak.State) (done : List Int) (cs : List (List (List Int))) (fuel : Nat), m = cs.length ∧ RdP CR a pos H rd ∧ H gv = some (.lst (done.map V.int)) ∧ SqL K (Oo rd gv H) a (ns.map V.int) ∧ StA CL st (Oo rd gv H) lv ∧ pos ≤ ns.length ∧
  PyFlat.calls PyVbecak.shape fuel (ns.drop pos) = some cs ∧ PyVbecak.answers ns = done ++ PyFlat.told (PyFlat.played VbecakNeutral.step st cs) ∧ cs.all VbecakNeutral.asked1 = true ∧ done.length + 21 * cs.length ≤ 8400
theorem told_cons (x : List Int) (l : List (List Int)) : PyFlat.told (x :: l) = ((x.length : Int) :: x) ++ PyFlat.told l := by
  unfold PyFlat.told
  rw [List.flatMap_cons]
theorem sc_answers : FnScope ["calls", "reader", "life", "given", "number", "shape", "wholes", "rows", "answer"] ["calls"] (defScope (top 76)) := ⟨rfl, rfl, rfl, by decide +kernel, rfl, by decide +kernel, by decide +kernel⟩
theorem ok_answers {f : Addr} {fd : FuncData} (F : Fun K "answers" "answers" (top 76) f fd) (T : Tx K mg CL CR) (G_Reader : COk P w K mg base "Reader" CR 1 ["self", "numbers"] (sp_ReaderInit K CR)) (G_Life : COk P w K mg base "Life" CL 1 ["self", "d", "births", "stays"] (sp_LifeInit CL)) (M_at_end : MOk P w K mg base CR "at_end" 1 ["self"] (sp_R_at_end K CR)) (M_take_one : MOk P w K mg base CR "take_one" 2 ["self"] (sp_R_take_one K CR)) (M_take : MOk P w K mg base CR "take" 1 ["self", "many"] (sp_R_take K CR)) (M_take_rows : MOk P w K mg base CR "take_rows" 3 ["self", "many"] (sp_R_take_rows K CR)) (G_answer_life : FOk P w K mg base "answer_life" 4 ["d", "births", "stays"] sp_answer_life) (G_answer_by : FOk P w K mg base "answer_by" 9 ["life", "number", "wholes", "rows"] (sp_answer_by CL)) (T_SHAPES : TabOk K mg "SHAPES" tblS) (hS : ∀ (n : Int) (x y : Nat), PyVbecak.shape n = some (x, y) → ∃ sa, tblS.lookup n = some sa ∧ ∀ H : Hp, SqT K H sa [.int (x : Nat), .int (y : Nat)]) :
    FnOk P w K mg base CX0 10 f fd ["calls"] (sp_answers K) := by
  refine F.ok sc_answers (fun vs H Q E h => ?_) (fun cdv A outer s H vs Q E hr h => ?_)
  · obtain ⟨a, ns, rfl, hSq, hask, k⟩ := h
    rfl
  · obtain ⟨a, ns, rfl, hSq, hask, k⟩ := h
    refine ⟨_, (pss_cons (ps_set (i := 1) sc_answers.nd rfl (Or.inl rfl) (pe_mk G_Reader (hr.mono (by decide)) rfl (pa_cons (pv 0) pa_nil)))
      (pss_cons (ps_set (i := 2) sc_answers.nd rfl (Or.inl rfl) pe_non)
      (pss_cons (ps_set (i := 3) sc_answers.nd rfl (Or.inl rfl) (pe_lst pa_nil))
      (pss_cons (ps_while PassesOwn.never (pt_not (pt_val (pe_mt0 T.clR M_at_end (hr.mono (by decide)) (pv 1)))) (pss_cons (ps_set (i := 4) sc_answers.nd rfl (Or.inl rfl) (pe_mt0 T.clR M_take_one (hr.mono (by decide)) (pv 1)))
      (pss_cons (ps_set (i := 5) sc_answers.nd rfl (Or.inl rfl) (pe_tab T_SHAPES rfl (pv 4) (fun _ _ => rfl)))
      (pss_cons (ps_set (i := 6) sc_answers.nd rfl (Or.inl rfl) (pe_mt T.clR M_take (hr.mono (by decide)) (pv 1) (pa_cons (pe_ix ix_tup (pv 5) pe_int (fun _ _ => rfl)) pa_nil)))
      (pss_cons (ps_set (i := 7) sc_answers.nd rfl (Or.inl rfl) (pe_mt T.clR M_take_rows (hr.mono (by decide)) (pv 1) (pa_cons (pe_ix ix_tup (pv 5) pe_int (fun _ _ => rfl)) pa_nil)))
      (pss_cons (ps_if (pt_cmpR op_eq (pv 4) (pe_cst T.c_LIFE_CALL rfl) (nomark _)) (pss_cons (ps_set (i := 8) sc_answers.nd rfl (Or.inl rfl) (pe_fn G_answer_life (hr.mono (by decide)) rfl (pa_cons (pe_ix ix_list (pv 6) pe_int (fun _ _ => rfl)) (pa_cons (pe_ix ix_list (pv 7) pe_int (fun _ _ => rfl)) (pa_cons (pe_ix ix_list (pv 7) pe_int (fun _ _ => rfl)) pa_nil)))))
      (pss_one (ps_if (pt_cmpR (op_eqD hr.units) (pv 8) (pe_lst (pa_cons pe_int pa_nil)) (nomark _)) (pss_one (ps_set (i := 2) sc_answers.nd rfl (Or.inl rfl) (pe_mk G_Life (hr.mono (by decide)) rfl (pa_cons (pe_ix ix_list (pv 6) pe_int (fun _ _ => rfl)) (pa_cons (pe_ix ix_list (pv 7) pe_int (fun _ _ => rfl)) (pa_cons (pe_ix ix_list (pv 7) pe_int (fun _ _ => rfl)) pa_nil)))))) pss_nil))) (pss_one (ps_set (i := 8) sc_answers.nd rfl (Or.inl rfl) (pe_fn G_answer_by (hr.mono (by decide)) rfl (pa_cons (pv 2) (pa_cons (pv 4) (pa_cons (pv 6) (pa_cons (pv 7) pa_nil))))))))
      (pss_cons (ps_expr (pe_bm PySem.F.plainAttrs_list PySem.F.slot_list_append PySem.F.type_list_append mt_append (pv 3) (pa_cons (pe_callB call_len_seq rfl T.b_len PySem.boot_len (pa_cons (pv 8) pa_nil)) pa_nil)))
      (pss_one (ps_expr (pe_bm PySem.F.plainAttrs_list PySem.F.slot_list_extend PySem.F.type_list_extend mt_extend (pv 3) (pa_cons (pv 8) pa_nil)))))))))))
      (pss_one (ps_ret (pv 3))))))), ?_⟩
    refine ⟨_, rfl, fun rd dx0 nx ndx nex => ⟨rd, dx0, a, rfl, upd_same, fun H1 hx kp => ⟨rfl, ?_⟩⟩⟩
    have s1 : Same H H1 := Same.made nx ndx kp
    refine ⟨Nat.zero_le _, fun gv hgv => ?_⟩
    have ngr : gv ≠ rd := (ne_of_none hx hgv).symm
    have hgvH : H gv = none := s1.free hgv
    have sO : Same H (Oo rd gv (upd H1 gv (.lst []))) := fun b o e => by
      have n1 : b ≠ rd := ne_of_none e nx
      have n2 : b ≠ gv := ne_of_none e hgvH
      rw [Oo_at n1 n2, upd_ne n2]
      exact s1 _ _ e
    obtain ⟨cs0, hcs0, hlen0, hall0⟩ : ∃ cs, PyVbecak.calls ns = some cs ∧ cs.length ≤ 400 ∧ cs.all VbecakNeutral.asked1 = true := by
      unfold PyVbecak.answers_asked at hask
      split at hask
      · cases hask
      · rename_i cs e
        rw [Bool.and_eq_true] at hask
        unfold VbecakNeutral.asked at hask
        have h2 := hask.2
        rw [Bool.and_eq_true, Bool.and_eq_true] at h2
        exact ⟨cs, e, of_decide_eq_true h2.2.1, h2.2.2⟩
    have hans : PyVbecak.answers ns = [] ++ PyFlat.told (PyFlat.played VbecakNeutral.step ⟨none⟩ cs0) := by
      unfold PyVbecak.answers
      rw [hcs0]
      rfl
    refine ⟨fun m σ' H' => ∃ (lv : V) (r4 r5 r6 r7 r8 : Option V), σ' = [some (.ref a), some (.ref rd), some lv, some (.ref gv), r4, r5, r6, r7, r8] ∧ Wt K CL CR a rd gv ns m lv H', ⟨cs0.length, .non, none, none, none, none, none, rfl, 0, ⟨none⟩, [], cs0, ns.length, rfl, ⟨dx0, by rw [upd_ne ngr.symm]; exact hx⟩, upd_same, sO.seq hSq, .inl ⟨rfl, rfl⟩, Nat.zero_le _, calls_eq hcs0, hans, hall0, by show 0 + 21 * cs0.length ≤ 8400; omega⟩, ?_⟩
    rintro m σ' H' ⟨lv, r4, r5, r6, r7, r8, rfl, pos, st, done, cs, fuel, rfl, ⟨dx, h1⟩, hgd, hSO, hst, hpos, hcs, hA, hall, hdl⟩
    have hSr : SqL K (off rd H') a (ns.map V.int) := (Oo_rd _ _ _).seq hSO
    refine ⟨_, rfl, rd, dx, _, rfl, h1, rfs_no _ _ (by decide +kernel) (by decide +kernel), rd, a, ns, pos, rfl, ⟨dx, h1⟩, hSr, _, rfl, ?_⟩
    by_cases hend : ns.length ≤ pos
    · refine ifF (by rw [decide_eq_true hend]; rfl) ?_
      rw [List.drop_eq_nil_of_le hend] at hcs
      obtain rfl := calls_nil hcs
      refine ⟨_, rfl, k H' gv ?_⟩
      rw [hA]
      show H' gv = some (.lst ((done ++ []).map V.int))
      rw [List.append_nil]
      exact hgd
    refine ifT (by rw [decide_eq_false hend]; rfl) ?_
    refine ⟨fun σ'' H'' => ∃ m', m' < cs.length ∧ ∃ (lv : V) (r4 r5 r6 r7 r8 : Option V), σ'' = [some (.ref a), some (.ref rd), some lv, some (.ref gv), r4, r5, r6, r7, r8] ∧ Wt K CL CR a rd gv ns m' lv H'', fun _ _ h => h, ?_⟩
    obtain ⟨p, r, hpr⟩ : ∃ p r, ns.drop pos = p :: r := ⟨_, _, List.drop_eq_getElem_cons (by omega)⟩
    rw [hpr] at hcs
    obtain ⟨n, q, xs, t, cs', f', hsh, hn, hrows, hcs', rfl⟩ := calls_cons hcs
    obtain ⟨g1, g2, g3⟩ := drop_cons hpr
    subst g2
    have hxl := rows_len hrows
    have hq10 : n ≤ 10 ∧ q ≤ 10 := by rcases shape_cases hsh with h | h | h | h | h | h | h | h | h | h | h | h | h | h | h | h | h <;> omega
    rw [List.length_drop] at hn
    have hle1 : pos + 1 + n ≤ ns.length := by omega
    rw [List.drop_drop] at hrows
    have hwl : ((ns.drop (pos + 1)).take n).length = n := by rw [List.length_take, List.length_drop]; omega
    have hsh' : PyVbecak.shape p = some (((ns.drop (pos + 1)).take n).length, xs.length) := by rw [hwl, hxl]; exact hsh
    rw [List.all_cons, Bool.and_eq_true] at hall
    have h30 := asked_rows hsh' hall.1
    have hplay : PyFlat.told (PyFlat.played VbecakNeutral.step st (((p :: (ns.drop (pos + 1)).take n) :: xs) :: cs')) = (((Vbecak.step st ((p :: (ns.drop (pos + 1)).take n) :: xs)).2.length : Int) :: (Vbecak.step st ((p :: (ns.drop (pos + 1)).take n) :: xs)).2) ++ PyFlat.told (PyFlat.played VbecakNeutral.step (Vbecak.step st ((p :: (ns.drop (pos + 1)).take n) :: xs)).1 cs') := told_cons _ _
    rw [hplay] at hA
    rw [List.length_cons] at hdl
    obtain ⟨sa, hsa, hsT⟩ := hS p n q hsh
    refine ⟨_, rfl, rd, dx, _, rfl, h1, rfs_no _ _ (by decide +kernel) (by decide +kernel), rd, a, ns, pos, p, rfl, ⟨dx, h1⟩, hSr, g1, fun Ha fa ⟨dxa, ha⟩ => ?_⟩
    refine ⟨_, rfl, p, sa, rfl, hsa, ?_⟩
    have hSa : SqL K (off rd Ha) a (ns.map V.int) := fa.off.seq hSr
    refine ⟨_, rfl, rd, dxa, _, rfl, ha, rfs_no _ _ (by decide +kernel) (by decide +kernel), _, rfl, sa, _, _, _, rfl, rfl, hsT Ha, (atI_nat (j := 0) rfl), rd, a, ns, pos + 1, n, rfl, ⟨dxa, ha⟩, hSa, hle1, fun Hb pw fb hpw npw ⟨dxb, hb⟩ hwv => ?_⟩
    have hSb : SqL K (off rd Hb) a (ns.map V.int) := fb.off.seq hSa
    refine ⟨_, rfl, rd, dxb, _, rfl, hb, rfs_no _ _ (by decide +kernel) (by decide +kernel), _, rfl, sa, _, _, _, rfl, rfl, hsT Hb, (atI_nat (j := 1) rfl), rd, a, ns, pos + 1 + n, q, xs, t, rfl, ⟨dxb, hb⟩, hSb, hq10.2, hle1, hrows, fun Hc rv pos' fc ht hpos' ⟨dxc, hc⟩ hrw => ?_⟩
    subst ht
    generalize hws : (ns.drop (pos + 1)).take n = ws at *
    have fac : Fm rd H' Hc := (fa.trans fb).trans fc
    have hgb : Hb gv = some (.lst (done.map V.int)) := (fa.trans fb) _ _ hgd ngr
    have hgc : Hc gv = some (.lst (done.map V.int)) := fac _ _ hgd ngr
    have hSOc : SqL K (Oo rd gv Hc) a (ns.map V.int) := (Oo_fm fac).seq hSO
    have hstc : StA CL st (Oo rd gv Hc) lv := StA.mono _ _ _ _ _ (Oo_fm fac) hst
    have hwc : IsL ws Hc (.ref pw) := ⟨pw, rfl, fc _ _ hwv npw⟩
    have hrO : RwA xs (Oo rd gv Hc) rv := RwA.mono _ _ _ _ (fun b o e => by
      obtain ⟨e1, e2⟩ := nw_some e
      obtain ⟨e3, e4⟩ := off_some e2
      rw [off_ne e3] at e1
      have : b ≠ gv := fun z => by rw [z, hgb] at e1; cases e1
      rw [Oo_at e3 this]
      exact e4) hrw
    have hrc : RwA xs Hc rv := RwA.mono _ _ _ _ (Oo_sub _ _ _) hrO
    have fin : ∀ (lv' : V) (ans : List Int) (H5 : Hp) (r4 r5 r6 r7 r8 : Option V), (Vbecak.step st ((p :: ws) :: xs)).2 = ans → ans.length ≤ 20 → RdP CR a pos' H5 rd → SqL K (Oo rd gv H5) a (ns.map V.int) → StA CL (Vbecak.step st ((p :: ws) :: xs)).1 (Oo rd gv H5) lv' →
        ∃ m', m' < (((p :: ws) :: xs) :: cs').length ∧ ∃ (lv : V) (q4 q5 q6 q7 q8 : Option V), [some (V.ref a), some (.ref rd), some lv', some (.ref gv), r4, r5, r6, r7, r8] = [some (V.ref a), some (.ref rd), some lv, some (.ref gv), q4, q5, q6, q7, q8] ∧
          Wt K CL CR a rd gv ns m' lv (upd (upd H5 gv (.lst (done.map V.int ++ [.int ((ans.map V.int).length : Nat)]))) gv (.lst ((done.map V.int ++ [.int ((ans.map V.int).length : Nat)]) ++ ans.map V.int))) := by
      intro lv' ans H5 r4 r5 r6 r7 r8 e1 e2 ⟨dx5, h5⟩ e4 e5
      refine ⟨cs'.length, by rw [List.length_cons]; omega, lv', r4, r5, r6, r7, r8, rfl, pos', _, done ++ ((ans.length : Int) :: ans), cs', f', rfl, ⟨dx5, by rw [upd_ne ngr.symm, upd_ne ngr.symm]; exact h5⟩, ?_, by rw [Oo_upd, Oo_upd]; exact e4, by rw [Oo_upd, Oo_upd]; exact e5, hpos', hcs', ?_, hall.2, ?_⟩
      · rw [upd_same, List.length_map, List.map_append, List.map_cons, List.append_assoc]
        rfl
      · rw [hA, e1, List.append_assoc]
      · rw [List.length_append, List.length_cons]
        omega
    have lens : ∀ (ans : List Int), ans.length ≤ 20 → (done.map V.int).length < sizeLine ∧ (done.map V.int ++ [V.int ((ans.map V.int).length : Nat)]).length + (ans.map V.int).length ≤ sizeLine := fun ans h => by
      refine ⟨small_lt (by rw [List.length_map]; omega), small_line ?_⟩
      rw [List.length_append, List.length_map, List.length_map]
      show done.length + 1 + ans.length ≤ 100000
      omega
    refine ⟨_, rfl, rfl, _, rfl, ?_⟩
    by_cases hp0 : p = 0
    · refine ifT (decide_eq_true (by rw [hp0])) ?_
      subst hp0
      obtain ⟨z1, z2⟩ := shp hsh' (show PyVbecak.shape 0 = some (1, 2) by decide)
      obtain ⟨d, rfl⟩ := one_of z1
      obtain ⟨bs, ss, rfl⟩ := two_of z2
      obtain ⟨pr, ub, us, rfl, hpr', hub, hus⟩ := rw2 hrc
      obtain ⟨pr2, ub2, us2, e9, hpr2, hubO, husO⟩ := rw2 hrO
      have e9 : pr = pr2 := by injection e9
      subst e9
      have e10 : some (HO.lst [ub2, us2]) = some (HO.lst [ub, us]) := (Oo_sub _ _ _ _ _ hpr2).symm.trans hpr'
      injection e10 with e10
      injection e10 with e10
      injection e10 with e11 e12
      injection e12 with e12 _
      subst e11
      subst e12
      obtain ⟨_, _, hpw'⟩ := id hwc
      have hpwc : Hc pw = some (.lst [V.int d]) := fc _ _ hwv npw
      have hb30 := h30 bs (by simp)
      have hs30 := h30 ss (by simp)
      have hstep : Vbecak.step st [[0, d], bs, ss] = if M.lifeCode d bs ss = 0 then (⟨some (M.lifeOf d bs ss)⟩, [0]) else (st, [M.lifeCode d bs ss]) := M.act_life st d bs ss
      refine ⟨_, rfl, pw, _, _, _, rfl, rfl, SqL.of hpwc, (atI_nat (j := 0) rfl), _, rfl, pr, _, _, _, rfl, rfl, SqL.of hpr', (atI_nat (j := 0) rfl), _, rfl, pr, _, _, _, rfl, rfl, SqL.of hpr', (atI_nat (j := 1) rfl), d, bs, ss, ub2, us2, rfl, hub, hus, hb30, hs30, fun Hd pa sd hpa hans => ?_⟩
      have ngp : pa ≠ gv := (ne_of_none hgc hpa).symm
      refine ⟨_, rfl, (by show 1 ≤ sizeLine; decide), fun pz hpz => ?_⟩
      have se : Same Hc (upd Hd pz (.lst [.int 0])) := sd.trans (same_upd hpz)
      have hansE : (upd Hd pz (.lst [.int 0])) pa = some (.lst [V.int (M.lifeCode d bs ss)]) := same_upd hpz _ _ hans
      refine ⟨_, _, .lst (SqL.of hansE) (.cons (.int _) .nil), .lst (SqL.of upd_same) (.cons (.int _) .nil), rfl, rfl, _, rfl, ?_⟩
      have eq0 : PyData.eqv (.list [.int (M.lifeCode d bs ss)]) (.list [.int 0]) = decide (M.lifeCode d bs ss = 0) := by
        simp only [PyData.eqv, PyData.eqvAll, Bool.and_true]
        rw [Bool.eq_iff_iff, beq_iff_eq, decide_eq_true_iff]
      by_cases hcode : M.lifeCode d bs ss = 0
      · refine ifT (by rw [eq0, decide_eq_true hcode]) ?_
        rw [if_pos hcode] at hstep
        obtain ⟨hok, hd, hbn, hsn⟩ := M.lifeOf_ok hcode
        obtain ⟨pb, rfl, hpb⟩ := IsL.nat hubO hbn
        obtain ⟨ps, rfl, hps⟩ := IsL.nat husO hsn
        have dn : d = ((d.toNat : Nat) : Int) := by omega
        refine ⟨_, rfl, pw, _, _, _, rfl, rfl, SqL.of (se _ _ hpwc), (atI_nat (j := 0) rfl), _, rfl, pr, _, _, _, rfl, rfl, SqL.of (se _ _ hpr'), (atI_nat (j := 0) rfl), _, rfl, pr, _, _, _, rfl, rfl, SqL.of (se _ _ hpr'), (atI_nat (j := 1) rfl), fun x dxl nxl ndxl nexl => ?_⟩
        have u1 : ∀ {b : Addr} {o : HO}, (upd Hd pz (.lst [.int 0])) b = some o → (upd (upd (upd Hd pz (.lst [.int 0])) dxl (.own x)) x (.ins CL dxl [])) b = some o := fun {b o} e => by rw [upd_ne (ne_of_none e nxl), upd_ne (ne_of_none e ndxl)]; exact e
        have gpb := Oo_sub _ _ _ _ _ hpb
        have gps := Oo_sub _ _ _ _ _ hps
        refine ⟨x, dxl, d.toNat, pb, ps, _, _, by rw [← dn]; rfl, upd_same, u1 (se _ _ gpb), u1 (se _ _ gps), fun Hf hxf kf => ⟨rfl, ?_⟩⟩
        have sf : Same Hc Hf := fun b o e => kf b o (u1 (se _ _ e)) (ne_of_none (se _ _ e) nxl)
        have hpaF : Hf pa = some (.lst [V.int (M.lifeCode d bs ss)]) := kf _ _ (u1 hansE) (ne_of_none hansE nxl)
        rw [hcode] at hpaF
        have lx : Hc x = none := se.free nxl
        have nxr : x ≠ rd := (ne_of_none hc lx).symm
        have nxg : x ≠ gv := (ne_of_none hgc lx).symm
        refine ⟨_, rfl, .inl ⟨rfl, _, SqL.of (sf _ _ hgc)⟩, _, rfl, pa, _, rfl, .inl (SqL.of hpaF), gv, _, _, rfl, rfl, sf _ _ hgc, (lens [0] (by decide)).1, ?_⟩
        refine ⟨_, rfl, .inl ⟨rfl, _, SqL.of upd_same⟩, _, rfl, gv, pa, _, _, rfl, rfl, upd_same, by rw [upd_ne ngp]; exact hpaF, (lens [0] (by decide)).2, ?_⟩
        refine fin (.ref x) [0] Hf _ _ _ _ _ (by rw [hstep]) (by decide) ⟨dxc, sf _ _ hc⟩ ((Oo_fm (Same.fm sf)).seq hSOc) (.inr ⟨M.lifeOf d bs ss, by rw [hstep], ⟨x, dxl, pb, ps, rfl, ?_, Oo_fm (Same.fm sf) _ _ hpb, Oo_fm (Same.fm sf) _ _ hps⟩, hok⟩)
        rw [Oo_at nxr nxg, hxf]
        rfl
      · refine ifF (by rw [eq0, decide_eq_false hcode]) ?_
        rw [if_neg hcode] at hstep
        refine ⟨_, rfl, .inl ⟨rfl, _, SqL.of (se _ _ hgc)⟩, _, rfl, pa, _, rfl, .inl (SqL.of hansE), gv, _, _, rfl, rfl, se _ _ hgc, (lens [M.lifeCode d bs ss] (by show 1 ≤ 20; omega)).1, ?_⟩
        refine ⟨_, rfl, .inl ⟨rfl, _, SqL.of upd_same⟩, _, rfl, gv, pa, _, _, rfl, rfl, upd_same, by rw [upd_ne ngp]; exact hansE, (lens [M.lifeCode d bs ss] (by show 1 ≤ 20; omega)).2, ?_⟩
        refine fin lv [M.lifeCode d bs ss] _ _ _ _ _ _ (by rw [hstep]) (by show 1 ≤ 20; omega) ⟨dxc, se _ _ hc⟩ ((Oo_fm (Same.fm se)).seq hSOc) (by rw [hstep]; exact StA.mono _ _ _ _ _ (Oo_fm (Same.fm se)) hstc)
    · refine ifF (decide_eq_false (by intro e; injection e with e; exact hp0 e)) ?_
      obtain ⟨w1, w2, w3⟩ := step_other (st := st) hsh' hp0
      refine ⟨_, rfl, _, rfl, _, rfl, _, rfl, st, lv, .ref pw, rv, p, ws, xs, rfl, StA.mono _ _ _ _ _ (Oo_sub _ _ _) hstc, hwc, hrc, h30, hsh', hp0, fun Hd pa sd hpa hans => ?_⟩
      have ngp : pa ≠ gv := (ne_of_none hgc hpa).symm
      have hl20 : (Vbecak.step st ((p :: ws) :: xs)).2.length ≤ 20 := by
        rcases hstc with ⟨e, _⟩ | ⟨l, e, _, hok⟩
        · rw [w2 e]; decide
        · exact w3 l e hok
      refine ⟨_, rfl, .inl ⟨rfl, _, SqL.of (sd _ _ hgc)⟩, _, rfl, pa, _, rfl, .inl (SqL.of hans), gv, _, _, rfl, rfl, sd _ _ hgc, (lens _ hl20).1, ?_⟩
      refine ⟨_, rfl, .inl ⟨rfl, _, SqL.of upd_same⟩, _, rfl, gv, pa, _, _, rfl, rfl, upd_same, by rw [upd_ne ngp]; exact hans, (lens _ hl20).2, ?_⟩
      exact fin lv _ Hd _ _ _ _ _ rfl hl20 ⟨dxc, sd _ _ hc⟩ ((Oo_fm (Same.fm sd)).seq hSOc) (by rw [w1]; exact StA.mono _ _ _ _ _ (Oo_fm (Same.fm sd)) hstc)
end
end G

set_option Elab.async false
set_option linter.all false
set_option maxRecDepth 100000
set_option maxHeartbeats 2000000
set_option exponentiation.threshold 100000
namespace G
open PySem PySem.Spec PyProof.Rows L2
abbrev KOf {K : PySem.W.Frag} {h : Heap} (_ : K.In h) : PySem.W.Frag := K
def FunE (K : PySem.W.Frag) (mg : Str → Option Value) (x : Str) (st : Stmt) : Prop := ∃ f fd, mg x = some (.ref f) ∧ Fun K x x st f fd
def MethE (K : PySem.W.Frag) (C : Addr) (m qual : Str) (st : Stmt) : Prop := ∃ f fd, Meth K C m f ∧ Fun K m qual st f fd
def InitE (K : PySem.W.Frag) (C : Addr) (qual : Str) (st : Stmt) : Prop := ∃ f fd, Mk K C f ∧ Fun K "__init__" qual st f fd
theorem fe_mk {K : PySem.W.Frag} {h : Heap} {mg : Str → Option Value} (X : K.In h) (N : h.Ns mainGlobals mg) {x : Str} {st : Stmt} {f : Addr} {oc : Value} {od an : Option Addr} {osl : Array (Option Value)} {kV doc pm cdv ct : Value}
    (a : PySem.W.nsIn K mainGlobals x = some (some (.ref f))) (l : K.lookup f = some ⟨oc, od, .func (PySem.W.fnOf x x (defArgs st) (defBody st) (defScope st) .none kV doc pm an cdv ct), osl⟩)
    (c : PySem.W.codeIn K cdv x = true) (k : PySem.W.keepIn K (.ref f) = true) : FunE K mg x st := ⟨f, _, PySem.W.mg_of X N a, fun_mk l c k⟩
theorem me_mk {K : PySem.W.Frag} {C : Addr} {m qual : Str} {st : Stmt} {f : Addr} {oc : Value} {od an : Option Addr} {osl : Array (Option Value)} {kV doc pm cdv ct : Value}
    (a : PySem.W.findIn K (.ref C) m = some (some (.ref f))) (i : PySem.W.isFn K (.ref f) = true) (l : K.lookup f = some ⟨oc, od, .func (PySem.W.fnOf m qual (defArgs st) (defBody st) (defScope st) .none kV doc pm an cdv ct), osl⟩)
    (c : PySem.W.codeIn K cdv qual = true) (k : PySem.W.keepIn K (.ref f) = true) : MethE K C m qual st := ⟨f, _, ⟨a, i, k⟩, fun_mk l c k⟩
theorem ie_mk {K : PySem.W.Frag} {C : Addr} {qual : Str} {st : Stmt} {f : Addr} {oc : Value} {od an : Option Addr} {osl : Array (Option Value)} {kV doc pm cdv ct : Value}
    (a : PySem.W.findIn K (.ref C) "__init__" = some (some (.ref f))) (i : PySem.W.isFn K (.ref f) = true) (l : K.lookup f = some ⟨oc, od, .func (PySem.W.fnOf "__init__" qual (defArgs st) (defBody st) (defScope st) .none kV doc pm an cdv ct), osl⟩)
    (c : PySem.W.codeIn K cdv qual = true) (k : PySem.W.keepIn K (.ref f) = true) (mk : PySem.W.makesIn K C = true) (kc : PySem.W.keepIn K (.ref C) = true) : InitE K C qual st := ⟨f, _, ⟨mk, a, i, kc⟩, fun_mk l c k⟩
theorem cst_mk {K : PySem.W.Frag} {h : Heap} {mg : Str → Option Value} (X : K.In h) (N : h.Ns mainGlobals mg) {x : Str} {i : Int} {t : Tok} (a : PySem.W.nsIn K mainGlobals x = some (some (.int i t))) : ∃ t, mg x = some (.int i t) := ⟨t, PySem.W.mg_of X N a⟩
theorem cls_mk {K : PySem.W.Frag} {C : Addr} (pg : PySem.W.plainGet K C Str.empty = true) (hd : PySem.W.hasDictIn K C = true) (po : PySem.W.plainOver K C = true) (sa : PySem.W.findIn K (.ref C) "__setattr__" = some (some (.builtin "object.__setattr__"))) : Cls K C := ⟨pg, hd, po, sa⟩
def TupIs (ob : Obj) (x y : Nat) : Prop := ∃ its n, ob.cls = .type "tuple" ∧ ob.data = .seq its n ∧ its.size ≤ sizeLine ∧ Vals [.int (x : Nat), .int (y : Nat)] its.toList
theorem tup_sq {K : PySem.W.Frag} {H : Hp} {s : Addr} {ob : Obj} {x y : Nat} (l : K.lookup s = some ob) (h : TupIs ob x y) : SqT K H s [.int (x : Nat), .int (y : Nat)] := by
  obtain ⟨its, n, h1, h2, h3, h4⟩ := h
  exact .inr ⟨ob, its, n, l, h1, h2, h3, h4⟩
def ShE (K : PySem.W.Frag) (mg : Str → Option Value) : Prop := ∃ tblS, TabOk K mg "SHAPES" tblS ∧ ∀ (n : Int) (x y : Nat), PyVbecak.shape n = some (x, y) → ∃ sa, tblS.lookup n = some sa ∧ ∀ H : Hp, SqT K H sa [.int (x : Nat), .int (y : Nat)]
theorem she_mk {K : PySem.W.Frag} {h : Heap} {mg : Str → Option Value} (X : K.In h) (N : h.Ns mainGlobals mg) {dS s0 s1 s2 s3 s4 s5 s6 s7 s8 s9 s10 s11 s12 s13 s14 s15 s16 : Addr} {oS o0 o1 o2 o3 o4 o5 o6 o7 o8 o9 o10 o11 o12 o13 o14 o15 o16 : Obj} (a : PySem.W.nsIn K mainGlobals "SHAPES" = some (some (.ref dS))) (l : K.lookup dS = some oS) (t : TabIs oS [(0, s0), (1, s1), (2, s2), (3, s3), (4, s4), (5, s5), (6, s6), (7, s7), (8, s8), (9, s9), (10, s10), (11, s11), (12, s12), (13, s13), (14, s14), (15, s15), (16, s16)]) (k0 : K.lookup s0 = some o0) (u0 : TupIs o0 1 2) (k1 : K.lookup s1 = some o1) (u1 : TupIs o1 0 0) (k2 : K.lookup s2 = some o2) (u2 : TupIs o2 1 1) (k3 : K.lookup s3 = some o3) (u3 : TupIs o3 2 1) (k4 : K.lookup s4 = some o4) (u4 : TupIs o4 0 0) (k5 : K.lookup s5 = some o5) (u5 : TupIs o5 0 1) (k6 : K.lookup s6 = some o6) (u6 : TupIs o6 1 0) (k7 : K.lookup s7 = some o7) (u7 : TupIs o7 0 1) (k8 : K.lookup s8 = some o8) (u8 : TupIs o8 0 0) (k9 : K.lookup s9 = some o9) (u9 : TupIs o9 1 0) (k10 : K.lookup s10 = some o10) (u10 : TupIs o10 1 0) (k11 : K.lookup s11 = some o11) (u11 : TupIs o11 0 0) (k12 : K.lookup s12 = some o12) (u12 : TupIs o12 0 0) (k13 : K.lookup s13 = some o13) (u13 : TupIs o13 0 0) (k14 : K.lookup s14 = some o14) (u14 : TupIs o14 0 0) (k15 : K.lookup s15 = some o15) (u15 : TupIs o15 1 0) (k16 : K.lookup s16 = some o16) (u16 : TupIs o16 1 0) : ShE K mg := by
  refine ⟨[(0, s0), (1, s1), (2, s2), (3, s3), (4, s4), (5, s5), (6, s6), (7, s7), (8, s8), (9, s9), (10, s10), (11, s11), (12, s12), (13, s13), (14, s14), (15, s15), (16, s16)], ⟨dS, oS, PySem.W.mg_of X N a, l, t⟩, fun n x y h => ?_⟩
  rcases shape_cases h with ⟨rfl, rfl, rfl⟩ | ⟨rfl, rfl, rfl⟩ | ⟨rfl, rfl, rfl⟩ | ⟨rfl, rfl, rfl⟩ | ⟨rfl, rfl, rfl⟩ | ⟨rfl, rfl, rfl⟩ | ⟨rfl, rfl, rfl⟩ | ⟨rfl, rfl, rfl⟩ | ⟨rfl, rfl, rfl⟩ | ⟨rfl, rfl, rfl⟩ | ⟨rfl, rfl, rfl⟩ | ⟨rfl, rfl, rfl⟩ | ⟨rfl, rfl, rfl⟩ | ⟨rfl, rfl, rfl⟩ | ⟨rfl, rfl, rfl⟩ | ⟨rfl, rfl, rfl⟩ | ⟨rfl, rfl, rfl⟩
  · exact ⟨s0, rfl, fun H => tup_sq k0 u0⟩
  · exact ⟨s1, rfl, fun H => tup_sq k1 u1⟩
  · exact ⟨s2, rfl, fun H => tup_sq k2 u2⟩
  · exact ⟨s3, rfl, fun H => tup_sq k3 u3⟩
  · exact ⟨s4, rfl, fun H => tup_sq k4 u4⟩
  · exact ⟨s5, rfl, fun H => tup_sq k5 u5⟩
  · exact ⟨s6, rfl, fun H => tup_sq k6 u6⟩
  · exact ⟨s7, rfl, fun H => tup_sq k7 u7⟩
  · exact ⟨s8, rfl, fun H => tup_sq k8 u8⟩
  · exact ⟨s9, rfl, fun H => tup_sq k9 u9⟩
  · exact ⟨s10, rfl, fun H => tup_sq k10 u10⟩
  · exact ⟨s11, rfl, fun H => tup_sq k11 u11⟩
  · exact ⟨s12, rfl, fun H => tup_sq k12 u12⟩
  · exact ⟨s13, rfl, fun H => tup_sq k13 u13⟩
  · exact ⟨s14, rfl, fun H => tup_sq k14 u14⟩
  · exact ⟨s15, rfl, fun H => tup_sq k15 u15⟩
  · exact ⟨s16, rfl, fun H => tup_sq k16 u16⟩
def AnE (K : PySem.W.Frag) (mg : Str → Option Value) (tblA : List (Int × Addr)) : Prop := TabOk K mg "ANSWERING" tblA ∧ ∃ g1 g2 g3 g4 g5 g6 g7 g8 g9 g10 g11 g12 g13 g14 g15 g16 : Addr, tblA = [(1, g1), (2, g2), (3, g3), (4, g4), (5, g5), (6, g6), (7, g7), (8, g8), (9, g9), (10, g10), (11, g11), (12, g12), (13, g13), (14, g14), (15, g15), (16, g16)] ∧ mg "answer_told" = some (.ref g1) ∧ mg "answer_after" = some (.ref g2) ∧ mg "answer_far" = some (.ref g3) ∧ mg "answer_net" = some (.ref g4) ∧ mg "answer_fate" = some (.ref g5) ∧ mg "answer_value" = some (.ref g6) ∧ mg "answer_worth" = some (.ref g7) ∧ mg "answer_years" = some (.ref g8) ∧ mg "answer_share" = some (.ref g9) ∧ mg "answer_leaned" = some (.ref g10) ∧ mg "answer_age" = some (.ref g11) ∧ mg "answer_spare" = some (.ref g12) ∧ mg "answer_steady" = some (.ref g13) ∧ mg "answer_rhythm" = some (.ref g14) ∧ mg "answer_births" = some (.ref g15) ∧ mg "answer_reached" = some (.ref g16)
theorem ane_mk {K : PySem.W.Frag} {h : Heap} {mg : Str → Option Value} (X : K.In h) (N : h.Ns mainGlobals mg) {dA g1 g2 g3 g4 g5 g6 g7 g8 g9 g10 g11 g12 g13 g14 g15 g16 : Addr} {oA : Obj} (a : PySem.W.nsIn K mainGlobals "ANSWERING" = some (some (.ref dA))) (l : K.lookup dA = some oA) (t : TabIs oA [(1, g1), (2, g2), (3, g3), (4, g4), (5, g5), (6, g6), (7, g7), (8, g8), (9, g9), (10, g10), (11, g11), (12, g12), (13, g13), (14, g14), (15, g15), (16, g16)]) (b1 : PySem.W.nsIn K mainGlobals "answer_told" = some (some (.ref g1))) (b2 : PySem.W.nsIn K mainGlobals "answer_after" = some (some (.ref g2))) (b3 : PySem.W.nsIn K mainGlobals "answer_far" = some (some (.ref g3))) (b4 : PySem.W.nsIn K mainGlobals "answer_net" = some (some (.ref g4))) (b5 : PySem.W.nsIn K mainGlobals "answer_fate" = some (some (.ref g5))) (b6 : PySem.W.nsIn K mainGlobals "answer_value" = some (some (.ref g6))) (b7 : PySem.W.nsIn K mainGlobals "answer_worth" = some (some (.ref g7))) (b8 : PySem.W.nsIn K mainGlobals "answer_years" = some (some (.ref g8))) (b9 : PySem.W.nsIn K mainGlobals "answer_share" = some (some (.ref g9))) (b10 : PySem.W.nsIn K mainGlobals "answer_leaned" = some (some (.ref g10))) (b11 : PySem.W.nsIn K mainGlobals "answer_age" = some (some (.ref g11))) (b12 : PySem.W.nsIn K mainGlobals "answer_spare" = some (some (.ref g12))) (b13 : PySem.W.nsIn K mainGlobals "answer_steady" = some (some (.ref g13))) (b14 : PySem.W.nsIn K mainGlobals "answer_rhythm" = some (some (.ref g14))) (b15 : PySem.W.nsIn K mainGlobals "answer_births" = some (some (.ref g15))) (b16 : PySem.W.nsIn K mainGlobals "answer_reached" = some (some (.ref g16))) : ∃ tblA, AnE K mg tblA :=
  ⟨_, ⟨dA, oA, PySem.W.mg_of X N a, l, t⟩, g1, g2, g3, g4, g5, g6, g7, g8, g9, g10, g11, g12, g13, g14, g15, g16, rfl, PySem.W.mg_of X N b1, PySem.W.mg_of X N b2, PySem.W.mg_of X N b3, PySem.W.mg_of X N b4, PySem.W.mg_of X N b5, PySem.W.mg_of X N b6, PySem.W.mg_of X N b7, PySem.W.mg_of X N b8, PySem.W.mg_of X N b9, PySem.W.mg_of X N b10, PySem.W.mg_of X N b11, PySem.W.mg_of X N b12, PySem.W.mg_of X N b13, PySem.W.mg_of X N b14, PySem.W.mg_of X N b15, PySem.W.mg_of X N b16⟩
theorem FOk.fn {P : Program} {w : World} {K : PySem.W.Frag} {mg : Str → Option Value} {base : Heap} {x : Str} {k : Nat} {ps : List Str} {sp : Sp} {g : Addr} (F : FOk P w K mg base x k ps sp) (h : mg x = some (.ref g)) : ∃ fd, PySem.W.keepIn K (.ref g) = true ∧ Binds K fd ps [] ∧ FnOk P w K mg base CX0 k g fd ps sp := by
  obtain ⟨f, fd, hm, hk, hb, hF⟩ := F.ex
  have e := hm.symm.trans h
  cases e
  exact ⟨fd, hk, hb, hF⟩
theorem asm {P : Program} {w : World} {K : PySem.W.Frag} {mg : Str → Option Value} {base : Heap} {CL CR : Addr} {f : Addr} {fd : FuncData} (T : Tx K mg CL CR) (mL : mg "Life" = some (.ref CL)) (mR : mg "Reader" = some (.ref CR)) (SE : ShE K mg) {tblA : List (Int × Addr)} (AE : AnE K mg tblA)
    (E_common_divisor : FunE K mg "common_divisor" (top 1))
    (E_common_divisor_of : FunE K mg "common_divisor_of" (top 2))
    (E_power : FunE K mg "power" (top 3))
    (E_fraction : FunE K mg "fraction" (top 4))
    (E_plus : FunE K mg "plus" (top 5))
    (E_times : FunE K mg "times" (top 6))
    (E_over : FunE K mg "over" (top 7))
    (E_added : FunE K mg "added" (top 8))
    (E_Life_init : InitE K CL "Life.__init__" (inClass (top 10) 0))
    (E_share_reaching : FunE K mg "share_reaching" (top 11))
    (E_years_to_live : FunE K mg "years_to_live" (top 12))
    (E_births_to_come : FunE K mg "births_to_come" (top 13))
    (E_herd_births_to_come : FunE K mg "herd_births_to_come" (top 14))
    (E_share_of_births : FunE K mg "share_of_births" (top 16))
    (E_shares_above : FunE K mg "shares_above" (top 17))
    (E_mean_age_at_births : FunE K mg "mean_age_at_births" (top 18))
    (E_lessened : FunE K mg "lessened" (top 19))
    (E_lasts : FunE K mg "lasts" (top 20))
    (E_bearable_takes : FunE K mg "bearable_takes" (top 21))
    (E_ages_to_one_another : FunE K mg "ages_to_one_another" (top 22))
    (E_bears : FunE K mg "bears" (top 23))
    (E_births_rhythm : FunE K mg "births_rhythm" (top 24))
    (E_year_table : FunE K mg "year_table" (top 26))
    (E_row_times : FunE K mg "row_times" (top 27))
    (E_table_times : FunE K mg "table_times" (top 28))
    (E_rests : FunE K mg "rests" (top 29))
    (E_column : FunE K mg "column" (top 30))
    (E_squared : FunE K mg "squared" (top 31))
    (E_numbers_after : FunE K mg "numbers_after" (top 32))
    (E_rests_after : FunE K mg "rests_after" (top 33))
    (E_newborn_after : FunE K mg "newborn_after" (top 34))
    (E_within : FunE K mg "within" (top 51))
    (E_all_within : FunE K mg "all_within" (top 52))
    (E_is_herd : FunE K mg "is_herd" (top 53))
    (E_answer_life : FunE K mg "answer_life" (top 54))
    (E_fate_of : FunE K mg "fate_of" (top 59))
    (E_no_births_to_come : FunE K mg "no_births_to_come" (top 64))
    (E_answer_told : FunE K mg "answer_told" (top 55))
    (E_answer_net : FunE K mg "answer_net" (top 58))
    (E_answer_years : FunE K mg "answer_years" (top 63))
    (E_answer_value : FunE K mg "answer_value" (top 61))
    (E_answer_reached : FunE K mg "answer_reached" (top 72))
    (E_answer_share : FunE K mg "answer_share" (top 65))
    (E_answer_leaned : FunE K mg "answer_leaned" (top 66))
    (E_answer_age : FunE K mg "answer_age" (top 67))
    (E_answer_rhythm : FunE K mg "answer_rhythm" (top 70))
    (E_answer_fate : FunE K mg "answer_fate" (top 60))
    (E_answer_worth : FunE K mg "answer_worth" (top 62))
    (E_answer_far : FunE K mg "answer_far" (top 57))
    (E_answer_after : FunE K mg "answer_after" (top 56))
    (E_answer_births : FunE K mg "answer_births" (top 71))
    (E_answer_spare : FunE K mg "answer_spare" (top 68))
    (E_answer_steady : FunE K mg "answer_steady" (top 69))
    (E_Reader_init : InitE K CR "Reader.__init__" (inClass (top 50) 0))
    (E_Reader_at_end : MethE K CR "at_end" "Reader.at_end" (inClass (top 50) 1))
    (E_Reader_take : MethE K CR "take" "Reader.take" (inClass (top 50) 2))
    (E_Reader_take_one : MethE K CR "take_one" "Reader.take_one" (inClass (top 50) 3))
    (E_Reader_take_rows : MethE K CR "take_rows" "Reader.take_rows" (inClass (top 50) 4))
    (E_answer_by : FunE K mg "answer_by" (top 75))
    (F : Fun K "answers" "answers" (top 76) f fd) : FnOk P w K mg base CX0 10 f fd ["calls"] (sp_answers K) := by
  have G_common_divisor : FOk P w K mg base "common_divisor" 1 ["a", "b"] sp_common_divisor := by
    obtain ⟨f, fd, m, F⟩ := E_common_divisor
    exact ⟨f, fd, m, F.kp, F.binds (ps := ["a", "b"]) fun _ _ _ _ _ _ us hl => match us, hl with | [_, _], _ => rfl, ok_common_divisor F T ⟩
  have G_common_divisor_of : FOk P w K mg base "common_divisor_of" 2 ["numbers"] sp_common_divisor_of := by
    obtain ⟨f, fd, m, F⟩ := E_common_divisor_of
    exact ⟨f, fd, m, F.kp, F.binds (ps := ["numbers"]) fun _ _ _ _ _ _ us hl => match us, hl with | [_], _ => rfl, ok_common_divisor_of F T G_common_divisor⟩
  have G_power : FOk P w K mg base "power" 1 ["base", "exponent"] sp_power := by
    obtain ⟨f, fd, m, F⟩ := E_power
    exact ⟨f, fd, m, F.kp, F.binds (ps := ["base", "exponent"]) fun _ _ _ _ _ _ us hl => match us, hl with | [_, _], _ => rfl, ok_power F T ⟩
  have G_fraction : FOk P w K mg base "fraction" 2 ["upper", "lower"] sp_fraction := by
    obtain ⟨f, fd, m, F⟩ := E_fraction
    exact ⟨f, fd, m, F.kp, F.binds (ps := ["upper", "lower"]) fun _ _ _ _ _ _ us hl => match us, hl with | [_, _], _ => rfl, ok_fraction F T G_common_divisor⟩
  have G_plus : FOk P w K mg base "plus" 3 ["a", "b"] sp_plus := by
    obtain ⟨f, fd, m, F⟩ := E_plus
    exact ⟨f, fd, m, F.kp, F.binds (ps := ["a", "b"]) fun _ _ _ _ _ _ us hl => match us, hl with | [_, _], _ => rfl, ok_plus F T G_fraction⟩
  have G_times : FOk P w K mg base "times" 3 ["a", "b"] sp_times := by
    obtain ⟨f, fd, m, F⟩ := E_times
    exact ⟨f, fd, m, F.kp, F.binds (ps := ["a", "b"]) fun _ _ _ _ _ _ us hl => match us, hl with | [_, _], _ => rfl, ok_times F T G_fraction⟩
  have G_over : FOk P w K mg base "over" 3 ["a", "b"] sp_over := by
    obtain ⟨f, fd, m, F⟩ := E_over
    exact ⟨f, fd, m, F.kp, F.binds (ps := ["a", "b"]) fun _ _ _ _ _ _ us hl => match us, hl with | [_, _], _ => rfl, ok_over F T G_fraction⟩
  have G_added : FOk P w K mg base "added" 4 ["fractions"] sp_added := by
    obtain ⟨f, fd, m, F⟩ := E_added
    exact ⟨f, fd, m, F.kp, F.binds (ps := ["fractions"]) fun _ _ _ _ _ _ us hl => match us, hl with | [_], _ => rfl, ok_added F T G_fraction G_plus⟩
  have G_Life : COk P w K mg base "Life" CL 1 ["self", "d", "births", "stays"] (sp_LifeInit CL) := by
    obtain ⟨f, fd, M, F⟩ := E_Life_init
    exact ⟨f, fd, mL, M, F.binds (ps := ["self", "d", "births", "stays"]) fun _ _ _ _ _ _ us hl => match us, hl with | [_, _, _, _], _ => rfl, ok_Life_init F T ⟩
  have G_share_reaching : FOk P w K mg base "share_reaching" 4 ["life", "i"] (sp_share_reaching CL) := by
    obtain ⟨f, fd, m, F⟩ := E_share_reaching
    exact ⟨f, fd, m, F.kp, F.binds (ps := ["life", "i"]) fun _ _ _ _ _ _ us hl => match us, hl with | [_, _], _ => rfl, ok_share_reaching F T G_fraction G_times⟩
  have G_years_to_live : FOk P w K mg base "years_to_live" 5 ["life"] (sp_years_to_live CL) := by
    obtain ⟨f, fd, m, F⟩ := E_years_to_live
    exact ⟨f, fd, m, F.kp, F.binds (ps := ["life"]) fun _ _ _ _ _ _ us hl => match us, hl with | [_], _ => rfl, ok_years_to_live F T G_share_reaching G_added⟩
  have G_births_to_come : FOk P w K mg base "births_to_come" 4 ["life", "i"] (sp_births_to_come CL) := by
    obtain ⟨f, fd, m, F⟩ := E_births_to_come
    exact ⟨f, fd, m, F.kp, F.binds (ps := ["life", "i"]) fun _ _ _ _ _ _ us hl => match us, hl with | [_, _], _ => rfl, ok_births_to_come F T G_fraction G_times G_plus⟩
  have G_herd_births_to_come : FOk P w K mg base "herd_births_to_come" 5 ["life", "x"] (sp_herd_births_to_come CL) := by
    obtain ⟨f, fd, m, F⟩ := E_herd_births_to_come
    exact ⟨f, fd, m, F.kp, F.binds (ps := ["life", "x"]) fun _ _ _ _ _ _ us hl => match us, hl with | [_, _], _ => rfl, ok_herd_births_to_come F T G_fraction G_times G_births_to_come G_added⟩
  have G_share_of_births : FOk P w K mg base "share_of_births" 5 ["life", "i"] (sp_share_of_births CL) := by
    obtain ⟨f, fd, m, F⟩ := E_share_of_births
    exact ⟨f, fd, m, F.kp, F.binds (ps := ["life", "i"]) fun _ _ _ _ _ _ us hl => match us, hl with | [_, _], _ => rfl, ok_share_of_births F T G_fraction G_times G_over G_share_reaching G_births_to_come⟩
  have G_shares_above : FOk P w K mg base "shares_above" 6 ["life", "j"] (sp_shares_above CL) := by
    obtain ⟨f, fd, m, F⟩ := E_shares_above
    exact ⟨f, fd, m, F.kp, F.binds (ps := ["life", "j"]) fun _ _ _ _ _ _ us hl => match us, hl with | [_, _], _ => rfl, ok_shares_above F T G_share_of_births G_added⟩
  have G_mean_age_at_births : FOk P w K mg base "mean_age_at_births" 6 ["life"] (sp_mean_age_at_births CL) := by
    obtain ⟨f, fd, m, F⟩ := E_mean_age_at_births
    exact ⟨f, fd, m, F.kp, F.binds (ps := ["life"]) fun _ _ _ _ _ _ us hl => match us, hl with | [_], _ => rfl, ok_mean_age_at_births F T G_fraction G_times G_share_of_births G_added⟩
  have G_lessened : FOk P w K mg base "lessened" 3 ["life", "k"] (sp_lessened CL) := by
    obtain ⟨f, fd, m, F⟩ := E_lessened
    exact ⟨f, fd, m, F.kp, F.binds (ps := ["life", "k"]) fun _ _ _ _ _ _ us hl => match us, hl with | [_, _], _ => rfl, ok_lessened F T G_Life⟩
  have G_lasts : FOk P w K mg base "lasts" 5 ["life"] (sp_lasts CL) := by
    obtain ⟨f, fd, m, F⟩ := E_lasts
    exact ⟨f, fd, m, F.kp, F.binds (ps := ["life"]) fun _ _ _ _ _ _ us hl => match us, hl with | [_], _ => rfl, ok_lasts F T G_births_to_come⟩
  have G_bearable_takes : FOk P w K mg base "bearable_takes" 6 ["life"] (sp_bearable_takes CL) := by
    obtain ⟨f, fd, m, F⟩ := E_bearable_takes
    exact ⟨f, fd, m, F.kp, F.binds (ps := ["life"]) fun _ _ _ _ _ _ us hl => match us, hl with | [_], _ => rfl, ok_bearable_takes F T G_lessened G_lasts⟩
  have G_ages_to_one_another : FOk P w K mg base "ages_to_one_another" 5 ["life"] (sp_ages_to_one_another CL) := by
    obtain ⟨f, fd, m, F⟩ := E_ages_to_one_another
    exact ⟨f, fd, m, F.kp, F.binds (ps := ["life"]) fun _ _ _ _ _ _ us hl => match us, hl with | [_], _ => rfl, ok_ages_to_one_another F T G_share_reaching G_power G_common_divisor_of⟩
  have G_bears : FOk P w K mg base "bears" 5 ["life", "i"] (sp_bears CL) := by
    obtain ⟨f, fd, m, F⟩ := E_bears
    exact ⟨f, fd, m, F.kp, F.binds (ps := ["life", "i"]) fun _ _ _ _ _ _ us hl => match us, hl with | [_, _], _ => rfl, ok_bears F T G_share_reaching⟩
  have G_births_rhythm : FOk P w K mg base "births_rhythm" 6 ["life"] (sp_births_rhythm CL) := by
    obtain ⟨f, fd, m, F⟩ := E_births_rhythm
    exact ⟨f, fd, m, F.kp, F.binds (ps := ["life"]) fun _ _ _ _ _ _ us hl => match us, hl with | [_], _ => rfl, ok_births_rhythm F T G_bears G_common_divisor_of⟩
  have G_year_table : FOk P w K mg base "year_table" 1 ["life"] (sp_year_table CL) := by
    obtain ⟨f, fd, m, F⟩ := E_year_table
    exact ⟨f, fd, m, F.kp, F.binds (ps := ["life"]) fun _ _ _ _ _ _ us hl => match us, hl with | [_], _ => rfl, ok_year_table F T ⟩
  have G_row_times : FOk P w K mg base "row_times" 1 ["row", "numbers"] sp_row_times := by
    obtain ⟨f, fd, m, F⟩ := E_row_times
    exact ⟨f, fd, m, F.kp, F.binds (ps := ["row", "numbers"]) fun _ _ _ _ _ _ us hl => match us, hl with | [_, _], _ => rfl, ok_row_times F T ⟩
  have G_table_times : FOk P w K mg base "table_times" 2 ["table", "numbers"] sp_table_times := by
    obtain ⟨f, fd, m, F⟩ := E_table_times
    exact ⟨f, fd, m, F.kp, F.binds (ps := ["table", "numbers"]) fun _ _ _ _ _ _ us hl => match us, hl with | [_, _], _ => rfl, ok_table_times F T G_row_times⟩
  have G_rests : FOk P w K mg base "rests" 1 ["numbers", "q"] sp_rests := by
    obtain ⟨f, fd, m, F⟩ := E_rests
    exact ⟨f, fd, m, F.kp, F.binds (ps := ["numbers", "q"]) fun _ _ _ _ _ _ us hl => match us, hl with | [_, _], _ => rfl, ok_rests F T ⟩
  have G_column : FOk P w K mg base "column" 1 ["table", "k"] sp_column := by
    obtain ⟨f, fd, m, F⟩ := E_column
    exact ⟨f, fd, m, F.kp, F.binds (ps := ["table", "k"]) fun _ _ _ _ _ _ us hl => match us, hl with | [_, _], _ => rfl, ok_column F T ⟩
  have G_squared : FOk P w K mg base "squared" 3 ["table", "q"] sp_squared := by
    obtain ⟨f, fd, m, F⟩ := E_squared
    exact ⟨f, fd, m, F.kp, F.binds (ps := ["table", "q"]) fun _ _ _ _ _ _ us hl => match us, hl with | [_, _], _ => rfl, ok_squared F T G_column G_table_times G_rests⟩
  have G_numbers_after : FOk P w K mg base "numbers_after" 3 ["life", "t", "x"] (sp_numbers_after CL) := by
    obtain ⟨f, fd, m, F⟩ := E_numbers_after
    exact ⟨f, fd, m, F.kp, F.binds (ps := ["life", "t", "x"]) fun _ _ _ _ _ _ us hl => match us, hl with | [_, _, _], _ => rfl, ok_numbers_after F T G_year_table G_table_times⟩
  have G_rests_after : FOk P w K mg base "rests_after" 4 ["life", "t", "q", "x"] (sp_rests_after CL) := by
    obtain ⟨f, fd, m, F⟩ := E_rests_after
    exact ⟨f, fd, m, F.kp, F.binds (ps := ["life", "t", "q", "x"]) fun _ _ _ _ _ _ us hl => match us, hl with | [_, _, _, _], _ => rfl, ok_rests_after F T G_year_table G_rests G_table_times G_squared⟩
  have G_newborn_after : FOk P w K mg base "newborn_after" 4 ["life", "t"] (sp_newborn_after CL) := by
    obtain ⟨f, fd, m, F⟩ := E_newborn_after
    exact ⟨f, fd, m, F.kp, F.binds (ps := ["life", "t"]) fun _ _ _ _ _ _ us hl => match us, hl with | [_, _], _ => rfl, ok_newborn_after F T G_numbers_after⟩
  have G_within : FOk P w K mg base "within" 1 ["number", "least", "greatest"] sp_within := by
    obtain ⟨f, fd, m, F⟩ := E_within
    exact ⟨f, fd, m, F.kp, F.binds (ps := ["number", "least", "greatest"]) fun _ _ _ _ _ _ us hl => match us, hl with | [_, _, _], _ => rfl, ok_within F T ⟩
  have G_all_within : FOk P w K mg base "all_within" 2 ["numbers", "least", "greatest"] sp_all_within := by
    obtain ⟨f, fd, m, F⟩ := E_all_within
    exact ⟨f, fd, m, F.kp, F.binds (ps := ["numbers", "least", "greatest"]) fun _ _ _ _ _ _ us hl => match us, hl with | [_, _, _], _ => rfl, ok_all_within F T G_within⟩
  have G_is_herd : FOk P w K mg base "is_herd" 3 ["life", "x"] (sp_is_herd CL) := by
    obtain ⟨f, fd, m, F⟩ := E_is_herd
    exact ⟨f, fd, m, F.kp, F.binds (ps := ["life", "x"]) fun _ _ _ _ _ _ us hl => match us, hl with | [_, _], _ => rfl, ok_is_herd F T G_all_within⟩
  have G_answer_life : FOk P w K mg base "answer_life" 4 ["d", "births", "stays"] sp_answer_life := by
    obtain ⟨f, fd, m, F⟩ := E_answer_life
    exact ⟨f, fd, m, F.kp, F.binds (ps := ["d", "births", "stays"]) fun _ _ _ _ _ _ us hl => match us, hl with | [_, _, _], _ => rfl, ok_answer_life F T G_within G_all_within⟩
  have G_fate_of : FOk P w K mg base "fate_of" 1 ["net", "worth"] sp_fate_of := by
    obtain ⟨f, fd, m, F⟩ := E_fate_of
    exact ⟨f, fd, m, F.kp, F.binds (ps := ["net", "worth"]) fun _ _ _ _ _ _ us hl => match us, hl with | [_, _], _ => rfl, ok_fate_of F T ⟩
  have G_no_births_to_come : FOk P w K mg base "no_births_to_come" 5 ["life"] (sp_no_births_to_come CL) := by
    obtain ⟨f, fd, m, F⟩ := E_no_births_to_come
    exact ⟨f, fd, m, F.kp, F.binds (ps := ["life"]) fun _ _ _ _ _ _ us hl => match us, hl with | [_], _ => rfl, ok_no_births_to_come F T G_births_to_come⟩
  have G_answer_told : FOk P w K mg base "answer_told" 8 ["life", "wholes", "rows"] (sp_ans CL 1) := by
    obtain ⟨f, fd, m, F⟩ := E_answer_told
    exact ⟨f, fd, m, F.kp, F.binds (ps := ["life", "wholes", "rows"]) fun _ _ _ _ _ _ us hl => match us, hl with | [_, _, _], _ => rfl, ok_answer_told F T ⟩
  have G_answer_net : FOk P w K mg base "answer_net" 8 ["life", "wholes", "rows"] (sp_ans CL 4) := by
    obtain ⟨f, fd, m, F⟩ := E_answer_net
    exact ⟨f, fd, m, F.kp, F.binds (ps := ["life", "wholes", "rows"]) fun _ _ _ _ _ _ us hl => match us, hl with | [_, _, _], _ => rfl, ok_answer_net F T G_births_to_come⟩
  have G_answer_years : FOk P w K mg base "answer_years" 8 ["life", "wholes", "rows"] (sp_ans CL 8) := by
    obtain ⟨f, fd, m, F⟩ := E_answer_years
    exact ⟨f, fd, m, F.kp, F.binds (ps := ["life", "wholes", "rows"]) fun _ _ _ _ _ _ us hl => match us, hl with | [_, _, _], _ => rfl, ok_answer_years F T G_years_to_live⟩
  have G_answer_value : FOk P w K mg base "answer_value" 8 ["life", "wholes", "rows"] (sp_ans CL 6) := by
    obtain ⟨f, fd, m, F⟩ := E_answer_value
    exact ⟨f, fd, m, F.kp, F.binds (ps := ["life", "wholes", "rows"]) fun _ _ _ _ _ _ us hl => match us, hl with | [_, _, _], _ => rfl, ok_answer_value F T G_within G_births_to_come⟩
  have G_answer_reached : FOk P w K mg base "answer_reached" 8 ["life", "wholes", "rows"] (sp_ans CL 16) := by
    obtain ⟨f, fd, m, F⟩ := E_answer_reached
    exact ⟨f, fd, m, F.kp, F.binds (ps := ["life", "wholes", "rows"]) fun _ _ _ _ _ _ us hl => match us, hl with | [_, _, _], _ => rfl, ok_answer_reached F T G_within G_share_reaching⟩
  have G_answer_share : FOk P w K mg base "answer_share" 8 ["life", "wholes", "rows"] (sp_ans CL 9) := by
    obtain ⟨f, fd, m, F⟩ := E_answer_share
    exact ⟨f, fd, m, F.kp, F.binds (ps := ["life", "wholes", "rows"]) fun _ _ _ _ _ _ us hl => match us, hl with | [_, _, _], _ => rfl, ok_answer_share F T G_within G_no_births_to_come G_share_of_births⟩
  have G_answer_leaned : FOk P w K mg base "answer_leaned" 8 ["life", "wholes", "rows"] (sp_ans CL 10) := by
    obtain ⟨f, fd, m, F⟩ := E_answer_leaned
    exact ⟨f, fd, m, F.kp, F.binds (ps := ["life", "wholes", "rows"]) fun _ _ _ _ _ _ us hl => match us, hl with | [_, _, _], _ => rfl, ok_answer_leaned F T G_within G_no_births_to_come G_shares_above⟩
  have G_answer_age : FOk P w K mg base "answer_age" 8 ["life", "wholes", "rows"] (sp_ans CL 11) := by
    obtain ⟨f, fd, m, F⟩ := E_answer_age
    exact ⟨f, fd, m, F.kp, F.binds (ps := ["life", "wholes", "rows"]) fun _ _ _ _ _ _ us hl => match us, hl with | [_, _, _], _ => rfl, ok_answer_age F T G_no_births_to_come G_mean_age_at_births⟩
  have G_answer_rhythm : FOk P w K mg base "answer_rhythm" 8 ["life", "wholes", "rows"] (sp_ans CL 14) := by
    obtain ⟨f, fd, m, F⟩ := E_answer_rhythm
    exact ⟨f, fd, m, F.kp, F.binds (ps := ["life", "wholes", "rows"]) fun _ _ _ _ _ _ us hl => match us, hl with | [_, _, _], _ => rfl, ok_answer_rhythm F T G_births_rhythm⟩
  have G_answer_fate : FOk P w K mg base "answer_fate" 8 ["life", "wholes", "rows"] (sp_ans CL 5) := by
    obtain ⟨f, fd, m, F⟩ := E_answer_fate
    exact ⟨f, fd, m, F.kp, F.binds (ps := ["life", "wholes", "rows"]) fun _ _ _ _ _ _ us hl => match us, hl with | [_, _, _], _ => rfl, ok_answer_fate F T G_is_herd G_births_to_come G_herd_births_to_come G_fate_of⟩
  have G_answer_worth : FOk P w K mg base "answer_worth" 8 ["life", "wholes", "rows"] (sp_ans CL 7) := by
    obtain ⟨f, fd, m, F⟩ := E_answer_worth
    exact ⟨f, fd, m, F.kp, F.binds (ps := ["life", "wholes", "rows"]) fun _ _ _ _ _ _ us hl => match us, hl with | [_, _, _], _ => rfl, ok_answer_worth F T G_is_herd G_herd_births_to_come⟩
  have G_answer_far : FOk P w K mg base "answer_far" 8 ["life", "wholes", "rows"] (sp_ans CL 3) := by
    obtain ⟨f, fd, m, F⟩ := E_answer_far
    exact ⟨f, fd, m, F.kp, F.binds (ps := ["life", "wholes", "rows"]) fun _ _ _ _ _ _ us hl => match us, hl with | [_, _, _], _ => rfl, ok_answer_far F T G_within G_is_herd G_rests_after⟩
  have G_answer_after : FOk P w K mg base "answer_after" 8 ["life", "wholes", "rows"] (sp_ans CL 2) := by
    obtain ⟨f, fd, m, F⟩ := E_answer_after
    exact ⟨f, fd, m, F.kp, F.binds (ps := ["life", "wholes", "rows"]) fun _ _ _ _ _ _ us hl => match us, hl with | [_, _, _], _ => rfl, ok_answer_after F T G_within G_is_herd G_power G_numbers_after⟩
  have G_answer_births : FOk P w K mg base "answer_births" 8 ["life", "wholes", "rows"] (sp_ans CL 15) := by
    obtain ⟨f, fd, m, F⟩ := E_answer_births
    exact ⟨f, fd, m, F.kp, F.binds (ps := ["life", "wholes", "rows"]) fun _ _ _ _ _ _ us hl => match us, hl with | [_, _, _], _ => rfl, ok_answer_births F T G_within G_newborn_after G_power⟩
  have G_answer_spare : FOk P w K mg base "answer_spare" 8 ["life", "wholes", "rows"] (sp_ans CL 12) := by
    obtain ⟨f, fd, m, F⟩ := E_answer_spare
    exact ⟨f, fd, m, F.kp, F.binds (ps := ["life", "wholes", "rows"]) fun _ _ _ _ _ _ us hl => match us, hl with | [_, _, _], _ => rfl, ok_answer_spare F T G_bearable_takes⟩
  have G_answer_steady : FOk P w K mg base "answer_steady" 8 ["life", "wholes", "rows"] (sp_ans CL 13) := by
    obtain ⟨f, fd, m, F⟩ := E_answer_steady
    exact ⟨f, fd, m, F.kp, F.binds (ps := ["life", "wholes", "rows"]) fun _ _ _ _ _ _ us hl => match us, hl with | [_, _, _], _ => rfl, ok_answer_steady F T G_births_to_come G_ages_to_one_another⟩
  have G_Reader : COk P w K mg base "Reader" CR 1 ["self", "numbers"] (sp_ReaderInit K CR) := by
    obtain ⟨f, fd, M, F⟩ := E_Reader_init
    exact ⟨f, fd, mR, M, F.binds (ps := ["self", "numbers"]) fun _ _ _ _ _ _ us hl => match us, hl with | [_, _], _ => rfl, ok_Reader_init F T ⟩
  have M_at_end : MOk P w K mg base CR "at_end" 1 ["self"] (sp_R_at_end K CR) := by
    obtain ⟨f, fd, M, F⟩ := E_Reader_at_end
    exact ⟨f, fd, M, F.binds (ps := ["self"]) fun _ _ _ _ _ _ us hl => match us, hl with | [_], _ => rfl, ok_Reader_at_end F T ⟩
  have M_take : MOk P w K mg base CR "take" 1 ["self", "many"] (sp_R_take K CR) := by
    obtain ⟨f, fd, M, F⟩ := E_Reader_take
    exact ⟨f, fd, M, F.binds (ps := ["self", "many"]) fun _ _ _ _ _ _ us hl => match us, hl with | [_, _], _ => rfl, ok_Reader_take F T ⟩
  have M_take_one : MOk P w K mg base CR "take_one" 2 ["self"] (sp_R_take_one K CR) := by
    obtain ⟨f, fd, M, F⟩ := E_Reader_take_one
    exact ⟨f, fd, M, F.binds (ps := ["self"]) fun _ _ _ _ _ _ us hl => match us, hl with | [_], _ => rfl, ok_Reader_take_one F T M_take⟩
  have M_take_rows : MOk P w K mg base CR "take_rows" 3 ["self", "many"] (sp_R_take_rows K CR) := by
    obtain ⟨f, fd, M, F⟩ := E_Reader_take_rows
    exact ⟨f, fd, M, F.binds (ps := ["self", "many"]) fun _ _ _ _ _ _ us hl => match us, hl with | [_, _], _ => rfl, ok_Reader_take_rows F T M_take_one M_take⟩
  obtain ⟨TA, g1, g2, g3, g4, g5, g6, g7, g8, g9, g10, g11, g12, g13, g14, g15, g16, rfl, m1, m2, m3, m4, m5, m6, m7, m8, m9, m10, m11, m12, m13, m14, m15, m16⟩ := AE
  have G_tab : VOk P w K mg base 8 ["life", "wholes", "rows"] [(1, g1), (2, g2), (3, g3), (4, g4), (5, g5), (6, g6), (7, g7), (8, g8), (9, g9), (10, g10), (11, g11), (12, g12), (13, g13), (14, g14), (15, g15), (16, g16)] (sp_ans CL) := by
    refine ⟨fun n f hnf => ?_⟩
    rcases List.mem_cons.mp hnf with e | hnf
    · cases e
      exact G_answer_told.fn m1
    rcases List.mem_cons.mp hnf with e | hnf
    · cases e
      exact G_answer_after.fn m2
    rcases List.mem_cons.mp hnf with e | hnf
    · cases e
      exact G_answer_far.fn m3
    rcases List.mem_cons.mp hnf with e | hnf
    · cases e
      exact G_answer_net.fn m4
    rcases List.mem_cons.mp hnf with e | hnf
    · cases e
      exact G_answer_fate.fn m5
    rcases List.mem_cons.mp hnf with e | hnf
    · cases e
      exact G_answer_value.fn m6
    rcases List.mem_cons.mp hnf with e | hnf
    · cases e
      exact G_answer_worth.fn m7
    rcases List.mem_cons.mp hnf with e | hnf
    · cases e
      exact G_answer_years.fn m8
    rcases List.mem_cons.mp hnf with e | hnf
    · cases e
      exact G_answer_share.fn m9
    rcases List.mem_cons.mp hnf with e | hnf
    · cases e
      exact G_answer_leaned.fn m10
    rcases List.mem_cons.mp hnf with e | hnf
    · cases e
      exact G_answer_age.fn m11
    rcases List.mem_cons.mp hnf with e | hnf
    · cases e
      exact G_answer_spare.fn m12
    rcases List.mem_cons.mp hnf with e | hnf
    · cases e
      exact G_answer_steady.fn m13
    rcases List.mem_cons.mp hnf with e | hnf
    · cases e
      exact G_answer_rhythm.fn m14
    rcases List.mem_cons.mp hnf with e | hnf
    · cases e
      exact G_answer_births.fn m15
    rcases List.mem_cons.mp hnf with e | hnf
    · cases e
      exact G_answer_reached.fn m16
    cases hnf
  have hA : ∀ (n : Int) (s : Nat × Nat), PyVbecak.shape n = some s → n ≠ 0 → ∃ f, ([(1, g1), (2, g2), (3, g3), (4, g4), (5, g5), (6, g6), (7, g7), (8, g8), (9, g9), (10, g10), (11, g11), (12, g12), (13, g13), (14, g14), (15, g15), (16, g16)] : List (Int × Addr)).lookup n = some f := by
    intro n s h h0
    obtain ⟨x, y⟩ := s
    rcases shape_cases h with ⟨rfl, rfl, rfl⟩ | ⟨rfl, rfl, rfl⟩ | ⟨rfl, rfl, rfl⟩ | ⟨rfl, rfl, rfl⟩ | ⟨rfl, rfl, rfl⟩ | ⟨rfl, rfl, rfl⟩ | ⟨rfl, rfl, rfl⟩ | ⟨rfl, rfl, rfl⟩ | ⟨rfl, rfl, rfl⟩ | ⟨rfl, rfl, rfl⟩ | ⟨rfl, rfl, rfl⟩ | ⟨rfl, rfl, rfl⟩ | ⟨rfl, rfl, rfl⟩ | ⟨rfl, rfl, rfl⟩ | ⟨rfl, rfl, rfl⟩ | ⟨rfl, rfl, rfl⟩ | ⟨rfl, rfl, rfl⟩
    · exact absurd rfl h0
    · exact ⟨g1, rfl⟩
    · exact ⟨g2, rfl⟩
    · exact ⟨g3, rfl⟩
    · exact ⟨g4, rfl⟩
    · exact ⟨g5, rfl⟩
    · exact ⟨g6, rfl⟩
    · exact ⟨g7, rfl⟩
    · exact ⟨g8, rfl⟩
    · exact ⟨g9, rfl⟩
    · exact ⟨g10, rfl⟩
    · exact ⟨g11, rfl⟩
    · exact ⟨g12, rfl⟩
    · exact ⟨g13, rfl⟩
    · exact ⟨g14, rfl⟩
    · exact ⟨g15, rfl⟩
    · exact ⟨g16, rfl⟩
  have G_answer_by : FOk P w K mg base "answer_by" 9 ["life", "number", "wholes", "rows"] (sp_answer_by CL) := by
    obtain ⟨f, fd, m, F⟩ := E_answer_by
    exact ⟨f, fd, m, F.kp, F.binds (ps := ["life", "number", "wholes", "rows"]) fun _ _ _ _ _ _ us hl => match us, hl with | [_, _, _, _], _ => rfl, ok_answer_by F T G_tab TA hA⟩
  obtain ⟨tblS, TS, hS⟩ := SE
  exact ok_answers F T G_Reader G_Life M_at_end M_take_one M_take M_take_rows G_answer_life G_answer_by TS hS
end G

set_option Elab.async false
set_option linter.all false
/-! these names are taken so that the head lays no second copy of the greatest constants: the compiled file stays small -/
def PySem.W.Fast.tw2425387268209855908 : Nat := 0
def PySem.W.Fast.tw7925429247850718561 : Nat := 0
def PySem.W.Fast.tw11760138657529766275 : Nat := 0
def PySem.W.Fast.tw1024747774494737593 : Nat := 0
def PySem.W.Fast.tw6346719309168143459 : Nat := 0
def PySem.W.Fast.tw15185321239502615980 : Nat := 0
def PySem.W.Fast.tw2104158916297656892 : Nat := 0
def PySem.W.Fast.tw5095808578915655143 : Nat := 0
def PySem.W.Fast.tw5030588551182637954 : Nat := 0
def PySem.W.Fast.tw13871933386920681024 : Nat := 0
def PySem.W.Fast.tw6378334824360334306 : Nat := 0
open PySem PySem.W PyProof.Rows
set_option maxRecDepth 100000 in
set_option maxHeartbeats 0 in
theorem PySem.Challenge.cw_ageclasses_s01_answers_holds : PySem.Challenge.rw_ageclasses_s01_answers.Holds := by
  w_on; k_headS; (case hw => exact ⟨[.list [.int 1]], by decide +kernel, by decide +kernel⟩)
  k_fillS
  refine L2.walk_specK (r := PySem.Challenge.rw_ageclasses_s01_answers) (k := 10) (CX := L2.CX0) (ps := ["calls"]) (sp := G.sp_answers) (by decide +kernel) rfl rfl ⟨rfl, by decide, by decide⟩ (fun w h Y => PySem.W.kIn_of Y) ?F ?S (fun _ _ _ _ z => z)
  case F =>
    intro w mg fa h Y KX N hmg
    obtain ⟨CL, mL, clL, EL, l1, l2, l3, l4⟩ : ∃ C, mg "Life" = some (.ref C) ∧ L2.Cls (G.KOf KX) C ∧ G.InitE (G.KOf KX) C "Life.__init__" (L2.inClass (G.top 10) 0) ∧ L2.NoAttr (G.KOf KX) C "d" ∧ L2.NoAttr (G.KOf KX) C "births" ∧ L2.NoAttr (G.KOf KX) C "stays" ∧ L2.NoAttr (G.KOf KX) C "ages" := by
      dsimp only [G.KOf]
      refine' ⟨_, PySem.W.mg_of KX N ?a, G.cls_mk ?pg ?hd ?po ?sa, G.ie_mk ?b ?i ?l ?c ?k ?mk ?kc, ?n1, ?n2, ?n3, ?n4⟩
      (case a => k_is); (case pg => k_is); (case hd => k_is); (case po => k_is); (case sa => k_is); (case b => k_is); (case i => k_is); (case l => k_is); (case c => k_is); (case k => k_is); (case mk => k_is); (case kc => k_is)
      all_goals unfold L2.NoAttr
      (case n1 => k_is); (case n2 => k_is); (case n3 => k_is); (case n4 => k_is)
    obtain ⟨CR, mR, clR, ER, R_at_end, R_take, R_take_one, R_take_rows, q1, q2⟩ : ∃ C, mg "Reader" = some (.ref C) ∧ L2.Cls (G.KOf KX) C ∧ G.InitE (G.KOf KX) C "Reader.__init__" (L2.inClass (G.top 50) 0) ∧ G.MethE (G.KOf KX) C "at_end" "Reader.at_end" (L2.inClass (G.top 50) 1) ∧ G.MethE (G.KOf KX) C "take" "Reader.take" (L2.inClass (G.top 50) 2) ∧ G.MethE (G.KOf KX) C "take_one" "Reader.take_one" (L2.inClass (G.top 50) 3) ∧ G.MethE (G.KOf KX) C "take_rows" "Reader.take_rows" (L2.inClass (G.top 50) 4) ∧ L2.NoAttr (G.KOf KX) C "numbers" ∧ L2.NoAttr (G.KOf KX) C "place" := by
      dsimp only [G.KOf]
      refine' ⟨_, PySem.W.mg_of KX N ?a, G.cls_mk ?pg ?hd ?po ?sa, G.ie_mk ?b ?i ?l ?c ?k ?mk ?kc, G.me_mk ?b1 ?i1 ?l1 ?c1 ?k1, G.me_mk ?b2 ?i2 ?l2 ?c2 ?k2, G.me_mk ?b3 ?i3 ?l3 ?c3 ?k3, G.me_mk ?b4 ?i4 ?l4 ?c4 ?k4, ?n1, ?n2⟩
      (case a => k_is); (case pg => k_is); (case hd => k_is); (case po => k_is); (case sa => k_is); (case b => k_is); (case i => k_is); (case l => k_is); (case c => k_is); (case k => k_is); (case mk => k_is); (case kc => k_is)
      (case b1 => k_is); (case i1 => k_is); (case l1 => k_is); (case c1 => k_is); (case k1 => k_is)
      (case b2 => k_is); (case i2 => k_is); (case l2 => k_is); (case c2 => k_is); (case k2 => k_is)
      (case b3 => k_is); (case i3 => k_is); (case l3 => k_is); (case c3 => k_is); (case k3 => k_is)
      (case b4 => k_is); (case i4 => k_is); (case l4 => k_is); (case c4 => k_is); (case k4 => k_is)
      all_goals unfold L2.NoAttr
      (case n1 => k_is); (case n2 => k_is)
    have b_range : mg "range" = none := by
      refine' PySem.W.mg_none_of KX N ?a
      (case a => k_is)
    have b_len : mg "len" = none := by
      refine' PySem.W.mg_none_of KX N ?a
      (case a => k_is)
    have b_sum : mg "sum" = none := by
      refine' PySem.W.mg_none_of KX N ?a
      (case a => k_is)
    have b_max : mg "max" = none := by
      refine' PySem.W.mg_none_of KX N ?a
      (case a => k_is)
    have b_all : mg "all" = none := by
      refine' PySem.W.mg_none_of KX N ?a
      (case a => k_is)
    have b_list : mg "list" = none := by
      refine' PySem.W.mg_none_of KX N ?a
      (case a => k_is)
    have b_enumerate : mg "enumerate" = none := by
      refine' PySem.W.mg_none_of KX N ?a
      (case a => k_is)
    have b_zip : mg "zip" = none := by
      refine' PySem.W.mg_none_of KX N ?a
      (case a => k_is)
    have c_NO_LIFE : ∃ t, mg "NO_LIFE" = some (.int (-1) t) := by
      refine' G.cst_mk KX N ?a
      (case a => k_is)
    have c_WHOLE_OUT_OF_RANGE : ∃ t, mg "WHOLE_OUT_OF_RANGE" = some (.int (-3) t) := by
      refine' G.cst_mk KX N ?a
      (case a => k_is)
    have c_LIST_OUT_OF_RANGE : ∃ t, mg "LIST_OUT_OF_RANGE" = some (.int (-4) t) := by
      refine' G.cst_mk KX N ?a
      (case a => k_is)
    have c_TOO_GREAT : ∃ t, mg "TOO_GREAT" = some (.int (-5) t) := by
      refine' G.cst_mk KX N ?a
      (case a => k_is)
    have c_NET_UNFIT : ∃ t, mg "NET_UNFIT" = some (.int (-6) t) := by
      refine' G.cst_mk KX N ?a
      (case a => k_is)
    have c_MOST_PARTS : ∃ t, mg "MOST_PARTS" = some (.int (20) t) := by
      refine' G.cst_mk KX N ?a
      (case a => k_is)
    have c_MOST_AGES : ∃ t, mg "MOST_AGES" = some (.int (8) t) := by
      refine' G.cst_mk KX N ?a
      (case a => k_is)
    have c_MOST_BIRTHS : ∃ t, mg "MOST_BIRTHS" = some (.int (1000) t) := by
      refine' G.cst_mk KX N ?a
      (case a => k_is)
    have c_MOST_OF_AN_AGE : ∃ t, mg "MOST_OF_AN_AGE" = some (.int (10000) t) := by
      refine' G.cst_mk KX N ?a
      (case a => k_is)
    have c_MOST_YEARS : ∃ t, mg "MOST_YEARS" = some (.int (40) t) := by
      refine' G.cst_mk KX N ?a
      (case a => k_is)
    have c_MOST_FAR_YEARS : ∃ t, mg "MOST_FAR_YEARS" = some (.int (1000000000000000000) t) := by
      refine' G.cst_mk KX N ?a
      (case a => k_is)
    have c_MOST_DIVISOR : ∃ t, mg "MOST_DIVISOR" = some (.int (1000000000) t) := by
      refine' G.cst_mk KX N ?a
      (case a => k_is)
    have c_GREATEST_TOLD : ∃ t, mg "GREATEST_TOLD" = some (.int (1000000000000000000) t) := by
      refine' G.cst_mk KX N ?a
      (case a => k_is)
    have c_LIFE_CALL : ∃ t, mg "LIFE_CALL" = some (.int (0) t) := by
      refine' G.cst_mk KX N ?a
      (case a => k_is)
    have T : G.Tx (G.KOf KX) mg CL CR := ⟨clL, l1, l2, l3, l4, clR, q1, q2, b_range, b_len, b_sum, b_max, b_all, b_list, b_enumerate, b_zip, c_NO_LIFE, c_WHOLE_OUT_OF_RANGE, c_LIST_OUT_OF_RANGE, c_TOO_GREAT, c_NET_UNFIT, c_MOST_PARTS, c_MOST_AGES, c_MOST_BIRTHS, c_MOST_OF_AN_AGE, c_MOST_YEARS, c_MOST_FAR_YEARS, c_MOST_DIVISOR, c_GREATEST_TOLD, c_LIFE_CALL⟩
    have SE : G.ShE (G.KOf KX) mg := by
      dsimp only [G.KOf]
      refine' G.she_mk KX N ?a ?l ?t ?k0 ?u0 ?k1 ?u1 ?k2 ?u2 ?k3 ?u3 ?k4 ?u4 ?k5 ?u5 ?k6 ?u6 ?k7 ?u7 ?k8 ?u8 ?k9 ?u9 ?k10 ?u10 ?k11 ?u11 ?k12 ?u12 ?k13 ?u13 ?k14 ?u14 ?k15 ?u15 ?k16 ?u16
      (case a => k_is); (case l => k_is); (case t => exact ⟨_, _, ⟨rfl, rfl, rfl⟩, rfl, .cons rfl rfl (by decide +kernel) (.cons rfl rfl (by decide +kernel) (.cons rfl rfl (by decide +kernel) (.cons rfl rfl (by decide +kernel) (.cons rfl rfl (by decide +kernel) (.cons rfl rfl (by decide +kernel) (.cons rfl rfl (by decide +kernel) (.cons rfl rfl (by decide +kernel) (.cons rfl rfl (by decide +kernel) (.cons rfl rfl (by decide +kernel) (.cons rfl rfl (by decide +kernel) (.cons rfl rfl (by decide +kernel) (.cons rfl rfl (by decide +kernel) (.cons rfl rfl (by decide +kernel) (.cons rfl rfl (by decide +kernel) (.cons rfl rfl (by decide +kernel) (.cons rfl rfl (by decide +kernel) (.nil)))))))))))))))))⟩)
      (case k0 => k_is); (case u0 => exact ⟨_, _, rfl, rfl, by decide, .cons ⟨_, rfl⟩ (.cons ⟨_, rfl⟩ .nil)⟩)
      (case k1 => k_is); (case u1 => exact ⟨_, _, rfl, rfl, by decide, .cons ⟨_, rfl⟩ (.cons ⟨_, rfl⟩ .nil)⟩)
      (case k2 => k_is); (case u2 => exact ⟨_, _, rfl, rfl, by decide, .cons ⟨_, rfl⟩ (.cons ⟨_, rfl⟩ .nil)⟩)
      (case k3 => k_is); (case u3 => exact ⟨_, _, rfl, rfl, by decide, .cons ⟨_, rfl⟩ (.cons ⟨_, rfl⟩ .nil)⟩)
      (case k4 => k_is); (case u4 => exact ⟨_, _, rfl, rfl, by decide, .cons ⟨_, rfl⟩ (.cons ⟨_, rfl⟩ .nil)⟩)
      (case k5 => k_is); (case u5 => exact ⟨_, _, rfl, rfl, by decide, .cons ⟨_, rfl⟩ (.cons ⟨_, rfl⟩ .nil)⟩)
      (case k6 => k_is); (case u6 => exact ⟨_, _, rfl, rfl, by decide, .cons ⟨_, rfl⟩ (.cons ⟨_, rfl⟩ .nil)⟩)
      (case k7 => k_is); (case u7 => exact ⟨_, _, rfl, rfl, by decide, .cons ⟨_, rfl⟩ (.cons ⟨_, rfl⟩ .nil)⟩)
      (case k8 => k_is); (case u8 => exact ⟨_, _, rfl, rfl, by decide, .cons ⟨_, rfl⟩ (.cons ⟨_, rfl⟩ .nil)⟩)
      (case k9 => k_is); (case u9 => exact ⟨_, _, rfl, rfl, by decide, .cons ⟨_, rfl⟩ (.cons ⟨_, rfl⟩ .nil)⟩)
      (case k10 => k_is); (case u10 => exact ⟨_, _, rfl, rfl, by decide, .cons ⟨_, rfl⟩ (.cons ⟨_, rfl⟩ .nil)⟩)
      (case k11 => k_is); (case u11 => exact ⟨_, _, rfl, rfl, by decide, .cons ⟨_, rfl⟩ (.cons ⟨_, rfl⟩ .nil)⟩)
      (case k12 => k_is); (case u12 => exact ⟨_, _, rfl, rfl, by decide, .cons ⟨_, rfl⟩ (.cons ⟨_, rfl⟩ .nil)⟩)
      (case k13 => k_is); (case u13 => exact ⟨_, _, rfl, rfl, by decide, .cons ⟨_, rfl⟩ (.cons ⟨_, rfl⟩ .nil)⟩)
      (case k14 => k_is); (case u14 => exact ⟨_, _, rfl, rfl, by decide, .cons ⟨_, rfl⟩ (.cons ⟨_, rfl⟩ .nil)⟩)
      (case k15 => k_is); (case u15 => exact ⟨_, _, rfl, rfl, by decide, .cons ⟨_, rfl⟩ (.cons ⟨_, rfl⟩ .nil)⟩)
      (case k16 => k_is); (case u16 => exact ⟨_, _, rfl, rfl, by decide, .cons ⟨_, rfl⟩ (.cons ⟨_, rfl⟩ .nil)⟩)
    obtain ⟨tblA, AE⟩ : ∃ tblA, G.AnE (G.KOf KX) mg tblA := by
      dsimp only [G.KOf]
      refine' G.ane_mk KX N ?a ?l ?t ?b1 ?b2 ?b3 ?b4 ?b5 ?b6 ?b7 ?b8 ?b9 ?b10 ?b11 ?b12 ?b13 ?b14 ?b15 ?b16
      (case a => k_is); (case l => k_is); (case t => exact ⟨_, _, ⟨rfl, rfl, rfl⟩, rfl, .cons rfl rfl (by decide +kernel) (.cons rfl rfl (by decide +kernel) (.cons rfl rfl (by decide +kernel) (.cons rfl rfl (by decide +kernel) (.cons rfl rfl (by decide +kernel) (.cons rfl rfl (by decide +kernel) (.cons rfl rfl (by decide +kernel) (.cons rfl rfl (by decide +kernel) (.cons rfl rfl (by decide +kernel) (.cons rfl rfl (by decide +kernel) (.cons rfl rfl (by decide +kernel) (.cons rfl rfl (by decide +kernel) (.cons rfl rfl (by decide +kernel) (.cons rfl rfl (by decide +kernel) (.cons rfl rfl (by decide +kernel) (.cons rfl rfl (by decide +kernel) (.nil))))))))))))))))⟩)
      (case b1 => k_is); (case b2 => k_is); (case b3 => k_is); (case b4 => k_is); (case b5 => k_is); (case b6 => k_is); (case b7 => k_is); (case b8 => k_is); (case b9 => k_is); (case b10 => k_is); (case b11 => k_is); (case b12 => k_is); (case b13 => k_is); (case b14 => k_is); (case b15 => k_is); (case b16 => k_is)
    have E_common_divisor : G.FunE (G.KOf KX) mg "common_divisor" (G.top 1) := by
      dsimp only [G.KOf]
      refine' G.fe_mk KX N ?a ?l ?c ?k
      (case a => k_is); (case l => k_is); (case c => k_is); (case k => k_is)
    have E_common_divisor_of : G.FunE (G.KOf KX) mg "common_divisor_of" (G.top 2) := by
      dsimp only [G.KOf]
      refine' G.fe_mk KX N ?a ?l ?c ?k
      (case a => k_is); (case l => k_is); (case c => k_is); (case k => k_is)
    have E_power : G.FunE (G.KOf KX) mg "power" (G.top 3) := by
      dsimp only [G.KOf]
      refine' G.fe_mk KX N ?a ?l ?c ?k
      (case a => k_is); (case l => k_is); (case c => k_is); (case k => k_is)
    have E_fraction : G.FunE (G.KOf KX) mg "fraction" (G.top 4) := by
      dsimp only [G.KOf]
      refine' G.fe_mk KX N ?a ?l ?c ?k
      (case a => k_is); (case l => k_is); (case c => k_is); (case k => k_is)
    have E_plus : G.FunE (G.KOf KX) mg "plus" (G.top 5) := by
      dsimp only [G.KOf]
      refine' G.fe_mk KX N ?a ?l ?c ?k
      (case a => k_is); (case l => k_is); (case c => k_is); (case k => k_is)
    have E_times : G.FunE (G.KOf KX) mg "times" (G.top 6) := by
      dsimp only [G.KOf]
      refine' G.fe_mk KX N ?a ?l ?c ?k
      (case a => k_is); (case l => k_is); (case c => k_is); (case k => k_is)
    have E_over : G.FunE (G.KOf KX) mg "over" (G.top 7) := by
      dsimp only [G.KOf]
      refine' G.fe_mk KX N ?a ?l ?c ?k
      (case a => k_is); (case l => k_is); (case c => k_is); (case k => k_is)
    have E_added : G.FunE (G.KOf KX) mg "added" (G.top 8) := by
      dsimp only [G.KOf]
      refine' G.fe_mk KX N ?a ?l ?c ?k
      (case a => k_is); (case l => k_is); (case c => k_is); (case k => k_is)
    have E_share_reaching : G.FunE (G.KOf KX) mg "share_reaching" (G.top 11) := by
      dsimp only [G.KOf]
      refine' G.fe_mk KX N ?a ?l ?c ?k
      (case a => k_is); (case l => k_is); (case c => k_is); (case k => k_is)
    have E_years_to_live : G.FunE (G.KOf KX) mg "years_to_live" (G.top 12) := by
      dsimp only [G.KOf]
      refine' G.fe_mk KX N ?a ?l ?c ?k
      (case a => k_is); (case l => k_is); (case c => k_is); (case k => k_is)
    have E_births_to_come : G.FunE (G.KOf KX) mg "births_to_come" (G.top 13) := by
      dsimp only [G.KOf]
      refine' G.fe_mk KX N ?a ?l ?c ?k
      (case a => k_is); (case l => k_is); (case c => k_is); (case k => k_is)
    have E_herd_births_to_come : G.FunE (G.KOf KX) mg "herd_births_to_come" (G.top 14) := by
      dsimp only [G.KOf]
      refine' G.fe_mk KX N ?a ?l ?c ?k
      (case a => k_is); (case l => k_is); (case c => k_is); (case k => k_is)
    have E_share_of_births : G.FunE (G.KOf KX) mg "share_of_births" (G.top 16) := by
      dsimp only [G.KOf]
      refine' G.fe_mk KX N ?a ?l ?c ?k
      (case a => k_is); (case l => k_is); (case c => k_is); (case k => k_is)
    have E_shares_above : G.FunE (G.KOf KX) mg "shares_above" (G.top 17) := by
      dsimp only [G.KOf]
      refine' G.fe_mk KX N ?a ?l ?c ?k
      (case a => k_is); (case l => k_is); (case c => k_is); (case k => k_is)
    have E_mean_age_at_births : G.FunE (G.KOf KX) mg "mean_age_at_births" (G.top 18) := by
      dsimp only [G.KOf]
      refine' G.fe_mk KX N ?a ?l ?c ?k
      (case a => k_is); (case l => k_is); (case c => k_is); (case k => k_is)
    have E_lessened : G.FunE (G.KOf KX) mg "lessened" (G.top 19) := by
      dsimp only [G.KOf]
      refine' G.fe_mk KX N ?a ?l ?c ?k
      (case a => k_is); (case l => k_is); (case c => k_is); (case k => k_is)
    have E_lasts : G.FunE (G.KOf KX) mg "lasts" (G.top 20) := by
      dsimp only [G.KOf]
      refine' G.fe_mk KX N ?a ?l ?c ?k
      (case a => k_is); (case l => k_is); (case c => k_is); (case k => k_is)
    have E_bearable_takes : G.FunE (G.KOf KX) mg "bearable_takes" (G.top 21) := by
      dsimp only [G.KOf]
      refine' G.fe_mk KX N ?a ?l ?c ?k
      (case a => k_is); (case l => k_is); (case c => k_is); (case k => k_is)
    have E_ages_to_one_another : G.FunE (G.KOf KX) mg "ages_to_one_another" (G.top 22) := by
      dsimp only [G.KOf]
      refine' G.fe_mk KX N ?a ?l ?c ?k
      (case a => k_is); (case l => k_is); (case c => k_is); (case k => k_is)
    have E_bears : G.FunE (G.KOf KX) mg "bears" (G.top 23) := by
      dsimp only [G.KOf]
      refine' G.fe_mk KX N ?a ?l ?c ?k
      (case a => k_is); (case l => k_is); (case c => k_is); (case k => k_is)
    have E_births_rhythm : G.FunE (G.KOf KX) mg "births_rhythm" (G.top 24) := by
      dsimp only [G.KOf]
      refine' G.fe_mk KX N ?a ?l ?c ?k
      (case a => k_is); (case l => k_is); (case c => k_is); (case k => k_is)
    have E_year_table : G.FunE (G.KOf KX) mg "year_table" (G.top 26) := by
      dsimp only [G.KOf]
      refine' G.fe_mk KX N ?a ?l ?c ?k
      (case a => k_is); (case l => k_is); (case c => k_is); (case k => k_is)
    have E_row_times : G.FunE (G.KOf KX) mg "row_times" (G.top 27) := by
      dsimp only [G.KOf]
      refine' G.fe_mk KX N ?a ?l ?c ?k
      (case a => k_is); (case l => k_is); (case c => k_is); (case k => k_is)
    have E_table_times : G.FunE (G.KOf KX) mg "table_times" (G.top 28) := by
      dsimp only [G.KOf]
      refine' G.fe_mk KX N ?a ?l ?c ?k
      (case a => k_is); (case l => k_is); (case c => k_is); (case k => k_is)
    have E_rests : G.FunE (G.KOf KX) mg "rests" (G.top 29) := by
      dsimp only [G.KOf]
      refine' G.fe_mk KX N ?a ?l ?c ?k
      (case a => k_is); (case l => k_is); (case c => k_is); (case k => k_is)
    have E_column : G.FunE (G.KOf KX) mg "column" (G.top 30) := by
      dsimp only [G.KOf]
      refine' G.fe_mk KX N ?a ?l ?c ?k
      (case a => k_is); (case l => k_is); (case c => k_is); (case k => k_is)
    have E_squared : G.FunE (G.KOf KX) mg "squared" (G.top 31) := by
      dsimp only [G.KOf]
      refine' G.fe_mk KX N ?a ?l ?c ?k
      (case a => k_is); (case l => k_is); (case c => k_is); (case k => k_is)
    have E_numbers_after : G.FunE (G.KOf KX) mg "numbers_after" (G.top 32) := by
      dsimp only [G.KOf]
      refine' G.fe_mk KX N ?a ?l ?c ?k
      (case a => k_is); (case l => k_is); (case c => k_is); (case k => k_is)
    have E_rests_after : G.FunE (G.KOf KX) mg "rests_after" (G.top 33) := by
      dsimp only [G.KOf]
      refine' G.fe_mk KX N ?a ?l ?c ?k
      (case a => k_is); (case l => k_is); (case c => k_is); (case k => k_is)
    have E_newborn_after : G.FunE (G.KOf KX) mg "newborn_after" (G.top 34) := by
      dsimp only [G.KOf]
      refine' G.fe_mk KX N ?a ?l ?c ?k
      (case a => k_is); (case l => k_is); (case c => k_is); (case k => k_is)
    have E_within : G.FunE (G.KOf KX) mg "within" (G.top 51) := by
      dsimp only [G.KOf]
      refine' G.fe_mk KX N ?a ?l ?c ?k
      (case a => k_is); (case l => k_is); (case c => k_is); (case k => k_is)
    have E_all_within : G.FunE (G.KOf KX) mg "all_within" (G.top 52) := by
      dsimp only [G.KOf]
      refine' G.fe_mk KX N ?a ?l ?c ?k
      (case a => k_is); (case l => k_is); (case c => k_is); (case k => k_is)
    have E_is_herd : G.FunE (G.KOf KX) mg "is_herd" (G.top 53) := by
      dsimp only [G.KOf]
      refine' G.fe_mk KX N ?a ?l ?c ?k
      (case a => k_is); (case l => k_is); (case c => k_is); (case k => k_is)
    have E_answer_life : G.FunE (G.KOf KX) mg "answer_life" (G.top 54) := by
      dsimp only [G.KOf]
      refine' G.fe_mk KX N ?a ?l ?c ?k
      (case a => k_is); (case l => k_is); (case c => k_is); (case k => k_is)
    have E_fate_of : G.FunE (G.KOf KX) mg "fate_of" (G.top 59) := by
      dsimp only [G.KOf]
      refine' G.fe_mk KX N ?a ?l ?c ?k
      (case a => k_is); (case l => k_is); (case c => k_is); (case k => k_is)
    have E_no_births_to_come : G.FunE (G.KOf KX) mg "no_births_to_come" (G.top 64) := by
      dsimp only [G.KOf]
      refine' G.fe_mk KX N ?a ?l ?c ?k
      (case a => k_is); (case l => k_is); (case c => k_is); (case k => k_is)
    have E_answer_told : G.FunE (G.KOf KX) mg "answer_told" (G.top 55) := by
      dsimp only [G.KOf]
      refine' G.fe_mk KX N ?a ?l ?c ?k
      (case a => k_is); (case l => k_is); (case c => k_is); (case k => k_is)
    have E_answer_net : G.FunE (G.KOf KX) mg "answer_net" (G.top 58) := by
      dsimp only [G.KOf]
      refine' G.fe_mk KX N ?a ?l ?c ?k
      (case a => k_is); (case l => k_is); (case c => k_is); (case k => k_is)
    have E_answer_years : G.FunE (G.KOf KX) mg "answer_years" (G.top 63) := by
      dsimp only [G.KOf]
      refine' G.fe_mk KX N ?a ?l ?c ?k
      (case a => k_is); (case l => k_is); (case c => k_is); (case k => k_is)
    have E_answer_value : G.FunE (G.KOf KX) mg "answer_value" (G.top 61) := by
      dsimp only [G.KOf]
      refine' G.fe_mk KX N ?a ?l ?c ?k
      (case a => k_is); (case l => k_is); (case c => k_is); (case k => k_is)
    have E_answer_reached : G.FunE (G.KOf KX) mg "answer_reached" (G.top 72) := by
      dsimp only [G.KOf]
      refine' G.fe_mk KX N ?a ?l ?c ?k
      (case a => k_is); (case l => k_is); (case c => k_is); (case k => k_is)
    have E_answer_share : G.FunE (G.KOf KX) mg "answer_share" (G.top 65) := by
      dsimp only [G.KOf]
      refine' G.fe_mk KX N ?a ?l ?c ?k
      (case a => k_is); (case l => k_is); (case c => k_is); (case k => k_is)
    have E_answer_leaned : G.FunE (G.KOf KX) mg "answer_leaned" (G.top 66) := by
      dsimp only [G.KOf]
      refine' G.fe_mk KX N ?a ?l ?c ?k
      (case a => k_is); (case l => k_is); (case c => k_is); (case k => k_is)
    have E_answer_age : G.FunE (G.KOf KX) mg "answer_age" (G.top 67) := by
      dsimp only [G.KOf]
      refine' G.fe_mk KX N ?a ?l ?c ?k
      (case a => k_is); (case l => k_is); (case c => k_is); (case k => k_is)
    have E_answer_rhythm : G.FunE (G.KOf KX) mg "answer_rhythm" (G.top 70) := by
      dsimp only [G.KOf]
      refine' G.fe_mk KX N ?a ?l ?c ?k
      (case a => k_is); (case l => k_is); (case c => k_is); (case k => k_is)
    have E_answer_fate : G.FunE (G.KOf KX) mg "answer_fate" (G.top 60) := by
      dsimp only [G.KOf]
      refine' G.fe_mk KX N ?a ?l ?c ?k
      (case a => k_is); (case l => k_is); (case c => k_is); (case k => k_is)
    have E_answer_worth : G.FunE (G.KOf KX) mg "answer_worth" (G.top 62) := by
      dsimp only [G.KOf]
      refine' G.fe_mk KX N ?a ?l ?c ?k
      (case a => k_is); (case l => k_is); (case c => k_is); (case k => k_is)
    have E_answer_far : G.FunE (G.KOf KX) mg "answer_far" (G.top 57) := by
      dsimp only [G.KOf]
      refine' G.fe_mk KX N ?a ?l ?c ?k
      (case a => k_is); (case l => k_is); (case c => k_is); (case k => k_is)
    have E_answer_after : G.FunE (G.KOf KX) mg "answer_after" (G.top 56) := by
      dsimp only [G.KOf]
      refine' G.fe_mk KX N ?a ?l ?c ?k
      (case a => k_is); (case l => k_is); (case c => k_is); (case k => k_is)
    have E_answer_births : G.FunE (G.KOf KX) mg "answer_births" (G.top 71) := by
      dsimp only [G.KOf]
      refine' G.fe_mk KX N ?a ?l ?c ?k
      (case a => k_is); (case l => k_is); (case c => k_is); (case k => k_is)
    have E_answer_spare : G.FunE (G.KOf KX) mg "answer_spare" (G.top 68) := by
      dsimp only [G.KOf]
      refine' G.fe_mk KX N ?a ?l ?c ?k
      (case a => k_is); (case l => k_is); (case c => k_is); (case k => k_is)
    have E_answer_steady : G.FunE (G.KOf KX) mg "answer_steady" (G.top 69) := by
      dsimp only [G.KOf]
      refine' G.fe_mk KX N ?a ?l ?c ?k
      (case a => k_is); (case l => k_is); (case c => k_is); (case k => k_is)
    have E_answer_by : G.FunE (G.KOf KX) mg "answer_by" (G.top 75) := by
      dsimp only [G.KOf]
      refine' G.fe_mk KX N ?a ?l ?c ?k
      (case a => k_is); (case l => k_is); (case c => k_is); (case k => k_is)
    have E_answers : G.FunE (G.KOf KX) mg "answers" (G.top 76) := by
      dsimp only [G.KOf]
      refine' G.fe_mk KX N ?a ?l ?c ?k
      (case a => k_is); (case l => k_is); (case c => k_is); (case k => k_is)
    obtain ⟨f, fd, m, F⟩ := E_answers
    have e := hmg.symm.trans m
    cases e
    have F0 := F
    obtain ⟨oc, od, kV, doc, pm, an, cdv, ct, osl, rfl, lk, hcd⟩ := F.ex
    exact ⟨_, fun s us hu => match us, hu with | [_], _ => .of_eq rfl, fun base _ _ => G.asm T mL mR SE AE E_common_divisor E_common_divisor_of E_power E_fraction E_plus E_times E_over E_added EL E_share_reaching E_years_to_live E_births_to_come E_herd_births_to_come E_share_of_births E_shares_above E_mean_age_at_births E_lessened E_lasts E_bearable_takes E_ages_to_one_another E_bears E_births_rhythm E_year_table E_row_times E_table_times E_rests E_column E_squared E_numbers_after E_rests_after E_newborn_after E_within E_all_within E_is_herd E_answer_life E_fate_of E_no_births_to_come E_answer_told E_answer_net E_answer_years E_answer_value E_answer_reached E_answer_share E_answer_leaned E_answer_age E_answer_rhythm E_answer_fate E_answer_worth E_answer_far E_answer_after E_answer_births E_answer_spare E_answer_steady ER R_at_end R_take R_take_one R_take_rows E_answer_by F0⟩
  case S =>
    intro K H xs a hO hwi hask hx
    cases hx with
    | cons h1 h2 =>
      cases h2
      cases h1 with
      | lst hs ha =>
        have e := L2.ints_dw a.1 _ ha
        subst e
        exact ⟨_, a.1, rfl, hs, hask, fun H' p hp => .lst (L2.SqL.of hp) (L2.dw_ints _)⟩
#print axioms PySem.Challenge.cw_ageclasses_s01_answers_holds

