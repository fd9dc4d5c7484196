import PyProof.Rows.All
import Wide.All
import OpenK.AllK
import Wide.FinOn
import Lean
import PyProof.EqAt
import PyProof.EqKinds
import PyProof.TupleCall
import PySem.Challenge.RW_dialvault_k14_whole_pulls_add
set_option genSizeOfSpec false
set_option Elab.async false
set_option linter.all false
set_option maxRecDepth 100000
namespace L2
open PySem PySem.Spec PyProof.Rows
abbrev Key := Sum Int Str
def keyIs : Key → Value → Bool
  | .inl k, v => Value.isInt k v
  | .inr x, v => Value.isStrOf x v
def keyH (w : World) : Key → Int
  | .inl k => hashInt k
  | .inr x => hashStr w x
theorem keyIs_shape : ∀ {k : Key} {v : Value}, keyIs k v = true → (∃ i t, k = Sum.inl i ∧ v = Value.int i t) ∨ (∃ x t, k = Sum.inr x ∧ v = Value.str x t)
  | .inl i, v, h => by
    obtain ⟨t, e⟩ := Value.isInt_shape (k := i) (v := v) h
    exact .inl ⟨i, t, rfl, e⟩
  | .inr x, v, h => by
    obtain ⟨t, e⟩ := Value.isStrOf_shape (x := x) (v := v) h
    exact .inr ⟨x, t, rfl, e⟩
theorem key_ll (a b : Int) : decide ((Sum.inl a : Key) = Sum.inl b) = (a == b) := by
  by_cases e : a = b
  · subst e; simp
  · have h : ¬ (Sum.inl a : Key) = Sum.inl b := fun q => e (Sum.inl.inj q)
    rw [decide_eq_false h]
    exact (beq_eq_false_iff_ne.mpr e).symm
theorem key_rr (a b : Str) : decide ((Sum.inr a : Key) = Sum.inr b) = decide (a = b) := by
  by_cases e : a = b
  · subst e; simp
  · have h : ¬ (Sum.inr a : Key) = Sum.inr b := fun q => e (Sum.inr.inj q)
    rw [decide_eq_false h, decide_eq_false e]
theorem key_lr (a : Int) (b : Str) : decide ((Sum.inl a : Key) = Sum.inr b) = false := decide_eq_false (fun q => nomatch q)
theorem key_rl (a : Str) (b : Int) : decide ((Sum.inr a : Key) = Sum.inl b) = false := decide_eq_false (fun q => nomatch q)
def mixKind (prog : Program) (w : World) : PySem.KeyKind prog w Key where
  is := keyIs
  hash := keyH w
  inj := fun v a b ha hb => by
    rcases keyIs_shape ha with ⟨i, t, rfl, rfl⟩ | ⟨x, t, rfl, rfl⟩
    · rcases keyIs_shape hb with ⟨j, u, rfl, e⟩ | ⟨y, u, rfl, e⟩
      · injection e with e1 _; rw [e1]
      · exact nomatch e
    · rcases keyIs_shape hb with ⟨j, u, rfl, e⟩ | ⟨y, u, rfl, e⟩
      · exact nomatch e
      · injection e with e1 _; rw [e1]
  byValue := fun k v h => by
    rcases keyIs_shape h with ⟨i, t, rfl, rfl⟩ | ⟨x, t, rfl, rfl⟩ <;> rfl
  pyHash := fun hv h => by
    rcases keyIs_shape hv with ⟨i, t, rfl, rfl⟩ | ⟨x, t, rfl, rfl⟩
    · exact wpAny_pyHash_int h
    · exact wpAny_pyHash_str h
  eqBool := fun hu hv h => by
    rcases keyIs_shape hu with ⟨i, t, rfl, rfl⟩ | ⟨x, t, rfl, rfl⟩
    · rcases keyIs_shape hv with ⟨j, u, rfl, rfl⟩ | ⟨y, u, rfl, rfl⟩
      · rw [key_ll] at h; exact wpAny_eqBool_int h
      · rw [key_lr] at h; exact SeqAt.EqAt.int_str i t y u _ _ _ _ h
    · rcases keyIs_shape hv with ⟨j, u, rfl, rfl⟩ | ⟨y, u, rfl, rfl⟩
      · rw [key_rl] at h; exact SeqAt.EqAt.str_int x t j u _ _ _ _ h
      · rw [key_rr] at h; exact wpAny_eqBool_str h
  «strs» := fun k x t v h => by
    rcases keyIs_shape h with ⟨i, u, rfl, e⟩ | ⟨y, u, rfl, e⟩
    · exact nomatch e
    · injection e with e1 _
      subst e1
      cases v <;> rfl
end L2
namespace L2
open PySem PySem.Spec PyProof.Rows
inductive V where
  | non | bl (b : Bool) | int (i : Int) | str (x : Str) | byt (b : Array UInt8) | flt (b : UInt64) | ref (a : Addr) | ty (n : String)
  deriving DecidableEq
def RelV : V → Value → Prop
  | .non, u => u = Value.none
  | .bl b, u => u = Value.bool b
  | .int i, u => ∃ t, u = Value.int i t
  | .str x, u => ∃ t, u = Value.str x t
  | .byt b, u => ∃ t, u = Value.bytes b t
  | .flt b, u => ∃ t, u = Value.float b t
  | .ref a, u => u = Value.ref a
  | .ty n, u => u = Value.type n
abbrev Vals : List V → List Value → Prop := Paired RelV
theorem Vals.length {xs : List V} {us : List Value} (r : Vals xs us) : xs.length = us.length := Paired.length r
theorem Vals.get {xs : List V} {us : List Value} {i : Nat} {x : V} (h : Vals xs us) (e : xs[i]? = some x) : ∃ u, us[i]? = some u ∧ RelV x u := by
  induction h generalizing i with
  | nil => rw [List.getElem?_nil] at e; cases e
  | cons r _ ih =>
    cases i with
    | zero => cases e; exact ⟨_, rfl, r⟩
    | succ i => exact ih e
theorem Vals.set {x : V} {u : Value} (r : RelV x u) {xs : List V} {us : List Value} (i : Nat) (h : Vals xs us) : Vals (xs.set i x) (us.set i u) := by
  induction h generalizing i with
  | nil => exact .nil
  | cons q t ih =>
    cases i with
    | zero => exact .cons r t
    | succ i => exact .cons q (ih i)
theorem Vals.append {xs ys : List V} {us ws : List Value} (h : Vals xs us) (s : Vals ys ws) : Vals (xs ++ ys) (us ++ ws) := by
  induction h with
  | nil => exact s
  | cons r t ih => exact .cons r ih
theorem Vals.take {xs : List V} {us : List Value} (n : Nat) (h : Vals xs us) : Vals (xs.take n) (us.take n) := by
  induction h generalizing n with
  | nil => rw [List.take_nil, List.take_nil]; exact .nil
  | cons r t ih =>
    cases n with
    | zero => exact .nil
    | succ n => exact .cons r (ih n)
theorem Vals.drop {xs : List V} {us : List Value} (n : Nat) (h : Vals xs us) : Vals (xs.drop n) (us.drop n) := by
  induction h generalizing n with
  | nil => rw [List.drop_nil, List.drop_nil]; exact .nil
  | cons r t ih =>
    cases n with
    | zero => exact .cons r t
    | succ n => exact ih n
def RelO : Option V → Option Value → Prop
  | some v, some u => RelV v u
  | none, none => True
  | _, _ => False
def KV {κ : Type} : List (κ × V) → List (κ × Value) → Prop := Paired fun (p : κ × V) (q : κ × Value) => p.1 = q.1 ∧ RelV p.2 q.2
def kV : Key → V
  | .inl i => .int i
  | .inr x => .str x
inductive HO where
  /-- a list -/
  | lst (xs : List V)
  /-- a tuple (never changes) -/
  | tup (xs : List V)
  /-- a dict whose keys are ints and texts; one whose keys are tuples of ints and texts (the empty one is both) -/
  | dK (kvs : List (Key × V)) | dT (kvs : List (List Key × V))
  /-- a set of ints: its members, its size -/
  | set (S : Int → Bool) (n : Nat)
  /-- an instance of the class at C, its dict at dx, its attributes -/
  | ins (C dx : Addr) (fs : List (Str × V))
  /-- the dict of the instance at x -/
  | own (x : Addr)
  /-- the dict of an exception -/
  | xd (fs : List (Str × V))
  /-- a bound method, f of x -/
  | met (f x : Addr)
  /-- a range object lo, lo + 1, .. below hi -/
  | rng (lo hi : Int)
  /-- a thing that is known to the object (the script; a dict while a loop walks it): read, never written while it is so -/
  | frz (o : Obj) (u : HO)
  /-- a code object's table -/
  | tbl (ps : Array Value)
  /-- any other thing, by what is true of its one object (a def of one's own: SetO a S n := HO.ext fun h => ..) -/
  | ext (φ : Heap → Prop)
abbrev Hp := Addr → Option HO
def upd (H : Hp) (a : Addr) (o : HO) : Hp := fun b => if b = a then some o else H b
theorem upd_same {H : Hp} {a : Addr} {o : HO} : upd H a o a = some o := by unfold upd; rw [if_pos rfl]
theorem upd_ne {H : Hp} {a b : Addr} {o : HO} (h : b ≠ a) : upd H a o b = H b := by unfold upd; rw [if_neg h]
theorem ne_of {H : Hp} {a b : Addr} {o u : HO} (h : H a = some o) (h' : H b = some u) (d : o ≠ u) : a ≠ b := by
  intro e; subst e; rw [h] at h'; exact d (Option.some.inj h')
theorem ne_of_none {H : Hp} {a b : Addr} {o : HO} (h : H a = some o) (h' : H b = none) : a ≠ b := by
  intro e; subst e; rw [h] at h'; cases h'
section
variable (P : Program) (w : World)
def ObjOk (H : Hp) (h : Heap) (a : Addr) : HO → Prop
  | .lst xs => xs.length ≤ sizeLine ∧ ∃ (its : List Value) (n : Nat), Vals xs its ∧ h.get? a = some { cls := .type "list", data := .seq its.toArray n }
  | .tup xs => xs.length ≤ sizeLine ∧ ∃ its : List Value, Vals xs its ∧ IsTup h a its.toArray
  | .dK kvs => kvs.length ≤ sizeLine ∧ (a == sysModules) = false ∧ ∃ vs, KV kvs vs ∧ h.DictOf (mixKind P w) a vs
  | .dT kvs => kvs.length ≤ sizeLine ∧ (a == sysModules) = false ∧ ∃ xs : List (List Key × Addr × Value),
      Paired (fun (p : List Key × V) (q : List Key × Addr × Value) => p.1 = q.1 ∧ H q.2.1 = some (.tup (p.1.map kV)) ∧ RelV p.2 q.2.2) kvs xs ∧
      ∃ o es ep, h.get? a = some o ∧ o.ExactDict ∧ o.data = .dict es ep ∧ es.toList = xs.map (entryOfKey (tupleKind (mixKind P w))) ∧ (xs.map (·.1)).Nodup
  | .set S n => h.SetOf (intKind P w) a S n
  | .ins C dx fs => H dx = some (.own a) ∧ fs.length ≤ 1000 ∧ dx ≠ a ∧ h.get? a = some (PySem.W.instObj C dx) ∧
      ∃ mA, h.Ns1 dx mA ∧ (∀ f, RelO (fs.lookup f) (mA f)) ∧ PySem.Within mA (fs.map (·.1))
  | .own _ => ∃ o, h.get? a = some o
  | .xd fs => ∃ mA, h.Ns1 a mA ∧ ∀ f, RelO (fs.lookup f) (mA f)
  | .rng lo hi => ∃ t u v, h.get? a = some { cls := .type "range", data := .fields #[.int lo t, .int hi u, .int 1 v] }
  | .frz o u => h.get? a = some o ∧ ObjOk H h a u
  | .tbl ps => h.get? a = some { cls := .none, data := .fields ps }
  | .met f x => h.get? a = some (PySem.W.methodObj (.ref f) (.ref x))
  | .ext φ => φ h ∧ (∃ o, h.get? a = some o) ∧ ∀ h1 h2 : Heap, φ h1 → (∀ o, h1.get? a = some o → h2.get? a = some o) → φ h2
def HOk (H : Hp) (h : Heap) : Prop := ∀ a o, H a = some o → ObjOk P w H h a o
end
section
variable {P : Program} {w : World} {H H' : Hp} {h h' : Heap} {a : Addr} {o : HO}
theorem ObjOk.lt (x : ObjOk P w H h a o) : a < h.objs.size := by
  cases o with
  | lst xs => obtain ⟨_, _, _, _, e⟩ := x; exact Heap.lt_size e
  | tup xs => obtain ⟨_, _, _, p⟩ := x; exact p.lt
  | dK kvs => obtain ⟨_, _, _, _, o, _, _, e, _⟩ := x; exact Heap.lt_size e
  | dT kvs => obtain ⟨_, _, _, _, o, _, _, e, _⟩ := x; exact Heap.lt_size e
  | set S n => obtain ⟨o, _, _, _, e, _⟩ := x; exact Heap.lt_size e
  | ins C dx fs => obtain ⟨_, _, _, e, _⟩ := x; exact Heap.lt_size e
  | own y => obtain ⟨_, e⟩ := x; exact Heap.lt_size e
  | xd fs => obtain ⟨_, ⟨_, _, _, e, _⟩, _⟩ := x; exact Heap.lt_size e
  | rng lo hi => obtain ⟨_, _, _, e⟩ := x; exact Heap.lt_size e
  | frz ob u => obtain ⟨e, _⟩ := x; exact Heap.lt_size e
  | tbl ps => exact Heap.lt_size (show h.get? a = some _ from x)
  | met f y => exact Heap.lt_size (show h.get? a = some _ from x)
  | ext φ => obtain ⟨_, ⟨_, e⟩, _⟩ := x; exact Heap.lt_size e
theorem Paired.mapP {α β : Type} {F G : α → β → Prop} {l₁ : List α} {l₂ : List β} (h : Paired F l₁ l₂) (f : ∀ a b, F a b → G a b) : Paired G l₁ l₂ := by
  induction h with
  | nil => exact .nil
  | cons r t ih => exact .cons (f _ _ r) ih
theorem ObjOk.stay (x : ObjOk P w H h a o) (k : ∀ b u, (b = a ∨ H b = some (.own a)) → h.get? b = some u → h'.get? b = some u)
    (ho : ∀ b, H b = some (.own a) → H' b = some (.own a)) (ht : ∀ b xs, H b = some (.tup xs) → H' b = some (.tup xs)) : ObjOk P w H' h' a o := by
  induction o with
  | lst xs => obtain ⟨z, its, n, r, e⟩ := x; exact ⟨z, its, n, r, k _ _ (.inl rfl) e⟩
  | tup xs => obtain ⟨z, its, r, ob, e, c⟩ := x; exact ⟨z, its, r, ob, k _ _ (.inl rfl) e, c⟩
  | dK kvs => obtain ⟨z, y, vs, r, ob, es, ep, e, c⟩ := x; exact ⟨z, y, vs, r, ob, es, ep, k _ _ (.inl rfl) e, c⟩
  | dT kvs =>
    obtain ⟨z, y, xs, r, ob, es, ep, e, c⟩ := x
    exact ⟨z, y, xs, Paired.mapP r fun p q z => ⟨z.1, ht _ _ z.2.1, z.2.2⟩, ob, es, ep, k _ _ (.inl rfl) e, c⟩
  | set S n => obtain ⟨ob, es, ep, t, e, c⟩ := x; exact ⟨ob, es, ep, t, k _ _ (.inl rfl) e, c⟩
  | ins C dx fs =>
    obtain ⟨d, z, ne, e, mA, ⟨od, es, ep, e2, c⟩, r⟩ := x
    exact ⟨ho _ d, z, ne, k _ _ (.inl rfl) e, mA, ⟨od, es, ep, k _ _ (.inr d) e2, c⟩, r⟩
  | own y => obtain ⟨ob, e⟩ := x; exact ⟨ob, k _ _ (.inl rfl) e⟩
  | xd fs => obtain ⟨mA, ⟨od, es, ep, e, c⟩, r⟩ := x; exact ⟨mA, ⟨od, es, ep, k _ _ (.inl rfl) e, c⟩, r⟩
  | rng lo hi => obtain ⟨t, u, v, e⟩ := x; exact ⟨t, u, v, k _ _ (.inl rfl) e⟩
  | frz ob u ih => obtain ⟨e, q⟩ := x; exact ⟨k _ _ (.inl rfl) e, ih q⟩
  | tbl ps =>
    have e : h.get? a = some { cls := .none, data := .fields ps } := x
    show h'.get? a = some { cls := .none, data := .fields ps }
    exact k a _ (.inl rfl) e
  | met f y =>
    have e : h.get? a = some (PySem.W.methodObj (.ref f) (.ref y)) := x
    show h'.get? a = some (PySem.W.methodObj (.ref f) (.ref y))
    exact k a _ (.inl rfl) e
  | ext φ => obtain ⟨p, ⟨o, e⟩, st⟩ := x; exact ⟨st _ _ p fun o q => k _ _ (.inl rfl) q, ⟨o, k _ _ (.inl rfl) e⟩, st⟩
theorem HOk.lt (x : HOk P w H h) (e : H a = some o) : a < h.objs.size := (x a o e).lt
theorem HOk.fresh (x : HOk P w H h) (e : h.objs.size ≤ a) : H a = none := by
  cases q : H a with
  | none => rfl
  | some u => exact absurd (Nat.lt_of_lt_of_le (x.lt q) e) (Nat.lt_irrefl _)
theorem HOk.kept (x : HOk P w H h) (k : ∀ b u, h.get? b = some u → h'.get? b = some u) : HOk P w H h' := fun a o e =>
  (x a o e).stay (fun b u _ q => k b u q) (fun _ q => q) fun _ _ q => q
theorem HOk.laid (x : HOk P w H h) (k : ∀ b u, h.get? b = some u → h'.get? b = some u) (hp : h.objs.size ≤ a) (new : ObjOk P w (upd H a o) h' a o) : HOk P w (upd H a o) h' := fun b u e => by
  have hn := x.fresh hp
  by_cases hb : b = a
  · subst hb; rw [upd_same] at e; cases e; exact new
  · rw [upd_ne hb] at e
    exact (x b u e).stay (fun c v _ q => k c v q) (fun c q => by rw [upd_ne (ne_of_none q hn)]; exact q) fun c xs q => by rw [upd_ne (ne_of_none q hn)]; exact q
end
def Rd (H : Hp) (a : Addr) (u : HO) : Prop := H a = some u ∨ ∃ o, H a = some (.frz o u)
theorem Rd.ok {P : Program} {w : World} {H : Hp} {h : Heap} {a : Addr} {u : HO} (r : Rd H a u) (x : HOk P w H h) : ObjOk P w H h a u := by
  rcases r with r | ⟨o, r⟩
  · exact x a u r
  · obtain ⟨_, q⟩ := x a _ r
    exact q
def Mut : Option HO → Prop
  | some (.lst _) => True
  | some (.dK _) => True
  | some (.dT _) => True
  | some (.set _ _) => True
  | some (.ins _ _ _) => True
  | some (.ext _) => True
  | _ => False
section
variable {P : Program} {w : World} {H : Hp} {h h' : Heap} {x e : Addr} {o' : HO}
theorem HOk.write (ok : HOk P w H h) (mu : Mut (H x)) (he : e = x ∨ H e = some (.own x)) (k : ∀ b u, b ≠ e → h.get? b = some u → h'.get? b = some u) (heo : ∃ u, h'.get? e = some u)
    (new : ObjOk P w (upd H x o') h' x o') : HOk P w (upd H x o') h' := fun b u q => by
  have nown : ∀ c y, H c = some (.own y) → c ≠ x := fun c y r z => by subst z; rw [r] at mu; exact mu
  have ntup : ∀ c xs, H c = some (.tup xs) → c ≠ x := fun c xs r z => by subst z; rw [r] at mu; exact mu
  by_cases hb : b = x
  · subst hb; rw [upd_same] at q; cases q; exact new
  · rw [upd_ne hb] at q
    by_cases hbe : b = e
    · have q' : H b = some (.own x) := by
        rcases he with z | z
        · exact absurd (hbe.trans z) hb
        · rw [hbe]; exact z
      rw [q] at q'; cases q'
      obtain ⟨v, hv⟩ := heo
      exact ⟨v, by rw [hbe]; exact hv⟩
    · refine (ok b u q).stay (fun c v hc r => k c v ?_ r) (fun c r => by rw [upd_ne (nown c b r)]; exact r) fun c xs r => by rw [upd_ne (ntup c xs r)]; exact r
      rcases hc with rfl | hc
      · exact hbe
      · rintro rfl
        rcases he with z | z
        · exact nown c b hc z
        · rw [hc] at z; cases z; exact hb rfl
end
structure Un (fs ex : List Addr) (H H' : Hp) (h h' : Heap) : Prop where
  keep : ∀ b o, h.get? b = some o → H b = none → b ∉ fs → b ∉ ex → h'.get? b = some o
  slot : ∀ b o, h.get? b = some o → H b = none → b ∈ fs → b ∉ ex → ∃ sl, h'.get? b = some { o with slots := sl }
  free : ∀ b o, h.get? b = some o → H b = none → b ∉ ex → H' b = none
  there : ∀ b o, h.get? b = some o → b ∉ ex → ∃ o', h'.get? b = some o'
  tups : ∀ b xs, H b = some (.tup xs) → H' b = some (.tup xs)
  frzs : ∀ b o u, H b = some (.frz o u) → H' b = some (.frz o u)
  tbls : ∀ b ps, H b = some (.tbl ps) → ∃ more, H' b = some (.tbl (ps ++ more))
section
variable {fs fs' ex ex' : List Addr} {H H1 H2 : Hp} {h h1 h2 h' : Heap} {a x e : Addr} {o : HO}
theorem Un.any (u : Un fs ex H H1 h h1) {b : Addr} {ob : Obj} (q : h.get? b = some ob) (n : H b = none) (hx : b ∉ ex) : ∃ sl, h1.get? b = some { ob with slots := sl } := by
  by_cases hb : b ∈ fs
  · exact u.slot b ob q n hb hx
  · exact ⟨ob.slots, u.keep b ob q n hb hx⟩
theorem Un.kept (k : ∀ b u, h.get? b = some u → h'.get? b = some u) : Un fs ex H H h h' :=
  ⟨fun b ob q _ _ _ => k b ob q, fun b ob q _ _ _ => ⟨ob.slots, k b ob q⟩, fun _ _ _ n _ => n, fun b ob q _ => ⟨ob, k b ob q⟩, fun _ _ q => q, fun _ _ _ q => q, fun _ ps q => ⟨#[], by rw [q]; simp⟩⟩
theorem Un.refl : Un fs ex H H h h := Un.kept fun _ _ q => q
theorem Un.laid (k : ∀ b u, h.get? b = some u → h'.get? b = some u) (hp : h.objs.size ≤ a) (hn : H a = none) : Un fs ex H (upd H a o) h h' where
  keep := fun b u q _ _ _ => k b u q
  slot := fun b u q _ _ _ => ⟨u.slots, k b u q⟩
  free := fun b u q n _ => by rw [upd_ne (Nat.ne_of_lt (Nat.lt_of_lt_of_le (Heap.lt_size q) hp))]; exact n
  there := fun b u q _ => ⟨u, k b u q⟩
  tups := fun b xs q => by rw [upd_ne (ne_of_none q hn)]; exact q
  frzs := fun b u xs q => by rw [upd_ne (ne_of_none q hn)]; exact q
  tbls := fun b ps q => ⟨#[], by rw [upd_ne (ne_of_none q hn), q]; simp⟩
theorem Un.write (mu : Mut (H x)) (he : e = x ∨ H e = some (.own x)) (k : ∀ b u, b ≠ e → h.get? b = some u → h'.get? b = some u) (heo : ∃ u, h'.get? e = some u) : Un fs ex H (upd H x o) h h' := by
  have hx : ∀ b, H b = none → b ≠ x := fun b n z => by subst z; rw [n] at mu; exact mu
  have hb : ∀ b, H b = none → b ≠ e := fun b n z => by
    subst z
    rcases he with r | r
    · exact hx b n r
    · rw [n] at r; cases r
  have hm : ∀ b u, H b = some u → ¬ Mut (some u) → b ≠ x := fun b u q nm z => by subst z; rw [q] at mu; exact nm mu
  refine ⟨fun b u q n _ _ => k b u (hb b n) q, fun b u q n _ _ => ⟨u.slots, k b u (hb b n) q⟩, fun b u q n _ => by rw [upd_ne (hx b n)]; exact n, fun b u q _ => ?_,
    fun b xs q => by rw [upd_ne (hm b _ q fun z => z)]; exact q, fun b u xs q => by rw [upd_ne (hm b _ q fun z => z)]; exact q, fun b ps q => ⟨#[], by rw [upd_ne (hm b _ q fun z => z), q]; simp⟩⟩
  by_cases hbe : b = e
  · subst hbe; exact heo
  · exact ⟨u, k b u hbe q⟩
end
def trk (h : Heap) (H : Hp) : List Addr := (List.range h.objs.size).filter fun a => (H a).isSome
def hidT (h : Heap) (H : Hp) : Heap := PySem.W.hideAll h (trk h H)
theorem hidT_size (h : Heap) (H : Hp) : (hidT h H).objs.size = h.objs.size := PySem.W.hideAll_size _ _
theorem hidT_get {h : Heap} {H : Hp} {b : Addr} {o : Obj} (e : h.get? b = some o) (n : H b = none) : (hidT h H).get? b = some o :=
  PySem.W.hideAll_get _ e fun hm => by
    have q : (H b).isSome = true := (List.mem_filter.mp hm).2
    rw [n] at q; simp at q
theorem of_hidT {h : Heap} {H : Hp} {b : Addr} {o : Obj} (e : (hidT h H).get? b = some o) : h.get? b = some o ∧ H b = none := by
  have e' : h.get? b = some o := PySem.W.of_hideAll (trk h H) e
  refine ⟨e', ?_⟩
  cases q : H b with
  | none => rfl
  | some x =>
    have hm : b ∈ trk h H := List.mem_filter.mpr ⟨List.mem_range.mpr (Heap.lt_size e'), by simp [q]⟩
    have z : (hidT h H).get? b = none := PySem.W.hideAll_none (trk h H) hm
    rw [z] at e; cases e
end L2
namespace L2
open PySem PySem.Spec PyProof.Rows
structure Mod (K : PySem.W.Frag) (mg : Str → Option Value) (base : Heap) : Prop where
  kin : K.In base
  glob : base.Ns mainGlobals mg
  blt : ∃ mb, base.Ns builtinsNs mb ∧ ∀ x : Str, x ≠ "__name__" → mb x = bootBuiltins x
  nolimit : base.NoLimit
structure Cx where
  prog : Program
  w : World
  K : PySem.W.Frag
  mg : Str → Option Value
  base : Heap
  A : Around
  N : List Str
  s₀ : Shared
  H₀ : Hp
  env : Env
  outer : List Env
  stack : List Env
  ex : List Addr
  fn : Str → Bool
  calm : Bool
  pn : List (Addr × Obj)
  xe : Value → Shared → Prop
def frs (l : List Env) : List Addr := l.filterMap (·.frame)
abbrev Cx.fs (X : Cx) : List Addr := frs X.outer
def Vis (sc : Scope) (x : Str) : Prop := sc.names.lookup x = some .local ∨ sc.names.lookup x = some .cell ∨ sc.names.lookup x = some .free
def Loc (sc : Scope) (x : Str) : Prop := sc.names.lookup x = some .local ∨ sc.names.lookup x = some .cell
def Look (env : Env) (h : Heap) (m : Str → Option Value) (x : Str) (u : Value) : Prop :=
  (env.kindOf x = some .local ∧ m x = some u) ∨ ((env.kindOf x = some .cell ∨ env.kindOf x = some .free) ∧ ∃ c, env.cells.lookup x = some c ∧ h.IsCell c (some u))
structure Cx.Ok (X : Cx) : Prop where
  mod : Mod X.K X.mg X.base
  kind : X.env.scope.kind = .function
  glob : X.env.globals = mainGlobals
  blt : X.env.builtins = builtinsNs
  above : X.s₀.heap.objs.size ≤ X.env.locals
  inj : ∀ x y c, X.env.cells.lookup x = some c → X.env.cells.lookup y = some c → x = y
  has : ∀ x, (X.env.kindOf x = some .cell ∨ X.env.kindOf x = some .free) → ∃ c, X.env.cells.lookup x = some c
  cab : ∀ x c, X.fn x = true → X.env.cells.lookup x = some c → X.s₀.heap.objs.size ≤ c
  hd : X.calm = true → X.A.handled = none
  frames : X.A.frames = some X.stack
  stk : X.stack = X.outer ∨ (X.stack = X.env :: X.outer ∧ X.env.frame = some X.env.locals)
  exf : ∀ b ∈ X.ex, b ≠ X.env.locals ∧ ∀ x c, X.env.cells.lookup x = some c → c ≠ b
  bs : ∀ b o, X.base.get? b = some o → X.s₀.heap.get? b = some o ∧ X.H₀ b = none
  bsz : X.base.objs.size ≤ X.s₀.heap.objs.size
  noex : ∀ b o, X.base.get? b = some o → b ∉ X.ex
  exfs : ∀ b ∈ X.ex, b ∉ X.fs
  funs : X.s₀.heap.FunFrames X.base X.outer
  frf : ∀ b ∈ X.fs, X.H₀ b = none
structure Inv (X : Cx) (pins : List (Addr × Obj)) (σ : List (Option V)) (H : Hp) (s : Shared) : Prop where
  ok : X.Ok
  os : s.os = X.s₀.os
  bare : AllBare s.gens
  base : Un X.fs X.ex X.H₀ H X.s₀.heap s.heap
  loc : ∃ m, s.heap.Ns X.env.locals m ∧ ∀ (i : Nat) (x : Str) (v : V), X.N[i]? = some x → σ[i]? = some (some v) → Vis X.env.scope x → ∃ u, RelV v u ∧ Look X.env s.heap m x u
  cell : ∀ x c, X.env.cells.lookup x = some c → ∃ v, s.heap.IsCell c v
  free : H X.env.locals = none
  freeC : ∀ x c, X.env.cells.lookup x = some c → H c = none
  pin : ∀ p ∈ X.pn ++ pins, s.heap.get? p.1 = some p.2 ∧ H p.1 = none ∧ p.1 ≠ X.env.locals ∧ p.1 ∉ X.fs ∧ ∀ v, p.2.data ≠ .cell v
  hok : HOk X.prog X.w H s.heap
  len : σ.length = X.N.length
section
variable {X : Cx} {pins : List (Addr × Obj)} {σ : List (Option V)} {H H' : Hp} {s : Shared} {h' : Heap}
theorem Cx.Ok.nofr (ok : X.Ok) {b : Addr} {o : Obj} (e : X.base.get? b = some o) : b ∉ X.fs := fun hb => by
  have := (ok.funs.mem hb).1
  rw [e] at this; cases this
theorem Inv.bs (I : Inv X pins σ H s) : ∀ b o, X.base.get? b = some o → s.heap.get? b = some o ∧ H b = none := fun b o e =>
  ⟨I.base.keep b o (I.ok.bs b o e).1 (I.ok.bs b o e).2 (I.ok.nofr e) (I.ok.noex b o e), I.base.free b o (I.ok.bs b o e).1 (I.ok.bs b o e).2 (I.ok.noex b o e)⟩
theorem Inv.bk (I : Inv X pins σ H s) : ∀ b o, X.base.get? b = some o → s.heap.get? b = some o := fun b o e => (I.bs b o e).1
theorem Inv.mod (I : Inv X pins σ H s) : Mod X.K X.mg X.base := I.ok.mod
theorem Inv.kIn (I : Inv X pins σ H s) : X.K.In s.heap := I.ok.mod.kin.keeps I.bk
theorem Inv.lt (I : Inv X pins σ H s) : X.env.locals < s.heap.objs.size := let ⟨_, hn, _⟩ := I.loc; hn.lt
theorem Inv.sz (I : Inv X pins σ H s) : X.s₀.heap.objs.size ≤ s.heap.objs.size := Nat.le_trans I.ok.above (Nat.le_of_lt I.lt)
theorem Inv.nofs (I : Inv X pins σ H s) {a : Addr} (h : s.heap.objs.size ≤ a) : a ∉ X.fs := fun hb => by
  obtain ⟨_, o, ho, _⟩ := I.ok.funs.mem hb
  exact absurd (Nat.lt_of_lt_of_le (Heap.lt_size ho) (Nat.le_trans I.sz h)) (Nat.lt_irrefl _)
theorem Inv.cne (I : Inv X pins σ H s) : ∀ x c, X.env.cells.lookup x = some c → c ≠ X.env.locals := fun x c e z => by
  obtain ⟨v, o, ho, hd⟩ := I.cell x c e
  obtain ⟨m, ⟨o', es, ep, ho', hd', _⟩, _⟩ := I.loc
  rw [z, ho'] at ho; cases ho; rw [hd'] at hd; cases hd
theorem Inv.funs (I : Inv X pins σ H s) : s.heap.FunFrames X.base X.outer := by
  have all : ∀ (l : List Env), (∀ b ∈ frs l, b ∈ X.fs) → X.s₀.heap.FunFrames X.base l → s.heap.FunFrames X.base l := by
    intro l
    induction l with
    | nil => intro _ _; trivial
    | cons env r ih =>
      intro hs hl
      obtain ⟨hk, ⟨L, o, hf, hn, ho, hd⟩, hr⟩ := hl
      have hL : L ∈ X.fs := hs L (by unfold frs; rw [List.filterMap_cons, hf]; exact List.mem_cons_self)
      obtain ⟨sl, e⟩ := I.base.slot L o ho (I.ok.frf L hL) hL fun z => I.ok.exfs L z hL
      exact ⟨hk, ⟨L, _, hf, hn, e, hd⟩, ih (fun b hb => hs b (by unfold frs; rw [List.filterMap_cons, hf]; exact List.mem_cons_of_mem _ hb)) hr⟩
  exact all X.outer (fun _ hb => hb) I.ok.funs
theorem Inv.stack (I : Inv X pins σ H s) : s.heap.FunFrames X.base X.stack := by
  rcases I.ok.stk with e | ⟨e, hf⟩
  · rw [e]; exact I.funs
  · rw [e]
    obtain ⟨m, hn, _⟩ := I.loc
    refine .cons (by rw [I.ok.kind]; decide) hf hn ?_ I.funs
    exact Heap.get?_none_of_le (Nat.le_trans I.ok.bsz I.ok.above)
theorem Inv.stkSub (I : Inv X pins σ H s) : ∀ b ∈ frs X.stack, b ∈ X.env.locals :: X.fs := fun b hb => by
  rcases I.ok.stk with e | ⟨e, hf⟩
  · rw [e] at hb; exact List.mem_cons_of_mem _ hb
  · rw [e] at hb
    unfold frs at hb
    rw [List.filterMap_cons, hf] at hb
    exact hb
theorem Inv.stkFree (I : Inv X pins σ H s) : ∀ b ∈ frs X.stack, H b = none := fun b hb => by
  rcases List.mem_cons.mp (I.stkSub b hb) with e | hb
  · rw [e]; exact I.free
  · obtain ⟨_, o, ho, _⟩ := I.ok.funs.mem hb
    exact I.base.free b o ho (I.ok.frf b hb) fun z => I.ok.exfs b z hb
theorem Inv.step {g' : Array GenState} {t' : Nat} {d' : Drawn} {ch : List Addr} (I : Inv X pins σ H s)
    (hch : ∀ b ∈ ch, (b ∈ X.ex ∨ X.s₀.heap.objs.size ≤ b) ∧ b ≠ X.env.locals ∧ (∀ x c, X.env.cells.lookup x = some c → c ≠ b) ∧ ∀ p ∈ X.pn ++ pins, p.1 ≠ b)
    (keep : ∀ b o, b ≠ X.env.locals → b ∉ X.fs → b ∉ ch → s.heap.get? b = some o → H b = none → h'.get? b = some o)
    (slot : ∀ b o, b ≠ X.env.locals → b ∈ X.fs → b ∉ ch → s.heap.get? b = some o → H b = none → ∃ sl, h'.get? b = some { o with slots := sl }) (free : ∀ b o, b ∉ ch → s.heap.get? b = some o → H b = none → H' b = none)
    (there : ∀ b o, b ∉ ch → s.heap.get? b = some o → ∃ o', h'.get? b = some o')
    (tups : ∀ b xs, H b = some (.tup xs) → H' b = some (.tup xs)) (frzs : ∀ b o u, H b = some (.frz o u) → H' b = some (.frz o u)) (tbls : ∀ b ps, H b = some (.tbl ps) → ∃ more, H' b = some (.tbl (ps ++ more)))
    (ns : ∀ m, s.heap.Ns X.env.locals m → h'.Ns X.env.locals m) (hok : HOk X.prog X.w H' h') (hg : AllBare g') :
    Inv X pins σ H' { s with heap := h', gens := g', drawn := d', toks := t' } := by
  have neL : ∀ b o, X.s₀.heap.get? b = some o → b ≠ X.env.locals := fun b o e => Nat.ne_of_lt (Nat.lt_of_lt_of_le (Heap.lt_size e) I.ok.above)
  have neC : ∀ b o, X.s₀.heap.get? b = some o → b ∉ X.ex → b ∉ ch := fun b o e hx hb => by
    rcases (hch b hb).1 with z | z
    · exact hx z
    · exact absurd (Nat.lt_of_lt_of_le (Heap.lt_size e) z) (Nat.lt_irrefl _)
  have cellK : ∀ x c, X.env.cells.lookup x = some c → ∀ v, s.heap.IsCell c v → h'.IsCell c v := fun x c e v ⟨o, ho, hd⟩ => by
    have nch : c ∉ ch := fun z => (hch c z).2.2.1 x c e rfl
    by_cases hc : c ∈ X.fs
    · obtain ⟨sl, q⟩ := slot c o (I.cne x c e) hc nch ho (I.freeC x c e)
      exact ⟨_, q, hd⟩
    · exact ⟨o, keep c o (I.cne x c e) hc nch ho (I.freeC x c e), hd⟩
  refine ⟨I.ok, I.os, hg, ⟨fun b o e n hb hx => ?_, fun b o e n hb hx => ?_, fun b o e n hx => ?_, fun b o e hx => ?_, fun b xs e => tups b xs (I.base.tups b xs e), fun b o xs e => frzs b o xs (I.base.frzs b o xs e), fun b ps e => ?_⟩, ?_, fun x c e => ?_, ?_, fun x c e => ?_, fun p hp => ?_, hok, I.len⟩
  · exact keep b o (neL b o e) hb (neC b o e hx) (I.base.keep b o e n hb hx) (I.base.free b o e n hx)
  · obtain ⟨sl, e1⟩ := I.base.slot b o e n hb hx
    obtain ⟨sl', e2⟩ := slot b _ (neL b o e) hb (neC b o e hx) e1 (I.base.free b o e n hx)
    exact ⟨sl', e2⟩
  · obtain ⟨o', e1⟩ := I.base.there b o e hx
    exact free b o' (neC b o e hx) e1 (I.base.free b o e n hx)
  · obtain ⟨o', e1⟩ := I.base.there b o e hx
    exact there b o' (neC b o e hx) e1
  · obtain ⟨m1, e1⟩ := I.base.tbls b ps e
    obtain ⟨m2, e2⟩ := tbls b _ e1
    exact ⟨m1 ++ m2, by rw [e2, Array.append_assoc]⟩
  · obtain ⟨m, hn, hl⟩ := I.loc
    refine ⟨m, ns m hn, fun i x v e1 e2 e3 => ?_⟩
    obtain ⟨u, r, l⟩ := hl i x v e1 e2 e3
    refine ⟨u, r, ?_⟩
    rcases l with l | ⟨k, c, e, z⟩
    · exact .inl l
    · exact .inr ⟨k, c, e, cellK x c e _ z⟩
  · obtain ⟨v, z⟩ := I.cell x c e
    exact ⟨v, cellK x c e v z⟩
  · obtain ⟨m, ⟨o, _, _, ho, _⟩, _⟩ := I.loc
    exact free _ o (fun z => (hch _ z).2.1 rfl) ho I.free
  · obtain ⟨v, o, ho, hd⟩ := I.cell x c e
    exact free c o (fun z => (hch c z).2.2.1 x c e rfl) ho (I.freeC x c e)
  · obtain ⟨e, n, ne, nf, d⟩ := I.pin p hp
    have nch : p.1 ∉ ch := fun z => (hch p.1 z).2.2.2 p hp rfl
    exact ⟨keep p.1 p.2 ne nf nch e n, free p.1 p.2 nch e n, ne, nf, d⟩
theorem Inv.un {t' : Nat} (I : Inv X pins σ H s) (u : Un X.fs [] H H' s.heap h') (hok : HOk X.prog X.w H' h') : Inv X pins σ H' { s with heap := h', toks := t' } := by
  obtain ⟨m, ⟨o, es, ep, ho, r⟩, _⟩ := id I.loc
  obtain ⟨sl, hL⟩ := u.any ho I.free (by simp)
  exact I.step (g' := s.gens) (d' := s.drawn) (ch := []) (fun _ z => nomatch z) (fun b o _ hb _ e n => u.keep b o e n hb (by simp)) (fun b o _ hb _ e n => u.slot b o e n hb (by simp)) (fun b o _ e n => u.free b o e n (by simp)) (fun b o _ e => u.there b o e (by simp)) u.tups u.frzs u.tbls (fun m' hm => by
    obtain ⟨o', es', ep', ho', r'⟩ := hm
    rw [ho] at ho'; cases ho'
    exact ⟨_, es', ep', hL, r'⟩) hok I.bare
theorem Inv.call {g' : Array GenState} {t' : Nat} {d' : Drawn} {ch : List Addr} (I : Inv X pins σ H s) (u : Un (frs X.stack) ch H H' s.heap h') (hok : HOk X.prog X.w H' h') (hg : AllBare g')
    (hch : ∀ b ∈ ch, (b ∈ X.ex ∨ X.s₀.heap.objs.size ≤ b) ∧ b ≠ X.env.locals ∧ (∀ x c, X.env.cells.lookup x = some c → c ≠ b) ∧ ∀ p ∈ X.pn ++ pins, p.1 ≠ b) :
    Inv X pins σ H' { s with heap := h', gens := g', drawn := d', toks := t' } := by
  obtain ⟨m, ⟨o, es, ep, ho, r⟩, _⟩ := id I.loc
  obtain ⟨sl, hL⟩ := u.any ho I.free fun z => (hch _ z).2.1 rfl
  exact I.step (ch := ch) hch (fun b o hL hb hc e n => u.keep b o e n (fun z => (List.mem_cons.mp (I.stkSub b z)).elim hL hb) hc) (fun b o _ _ hc e n => u.any e n hc) (fun b o hc e n => u.free b o e n hc) (fun b o hc e => u.there b o e hc) u.tups u.frzs u.tbls (fun m' hm => by
    obtain ⟨o', es', ep', ho', r'⟩ := hm
    rw [ho] at ho'; cases ho'
    exact ⟨_, es', ep', hL, r'⟩) hok hg
theorem Inv.turned {t' : Nat} {it : Addr} (I : Inv X pins σ H s) (k : ∀ b o, b ≠ it → s.heap.get? b = some o → h'.get? b = some o) (hn : H it = none) (hL : it ≠ X.env.locals)
    (h1 : it ∈ X.ex ∨ X.s₀.heap.objs.size ≤ it) (h2 : ∀ x c, X.env.cells.lookup x = some c → c ≠ it) (h3 : ∀ p ∈ X.pn ++ pins, p.1 ≠ it) : Inv X pins σ H { s with heap := h', toks := t' } := by
  have nit : ∀ b u, H b = some u → b ≠ it := fun b u e z => by rw [z, hn] at e; cases e
  refine I.step (g' := s.gens) (d' := s.drawn) (ch := [it]) (fun b hb => ?_) (fun b o _ _ hc e _ => k b o (fun z => hc (by simp [z])) e) (fun b o _ _ hc e _ => ⟨o.slots, k b o (fun z => hc (by simp [z])) e⟩) (fun _ _ _ _ n => n)
    (fun b o hc e => ⟨o, k b o (fun z => hc (by simp [z])) e⟩) (fun _ _ e => e) (fun _ _ _ e => e) (fun b ps e => ⟨#[], by rw [e]; simp⟩) (fun m hm => ?_) (fun b u e => ?_) I.bare
  · have e : b = it := by simpa using hb
    subst e
    exact ⟨h1, hL, h2, h3⟩
  · obtain ⟨o, es, ep, ho, r⟩ := hm
    exact ⟨o, es, ep, k _ o (Ne.symm hL) ho, r⟩
  · refine (I.hok b u e).stay (fun c v hc q => k c v ?_ q) (fun _ q => q) fun _ _ q => q
    rcases hc with z | z
    · rw [z]; exact nit b u e
    · exact nit c _ z
theorem Inv.tok (I : Inv X pins σ H s) (t : Nat) : Inv X pins σ H { s with toks := t } := I.un (h' := s.heap) (t' := t) Un.refl I.hok
theorem Inv.kept {t' : Nat} (I : Inv X pins σ H s) (k : ∀ b u, s.heap.get? b = some u → h'.get? b = some u) : Inv X pins σ H { s with heap := h', toks := t' } := I.un (Un.kept k) (I.hok.kept k)
theorem Inv.laid {a : Addr} {o : HO} {t' : Nat} (I : Inv X pins σ H s) (k : ∀ b u, s.heap.get? b = some u → h'.get? b = some u) (hp : s.heap.objs.size ≤ a) (new : ObjOk X.prog X.w (upd H a o) h' a o) :
    Inv X pins σ (upd H a o) { s with heap := h', toks := t' } := I.un (Un.laid k hp (I.hok.fresh hp)) (I.hok.laid k hp new)
theorem Inv.write {x e : Addr} {o : HO} {t' : Nat} (I : Inv X pins σ H s) (mu : Mut (H x)) (he : e = x ∨ H e = some (.own x)) (k : ∀ b u, b ≠ e → s.heap.get? b = some u → h'.get? b = some u) (heo : ∃ u, h'.get? e = some u)
    (new : ObjOk X.prog X.w (upd H x o) h' x o) : Inv X pins σ (upd H x o) { s with heap := h', toks := t' } := I.un (Un.write mu he k heo) (I.hok.write mu he k heo new)
theorem Inv.pins_of {pins' : List (Addr × Obj)} (I : Inv X pins σ H s) (h : ∀ p ∈ pins', s.heap.get? p.1 = some p.2 ∧ H p.1 = none ∧ p.1 ≠ X.env.locals ∧ p.1 ∉ X.fs ∧ ∀ v, p.2.data ≠ .cell v) : Inv X pins' σ H s :=
  ⟨I.ok, I.os, I.bare, I.base, I.loc, I.cell, I.free, I.freeC, fun p hp => (List.mem_append.mp hp).elim (fun z => I.pin p (List.mem_append_left _ z)) (h p), I.hok, I.len⟩
theorem nodup_ix {N : List Str} (hN : N.Nodup) {i j : Nat} {x : Str} (a : N[i]? = some x) (b : N[j]? = some x) : i = j := by
  obtain ⟨h1, e1⟩ := List.getElem?_eq_some_iff.mp a
  obtain ⟨h2, e2⟩ := List.getElem?_eq_some_iff.mp b
  exact (List.getElem_inj hN).mp (e1.trans e2.symm)
theorem store_ok2 {M : Model} {A : Around} {E : Value → Shared → Prop} {i : Nat} {x : Str} {v : V} {u : Value} {Q : Unit → Shared → Prop} (I : Inv X pins σ H s) (hN : X.N.Nodup) (hi : X.N[i]? = some x) (hx : Loc X.env.scope x) (r : RelV v u)
    (h : ∀ s', Inv X pins (σ.set i (some v)) H s' → (∃ a, Heap.SameBut a s.heap s'.heap ∧ (a = X.env.locals ∨ X.env.cells.lookup x = some a)) → Q () s') (hf : X.fn x = true ∨ X.env.scope.names.lookup x = some .local := by first | exact .inl rfl | exact .inr rfl | assumption) : wpAny M A (storeName X.env x u) Q E s := by
  obtain ⟨m, hn, hl⟩ := id I.loc
  have hcls : (X.env.scope.kind == .class || (X.env.scope.kind == .module && X.env.locals != X.env.globals)) = false := by rw [I.ok.kind]; rfl
  have hiσ : i < σ.length := by rw [I.len]; exact (List.getElem?_eq_some_iff.mp hi).1
  have cne := I.cne
  have tracked : ∀ {a : Addr} {h' : Heap}, (∃ o, s.heap.get? a = some o ∧ H a = none) → Heap.SameBut a s.heap h' → HOk X.prog X.w H h' := fun {a h'} ha hs b ob e => by
    obtain ⟨_, _, hfree⟩ := ha
    refine (I.hok b ob e).stay (fun c w' hc q => (hs.2 c ?_).trans q) (fun _ q => q) fun _ _ q => q
    rintro rfl
    rcases hc with rfl | hc
    · rw [hfree] at e; cases e
    · rw [hfree] at hc; cases hc
  rcases hx with hk | hk
  · refine wpAny_storeName_local hk hn (fun h' hn' hs => ?_) hcls
    obtain ⟨oL, _, _, hoL, _⟩ := id hn
    refine h _ ⟨I.ok, I.os, I.bare, ⟨fun b o e n hb hx => ?_, fun b o e n hb hx => ?_, I.base.free, fun b o e hx => ?_, I.base.tups, I.base.frzs, I.base.tbls⟩, ⟨_, hn', fun j y v' e1 e2 e3 => ?_⟩, fun y c e => ?_, I.free, I.freeC, fun p hp => ?_, tracked ⟨oL, hoL, I.free⟩ hs, by simpa using I.len⟩ ⟨_, hs, .inl rfl⟩
    · exact (hs.2 b (Nat.ne_of_lt (Nat.lt_of_lt_of_le (Heap.lt_size e) I.ok.above))).trans (I.base.keep b o e n hb hx)
    · obtain ⟨sl, e1⟩ := I.base.slot b o e n hb hx
      exact ⟨sl, (hs.2 b (Nat.ne_of_lt (Nat.lt_of_lt_of_le (Heap.lt_size e) I.ok.above))).trans e1⟩
    · obtain ⟨o', e1⟩ := I.base.there b o e hx
      exact ⟨o', (hs.2 b (Nat.ne_of_lt (Nat.lt_of_lt_of_le (Heap.lt_size e) I.ok.above))).trans e1⟩
    · by_cases hj : j = i
      · subst hj
        rw [hi] at e1; cases e1
        rw [List.getElem?_set_self hiσ] at e2
        cases e2
        exact ⟨u, r, .inl ⟨hk, by simp⟩⟩
      · rw [List.getElem?_set_ne (Ne.symm hj)] at e2
        obtain ⟨u', r', q⟩ := hl j y v' e1 e2 e3
        refine ⟨u', r', ?_⟩
        rcases q with ⟨k, e⟩ | ⟨k, c, e, z⟩
        · refine .inl ⟨k, ?_⟩
          have : y ≠ x := fun e => hj (nodup_ix hN e1 (e ▸ hi))
          simp [this, e]
        · exact .inr ⟨k, c, e, z.sameBut hs (cne y c e)⟩
    · obtain ⟨w', z⟩ := I.cell y c e
      exact ⟨w', z.sameBut hs (cne y c e)⟩
    · obtain ⟨e, n, ne, nf, d⟩ := I.pin p hp
      exact ⟨(hs.2 p.1 ne).trans e, n, ne, nf, d⟩
  · have hfn : X.fn x = true := by
      rcases hf with z | z
      · exact z
      · rw [z] at hk; cases hk
    obtain ⟨c, hc⟩ := I.ok.has x (.inl hk)
    obtain ⟨w', z⟩ := I.cell x c hc
    refine wpAny_storeName_cell I.ok.kind hk hc z (fun h' hc' hs => ?_)
    obtain ⟨oc, hoc, hocd⟩ := id z
    refine h { s with heap := h' } ⟨I.ok, I.os, I.bare, ⟨fun b o e n hb hx => ?_, fun b o e n hb hx => ?_, I.base.free, fun b o e hx => ?_, I.base.tups, I.base.frzs, I.base.tbls⟩, ⟨m, hn.sameBut hs (Ne.symm (cne x c hc)), fun j y v' e1 e2 e3 => ?_⟩, fun y c' e => ?_, I.free, I.freeC, fun p hp => ?_, tracked ⟨oc, hoc, I.freeC x c hc⟩ hs, by simpa using I.len⟩ ⟨c, hs, .inr hc⟩
    · exact (hs.2 b (Nat.ne_of_lt (Nat.lt_of_lt_of_le (Heap.lt_size e) (I.ok.cab x c hfn hc)))).trans (I.base.keep b o e n hb hx)
    · obtain ⟨sl, e1⟩ := I.base.slot b o e n hb hx
      exact ⟨sl, (hs.2 b (Nat.ne_of_lt (Nat.lt_of_lt_of_le (Heap.lt_size e) (I.ok.cab x c hfn hc)))).trans e1⟩
    · obtain ⟨o', e1⟩ := I.base.there b o e hx
      exact ⟨o', (hs.2 b (Nat.ne_of_lt (Nat.lt_of_lt_of_le (Heap.lt_size e) (I.ok.cab x c hfn hc)))).trans e1⟩
    · by_cases hj : j = i
      · subst hj
        rw [hi] at e1; cases e1
        rw [List.getElem?_set_self hiσ] at e2
        cases e2
        exact ⟨u, r, .inr ⟨.inl hk, c, hc, hc'⟩⟩
      · rw [List.getElem?_set_ne (Ne.symm hj)] at e2
        obtain ⟨u', r', q⟩ := hl j y v' e1 e2 e3
        refine ⟨u', r', ?_⟩
        rcases q with q | ⟨k, c', e, z'⟩
        · exact .inl q
        · refine .inr ⟨k, c', e, z'.sameBut hs ?_⟩
          rintro rfl
          exact hj (nodup_ix hN e1 (I.ok.inj _ _ _ e hc ▸ hi))
    · by_cases hcc : c' = c
      · subst hcc; exact ⟨_, hc'⟩
      · obtain ⟨w2, z2⟩ := I.cell y c' e
        exact ⟨w2, z2.sameBut hs hcc⟩
    · obtain ⟨e, n, ne, nf, d⟩ := I.pin p hp
      refine ⟨(hs.2 p.1 ?_).trans e, n, ne, nf, d⟩
      intro q
      rw [q, hoc] at e
      have q' : oc = p.2 := Option.some.inj e
      exact d w' (by rw [← q']; exact hocd)
theorem store_ok {M : Model} {A : Around} {E : Value → Shared → Prop} {i : Nat} {x : Str} {v : V} {u : Value} {Q : Unit → Shared → Prop} (I : Inv X pins σ H s) (hN : X.N.Nodup) (hi : X.N[i]? = some x) (hx : Loc X.env.scope x) (r : RelV v u)
    (h : ∀ s', Inv X pins (σ.set i (some v)) H s' → Q () s') (hf : X.fn x = true ∨ X.env.scope.names.lookup x = some .local := by first | exact .inl rfl | exact .inr rfl | assumption) : wpAny M A (storeName X.env x u) Q E s :=
  store_ok2 I hN hi hx r (fun s' I' _ => h s' I') hf
theorem Inv.call' {s' : Shared} {ch : List Addr} (I : Inv X pins σ H s) (ho : s'.os = s.os) (u : Un (frs X.stack) ch H H' s.heap s'.heap) (hok : HOk X.prog X.w H' s'.heap) (hg : AllBare s'.gens)
    (hch : ∀ b ∈ ch, (b ∈ X.ex ∨ X.s₀.heap.objs.size ≤ b) ∧ b ≠ X.env.locals ∧ (∀ x c, X.env.cells.lookup x = some c → c ≠ b) ∧ ∀ p ∈ X.pn ++ pins, p.1 ≠ b) : Inv X pins σ H' s' := by
  obtain ⟨h', g', d', t', o'⟩ := s'
  have e : o' = s.os := ho
  subst e
  exact I.call (g' := g') (t' := t') (d' := d') u hok hg hch
end
abbrev XK := Value → Option Addr → Hp → Prop
abbrev St := List (Option V)
abbrev VK := V → Hp → Prop
abbrev TE := St → Hp → VK → Prop
abbrev TT := St → Hp → (Bool → Hp → Prop) → Prop
abbrev TA := St → Hp → (List V → Hp → Prop) → Prop
structure Ends where
  nx : St → Hp → Prop
  rt : VK
  bk : St → Hp → Prop := fun _ _ => False
  ct : St → Hp → Prop := fun _ _ => False
abbrev TS := Ends → St → Hp → Prop
def EP (X : Cx) (pins : List (Addr × Obj)) (σ : St) (Q : VK) (u : Value) (s' : Shared) : Prop := ∃ v H', Inv X pins σ H' s' ∧ RelV v u ∧ Q v H'
def TP (X : Cx) (pins : List (Addr × Obj)) (σ : St) (Q : Bool → Hp → Prop) (b : Bool) (s' : Shared) : Prop := ∃ H', Inv X pins σ H' s' ∧ Q b H'
def AP (X : Cx) (pins : List (Addr × Obj)) (σ : St) (Q : List V → Hp → Prop) (us : List Value) (s' : Shared) : Prop := ∃ vs H', Inv X pins σ H' s' ∧ Vals vs us ∧ Q vs H'
def SP (X : Cx) (pins : List (Addr × Obj)) (D : Ends) (f : Flow) (s' : Shared) : Prop :=
  match f with
  | .next => ∃ σ' H', Inv X pins σ' H' s' ∧ D.nx σ' H'
  | .brk => ∃ σ' H', Inv X pins σ' H' s' ∧ D.bk σ' H'
  | .cont => ∃ σ' H', Inv X pins σ' H' s' ∧ D.ct σ' H'
  | .ret u => ∃ v σ' H', Inv X pins σ' H' s' ∧ RelV v u ∧ D.rt v H'
def PE (X : Cx) (e : Expr) (t : TE) : Prop :=
  ∀ (pins : List (Addr × Obj)) (s : Shared) (σ : St) (H : Hp) (Q : VK), Inv X pins σ H s → t σ H Q → wpAny (model X.prog X.w) X.A (eval e X.env) (EP X pins σ Q) X.xe s
def PT (X : Cx) (e : Expr) (t : TT) : Prop :=
  ∀ (pins : List (Addr × Obj)) (s : Shared) (σ : St) (H : Hp) (Q : Bool → Hp → Prop), Inv X pins σ H s → t σ H Q → wpAny (model X.prog X.w) X.A (isTrue e X.env (eval e X.env)) (TP X pins σ Q) X.xe s
def PW (X : Cx) (e : Expr) (t : TT) : Prop :=
  ∀ (whole : Sem Value) (pins : List (Addr × Obj)) (s : Shared) (σ : St) (H : Hp) (Q : Bool → Hp → Prop), Inv X pins σ H s → t σ H Q → wpAny (model X.prog X.w) X.A (isTrue e X.env whole) (TP X pins σ Q) X.xe s
theorem PW.pt {X : Cx} {e : Expr} {t : TT} (h : PW X e t) : PT X e t := h _
def PA (X : Cx) (es : List Expr) (t : TA) : Prop :=
  ∀ (pos : Pos) (pins : List (Addr × Obj)) (s : Shared) (σ : St) (H : Hp) (Q : List V → Hp → Prop), Inv X pins σ H s → t σ H Q → wpAny (model X.prog X.w) X.A (spliced (backTo pos (starEach es X.env))) (AP X pins σ Q) X.xe s
def PS (X : Cx) (st : Stmt) (t : TS) : Prop :=
  ∀ (pins : List (Addr × Obj)) (s : Shared) (σ : St) (H : Hp) (D : Ends), Inv X pins σ H s → t D σ H → wpAny (model X.prog X.w) X.A (exec st X.env) (SP X pins D) X.xe s
def PSs (X : Cx) (st : List Stmt) (t : TS) : Prop :=
  ∀ (pins : List (Addr × Obj)) (s : Shared) (σ : St) (H : Hp) (D : Ends), Inv X pins σ H s → t D σ H → wpAny (model X.prog X.w) X.A (execs st X.env) (SP X pins D) X.xe s
theorem thn {α : Type} {t : Sem α} {Q Q' : α → Shared → Prop} {M : Model} {A : Around} {E : Value → Shared → Prop} {s : Shared} (h : wpAny M A t Q E s) (hQ : ∀ a s, Q a s → Q' a s) : wpAny M A t Q' E s := wpAny_mono h hQ fun _ _ x => x
end L2
namespace L2
open PySem PySem.Spec PyProof.Rows
section
variable {X : Cx}
def tVar (i : Nat) : TE := fun σ H Q => ∃ v, σ[i]? = some (some v) ∧ Q v H
def tC (v : V) : TE := fun _ H Q => Q v H
theorem pe_var {i : Nat} {x : Str} {pos : Pos} (hN : X.N[i]? = some x) (hv : Vis X.env.scope x) (hd : (x == ("__debug__" : Str)) = false := by decide) (hcd : (x == ("__classdict__" : Str)) = false := by decide) : PE X (.Name x pos) (tVar i) := by
  intro pins s σ H Q I h
  obtain ⟨v, e, h⟩ := h
  obtain ⟨m, hn, hl⟩ := I.loc
  obtain ⟨u, r, l⟩ := hl i x v hN e hv
  have fin : EP X pins σ Q u s := ⟨v, H, I, r, h⟩
  rcases l with ⟨hk, hm⟩ | ⟨hk, c, hc, hcell⟩
  · exact wpAny_Name (wpAny_loadName_local I.ok.kind hk hn hm fin) hd
  · rcases hk with hk | hk
    · exact wpAny_Name (wpAny_loadName_cell I.ok.kind hk hc hcell fin) hd
    · exact wpAny_Name (wpAny_loadName_free I.ok.kind hk hc hcell fin hcd) hd
theorem pe_int {i j pos} : PE X (.Constant (.int i) j pos) (tC (.int i)) := fun _ _ _ H _ I h => wpAny_Constant_int ⟨.int i, H, I.tok _, ⟨_, rfl⟩, h⟩
theorem pe_bl {b j pos} : PE X (.Constant (.bool b) j pos) (tC (.bl b)) := fun _ _ _ H _ I h => Constant_bool ⟨.bl b, H, I, rfl, h⟩
theorem pe_non {j pos} : PE X (.Constant .none j pos) (tC .non) := fun _ _ _ H _ I h => Constant_none ⟨.non, H, I, rfl, h⟩
def Gl (X : Cx) (x : Str) : Prop := X.env.kindOf x = some .globalImplicit
theorem ld_glob {E : Value → Shared → Prop} {pins : List (Addr × Obj)} {s : Shared} {σ : St} {H : Hp} {x : Str} {u : Value} {pos : Pos} {Q : Value → Shared → Prop} (I : Inv X pins σ H s) (hg : Gl X x) (hm : X.mg x = some u) (h : Q u s)
    (hd : (x == ("__debug__" : Str)) = false := by decide) : wpAny (model X.prog X.w) X.A (eval (.Name x pos) X.env) Q E s :=
  Calls.Name_function_global I.ok.kind hg (Calls.loadGlobal_global (by rw [I.ok.glob]; exact I.mod.glob.keeps I.bk) hm h) hd
theorem ld_blt {E : Value → Shared → Prop} {pins : List (Addr × Obj)} {s : Shared} {σ : St} {H : Hp} {x : Str} {u : Value} {pos : Pos} {Q : Value → Shared → Prop} (I : Inv X pins σ H s) (hg : Gl X x) (hm : X.mg x = none) (hv : bootBuiltins x = some u) (h : Q u s)
    (hn : x ≠ "__name__" := by decide) (hd : (x == ("__debug__" : Str)) = false := by decide) : wpAny (model X.prog X.w) X.A (eval (.Name x pos) X.env) Q E s := by
  obtain ⟨mb, h1, h2⟩ := I.mod.blt
  exact Calls.Name_function_global I.ok.kind hg (Calls.loadGlobal_builtin (by rw [I.ok.glob]; exact I.mod.glob.keeps I.bk) hm (by rw [I.ok.blt]; exact h1.keeps I.bk) ((h2 x hn).trans hv) h) hd
theorem pe_glob {x : Str} {v : V} {u : Value} {pos : Pos} (hg : Gl X x) (hm : X.mg x = some u) (r : RelV v u) (hd : (x == ("__debug__" : Str)) = false := by decide) : PE X (.Name x pos) (tC v) :=
  fun _ _ _ H _ I h => ld_glob I hg hm ⟨v, H, I, r, h⟩ hd
theorem pe_bltn {x : Str} {v : V} {u : Value} {pos : Pos} (hg : Gl X x) (hm : X.mg x = none) (hv : bootBuiltins x = some u) (r : RelV v u) (hn : x ≠ "__name__" := by decide) (hd : (x == ("__debug__" : Str)) = false := by decide) : PE X (.Name x pos) (tC v) :=
  fun _ _ _ H _ I h => ld_blt I hg hm hv ⟨v, H, I, r, h⟩ hn hd
variable {a b : Expr} {ta tb : TE} {pos : Pos}
def tB (t : TE) : TT := fun σ H Q => t σ H fun x H1 => ∃ c, x = .bl c ∧ Q c H1
theorem pt_val {e : Expr} {t : TE} (h : PE X e t) (he : ∀ whole, isTrue e X.env whole = (do let v ← whole; standAt e.pos; holding [v] (truthy v)) := by intro _; rfl) : PT X e (tB t) := by
  intro pins s σ H Q I hw
  refine isTrue_plain (thn (h pins s σ H _ I hw) fun v s1 ⟨x, H1, I1, r1, q1⟩ => ?_) (he _)
  obtain ⟨d, rfl, q⟩ := q1
  cases r1
  exact wpAny_truthy_bool ⟨H1, I1, q⟩
variable {tA tB' : TT} {rest : List Expr}
def tOr (t u : TT) : TT := fun σ H Q => t σ H fun c H1 => if c = true then Q true H1 else u σ H1 Q
def tNot (t : TT) : TT := fun σ H Q => t σ H fun c H1 => Q (!c) H1
theorem pw_or1 (ha : PT X a tA) : PW X (.BoolOp .Or [a] pos) tA := by
  intro wh pins s σ H Q I h
  refine isTrue_or (thn (ha pins s σ H Q I h) fun c s1 e => ?_)
  cases c with
  | false => exact isTrue_or_nil e
  | true => exact e
theorem pw_or (ha : PT X a tA) (hb : PW X (.BoolOp .Or (b :: rest) pos) tB') : PW X (.BoolOp .Or (a :: b :: rest) pos) (tOr tA tB') := by
  intro wh pins s σ H Q I h
  refine isTrue_or (thn (ha pins s σ H _ I h) fun c s1 ⟨H1, I1, q1⟩ => ?_)
  cases c with
  | true => exact ⟨H1, I1, q1⟩
  | false => exact hb wh pins s1 σ H1 Q I1 q1
theorem pt_not (ha : PT X a tA) : PT X (.UnaryOp .Not a pos) (tNot tA) := by
  intro pins s σ H Q I h
  exact isTrue_not (ha pins s σ H (fun c H1 => Q (!c) H1) I h)
def tAndV (ta tb : TE) : TE := fun σ H Q => ta σ H fun x H1 => ∃ c, x = .bl c ∧ if c = true then tb σ H1 Q else Q (.bl false) H1
def tNotV (ta : TE) : TE := fun σ H Q => ta σ H fun x H1 => ∃ c, x = .bl c ∧ Q (.bl (!c)) H1
theorem pe_one {op} {t : TE} (h : PE X a t) : PE X (.BoolOp op [a] pos) t := fun pins s σ H Q I hw => BoolOp_one (h pins s σ H Q I hw)
theorem pe_and (ha : PE X a ta) (hb : PE X (.BoolOp .And (b :: rest) pos) tb) : PE X (.BoolOp .And (a :: b :: rest) pos) (tAndV ta tb) := by
  intro pins s σ H Q I h
  refine BoolOp_and (thn (ha pins s σ H _ I h) fun v s1 ⟨x, H1, I1, r1, q1⟩ => ?_)
  obtain ⟨c, rfl, q1⟩ := q1
  cases r1
  refine wpAny_truthy_bool ?_
  cases c with
  | true => exact hb pins s1 σ H1 Q I1 q1
  | false => exact ⟨.bl false, H1, I1, rfl, q1⟩
theorem pe_not (ha : PE X a ta) : PE X (.UnaryOp .Not a pos) (tNotV ta) := by
  intro pins s σ H Q I h
  refine UnaryOp_ (thn (ha pins s σ H _ I h) fun v s1 ⟨x, H1, I1, r1, q1⟩ => ?_)
  obtain ⟨c, rfl, q1⟩ := q1
  cases r1
  exact not_of (wpAny_truthy_bool ⟨.bl (!c), H1, I1, rfl, q1⟩)
end
end L2
namespace L2
open PySem PySem.Spec PyProof.Rows
def SqL (K : PySem.W.Frag) (H : Hp) (a : Addr) (xs : List V) : Prop :=
  Rd H a (.lst xs) ∨
    ∃ (o : Obj) (its : Array Value) (n : Nat), K.lookup a = some o ∧ o.cls = .type "list" ∧ o.dict = none ∧ o.data = .seq its n ∧ its.size ≤ sizeLine ∧ Vals xs its.toList
def SqT (K : PySem.W.Frag) (H : Hp) (a : Addr) (xs : List V) : Prop :=
  Rd H a (.tup xs) ∨
    ∃ (o : Obj) (its : Array Value) (n : Nat), K.lookup a = some o ∧ o.cls = .type "tuple" ∧ o.data = .seq its n ∧ its.size ≤ sizeLine ∧ Vals xs its.toList
def absV : Value → Option V
  | .none => some .non
  | .bool b => some (.bl b)
  | .int i _ => some (.int i)
  | .str x _ => some (.str x)
  | .bytes b _ => some (.byt b)
  | .float b _ => some (.flt b)
  | .ref a => some (.ref a)
  | .type n => some (.ty n)
  | _ => none
theorem RelV.abs {x : V} {u : Value} (r : RelV x u) : absV u = some x := by
  cases x with
  | non => cases r; rfl
  | bl _ => cases r; rfl
  | int _ => obtain ⟨t, rfl⟩ := r; rfl
  | str _ => obtain ⟨t, rfl⟩ := r; rfl
  | byt _ => obtain ⟨t, rfl⟩ := r; rfl
  | flt _ => obtain ⟨t, rfl⟩ := r; rfl
  | ref _ => cases r; rfl
  | ty _ => cases r; rfl
theorem RelV.inj {x y : V} {u : Value} (r : RelV x u) (q : RelV y u) : x = y := Option.some.inj (r.abs.symm.trans q.abs)
theorem Vals.inj {xs ys : List V} {us : List Value} (h : Vals xs us) (h' : Vals ys us) : xs = ys := by
  induction h generalizing ys with
  | nil => cases h'; rfl
  | cons r t ih =>
    cases h' with
    | cons r' t' => rw [r.inj r', ih t']
section
variable {X : Cx} {pins : List (Addr × Obj)} {σ : St} {H : Hp} {s : Shared} {a : Addr} {xs ys : List V}
theorem SqL.of {K : PySem.W.Frag} (h : H a = some (.lst xs)) : SqL K H a xs := .inl (.inl h)
theorem SqT.of {K : PySem.W.Frag} (h : H a = some (.tup xs)) : SqT K H a xs := .inl (.inl h)
theorem Inv.list (I : Inv X pins σ H s) (h : SqL X.K H a xs) : ∃ its : List Value, Vals xs its ∧ PlainL s.heap a its.toArray ∧ xs.length ≤ sizeLine := by
  rcases h with h | ⟨o, its, n, hk, hc, hd, hs, hz, r⟩
  · obtain ⟨z, its, n, r, e⟩ := h.ok I.hok
    exact ⟨its, r, ⟨_, n, e, rfl, rfl, rfl⟩, z⟩
  · refine ⟨its.toList, r, ⟨o, n, I.kIn a o hk, hc, hd, by simpa using hs⟩, ?_⟩
    have e := r.length
    simp only [Array.length_toList] at e
    omega
theorem Inv.tuple (I : Inv X pins σ H s) (h : SqT X.K H a xs) : ∃ its : List Value, Vals xs its ∧ IsTup s.heap a its.toArray ∧ xs.length ≤ sizeLine := by
  rcases h with h | ⟨o, its, n, hk, hc, hs, hz, r⟩
  · obtain ⟨z, its, r, p⟩ := h.ok I.hok
    exact ⟨its, r, p, z⟩
  · refine ⟨its.toList, r, ⟨o, I.kIn a o hk, hc, n, by simpa using hs⟩, ?_⟩
    have e := r.length
    simp only [Array.length_toList] at e
    omega
theorem Inv.list_inj (I : Inv X pins σ H s) (h : SqL X.K H a xs) (h' : SqL X.K H a ys) : xs = ys := by
  obtain ⟨its, r, ⟨o, n, e, _, _, d⟩, _⟩ := I.list h
  obtain ⟨its', r', ⟨o', n', e', _, _, d'⟩, _⟩ := I.list h'
  rw [e] at e'; cases e'
  rw [d] at d'
  injection d' with d1 _
  have : its = its' := by simpa using congrArg Array.toList d1
  subst this
  exact r.inj r'
theorem Inv.tuple_inj (I : Inv X pins σ H s) (h : SqT X.K H a xs) (h' : SqT X.K H a ys) : xs = ys := by
  obtain ⟨its, r, ⟨o, e, _, n, d⟩, _⟩ := I.tuple h
  obtain ⟨its', r', ⟨o', e', _, n', d'⟩, _⟩ := I.tuple h'
  rw [e] at e'; cases e'
  rw [d] at d'
  injection d' with d1 _
  have : its = its' := by simpa using congrArg Array.toList d1
  subst this
  exact r.inj r'
end
abbrev Cx.wish (X : Cx) (E : Value → Shared → Prop) : Cx := { X with xe := E }
abbrev Cx.nox (X : Cx) : Cx := X.wish fun _ _ => False
theorem Cx.Ok.wish {X : Cx} (ok : X.Ok) (E : Value → Shared → Prop) : (X.wish E).Ok :=
  ⟨ok.mod, ok.kind, ok.glob, ok.blt, ok.above, ok.inj, ok.has, ok.cab, ok.hd, ok.frames, ok.stk, ok.exf, ok.bs, ok.bsz, ok.noex, ok.exfs, ok.funs, ok.frf⟩
theorem Cx.Ok.unwish {X : Cx} {E : Value → Shared → Prop} (ok : (X.wish E).Ok) : X.Ok :=
  ⟨ok.mod, ok.kind, ok.glob, ok.blt, ok.above, ok.inj, ok.has, ok.cab, ok.hd, ok.frames, ok.stk, ok.exf, ok.bs, ok.bsz, ok.noex, ok.exfs, ok.funs, ok.frf⟩
section
variable {X : Cx} {pins : List (Addr × Obj)} {σ : St} {H : Hp} {s : Shared} {E : Value → Shared → Prop}
theorem Inv.wish (I : Inv X pins σ H s) (E : Value → Shared → Prop) : Inv (X.wish E) pins σ H s := ⟨I.ok.wish E, I.os, I.bare, I.base, I.loc, I.cell, I.free, I.freeC, I.pin, I.hok, I.len⟩
theorem Inv.unwish (I : Inv (X.wish E) pins σ H s) : Inv X pins σ H s := ⟨I.ok.unwish, I.os, I.bare, I.base, I.loc, I.cell, I.free, I.freeC, I.pin, I.hok, I.len⟩
theorem SP.unwish {D : Ends} {f : Flow} {s' : Shared} (h : SP (X.wish E) pins D f s') : SP X pins D f s' := by
  cases f with
  | next => obtain ⟨σ', H', I, q⟩ := h; exact ⟨σ', H', I.unwish, q⟩
  | brk => obtain ⟨σ', H', I, q⟩ := h; exact ⟨σ', H', I.unwish, q⟩
  | cont => obtain ⟨σ', H', I, q⟩ := h; exact ⟨σ', H', I.unwish, q⟩
  | ret u => obtain ⟨v, σ', H', I, r, q⟩ := h; exact ⟨v, σ', H', I.unwish, r, q⟩
theorem PSs.nox {st : List Stmt} {t : TS} (h : PSs X.nox st t) : PSs X st t := fun pins s σ H D I hw =>
  wpAny_mono (h pins s σ H D (I.wish _) hw) (fun _ _ q => q.unwish) fun _ _ z => False.elim z
end
section
variable {X : Cx} {st : Stmt} {rest : List Stmt} {t u : TS} {e : Expr} {te : TE} {pos : Pos}
def tNext : TS := fun D σ H => D.nx σ H
def tSeq (t u : TS) : TS := fun D σ H => t { D with nx := u D } σ H
theorem pss_nil : PSs X [] tNext := fun _ _ σ H _ I h => wpAny_execs_nil ⟨σ, H, I, h⟩
theorem pss_cons (h1 : PS X st t) (h2 : PSs X rest u) : PSs X (st :: rest) (tSeq t u) := by
  intro pins s σ H D I h
  refine wpAny_execs_cons (thn (h1 pins s σ H { D with nx := u D } I h) fun f s1 q => ?_)
  cases f with
  | next =>
    obtain ⟨σ', H', I', q⟩ := q
    exact h2 pins s1 σ' H' D I' q
  | ret v => exact q
  | brk => exact q
  | cont => exact q
theorem pss_one (h1 : PS X st t) : PSs X [st] t := by
  intro pins s σ H D I h
  refine wpAny_execs_cons (thn (h1 pins s σ H D I h) fun f s1 q => ?_)
  cases f with
  | next => exact wpAny_execs_nil q
  | ret v => exact q
  | brk => exact q
  | cont => exact q
theorem Inv.quiet {pins : List (Addr × Obj)} {σ : St} {H : Hp} {s : Shared} (I : Inv X pins σ H s) : interactive X.env = false := by simp [interactive, I.ok.kind]
def tDrop (te : TE) : TS := fun D σ H => te σ H fun _ H1 => D.nx σ H1
theorem ps_expr (he : PE X e te) (hs : swapsWith e none pos.line X.env = pure false := by rfl) : PS X (.Expr e pos) (tDrop te) := by
  intro pins s σ H D I h
  exact wpAny_Expr_any (thn (he pins s σ H _ I h) fun v s1 ⟨x, H1, I1, r1, q1⟩ => ⟨σ, H1, I1, q1⟩) I.quiet hs
def tRet (te : TE) : TS := fun D σ H => te σ H D.rt
theorem ps_ret (he : PE X e te) : PS X (.Return (some e) pos) (tRet te) := by
  intro pins s σ H D I h
  exact wpAny_Return_some (thn (he pins s σ H _ I h) fun v s1 ⟨x, H1, I1, r1, q1⟩ => ⟨x, σ, H1, I1, r1, q1⟩)
def tIfS (c : TT) (t u : TS) : TS := fun D σ H => c σ H fun b H1 => if b = true then t D σ H1 else u D σ H1
theorem ps_if {c : Expr} {a b : List Stmt} {tc : TT} (hc : PT X c tc) (ha : PSs X a t) (hb : PSs X b u) : PS X (.If c a b pos) (tIfS tc t u) := by
  intro pins s σ H D I h
  refine wpAny_If (thn (hc pins s σ H _ I h) fun d s1 ⟨H1, I1, q1⟩ => ?_)
  cases d with
  | true => exact ha pins s1 σ H1 D I1 q1
  | false => exact hb pins s1 σ H1 D I1 q1
def tNever : TS := fun _ _ _ => False
theorem pss_never {sts : List Stmt} : PSs X sts tNever := fun _ _ _ _ _ _ h => h.elim
end
abbrev TG := V → St → Hp → (St → Hp → Prop) → Prop
abbrev TGs := List V → St → Hp → (St → Hp → Prop) → Prop
def PG (X : Cx) (target : Expr) (t : TG) : Prop :=
  ∀ (pins : List (Addr × Obj)) (s : Shared) (σ : St) (H : Hp) (v : V) (u : Value) (Q : St → Hp → Prop), Inv X pins σ H s → RelV v u → t v σ H Q →
    wpAny (model X.prog X.w) X.A (assign target X.env u) (fun _ s' => ∃ σ' H', Inv X pins σ' H' s' ∧ Q σ' H') X.xe s
def PGs (X : Cx) (ts : List Expr) (t : TGs) : Prop :=
  ∀ (pins : List (Addr × Obj)) (s : Shared) (σ : St) (H : Hp) (vs : List V) (us : List Value) (Q : St → Hp → Prop), Inv X pins σ H s → Vals vs us → t vs σ H Q →
    wpAny (model X.prog X.w) X.A (assignInOrder ((assignEach ts X.env).map (·.2)) us) (fun _ s' => ∃ σ' H', Inv X pins σ' H' s' ∧ Q σ' H') X.xe s
abbrev TSet := V → V → V → Hp → (Hp → Prop) → Prop
def PSet (X : Cx) (t : TSet) : Prop :=
  ∀ (pins : List (Addr × Obj)) (s : Shared) (σ : St) (H : Hp) (o i v : V) (ov iv u : Value) (Q : Hp → Prop), Inv X pins σ H s → RelV o ov → RelV i iv → RelV v u → t o i v H Q →
    wpAny (model X.prog X.w) X.A (setItem ov iv u) (fun _ s' => ∃ H', Inv X pins σ H' s' ∧ Q H') X.xe s
section
variable {X : Cx} {pos : Pos}
def gName (i : Nat) : TG := fun v σ H Q => Q (σ.set i (some v)) H
theorem pg_name {i : Nat} {x : Str} (hN : X.N.Nodup) (hi : X.N[i]? = some x) (hx : Loc X.env.scope x) (hf : X.fn x = true ∨ X.env.scope.names.lookup x = some .local := by first | exact .inl rfl | exact .inr rfl | assumption) : PG X (.Name x pos) (gName i) := by
  intro pins s σ H v u Q I r h
  exact wpAny_assign_Name (store_ok I hN hi hx r (fun s' I' => ⟨_, H, I', h⟩) hf)
def gNil : TGs := fun vs σ H Q => vs = [] ∧ Q σ H
def gCons (t : TG) (u : TGs) : TGs := fun vs σ H Q => ∃ v r, vs = v :: r ∧ t v σ H fun σ' H' => u r σ' H' Q
theorem pgs_nil : PGs X [] gNil := by
  intro pins s σ H vs us Q I r h
  obtain ⟨e, h⟩ := h
  subst e
  cases r
  exact assignInOrder_nil ⟨σ, H, I, h⟩
theorem pgs_cons {e : Expr} {es : List Expr} {t : TG} {u : TGs} (h1 : PG X e t) (h2 : PGs X es u)
    (hs : (assignEach (e :: es) X.env).map (·.2) = assign e X.env :: (assignEach es X.env).map (·.2) := by rfl) : PGs X (e :: es) (gCons t u) := by
  intro pins s σ H vs us Q I r h
  obtain ⟨v, vr, e1, h⟩ := h
  subst e1
  cases r with
  | cons r rr =>
    rw [hs]
    refine assignInOrder_cons (thn (h1 pins s σ H _ _ _ I r h) fun _ s1 ⟨σ1, H1, I1, q1⟩ => ?_)
    exact h2 pins s1 σ1 H1 _ _ Q I1 rr q1
def gTup (K : PySem.W.Frag) (n : Nat) (t : TGs) : TG := fun v σ H Q => ∃ a xs, v = .ref a ∧ SqT K H a xs ∧ xs.length = n ∧ t xs σ H Q
theorem pg_tup {es : List Expr} {k : Nat} {t : TGs} {n : Nat} (hc : X.calm = true) (h : PGs X es t)
    (hn : (assignEach es X.env).length = n := by rfl) (hst : (assignEach es X.env).findIdx? (·.1) = none := by rfl) : PG X (.Tuple es k pos) (gTup X.K n t) := by
  intro pins s σ H v u Q I r hw
  obtain ⟨a, xs, e1, hq, hl, hw⟩ := hw
  subst e1
  cases r
  obtain ⟨its, rv, ht, hz⟩ := I.tuple hq
  refine assign_Tuple_tuple (I.ok.hd hc) ht (by simp [hn, ← hl, rv.length]) hst fun h' hx => ?_
  have I1 : Inv X pins σ H { s with heap := h' } := I.kept (t' := s.toks) fun b o e => hx b o (Nat.ne_of_lt (Heap.lt_size e)) e
  exact h pins _ σ H xs _ Q I1 (by simpa using rv) hw
def gSub (to ti : TE) (t : TSet) : TG := fun v σ H Q => to σ H fun o H1 => ti σ H1 fun i H2 => t o i v H2 fun H3 => Q σ H3
theorem pg_sub {o i : Expr} {to ti : TE} {t : TSet} (ho : PE X o to) (hi : PE X i ti) (hs : PSet X t)
    (ha : ∀ v, assign (.Subscript o i pos) X.env v = (do
      let ov ← holding [v] (eval o X.env)
      let iv ← holding [v, ov] (eval i X.env)
      standAt pos
      holding [v, ov, iv] (setItem ov iv v)
      release [v, ov, iv] []) := by intro _; rfl) : PG X (.Subscript o i pos) (gSub to ti t) := by
  intro pins s σ H v u Q I r h
  rw [ha]
  refine wpAny_bind (wpAny_holding (thn (ho pins s σ H _ I h) fun ov s1 ⟨x, H1, I1, r1, q1⟩ => ?_))
  refine wpAny_bind (wpAny_holding (thn (hi pins s1 σ H1 _ I1 q1) fun iv s2 ⟨y, H2, I2, r2, q2⟩ => ?_))
  refine wpAny_bind (wpAny_standAt (wpAny_bind (wpAny_holding (thn (hs pins s2 σ H2 x y v ov iv u _ I2 r1 r2 r q2) fun _ s3 ⟨H3, I3, q3⟩ => ?_))))
  exact wpAny_release ⟨σ, H3, I3, q3⟩
def tAsg (te : TE) (g : TG) : TS := fun D σ H => te σ H fun x H1 => g x σ H1 D.nx
theorem ps_asg {tg e : Expr} {te : TE} {g : TG} (he : PE X e te) (hg : PG X tg g) (hs : swapsWithSole [tg] e pos.line X.env = pure false := by rfl) (hw : swappedStores [tg] e X.env = pure none := by rfl)
    (h1 : (assignEach [tg] X.env).map (·.2) = [assign tg X.env] := by rfl) : PS X (.Assign [tg] e pos) (tAsg te g) := by
  intro pins s σ H D I h
  refine wpAny_Assign_stores (thn (he pins s σ H _ I h) fun v s1 ⟨x, H1, I1, r1, q1⟩ => ?_) hs hw
  rw [h1]
  exact thn (hg pins s1 σ H1 x v _ I1 r1 q1) fun _ s2 q => q
theorem ps_set {i : Nat} {x : Str} {e : Expr} {te : TE} {pos' : Pos} (hN : X.N.Nodup) (hi : X.N[i]? = some x) (hx : Loc X.env.scope x) (he : PE X e te) (hs : swapsWith e (some (.Name x pos')) pos.line X.env = pure false := by rfl) (hf : X.fn x = true ∨ X.env.scope.names.lookup x = some .local := by first | exact .inl rfl | exact .inr rfl | assumption) :
    PS X (.Assign [.Name x pos'] e pos) (tAsg te (gName i)) := by
  intro pins s σ H D I h
  refine wpAny_Assign_Name (thn (he pins s σ H _ I h) fun v s1 ⟨y, H1, I1, r1, q1⟩ => ?_) hs
  exact store_ok I1 hN hi hx r1 (fun s2 I2 => ⟨_, H1, I2, q1⟩) hf
end
section
variable {X : Cx} {pos : Pos}
def tWhile (c : TT) (tb : TS) : TS := fun D σ H => ∃ W : Nat → St → Hp → Prop, (∃ m, W m σ H) ∧ ∀ m σ H, W m σ H →
  c σ H fun b H1 => if b = true then ∃ N : St → Hp → Prop, (∀ σ' H', N σ' H' → ∃ m', m' < m ∧ W m' σ' H') ∧ tb { D with nx := N, ct := N, bk := D.nx } σ H1 else D.nx σ H1
theorem ps_while {c : Expr} {body : List Stmt} {tc : TT} {tb : TS} (hp : PassesOwn (model X.prog X.w) X.A X.env X.xe) (hc : PT X c tc) (hb : PSs X body tb) : PS X (.While c body [] pos) (tWhile tc tb) := by
  intro pins s σ H D I h
  obtain ⟨W, ⟨m0, w0⟩, turn⟩ := h
  refine wpAny_While (codeAny_whileLoop (fun n s' => ∃ σ' H', Inv X pins σ' H' s' ∧ W n σ' H') ?_ m0 ⟨σ, H, I, w0⟩)
  rintro n s1 ⟨σ1, H1, I1, w1⟩
  refine wpAny_passesOwn hp (thn (hc pins s1 σ1 H1 _ I1 (turn n σ1 H1 w1)) fun b s2 ⟨H2, I2, q2⟩ => ?_)
  cases b with
  | true =>
    obtain ⟨N, hN, q2⟩ := q2
    rw [if_pos rfl]
    refine wpAny_passesOwn hp (thn (hb pins s2 σ1 H2 _ I2 q2) fun f s3 q3 => ?_)
    cases f with
    | next =>
      obtain ⟨σ3, H3, I3, n3⟩ := q3
      obtain ⟨m', hm, w3⟩ := hN σ3 H3 n3
      exact ⟨m', hm, σ3, H3, I3, w3⟩
    | cont =>
      obtain ⟨σ3, H3, I3, n3⟩ := q3
      obtain ⟨m', hm, w3⟩ := hN σ3 H3 n3
      exact ⟨m', hm, σ3, H3, I3, w3⟩
    | brk => exact q3
    | ret v => exact q3
  | false =>
    rw [if_neg Bool.false_ne_true]
    exact wpAny_execs_nil ⟨σ1, H2, I2, q2⟩
end
structure It where
  go : Nat → Hp → Prop
  yld : Nat → Hp → V → Hp → Prop
  stop : Nat → Hp → Prop
def FpOk (X : Cx) (pins : List (Addr × Obj)) (H : Hp) (b : Addr) : Prop :=
  H b = none ∧ b ≠ X.env.locals ∧ b ∉ X.fs ∧ (b ∈ X.ex ∨ X.s₀.heap.objs.size ≤ b) ∧ (∀ x c, X.env.cells.lookup x = some c → c ≠ b) ∧ ∀ p ∈ X.pn ++ pins, p.1 ≠ b
theorem Inv.fpOk {X : Cx} {pins : List (Addr × Obj)} {σ : St} {H H' : Hp} {s : Shared} {b : Addr} (I : Inv X pins σ H s) (hb : s.heap.objs.size ≤ b) (hn : H' b = none) : FpOk X pins H' b := by
  refine ⟨hn, Nat.ne_of_gt (Nat.lt_of_lt_of_le I.lt hb), I.nofs hb, .inr (Nat.le_trans I.sz hb), fun x c e z => ?_, fun p hp z => ?_⟩
  · obtain ⟨v, q⟩ := I.cell x c e
    exact absurd (Nat.lt_of_lt_of_le q.lt (by rw [z]; exact hb)) (Nat.lt_irrefl _)
  · exact absurd (Nat.lt_of_lt_of_le (Heap.lt_size (I.pin p hp).1) (by rw [z]; exact hb)) (Nat.lt_irrefl _)
structure Turn (P : Program) (w : World) (K : PySem.W.Frag) (tg : Expr) (J : It) (fp : List Addr) (it : Addr) (tn : Nat → Heap → Prop) : Prop where
  mem : it ∈ fp
  obj : ∀ i h, tn i h → ∀ b ∈ fp, ∃ o, h.get? b = some o ∧ ∀ v, o.data ≠ .cell v
  keep : ∀ i h h', tn i h → (∀ b ∈ fp, ∀ o, h.get? b = some o → h'.get? b = some o) → tn i h'
  item : ∀ (X : Cx), X.prog = P → X.w = w → X.K = K → X.calm = true → ∀ (i : Nat) (pins : List (Addr × Obj)) (s : Shared) (σ : St) (H : Hp) (E : Value → Shared → Prop), Inv X pins σ H s → (∀ b ∈ fp, FpOk X pins H b) → tn i s.heap → J.go i H →
    wpAny (model P w) X.A (pyNext (.ref it)) (fun r s1 => ∃ u, r = some u ∧
      wpAny (model P w) X.A (letOwnedTupleGo tg (.ref it) u) (fun _ s2 => ∃ x H', Inv X pins σ H' s2 ∧ RelV x u ∧ J.yld i H x H' ∧ tn (i + 1) s2.heap ∧ ∀ b ∈ fp, H' b = none) E s1) E s
  done : ∀ (X : Cx), X.prog = P → X.w = w → X.K = K → X.calm = true → ∀ (i : Nat) (pins : List (Addr × Obj)) (s : Shared) (σ : St) (H : Hp) (E : Value → Shared → Prop), Inv X pins σ H s → (∀ b ∈ fp, FpOk X pins H b) → tn i s.heap → J.stop i H →
    wpAny (model P w) X.A (pyNext (.ref it)) (fun r s1 => r = none ∧ Inv X pins σ H s1) E s
  self : ∀ (A : Around) (i : Nat) (s : Shared) (Q : Value → Shared → Prop) (E : Value → Shared → Prop), tn i s.heap → Q (.ref it) s → wpAny (model P w) A (pyIter (.ref it)) Q E s
abbrev TI := St → Hp → (It → Hp → Prop) → Prop
def PIE (X : Cx) (pins : List (Addr × Obj)) (σ : St) (tg : Expr) (R : It → Hp → Prop) (itv : Value) (s2 : Shared) : Prop :=
  ∃ (it : Addr) (fp : List Addr) (tn : Nat → Heap → Prop) (J : It) (H' : Hp), itv = .ref it ∧ Inv X pins σ H' s2 ∧ Turn X.prog X.w X.K tg J fp it tn ∧ tn 0 s2.heap ∧ (∀ b ∈ fp, FpOk X pins H' b) ∧ R J H'
def PI (X : Cx) (tg iter : Expr) (wi : TI) : Prop :=
  ∀ (pins : List (Addr × Obj)) (s : Shared) (σ : St) (H : Hp) (R : It → Hp → Prop), Inv X pins σ H s → wi σ H R →
    wpAny (model X.prog X.w) X.A (eval iter X.env) (fun v s1 => wpAny (model X.prog X.w) X.A (pyIter v) (PIE X pins σ tg R) X.xe s1) X.xe s
theorem go_of {M : Model} {A : Around} {E : Value → Shared → Prop} {s : Shared} {tg : Expr} {it : Addr} {u : Value} {o : Obj} {n : String} {vs : Array Value} {Q : Unit → Shared → Prop} (ho : s.heap.get? it = some o) (hc : o.cls = .type n) (hd : o.data = .fields vs)
    (hn : ["enumerate", "zip", "dict_itemiterator", "dict_reverseitemiterator", "odict_iterator", "itertools.zip_longest", "itertools.pairwise"].contains n = false) (hQ : Q () s) : wpAny M A (letOwnedTupleGo tg (.ref it) u) Q E s := by
  unfold letOwnedTupleGo
  cases tg <;> first
    | exact wpAny_pure hQ
    | (cases u <;> first
        | exact wpAny_pure hQ
        | (refine wpAny_bind (wpAny_load ho ?_)
           rw [hc, hd]
           show wpAny M A (if (["enumerate", "zip", "dict_itemiterator", "dict_reverseitemiterator", "odict_iterator", "itertools.zip_longest", "itertools.pairwise"].contains n && vs[0]? == some (rawInt _)) = true then _ else _) Q E s
           rw [if_neg (by intro h; rw [hn, Bool.false_and] at h; cases h)]
           exact wpAny_pure hQ))
def Itl (K : PySem.W.Frag) (a : Addr) : It :=
  ⟨fun i H => ∃ xs x, SqL K H a xs ∧ xs[i]? = some x, fun i H x H' => H' = H ∧ ∀ xs, SqL K H a xs → xs[i]? = some x, fun i H => ∃ xs, SqL K H a xs ∧ xs.length ≤ i⟩
def Itt (K : PySem.W.Frag) (a : Addr) : It :=
  ⟨fun i H => ∃ xs x, SqT K H a xs ∧ xs[i]? = some x, fun i H x H' => H' = H ∧ ∀ xs, SqT K H a xs → xs[i]? = some x, fun i H => ∃ xs, SqT K H a xs ∧ xs.length ≤ i⟩
def Itr (lo : Int) (n : Nat) : It := ⟨fun i _ => i < n, fun i H x H' => H' = H ∧ x = .int (lo + i), fun i _ => n ≤ i⟩
theorem turn_list {P : Program} {w : World} {K : PySem.W.Frag} {tg : Expr} (a it : Addr) : Turn P w K tg (Itl K a) [it] it (fun i h => h.IsListIter it a i) where
  mem := by simp
  obj := fun i h st b hb => by
    have e : b = it := by simpa using hb
    subst e
    obtain ⟨o, e, c, d⟩ := st
    exact ⟨o, e, fun v z => by rw [d] at z; cases z⟩
  keep := fun i h h' st k => st.at fun o e => k it (by simp) o e
  item := by
    intro X hP hw hK hc i pins s σ H E I hf st hg
    subst hP hw hK
    obtain ⟨xs, x, hq, hx⟩ := hg
    obtain ⟨its, rv, p, hz⟩ := I.list hq
    obtain ⟨u, hu, ru⟩ := rv.get hx
    obtain ⟨f0, f1, f2, f3, f4, f5⟩ := hf it (by simp)
    refine wpAny_pyNext_list_item st p.isList (x := u) (by simpa using hu) fun h' st' sb => ?_
    have I1 : Inv X pins σ H { s with heap := h' } := I.turned (t' := s.toks) (fun b o hb e => (sb.2 b hb).trans e) f0 f1 f3 f4 f5
    obtain ⟨o, e, c, d⟩ := id st'
    exact ⟨u, rfl, go_of (s := { s with heap := h' }) e c d (by decide) ⟨x, H, I1, ru, ⟨rfl, fun ys hy => by rw [I.list_inj hy hq]; exact hx⟩, st', fun b hb => (hf b hb).1⟩⟩
  done := by
    intro X hP hw hK hc i pins s σ H E I hf st hg
    subst hP hw hK
    obtain ⟨xs, hq, hx⟩ := hg
    obtain ⟨its, rv, p, hz⟩ := I.list hq
    obtain ⟨f0, f1, f2, f3, f4, f5⟩ := hf it (by simp)
    have hl := rv.length
    exact wpAny_pyNext_list_end (I.ok.hd hc) st p.isList (by simp; omega) fun h' eb => ⟨rfl, I.turned (t' := s.toks) (fun b o hb e => eb b o hb e) f0 f1 f3 f4 f5⟩
  self := fun _ _ _ _ _ st h => wpAny_pyIter_listiter st h
theorem turn_tuple {P : Program} {w : World} {K : PySem.W.Frag} {tg : Expr} (a it : Addr) : Turn P w K tg (Itt K a) [it] it (fun i h => h.IsTupleIter it a i) where
  mem := by simp
  obj := fun i h st b hb => by
    have e : b = it := by simpa using hb
    subst e
    obtain ⟨o, e, c, d⟩ := st
    exact ⟨o, e, fun v z => by rw [d] at z; cases z⟩
  keep := fun i h h' st k => st.at fun o e => k it (by simp) o e
  item := by
    intro X hP hw hK hc i pins s σ H E I hf st hg
    subst hP hw hK
    obtain ⟨xs, x, hq, hx⟩ := hg
    obtain ⟨its, rv, p, hz⟩ := I.tuple hq
    obtain ⟨u, hu, ru⟩ := rv.get hx
    obtain ⟨f0, f1, f2, f3, f4, f5⟩ := hf it (by simp)
    refine wpAny_pyNext_tuple_item st (show s.heap.IsTuple a its.toArray from p) (x := u) (by simpa using hu) fun h' st' sb => ?_
    have I1 : Inv X pins σ H { s with heap := h' } := I.turned (t' := s.toks) (fun b o hb e => (sb.2 b hb).trans e) f0 f1 f3 f4 f5
    obtain ⟨o, e, c, d⟩ := id st'
    exact ⟨u, rfl, go_of (s := { s with heap := h' }) e c d (by decide) ⟨x, H, I1, ru, ⟨rfl, fun ys hy => by rw [I.tuple_inj hy hq]; exact hx⟩, st', fun b hb => (hf b hb).1⟩⟩
  done := by
    intro X hP hw hK hc i pins s σ H E I hf st hg
    subst hP hw hK
    obtain ⟨xs, hq, hx⟩ := hg
    obtain ⟨its, rv, p, hz⟩ := I.tuple hq
    obtain ⟨f0, f1, f2, f3, f4, f5⟩ := hf it (by simp)
    have hl := rv.length
    exact wpAny_pyNext_tuple_end (I.ok.hd hc) st (show s.heap.IsTuple a its.toArray from p) (by simp; omega) fun h' eb => ⟨rfl, I.turned (t' := s.toks) (fun b o hb e => eb b o hb e) f0 f1 f3 f4 f5⟩
  self := fun _ _ _ _ _ st h => wpAny_pyIter_tupleiter st h
theorem turn_range {P : Program} {w : World} {K : PySem.W.Frag} {tg : Expr} (it : Addr) (lo : Int) (n : Nat) : Turn P w K tg (Itr lo n) [it] it (fun i h => IsRangeIter h it (lo + (i : Nat) * 1) ((n : Int) - (i : Nat)) 1) where
  mem := by simp
  obj := fun i h st b hb => by
    have e : b = it := by simpa using hb
    subst e
    exact ⟨_, st, fun v z => by
      have z' : Data.fields _ = Data.cell v := z
      cases z'⟩
  keep := fun i h h' st k => k it (by simp) _ st
  item := by
    intro X hP hw hK hc i pins s σ H E I hf st hg
    subst hP hw hK
    obtain ⟨f0, f1, f2, f3, f4, f5⟩ := hf it (by simp)
    have W := Walks.range (prog := X.prog) (w := X.w) (I.ok.hd hc) it lo 1 n
    refine W.item i s _ _ hg st fun v h' tk hv st' kk => ?_
    obtain ⟨t, rfl⟩ := hv
    have I1 : Inv X pins σ H { s with heap := h', toks := tk } := I.turned (fun b o hb e => kk b o (by simpa using hb) e) f0 f1 f3 f4 f5
    refine ⟨_, rfl, go_of (s := { s with heap := h', toks := tk }) (n := "range_iterator") st' rfl rfl (by decide) ⟨.int (lo + i), H, I1, ⟨t, ?_⟩, ⟨rfl, rfl⟩, st', fun b hb => (hf b hb).1⟩⟩
    rw [Int.mul_one]
  done := by
    intro X hP hw hK hc i pins s σ H E I hf st hg
    subst hP hw hK
    obtain ⟨f0, f1, f2, f3, f4, f5⟩ := hf it (by simp)
    exact wpAny_pyNext_range_end (I.ok.hd hc) st (by have : n ≤ i := hg; omega) fun h' eb => ⟨rfl, I.turned (t' := s.toks) (fun b o hb e => eb b o hb e) f0 f1 f3 f4 f5⟩
  self := fun _ _ _ _ _ st h => wpAny_pyIter_rangeiter st h
end L2
namespace L2
open PySem PySem.Spec PyProof.Rows
section
variable {X : Cx} {tg : Expr}
def iList (K : PySem.W.Frag) (tl : TE) : TI := fun σ H R => tl σ H fun x H1 => ∃ a, x = .ref a ∧ (∃ xs, SqL K H1 a xs) ∧ R (Itl K a) H1
theorem pi_list {l : Expr} {tl : TE} (hl : PE X l tl) : PI X tg l (iList X.K tl) := by
  intro pins s σ H R I h
  refine thn (hl pins s σ H _ I h) fun v s1 ⟨x, H1, I1, r1, q1⟩ => ?_
  obtain ⟨a, e, ⟨xs, hq⟩, q⟩ := q1
  subst e
  cases r1
  obtain ⟨its, rv, p, hz⟩ := I1.list hq
  refine wpAny_pyIter_list p.isList ?_
  refine ⟨s1.heap.objs.size, [s1.heap.objs.size], _, _, H1, rfl, I1.kept (t' := s1.toks) fun b o e => Heap.get?_push_of_some _ e, turn_list a _, ⟨_, Heap.get?_push_size _ rfl, rfl, rfl⟩, fun b hb => ?_, q⟩
  have e : b = s1.heap.objs.size := by simpa using hb
  subst e
  exact I1.fpOk (Nat.le_refl _) (I1.hok.fresh (Nat.le_refl _))
theorem range_it {pins : List (Addr × Obj)} {σ : St} {H : Hp} {s : Shared} {R : It → Hp → Prop} {E : Value → Shared → Prop} {lo hi : Int} {t u v : Tok} {tk : Nat} (I : Inv X pins σ H s) (h1 : -(2 ^ 62) ≤ lo) (h2 : lo < 2 ^ 62) (h3 : -(2 ^ 62) ≤ hi) (h4 : hi < 2 ^ 62)
    (q : R (Itr lo (hi - lo).toNat) H) : wpAny (model X.prog X.w) X.A (pyIter (.ref s.heap.objs.size)) (PIE X pins σ tg R) E { s with heap := s.heap.push { cls := .type "range", data := .fields #[.int lo t, .int hi u, .int 1 v] }, toks := tk } := by
  refine wpAny_pyIter_range (IsRange.new ..) (small_one h1 h2 h3 h4) ?_
  have I1 : Inv X pins σ H { s with heap := s.heap.push { cls := .type "range", data := .fields #[.int lo t, .int hi u, .int 1 v] }, toks := tk } := I.kept fun b o e => Heap.get?_push_of_some _ e
  refine ⟨(s.heap.push { cls := .type "range", data := .fields #[.int lo t, .int hi u, .int 1 v] }).objs.size, [(s.heap.push { cls := .type "range", data := .fields #[.int lo t, .int hi u, .int 1 v] }).objs.size], _, _, H, rfl,
    I1.kept (t' := tk) fun b o e => Heap.get?_push_of_some _ e, turn_range _ lo (hi - lo).toNat, ?_, fun b hb => ?_, q⟩
  · have e1 : lo + ((0 : Nat) : Int) * 1 = lo := by simp
    have e2 : (((hi - lo).toNat : Nat) : Int) - ((0 : Nat) : Int) = Builtin.Range.rangeSize lo hi 1 := by rw [rangeSize_one]; split <;> omega
    show IsRangeIter _ _ (lo + ((0 : Nat) : Int) * 1) ((((hi - lo).toNat : Nat) : Int) - ((0 : Nat) : Int)) 1
    rw [e1, e2]
    exact Heap.get?_push_size _ rfl
  · have e : b = (s.heap.push { cls := .type "range", data := .fields #[.int lo t, .int hi u, .int 1 v] }).objs.size := by simpa using hb
    subst e
    exact I1.fpOk (Nat.le_refl _) (I1.hok.fresh (Nat.le_refl _))
def iRng1 (ta : TA) : TI := fun σ H R => ta σ H fun vs H1 => ∃ j : Int, vs = [.int j] ∧ -(2 ^ 62) ≤ j ∧ j < 2 ^ 62 ∧ R (Itr 0 j.toNat) H1
def iRng2 (ta : TA) : TI := fun σ H R => ta σ H fun vs H1 => ∃ i j : Int, vs = [.int i, .int j] ∧ (-(2 ^ 62) ≤ i ∧ i < 2 ^ 62 ∧ -(2 ^ 62) ≤ j ∧ j < 2 ^ 62) ∧ R (Itr i (j - i).toNat) H1
theorem pi_range1 {a : Expr} {ta : TA} {p pos : Pos} (hg : Gl X "range") (hm : X.mg "range" = none) (ha : PA X [a] ta) (hs : starEach [a] X.env = [(false, eval a X.env)] := by rfl) : PI X tg (.Call (.Name "range" p) [a] [] pos) (iRng1 ta) := by
  intro pins s σ H R I h
  refine Call_ (ld_blt I hg hm boot_range (PyProof.Rows.callWith_type1 (thn (ha pos pins s σ H _ I h) fun us s1 ⟨vs, H1, I1, r1, q1⟩ => ?_) hs rfl))
  obtain ⟨j, e, q1, q2, q⟩ := q1
  subst e
  cases r1 with
  | cons r rr =>
    cases rr
    obtain ⟨t, rfl⟩ := r
    exact call_range_1 (range_it I1 (by omega) (by omega) q1 q2 (by simpa using q))
theorem pi_range2 {a b : Expr} {ta : TA} {p pos : Pos} (hg : Gl X "range") (hm : X.mg "range" = none) (ha : PA X [a, b] ta) (hs : starEach [a, b] X.env = [(false, eval a X.env), (false, eval b X.env)] := by rfl) (hs2 : starEach [b] X.env = [(false, eval b X.env)] := by rfl) :
    PI X tg (.Call (.Name "range" p) [a, b] [] pos) (iRng2 ta) := by
  intro pins s σ H R I h
  refine Call_ (ld_blt I hg hm boot_range (PyProof.Rows.callWith_type1 (thn (ha pos pins s σ H _ I h) fun us s1 ⟨vs, H1, I1, r1, q1⟩ => ?_) (by rw [hs, hs2]) (by rw [hs2]; rfl)))
  obtain ⟨i, j, e, ⟨q1, q2, q3, q4⟩, q⟩ := q1
  subst e
  cases r1 with
  | cons r rr =>
    cases rr with
    | cons r' rr =>
      cases rr
      obtain ⟨t, rfl⟩ := r
      obtain ⟨t', rfl⟩ := r'
      exact call_range_2 (range_it I1 q1 q2 q3 q4 q)
def tFor (wi : TI) (g : TG) (tb : TS) : TS := fun D σ H => wi σ H fun J H1 => ∃ W : Nat → Nat → St → Hp → Prop, (∃ m, W 0 m σ H1) ∧ ∀ i m σ H, W i m σ H →
  (J.stop i H ∧ D.nx σ H) ∨ (J.go i H ∧ ∃ N : St → Hp → Prop, (∀ σ' H', N σ' H' → ∃ m', m' < m ∧ W (i + 1) m' σ' H') ∧ ∀ x H', J.yld i H x H' → g x σ H' fun σ2 H2 => tb { D with nx := N, ct := N, bk := D.nx } σ2 H2)
def pinsAt (fp : List Addr) (h : Heap) : List (Addr × Obj) := fp.filterMap fun b => (h.get? b).map fun o => (b, o)
theorem mem_pinsAt {fp : List Addr} {h : Heap} {b : Addr} {o : Obj} (hb : b ∈ fp) (e : h.get? b = some o) : (b, o) ∈ pinsAt fp h := List.mem_filterMap.mpr ⟨b, hb, by rw [e]; rfl⟩
theorem of_pinsAt {fp : List Addr} {h : Heap} {p : Addr × Obj} (hp : p ∈ pinsAt fp h) : p.1 ∈ fp ∧ h.get? p.1 = some p.2 := by
  obtain ⟨b, hb, e⟩ := List.mem_filterMap.mp hp
  cases q : h.get? b with
  | none => rw [q] at e; cases e
  | some o =>
    rw [q] at e
    have e' : (b, o) = p := Option.some.inj e
    subst e'
    exact ⟨hb, q⟩
theorem Inv.pinned {pins : List (Addr × Obj)} {σ : St} {H : Hp} {s : Shared} {fp : List Addr} (I : Inv X pins σ H s) (hf : ∀ b ∈ fp, FpOk X pins H b) (ho : ∀ b ∈ fp, ∃ o, s.heap.get? b = some o ∧ ∀ v, o.data ≠ .cell v) : Inv X (pins ++ pinsAt fp s.heap) σ H s :=
  I.pins_of fun p hp => (List.mem_append.mp hp).elim (fun z => I.pin p (List.mem_append_right _ z)) fun z => by
    obtain ⟨hb, e⟩ := of_pinsAt z
    obtain ⟨f0, f1, f2, _⟩ := hf p.1 hb
    obtain ⟨o, e', d⟩ := ho p.1 hb
    rw [e] at e'; cases e'
    exact ⟨e, f0, f1, f2, d⟩
theorem Inv.unpinned {pins pl : List (Addr × Obj)} {σ : St} {H : Hp} {s : Shared} (I : Inv X (pins ++ pl) σ H s) : Inv X pins σ H s := I.pins_of fun p hp => I.pin p (List.mem_append_right _ (List.mem_append_left _ hp))
theorem ps_for {iter : Expr} {body : List Stmt} {wi : TI} {g : TG} {tb : TS} {pos : Pos} (hp : PassesOwn (model X.prog X.w) X.A X.env X.xe) (hc : X.calm = true) (hi : PI X tg iter wi) (hg : PG X tg g) (hb : PSs X body tb)
    (hs : ∀ x, foldedSetIterable iter X.env x = pure x := by intro _; rfl) : PS X (.For tg iter body [] pos) (tFor wi g tb) := by
  intro pins s σ H D I h
  refine wpAny_For (thn (hi pins s σ H _ I h) fun v s1 h1 => thn h1 fun itv s2 h2 => ?_) hs
  obtain ⟨it, fp, tn, J, H2, e, I2, T, st2, f2, W, ⟨m0, w0⟩, turn⟩ := h2
  subst e
  -- what stays true of the iterator's objects through the loop
  have stat : ∀ {H' : Hp}, (∀ b ∈ fp, H' b = none) → ∀ b ∈ fp, FpOk X pins H' b := fun hn b hb => ⟨hn b hb, (f2 b hb).2⟩
  refine codeAny_forLoop_any (fun n s' => ∃ i σ' H', Inv X pins σ' H' s' ∧ tn i s'.heap ∧ (∀ b ∈ fp, H' b = none) ∧ W i n σ' H') ?_ m0 ⟨0, σ, H2, I2, st2, fun b hb => (f2 b hb).1, w0⟩
  rintro n s3 ⟨i, σ3, H3, I3, st3, fr3, w3⟩
  rcases turn i n σ3 H3 w3 with ⟨stop, qn⟩ | ⟨go, N, hN, step⟩
  · refine wpAny_passesOwn hp (thn (T.done X rfl rfl rfl hc i pins s3 σ3 H3 X.xe I3 (stat fr3) st3 stop) fun r s4 ⟨hr, I4⟩ => ?_)
    subst hr
    exact wpAny_execs_nil ⟨σ3, H3, I4, qn⟩
  · refine wpAny_passesOwn hp (thn (T.item X rfl rfl rfl hc i pins s3 σ3 H3 X.xe I3 (stat fr3) st3 go) fun r s4 ⟨u, hr, h4⟩ => ?_)
    subst hr
    refine wpAny_passesOwn hp (thn h4 fun _ s5 ⟨x, H5, I5, r5, y5, st5, fr5⟩ => ?_)
    have I5' := I5.pinned (stat fr5) (T.obj _ _ st5)
    refine wpAny_passesOwn hp (thn (hg _ s5 σ3 H5 x u _ I5' r5 (step x H5 y5)) fun _ s6 ⟨σ6, H6, I6, q6⟩ => ?_)
    refine wpAny_passesOwn hp (thn (hb _ s6 σ6 H6 _ I6 q6) fun f s7 q7 => ?_)
    have again : ∀ {σ7 : St} {H7 : Hp}, Inv X (pins ++ pinsAt fp s5.heap) σ7 H7 s7 → N σ7 H7 → ∃ m, m < n ∧ ∃ i σ' H', Inv X pins σ' H' s7 ∧ tn i s7.heap ∧ (∀ b ∈ fp, H' b = none) ∧ W i m σ' H' := fun {σ7 H7} I7 n7 => by
      obtain ⟨m', hm, w7⟩ := hN σ7 H7 n7
      refine ⟨m', hm, i + 1, σ7, H7, I7.unpinned, T.keep _ _ _ st5 fun b hb o e => (I7.pin (b, o) (List.mem_append_right _ (List.mem_append_right _ (mem_pinsAt hb e)))).1, fun b hb => ?_, w7⟩
      obtain ⟨o, e, d⟩ := T.obj _ _ st5 b hb
      exact (I7.pin (b, o) (List.mem_append_right _ (List.mem_append_right _ (mem_pinsAt hb e)))).2.1
    cases f with
    | next => obtain ⟨σ7, H7, I7, n7⟩ := q7; exact again I7 n7
    | cont => obtain ⟨σ7, H7, I7, n7⟩ := q7; exact again I7 n7
    | brk => obtain ⟨σ7, H7, I7, q7⟩ := q7; exact ⟨σ7, H7, I7.unpinned, q7⟩
    | ret v => obtain ⟨x7, σ7, H7, I7, r7, q7⟩ := q7; exact ⟨x7, σ7, H7, I7.unpinned, r7, q7⟩
end
theorem for_list {K : PySem.W.Frag} {a : Addr} {xs : List V} {g : TG} {tb : TS} {D : Ends} {σ : St} {H : Hp} (Pv : Nat → St → Hp → Prop) (h0 : Pv 0 σ H) (hl : ∀ i σ H, i ≤ xs.length → Pv i σ H → SqL K H a xs)
    (hs : ∀ i x σ H, xs[i]? = some x → Pv i σ H → g x σ H fun σ2 H2 => tb { D with nx := Pv (i + 1), ct := Pv (i + 1), bk := D.nx } σ2 H2) (hd : ∀ σ H, Pv xs.length σ H → D.nx σ H) :
    ∃ W : Nat → Nat → St → Hp → Prop, (∃ m, W 0 m σ H) ∧ ∀ i m σ H, W i m σ H →
      ((Itl K a).stop i H ∧ D.nx σ H) ∨ ((Itl K a).go i H ∧ ∃ N : St → Hp → Prop, (∀ σ' H', N σ' H' → ∃ m', m' < m ∧ W (i + 1) m' σ' H') ∧ ∀ x H', (Itl K a).yld i H x H' → g x σ H' fun σ2 H2 => tb { D with nx := N, ct := N, bk := D.nx } σ2 H2) := by
  refine ⟨fun i m σ H => m = xs.length - i ∧ i ≤ xs.length ∧ Pv i σ H, ⟨xs.length, by simp, Nat.zero_le _, h0⟩, ?_⟩
  rintro i m σ H ⟨rfl, hi, p⟩
  have q := hl i σ H hi p
  by_cases hlt : i < xs.length
  · refine .inr ⟨⟨xs, xs[i], q, by simp [hlt]⟩, Pv (i + 1), fun σ' H' p' => ⟨xs.length - (i + 1), by omega, rfl, hlt, p'⟩, fun x H' y => ?_⟩
    obtain ⟨e, y⟩ := y
    subst e
    exact hs i x σ _ (y xs q) p
  · have e : i = xs.length := by omega
    subst e
    exact .inl ⟨⟨xs, q, Nat.le_refl _⟩, hd σ H p⟩
theorem for_tup {K : PySem.W.Frag} {a : Addr} {xs : List V} {g : TG} {tb : TS} {D : Ends} {σ : St} {H : Hp} (Pv : Nat → St → Hp → Prop) (h0 : Pv 0 σ H) (hl : ∀ i σ H, i ≤ xs.length → Pv i σ H → SqT K H a xs)
    (hs : ∀ i x σ H, xs[i]? = some x → Pv i σ H → g x σ H fun σ2 H2 => tb { D with nx := Pv (i + 1), ct := Pv (i + 1), bk := D.nx } σ2 H2) (hd : ∀ σ H, Pv xs.length σ H → D.nx σ H) :
    ∃ W : Nat → Nat → St → Hp → Prop, (∃ m, W 0 m σ H) ∧ ∀ i m σ H, W i m σ H →
      ((Itt K a).stop i H ∧ D.nx σ H) ∨ ((Itt K a).go i H ∧ ∃ N : St → Hp → Prop, (∀ σ' H', N σ' H' → ∃ m', m' < m ∧ W (i + 1) m' σ' H') ∧ ∀ x H', (Itt K a).yld i H x H' → g x σ H' fun σ2 H2 => tb { D with nx := N, ct := N, bk := D.nx } σ2 H2) := by
  refine ⟨fun i m σ H => m = xs.length - i ∧ i ≤ xs.length ∧ Pv i σ H, ⟨xs.length, by simp, Nat.zero_le _, h0⟩, ?_⟩
  rintro i m σ H ⟨rfl, hi, p⟩
  have q := hl i σ H hi p
  by_cases hlt : i < xs.length
  · refine .inr ⟨⟨xs, xs[i], q, by simp [hlt]⟩, Pv (i + 1), fun σ' H' p' => ⟨xs.length - (i + 1), by omega, rfl, hlt, p'⟩, fun x H' y => ?_⟩
    obtain ⟨e, y⟩ := y
    subst e
    exact hs i x σ _ (y xs q) p
  · have e : i = xs.length := by omega
    subst e
    exact .inl ⟨⟨xs, q, Nat.le_refl _⟩, hd σ H p⟩
theorem for_range {lo : Int} {n : Nat} {g : TG} {tb : TS} {D : Ends} {σ : St} {H : Hp} (Pv : Nat → St → Hp → Prop) (h0 : Pv 0 σ H)
    (hs : ∀ i σ H, i < n → Pv i σ H → g (.int (lo + i)) σ H fun σ2 H2 => tb { D with nx := Pv (i + 1), ct := Pv (i + 1), bk := D.nx } σ2 H2) (hd : ∀ σ H, Pv n σ H → D.nx σ H) :
    ∃ W : Nat → Nat → St → Hp → Prop, (∃ m, W 0 m σ H) ∧ ∀ i m σ H, W i m σ H →
      ((Itr lo n).stop i H ∧ D.nx σ H) ∨ ((Itr lo n).go i H ∧ ∃ N : St → Hp → Prop, (∀ σ' H', N σ' H' → ∃ m', m' < m ∧ W (i + 1) m' σ' H') ∧ ∀ x H', (Itr lo n).yld i H x H' → g x σ H' fun σ2 H2 => tb { D with nx := N, ct := N, bk := D.nx } σ2 H2) := by
  refine ⟨fun i m σ H => m = n - i ∧ i ≤ n ∧ Pv i σ H, ⟨n, by simp, Nat.zero_le _, h0⟩, ?_⟩
  rintro i m σ H ⟨rfl, hi, p⟩
  by_cases hlt : i < n
  · refine .inr ⟨hlt, Pv (i + 1), fun σ' H' p' => ⟨n - (i + 1), by omega, rfl, hlt, p'⟩, fun x H' y => ?_⟩
    obtain ⟨e, y⟩ := y
    subst e y
    exact hs i σ _ hlt p
  · have e : i = n := by omega
    subst e
    exact .inl ⟨Nat.le_refl _, hd σ H p⟩
end L2
namespace L2
open PySem PySem.Spec PyProof.Rows
abbrev R2 := V → V → Hp → VK → Prop
def OpR (X : Cx) (f : Value → Value → Sem Value) (r : R2) : Prop :=
  ∀ (pins : List (Addr × Obj)) (s : Shared) (σ : St) (H : Hp) (x y : V) (v u : Value) (Q : VK), Inv X pins σ H s → RelV x v → RelV y u → r x y H Q →
    wpAny (model X.prog X.w) X.A (f v u) (EP X pins σ Q) X.xe s
def UnR (X : Cx) (f : Value → Sem Value) (r : V → Hp → VK → Prop) : Prop :=
  ∀ (pins : List (Addr × Obj)) (s : Shared) (σ : St) (H : Hp) (x : V) (v : Value) (Q : VK), Inv X pins σ H s → RelV x v → r x H Q →
    wpAny (model X.prog X.w) X.A (f v) (EP X pins σ Q) X.xe s
def CallR (X : Cx) (f : Value) (r : List V → Hp → VK → Prop) : Prop :=
  ∀ (pins : List (Addr × Obj)) (s : Shared) (σ : St) (H : Hp) (xs : List V) (us : List Value) (Q : VK), Inv X pins σ H s → Vals xs us → r xs H Q →
    wpAny (model X.prog X.w) X.A (call f us) (EP X pins σ Q) X.xe s
def tOp (r : R2) (ta tb : TE) : TE := fun σ H Q => ta σ H fun x H1 => tb σ H1 fun y H2 => r x y H2 Q
def tUn (r : V → Hp → VK → Prop) (ta : TE) : TE := fun σ H Q => ta σ H fun x H1 => r x H1 Q
def rI (C : Int → Int → Prop) (g : Int → Int → V) : R2 := fun x y H Q => ∃ i j, x = .int i ∧ y = .int j ∧ C i j ∧ Q (g i j) H
def rI0 (g : Int → Int → V) : R2 := fun x y H Q => ∃ i j, x = .int i ∧ y = .int j ∧ Q (g i j) H
def rU (g : Int → V) : V → Hp → VK → Prop := fun x H Q => ∃ i, x = .int i ∧ Q (g i) H
section
variable {X : Cx} {a b c : Expr} {ta tb tc : TE} {pos : Pos}
theorem binT (ha : PE X a ta) (hb : PE X b tb) {pins : List (Addr × Obj)} {s : Shared} {σ : St} {H : Hp} {R : V → V → Hp → Prop} (I : Inv X pins σ H s)
    (h : ta σ H fun x H1 => tb σ H1 fun y H2 => R x y H2) {Q : Value → Shared → Prop} {f : Value → Value → Sem Value}
    (hf : ∀ v u s2 x y H2, Inv X pins σ H2 s2 → RelV x v → RelV y u → R x y H2 → wpAny (model X.prog X.w) X.A (f v u) Q X.xe s2) :
    wpAny (model X.prog X.w) X.A (eval a X.env) (fun v s₁ => wpAny (model X.prog X.w) X.A (eval b X.env) (fun u s₂ => wpAny (model X.prog X.w) X.A (f v u) Q X.xe s₂) X.xe s₁) X.xe s := by
  refine thn (ha pins s σ H _ I h) fun v s1 ⟨x, H1, I1, r1, q1⟩ => ?_
  refine thn (hb pins s1 σ H1 _ I1 q1) fun u s2 ⟨y, H2, I2, r2, q2⟩ => ?_
  exact hf v u s2 x y H2 I2 r1 r2 q2
theorem pe_op {op : Operator} {r : R2} (ho : OpR X (binaryOp op) r) (ha : PE X a ta) (hb : PE X b tb) : PE X (.BinOp a op b pos) (tOp r ta tb) := by
  intro pins s σ H Q I h
  exact wpAny_BinOp (binT ha hb I h fun v u s2 x y H2 I2 rx ry q => ho pins s2 σ H2 x y v u Q I2 rx ry q)
theorem pe_un {op : UnaryOp} {r : V → Hp → VK → Prop} (ho : UnR X (unaryOp op) r) (ha : PE X a ta) : PE X (.UnaryOp op a pos) (tUn r ta) := by
  intro pins s σ H Q I h
  exact UnaryOp_ (thn (ha pins s σ H _ I h) fun v s1 ⟨x, H1, I1, r1, q1⟩ => ho pins s1 σ H1 x v Q I1 r1 q1)
theorem opI {f : Value → Value → Sem Value} {C : Int → Int → Prop} {g : Int → Int → Int}
    (rule : ∀ (i j : Int) (t u : Tok) (s : Shared) (Q : Value → Shared → Prop) (E : Value → Shared → Prop), C i j → Q (.int (g i j) s.toks) { s with toks := s.toks + 1 } → wpAny (model X.prog X.w) X.A (f (.int i t) (.int j u)) Q E s) :
    OpR X f (rI C fun i j => .int (g i j)) := by
  intro pins s σ H x y v u Q I rx ry h
  obtain ⟨i, j, rfl, rfl, hc, q⟩ := h
  obtain ⟨t, rfl⟩ := rx
  obtain ⟨t', rfl⟩ := ry
  exact rule i j t t' s _ _ hc ⟨.int (g i j), H, I.tok _, ⟨_, rfl⟩, q⟩
theorem opI0 {f : Value → Value → Sem Value} {g : Int → Int → Int}
    (rule : ∀ (i j : Int) (t u : Tok) (s : Shared) (Q : Value → Shared → Prop) (E : Value → Shared → Prop), Q (.int (g i j) s.toks) { s with toks := s.toks + 1 } → wpAny (model X.prog X.w) X.A (f (.int i t) (.int j u)) Q E s) :
    OpR X f (rI0 fun i j => .int (g i j)) := by
  intro pins s σ H x y v u Q I rx ry h
  obtain ⟨i, j, rfl, rfl, q⟩ := h
  obtain ⟨t, rfl⟩ := rx
  obtain ⟨t', rfl⟩ := ry
  exact rule i j t t' s _ _ ⟨.int (g i j), H, I.tok _, ⟨_, rfl⟩, q⟩
theorem opB0 {f : Value → Value → Sem Value} {g : Int → Int → Bool}
    (rule : ∀ (i j : Int) (t u : Tok) (s : Shared) (Q : Value → Shared → Prop) (E : Value → Shared → Prop), Q (.bool (g i j)) s → wpAny (model X.prog X.w) X.A (f (.int i t) (.int j u)) Q E s) :
    OpR X f (rI0 fun i j => .bl (g i j)) := by
  intro pins s σ H x y v u Q I rx ry h
  obtain ⟨i, j, rfl, rfl, q⟩ := h
  obtain ⟨t, rfl⟩ := rx
  obtain ⟨t', rfl⟩ := ry
  exact rule i j t t' s _ _ ⟨.bl (g i j), H, I, rfl, q⟩
def CDiv (i j : Int) : Prop := 0 < j ∧ j < 1073741824
def CPow (i j : Int) : Prop := 0 ≤ j ∧ j ≤ 1000000 ∧ i.natAbs < 2 ^ 64
def CMul (i j : Int) : Prop := (-(2 ^ 64) < i ∧ i < 2 ^ 64) ∨ (-(2 ^ 64) < j ∧ j < 2 ^ 64)
theorem CMul.ok {i j : Int} (h : CMul i j) : IntMulOk i j := by
  rcases h with ⟨h1, h2⟩ | ⟨h1, h2⟩
  · exact .of_left (intBits_le_64 h1 h2)
  · exact .of_right (intBits_le_64 h1 h2)
theorem op_add : OpR X (binaryOp .Add) (rI0 fun i j => .int (i + j)) := opI0 fun _ _ _ _ _ _ _ q => add_int q
theorem op_sub : OpR X (binaryOp .Sub) (rI0 fun i j => .int (i - j)) := opI0 fun _ _ _ _ _ _ _ q => sub_int q
theorem op_mul : OpR X (binaryOp .Mult) (rI CMul fun i j => .int (i * j)) := opI fun _ _ _ _ _ _ _ hc q => mul_int q hc.ok
theorem op_fdiv : OpR X (binaryOp .FloorDiv) (rI CDiv fun i j => .int (i / j)) := opI fun i j _ _ _ _ _ hc q => by
  have h1 : (0 : Int) < j := hc.1
  have h2 : j < 1073741824 := hc.2
  exact floordiv_int (by omega) (by rw [Int.fdiv_eq_ediv_of_nonneg i (by omega)]; exact q) (.inl (PyProof.noPylong_small (by omega)))
theorem op_mod : OpR X (binaryOp .Mod) (rI (fun _ j => 0 < j) fun i j => .int (i % j)) := opI fun i j _ _ _ _ _ hc q => by
  have h1 : (0 : Int) < j := hc
  exact mod_int' (by omega) (by rw [Int.fmod_eq_emod_of_nonneg i (by omega)]; exact q)
theorem op_pow : OpR X (binaryOp .Pow) (rI CPow fun i j => .int (i ^ j.toNat)) := opI fun _ _ _ _ _ _ _ hc q => pow_int_small hc.1 hc.2.1 hc.2.2 q
theorem unI {f : Value → Sem Value} {g : Int → Int}
    (rule : ∀ (i : Int) (t : Tok) (s : Shared) (Q : Value → Shared → Prop) (E : Value → Shared → Prop), Q (.int (g i) s.toks) { s with toks := s.toks + 1 } → wpAny (model X.prog X.w) X.A (f (.int i t)) Q E s) :
    UnR X f (rU fun i => .int (g i)) := by
  intro pins s σ H x v Q I rx h
  obtain ⟨i, rfl, q⟩ := h
  obtain ⟨t, rfl⟩ := rx
  exact rule i t s _ _ ⟨.int (g i), H, I.tok _, ⟨_, rfl⟩, q⟩
theorem un_neg : UnR X (unaryOp .USub) (rU fun i => .int (-i)) := unI fun _ _ _ _ _ q => neg_int q
end
def scal : V → V → Bool
  | .non, .non => true | .non, .int _ => true | .int _, .non => true | .non, .bl _ => true | .bl _, .non => true | .non, .str _ => true | .str _, .non => true
  | .int _, .int _ => true | .bl _, .bl _ => true | .str _, .str _ => true | .byt _, .byt _ => true
  | .int _, .str _ => true | .str _, .int _ => true | .bl _, .str _ => true | .str _, .bl _ => true
  | _, _ => false
def rEq : R2 := fun x y H Q => scal x y = true ∧ Q (.bl (decide (x = y))) H
def rNe : R2 := fun x y H Q => scal x y = true ∧ Q (.bl (!decide (x = y))) H
theorem dec_int {i j : Int} : decide (V.int i = V.int j) = (i == j) := by
  rw [Bool.eq_iff_iff]
  simp
theorem dec_bl {i j : Bool} : decide (V.bl i = V.bl j) = (i == j) := by
  rw [Bool.eq_iff_iff]
  simp
theorem dec_str {i j : Str} : decide (V.str i = V.str j) = (i == j) := by
  rw [Bool.eq_iff_iff]
  simp
theorem dec_byt {i j : Array UInt8} : decide (V.byt i = V.byt j) = (i.toList == j.toList) := by
  rw [Bool.eq_iff_iff]
  cases i
  cases j
  simp
section
variable {X : Cx} {a b c : Expr} {ta tb tc : TE} {pos : Pos}
theorem fin_bl {pins : List (Addr × Obj)} {σ : St} {H : Hp} {s : Shared} {Q : VK} {k k' : Bool} (I : Inv X pins σ H s) (q : Q (.bl k) H) (e : k = k') : EP X pins σ Q (.bool k') s := by
  subst e
  exact ⟨.bl k, H, I, rfl, q⟩
theorem op_eq : OpR X (compareOp .Eq) rEq := by
  intro pins s σ H x y v u Q I rx ry h
  obtain ⟨hs, q⟩ := h
  cases x with
  | non =>
    cases rx
    cases y with
    | non => cases ry; exact PySem.EqNone.eq_none_none (fin_bl I q (by simp))
    | bl j => cases ry; exact PySem.EqNone.eq_none_bool (fin_bl I q (by simp))
    | int j => obtain ⟨t', rfl⟩ := ry; exact PySem.EqNone.eq_none_int (fin_bl I q (by simp))
    | str j => obtain ⟨t', rfl⟩ := ry; exact PySem.EqNone.eq_none_str (fin_bl I q (by simp))
    | _ => exact absurd (show false = true from hs) Bool.false_ne_true
  | bl i =>
    cases rx
    cases y with
    | non => cases ry; exact PySem.EqNone.eq_bool_none (fin_bl I q (by simp))
    | bl j => cases ry; exact eq_bool (fin_bl I q dec_bl)
    | str j => obtain ⟨t', rfl⟩ := ry; exact PySem.EqMixed.eq_bool_str (fin_bl I q (by simp))
    | _ => exact absurd (show false = true from hs) Bool.false_ne_true
  | int i =>
    obtain ⟨t, rfl⟩ := rx
    cases y with
    | non => cases ry; exact PySem.EqNone.eq_int_none (fin_bl I q (by simp))
    | int j => obtain ⟨t', rfl⟩ := ry; exact eq_int (fin_bl I q dec_int)
    | str j => obtain ⟨t', rfl⟩ := ry; exact PySem.EqMixed.eq_int_str (fin_bl I q (by simp))
    | _ => exact absurd (show false = true from hs) Bool.false_ne_true
  | str i =>
    obtain ⟨t, rfl⟩ := rx
    cases y with
    | non => cases ry; exact PySem.EqNone.eq_str_none (fin_bl I q (by simp))
    | bl j => cases ry; exact PySem.EqMixed.eq_str_bool (fin_bl I q (by simp))
    | int j => obtain ⟨t', rfl⟩ := ry; exact PySem.EqMixed.eq_str_int (fin_bl I q (by simp))
    | str j => obtain ⟨t', rfl⟩ := ry; exact eq_str (fin_bl I q dec_str)
    | _ => exact absurd (show false = true from hs) Bool.false_ne_true
  | byt i =>
    obtain ⟨t, rfl⟩ := rx
    cases y with
    | byt j => obtain ⟨t', rfl⟩ := ry; exact PySem.W.eq_bytes (fin_bl I q dec_byt)
    | _ => exact absurd (show false = true from hs) Bool.false_ne_true
  | _ => cases y <;> exact absurd (show false = true from hs) Bool.false_ne_true
theorem op_ne : OpR X (compareOp .NotEq) rNe := by
  intro pins s σ H x y v u Q I rx ry h
  obtain ⟨hs, q⟩ := h
  cases x with
  | non =>
    cases rx
    cases y with
    | non => cases ry; exact PySem.EqNone.ne_none_none (fin_bl I q (by simp))
    | bl j => cases ry; exact PySem.EqNone.ne_none_bool (fin_bl I q (by simp))
    | int j => obtain ⟨t', rfl⟩ := ry; exact PySem.EqNone.ne_none_int (fin_bl I q (by simp))
    | str j => obtain ⟨t', rfl⟩ := ry; exact PySem.EqNone.ne_none_str (fin_bl I q (by simp))
    | _ => exact absurd (show false = true from hs) Bool.false_ne_true
  | bl i =>
    cases rx
    cases y with
    | non => cases ry; exact PySem.EqNone.ne_bool_none (fin_bl I q (by simp))
    | bl j => cases ry; exact ne_bool (fin_bl I q (congrArg not dec_bl))
    | str j => obtain ⟨t', rfl⟩ := ry; exact PySem.EqMixed.ne_bool_str (fin_bl I q (by simp))
    | _ => exact absurd (show false = true from hs) Bool.false_ne_true
  | int i =>
    obtain ⟨t, rfl⟩ := rx
    cases y with
    | non => cases ry; exact PySem.EqNone.ne_int_none (fin_bl I q (by simp))
    | int j => obtain ⟨t', rfl⟩ := ry; exact ne_int (fin_bl I q (congrArg not dec_int))
    | str j => obtain ⟨t', rfl⟩ := ry; exact PySem.EqMixed.ne_int_str (fin_bl I q (by simp))
    | _ => exact absurd (show false = true from hs) Bool.false_ne_true
  | str i =>
    obtain ⟨t, rfl⟩ := rx
    cases y with
    | non => cases ry; exact PySem.EqNone.ne_str_none (fin_bl I q (by simp))
    | bl j => cases ry; exact PySem.EqMixed.ne_str_bool (fin_bl I q (by simp))
    | int j => obtain ⟨t', rfl⟩ := ry; exact PySem.EqMixed.ne_str_int (fin_bl I q (by simp))
    | str j => obtain ⟨t', rfl⟩ := ry; exact ne_str (fin_bl I q (congrArg not dec_str))
    | _ => exact absurd (show false = true from hs) Bool.false_ne_true
  | byt i =>
    obtain ⟨t, rfl⟩ := rx
    cases y with
    | byt j => obtain ⟨t', rfl⟩ := ry; exact PySem.W.ne_bytes (fin_bl I q (congrArg not dec_byt))
    | _ => exact absurd (show false = true from hs) Bool.false_ne_true
  | _ => cases y <;> exact absurd (show false = true from hs) Bool.false_ne_true
theorem op_lt : OpR X (compareOp .Lt) (rI0 fun i j => .bl (decide (i < j))) := opB0 fun _ _ _ _ _ _ _ q => lt_int q
theorem op_le : OpR X (compareOp .LtE) (rI0 fun i j => .bl (decide (i ≤ j))) := opB0 fun _ _ _ _ _ _ _ q => le_int q
theorem op_gt : OpR X (compareOp .Gt) (rI0 fun i j => .bl (decide (j < i))) := opB0 fun _ _ _ _ _ _ _ q => gt_int q
theorem op_isN : OpR X (compareOp .Is) (fun x y H Q => y = .non ∧ Q (.bl (decide (x = .non))) H) := by
  intro pins s σ H x y v u Q I rx ry h
  obtain ⟨rfl, q⟩ := h
  cases ry
  refine is_none_gen (fin_bl I q ?_)
  cases x <;> first
    | (cases rx; rfl)
    | (obtain ⟨t, rfl⟩ := rx; rfl)
theorem nomark (b : Expr) {op : CmpOp} (h : op ≠ .In := by decide) (h2 : op ≠ .NotIn := by decide) : behindInMarks op b = false := by
  have e1 : (op == CmpOp.In) = false := by cases op <;> first | rfl | exact absurd rfl h
  have e2 : (op == CmpOp.NotIn) = false := by cases op <;> first | rfl | exact absurd rfl h2
  cases b <;> simp [behindInMarks, e1, e2]
theorem pe_cmpR {op : CmpOp} {r : R2} (ho : OpR X (compareOp op) r) (ha : PE X a ta) (hb : PE X b tb) (hm : behindInMarks op b = false) : PE X (.Compare a [op] [b] pos) (tOp r ta tb) := by
  intro pins s σ H Q I h
  exact wpAny_Compare1 (binT ha hb I h fun v u s2 x y H2 I2 rx ry q => ho pins s2 σ H2 x y v u Q I2 rx ry q) hm
def tTest (t : TE) : TT := fun σ H Q => t σ H fun x H' => ∃ k, x = .bl k ∧ Q k H'
theorem pt_cmpR {op : CmpOp} {r : R2} (ho : OpR X (compareOp op) r) (ha : PE X a ta) (hb : PE X b tb) (hm : behindInMarks op b = false) : PT X (.Compare a [op] [b] pos) (tTest (tOp r ta tb)) := by
  intro pins s σ H Q I h
  refine wpAny_isTrue_Compare1 (thn (ha pins s σ H _ I h) fun v s1 ⟨x, H1, I1, r1, q1⟩ => thn (hb pins s1 σ H1 _ I1 q1) fun u s2 ⟨y, H2, I2, r2, q2⟩ =>
    thn (ho pins s2 σ H2 x y v u _ I2 r1 r2 q2) fun c s3 ⟨z, H3, I3, r3, k, e, q3⟩ => ?_) hm
  subst e
  cases r3
  exact wpAny_truthy_bool ⟨H3, I3, q3⟩
def tChain (r r' : R2) (ta tb tc : TE) : TE := fun σ H Q => ta σ H fun x H1 => tb σ H1 fun y H2 => r x y H2 fun z H3 => ∃ k, z = .bl k ∧
  (if k = true then tc σ H3 fun w' H4 => r' y w' H4 Q else Q (.bl false) H3)
theorem pe_chain {op op' : CmpOp} {r r' : R2} (ho : OpR X (compareOp op) r) (ho' : OpR X (compareOp op') r') (ha : PE X a ta) (hb : PE X b tb) (hc : PE X c tc)
    (hm : lastMarks [op, op'] [b, c] = false := by with_unfolding_all rfl) : PE X (.Compare a [op, op'] [b, c] pos) (tChain r r' ta tb tc) := by
  intro pins s σ H Q I h
  refine Compare_chain (thn (ha pins s σ H _ I h) fun v s1 ⟨x, H1, I1, r1, q1⟩ => chain_link (thn (hb pins s1 σ H1 _ I1 q1) fun u s2 ⟨y, H2, I2, r2, q2⟩ =>
    thn (ho pins s2 σ H2 x y v u _ I2 r1 r2 q2) fun d s3 ⟨z, H3, I3, r3, k, e, q3⟩ => ?_)) hm
  subst e
  cases r3
  refine wpAny_truthy_bool ?_
  cases k with
  | false => exact ite_ff ⟨.bl false, H3, I3, rfl, q3⟩
  | true => exact ite_tt (chain_last (thn (hc pins s3 σ H3 _ I3 q3) fun w' s4 ⟨z', H4, I4, r4, q4⟩ => ho' pins s4 σ H4 y z' u w' Q I4 r2 r4 q4))
theorem pt_chain {op op' : CmpOp} {r r' : R2} (ho : OpR X (compareOp op) r) (ho' : OpR X (compareOp op') r') (ha : PE X a ta) (hb : PE X b tb) (hc : PE X c tc)
    (hm : lastMarks [op, op'] [b, c] = false := by with_unfolding_all rfl) : PT X (.Compare a [op, op'] [b, c] pos) (tTest (tChain r r' ta tb tc)) := by
  intro pins s σ H Q I h
  refine isTrue_chain (thn (ha pins s σ H _ I h) fun v s1 ⟨x, H1, I1, r1, q1⟩ => test_link (thn (hb pins s1 σ H1 _ I1 q1) fun u s2 ⟨y, H2, I2, r2, q2⟩ =>
    thn (ho pins s2 σ H2 x y v u _ I2 r1 r2 q2) fun d s3 ⟨z, H3, I3, r3, k, e, q3⟩ => ?_)) hm
  subst e
  cases r3
  refine wpAny_truthy_bool ?_
  cases k with
  | false =>
    obtain ⟨k', e', q'⟩ := q3
    cases e'
    exact ite_ff ⟨H3, I3, q'⟩
  | true =>
    refine ite_tt (test_last (thn (hc pins s3 σ H3 _ I3 q3) fun w' s4 ⟨z', H4, I4, r4, q4⟩ => thn (ho' pins s4 σ H4 y z' u w' _ I4 r2 r4 q4) fun d' s5 ⟨z2, H5, I5, r5, k2, e2, q5⟩ => ?_))
    subst e2
    cases r5
    exact wpAny_truthy_bool ⟨H5, I5, q5⟩
theorem line63 : (sizeLine : Nat) < 2 ^ 63 := by rw [sizeLine_eq]; decide
theorem vals1 {x : V} {us : List Value} (r : Vals [x] us) : ∃ u, us = [u] ∧ RelV x u := by
  cases r with
  | cons r1 r2 => cases r2; exact ⟨_, rfl, r1⟩
theorem vals2 {x y : V} {us : List Value} (r : Vals [x, y] us) : ∃ u w', us = [u, w'] ∧ RelV x u ∧ RelV y w' := by
  cases r with
  | cons r1 r2 =>
    cases r2 with
    | cons r3 r4 => cases r4; exact ⟨_, _, rfl, r1, r3⟩
theorem call_max2 (hc : X.calm = true) : CallR X (.builtin "max") (fun xs H Q => ∃ i j, xs = [.int i, .int j] ∧ Q (.int (if j > i then j else i)) H) := by
  intro pins s σ H xs us Q I r h
  obtain ⟨i, j, rfl, q⟩ := h
  obtain ⟨u, w', rfl, ⟨t, rfl⟩, ⟨t', rfl⟩⟩ := vals2 r
  refine max_two_ints (I.ok.hd hc) fun h' tk k => ⟨_, H, I.kept k, ?_, q⟩
  by_cases hj : j > i
  · rw [if_pos hj, if_pos hj]; exact ⟨_, rfl⟩
  · rw [if_neg hj, if_neg hj]; exact ⟨_, rfl⟩
theorem call_min2 (hc : X.calm = true) : CallR X (.builtin "min") (fun xs H Q => ∃ i j, xs = [.int i, .int j] ∧ Q (.int (if j < i then j else i)) H) := by
  intro pins s σ H xs us Q I r h
  obtain ⟨i, j, rfl, q⟩ := h
  obtain ⟨u, w', rfl, ⟨t, rfl⟩, ⟨t', rfl⟩⟩ := vals2 r
  refine min_two_ints (I.ok.hd hc) fun h' tk k => ⟨_, H, I.kept k, ?_, q⟩
  by_cases hj : j < i
  · rw [if_pos hj, if_pos hj]; exact ⟨_, rfl⟩
  · rw [if_neg hj, if_neg hj]; exact ⟨_, rfl⟩
end
end L2
namespace L2
open PySem PySem.Spec PyProof.Rows
structure ObjM (h : Heap) (x dx C : Addr) (mA : Str → Option Value) : Prop where
  obj : h.get? x = some (PySem.W.instObj C dx)
  ns : h.Ns1 dx mA
  ne : dx ≠ x
theorem lookIn_ns {h : Heap} {dx : Addr} {mA : Str → Option Value} (n : h.Ns1 dx mA) : ∃ od, h.get? dx = some od ∧ ∀ name, PySem.W.lookIn name od = some (mA name) := by
  obtain ⟨o, es, ep, ho, hd, hk, _, hm⟩ := n
  refine ⟨o, ho, fun name => ?_⟩
  have e := hm name
  unfold nsFind findBy at e
  rw [← Array.find?_toList] at e
  unfold PySem.W.lookIn
  rw [hd]
  dsimp only
  split
  · rename_i y q
    rw [q] at e
    exact congrArg some e
  · rename_i q
    rw [q] at e
    have a : es.toList.any (·.refKey) = false := by
      rw [List.any_eq_false]
      intro y hy
      obtain ⟨z, t, hkey⟩ := hk y (Array.mem_toList_iff.mp hy)
      simp [DictEntry.refKey, hkey]
    have a' : ¬ es.toList.any (·.refKey) = true := by rw [a]; exact Bool.false_ne_true
    rw [if_neg a']
    exact congrArg some e
theorem ObjM.look {h : Heap} {x dx C : Addr} {mA : Str → Option Value} (I : ObjM h x dx C mA) : ∃ od, PySem.W.InstAt h x (PySem.W.instObj C dx) C (some od) ∧ ∀ name, PySem.W.lookIn name od = some (mA name) :=
  let ⟨od, ho, hl⟩ := lookIn_ns I.ns
  ⟨od, ⟨I.obj, rfl, rfl, ho⟩, hl⟩
section
variable {prog : Program} {w : World} {A : Around} {E : Value → Shared → Prop} {s : Shared} {K : PySem.W.Frag} {x dx C f : Addr} {mA : Str → Option Value} {name : Str} {v : Value}
theorem get_map {expr : Bool} {Q : Value → Shared → Prop} (X : K.In s.heap) (I : ObjM s.heap x dx C mA) (hg : PySem.W.plainGet K C name = true) (hh : PySem.W.hasDictIn K C = true)
    (ha : PySem.W.findIn K (.ref C) name = some none) (hv : mA name = some v) (hv' : PySem.W.handedIn v = true) (h : Q v { s with toks := s.toks + 1 }) :
    wpAny (model prog w) A (getAttr (.ref x) name expr) Q E s := by
  obtain ⟨od, J, hl⟩ := I.look
  exact PySem.W.get_value X J (PySem.W.plainGet_of hg).1 (PySem.W.findObj_own hh ha rfl (by rw [hl, hv])) hv' h
theorem get_meth {pl : Sem Bool} {Q : Value × List Value → Shared → Prop} (X : K.In s.heap) (I : ObjM s.heap x dx C mA) (hg : PySem.W.plainGet K C name = true)
    (hf : PySem.W.findIn K (.ref C) name = some (some (.ref f))) (ht : PySem.W.isFn K (.ref f) = true) (hv : mA name = none) (h : Q (.ref f, [.ref x]) s) :
    wpAny (model prog w) A (getMethod (.ref x) name pl) Q E s := by
  obtain ⟨od, J, hl⟩ := I.look
  exact PySem.W.method_fn X J (PySem.W.plainGet_of hg).1 (PySem.W.plainGet_of hg).2 hf (beq_iff_eq.mp ht) (by show (PySem.W.lookIn name od).map (·.isSome) = some false; rw [hl, hv]; rfl) h
theorem set_map {ns : List Str} {Q : Unit → Shared → Prop} (X : K.In s.heap) (I : ObjM s.heap x dx C mA)
    (hs : PySem.W.findIn K (.ref C) "__setattr__" = some (some (.builtin "object.__setattr__"))) (hp : PySem.W.plainOver K C = true) (ht : PySem.W.takerIn K C name = some none) (hh : PySem.W.hasDictIn K C = true)
    (hw : PySem.Within mA ns) (hsz : ns.length ≤ sizeLine)
    (h : ∀ h', ObjM h' x dx C (fun y => if y = name then some v else mA y) → Heap.SameBut dx s.heap h' → Q () { s with heap := h', toks := s.toks + 2 }) :
    wpAny (model prog w) A (setAttr (.ref x) name v) Q E s := by
  obtain ⟨od, J, hl⟩ := I.look
  refine PySem.W.set_plain X J hs (PySem.W.osa_open (s := { s with toks := s.toks + 1 }) (r := none) X J hp ht fun b => ?_)
  obtain ⟨cd, hc, hd'⟩ := PySem.W.any_some hh
  have hx : s.heap.get? x = some ⟨.ref C, some dx, .plain, #[]⟩ := I.obj
  refine wpAny_bind (wpAny_pure (wpAny_bind (wpAny_bind (wpAny_loadPart hx (wpAny_bind (PySem.W.Looks.here (s := { s with toks := s.toks + 1 }) (PySem.W.looks_clsIn X hc) ?_))))))
  rw [hd']
  refine wpAny_pure (a := some dx) (wpAny_bind (wpAny_pure (wpAny_bind ?_)))
  refine wpAny_nsSet1 (s := { s with toks := s.toks + 1 }) I.ns fun h' hn2 hs2 => ?_
  obtain ⟨oD, esD, epD, hoD, hdD, hcD⟩ := hn2.count (PySem.Within.cons name v hw)
  refine wpAny_bind (wpAny_lookBehind hoD (by rw [hdD]; exact pastItsLine_dict (Nat.le_trans hcD (by rw [List.length_cons]; omega))) ?_)
  exact wpAny_pure (h _ ⟨(hs2.2 _ (Ne.symm I.ne)).trans I.obj, hn2, I.ne⟩ hs2)
theorem make_map {R : Result → Shared → Prop} {vs : List Value} {kw : List (Str × Value)} (X : K.In s.heap) (hm : PySem.W.makesIn K C = true)
    (hi : PySem.W.findIn K (.ref C) "__init__" = some (some (.ref f))) (hf : PySem.W.typeIn K (.ref f) = some (.type "function"))
    (h : codeAny (model prog w) (A.under (.builtin "type.__call__" ⟨.ref C :: vs, kw⟩)) (.call (.ref f) ⟨.ref (s.heap.objs.size + 1) :: vs, kw⟩) (PySem.W.InitBack (s.heap.objs.size + 1) R)
      { s with heap := (s.heap.push PySem.W.emptyDict).push (PySem.W.instObj C s.heap.objs.size) }) :
    codeAny (model prog w) A (.call (.ref C) ⟨vs, kw⟩) R s := by
  obtain ⟨hh, g, d, t, os⟩ := s
  exact PySem.W.make_core (PySem.W.makes_of X hm) (PySem.W.looks_findIn X hi) (fun self => PySem.W.bind_fn X self hf) (.inl rfl) h
end
def putF (f : Str) (v : V) : List (Str × V) → List (Str × V)
  | [] => [(f, v)]
  | (g, x) :: r => if g = f then (g, v) :: r else (g, x) :: putF f v r
theorem lookup_putF (f g : Str) (v : V) : ∀ fs : List (Str × V), (putF f v fs).lookup g = if g = f then some v else fs.lookup g
  | [] => by
    show List.lookup g [(f, v)] = _
    by_cases h : g = f
    · have hb : (g == f) = true := beq_iff_eq.mpr h
      simp only [List.lookup, hb, if_pos h]
    · have hb : (g == f) = false := beq_eq_false_iff_ne.mpr h
      simp only [List.lookup, hb, if_neg h]
  | (k, x) :: r => by
    have ih := lookup_putF f g v r
    rw [show putF f v ((k, x) :: r) = (if k = f then (k, v) :: r else (k, x) :: putF f v r) from rfl]
    by_cases hk : k = f
    · rw [if_pos hk]
      by_cases h : g = k
      · have hb : (g == k) = true := beq_iff_eq.mpr h
        simp only [List.lookup, hb, if_pos (h.trans hk)]
      · have hb : (g == k) = false := beq_eq_false_iff_ne.mpr h
        simp only [List.lookup, hb, if_neg (fun e : g = f => h (e.trans hk.symm))]
    · rw [if_neg hk]
      by_cases h : g = k
      · have hb : (g == k) = true := beq_iff_eq.mpr h
        simp only [List.lookup, hb, if_neg (fun e : g = f => hk (h.symm.trans e))]
      · have hb : (g == k) = false := beq_eq_false_iff_ne.mpr h
        simp only [List.lookup, hb]
        exact ih
theorem keys_putF (f : Str) (v : V) : ∀ fs : List (Str × V), f ∈ (putF f v fs).map (·.1) ∧ ∀ g, g ∈ fs.map (·.1) → g ∈ (putF f v fs).map (·.1)
  | [] => ⟨by simp [putF], fun g h => by simp at h⟩
  | (k, x) :: r => by
    obtain ⟨i1, i2⟩ := keys_putF f v r
    rw [show putF f v ((k, x) :: r) = (if k = f then (k, v) :: r else (k, x) :: putF f v r) from rfl]
    by_cases hk : k = f
    · rw [if_pos hk]
      subst hk
      exact ⟨by simp, fun g h => by simpa using h⟩
    · rw [if_neg hk]
      refine ⟨?_, fun g h => ?_⟩
      · rw [List.map_cons]
        exact List.mem_cons_of_mem _ i1
      · rw [List.map_cons] at h ⊢
        rcases List.mem_cons.mp h with e | e
        · exact List.mem_cons.mpr (.inl e)
        · exact List.mem_cons_of_mem _ (i2 g e)
theorem length_putF (f : Str) (v : V) : ∀ fs : List (Str × V), (putF f v fs).length ≤ fs.length + 1
  | [] => by simp [putF]
  | (k, x) :: r => by
    have ih := length_putF f v r
    rw [show putF f v ((k, x) :: r) = (if k = f then (k, v) :: r else (k, x) :: putF f v r) from rfl]
    by_cases hk : k = f
    · rw [if_pos hk, List.length_cons, List.length_cons]; omega
    · rw [if_neg hk, List.length_cons, List.length_cons]; omega
theorem RelO.some_of {v : V} {o : Option Value} (r : RelO (some v) o) : ∃ u, o = some u ∧ RelV v u := by
  cases o with
  | none => exact (show False from r).elim
  | some u => exact ⟨u, rfl, r⟩
theorem RelO.none_of {o : Option Value} (r : RelO none o) : o = none := by
  cases o with
  | none => rfl
  | some u => exact (show False from r).elim
theorem handed_of {v : V} {u : Value} (r : RelV v u) : PySem.W.handedIn u = true := by
  cases v with
  | non => cases (show u = Value.none from r); rfl
  | bl b => cases (show u = Value.bool b from r); rfl
  | int i => obtain ⟨t, e⟩ := (show ∃ t, u = Value.int i t from r); cases e; rfl
  | str x => obtain ⟨t, e⟩ := (show ∃ t, u = Value.str x t from r); cases e; rfl
  | byt b => obtain ⟨t, e⟩ := (show ∃ t, u = Value.bytes b t from r); cases e; rfl
  | flt b => obtain ⟨t, e⟩ := (show ∃ t, u = Value.float b t from r); cases e; rfl
  | ref a => cases (show u = Value.ref a from r); rfl
  | ty n => cases (show u = Value.type n from r); rfl
section
variable {P : Program} {w : World} {H H' : Hp} {h h' : Heap} {a C dx : Addr} {fs fs' : List (Str × V)}
theorem ins_get (hok : HOk P w H h) (e : H a = some (.ins C dx fs)) : ∃ mA, ObjM h a dx C mA ∧ (∀ f, RelO (fs.lookup f) (mA f)) ∧ PySem.Within mA (fs.map (·.1)) ∧ fs.length ≤ 1000 ∧ H dx = some (.own a) := by
  obtain ⟨d, z, ne, ob, mA, n, r, q⟩ := (show ObjOk P w H h a (.ins C dx fs) from hok a _ e)
  exact ⟨mA, ⟨ob, n, ne⟩, r, q, z, d⟩
end
structure Cls (K : PySem.W.Frag) (C : Addr) : Prop where
  pg : PySem.W.plainGet K C Str.empty = true
  hd : PySem.W.hasDictIn K C = true
  po : PySem.W.plainOver K C = true
  sa : PySem.W.findIn K (.ref C) "__setattr__" = some (some (.builtin "object.__setattr__"))
theorem Cls.get {K : PySem.W.Frag} {C : Addr} (c : Cls K C) (f : Str) : PySem.W.plainGet K C f = true := c.pg
def NoAttr (K : PySem.W.Frag) (C : Addr) (f : Str) : Prop := PySem.W.findIn K (.ref C) f = some none
theorem NoAttr.taker {K : PySem.W.Frag} {C : Addr} {f : Str} (n : NoAttr K C f) : PySem.W.takerIn K C f = some none := by
  unfold PySem.W.takerIn
  rw [show PySem.W.findIn K (.ref C) f = some none from n]
  rfl
structure Meth (K : PySem.W.Frag) (C : Addr) (m : Str) (f : Addr) : Prop where
  at_ : PySem.W.findIn K (.ref C) m = some (some (.ref f))
  fn : PySem.W.isFn K (.ref f) = true
  kp : PySem.W.keepIn K (.ref f) = true
section
variable {X : Cx} {pins : List (Addr × Obj)} {σ : St} {H : Hp} {s : Shared} {a C dx : Addr} {fs : List (Str × V)} {f : Str} {v : V} {A : Around} {E : Value → Shared → Prop}
theorem getattr_ok {b : Bool} {Q : Value → Shared → Prop} (I : Inv X pins σ H s) (e : H a = some (.ins C dx fs)) (c : Cls X.K C) (n : NoAttr X.K C f) (l : fs.lookup f = some v)
    (h : ∀ u s', Inv X pins σ H s' → RelV v u → Q u s') : wpAny (model X.prog X.w) A (getAttr (.ref a) f b) Q E s := by
  obtain ⟨mA, O, r, _, _, _⟩ := ins_get I.hok e
  obtain ⟨u, hu, ru⟩ := RelO.some_of (v := v) (o := mA f) (by rw [← l]; exact r f)
  exact get_map I.kIn O (c.get f) c.hd n hu (handed_of ru) (h u _ (I.tok _) ru)
theorem getmeth_ok {m : Str} {g : Addr} {pl : Sem Bool} {Q : Value × List Value → Shared → Prop} (I : Inv X pins σ H s) (e : H a = some (.ins C dx fs)) (c : Cls X.K C) (k : Meth X.K C m g) (l : fs.lookup m = none)
    (h : Q (.ref g, [.ref a]) s) : wpAny (model X.prog X.w) A (getMethod (.ref a) m pl) Q E s := by
  obtain ⟨mA, O, r, _, _, _⟩ := ins_get I.hok e
  have hn : mA m = none := RelO.none_of (by rw [← l]; exact r m)
  exact get_meth I.kIn O (c.get m) k.at_ k.fn hn h
theorem setattr_ok {y : V} {u : Value} {Q : Unit → Shared → Prop} (I : Inv X pins σ H s) (e : H a = some (.ins C dx fs)) (c : Cls X.K C) (n : NoAttr X.K C f) (hl : fs.length < 1000) (ry : RelV y u)
    (h : ∀ s', Inv X pins σ (upd H a (.ins C dx (putF f y fs))) s' → Q () s') : wpAny (model X.prog X.w) A (setAttr (.ref a) f u) Q E s := by
  obtain ⟨mA, O, r, wi, _, ho⟩ := ins_get I.hok e
  have hz : (fs.map (·.1)).length ≤ sizeLine := by rw [List.length_map, sizeLine_eq]; omega
  refine set_map I.kIn O c.sa c.po n.taker c.hd wi hz fun h' O' sb => h _ ?_
  have hd : ∃ o, h'.get? dx = some o := let ⟨o, _, _, e', _⟩ := O'.ns; ⟨o, e'⟩
  refine I.write (x := a) (e := dx) (by rw [e]; exact True.intro) (.inr ho) (fun b q hb z => (sb.2 b hb).trans z) hd ?_
  refine ⟨by rw [upd_ne O.ne]; exact ho, ?_, O.ne, O'.obj, _, O'.ns, fun g => ?_, fun g hg => ?_⟩
  · have := length_putF f y fs; omega
  · show RelO ((putF f y fs).lookup g) (if g = f then some u else mA g)
    rw [lookup_putF]
    by_cases q : g = f
    · rw [if_pos q, if_pos q]; exact ry
    · rw [if_neg q, if_neg q]; exact r g
  · by_cases q : g = f
    · rw [q]; exact (keys_putF f y fs).1
    · refine (keys_putF f y fs).2 g (wi g fun z => hg ?_)
      show (if g = f then some u else mA g) = none
      rw [if_neg q]; exact z
theorem Inv.made (I : Inv X pins σ H s) : Inv X pins σ (upd (upd H s.heap.objs.size (.own (s.heap.objs.size + 1))) (s.heap.objs.size + 1) (.ins C s.heap.objs.size []))
    { s with heap := (s.heap.push PySem.W.emptyDict).push (PySem.W.instObj C s.heap.objs.size) } := by
  have e1 : (s.heap.push PySem.W.emptyDict).get? s.heap.objs.size = some PySem.W.emptyDict := Heap.get?_push_size s.heap rfl
  have e2 : ((s.heap.push PySem.W.emptyDict).push (PySem.W.instObj C s.heap.objs.size)).get? (s.heap.objs.size + 1) = some (PySem.W.instObj C s.heap.objs.size) := by
    have := Heap.get?_push_size (s.heap.push PySem.W.emptyDict) (o := PySem.W.instObj C s.heap.objs.size) rfl
    rwa [Heap.size_push] at this
  have e3 : (s.heap.push PySem.W.emptyDict).Ns s.heap.objs.size (fun _ => none) := ⟨PySem.W.emptyDict, #[], _, e1, rfl, (fun e he => absurd he (by simp)), fun _ => rfl⟩
  have I1 := I.laid (a := s.heap.objs.size) (o := .own (s.heap.objs.size + 1)) (h' := s.heap.push PySem.W.emptyDict) (t' := s.toks) (fun b u q => Heap.get?_push_of_some _ q) (Nat.le_refl _) ⟨_, e1⟩
  refine I1.laid (a := s.heap.objs.size + 1) (o := .ins C s.heap.objs.size []) (t' := s.toks) (fun b u q => Heap.get?_push_of_some _ q) (Nat.le_of_eq (Heap.size_push _ _)) ?_
  have ne : s.heap.objs.size ≠ s.heap.objs.size + 1 := Nat.ne_of_lt (Nat.lt_succ_self _)
  refine ⟨by rw [upd_ne ne, upd_same], Nat.zero_le _, ne, e2, fun _ => none, (Heap.Ns1.of_empty e3).at fun o q => Heap.get?_push_of_some _ q, fun _ => True.intro, fun y hy => absurd rfl hy⟩
theorem attr_of {prog : Program} {w : World} {env : Env} {e : Expr} {f : Str} {pos : Pos} {s : Shared} {Q : Value → Shared → Prop} (hb : attributeBase e f env (eval e env) = eval e env)
    (h : wpAny (model prog w) A (eval e env) (fun o s₁ => wpAny (model prog w) A (getAttr o f true) Q E s₁) E s) : wpAny (model prog w) A (eval (.Attribute e f pos) env) Q E s :=
  Attribute_any_ h (by rw [arm_eval_Attribute, hb])
end
def tFld (K : PySem.W.Frag) (ta : TE) (f : Str) : TE := fun σ H Q => ta σ H fun x H1 => ∃ a C dx fs v, x = .ref a ∧ H1 a = some (.ins C dx fs) ∧ Cls K C ∧ NoAttr K C f ∧ fs.lookup f = some v ∧ Q v H1
def sFld (K : PySem.W.Frag) (ta tv : TE) (f : Str) : TS := fun D σ H => tv σ H fun y H1 => ta σ H1 fun x H2 => ∃ a C dx fs, x = .ref a ∧ H2 a = some (.ins C dx fs) ∧ Cls K C ∧ NoAttr K C f ∧ fs.length < 1000 ∧
  D.nx σ (upd H2 a (.ins C dx (putF f y fs)))
section
variable {X : Cx} {o e value : Expr} {f : Str} {pos pos' tpos : Pos} {ta tv : TE}
theorem pe_fld (he : PE X e ta) (hb : attributeBase e f X.env (eval e X.env) = eval e X.env) : PE X (.Attribute e f pos) (tFld X.K ta f) := by
  intro pins s σ H Q I h
  refine attr_of hb (thn (he pins s σ H _ I h) fun u s1 ⟨x, H1, I1, rx, a, C, dx, fs, v, ex, ea, c, n, l, q⟩ => ?_)
  subst ex
  obtain rfl : u = Value.ref a := rx
  exact getattr_ok I1 ea c n l fun u' s2 I2 ru => ⟨v, H1, I2, ru, q⟩
theorem ps_fld (ha : PE X o ta) (hv : PE X value tv) (hs : swapsWith value (some (.Attribute o f pos')) pos.line X.env = pure false) : PS X (.Assign [.Attribute o f pos'] value pos) (sFld X.K ta tv f) := by
  intro pins s σ H D I h
  refine plainObj_wpAny_Assign_Attribute (thn (hv pins s σ H _ I h) fun u s1 ⟨y, H1, I1, ry, q⟩ => thn (ha pins s1 σ H1 _ I1 q) fun ov s2 ⟨x, H2, I2, rx, a, C, dx, fs, ex, ea, c, n, l, q2⟩ => ?_) hs
  subst ex
  obtain rfl : ov = Value.ref a := rx
  exact setattr_ok I2 ea c n l ry fun s3 I3 => ⟨σ, _, I3, q2⟩
end
section
variable {X : Cx} {pins : List (Addr × Obj)} {σ : St} {H : Hp} {s : Shared} {A : Around} {E : Value → Shared → Prop} {Q : Value → Shared → Prop} {c : Value} {b : Bool}
inductive TyOf (K : PySem.W.Frag) (H : Hp) : V → Value → Prop where
  | non : TyOf K H .non (.type "NoneType")
  | bl (x : Bool) : TyOf K H (.bl x) (.type "bool")
  | int (i : Int) : TyOf K H (.int i) (.type "int")
  | str (x : Str) : TyOf K H (.str x) (.type "str")
  | flt (x : UInt64) : TyOf K H (.flt x) (.type "float")
  | lst {a : Addr} {xs : List V} (e : H a = some (.lst xs)) : TyOf K H (.ref a) (.type "list")
  | frz {a : Addr} {o : Obj} {xs : List V} (e : H a = some (.frz o (.lst xs))) : TyOf K H (.ref a) (.type "list")
  | tup {a : Addr} {xs : List V} (e : H a = some (.tup xs)) : TyOf K H (.ref a) (.type "tuple")
  | dK {a : Addr} {kvs : List (Key × V)} (e : H a = some (.dK kvs)) : TyOf K H (.ref a) (.type "dict")
  | dT {a : Addr} {kvs : List (List Key × V)} (e : H a = some (.dT kvs)) : TyOf K H (.ref a) (.type "dict")
  | ins {a C dx : Addr} {fs : List (Str × V)} (e : H a = some (.ins C dx fs)) (cl : Cls K C) (ha : PySem.W.findIn K (.ref C) "__class__" = some (some (.builtin "object.__class__")))
      (hn : PySem.W.specialIn K (.builtin "object.__class__") "__get__" = some (some (.builtin "getset_descriptor.__get__"))) (htk : PySem.W.takesIn K (.builtin "object.__class__") = some true)
      (hm : PySem.W.mroIn K C (.type "object") = some true) : TyOf K H (.ref a) (.ref C)
theorem isinst_ok {x : V} {u t : Value} (I : Inv X pins σ H s) (rx : RelV x u) (ty : TyOf X.K H x t) (e : PySem.W.kitOne X.K t c = some b) (h : ∀ tk, Q (.bool b) { s with toks := tk }) :
    wpAny (model X.prog X.w) A (call (.builtin "isinstance") [u, c]) Q E s := by
  cases ty with
  | non => cases (show u = Value.none from rx); exact PySem.W.kia_one PySem.W.kitx_none I.kIn True.intro e (fun z => nomatch z) h
  | bl y => cases (show u = Value.bool y from rx); exact PySem.W.kia_one PySem.W.kitx_bool I.kIn True.intro e (fun z => nomatch z) h
  | int i => obtain ⟨t, q⟩ := (show ∃ t, u = Value.int i t from rx); cases q; exact PySem.W.kia_one PySem.W.kitx_int I.kIn True.intro e (fun z => nomatch z) h
  | str y => obtain ⟨t, q⟩ := (show ∃ t, u = Value.str y t from rx); cases q; exact PySem.W.kia_one PySem.W.kitx_str I.kIn True.intro e (fun z => nomatch z) h
  | flt y => obtain ⟨t, q⟩ := (show ∃ t, u = Value.float y t from rx); cases q; exact PySem.W.kia_one PySem.W.kitx_float I.kIn True.intro e (fun z => nomatch z) h
  | @lst a xs ea =>
    cases (show u = Value.ref a from rx)
    obtain ⟨_, _, n, _, h1⟩ := (show ObjOk X.prog X.w H s.heap a (.lst xs) from I.hok a _ ea)
    exact PySem.W.kia_one PySem.W.kitx_list I.kIn ⟨_, h1, rfl⟩ e (fun z => nomatch z) h
  | @frz a ob xs ea =>
    cases (show u = Value.ref a from rx)
    obtain ⟨_, _, _, n, _, h1⟩ := (show ObjOk X.prog X.w H s.heap a (.frz ob (.lst xs)) from I.hok a _ ea)
    exact PySem.W.kia_one PySem.W.kitx_list I.kIn ⟨_, h1, rfl⟩ e (fun z => nomatch z) h
  | @tup a xs ea =>
    cases (show u = Value.ref a from rx)
    obtain ⟨_, _, _, p⟩ := (show ObjOk X.prog X.w H s.heap a (.tup xs) from I.hok a _ ea)
    obtain ⟨o, h1, h2, _⟩ := p
    exact PySem.W.kia_one PySem.W.kitx_tuple I.kIn ⟨o, h1, h2⟩ e (fun z => nomatch z) h
  | @dK a kvs ea =>
    cases (show u = Value.ref a from rx)
    obtain ⟨_, _, vs, _, p⟩ := (show ObjOk X.prog X.w H s.heap a (.dK kvs) from I.hok a _ ea)
    obtain ⟨o, es, ep, h1, h2, _⟩ := p
    exact PySem.W.kia_one PySem.W.kitx_dict I.kIn ⟨o, h1, h2.1⟩ e (fun z => nomatch z) h
  | @dT a kvs ea =>
    cases (show u = Value.ref a from rx)
    obtain ⟨_, _, xs, _, o, es, ep, h1, h2, _⟩ := (show ObjOk X.prog X.w H s.heap a (.dT kvs) from I.hok a _ ea)
    exact PySem.W.kia_one PySem.W.kitx_dict I.kIn ⟨o, h1, h2.1⟩ e (fun z => nomatch z) h
  | @ins a C dx fs ea cl ha hn htk hm =>
    cases (show u = Value.ref a from rx)
    obtain ⟨mA, O, _⟩ := ins_get I.hok ea
    obtain ⟨od, J, _⟩ := O.look
    exact PySem.W.kia_one (PySem.W.kitx_own (cl.get _) cl.hd ha hn htk hm) I.kIn J e (fun z => nomatch z) h
end
end L2
namespace L2
open PySem PySem.Spec PyProof.Rows
structure Room (k : Nat) (A : Around) : Prop where
  hd : A.handled = none
  dp : A.depth + 3 * k + 5 < recursionLimit
  un : A.units + 16 * k + 200 < cLine
theorem Room.mono {j k : Nat} {A : Around} (r : Room k A) (h : j ≤ k) : Room j A := ⟨r.hd, by have := r.dp; omega, by have := r.un; omega⟩
theorem Room.deeper {k : Nat} {A : Around} (r : Room (k + 1) A) (env : Env) : Room k (A.deeper env) :=
  ⟨r.hd, by have := r.dp; show A.depth + 1 + 3 * k + 5 < _; omega, by have := r.un; show A.units + 3 + 16 * k + 200 < _; omega⟩
theorem make_depth {A : Around} {C : Addr} {us : List Value} {kw : List (Str × Value)} : (A.under (.builtin "type.__call__" ⟨.ref C :: us, kw⟩)).depth = A.depth + 1 := by
  first | rfl | simp [Around.under, Code.weight, Code.isCreation, Code.isGuard, Code.isCaller, Code.frames, Code.isFrame, guardIds]
theorem make_units {A : Around} {C : Addr} {us : List Value} {kw : List (Str × Value)} : (A.under (.builtin "type.__call__" ⟨.ref C :: us, kw⟩)).units = A.units + 1 := by
  first | rfl | simp [Around.under, Code.cUnits, Code.frames, Code.isFrame]
theorem Room.make {k : Nat} {A : Around} (r : Room (k + 1) A) (C : Addr) (us : List Value) (kw : List (Str × Value)) : Room k (A.under (.builtin "type.__call__" ⟨.ref C :: us, kw⟩)) :=
  ⟨r.hd, by have := r.dp; rw [make_depth]; omega, by have := r.un; rw [make_units]; omega⟩
theorem Room.depth {k : Nat} {A : Around} (r : Room k A) : A.depth < recursionLimit := by have := r.dp; omega
theorem Room.units {k : Nat} {A : Around} (r : Room k A) : A.units + 64 < cLine := by have := r.un; omega
def tNil : TA := fun _ H Q => Q [] H
def tCons (ta : TE) (tr : TA) : TA := fun σ H Q => ta σ H fun x H1 => tr σ H1 fun xs H2 => Q (x :: xs) H2
section
variable {X : Cx} {e : Expr} {es : List Expr} {te : TE} {t : TA} {pos : Pos}
theorem pa_nil : PA X [] tNil := fun _ _ _ _ H Q I h => Calls.spliced_nil ⟨[], H, I, .nil, h⟩
theorem pa_cons (ha : PE X e te) (hr : PA X es t) (hs : starEach (e :: es) X.env = (false, eval e X.env) :: starEach es X.env := by rfl) : PA X (e :: es) (tCons te t) := by
  intro pos pins s σ H Q I h
  rw [hs]
  show wpAny _ _ (spliced ((false, eval e X.env) :: backTo pos (starEach es X.env))) _ _ s
  refine Calls.spliced_cons (thn (ha pins s σ H _ I h) fun u s1 ⟨x, H1, I1, r1, q1⟩ => ?_)
  exact thn (hr pos pins s1 σ H1 _ I1 q1) fun us s2 ⟨xs, H2, I2, r2, q2⟩ => ⟨x :: xs, H2, I2, .cons r1 r2, q2⟩
def tTup (t : TA) : TE := fun σ H Q => t σ H fun xs H1 => xs.length ≤ sizeLine ∧ ∀ p, H1 p = none → Q (.ref p) (upd H1 p (.tup xs))
def tLst (t : TA) : TE := fun σ H Q => t σ H fun xs H1 => xs.length ≤ sizeLine ∧ ∀ p, H1 p = none → Q (.ref p) (upd H1 p (.lst xs))
theorem pe_tup {x1} (h : PA X es t) : PE X (.Tuple es x1 pos) (tTup t) := by
  intro pins s σ H Q I hq
  refine wpAny_Tuple_spliced (thn (h pos pins s σ H _ I hq) fun us s1 ⟨xs, H1, I1, r, z, q⟩ => ⟨by rw [← r.length]; exact z, ?_⟩)
  have hf : H1 s1.heap.objs.size = none := I1.hok.fresh (Nat.le_refl _)
  refine ⟨.ref s1.heap.objs.size, upd H1 s1.heap.objs.size (.tup xs), I1.laid (t' := s1.toks) (fun b u e => Heap.get?_push_of_some _ e) (Nat.le_refl _) ?_, rfl, q _ hf⟩
  exact ⟨z, us, r, ⟨_, Heap.get?_push_size _ rfl, rfl, _, rfl⟩⟩
theorem pe_lst (h : PA X es t) : PE X (.List es pos) (tLst t) := by
  intro pins s σ H Q I hq
  refine wpAny_List_spliced (thn (h pos pins s σ H _ I hq) fun us s1 ⟨xs, H1, I1, r, z, q⟩ => ⟨by rw [← r.length]; exact z, ?_⟩)
  have hf : H1 s1.heap.objs.size = none := I1.hok.fresh (Nat.le_refl _)
  refine ⟨.ref s1.heap.objs.size, upd H1 s1.heap.objs.size (.lst xs), I1.laid (t' := s1.toks) (fun b u e => Heap.get?_push_of_some _ e) (Nat.le_refl _) ?_, rfl, q _ hf⟩
  exact ⟨z, us, 0, r, Heap.get?_push_size _ rfl⟩
end
abbrev Sp := List V → Hp → VK → XK → Prop
abbrev CXT := List Env → Hp → Shared → XK → Value → Shared → Prop
structure Env0 (P : Program) (w : World) (K : PySem.W.Frag) (mg : Str → Option Value) (base : Heap) (A : Around) (outer : List Env) (s : Shared) (H : Hp) : Prop where
  frames : A.frames = some outer
  mod : Mod K mg base
  bs : ∀ b o, base.get? b = some o → s.heap.get? b = some o ∧ H b = none
  bsz : base.objs.size ≤ s.heap.objs.size
  funs : s.heap.FunFrames base outer
  frf : ∀ b ∈ frs outer, H b = none
  hok : HOk P w H s.heap
  bare : AllBare s.gens
def CE (outer : List Env) (P : Program) (w : World) (H : Hp) (s : Shared) (Q : VK) (u : Value) (s' : Shared) : Prop :=
  ∃ v H', s'.os = s.os ∧ AllBare s'.gens ∧ Un (frs outer) [] H H' s.heap s'.heap ∧ HOk P w H' s'.heap ∧ RelV v u ∧ Q v H'
def CR (CX : CXT) (outer : List Env) (P : Program) (w : World) (H : Hp) (s : Shared) (Q : VK) (E : XK) (r : Result) (s' : Shared) : Prop :=
  match r with
  | .ok (.ret u) => CE outer P w H s Q u s'
  | .ok _ => False
  | .error e => CX outer H s E e s'
structure FnOk (P : Program) (w : World) (K : PySem.W.Frag) (mg : Str → Option Value) (base : Heap) (CX : CXT) (k : Nat) (f : Addr) (fd : FuncData) (ps : List Str) (sp : Sp) : Prop where
  len : ∀ vs H Q E, sp vs H Q E → vs.length = ps.length
  run : ∀ (A : Around) (outer : List Env) (s : Shared) (H : Hp) (args : Args) (us : List Value) (vs : List V) (Q : VK) (E : XK), Room k A → Env0 P w K mg base A outer s H → BindsTo s fd args (ps.zip us) → Vals vs us → sp vs H Q E →
    codeAny (model P w) A (.call (.ref f) args) (CR CX outer P w H s Q E) s
theorem Env0.make {P : Program} {w : World} {K : PySem.W.Frag} {mg : Str → Option Value} {base : Heap} {A : Around} {outer : List Env} {s : Shared} {H : Hp} (e : Env0 P w K mg base A outer s H) (C : Addr) (us : List Value) (kw : List (Str × Value)) :
    Env0 P w K mg base (A.under (.builtin "type.__call__" ⟨.ref C :: us, kw⟩)) outer s H := ⟨by first | exact e.frames | (simpa [Around.under, Code.envs, Code.isFrame, pushEnvs] using e.frames), e.mod, e.bs, e.bsz, e.funs, e.frf, e.hok, e.bare⟩
section
variable {X : Cx} {pins : List (Addr × Obj)} {σ : St} {H : Hp} {s s' : Shared}
theorem Inv.env0 (I : Inv X pins σ H s) : Env0 X.prog X.w X.K X.mg X.base X.A X.stack s H :=
  ⟨I.ok.frames, I.ok.mod, I.bs, Nat.le_trans I.ok.bsz I.sz, I.stack, I.stkFree, I.hok, I.bare⟩
theorem Inv.after {Q : VK} {u : Value} (I : Inv X pins σ H s) (h : CE X.stack X.prog X.w H s Q u s') : EP X pins σ Q u s' := by
  obtain ⟨v, H', os, bare, un, hok, r, q⟩ := h
  obtain ⟨hh, g, d, t, os'⟩ := s'
  obtain rfl : os' = s.os := os
  exact ⟨v, H', I.call (h' := hh) (g' := g) (d' := d) (t' := t) (ch := []) un hok bare (fun b z => absurd z (by simp)), r, q⟩
end
def tCall (sp : Sp) (dvs : List V) (E : XK) (t : TA) : TE := fun σ H Q => t σ H fun vs H1 => sp (vs ++ dvs) H1 Q E
def tMeth (C : Addr) (m : Str) (sp : Sp) (dvs : List V) (E : XK) (ta : TE) (t : TA) : TE := fun σ H Q => ta σ H fun x H1 => ∃ a dx fs, x = .ref a ∧ H1 a = some (.ins C dx fs) ∧ fs.lookup m = none ∧
  t σ H1 fun vs H2 => sp (x :: (vs ++ dvs)) H2 Q E
def tMake (C : Addr) (sp : Sp) (dvs : List V) (E : XK) (t : TA) : TE := fun σ H Q => t σ H fun vs H1 => ∀ x dx, H1 x = none → H1 dx = none → dx ≠ x →
  sp (.ref x :: (vs ++ dvs)) (upd (upd H1 dx (.own x)) x (.ins C dx [])) (fun v H2 => v = .non ∧ Q (.ref x) H2) E
def Binds (K : PySem.W.Frag) (fd : FuncData) (ps : List Str) (ds : List Value) : Prop :=
  ∀ (s : Shared) (us : List Value), K.In s.heap → (us ++ ds).length = ps.length → BindsTo s fd ⟨us, []⟩ (ps.zip (us ++ ds))
theorem Binds.all {K : PySem.W.Frag} {fd : FuncData} {ps : List Str} (h : ∀ us : List Value, us.length = ps.length → bindArgs fd ⟨us, []⟩ = pure (ps.zip us)) : Binds K fd ps [] := fun s us _ hl => by
  rw [List.append_nil] at hl ⊢
  exact .of_eq (h us hl)
def Passes (CX : CXT) (X : Cx) (E : XK) : Prop := ∀ (pins : List (Addr × Obj)) (σ : St) (H : Hp) (s : Shared) (e : Value) (s' : Shared), Inv X pins σ H s → CX X.stack H s E e s' → X.xe e s'
section
variable {X : Cx} {CX : CXT} {k : Nat} {f C : Addr} {fd : FuncData} {ps : List Str} {sp : Sp} {dvs : List V} {ds : List Value} {E : XK} {x m : Str} {p pos apos : Pos} {e o : Expr} {es : List Expr} {ta : TE} {t : TA}
theorem run_fn {pins : List (Addr × Obj)} {σ : St} {H : Hp} {s : Shared} {Q : VK} {us : List Value} {vs : List V} (F : FnOk X.prog X.w X.K X.mg X.base CX k f fd ps sp) (hr : Room k X.A) (hb : Binds X.K fd ps ds) (hd : Vals dvs ds) (hx : Passes CX X E)
    (I : Inv X pins σ H s) (r : Vals vs us) (h : sp (vs ++ dvs) H Q E) : wpAny (model X.prog X.w) X.A (call (.ref f) us) (EP X pins σ Q) X.xe s := by
  have r2 : Vals (vs ++ dvs) (us ++ ds) := r.append hd
  have hl : (us ++ ds).length = ps.length := by rw [← r2.length]; exact F.len _ _ _ _ h
  refine wpAny_call (codeAny_mono (F.run X.A X.stack s H ⟨us, []⟩ (us ++ ds) (vs ++ dvs) Q E hr I.env0 (hb s us I.kIn hl) r2 h) fun r s' hq => ?_)
  cases r with
  | error e => exact hx pins σ H s e s' I hq
  | ok fl =>
    cases fl with
    | ret u => exact I.after hq
    | next => exact False.elim hq
    | brk => exact False.elim hq
    | cont => exact False.elim hq
theorem pe_call (F : FnOk X.prog X.w X.K X.mg X.base CX k f fd ps sp) (hr : Room k X.A) (hg : Gl X x) (hm : X.mg x = some (.ref f)) (hk : PySem.W.keepIn X.K (.ref f) = true) (hb : Binds X.K fd ps ds) (hd : Vals dvs ds) (hx : Passes CX X E)
    (ha : PA X (e :: es) t) (hdb : (x == ("__debug__" : Str)) = false := by decide) (he : starEach (e :: es) X.env = (false, eval e X.env) :: starEach es X.env := by rfl) (hpl : (backTo pos (starEach es X.env)).any (·.1) = false := by rfl) :
    PE X (.Call (.Name x p) (e :: es) [] pos) (tCall sp dvs E t) := by
  intro pins s σ H Q I h
  refine wpAny_Call_Name_kw (ld_glob I hg hm ?_ hdb)
  refine PySem.W.callWith_K (h₀ := X.base) I.ok.mod.kin hk (thn (ha pos pins s σ H _ I h) fun us s1 ⟨vs, H1, I1, r, q⟩ => ⟨I1.kIn, ?_⟩) he hpl
  exact run_fn F hr hb hd hx I1 r q
theorem pe_meth0 {pl : Sem Bool} (he : PE X o ta) (c : Cls X.K C) (hm : Meth X.K C m f) (F : FnOk X.prog X.w X.K X.mg X.base CX k f fd ps sp) (hr : Room k X.A) (hb : Binds X.K fd ps ds) (hd : Vals dvs ds) (hx : Passes CX X E)
    (ht : eval (.Call (.Attribute o m apos) [] [] pos) X.env = (do
      let ov ← eval o X.env
      standAt apos.atName
      let (f, first) ← holding [ov] (getMethod ov m pl)
      callWith pos f first (backTo pos (starEach [] X.env)) (backToKw pos (keywordEach [] X.env))) := by rfl) :
    PE X (.Call (.Attribute o m apos) [] [] pos) (tMeth C m sp dvs E ta tNil) := by
  intro pins s σ H Q I h
  refine PySem.W.methodCall_KW (pl := pl) (thn (he pins s σ H _ I h) fun u s1 ⟨x, H1, I1, rx, a, dx, fs, ex, ea, l, q⟩ => ?_) ht
  subst ex
  obtain rfl : u = Value.ref a := rx
  refine getmeth_ok I1 ea c hm l ?_
  exact PySem.W.callWith_K0 (first := [.ref a]) I1.kIn hm.kp (run_fn (us := [.ref a]) (vs := [.ref a]) F hr hb hd hx I1 (.cons rfl .nil) q)
structure Mk (K : PySem.W.Frag) (C f : Addr) : Prop where
  makes : PySem.W.makesIn K C = true
  init : PySem.W.findIn K (.ref C) "__init__" = some (some (.ref f))
  fn : PySem.W.isFn K (.ref f) = true
  kp : PySem.W.keepIn K (.ref C) = true
theorem run_make {pins : List (Addr × Obj)} {σ : St} {H : Hp} {s : Shared} {Q : VK} {us : List Value} {vs : List V} (M : Mk X.K C f) (F : FnOk X.prog X.w X.K X.mg X.base CX k f fd ps sp) (hr : Room (k + 1) X.A) (hb : Binds X.K fd ps ds) (hd : Vals dvs ds)
    (hx : Passes CX X E) (I : Inv X pins σ H s) (r : Vals vs us)
    (h : ∀ x dx, H x = none → H dx = none → dx ≠ x → sp (.ref x :: (vs ++ dvs)) (upd (upd H dx (.own x)) x (.ins C dx [])) (fun v H2 => v = .non ∧ Q (.ref x) H2) E) :
    wpAny (model X.prog X.w) X.A (call (.ref C) us) (EP X pins σ Q) X.xe s := by
  have hq := h (s.heap.objs.size + 1) s.heap.objs.size (I.hok.fresh (Nat.le_succ _)) (I.hok.fresh (Nat.le_refl _)) (Nat.ne_of_lt (Nat.lt_succ_self _))
  have I2 := Inv.made (C := C) I
  have r2 : Vals (V.ref (s.heap.objs.size + 1) :: (vs ++ dvs)) (Value.ref (s.heap.objs.size + 1) :: (us ++ ds)) := .cons rfl (r.append hd)
  have hl : (Value.ref (s.heap.objs.size + 1) :: us ++ ds).length = ps.length := by
    have e := r2.length
    rw [F.len _ _ _ _ hq] at e
    exact e.symm
  refine wpAny_call (make_map (f := f) I.kIn M.makes M.init (beq_iff_eq.mp M.fn) (codeAny_mono (F.run _ X.stack _ _ ⟨Value.ref (s.heap.objs.size + 1) :: us, []⟩ (Value.ref (s.heap.objs.size + 1) :: (us ++ ds)) _ _ E (hr.make C us [])
    (I2.env0.make C us []) (hb _ (Value.ref (s.heap.objs.size + 1) :: us) I2.kIn hl) r2 hq) fun r s' hq' => ?_))
  cases r with
  | error e => exact hx pins σ _ _ e s' I2 hq'
  | ok fl =>
    cases fl with
    | ret u =>
      obtain ⟨v, H', I3, rv, ev, q3⟩ := I2.after hq'
      subst ev
      exact ⟨rv, ⟨V.ref (s.heap.objs.size + 1), H', I3, rfl, q3⟩⟩
    | next => exact False.elim hq'
    | brk => exact False.elim hq'
    | cont => exact False.elim hq'
theorem pe_make (M : Mk X.K C f) (F : FnOk X.prog X.w X.K X.mg X.base CX k f fd ps sp) (hr : Room (k + 1) X.A) (hg : Gl X x) (hm : X.mg x = some (.ref C)) (hb : Binds X.K fd ps ds) (hd : Vals dvs ds) (hx : Passes CX X E)
    (ha : PA X (e :: es) t) (hdb : (x == ("__debug__" : Str)) = false := by decide) (he : starEach (e :: es) X.env = (false, eval e X.env) :: starEach es X.env := by rfl) (hpl : (backTo pos (starEach es X.env)).any (·.1) = false := by rfl) :
    PE X (.Call (.Name x p) (e :: es) [] pos) (tMake C sp dvs E t) := by
  intro pins s σ H Q I h
  refine wpAny_Call_Name_kw (ld_glob I hg hm ?_ hdb)
  refine PySem.W.callWith_K (h₀ := X.base) I.ok.mod.kin M.kp (thn (ha pos pins s σ H _ I h) fun us s1 ⟨vs, H1, I1, r, q⟩ => ⟨I1.kIn, ?_⟩) he hpl
  exact run_make M F hr hb hd hx I1 r q
end
section
variable {X : Cx} {CX : CXT} {k : Nat} {f C : Addr} {fd : FuncData} {ps ks : List Str} {sp : Sp} {E : XK} {x m : Str} {p pos apos kpos : Pos} {e o : Expr} {es : List Expr} {kws : List Keyword} {te ta : TE} {t tk : TA} {nm : Option Str}
variable {g : List Value → List Value → List Value} {gV : List V → List V → List V}
end
structure FnScope (N P : List Str) (sc : Scope) : Prop where
  kind : sc.kind = .function
  co : sc.isCoroutine = false
  gen : sc.isGenerator = false
  nd : N.Nodup
  pre : N.take P.length = P
  par : ∀ x ∈ P, sc.names.lookup x = some .local ∨ sc.names.lookup x = some .cell
  nofree : ∀ y ∈ sc.names, y.2 ≠ .free
theorem bindL_out {kindOf : Str → Option NameKind} {x : Str} : ∀ {binds : List (Str × Value)} {m : Str → Option Value}, (∀ v, (x, v) ∉ binds) → bindL kindOf binds m x = m x
  | [], _, _ => rfl
  | (n, v) :: r, m, h => by
    unfold bindL
    rw [bindL_out fun w hw => h w (List.mem_cons_of_mem _ hw)]
    split
    · have : x ≠ n := by rintro rfl; exact h v List.mem_cons_self
      simp [this]
    · rfl
theorem bindC_out {kindOf : Str → Option NameKind} {x : Str} : ∀ {binds : List (Str × Value)} {m : Str → Option Value}, (∀ v, (x, v) ∉ binds) → bindC kindOf binds m x = m x
  | [], _, _ => rfl
  | (n, v) :: r, m, h => by
    unfold bindC
    rw [bindC_out fun w hw => h w (List.mem_cons_of_mem _ hw)]
    split
    · rfl
    · have : x ≠ n := by rintro rfl; exact h v List.mem_cons_self
      simp [this]
theorem bindL_get {kindOf : Str → Option NameKind} {x : Str} {v : Value} : ∀ {P : List Str} {vs : List Value} {i : Nat} {m : Str → Option Value}, P.Nodup → P[i]? = some x → vs[i]? = some v → kindOf x = some .local →
    bindL kindOf (P.zip vs) m x = some v
  | [], _, _, _, _, h, _, _ => by simp at h
  | _ :: _, [], _, _, _, _, h, _ => by simp at h
  | p :: P, w :: vs, 0, m, nd, h1, h2, hk => by
    simp at h1 h2; subst h1; subst h2
    show bindL kindOf ((p, w) :: P.zip vs) m p = _
    unfold bindL
    rw [bindL_out fun v hv => (List.nodup_cons.mp nd).1 (List.of_mem_zip hv).1, if_pos hk]
    simp
  | p :: P, w :: vs, i + 1, m, nd, h1, h2, hk => by
    show bindL kindOf ((p, w) :: P.zip vs) m x = _
    unfold bindL
    exact bindL_get (i := i) (List.nodup_cons.mp nd).2 (by simpa using h1) (by simpa using h2) hk
theorem bindC_get {kindOf : Str → Option NameKind} {x : Str} {v : Value} : ∀ {P : List Str} {vs : List Value} {i : Nat} {m : Str → Option Value}, P.Nodup → P[i]? = some x → vs[i]? = some v → kindOf x ≠ some .local →
    bindC kindOf (P.zip vs) m x = some v
  | [], _, _, _, _, h, _, _ => by simp at h
  | _ :: _, [], _, _, _, _, h, _ => by simp at h
  | p :: P, w :: vs, 0, m, nd, h1, h2, hk => by
    simp at h1 h2; subst h1; subst h2
    show bindC kindOf ((p, w) :: P.zip vs) m p = _
    unfold bindC
    rw [bindC_out fun v hv => (List.nodup_cons.mp nd).1 (List.of_mem_zip hv).1, if_neg hk]
    simp
  | p :: P, w :: vs, i + 1, m, nd, h1, h2, hk => by
    show bindC kindOf ((p, w) :: P.zip vs) m x = _
    unfold bindC
    exact bindC_get (i := i) (List.nodup_cons.mp nd).2 (by simpa using h1) (by simpa using h2) hk
def start (N : List Str) (vs : List V) : St := vs.map some ++ List.replicate (N.length - vs.length) none
def cxOf (CX : CXT) (P : Program) (w : World) (K : PySem.W.Frag) (mg : Str → Option Value) (base : Heap) (N : List Str) (qual : Str) (scope : Scope) (f : Addr) (cd : Value) (A : Around) (outer : List Env) (s : Shared) (H : Hp) (E : XK) : Cx where
  prog := P
  w := w
  K := K
  mg := mg
  base := base
  A := A.deeper (envOfC qual scope s.heap.objs.size f cd)
  N := N
  s₀ := s
  H₀ := H
  env := envOfC qual scope s.heap.objs.size f cd
  outer := outer
  stack := envOfC qual scope s.heap.objs.size f cd :: outer
  ex := []
  calm := true
  fn := fun _ => true
  pn := []
  xe := fun e s' => wpAny (model P w) (A.deeper (envOfC qual scope s.heap.objs.size f cd)) (leaving (envOfC qual scope s.heap.objs.size f cd) e) (fun _ s'' => CX outer H s E e s'') (fun e' s'' => CX outer H s E e' s'') s'
theorem cell_has {sc : Scope} {n : Nat} {x : Str} (h : sc.names.lookup x = some .cell) : ∃ c, (cellsFrom n sc.names []).lookup x = some c := by
  have q := PySem.W.cellsFrom_some sc.names n [] (.inl h)
  exact Option.isSome_iff_exists.mp q
theorem inv_start {CX : CXT} {P : Program} {w : World} {K : PySem.W.Frag} {mg : Str → Option Value} {base : Heap} {N ps : List Str} {qual : Str} {scope : Scope} {f : Addr} {cd : Value} {A : Around} {outer : List Env} {s s1 : Shared} {H : Hp} {E : XK} {us : List Value} {vs : List V}
    (S : FnScope N ps scope) (hd : A.handled = none) (e0 : Env0 P w K mg base A outer s H) (hl : vs.length = ps.length) (r : Vals vs us)
    (x : InCallC s s.heap.objs.size (bindL (envOfC qual scope s.heap.objs.size f cd).kindOf (ps.zip us) fun _ => none) (cellsFrom (s.heap.objs.size + 1) scope.names []) (bindC (envOfC qual scope s.heap.objs.size f cd).kindOf (ps.zip us) fun _ => none) s1) :
    Inv (cxOf CX P w K mg base N qual scope f cd A outer s H E) [] (start N vs) H s1 := by
  have hpl : ps.length ≤ N.length := by have := congrArg List.length S.pre; rw [List.length_take] at this; omega
  obtain ⟨h1, tk, rfl, hk⟩ := x.done
  have noA : ∀ b : Addr, b ∉ (cxOf CX P w K mg base N qual scope f cd A outer s H E).ex := fun b z => absurd (show b ∈ ([] : List Addr) from z) (by simp)
  refine ⟨⟨e0.mod, S.kind, rfl, rfl, Nat.le_refl _, fun y z c h1 h2 => ?_, fun y hy => ?_, fun y c _ h => ?_, fun _ => hd, Around.frames_deeper e0.frames, .inr ⟨rfl, rfl⟩, fun b z => absurd z (noA b), e0.bs, e0.bsz, fun b _ _ => noA b, fun b z => absurd z (noA b), e0.funs, e0.frf⟩,
    rfl, e0.bare, Un.kept hk, ⟨_, x.toInCall.ns, fun i y v h1 h2 h3 => ?_⟩, fun y c h => ⟨_, x.cell y c h⟩, e0.hok.fresh (Nat.le_refl _), fun y c h => ?_, fun p hp => absurd (show p ∈ ([] : List (Addr × Obj)) from hp) (by simp), e0.hok.kept hk, ?_⟩
  · exact name_of_addr x.apart (PySem.mem_of_lookup h1) (PySem.mem_of_lookup h2)
  · have hy : scope.names.lookup y = some .cell ∨ scope.names.lookup y = some .free := hy
    rcases hy with hy | hy
    · exact cell_has hy
    · exact absurd rfl (S.nofree _ (PySem.mem_of_lookup hy))
  · exact Nat.le_of_lt (x.above y c (PySem.mem_of_lookup h))
  · have hi : i < vs.length := by
      unfold start at h2
      by_cases hi : i < vs.length
      · exact hi
      · rw [List.getElem?_append_right (by simpa using hi)] at h2
        rw [List.getElem?_replicate] at h2
        split at h2 <;> cases h2
    have ha : vs[i]? = some v := by
      unfold start at h2
      rw [List.getElem?_append_left (by simpa using hi), List.getElem?_map] at h2
      cases e : vs[i]? with
      | none => rw [e] at h2; cases h2
      | some a => rw [e] at h2; cases h2; rfl
    obtain ⟨u, hu, rv⟩ := r.get ha
    have hp : ps[i]? = some y := by
      rw [← S.pre, List.getElem?_take_of_lt (by omega)]; exact h1
    have ndP : ps.Nodup := by rw [← S.pre]; exact S.nd.sublist (List.take_sublist _ _)
    refine ⟨u, rv, ?_⟩
    rcases S.par y (List.mem_of_getElem? hp) with k | k
    · exact .inl ⟨k, bindL_get ndP hp hu k⟩
    · obtain ⟨c, e⟩ := cell_has (n := s.heap.objs.size + 1) k
      refine .inr ⟨.inl k, c, e, ?_⟩
      have q := x.cell y c e
      rw [bindC_get ndP hp hu (by show scope.names.lookup y ≠ _; rw [k]; decide)] at q
      exact q
  · exact e0.hok.fresh (Nat.le_of_lt (x.above y c (PySem.mem_of_lookup h)))
  · unfold start
    show _ = N.length
    rw [List.length_append, List.length_map, List.length_replicate]
    omega
theorem fn_of {CX : CXT} {P : Program} {w : World} {K : PySem.W.Frag} {mg : Str → Option Value} {base : Heap} {k : Nat} {f : Addr} {name qual : Str} {params : Arguments} {body : List Stmt} {scope : Scope} {dV kV doc pm cdv ct oc : Value} {an od : Option Addr}
    {osl : Array (Option Value)} {N ps : List Str} {sp : Sp} (lk : K.lookup f = some ⟨oc, od, .func (PySem.W.fnOf name qual params body scope dV kV doc pm an cdv ct), osl⟩) (hcd : PySem.W.codeIn K cdv qual = true) (S : FnScope N ps scope)
    (len : ∀ vs H Q E, sp vs H Q E → vs.length = ps.length)
    (hbody : ∀ (A : Around) (outer : List Env) (s : Shared) (H : Hp) (vs : List V) (Q : VK) (E : XK), Room k (A.deeper (envOfC qual scope s.heap.objs.size f cdv)) → sp vs H Q E →
      ∃ t, PSs (cxOf CX P w K mg base N qual scope f cdv A outer s H E) body t ∧ t { nx := fun _ H' => Q .non H', rt := Q } (start N vs) H) :
    FnOk P w K mg base CX (k + 1) f (PySem.W.fnOf name qual params body scope dV kV doc pm an cdv ct) ps sp := by
  refine ⟨len, fun A outer s H args us vs Q E hr e0 hb r hsp => ?_⟩
  have hl := len _ _ _ _ hsp
  have KX : K.In s.heap := e0.mod.kin.keeps fun b o e => (e0.bs b o e).1
  have lim : s.heap.NoLimit := e0.mod.nolimit.keeps fun b o e => (e0.bs b o e).1
  have hkind : ∀ y ∈ ps.zip us, scope.names.lookup y.1 = some .local ∨ (scope.names.lookup y.1 = some .cell ∧ ((cellsFrom (s.heap.objs.size + 1) scope.names []).lookup y.1).isSome = true) := fun ⟨n, v⟩ hy => by
    rcases S.par n (List.of_mem_zip hy).1 with q | q
    · exact .inl q
    · exact .inr ⟨q, PySem.W.cellsFrom_some _ _ _ (.inl q)⟩
  refine codeAny_call_function hr.depth (KX _ _ lk) rfl S.co S.gen rfl (PySem.W.codeRec_of KX hcd) (hb _ _ _ _ ?_)
  refine wpAny_newFunctionEnv_cells S.kind hkind fun env he s1 x => ?_
  subst he
  refine ⟨lim.keeps x.toInCall.keep, codeAny_func ?_⟩
  obtain ⟨t, ht, hq⟩ := hbody A outer s H vs Q E (hr.deeper _) hsp
  have I : Inv (cxOf CX P w K mg base N qual scope f cdv A outer s H E) [] (start N vs) H s1 := inv_start S hr.hd e0 hl r x
  refine wpAny_mono (ht [] s1 (start N vs) H _ I hq) (fun fl s' hs => ?_) fun e s' hs => hs
  have fin : ∀ {σ' : St} {H' : Hp} {v : V} {u : Value}, Inv (cxOf CX P w K mg base N qual scope f cdv A outer s H E) [] σ' H' s' → RelV v u → Q v H' → CE outer P w H s Q u s' :=
    fun {σ' H' v u} J rv q => ⟨v, H', J.os, J.bare, J.base, J.hok, rv, q⟩
  cases fl with
  | ret u =>
    obtain ⟨v, σ', H', J, rv, q⟩ := hs
    exact fin J rv q
  | next =>
    obtain ⟨σ', H', J, q⟩ := hs
    exact fin (v := V.non) (u := Value.none) J rfl q
  | brk =>
    obtain ⟨_, _, _, q⟩ := hs
    exact False.elim q
  | cont =>
    obtain ⟨_, _, _, q⟩ := hs
    exact False.elim q
end L2
namespace L2
open PySem PySem.Spec PyProof.Rows
section
variable {X : Cx} {x : Str} {p pos : Pos} {e : Expr} {es : List Expr} {t : TA} {id T : String} {r : List V → Hp → VK → Prop}
def tCB (r : List V → Hp → VK → Prop) (t : TA) : TE := fun σ H Q => t σ H fun vs H1 => r vs H1 Q
theorem pe_callB (hc : CallR X (.builtin id) r) (hg : Gl X x) (hm : X.mg x = none) (hv : bootBuiltins x = some (.builtin id)) (ha : PA X (e :: es) t) (hn : x ≠ "__name__" := by decide) (hdb : (x == ("__debug__" : Str)) = false := by decide)
    (he : starEach (e :: es) X.env = (false, eval e X.env) :: starEach es X.env := by rfl) (hpl : (backTo pos (starEach es X.env)).any (·.1) = false := by rfl) : PE X (.Call (.Name x p) (e :: es) [] pos) (tCB r t) := by
  intro pins s σ H Q I h
  refine wpAny_Call_Name_kw (ld_blt I hg hm hv ?_ hn hdb)
  exact PyProof.Rows.callWith_builtin1 (thn (ha pos pins s σ H _ I h) fun us s1 ⟨vs, H1, I1, r1, q1⟩ => hc pins s1 σ H1 vs us Q I1 r1 q1) he hpl
theorem pe_callTy (hc : CallR X (.type T) r) (hg : Gl X x) (hm : X.mg x = none) (hv : bootBuiltins x = some (.type T)) (ha : PA X (e :: es) t) (hn : x ≠ "__name__" := by decide) (hdb : (x == ("__debug__" : Str)) = false := by decide)
    (he : starEach (e :: es) X.env = (false, eval e X.env) :: starEach es X.env := by rfl) (hpl : (backTo pos (starEach es X.env)).any (·.1) = false := by rfl) : PE X (.Call (.Name x p) (e :: es) [] pos) (tCB r t) := by
  intro pins s σ H Q I h
  refine wpAny_Call_Name_kw (ld_blt I hg hm hv ?_ hn hdb)
  exact PyProof.Rows.callWith_type1 (thn (ha pos pins s σ H _ I h) fun us s1 ⟨vs, H1, I1, r1, q1⟩ => hc pins s1 σ H1 vs us Q I1 r1 q1) he hpl
end
end L2
namespace HT
open PySem PyProof.Rows
section
open PySem.SeqAt
open PySem.AutoSeq1 (wpAny_loadPart')
open PySem.MeetsSeq PySem.MeetsSeq2 PySem.MeetsSeq3
end
section
variable {prog : Program} {w : World} {A : Around} {E : Value → Shared → Prop} {s : Shared}
def sIx (n d : Nat) : Option Int → Nat
  | none => d
  | some v => if v < 0 then (v + (n : Int)).toNat else min v.toNat n
theorem sIx_none (n d : Nat) : sIx n d none = d := rfl
theorem sIx_nat (n d k : Nat) : sIx n d (some (k : Int)) = min k n := by
  show (if (k : Int) < 0 then ((k : Int) + (n : Int)).toNat else min (k : Int).toNat n) = min k n
  rw [if_neg (by omega), Int.toNat_natCast]
end
end HT
namespace L2
open PySem PySem.Spec PyProof.Rows
abbrev TO := St → Hp → (Option Int → Hp → Prop) → Prop
def PO (X : Cx) (e : Option Expr) (t : TO) : Prop :=
  ∀ (pins : List (Addr × Obj)) (s : Shared) (σ : St) (H : Hp) (Q : Option Int → Hp → Prop), Inv X pins σ H s → t σ H Q →
    wpAny (model X.prog X.w) X.A (evalPart e X.env) (fun u s' => ∃ o H', Inv X pins σ H' s' ∧ IsPart u o ∧ Q o H') X.xe s
def tNoPart : TO := fun _ H Q => Q none H
def tPart (t : TE) : TO := fun σ H Q => t σ H fun x H1 => ∃ i, x = .int i ∧ Q (some i) H1
section
variable {X : Cx} {e : Expr} {te : TE} {lo hi : Option Expr} {tl th : TO} {pos p2 : Pos}
theorem po_none : PO X none tNoPart := by
  intro pins s σ H Q I h
  rw [evalPart_none]
  exact wpAny_pure ⟨none, H, I, .none, h⟩
theorem po_some (h : PE X e te) : PO X (some e) (tPart te) := by
  intro pins s σ H Q I hw
  rw [evalPart_some]
  refine thn (h pins s σ H _ I hw) fun u s1 ⟨x, H1, I1, r1, q1⟩ => ?_
  obtain ⟨i, rfl, q⟩ := q1
  obtain ⟨t, rfl⟩ := r1
  exact ⟨some i, H1, I1, .int i t, q⟩
def SlR (X : Cx) (r : V → Option Int → Option Int → Hp → VK → Prop) : Prop :=
  ∀ (pins : List (Addr × Obj)) (s : Shared) (σ : St) (H : Hp) (x : V) (v vl vu : Value) (lo hi : Option Int) (sl : Addr) (Q : VK), Inv X pins σ H s → RelV x v → s.heap.IsSliceOf sl vl vu .none → IsPart vl lo → IsPart vu hi → r x lo hi H Q →
    ∃ T id, typeLookup (.type T) "__getitem__" = pure (some (.builtin id)) ∧ s.TypeIs v T ∧ wpAny (model X.prog X.w) X.A (getItem v (.ref sl)) (EP X pins σ Q) X.xe s
def tSl (r : V → Option Int → Option Int → Hp → VK → Prop) (te : TE) (tl th : TO) : TE := fun σ H Q => te σ H fun x H1 => tl σ H1 fun l H2 => th σ H2 fun u H3 => r x l u H3 Q
theorem pe_slice {r : V → Option Int → Option Int → Hp → VK → Prop} (hr : SlR X r) (he : PE X e te) (hl : PO X lo tl) (hu : PO X hi th) : PE X (.Subscript e (.Slice lo hi none p2) pos) (tSl r te tl th) := by
  intro pins s σ H Q I h
  refine Subscript_ (thn (he pins s σ H _ I h) fun v s1 ⟨x, H1, I1, r1, q1⟩ => ?_)
  refine wpAny_Slice (thn (hl pins s1 σ H1 _ I1 q1) fun vl s2 ⟨l, H2, I2, pl, q2⟩ => thn (hu pins s2 σ H2 _ I2 q2) fun vu s3 ⟨u, H3, I3, pu, q3⟩ => ?_)
  rw [evalPart_none]
  refine wpAny_pure ?_
  have I4 : Inv X pins σ H3 { s3 with heap := s3.heap.push { cls := .type "slice", data := .fields #[vl, vu, .none] } } := I3.kept (t' := s3.toks) fun b ob q => Heap.get?_push_of_some _ q
  obtain ⟨T, id, hT, ht, hg⟩ := hr pins { s3 with heap := s3.heap.push { cls := .type "slice", data := .fields #[vl, vu, .none] } } σ H3 x v vl vu l u s3.heap.objs.size Q I4 r1 (Heap.IsSliceOf.new ..) pl pu q3
  show wpAny (model X.prog X.w) X.A (subscriptTail e (.Slice lo hi none p2) v (.ref s3.heap.objs.size)) (EP X pins σ Q) X.xe { s3 with heap := s3.heap.push { cls := .type "slice", data := .fields #[vl, vu, .none] } }
  exact tail_any (ops := [.ref s3.heap.objs.size, v]) ht hT hg (by with_unfolding_all rfl)
def cutV (xs : List V) (lo hi : Option Int) : List V := (xs.drop (HT.sIx xs.length 0 lo)).take (HT.sIx xs.length xs.length hi - HT.sIx xs.length 0 lo)
theorem cutV_length (xs : List V) (lo hi : Option Int) : (cutV xs lo hi).length ≤ xs.length := by
  unfold cutV
  rw [List.length_take, List.length_drop]
  omega
theorem Vals.nil_iff {xs : List V} {us : List Value} (r : Vals xs us) : us = [] ↔ xs = [] := by
  cases r with
  | nil => simp
  | cons _ _ => simp
end
end L2
namespace L2
open PySem PySem.Spec PyProof.Rows
def ixN (n : Nat) (i : Int) : Option Nat := if 0 ≤ i then (if i < n then some i.toNat else none) else if -(n : Int) ≤ i then some (i + n).toNat else none
def atI {α : Type} (xs : List α) (i : Int) : Option α := (ixN xs.length i).bind fun j => xs[j]?
theorem ixN_seq {n : Nat} {i : Int} {j : Nat} (h : ixN n i = some j) : seqIndex? i n = some j ∧ j < n ∧ -(n : Int) ≤ i ∧ i < n := by
  unfold ixN at h
  by_cases h0 : 0 ≤ i
  · rw [if_pos h0] at h
    by_cases h1 : i < n
    · rw [if_pos h1] at h
      have e : i.toNat = j := Option.some.inj h
      exact ⟨by rw [seqIndex_of h0 h1, e], by omega, by omega, h1⟩
    · rw [if_neg h1] at h; cases h
  · rw [if_neg h0] at h
    by_cases h1 : -(n : Int) ≤ i
    · rw [if_pos h1] at h
      have e : (i + n).toNat = j := Option.some.inj h
      exact ⟨by rw [seqIndex_neg (by omega) h1, e], by omega, h1, by omega⟩
    · rw [if_neg h1] at h; cases h
theorem atI_get {α : Type} {xs : List α} {i : Int} {v : α} (h : atI xs i = some v) : ∃ j, seqIndex? i xs.length = some j ∧ xs[j]? = some v ∧ j < xs.length ∧ -(xs.length : Int) ≤ i ∧ i < xs.length := by
  unfold atI at h
  cases e : ixN xs.length i with
  | none => rw [e] at h; cases h
  | some j =>
    rw [e] at h
    obtain ⟨h1, h2, h3, h4⟩ := ixN_seq e
    exact ⟨j, h1, h, h2, h3, h4⟩
theorem atI_nat {α : Type} {xs : List α} {j : Nat} {v : α} (h : xs[j]? = some v) : atI xs (j : Int) = some v := by
  have hj : j < xs.length := (List.getElem?_eq_some_iff.mp h).1
  have e : ixN xs.length (j : Int) = some j := by
    unfold ixN
    rw [if_pos (by omega), if_pos (by omega)]; simp
  unfold atI; rw [e]; exact h
def PlainIx (b : Expr) : Prop := ∀ o i, subscripted b false o i = operate [o, i] (getItem o i)
def IxR (X : Cx) (r : R2) : Prop :=
  ∀ (value slice : Expr) (pins : List (Addr × Obj)) (s : Shared) (σ : St) (H : Hp) (x y : V) (v u : Value) (Q : VK), Inv X pins σ H s → RelV x v → RelV y u → r x y H Q →
    subscripted slice false v u = operate [v, u] (getItem v u) → wpAny (model X.prog X.w) X.A (subscriptTail value slice v u) (EP X pins σ Q) X.xe s
def MtR (X : Cx) (id : String) (r : V → List V → Hp → VK → Prop) : Prop :=
  ∀ (pins : List (Addr × Obj)) (s : Shared) (σ : St) (H : Hp) (x : V) (xs : List V) (v : Value) (us : List Value) (Q : VK), Inv X pins σ H s → RelV x v → Vals xs us → r x xs H Q →
    wpAny (model X.prog X.w) X.A (call (.builtin id) (v :: us)) (EP X pins σ Q) X.xe s
section
variable {X : Cx} {a b : Expr} {ta tb : TE} {pos : Pos}
theorem pe_ix {r : R2} (hr : IxR X r) (ha : PE X a ta) (hb : PE X b tb) (hs : PlainIx b) : PE X (.Subscript a b pos) (tOp r ta tb) := by
  intro pins s σ H Q I h
  exact Subscript_ (binT ha hb I h fun v u s2 x y H2 I2 rx ry q => hr a b pins s2 σ H2 x y v u Q I2 rx ry q (hs _ _))
def rIxL (K : PySem.W.Frag) : R2 := fun x y H Q => ∃ p xs i v, x = .ref p ∧ y = .int i ∧ SqL K H p xs ∧ atI xs i = some v ∧ Q v H
def rIxT (K : PySem.W.Frag) : R2 := fun x y H Q => ∃ p xs i v, x = .ref p ∧ y = .int i ∧ SqT K H p xs ∧ atI xs i = some v ∧ Q v H
theorem ix_list : IxR X (rIxL X.K) := by
  intro value slice pins s σ H x y v u Q I rx ry h hs
  obtain ⟨p, xs, i, z, rfl, rfl, hq, he, q⟩ := h
  cases rx
  obtain ⟨t, rfl⟩ := ry
  obtain ⟨its, r, pl, hz⟩ := I.list hq
  obtain ⟨j, h1, h2, h3, h4, h5⟩ := atI_get he
  obtain ⟨w, ew, rw'⟩ := r.get h2
  have hl := r.length
  have hn := line63
  have fin : EP X pins σ Q w s := ⟨z, H, I, rw', q⟩
  by_cases h0 : 0 ≤ i
  · have hj : i.toNat = j := by
      rw [seqIndex_of h0 h5] at h1
      exact Option.some.inj h1
    exact item_listR pl.isList h0 (by omega) (by rw [hj]; simpa using ew) fin hs
  · have hj : (i + (its.toArray.size : Int)).toNat = j := by
      rw [seqIndex_neg (by omega) h4] at h1
      rw [List.size_toArray, ← hl]
      exact Option.some.inj h1
    exact subscriptTail_builtinR (x := w) pl.isList.typeIs slot_list_getitem.lookup
      (wpAny_getItem_list_neg (Q := fun r s' => r = w ∧ EP X pins σ Q r s') pl.isList (by omega) (by rw [List.size_toArray] <;> omega) (by omega) (by rw [hj]; simpa using ew) ⟨rfl, fin⟩) hs
theorem ix_tup : IxR X (rIxT X.K) := by
  intro value slice pins s σ H x y v u Q I rx ry h hs
  obtain ⟨p, xs, i, z, rfl, rfl, hq, he, q⟩ := h
  cases rx
  obtain ⟨t, rfl⟩ := ry
  obtain ⟨its, r, pl, hz⟩ := I.tuple hq
  obtain ⟨j, h1, h2, h3, h4, h5⟩ := atI_get he
  obtain ⟨w, ew, rw'⟩ := r.get h2
  have hl := r.length
  have hn := line63
  have fin : EP X pins σ Q w s := ⟨z, H, I, rw', q⟩
  exact subscriptTail_builtinR (x := w) pl.typeIs slot_tuple_getitem.lookup
    (getItem_tuple (j := j) (Q := fun r s' => r = w ∧ EP X pins σ Q r s') pl (by omega) (by omega) (by rw [List.size_toArray, ← hl]; exact h1) (by simpa using ew) ⟨rfl, fin⟩) hs
theorem mapSeq_set (its : List Value) (n j : Nat) (u : Value) : Obj.mapSeq (·.setIfInBounds j u) { cls := .type "list", data := .seq its.toArray n } = { cls := .type "list", data := .seq (its.set j u).toArray n } := by
  simp [Obj.mapSeq]
theorem Inv.lst {pins : List (Addr × Obj)} {σ : St} {H : Hp} {s : Shared} {p : Addr} {xs : List V} (I : Inv X pins σ H s) (h : H p = some (.lst xs)) :
    ∃ (its : List Value) (n : Nat), Vals xs its ∧ s.heap.get? p = some { cls := .type "list", data := .seq its.toArray n } ∧ xs.length ≤ sizeLine := by
  obtain ⟨z, its, n, r, e⟩ := I.hok p _ h
  exact ⟨its, n, r, e, z⟩
theorem Inv.lstUpd {pins : List (Addr × Obj)} {σ : St} {H : Hp} {s : Shared} {p : Addr} {xs ys : List V} {its its' : List Value} {n n' : Nat} {f : Obj → Obj} (I : Inv X pins σ H s) (h : H p = some (.lst xs))
    (ho : s.heap.get? p = some { cls := .type "list", data := .seq its.toArray n }) (hf : f { cls := .type "list", data := .seq its.toArray n } = { cls := .type "list", data := .seq its'.toArray n' }) (r : Vals ys its') (hz : ys.length ≤ sizeLine) (t : Nat) :
    Inv X pins σ (upd H p (.lst ys)) { s with heap := s.heap.update p f, toks := t } := by
  have e : (s.heap.update p f).get? p = some { cls := .type "list", data := .seq its'.toArray n' } := by
    rw [Heap.get?_update_self f ho (by rw [hf] <;> rfl), hf]
  refine I.write (x := p) (e := p) (by rw [h]; trivial) (.inl rfl) (fun b u hb q => (Heap.get?_update_other _ _ (Ne.symm hb)).trans q) ⟨_, e⟩ ?_
  exact ⟨hz, its', n', r, e⟩
def rSetL : V → V → V → Hp → (Hp → Prop) → Prop := fun o i v H Q => ∃ p xs k j, o = .ref p ∧ i = .int k ∧ H p = some (.lst xs) ∧ ixN xs.length k = some j ∧ Q (upd H p (.lst (xs.set j v)))
theorem set_list : PSet X rSetL := by
  intro pins s σ H o i v ov iv u Q I ro ri rv h
  obtain ⟨p, xs, k, j, rfl, rfl, hp, hj, q⟩ := h
  cases ro
  obtain ⟨t, rfl⟩ := ri
  obtain ⟨its, n, r, ho, hz⟩ := I.lst hp
  obtain ⟨h1, h2, h3, h4⟩ := ixN_seq hj
  have hl := r.length
  have hn := line63
  have I' : Inv X pins σ (upd H p (.lst (xs.set j v))) { s with heap := s.heap.update p (Obj.mapSeq (·.setIfInBounds j u)) } :=
    I.lstUpd hp ho (mapSeq_set its n j u) (r.set rv j) (by rw [List.length_set]; exact hz) s.toks
  by_cases h0 : 0 ≤ k
  · have hk : k.toNat = j := by
      rw [seqIndex_of h0 h4] at h1
      exact Option.some.inj h1
    exact PySem.W.ki_setAt ho h0 (by omega) (by rw [List.size_toArray, ← hl]; exact h4) (by rw [hk]; exact ⟨_, I', q⟩)
  · have hk : (k + (its.toArray.size : Int)).toNat = j := by
      rw [seqIndex_neg (by omega) h3] at h1
      rw [List.size_toArray, ← hl]
      exact Option.some.inj h1
    exact PySem.W.ki_setBack ho (by omega) (by rw [List.size_toArray, ← hl]; exact h3) (by omega) (by rw [hk]; exact ⟨_, I', q⟩)
theorem slice_bounds (lo hi : Option Int) (n : Nat) : (sliceBounds lo hi none n).1 = ((HT.sIx n 0 lo : Nat) : Int) ∧ (sliceBounds lo hi none n).2.1 = ((HT.sIx n n hi : Nat) : Int) ∧ (sliceBounds lo hi none n).2.2 = 1 := by
  refine ⟨?_, ?_, rfl⟩
  · cases lo with
    | none => simp [sliceBounds, HT.sIx]
    | some i =>
      simp only [sliceBounds, HT.sIx, Option.getD_none, show (1 : Int) > 0 by decide, if_true]
      by_cases h : i < 0
      · simp only [h, if_true] <;> omega
      · simp only [h, if_false] <;> omega
  · cases hi with
    | none => simp [sliceBounds, HT.sIx]
    | some i =>
      simp only [sliceBounds, HT.sIx, Option.getD_none, show (1 : Int) > 0 by decide, if_true]
      by_cases h : i < 0
      · simp only [h, if_true] <;> omega
      · simp only [h, if_false] <;> omega
theorem slicePick_cut (its : List Value) (lo hi : Option Int) : slicePick its.toArray lo hi none = ((its.drop (HT.sIx its.length 0 lo)).take (HT.sIx its.length its.length hi - HT.sIx its.length 0 lo)).toArray := by
  obtain ⟨h1, h2, h3⟩ := slice_bounds lo hi its.toArray.size
  unfold slicePick
  rw [h1, h2, h3]
  simp only [sliceRange_one, pick_run, List.size_toArray] <;> rfl
def rSlL (K : PySem.W.Frag) : V → Option Int → Option Int → Hp → VK → Prop := fun x lo hi H Q => ∃ a xs, x = .ref a ∧ SqL K H a xs ∧ ∀ p, H p = none → Q (.ref p) (upd H p (.lst (cutV xs lo hi)))
theorem sl_list : SlR X (rSlL X.K) := by
  intro pins s σ H x v vl vu lo hi sl Q I rx hs pl pu h
  obtain ⟨a, xs, rfl, hx, q⟩ := h
  cases rx
  obtain ⟨its, r, ht, hz⟩ := I.list hx
  have hlen := r.length
  refine ⟨"list", _, slot_list_getitem.lookup, ht.isList.typeIs, ?_⟩
  refine wpAny_getItem_list_slice ht.isList hs pl pu .none (by simp) ?_ (by rw [List.size_toArray] <;> omega)
  rw [slicePick_cut, ← hlen]
  refine ⟨.ref s.heap.objs.size, _, I.laid (t' := s.toks) (o := .lst (cutV xs lo hi)) (fun b ob q => Heap.get?_push_of_some _ q) (Nat.le_refl _) ?_, rfl, q _ (I.hok.fresh (Nat.le_refl _))⟩
  exact ⟨Nat.le_trans (cutV_length xs lo hi) hz, _, 0, (r.drop (HT.sIx xs.length 0 lo)).take (HT.sIx xs.length xs.length hi - HT.sIx xs.length 0 lo), Heap.get?_push_size _ rfl⟩
theorem call_len_seq : CallR X (.builtin "len") (fun xs H Q => ∃ p ys, xs = [.ref p] ∧ (SqL X.K H p ys ∨ SqT X.K H p ys) ∧ Q (.int ys.length) H) := by
  intro pins s σ H xs us Q I r h
  obtain ⟨p, ys, rfl, hq, q⟩ := h
  obtain ⟨u, rfl, rx⟩ := vals1 r
  cases rx
  have hn := line63
  rcases hq with hq | hq
  · obtain ⟨its, r', pl, hz⟩ := I.list hq
    have hlen := r'.length
    exact Calls.call_len_list pl.isList (by simp only [List.size_toArray] <;> omega) ⟨.int ys.length, H, I.tok _, ⟨s.toks + 1, by rw [List.size_toArray, hlen]⟩, q⟩
  · obtain ⟨its, r', pl, hz⟩ := I.tuple hq
    have hlen := r'.length
    exact len_tuple pl (by simp only [List.size_toArray] <;> omega) ⟨.int ys.length, H, I.tok _, ⟨s.toks + 1, by rw [List.size_toArray, hlen]⟩, q⟩
theorem call_tuple_of : CallR X (.type "tuple") (fun xs H Q => ∃ p ys, xs = [.ref p] ∧ ((SqL X.K H p ys ∧ ∀ l, H l = none → Q (.ref l) (upd H l (.tup ys))) ∨ (SqT X.K H p ys ∧ Q (.ref p) H))) := by
  intro pins s σ H xs us Q I r h
  obtain ⟨p, ys, rfl, h⟩ := h
  obtain ⟨u, rfl, rx⟩ := vals1 r
  cases rx
  rcases h with ⟨hq, q⟩ | ⟨hq, q⟩
  · obtain ⟨its, r', pl, hz⟩ := I.list hq
    have hlen := r'.length
    refine call_tuple_list pl.isList (fun h' kp => ?_) (by simp only [List.size_toArray] <;> omega)
    have I1 : Inv X pins σ H { s with heap := h' } := I.kept (t' := s.toks) kp
    have I2 : Inv X pins σ (upd H h'.objs.size (.tup ys)) { s with heap := h'.push { cls := .type "tuple", data := .seq its.toArray } } :=
      I1.laid (t' := s.toks) (fun b o e => Heap.get?_push_of_some _ e) (Nat.le_refl _) (show ObjOk X.prog X.w _ _ _ (.tup ys) from ⟨hz, its, r', IsTup.new _ _⟩)
    exact ⟨.ref h'.objs.size, _, I2, rfl, q _ (I1.hok.fresh (Nat.le_refl _))⟩
  · obtain ⟨its, r', pl, hz⟩ := I.tuple hq
    exact call_tuple_same pl ⟨.ref p, H, I, rfl, q⟩
def tyV (K : PySem.W.Frag) (T : String) (x : V) (H : Hp) : Prop := match x with
  | .str _ => T = "str"
  | .int _ => T = "int"
  | .ref p => (T = "list" ∧ ∃ xs, SqL K H p xs) ∨ (T = "tuple" ∧ ∃ o, K.lookup p = some o ∧ o.cls = .type "tuple" ∧ o.dict = none) ∨
      (T = "dict" ∧ ((∃ kvs, H p = some (.dK kvs)) ∨ ∃ kvs, H p = some (.dT kvs))) ∨ (T = "set" ∧ ∃ S n, H p = some (.set S n))
  | _ => False
theorem tyV_is {pins : List (Addr × Obj)} {σ : St} {H : Hp} {s : Shared} {T : String} {x : V} {v : Value} (I : Inv X pins σ H s) (r : RelV x v) (ty : tyV X.K T x H) :
    s.TypeIs v T ∧ ∀ a, v = .ref a → ∃ ob, s.heap.get? a = some ob ∧ ob.dict = none := by
  cases x with
  | str z =>
    obtain ⟨t, rfl⟩ := r
    cases (show T = "str" from ty)
    exact ⟨typeIs_str s z t, fun _ e => nomatch e⟩
  | int i =>
    obtain ⟨t, rfl⟩ := r
    cases (show T = "int" from ty)
    exact ⟨typeIs_int s i t, fun _ e => nomatch e⟩
  | ref p =>
    cases r
    rcases ty with ⟨rfl, xs, hq⟩ | ⟨rfl, o, hk, hc, hd⟩ | ⟨rfl, hk⟩ | ⟨rfl, S, n, hk⟩
    · obtain ⟨its, _, pl, _⟩ := I.list hq
      refine ⟨pl.isList.typeIs, fun a e => ?_⟩
      cases e
      obtain ⟨o, n, e, c, hd, _⟩ := pl
      exact ⟨o, e, hd⟩
    · refine ⟨⟨o, I.kIn p o hk, hc⟩, fun a e => ?_⟩
      cases e
      exact ⟨o, I.kIn _ o hk, hd⟩
    · have z : ∃ o, s.heap.get? p = some o ∧ o.ExactDict := by
        rcases hk with ⟨kvs, hk⟩ | ⟨kvs, hk⟩
        · obtain ⟨_, _, _, _, o, _, _, e, ex, _⟩ := I.hok p _ hk
          exact ⟨o, e, ex⟩
        · obtain ⟨_, _, _, _, o, _, _, e, ex, _⟩ := I.hok p _ hk
          exact ⟨o, e, ex⟩
      obtain ⟨o, e, ex⟩ := z
      refine ⟨⟨o, e, ex.1⟩, fun a e2 => ?_⟩
      cases e2
      exact ⟨o, e, ex.2.1⟩
    · obtain ⟨o, _, _, _, e, ex, _⟩ := I.hok p _ hk
      refine ⟨⟨o, e, ex.1⟩, fun a e2 => ?_⟩
      cases e2
      exact ⟨o, e, ex.2.1⟩
  | _ => exact False.elim ty
def tBM (K : PySem.W.Frag) (T : String) (r : V → List V → Hp → VK → Prop) (to : TE) (t : TA) : TE := fun σ H Q => to σ H fun x H1 => tyV K T x H1 ∧ t σ H1 fun xs H2 => r x xs H2 Q
variable {o e : Expr} {es : List Expr} {to : TE} {t : TA} {name : Str} {apos cpos : Pos} {T id : String} {r : V → List V → Hp → VK → Prop}
theorem pe_bm (pa : PlainAttrs T) (slot : Slot T name id) (hty : typeOf (.builtin id) = pure (.type "method_descriptor")) (hm : MtR X id r) (ho : PE X o to) (ha : PA X (e :: es) t)
    (hbase : attributeBase o name X.env (eval o X.env) = eval o X.env := by rfl)
    (hfew : ((backTo cpos (starEach (e :: es) X.env)).all (fun x => !x.1) && (backToKw cpos (keywordEach [] X.env)).all (fun x => x.1.isSome)
      && decide ((e :: es).length + ([] : List Keyword).length + (if ([] : List Keyword).isEmpty then 0 else 1) < 30)) = true := by rfl)
    (hline : (apos.endLine == cpos.line) = true := by rfl) (hs : starEach (e :: es) X.env = (false, eval e X.env) :: starEach es X.env := by rfl) (hplain : (backTo cpos (starEach es X.env)).any (·.1) = false := by rfl) :
    PE X (.Call (.Attribute o name apos) (e :: es) [] cpos) (tBM X.K T r to t) := by
  intro pins s σ H Q I h
  refine wpAny_Call_method_late hbase hfew hline rfl (thn (ho pins s σ H _ I h) fun v s1 ⟨x, H1, I1, r1, ty, q1⟩ => ?_)
  obtain ⟨h1, h2⟩ := tyV_is I1 r1 ty
  refine ⟨T, id, pa, slot, hty, h1, h2, ?_⟩
  have hA := ha cpos pins s1 σ H1 _ I1 q1
  rw [hs] at hA ⊢
  refine Calls.callWith_builtin (by show (false || (backTo cpos (starEach es X.env)).any (·.1)) = false; rw [hplain] <;> rfl) (Calls.evalArgs_plain ?_)
  exact thn hA fun us s2 ⟨vs, H2, I2, r2, q2⟩ => hm pins s2 σ H2 x vs v us Q I2 r1 r2 q2
end
end L2
namespace L2
open PySem PySem.Spec PyProof.Rows
def MtM (X : Cx) (id : String) (r : V → List V → Hp → VK → Prop) : Prop :=
  ∀ (pins : List (Addr × Obj)) (s : Shared) (σ : St) (H : Hp) (x : V) (xs : List V) (v : Value) (us : List Value) (Q : VK), Inv X pins σ H s → RelV x v → Vals xs us → r x xs H Q →
    wpAny (model X.prog X.w) X.A (call (.builtin id) (v :: us)) (EP X pins σ Q) X.xe s
theorem Vals.one {x : V} {us : List Value} (h : Vals [x] us) : ∃ u, us = [u] ∧ RelV x u := by
  cases h with
  | cons r t => cases t; exact ⟨_, rfl, r⟩
theorem Vals.rep {xs : List V} {us : List Value} (h : Vals xs us) : ∀ k : Nat, Vals (List.replicate k xs).flatten (List.replicate k us).flatten
  | 0 => .nil
  | k + 1 => by
    rw [List.replicate_succ, List.replicate_succ, List.flatten_cons, List.flatten_cons]
    exact Vals.append h (Vals.rep h k)
theorem foldl_rep (its : List Value) : ∀ (k : Nat) (acc : List Value),
    List.foldl (fun x1 x2 => x1 ++ x2) acc.toArray (List.replicate k its.toArray) = (acc ++ (List.replicate k its).flatten).toArray
  | 0, acc => by simp
  | k + 1, acc => by
    have e : acc.toArray ++ its.toArray = (acc ++ its).toArray := by simp
    have e2 : (acc ++ its) ++ (List.replicate k its).flatten = acc ++ (List.replicate (k + 1) its).flatten := by
      rw [List.replicate_succ, List.flatten_cons, List.append_assoc]
    rw [← e2, ← foldl_rep its k (acc ++ its), ← e, List.replicate_succ, List.foldl_cons]
section
variable {X : Cx} {pins : List (Addr × Obj)} {σ : St} {H : Hp} {s : Shared} {l b : Addr} {xs ys zs : List V}
theorem Inv.lset {its its' : List Value} {n : Nat} {f : Array Value → Array Value} {t' : Nat} (I : Inv X pins σ H s) (hH : H l = some (.lst xs))
    (e : s.heap.get? l = some { cls := .type "list", data := .seq its.toArray n }) (hf : f its.toArray = its'.toArray) (hv : Vals ys its') (hz : ys.length ≤ sizeLine) :
    Inv X pins σ (upd H l (.lst ys)) { s with heap := s.heap.update l (Obj.mapSeq f), toks := t' } := by
  have q := PySem.IsL.update e f
  rw [hf] at q
  refine I.write (x := l) (e := l) (by rw [hH]; exact trivial) (.inl rfl) (fun b' u hb hu => (Heap.get?_update_other s.heap (Obj.mapSeq f) (Ne.symm hb)).trans hu) ⟨_, q⟩ ?_
  exact ⟨hz, its', _, hv, q⟩
theorem Inv.lnew {its : List Value} {t' : Nat} (I : Inv X pins σ H s) (hv : Vals ys its) (hz : ys.length ≤ sizeLine) :
    Inv X pins σ (upd H s.heap.objs.size (.lst ys)) { s with heap := s.heap.push { cls := .type "list", data := .seq its.toArray }, toks := t' } :=
  I.laid (fun _ _ q => Heap.get?_push_of_some _ q) (Nat.le_refl _) ⟨hz, its, 0, hv, Heap.get?_push_size _ rfl⟩
theorem Inv.fresh (I : Inv X pins σ H s) : H s.heap.objs.size = none := I.hok.fresh (Nat.le_refl _)
theorem Inv.lstM (I : Inv X pins σ H s) (hH : H l = some (.lst xs)) : xs.length ≤ sizeLine ∧ ∃ (its : List Value) (n : Nat), Vals xs its ∧ xs.length = its.length ∧ s.heap.get? l = some { cls := .type "list", data := .seq its.toArray n } := by
  obtain ⟨z, its, n, r, e⟩ := I.hok l _ hH
  exact ⟨z, its, n, r, r.length, e⟩
theorem notLongL {n : Nat} (h : n ≤ sizeLine) : Builtin.List.listTooLong n = false := by
  unfold Builtin.List.listTooLong
  exact decide_eq_false (by omega)
end
section
variable {X : Cx}
def rAppend : V → List V → Hp → VK → Prop := fun x vs H Q => ∃ l xs y, x = .ref l ∧ vs = [y] ∧ H l = some (.lst xs) ∧ xs.length < sizeLine ∧ Q .non (upd H l (.lst (xs ++ [y])))
theorem mt_append : MtM X "list.append" rAppend := by
  intro pins s σ H x vs v us Q I rx rv h
  obtain ⟨l, xs, y, rfl, rfl, hH, hz, q⟩ := h
  cases rx
  obtain ⟨u, rfl, ru⟩ := rv.one
  obtain ⟨z, its, n, r, hl, e⟩ := I.lstM hH
  refine call_meets F.slot_list_append ⟨_, e, rfl⟩ F.entry_list_append (F.args_list_append_2 _ _) (PySem.list_append l its.toArray n u (by rw [List.size_toArray]; omega)) ⟨e, ?_⟩
  refine ⟨.non, _, I.lset (its' := its ++ [u]) hH e (by simp) (r.append (.cons ru .nil)) ?_, rfl, q⟩
  rw [List.length_append, List.length_singleton]
  omega
def rRep : R2 := fun x y H Q => ∃ l k xs, x = .ref l ∧ y = .int k ∧ H l = some (.lst xs) ∧ -(2 ^ 63) ≤ k ∧ k < 2 ^ 63 ∧ xs.length * k.toNat ≤ sizeLine ∧
  ∀ p, H p = none → Q (.ref p) (upd H p (.lst (List.replicate k.toNat xs).flatten))
theorem len_rep {α : Type} (xs : List α) (k : Nat) : (List.replicate k xs).flatten.length = k * xs.length := by
  induction k with
  | zero => simp
  | succ k ih => rw [List.replicate_succ, List.flatten_cons, List.length_append, ih, Nat.succ_mul, Nat.add_comm]
theorem op_rep : OpR X (binaryOp .Mult) rRep := by
  intro pins s σ H x y v u Q I rx ry h
  obtain ⟨l, k, xs, rfl, rfl, hH, h1, h2, hz, q⟩ := h
  cases rx
  obtain ⟨t, rfl⟩ := ry
  obtain ⟨z, its, n, r, hl, e⟩ := I.lstM hH
  have hlen : its.toArray.size * k.toNat ≤ sizeLine := by rw [List.size_toArray, ← hl]; exact hz
  have hcap : ¬ its.toArray.size * k.toNat > (2 ^ 63 - 1) / 8 := by
    have : (sizeLine : Nat) ≤ (2 ^ 63 - 1) / 8 := by decide
    omega
  have hfit : ¬ (!Builtin.List.listFitsIndex k) = true := by
    rw [fitsIndex_both h1 h2]
    exact Bool.false_ne_true
  have hlong : ¬ Builtin.List.listTooLong (its.toArray.size * k.toNat) = true := by
    rw [notLongL hlen]
    exact Bool.false_ne_true
  have hnew : List.foldl (fun x1 x2 => x1 ++ x2) #[] (List.replicate (if its.toArray.isEmpty = true then 0 else k.toNat) its.toArray) = (List.replicate k.toNat its).flatten.toArray := by
    have f0 : ∀ m : Nat, List.foldl (fun x1 x2 => x1 ++ x2) #[] (List.replicate m its.toArray) = (List.replicate m its).flatten.toArray := fun m => by
      have := foldl_rep its m []
      rw [List.nil_append] at this
      exact this
    rw [f0]
    cases its with
    | nil => simp
    | cons a r' => rw [if_neg (by simp)]
  refine wpAny_binaryOp_repeat_ref (T := "list") (U := "int") (by decide) ⟨_, e, rfl⟩ (fun s' => typeIs_int s' k t) noFill_list_mul F.fills_int_mul F.slot_int_rmul repeat_list F.slot_int_index.lookup
    (call_meets F.slot_int_rmul (typeIs_int s k t) F.entry_int_rmul (F.args_int_rmul_2 _ _) (int___rmul___int_list k t l its.toArray n)
      ⟨e, rfl, ⟨_, e, rfl⟩, call_meets F.slot_list_mul ⟨_, e, rfl⟩ F.entry_list_mul (F.args_list_mul_2 _ _) (AutoListH.list___mul___list_int_3 l its.toArray n k t hfit hcap hlong) ⟨e, ?_⟩⟩)
  rw [hnew]
  exact ⟨.ref _, _, I.lnew (t' := s.toks) (r.rep k.toNat) (by rw [len_rep, Nat.mul_comm]; exact hz), rfl, q _ I.fresh⟩
end
section
variable {prog : Program} {w : World} {A : Around} {E : Value → Shared → Prop} {s : Shared}
end
section
variable {X : Cx}
end
end L2
namespace L2
open PySem PySem.Spec PyProof.Rows
section
variable {κ : Type} [DecidableEq κ]
end
section
variable {P : Program} {w : World} {H : Hp} {h : Heap} {a : Addr}
end
section
variable {X : Cx} {pins : List (Addr × Obj)} {σ : St} {H : Hp} {s : Shared} {a : Addr} {y v : V} {u r : Value} {o : Option V} {A : Around} {E : Value → Shared → Prop}
end
section
variable {X : Cx} {pins : List (Addr × Obj)} {σ : St} {H : Hp} {s : Shared} {a : Addr} {kvs : List (Key × V)} {k : Key} {u : Value} {A : Around} {E : Value → Shared → Prop}
end
section
variable {X : Cx} {o i e value : Expr} {pos pos' tpos : Pos} {td ty tv : TE}
end
section
variable {X : Cx} {pos : Pos}
end
section
variable {X : Cx} {pins : List (Addr × Obj)} {σ : St} {H : Hp} {s : Shared} {a : Addr} {y d : V} {u r : Value} {o : Option V} {A : Around} {E : Value → Shared → Prop}
end
section
variable {X : Cx} {o e f : Expr} {apos cpos : Pos} {td ty tx : TE}
end
section
variable {X : Cx} {pins : List (Addr × Obj)} {σ : St} {H : Hp} {s : Shared} {a : Addr} {kvs : List (Key × V)} {A : Around} {E : Value → Shared → Prop}
end
section
variable {X : Cx} {pins : List (Addr × Obj)} {σ : St} {H : Hp} {s : Shared} {a : Addr} {y : V} {u : Value} {A : Around} {E : Value → Shared → Prop}
end
end L2
namespace Att
open PySem PySem.W PySem.Calls PyProof.Rows
theorem ints_of_wellAll {P : Params} {h : Heap} : ∀ (ns : List Int) (vs : List Value), WellAll P h vs (ns.map WData.int) → IntsAre vs ns := by
  intro ns
  induction ns with
  | nil =>
    intro vs w
    rw [List.map_nil] at w
    cases w
    exact .nil
  | cons n ns ih =>
    intro vs w
    rw [List.map_cons] at w
    cases w with
    | cons a b =>
      cases a
      exact .cons _ _ (ih _ b)
theorem script_of {l : OpenLaw} {n : Nat} (hn : l.most = some n) {P : Params} {h : Heap} {args : List WData} {vals : List Value}
    (hpre : l.row.toRowW.claim.pre args = true) (hwl : WellAll P h vals args) :
    ∃ a vs ns, vals = [Value.ref a] ∧ args = [WData.list (ns.map WData.int)] ∧ h.get? a = some { cls := .type "list", data := .seq vs.toArray } ∧ IntsAre vs ns ∧ ns.length ≤ n := by
  have hsh : WShape.hasAll [] args [.list .int] = true := (pre_splitW hpre).1
  have hc : l.pre.holds [] { args := args } = true := (pre_splitW hpre).2
  obtain ⟨d, r, rfl, h1, h2⟩ := hasAllW_cons hsh
  obtain rfl := hasAllW_nil h2
  obtain ⟨xs, rfl, h3⟩ := hasW_list h1
  obtain ⟨ns, rfl⟩ := items_int h3
  have hlen : ns.length ≤ n := by
    unfold OpenLaw.pre at hc
    have h4 : (WTm.not (.lt (.lit (.int (n : Int))) (.len (.arg 0)))).holds [] { args := [.list (ns.map .int)] } = true := by
      have h4 := (holds_andW hc).1
      rw [hn] at h4
      exact h4
    have h5 := condW_of h4 (w_not (w_lt w_lit (w_len_list (w_arg rfl))))
    rw [List.length_map] at h5
    refine Nat.le_of_not_lt fun q => ?_
    have q' : (n : Int) < ((ns.length : Nat) : Int) := by omega
    first
      | (rw [decide_eq_true q'] at h5; exact absurd h5 (by decide))
      | (simp at h5; omega)
  cases hwl with
  | cons w1 w2 =>
    cases w2
    cases w1 with
    | list ho hall => exact ⟨_, _, ns, rfl, rfl, ho, ints_of_wellAll ns _ hall, hlen⟩
theorem post_true (l : OpenLaw) (args : List WData) : l.row.toRowW.claim.post args (.bool true) args = true :=
  postW_of (r := l.row.toRowW) (X := (true == true))
    (show WShape.has [] (.bool true) .bool = true by first | rfl | decide | simp [WShape.has, WShape.arms, WShape.armsAll])
    (show (WTm.eq .res (.lit (.bool true))).value [] { args := args, res := some (.bool true), after := args } = some (.bool (true == true)) from w_eq_bool (w_res rfl) w_lit) rfl
section
variable {prog : Program} {w : World} {A : Around} {E : Value → Shared → Prop} {s : Shared} {K : Frag}
end
end Att
namespace L2
open PySem PySem.Spec PyProof.Rows
theorem vals_ints {vs : List Value} {ns : List Int} (h : IntsAre vs ns) : Vals (ns.map V.int) vs := by
  induction h with
  | nil => exact .nil
  | cons n t h ih => exact .cons ⟨t, rfl⟩ ih
def Only (H : Hp) : Prop := ∀ b, H b = none ∨ ∃ o xs, H b = some (.frz o (.lst xs))
theorem law_call {P : Program} {w : World} {K : PySem.W.Frag} {mg mb : Str → Option Value} {CX : CXT} {k : Nat} {fa a : Addr} {fd : FuncData} {x : Str} {sp : Sp} {s₁ : Shared} {vs : List Value} {ns : List Int}
    (KX : K.In s₁.heap) (hns : s₁.heap.Ns mainGlobals mg) (hb : s₁.heap.Ns builtinsNs mb) (hbb : ∀ x : Str, x ≠ "__name__" → mb x = bootBuiltins x) (hlim : s₁.heap.NoLimit) (hg : s₁.gens = #[])
    (ha : s₁.heap.get? a = some { cls := .type "list", data := .seq vs.toArray }) (hi : IntsAre vs ns) (hl : ns.length ≤ sizeLine) (hr : Room k callerA)
    (F : ∀ base : Heap, K.In base → base.Ns mainGlobals mg → FnOk P w K mg base CX k fa fd [x] sp) (hbind : ∀ (s : Shared) (u : Value), BindsTo s fd ⟨[u], []⟩ [(x, u)])
    (hsp : ∀ H : Hp, Only H → SqL K H a (ns.map V.int) → sp [.ref a] H (fun v _ => v = .bl true) fun _ _ _ => False)
    (hCX : ∀ H e s', CX [] H s₁ (fun _ _ _ => False) e s' → False) :
    codeAny (model P w) callerA (.call (.ref fa) ⟨[.ref a], []⟩) (fun r s' => r = .ok (.ret (.bool true)) ∧ OldK s₁.heap s'.heap ∧ s'.os = s₁.os ∧ AllBare s'.gens) s₁ := by
  have rv := vals_ints hi
  have lenV := hi.length
  -- from an abstract heap in which nothing but the script may be tracked
  have core : ∀ H : Hp, Only H → SqL K H a (ns.map V.int) → HOk P w H s₁.heap → (∀ b, H b ≠ none → b = a) → (H a ≠ none → K.lookup a = none) →
      codeAny (model P w) callerA (.call (.ref fa) ⟨[.ref a], []⟩) (fun r s' => r = .ok (.ret (.bool true)) ∧ OldK s₁.heap s'.heap ∧ s'.os = s₁.os ∧ AllBare s'.gens) s₁ := by
    intro H hO hS hok hA hK
    have base_of : ∀ {b : Addr} {o : Obj}, s₁.heap.get? b = some o → H b = none → (hidT s₁.heap H).get? b = some o := fun e n => hidT_get e n
    have noA : ∀ {b : Addr} {o : Obj} {es : Array DictEntry} {ep : Nat}, s₁.heap.get? b = some o → o.data = .dict es ep → H b = none := fun {b o es ep} e d => by
      cases q : H b with
      | none => rfl
      | some u =>
        have e' : b = a := hA b (by rw [q]; simp)
        subst e'
        rw [ha] at e; cases e
        have d' : Data.seq vs.toArray _ = Data.dict es ep := d
        cases d'
    have nsK : ∀ {b : Addr} {m : Str → Option Value}, s₁.heap.Ns b m → (hidT s₁.heap H).Ns b m := fun {b m} ⟨o, es, ep, e, d, r⟩ => ⟨o, es, ep, base_of e (noA e d), d, r⟩
    have hKb : K.In (hidT s₁.heap H) := fun b o e => base_of (KX b o e) (by
      cases q : H b with
      | none => rfl
      | some u =>
        have e' : b = a := hA b (by rw [q]; simp)
        subst e'
        rw [hK (by rw [q]; simp)] at e; cases e)
    have hM : Mod K mg (hidT s₁.heap H) := ⟨hKb, nsK hns, ⟨mb, nsK hb, hbb⟩, let ⟨mc, h1, h2⟩ := hlim; ⟨mc, nsK h1, h2⟩⟩
    have e0 : Env0 P w K mg (hidT s₁.heap H) callerA [] s₁ H := ⟨rfl, hM, fun b o e => of_hidT e, Nat.le_of_eq (hidT_size _ _), trivial, fun b hb => absurd (show b ∈ ([] : List Addr) from hb) (by simp), hok, .of_eq hg⟩
    refine codeAny_mono ((F _ hKb (nsK hns)).run callerA [] s₁ H ⟨[.ref a], []⟩ [.ref a] [.ref a] _ _ hr e0 (hbind s₁ (.ref a)) (.cons rfl .nil) (hsp H hO hS)) fun r s' h => ?_
    cases r with
    | error e => exact (hCX H e s' h).elim
    | ok fl =>
      cases fl with
      | next => exact False.elim h
      | brk => exact False.elim h
      | cont => exact False.elim h
      | ret u =>
        obtain ⟨v, H', os, bare, un, hok', r', q⟩ := h
        have q' : v = .bl true := q
        subst q'
        obtain rfl : u = Value.bool true := r'
        refine ⟨rfl, OldK.of_keep fun b o e => ?_, os, bare⟩
        cases q : H b with
        | none => exact un.keep b o e q (by intro z; exact absurd (show b ∈ ([] : List Addr) from z) (by simp)) (by simp)
        | some u =>
          rcases hO b with z | ⟨ob, xs, z⟩
          · rw [q] at z; cases z
          · have z2 := un.frzs b ob _ z
            obtain ⟨e1, _⟩ := hok b _ z
            obtain ⟨e2, _⟩ := hok' b _ z2
            rw [e] at e1; cases e1
            exact e2
  cases hk : K.lookup a with
  | some o =>
    -- the script is one of the module's own objects
    have e := KX a o hk
    rw [ha] at e
    cases e
    refine core (fun _ => none) (fun _ => .inl rfl) (.inr ⟨_, vs.toArray, _, hk, rfl, rfl, rfl, by rw [List.size_toArray, lenV]; exact hl, by simpa using rv⟩) (fun b u z => by have z' : (none : Option HO) = some u := z; cases z') (fun b z => absurd rfl z) fun z => absurd rfl z
  | none =>
    refine core (fun b => if b = a then some (.frz { cls := .type "list", data := .seq vs.toArray } (.lst (ns.map V.int))) else none) (fun b => ?_) (.inl (.inr ⟨{ cls := .type "list", data := .seq vs.toArray }, if_pos rfl⟩)) (fun b u z => ?_) (fun b z => ?_) fun _ => hk
    · by_cases hb : b = a
      · exact .inr ⟨_, _, if_pos hb⟩
      · exact .inl (if_neg hb)
    · by_cases hb : b = a
      · have z' := (if_pos hb).symm.trans z
        cases z'
        subst hb
        exact ⟨ha, by rw [List.length_map]; exact hl, vs, _, rv, ha⟩
      · have z' := (if_neg hb).symm.trans z
        cases z'
    · by_cases hb : b = a
      · exact hb
      · exact absurd (if_neg hb) z
end L2
namespace L2
open PySem PySem.Spec PyProof.Rows
end L2
namespace L2
open PySem PySem.Spec PyProof.Rows
def inClass (s : Stmt) (j : Nat) : Stmt := match s with
  | .ClassDef _ _ _ body _ _ _ _ _ _ _ => body.getD j (.Pass ⟨0, 0, 0, 0⟩)
  | _ => .Pass ⟨0, 0, 0, 0⟩
def defArgs (s : Stmt) : Arguments := match s with
  | .FunctionDef _ a _ _ _ _ _ _ _ _ => a
  | _ => { posonlyargs := [], args := [], vararg := none, kwonlyargs := [], kw_defaults := [], kwarg := none, defaults := [] }
def defBody (s : Stmt) : List Stmt := match s with
  | .FunctionDef _ _ b _ _ _ _ _ _ _ => b
  | _ => []
def defScope (s : Stmt) : Scope := match s with
  | .FunctionDef _ _ _ _ _ _ sc _ _ _ => sc
  | _ => { kind := .function, names := [], isGenerator := false, isCoroutine := false }
abbrev CX0 : CXT := fun _ _ _ _ _ _ => False
abbrev E0 : XK := fun _ _ _ => False
theorem pass0 {X : Cx} : Passes CX0 X E0 := fun _ _ _ _ _ _ _ h => h.elim
structure Fun (K : PySem.W.Frag) (x qual : Str) (st : Stmt) (f : Addr) (fd : FuncData) : Prop where
  ex : ∃ (oc : Value) (od : Option Addr) (kV doc pm : Value) (an : Option Addr) (cdv ct : Value) (osl : Array (Option Value)),
    fd = PySem.W.fnOf x qual (defArgs st) (defBody st) (defScope st) .none kV doc pm an cdv ct ∧ K.lookup f = some ⟨oc, od, .func fd, osl⟩ ∧ PySem.W.codeIn K cdv qual = true
  kp : PySem.W.keepIn K (.ref f) = true
section
variable {P : Program} {w : World} {K : PySem.W.Frag} {mg : Str → Option Value} {base : Heap}
theorem Fun.ok {x qual : Str} {st : Stmt} {f : Addr} {fd : FuncData} {N ps : List Str} {k : Nat} {sp : Sp} (F : Fun K x qual st f fd) (S : FnScope N ps (defScope st)) (len : ∀ vs H Q E, sp vs H Q E → vs.length = ps.length)
    (hbody : ∀ (cdv : Value) (A : Around) (outer : List Env) (s : Shared) (H : Hp) (vs : List V) (Q : VK) (E : XK), Room k (A.deeper (envOfC qual (defScope st) s.heap.objs.size f cdv)) → sp vs H Q E →
      ∃ t, PSs (cxOf CX0 P w K mg base N qual (defScope st) f cdv A outer s H E).nox (defBody st) t ∧ t { nx := fun _ H' => Q .non H', rt := Q } (start N vs) H) : FnOk P w K mg base CX0 (k + 1) f fd ps sp := by
  obtain ⟨oc, od, kV, doc, pm, an, cdv, ct, osl, rfl, lk, hcd⟩ := F.ex
  refine fn_of lk hcd S len fun A outer s H vs Q E hr hsp => ?_
  obtain ⟨t, h, q⟩ := hbody cdv A outer s H vs Q E hr hsp
  exact ⟨t, h.nox, q⟩
theorem Fun.binds {x qual : Str} {st : Stmt} {f : Addr} {fd : FuncData} {ps : List Str} (F : Fun K x qual st f fd)
    (h : ∀ (kV doc pm : Value) (an : Option Addr) (cdv ct : Value) (us : List Value), us.length = ps.length → bindArgs (PySem.W.fnOf x qual (defArgs st) (defBody st) (defScope st) .none kV doc pm an cdv ct) ⟨us, []⟩ = pure (ps.zip us)) : Binds K fd ps [] := by
  obtain ⟨oc, od, kV, doc, pm, an, cdv, ct, osl, rfl, lk, hcd⟩ := F.ex
  exact .all (h kV doc pm an cdv ct)
theorem fun_mk {x qual : Str} {st : Stmt} {f : Addr} {oc : Value} {od an : Option Addr} {osl : Array (Option Value)} {kV doc pm cdv ct : Value} (l : K.lookup f = some ⟨oc, od, .func (PySem.W.fnOf x qual (defArgs st) (defBody st) (defScope st) .none kV doc pm an cdv ct), osl⟩)
    (c : PySem.W.codeIn K cdv qual = true) (k : PySem.W.keepIn K (.ref f) = true) : Fun K x qual st f (PySem.W.fnOf x qual (defArgs st) (defBody st) (defScope st) .none kV doc pm an cdv ct) := ⟨⟨oc, od, kV, doc, pm, an, cdv, ct, osl, rfl, l, c⟩, k⟩
end
section
variable {X : Cx}
theorem pv (i : Nat) {x : Str} {pos : Pos} (hN : X.N[i]? = some x := by rfl) (hv : Vis X.env.scope x := by first | exact Or.inl rfl | exact Or.inr (Or.inl rfl) | exact Or.inr (Or.inr rfl)) (hd : (x == ("__debug__" : Str)) = false := by decide)
    (hcd : (x == ("__classdict__" : Str)) = false := by decide) : PE X (.Name x pos) (tVar i) := pe_var hN hv hd hcd
end
theorem iteF {A B : Prop} (h : B) : if false = true then A else B := by
  rw [if_neg Bool.false_ne_true]
  exact h
theorem iteT {A B : Prop} (h : A) : if true = true then A else B := by
  rw [if_pos rfl]
  exact h
theorem iteNS {c A B : Prop} [Decidable c] (hc : c) (h : B) : if (!decide c) = true then A else B := by
  rw [decide_eq_true hc]
  exact iteF h
def Same (H H' : Hp) : Prop := ∀ b o, H b = some o → H' b = some o
theorem Same.refl (H : Hp) : Same H H := fun _ _ h => h
theorem Same.trans {H H1 H2 : Hp} (a : Same H H1) (b : Same H1 H2) : Same H H2 := fun c o h => b c o (a c o h)
theorem Same.free {H H' : Hp} (e : Same H H') {l : Addr} (h : H' l = Option.none) : H l = Option.none := by
  cases q : H l with
  | none => rfl
  | some o =>
    rw [e l o q] at h
    cases h
theorem Same.seq {K : PySem.W.Frag} {H H' : Hp} {a : Addr} {xs : List V} (e : Same H H') (h : SqL K H a xs) : SqL K H' a xs := by
  rcases h with (h | ⟨o, h⟩) | h
  · exact .inl (.inl (e _ _ h))
  · exact .inl (.inr ⟨o, e _ _ h⟩)
  · exact .inr h
end L2
set_option maxHeartbeats 4000000
namespace L2
open PySem PySem.Spec PyProof.Rows
section
variable {X : Cx}
def CDivB (_ j : Int) : Prop := j ≠ 0 ∧ j.natAbs.log2 < 9000
theorem op_fdivB : OpR X (binaryOp .FloorDiv) (rI CDivB fun i j => .int (i.fdiv j)) := opI fun _ _ _ _ _ _ _ hc q => floordiv_int hc.1 q (.inl (PyProof.noPylong_of_log2 hc.2))
theorem op_mulB : OpR X (binaryOp .Mult) (rI (fun i j => IntMulOk i j) fun i j => .int (i * j)) := opI fun _ _ _ _ _ _ _ hc q => mul_int q hc
theorem mulOk_lt {a b : Int} {m n : Nat} (ha : a.natAbs < 2 ^ m) (hb : b.natAbs < 2 ^ n) (h : m + n ≤ 134217728) : IntMulOk a b := IntMulOk.of_le (intBits_le_iff.mpr ha) (intBits_le_iff.mpr hb) h
theorem log2_lt {j : Int} {n : Nat} (h0 : j ≠ 0) (h : j.natAbs < 2 ^ n) : j.natAbs.log2 < n := (Nat.log2_lt (by omega)).mpr h
theorem iteNE {c A B : Prop} [Decidable c] (h1 : ¬ c → A) (h2 : c → B) : if (!decide c) = true then A else B := by
  by_cases h : c
  · rw [if_neg (by simp [h])]
    exact h2 h
  · rw [if_pos (by simp [h])]
    exact h1 h
theorem iteD {c A B : Prop} [Decidable c] (h1 : c → A) (h2 : ¬ c → B) : if decide c = true then A else B := by
  by_cases h : c
  · rw [if_pos (by simp [h])]
    exact h1 h
  · rw [if_neg (by simp [h])]
    exact h2 h
theorem bt_isi : bootBuiltins "isinstance" = some (.builtin "isinstance") := by decide +kernel
theorem bt_int : bootBuiltins "int" = some (.type "int") := by decide +kernel
theorem bt_bool : bootBuiltins "bool" = some (.type "bool") := by decide +kernel
theorem bt_tuple : bootBuiltins "tuple" = some (.type "tuple") := by decide +kernel
theorem bt_list : bootBuiltins "list" = some (.type "list") := by decide +kernel
def rIsT (K : PySem.W.Frag) : List V → Hp → VK → Prop := fun xs H Q => ∃ x T t b, xs = [x, .ty T] ∧ TyOf K H x t ∧ PySem.W.kitOne K t (.type T) = some b ∧ Q (.bl b) H
theorem call_isT : CallR X (.builtin "isinstance") (rIsT X.K) := by
  intro pins s σ H xs us Q I r h
  obtain ⟨x, T, t, b, rfl, ty, e, q⟩ := h
  cases r with
  | cons r1 r2 =>
    cases r2 with
    | cons r3 r4 =>
      cases r4
      cases (show _ = Value.type T from r3)
      exact isinst_ok I r1 ty e fun tk => ⟨.bl b, H, I.tok tk, rfl, q⟩
end
section
variable (K : PySem.W.Frag)
theorem kit_same (T : String) : PySem.W.kitOne K (.type T) (.type T) = some true := by
  unfold PySem.W.kitOne
  rw [if_pos (by simp)]
theorem kit_int_bool : PySem.W.kitOne K (.type "int") (.type "bool") = some false := by with_unfolding_all kernel_rfl
end
section
variable {X : Cx}
theorem Inv.turnedNew {pins : List (Addr × Obj)} {σ : St} {H : Hp} {s : Shared} {h' : Heap} {t' : Nat} {ch : List Addr} {a : Addr} {o : HO} (I : Inv X pins σ H s) (k : ∀ b u, b ∉ ch → s.heap.get? b = some u → h'.get? b = some u)
    (hch : ∀ b ∈ ch, FpOk X pins H b) (hp : s.heap.objs.size ≤ a) (hl : ∀ b ∈ ch, ∃ u, s.heap.get? b = some u) (new : ObjOk X.prog X.w (upd H a o) h' a o) : Inv X pins σ (upd H a o) { s with heap := h', toks := t' } := by
  have ne : ∀ b u, s.heap.get? b = some u → b ≠ a := fun b u e => Nat.ne_of_lt (Nat.lt_of_lt_of_le (Heap.lt_size e) hp)
  have hfr : H a = none := I.hok.fresh hp
  have nitH : ∀ b u, H b = some u → b ∉ ch := fun b u e z => by rw [(hch b z).1] at e; cases e
  have nea : ∀ b u, H b = some u → b ≠ a := fun b u e z => by rw [z, hfr] at e; cases e
  refine I.step (g' := s.gens) (d' := s.drawn) (ch := ch) (fun b hb => ?_) (fun b u _ _ hc e _ => k b u hc e) (fun b u _ _ hc e _ => ⟨u.slots, k b u hc e⟩)
    (fun b u _ e n => by rw [upd_ne (ne b u e)]; exact n) (fun b u hc e => ⟨u, k b u hc e⟩)
    (fun b xs e => by rw [upd_ne (nea b _ e)]; exact e) (fun b ob u e => by rw [upd_ne (nea b _ e)]; exact e) (fun b ps e => ⟨#[], by rw [upd_ne (nea b _ e), e]; simp⟩) (fun m hm => ?_) (fun b u e => ?_) I.bare
  · obtain ⟨_, f1, _, f3, f4, f5⟩ := hch b hb
    exact ⟨f3, f1, f4, f5⟩
  · obtain ⟨ob, es, ep, ho, r⟩ := hm
    exact ⟨ob, es, ep, k _ ob (fun z => (hch _ z).2.1 rfl) ho, r⟩
  · by_cases z : b = a
    · subst z
      rw [upd_same] at e
      cases e
      exact new
    · rw [upd_ne z] at e
      refine (I.hok b u e).stay (fun c v hc q => k c v ?_ q) (fun c q => ?_) fun c ys q => ?_
      · rcases hc with z' | z'
        · rw [z']; exact nitH b u e
        · exact nitH c _ z'
      · rw [upd_ne (nea c _ q)]; exact q
      · rw [upd_ne (nea c _ q)]; exact q
def Iten (K : PySem.W.Frag) (a : Addr) : It :=
  ⟨fun i H => ∃ xs x, SqL K H a xs ∧ xs[i]? = some x,
   fun i H y H' => ∃ p x, H p = none ∧ y = .ref p ∧ H' = upd H p (.tup [.int i, x]) ∧ ∀ xs, SqL K H a xs → xs[i]? = some x,
   fun i H => ∃ xs, SqL K H a xs ∧ xs.length ≤ i⟩
theorem turn_enum {P : Program} {w : World} {K : PySem.W.Frag} {elts : List Expr} {x1 : Nat} {tp : Pos} (a e it : Addr) (hne : e ≠ it) : Turn P w K (.Tuple elts x1 tp) (Iten K a) [e, it] e (fun i h => (∃ old, IsEnum h e it i old) ∧ h.IsListIter it a i) where
  mem := by simp
  obj := fun i h st b hb => by
    obtain ⟨⟨old, he⟩, ⟨o, e1, c, d⟩⟩ := st
    rcases List.mem_cons.mp hb with z | z
    · subst z
      exact ⟨_, he, fun v z => by cases z⟩
    · have z' : b = it := by simpa using z
      subst z'
      exact ⟨o, e1, fun v z => by rw [d] at z; cases z⟩
  keep := fun i h h' st k => by
    obtain ⟨⟨old, he⟩, hit⟩ := st
    exact ⟨⟨old, k e (by simp) _ he⟩, hit.at fun o x => k it (by simp) o x⟩
  item := by
    intro X hP hw hK hc i pins s σ H E I hf st hg
    subst hP hw hK
    obtain ⟨xs, x, hq, hx⟩ := hg
    obtain ⟨its, rv, p, hz⟩ := I.list hq
    obtain ⟨u, hu, ru⟩ := rv.get hx
    obtain ⟨⟨old, he⟩, hit⟩ := st
    have helt : e < s.heap.objs.size := Heap.lt_size he
    have hilt : it < s.heap.objs.size := by obtain ⟨_, z, _⟩ := hit; exact Heap.lt_size z
    refine wpAny_pyNext_enum_item he hit p.isList (x := u) (by simpa using hu) hne fun h' ho hit' hT hsz hk => ⟨_, rfl, ?_⟩
    refine wpAny_letOwnedTupleGo_enum (s := { s with heap := h', toks := s.toks + 1 }) ho fun h2 he2 hs2 => ?_
    have keep2 : ∀ b o, b ∉ [e, it] → s.heap.get? b = some o → h2.get? b = some o := fun b o hb q => by
      have n1 : b ≠ e := fun z => hb (by simp [z])
      have n2 : b ≠ it := fun z => hb (by simp [z])
      exact (hs2.2 b n1).trans (hk b o n1 n2 q)
    have hT2 : h2.get? s.heap.objs.size = some { cls := .type "tuple", data := .seq #[.int i s.toks, u] } := (hs2.2 _ (Nat.ne_of_gt helt)).trans hT
    have I2 : Inv X pins σ (upd H s.heap.objs.size (.tup [.int i, x])) { s with heap := h2, toks := s.toks + 1 } :=
      I.turnedNew (ch := [e, it]) keep2 hf (Nat.le_refl _) (fun b hb => by
        rcases List.mem_cons.mp hb with z | z
        · subst z; exact ⟨_, he⟩
        · have z' : b = it := by simpa using z
          subst z'
          obtain ⟨o, z, _⟩ := hit
          exact ⟨o, z⟩)
        ⟨by show 2 ≤ sizeLine; decide, [.int i s.toks, u], .cons ⟨_, rfl⟩ (.cons ru .nil), ⟨_, hT2, rfl, _, rfl⟩⟩
    have hnew : H s.heap.objs.size = none := I.hok.fresh (Nat.le_refl _)
    refine ⟨.ref s.heap.objs.size, _, I2, rfl, ⟨_, x, hnew, rfl, rfl, fun ys hy => by rw [I.list_inj hy hq]; exact hx⟩, ⟨⟨u, by simpa using he2⟩, hit'.at fun o z => (hs2.2 it (Ne.symm hne)).trans z⟩, fun b hb => ?_⟩
    have nb : b ≠ s.heap.objs.size := by
      rcases List.mem_cons.mp hb with z | z
      · rw [z]; exact Nat.ne_of_lt helt
      · have z' : b = it := by simpa using z
        rw [z']; exact Nat.ne_of_lt hilt
    rw [upd_ne nb]
    exact (hf b hb).1
  done := by
    intro X hP hw hK hc i pins s σ H E I hf st hg
    subst hP hw hK
    obtain ⟨xs, hq, hx⟩ := hg
    obtain ⟨its, rv, p, hz⟩ := I.list hq
    have hl := rv.length
    obtain ⟨⟨old, he⟩, hit⟩ := st
    obtain ⟨f0, f1, f2, f3, f4, f5⟩ := hf it (by simp)
    exact wpAny_pyNext_enum_end (I.ok.hd hc) he hit p.isList (by simp; omega) fun h' eb => ⟨rfl, I.turned (t' := s.toks) (fun b o hb e => eb b o hb e) f0 f1 f3 f4 f5⟩
  self := fun _ _ _ _ _ st h => by
    obtain ⟨⟨old, he⟩, _⟩ := st
    exact wpAny_pyIter_enum he h
def iEnum (K : PySem.W.Frag) (tl : TA) : TI := fun σ H R => tl σ H fun vs H1 => ∃ a, vs = [.ref a] ∧ (∃ xs, SqL K H1 a xs) ∧ R (Iten K a) H1
theorem pi_enum {elts : List Expr} {x1 : Nat} {tp : Pos} {l : Expr} {tl : TA} {p pos : Pos} (hg : Gl X "enumerate") (hm : X.mg "enumerate" = none) (hl : PA X [l] tl) (hs : starEach [l] X.env = [(false, eval l X.env)] := by rfl) :
    PI X (.Tuple elts x1 tp) (.Call (.Name "enumerate" p) [l] [] pos) (iEnum X.K tl) := by
  intro pins s σ H R I h
  refine Call_ (ld_blt I hg hm PyProof.Rows.boot_enumerate (PyProof.Rows.callWith_type1 (thn (hl pos pins s σ H _ I h) fun us s1 ⟨vs, H1, I1, r1, q1⟩ => ?_) hs rfl))
  obtain ⟨a, e, ⟨xs, hq⟩, q⟩ := q1
  subst e
  cases r1 with
  | cons r rr =>
    cases rr
    cases (show _ = Value.ref a from r)
    obtain ⟨its, rv, pl, hz⟩ := I1.list hq
    refine call_enumerate_list pl.isList fun h' he hit hsz hk => ?_
    have I2 : Inv X pins σ H1 { s1 with heap := h' } := I1.kept (t' := s1.toks) hk
    refine wpAny_pyIter_enum (s := { s1 with heap := h' }) he ?_
    refine ⟨s1.heap.objs.size + 1, [s1.heap.objs.size + 1, s1.heap.objs.size], _, _, H1, rfl, I2, turn_enum a _ _ (Nat.succ_ne_self _), ⟨⟨_, he⟩, hit⟩, fun b hb => ?_, q⟩
    rcases List.mem_cons.mp hb with z | z
    · subst z
      exact I1.fpOk (Nat.le_succ _) (I1.hok.fresh (Nat.le_succ _))
    · have z' : b = s1.heap.objs.size := by simpa using z
      subst z'
      exact I1.fpOk (Nat.le_refl _) (I1.hok.fresh (Nat.le_refl _))
theorem for_enum {K : PySem.W.Frag} {a : Addr} {xs : List V} {g : TG} {tb : TS} {D : Ends} {σ : St} {H : Hp} (Pv : Nat → St → Hp → Prop) (h0 : Pv 0 σ H) (hl : ∀ i σ H, i ≤ xs.length → Pv i σ H → SqL K H a xs)
    (hs : ∀ i x σ H p, xs[i]? = some x → Pv i σ H → H p = none → g (.ref p) σ (upd H p (.tup [.int i, x])) fun σ2 H2 => tb { D with nx := Pv (i + 1), ct := Pv (i + 1), bk := D.nx } σ2 H2) (hd : ∀ σ H, Pv xs.length σ H → D.nx σ H) :
    ∃ W : Nat → Nat → St → Hp → Prop, (∃ m, W 0 m σ H) ∧ ∀ i m σ H, W i m σ H →
      ((Iten K a).stop i H ∧ D.nx σ H) ∨ ((Iten K a).go i H ∧ ∃ N : St → Hp → Prop, (∀ σ' H', N σ' H' → ∃ m', m' < m ∧ W (i + 1) m' σ' H') ∧ ∀ x H', (Iten K a).yld i H x H' → g x σ H' fun σ2 H2 => tb { D with nx := N, ct := N, bk := D.nx } σ2 H2) := by
  refine ⟨fun i m σ H => m = xs.length - i ∧ i ≤ xs.length ∧ Pv i σ H, ⟨xs.length, by simp, Nat.zero_le _, h0⟩, ?_⟩
  rintro i m σ H ⟨rfl, hi, p⟩
  have q := hl i σ H hi p
  by_cases hlt : i < xs.length
  · refine .inr ⟨⟨xs, xs[i], q, by simp [hlt]⟩, Pv (i + 1), fun σ' H' p' => ⟨xs.length - (i + 1), by omega, rfl, hlt, p'⟩, fun x H' y => ?_⟩
    obtain ⟨pa, z, hn, e1, e2, y⟩ := y
    subst e1 e2
    exact hs i z σ _ pa (y xs q) p hn
  · have e : i = xs.length := by omega
    subst e
    exact .inl ⟨⟨xs, q, Nat.le_refl _⟩, hd σ H p⟩
end
theorem walk_bits {l : PySem.W.OpenLaw} {n k : Nat} {q : Program} {loose : List Str} {XP : (Str → Option Value) → Heap → Prop} {YP : World → Heap → Prop} {d : DefRec} {K : Params → PySem.W.Frag} {CX : CXT} {sp : PySem.W.Frag → Sp} {x : Str}
    (hn : l.most = some n) (hn2 : n ≤ sizeLine) (hdf : d.params.defaults = []) (hr : Room k callerA)
    (hY : ∀ (w : World) (h : Heap), YP w h → (K w.params).In h)
    (F : ∀ (w : World) (mg : Str → Option Value) (fa : Addr) (h : Heap), (K w.params).In h → h.Ns mainGlobals mg → mg d.name = some (.ref fa) →
      ∃ fd : FuncData, (∀ (s : Shared) (u : Value), BindsTo s fd ⟨[u], []⟩ [(x, u)]) ∧
        ∀ base : Heap, (K w.params).In base → base.Ns mainGlobals mg → FnOk l.prog w (K w.params) mg base CX k fa fd [x] (sp (K w.params)))
    (hsp : ∀ (K : PySem.W.Frag) (H : Hp) (a : Addr) (ns : List Int), ns.length ≤ n → (∀ i ∈ ns, Builtin.Int.intBits i ≤ 1048576) → Only H → SqL K H a (ns.map V.int) → sp K [.ref a] H (fun v _ => v = .bl true) fun _ _ _ => False)
    (hCX : ∀ (H : Hp) (s : Shared) (e : Value) (s' : Shared), CX [] H s (fun _ _ _ => False) e s' → False) :
    PySem.W.WalkO q loose XP YP l.row.toRowW d [] (fun f vs => PySem.call f vs) := by
  intro w s₀ s₁ mg mb G Y fa o pm cd doc dV kV ho hd hcd hD hmg hg args vals as hpre hlay hrd hwl hlo
  obtain rfl : dV = .none := PySem.W.Dflts.none hD hdf
  obtain rfl : kV = .none := PySem.W.Dflts.noKw hD
  obtain ⟨a, vs, ns, rfl, rfl, hobj, hints, hlen⟩ := Att.script_of hn hpre hwl
  have hbits : ∀ i ∈ ns, Builtin.Int.intBits i ≤ 1048576 := fun i hi => by
    have h1 := PySem.W.layableW_arg hlay _ (List.mem_singleton.mpr rfl)
    have h2 := PySem.W.layableW_item h1 (.int i) (List.mem_map.mpr ⟨i, hi, rfl⟩)
    exact intBits_le_of_layable h2
  have KX := hY w _ Y
  obtain ⟨fd, hb, hF⟩ := F w mg fa _ KX G.T.g hmg
  refine PySem.W.enter_call (codeAny_mono (law_call KX G.T.g G.T.b G.T.builtins G.T.nolimit hg hobj hints (Nat.le_trans hlen hn2) hr hF hb (fun H hO hS => hsp (K w.params) H a ns hlen hbits hO hS) fun H e s' => hCX H s₁ e s') fun r s' hq => ?_)
  obtain ⟨rfl, h2, h3, h4⟩ := hq
  exact ⟨.inl ⟨.bool true, .bool true, [], rfl, fun _ => rfl, .bool true, Att.post_true l _, fun _ => ⟨List.Pairwise.nil, fun _ hm => (nomatch hm)⟩⟩, h2, h3, h4⟩
end L2
namespace L2
open PySem PySem.Spec PyProof.Rows
section
variable {prog : Program} {w : World} {A : Around} {R : Result → Shared → Prop} {s : Shared}
theorem comp_loop {elt target iter : Expr} {ifs : List Expr} {scope : Scope} {pos : Pos} {it acc : Value} {env : Env} (I : Nat → Shared → Prop)
    (turn : ∀ n s, I n s → wpAny (model prog w) A (pyNext it) (fun r s₁ => match r with
      | none => R (.ok .next) s₁
      | some v => wpAny (model prog w) A (letOwnedTupleGo target it v) (fun _ s₂ => wpAny (model prog w) A (assign target env v) (fun _ s₃ =>
          wpAny (model prog w) A (forIn ifs true fun c r => if r = true then do let ok ← isTrue c env (eval c env); pure (ForInStep.yield ok) else pure (ForInStep.yield r)) (fun ok s₄ =>
            if ok = true then wpAny (model prog w) A (eval elt env) (fun x s₅ =>
              wpAny (model prog w) A (call (.builtin "list.append") [acc, x]) (fun _ s₆ => ∃ m, m < n ∧ I m s₆) (fun _ _ => False) s₅) (fun _ _ => False) s₄
            else ∃ m, m < n ∧ I m s₄) (fun _ _ => False) s₃) (fun _ _ => False) s₂) (fun _ _ => False) s₁) (fun _ _ => False) s)
    (n : Nat) (h : I n s) :
    codeAny (model prog w) A (.compLoop (.ListComp elt [⟨target, iter, ifs, 0⟩] scope pos) 0 it acc env) R s := by
  refine codeAny_loop rfl I (fun n s hI => ?_) n h
  show wpAny _ A ((compTurn (.ListComp elt [⟨target, iter, ifs, 0⟩] scope pos) 0 it acc env).onRaise (fun x => do noteFrame x env; theTreesLotGoes x)) _ _ s
  refine wpAny_noted ?_
  rw [compTurn_list]
  refine wpAny_bind (wpAny_standAt (wpAny_bind (wpAny_mono (turn n s hI) (fun r s₁ h₁ => ?_) fun _ _ h' => h'.elim)))
  cases r with
  | none => exact wpAny_pure h₁
  | some v =>
    refine wpAny_bind (wpAny_mono h₁ (fun _ s₂ h₂ => wpAny_bind (wpAny_mono h₂ (fun _ s₃ h₃ => wpAny_bind (wpAny_mono h₃ (fun ok s₄ h₄ => ?_) fun _ _ h' => h'.elim)) fun _ _ h' => h'.elim)) fun _ _ h' => h'.elim)
    cases ok with
    | false => exact wpAny_pure ⟨rfl, h₄⟩
    | true =>
      exact wpAny_bind (wpAny_bind (wpAny_mono h₄ (fun x s₅ h₅ => wpAny_bind (wpAny_mono h₅ (fun _ s₆ h₆ => wpAny_pure (wpAny_pure ⟨rfl, h₆⟩)) fun _ _ h' => h'.elim)) fun _ _ h' => h'.elim))
end
def cxc (X : Cx) (scope : Scope) (cl : List (Str × Addr)) (N : List Str) (C : Addr) (s₀ : Shared) (H₀ : Hp) (ex : List Addr) (pins : List (Addr × Obj)) : Cx :=
  { X with N := N, s₀ := s₀, H₀ := H₀, env := compEnvC scope cl C X.env, outer := X.stack, stack := X.stack, ex := ex, fn := fun _ => false, pn := X.pn ++ pins, xe := fun _ _ => False }
inductive Frees (X : Cx) (sc : Scope) (cl : List (Str × Addr)) : List Str → List Nat → Prop where
  | nil : Frees X sc cl [] []
  | cons {x : Str} {j : Nat} {c : Addr} {fs : List Str} {js : List Nat} (hN : X.N[j]? = some x) (hf : sc.names.lookup x = some .free) (hv : X.env.kindOf x = some .cell ∨ X.env.kindOf x = some .free) (hc : X.env.cells.lookup x = some c) (hl : cl.lookup x = some c) (r : Frees X sc cl fs js) : Frees X sc cl (x :: fs) (j :: js)
inductive Agrees (X : Cx) : List (Str × Addr) → Prop where
  | nil : Agrees X []
  | cons {x : Str} {c : Addr} {r : List (Str × Addr)} (h : X.env.cells.lookup x = some c) (t : Agrees X r) : Agrees X ((x, c) :: r)
theorem Agrees.at {X : Cx} : ∀ {cl : List (Str × Addr)}, Agrees X cl → ∀ x c, cl.lookup x = some c → X.env.cells.lookup x = some c
  | _, .nil, _, _, e => by simp at e
  | _, .cons (x := y) (c := d) h t, x, c, e => by
    rw [List.lookup_cons] at e
    cases q : x == y with
    | true =>
      rw [q] at e
      have e' : d = c := Option.some.inj e
      have q' : x = y := by simpa using q
      rw [q', ← e']; exact h
    | false =>
      rw [q] at e
      exact Agrees.at t x c e
def freeHas (cl : List (Str × Addr)) (names : List (Str × NameKind)) : Bool := names.all fun y => y.2 != .free || (cl.lookup y.1).isSome
def noCell (names : List (Str × NameKind)) : Bool := names.all fun y => y.2 != .cell
def locOnce (names : List (Str × NameKind)) : Bool := names.all fun y => y.2 != .local || (names.lookup y.1 == some .local)
def blockSt (ts : List Str) (js : List Nat) (σ : St) : St := ts.map (fun _ => none) ++ js.map fun j => (σ[j]?).join
def tComp (wi : TI) (g : TG) (tt : Option TT) (te : TE) (ts : List Str) (js : List Nat) : TE := fun σ H Q => wi σ H fun J H1 => ∀ D, H1 D = none →
  ∃ W : Nat → Nat → St → Hp → Prop, (∃ m, W 0 m (blockSt ts js σ) (upd H1 D (.lst []))) ∧ ∀ i m σ' H', W i m σ' H' →
    (J.stop i H' ∧ Q (.ref D) H') ∨ (J.go i H' ∧ ∃ N : St → Hp → Prop, (∀ σ'' H'', N σ'' H'' → ∃ m', m' < m ∧ W (i + 1) m' σ'' H'') ∧
      ∀ x H2, J.yld i H' x H2 → g x σ' H2 fun σ2 H3 => match tt with
        | none => te σ2 H3 fun y H4 => ∃ ys, H4 D = some (.lst ys) ∧ ys.length < sizeLine ∧ N σ2 (upd H4 D (.lst (ys ++ [y])))
        | some t => t σ2 H3 fun b H3' => if b = true then te σ2 H3' fun y H4 => ∃ ys, H4 D = some (.lst ys) ∧ ys.length < sizeLine ∧ N σ2 (upd H4 D (.lst (ys ++ [y]))) else N σ2 H3')
theorem kindOf_relabel {scope : Scope} {cl : List (Str × Addr)} {C : Addr} {env : Env} {x : Str} (h : (compEnvC scope cl C env).kindOf x = some .cell ∨ (compEnvC scope cl C env).kindOf x = some .free) (nc : noCell scope.names = true) : scope.names.lookup x = some .free := by
  have key : ∀ (names : List (Str × NameKind)), noCell names = true →
      ((names.map fun (n, k) => if (k == NameKind.free && env.scope.kind == .function && env.kindOf n == some .cell) then (n, NameKind.cell) else (n, k)).lookup x = some .cell ∨
       (names.map fun (n, k) => if (k == NameKind.free && env.scope.kind == .function && env.kindOf n == some .cell) then (n, NameKind.cell) else (n, k)).lookup x = some .free) → names.lookup x = some .free := by
    intro names
    induction names with
    | nil => intro _ h; simp at h
    | cons p r ih =>
      obtain ⟨n, k⟩ := p
      intro nc h
      have nc' : (k != .cell) = true ∧ noCell r = true := by
        unfold noCell at nc
        rw [List.all_cons, Bool.and_eq_true] at nc
        exact nc
      rw [List.map_cons] at h
      dsimp only at h
      by_cases hc : (k == NameKind.free && env.scope.kind == .function && env.kindOf n == some .cell) = true
      · rw [if_pos hc] at h
        rw [List.lookup_cons] at h ⊢
        cases q : x == n with
        | true =>
          have : k = .free := by
            rw [Bool.and_eq_true, Bool.and_eq_true] at hc
            simpa using hc.1.1
          rw [this]
        | false =>
          rw [q] at h
          exact ih nc'.2 h
      · rw [if_neg hc] at h
        rw [List.lookup_cons] at h ⊢
        cases q : x == n with
        | true =>
          rw [q] at h
          have nk : k ≠ .cell := by simpa using nc'.1
          rcases h with h | h
          · exact absurd (Option.some.inj h) nk
          · exact h
        | false =>
          rw [q] at h
          exact ih nc'.2 h
  exact key scope.names nc h
theorem comp_gen {X : Cx} {tg elt iter : Expr} {ifs : List Expr} {scope : Scope} {cl : List (Str × Addr)} {pos cpos : Pos} {wi : TI} {g : TG} {tt : Option TT} {te : TE} {ts fs : List Str} {js : List Nat} (hcalm : X.calm = true)
    (hclos : closureFor scope X.env = pure cl) (hk : scope.kind = .function) (nc : noCell scope.names = true) (lo : locOnce scope.names = true) (fh : freeHas cl scope.names = true) (ag : Agrees X cl) (fr : Frees X scope cl fs js)
    (hi : PI X tg iter wi) (hg : ∀ C s₀ H₀ ex pins, PG (cxc X scope cl (ts ++ fs) C s₀ H₀ ex pins) tg g)
    (ht : ∀ C s₀ H₀ ex pins, match ifs, tt with | [], none => True | [c], some t => PT (cxc X scope cl (ts ++ fs) C s₀ H₀ ex pins) c t | _, _ => False)
    (he : ∀ C s₀ H₀ ex pins, PE (cxc X scope cl (ts ++ fs) C s₀ H₀ ex pins) elt te)
    (hs : ∀ x, foldedSetIterable iter X.env x = pure x) {pins : List (Addr × Obj)} {s : Shared} {σ : St} {H : Hp} {Q : VK} (I : Inv X pins σ H s) (h : tComp wi g tt te ts js σ H Q)
    (use : Option (Value → Sem Unit)) (Qv : Value → Shared → Prop)
    (hfin : ∀ (D : Addr) (H' : Hp) (s' : Shared) (C : Addr), Inv X pins σ H' s' → Q (.ref D) H' → (∃ m, s'.heap.Ns C m) → FpOk X pins H' C → compPost (model X.prog X.w) X.A X.xe use Qv (.ref D) C (.ok .next) s') :
    wpAny (model X.prog X.w) X.A (comprehension (.ListComp elt [⟨tg, iter, ifs, 0⟩] scope pos) scope X.env cpos (newList []) false (eval iter X.env) use) Qv X.xe s := by
  have hcell : ∀ y ∈ scope.names, y.2 ≠ .cell := fun y hy => by
    have := List.all_eq_true.mp nc y hy
    simpa using this
  have hnames : ∀ y ∈ scope.names, y.2 = .local → scope.names.lookup y.1 = some .local := fun y hy hl => by
    have := List.all_eq_true.mp lo y hy
    rw [hl] at this
    simpa using this
  refine wpAny_comprehension_free (use := use) rfl hs hclos hk hnames (thn (hi pins s σ H _ I h) fun v s1 h1 => thn h1 fun itv s2 h2 => ?_)
  obtain ⟨it, fp, tn, J, H1, e, I2, T, st2, f2, hJ⟩ := h2
  subst e
  refine wpAny_newObj_type (wpAny_newFunctionEnv hcell (by intro y hy; simp at hy) (fun h₁ hns₁ hsb₁ => ?_) hk)
  dsimp only at hns₁ hsb₁ ⊢
  generalize hH2 : s2.heap.push { cls := .type "list", dict := none, data := .seq ([] : List Value).toArray } = G at hns₁ hsb₁ ⊢
  have hC : G.objs.size = s2.heap.objs.size + 1 := by rw [← hH2, Heap.size_push]
  have old : ∀ b o, s2.heap.get? b = some o → h₁.get? b = some o := fun b o e => by
    have hb := Heap.lt_size e
    refine hsb₁.extBut b o (Nat.ne_of_lt (Nat.lt_of_lt_of_le hb (Nat.le_of_lt (by rw [hC]; exact Nat.lt_succ_self _)))) (Heap.get?_push_of_some _ ?_)
    rw [← hH2]
    exact Heap.get?_push_of_some _ e
  have hacc : h₁.get? s2.heap.objs.size = some { cls := .type "list", dict := none, data := .seq #[] } := by
    refine hsb₁.extBut _ _ (Nat.ne_of_lt (by rw [hC]; exact Nat.lt_succ_self _)) (Heap.get?_push_of_some _ ?_)
    rw [← hH2]
    exact Heap.get?_push_size _ rfl
  have nD : H1 s2.heap.objs.size = none := I2.hok.fresh (Nat.le_refl _)
  have nC : H1 G.objs.size = none := I2.hok.fresh (by omega)
  obtain ⟨W, ⟨m0, w0⟩, turn⟩ := hJ _ nD
  -- the block's state
  have hfpS : ∀ b ∈ fp, b < s2.heap.objs.size := fun b hb => by
    obtain ⟨o, e, _⟩ := T.obj _ _ st2 b hb
    exact Heap.lt_size e
  have ltk : ∀ (x : Str) (c : Addr), cl.lookup x = some c → c < s2.heap.objs.size ∧ H1 c = none ∧ (∃ v, s2.heap.IsCell c v) := fun x c e => by
    have e' := ag.at x c e
    obtain ⟨v, q⟩ := I2.cell x c e'
    exact ⟨q.lt, I2.freeC x c e', v, q⟩
  let X' := cxc X scope cl (ts ++ fs) G.objs.size s2 H1 fp pins
  have okX : X'.Ok := by
    refine ⟨I2.ok.mod, hk, I2.ok.glob, I2.ok.blt, by show s2.heap.objs.size ≤ G.objs.size; omega, fun x y c e1 e2 => I2.ok.inj x y c (ag.at x c e1) (ag.at y c e2), fun x hx => ?_, fun x c hf _ => (nomatch (show (false : Bool) = true from hf)), I2.ok.hd, I2.ok.frames, .inl rfl, fun b hb => ⟨?_, fun x c e z => ?_⟩, fun b o e => I2.bs b o e, Nat.le_trans I2.ok.bsz I2.sz, fun b o e hb => ?_, fun b hb hz => ?_, I2.stack, fun b hb => I2.stkFree b hb⟩
    · have hfree := kindOf_relabel (env := X.env) hx nc
      have hm : ∃ y ∈ scope.names, y.1 = x ∧ y.2 = .free := by
        have : ∀ (l : List (Str × NameKind)), l.lookup x = some .free → ∃ y ∈ l, y.1 = x ∧ y.2 = .free := by
          intro l
          induction l with
          | nil => intro h; simp at h
          | cons p r ih =>
            intro h
            rw [List.lookup_cons] at h
            cases q : x == p.1 with
            | true =>
              rw [q] at h
              exact ⟨p, List.mem_cons_self, (by simpa using q : x = p.1).symm, Option.some.inj h⟩
            | false =>
              rw [q] at h
              obtain ⟨y, hy, r1, r2⟩ := ih h
              exact ⟨y, List.mem_cons_of_mem _ hy, r1, r2⟩
        exact this _ hfree
      obtain ⟨y, hy, r1, r2⟩ := hm
      have := List.all_eq_true.mp fh y hy
      rw [r2] at this
      have h' : (cl.lookup y.1).isSome = true := by simpa using this
      rw [r1] at h'
      exact Option.isSome_iff_exists.mp h'
    · exact Nat.ne_of_lt (Nat.lt_of_lt_of_le (hfpS b hb) (by show s2.heap.objs.size ≤ G.objs.size; omega))
    · exact (f2 b hb).2.2.2.2.1 x c (ag.at x c e) z
    · obtain ⟨_, _, _, f3, _, _⟩ := f2 b hb
      rcases f3 with z | z
      · exact I2.ok.noex b o e z
      · exact absurd (Nat.lt_of_lt_of_le (Heap.lt_size (I2.ok.bs b o e).1) z) (Nat.lt_irrefl _)
    · rcases List.mem_cons.mp (I2.stkSub b hz) with z | z
      · exact (f2 b hb).2.1 z
      · exact (f2 b hb).2.2.1 z
  have keepB : ∀ b o, s2.heap.get? b = some o → h₁.get? b = some o := old
  have I3 : Inv X' [] (blockSt ts js σ) (upd H1 s2.heap.objs.size (.lst [])) { s2 with heap := h₁, toks := s2.toks + ([] : List (Str × Value)).length } := by
    have neD : ∀ b o, s2.heap.get? b = some o → b ≠ s2.heap.objs.size := fun b o e => Nat.ne_of_lt (Heap.lt_size e)
    refine ⟨okX, rfl, I2.bare, ⟨fun b o e n hb hx => old b o e, fun b o e n hb hx => ⟨o.slots, old b o e⟩, fun b o e n hx => by rw [upd_ne (neD b o e)]; exact n, fun b o e hx => ⟨o, old b o e⟩, fun b xs e => ?_, fun b o u e => ?_, fun b ps e => ?_⟩, ⟨_, hns₁, fun i x v e1 e2 e3 => ?_⟩, fun x c e => ?_, ?_, fun x c e => ?_, fun p hp => ?_, ?_, ?_⟩
    · rw [upd_ne (ne_of_none e nD)]; exact e
    · rw [upd_ne (ne_of_none e nD)]; exact e
    · exact ⟨#[], by rw [upd_ne (ne_of_none e nD)]; exact Eq.trans e (by simp)⟩
    · -- the free names
      have hlen : (ts.map (fun _ => (none : Option V))).length = ts.length := List.length_map _
      unfold blockSt at e2
      by_cases hlt : i < ts.length
      · rw [List.getElem?_append_left (by rw [hlen]; exact hlt), List.getElem?_map] at e2
        cases q : ts[i]? <;> rw [q] at e2 <;> cases e2
      · rw [List.getElem?_append_right (by rw [hlen]; omega), hlen] at e2
        have e1' : fs[i - ts.length]? = some x := by
          have e1' : (ts ++ fs)[i]? = some x := e1
          rw [List.getElem?_append_right (by omega)] at e1'
          exact e1'
        have all : ∀ {fs : List Str} {js : List Nat}, Frees X scope cl fs js → ∀ k : Nat, fs[k]? = some x → (js.map fun j => (σ[j]?).join)[k]? = some (some v) →
            ∃ (j : Nat) (c : Addr), X.N[j]? = some x ∧ σ[j]? = some (some v) ∧ (X.env.kindOf x = some .cell ∨ X.env.kindOf x = some .free) ∧ X.env.cells.lookup x = some c ∧ cl.lookup x = some c ∧ scope.names.lookup x = some .free := by
          intro fs js r
          induction r with
          | nil => intro k e; simp at e
          | @cons y j c fs js hN hf hv hc hl r ih =>
            intro k e e'
            cases k with
            | zero =>
              have e0 : y = x := by simpa using e
              subst e0
              have e0' : (σ[j]?).join = some v := by simpa using e'
              refine ⟨j, c, hN, ?_, hv, hc, hl, hf⟩
              cases q : σ[j]? with
              | none => rw [q] at e0'; cases e0'
              | some z => rw [q] at e0'; cases z with
                | none => cases e0'
                | some z => have : z = v := by simpa using e0'
                            rw [this]
            | succ k => exact ih k (by simpa using e) (by simpa using e')
        obtain ⟨j, c, q1, q2, q3, q4, q5, q6⟩ := all fr (i - ts.length) e1' e2
        obtain ⟨m, hn, hl⟩ := I2.loc
        have vis : Vis X.env.scope x := by
          rcases q3 with z | z
          · exact .inr (.inl z)
          · exact .inr (.inr z)
        obtain ⟨u, ru, lk⟩ := hl j x v q1 q2 vis
        refine ⟨u, ru, .inr ⟨?_, c, q5, ?_⟩⟩
        · rcases e3 with z | z | z
          · exfalso
            -- a local of the block has no slot here: it is not free
            have key : ∀ (l : List (Str × NameKind)), (l.map fun (n, k) => if (k == NameKind.free && X.env.scope.kind == .function && X.env.kindOf n == some .cell) then (n, NameKind.cell) else (n, k)).lookup x = some .local → l.lookup x = some .local := by
              intro l
              induction l with
              | nil => intro h; simp at h
              | cons p r ih =>
                obtain ⟨n, k⟩ := p
                intro h
                rw [List.map_cons] at h
                dsimp only at h
                by_cases hc : (k == NameKind.free && X.env.scope.kind == .function && X.env.kindOf n == some .cell) = true
                · rw [if_pos hc] at h
                  rw [List.lookup_cons] at h ⊢
                  cases q : x == n with
                  | true => rw [q] at h; cases h
                  | false => rw [q] at h; exact ih h
                · rw [if_neg hc] at h
                  rw [List.lookup_cons] at h ⊢
                  cases q : x == n with
                  | true => rw [q] at h; exact h
                  | false => rw [q] at h; exact ih h
            have := key _ z
            rw [q6] at this
            cases this
          · exact .inl z
          · exact .inr z
        · rcases lk with ⟨k, _⟩ | ⟨_, c', e4, z⟩
          · rcases q3 with z | z <;> rw [z] at k <;> cases k
          · rw [q4] at e4
            cases e4
            obtain ⟨o, ho, hd⟩ := z
            exact ⟨o, old c o ho, hd⟩
    · obtain ⟨_, _, v, o, ho, hd⟩ := ltk x c e
      exact ⟨v, o, old c o ho, hd⟩
    · show upd H1 s2.heap.objs.size (.lst []) G.objs.size = none
      rw [upd_ne (Nat.ne_of_gt (by rw [hC]; exact Nat.lt_succ_self _))]; exact nC
    · obtain ⟨q1, q2, _⟩ := ltk x c e
      rw [upd_ne (Nat.ne_of_lt q1)]; exact q2
    · have hp' : p ∈ X.pn ++ pins := by
        have : p ∈ (X.pn ++ pins) ++ [] := hp
        rwa [List.append_nil] at this
      obtain ⟨e, n, ne, nf, d⟩ := I2.pin p hp'
      have hlt := Heap.lt_size e
      refine ⟨old _ _ e, by rw [upd_ne (Nat.ne_of_lt hlt)]; exact n, ?_, fun hz => ?_, d⟩
      · show p.1 ≠ G.objs.size
        exact Nat.ne_of_lt (Nat.lt_trans hlt (by rw [hC]; exact Nat.lt_succ_self _))
      · rcases List.mem_cons.mp (I2.stkSub _ hz) with z | z
        · exact ne z
        · exact nf z
    · exact I2.hok.laid old (Nat.le_refl _) ⟨Nat.zero_le _, [], 0, .nil, hacc⟩
    · show (blockSt ts js σ).length = (ts ++ fs).length
      have frl : ∀ {fs : List Str} {js : List Nat}, Frees X scope cl fs js → fs.length = js.length := by
        intro fs js r
        induction r with
        | nil => rfl
        | cons _ _ _ _ _ _ ih => rw [List.length_cons, List.length_cons, ih]
      unfold blockSt
      rw [List.length_append, List.length_append, List.length_map, List.length_map, frl fr]
  have stat : ∀ {H' : Hp}, (∀ b ∈ fp, H' b = none) → ∀ b ∈ fp, FpOk X' [] H' b := fun {H'} hn b hb => by
    obtain ⟨_, f1, f3, _, f4, f5⟩ := f2 b hb
    refine ⟨hn b hb, okX.exf b hb |>.1, okX.exfs b hb, .inl hb, fun x c e => f4 x c (ag.at x c e), fun p hp => f5 p ?_⟩
    have : p ∈ (X.pn ++ pins) ++ [] := hp
    rwa [List.append_nil] at this
  have fin : ∀ {σ' : St} {H' : Hp} {s' : Shared}, Inv X' [] σ' H' s' → Q (.ref s2.heap.objs.size) H' →
      compPost (model X.prog X.w) X.A X.xe use Qv (.ref s2.heap.objs.size) G.objs.size (.ok .next) s' := by
    intro σ' H' s' I4 q
    obtain ⟨m, hn, _⟩ := I4.loc
    have fC : H' G.objs.size = none := I4.free
    have Io : Inv X pins σ H' s' := by
      refine I2.call' (s' := s') (ch := fp) I4.os ⟨fun b o e n hb hx => ?_, fun b o e n hb hx => ?_, fun b o e n hx => I4.base.free b o e n hx, fun b o e hx => ?_, I4.base.tups, I4.base.frzs, I4.base.tbls⟩ I4.hok I4.bare fun b hb => ?_
      · exact I4.base.keep b o e n hb hx
      · exact I4.base.slot b o e n hb hx
      · exact I4.base.there b o e hx
      · obtain ⟨_, f1, _, f3, f4, f5⟩ := f2 b hb
        exact ⟨f3, f1, f4, f5⟩
    have hCl : s2.heap.objs.size ≤ G.objs.size := by rw [hC]; exact Nat.le_succ _
    exact hfin _ H' s' _ Io q ⟨m, hn⟩ (I2.fpOk hCl fC)
  have loop : ∀ s3 : Shared, s3 = { s2 with heap := h₁, toks := s2.toks + ([] : List (Str × Value)).length } →
      codeAny (model X.prog X.w) X.A (.compLoop (.ListComp elt [⟨tg, iter, ifs, 0⟩] scope pos) 0 (.ref it) (.ref s2.heap.objs.size) (compEnvC scope cl G.objs.size X.env))
        (compPost (model X.prog X.w) X.A X.xe use Qv (.ref s2.heap.objs.size) G.objs.size) s3 := by
    rintro s3 rfl
    refine comp_loop (fun n s' => ∃ i σ' H', Inv X' [] σ' H' s' ∧ tn i s'.heap ∧ (∀ b ∈ fp, H' b = none) ∧ W i n σ' H') ?_ m0 ⟨0, _, _, I3, T.keep _ _ _ st2 fun b _ o e => old b o e, fun b hb => ?_, w0⟩
    · rintro n s3 ⟨i, σ3, H3, I3, st3, fr3, w3⟩
      rcases turn i n σ3 H3 w3 with ⟨stop, qn⟩ | ⟨go, N, hN, step⟩
      · refine thn (T.done X' rfl rfl rfl hcalm i [] s3 σ3 H3 _ I3 (stat fr3) st3 stop) fun r s4 ⟨hr, I4⟩ => ?_
        subst hr
        exact fin I4 qn
      · refine thn (T.item X' rfl rfl rfl hcalm i [] s3 σ3 H3 _ I3 (stat fr3) st3 go) fun r s4 ⟨u, hr, h4⟩ => ?_
        subst hr
        refine thn h4 fun _ s5 ⟨x, H5, I5, r5, y5, st5, fr5⟩ => ?_
        have I5' := I5.pinned (stat fr5) (T.obj _ _ st5)
        refine thn (hg _ _ _ _ _ _ s5 σ3 H5 x u _ I5' r5 (step x H5 y5)) fun _ s6 ⟨σ6, H6, I6, q6⟩ => ?_
        have again : ∀ {σ7 : St} {H7 : Hp} {s7 : Shared}, Inv X' ([] ++ pinsAt fp s5.heap) σ7 H7 s7 → N σ7 H7 → ∃ m, m < n ∧ ∃ i σ' H', Inv X' [] σ' H' s7 ∧ tn i s7.heap ∧ (∀ b ∈ fp, H' b = none) ∧ W i m σ' H' := fun {σ7 H7 s7} I7 n7 => by
          obtain ⟨m', hm, w7⟩ := hN σ7 H7 n7
          refine ⟨m', hm, i + 1, σ7, H7, I7.unpinned, T.keep _ _ _ st5 fun b hb o e => (I7.pin (b, o) (List.mem_append_right _ (List.mem_append_right _ (mem_pinsAt hb e)))).1, fun b hb => ?_, w7⟩
          obtain ⟨o, e, d⟩ := T.obj _ _ st5 b hb
          exact (I7.pin (b, o) (List.mem_append_right _ (List.mem_append_right _ (mem_pinsAt hb e)))).2.1
        have tail : ∀ {H7 : Hp} {s7 : Shared}, Inv X' ([] ++ pinsAt fp s5.heap) σ6 H7 s7 → (te σ6 H7 fun y H4 => ∃ ys, H4 s2.heap.objs.size = some (.lst ys) ∧ ys.length < sizeLine ∧ N σ6 (upd H4 s2.heap.objs.size (.lst (ys ++ [y])))) →
            wpAny (model X.prog X.w) X.A (eval elt (compEnvC scope cl G.objs.size X.env)) (fun x s₅ => wpAny (model X.prog X.w) X.A (call (.builtin "list.append") [.ref s2.heap.objs.size, x])
              (fun _ s₆ => ∃ m, m < n ∧ ∃ i σ' H', Inv X' [] σ' H' s₆ ∧ tn i s₆.heap ∧ (∀ b ∈ fp, H' b = none) ∧ W i m σ' H') (fun _ _ => False) s₅) (fun _ _ => False) s7 := by
          intro H7 s7 I7 q7
          refine thn (he _ _ _ _ _ _ s7 σ6 H7 _ I7 q7) fun uy s8 ⟨y, H8, I8, ry, ys, hy, hl, q8⟩ => ?_
          refine thn (mt_append (X := X') _ s8 σ6 H8 (.ref s2.heap.objs.size) [y] (.ref s2.heap.objs.size) [uy] (fun _ H9 => N σ6 H9) I8 rfl (.cons ry .nil) ⟨_, ys, y, rfl, rfl, hy, hl, q8⟩) fun _ s9 ⟨_, H9, I9, _, q9⟩ => ?_
          exact again I9 q9
        cases ifs with
        | nil =>
          cases tt with
          | none => exact wpAny_tests_nil (tail I6 q6)
          | some t => exact (ht 0 s2 H1 [] []).elim
        | cons c r =>
          cases r with
          | nil =>
            cases tt with
            | none => exact (ht 0 s2 H1 [] []).elim
            | some t =>
              refine wpAny_tests_one (thn (ht G.objs.size s2 H1 fp pins _ s6 σ6 H6 _ I6 q6) fun b s7 ⟨H7, I7, q7⟩ => ?_)
              cases b with
              | true =>
                rw [if_pos rfl] at q7 ⊢
                exact tail I7 q7
              | false =>
                rw [if_neg Bool.false_ne_true] at q7 ⊢
                exact again I7 q7
          | cons _ _ => cases tt <;> exact (ht 0 s2 H1 [] []).elim
    · rw [upd_ne (Nat.ne_of_lt (hfpS b hb))]
      exact (f2 b hb).1
  exact codeAny_compStart_list (loop _ rfl) (T.self _ 0 _ _ _ (T.keep _ _ _ st2 fun b _ o e => old b o e) (loop _ rfl))
theorem Inv.other {X : Cx} {pins : List (Addr × Obj)} {σ : St} {H : Hp} {s : Shared} {C : Addr} {h' : Heap} (I : Inv X pins σ H s) (f : FpOk X pins H C) (hs : Heap.SameBut C s.heap h') : Inv X pins σ H { s with heap := h' } := by
  obtain ⟨f0, f1, _, f3, f4, f5⟩ := f
  refine I.call' (s' := { s with heap := h' }) (ch := [C]) rfl ⟨fun b o e n hb hx => ?_, fun b o e n hb hx => ?_, fun b o e n hx => n, fun b o e hx => ?_, fun _ _ q => q, fun _ _ _ q => q, fun b ps q => ⟨#[], by rw [q]; simp⟩⟩ (fun b u e => ?_) I.bare fun b hb => ?_
  · exact (hs.2 b (fun z => hx (by rw [z]; exact List.mem_singleton.mpr rfl))).trans e
  · exact ⟨o.slots, (hs.2 b (fun z => hx (by rw [z]; exact List.mem_singleton.mpr rfl))).trans e⟩
  · exact ⟨o, (hs.2 b (fun z => hx (by rw [z]; exact List.mem_singleton.mpr rfl))).trans e⟩
  · refine (I.hok b u e).stay (fun c v hc q => (hs.2 c ?_).trans q) (fun _ q => q) fun _ _ q => q
    rcases hc with z | z
    · rw [z]; exact ne_of_none e f0
    · exact ne_of_none z f0
  · rw [List.mem_singleton.mp hb]
    exact ⟨f3, f1, f4, f5⟩
theorem pe_comp {X : Cx} {tg elt iter : Expr} {ifs : List Expr} {scope : Scope} {cl : List (Str × Addr)} {pos : Pos} {wi : TI} {g : TG} {tt : Option TT} {te : TE} {ts fs : List Str} {js : List Nat} (hcalm : X.calm = true)
    (hclos : closureFor scope X.env = pure cl) (hk : scope.kind = .function) (nc : noCell scope.names = true) (lo : locOnce scope.names = true) (fh : freeHas cl scope.names = true) (ag : Agrees X cl) (fr : Frees X scope cl fs js)
    (hi : PI X tg iter wi) (hg : ∀ C s₀ H₀ ex pins, PG (cxc X scope cl (ts ++ fs) C s₀ H₀ ex pins) tg g)
    (ht : ∀ C s₀ H₀ ex pins, match ifs, tt with | [], none => True | [c], some t => PT (cxc X scope cl (ts ++ fs) C s₀ H₀ ex pins) c t | _, _ => False)
    (he : ∀ C s₀ H₀ ex pins, PE (cxc X scope cl (ts ++ fs) C s₀ H₀ ex pins) elt te)
    (hs : ∀ x, foldedSetIterable iter X.env x = pure x := by intro _; rfl) :
    PE X (.ListComp elt [⟨tg, iter, ifs, 0⟩] scope pos) (tComp wi g tt te ts js) := by
  intro pins s σ H Q I h
  rw [eval_ListComp]
  refine comp_gen hcalm hclos hk nc lo fh ag fr hi hg ht he hs I h none _ fun D H' s' C Io q hm f => ?_
  obtain ⟨m, hn⟩ := hm
  exact ⟨m, hn, fun h' hs' => ⟨.ref D, H', Io.other f hs', rfl, q⟩⟩
def tCompN (wi : TI) (g : TG) (te : TE) (ts : List Str) (js : List Nat) : TE := fun σ H Q => wi σ H fun J H1 => ∀ D, H1 D = none →
  ∃ W : Nat → Nat → St → Hp → Prop, (∃ m, W 0 m (blockSt ts js σ) (upd H1 D (.lst []))) ∧ ∀ i m σ' H', W i m σ' H' →
    (J.stop i H' ∧ Q (.ref D) H') ∨ (J.go i H' ∧ ∃ N : St → Hp → Prop, (∀ σ'' H'', N σ'' H'' → ∃ m', m' < m ∧ W (i + 1) m' σ'' H'') ∧
      ∀ x H2, J.yld i H' x H2 → g x σ' H2 fun σ2 H3 => te σ2 H3 fun y H4 => ∃ ys, H4 D = some (.lst ys) ∧ ys.length < sizeLine ∧ N σ2 (upd H4 D (.lst (ys ++ [y]))))
theorem pe_compN {X : Cx} {tg elt iter : Expr} {scope : Scope} {cl : List (Str × Addr)} {pos : Pos} {wi : TI} {g : TG} {te : TE} {ts fs : List Str} {js : List Nat} (hcalm : X.calm = true)
    (hclos : closureFor scope X.env = pure cl) (hk : scope.kind = .function) (nc : noCell scope.names = true) (lo : locOnce scope.names = true) (fh : freeHas cl scope.names = true) (ag : Agrees X cl) (fr : Frees X scope cl fs js)
    (hi : PI X tg iter wi) (hg : ∀ C s₀ H₀ ex pins, PG (cxc X scope cl (ts ++ fs) C s₀ H₀ ex pins) tg g) (he : ∀ C s₀ H₀ ex pins, PE (cxc X scope cl (ts ++ fs) C s₀ H₀ ex pins) elt te)
    (hs : ∀ x, foldedSetIterable iter X.env x = pure x := by intro _; rfl) : PE X (.ListComp elt [⟨tg, iter, [], 0⟩] scope pos) (tCompN wi g te ts js) :=
  pe_comp (tt := none) hcalm hclos hk nc lo fh ag fr hi hg (fun _ _ _ _ _ => trivial) he hs
end L2
namespace L2
open PySem PySem.Spec PyProof.Rows
def SqH (h : Heap) (b : Bool) (l : Addr) (xs : Array Value) : Prop := match b with
  | true => h.IsList l xs
  | false => h.IsTuple l xs
def ItH (h : Heap) (b : Bool) (it l : Addr) (i : Nat) : Prop := match b with
  | true => h.IsListIter it l i
  | false => h.IsTupleIter it l i
theorem SqH.at {h h' : Heap} {b : Bool} {l : Addr} {xs : Array Value} (x : SqH h b l xs) (k : ∀ o, h.get? l = some o → h'.get? l = some o) : SqH h' b l xs := by
  cases b with
  | true => obtain ⟨o, ho, r⟩ := (show h.IsList l xs from x); exact (show h'.IsList l xs from ⟨o, k o ho, r⟩)
  | false => obtain ⟨o, ho, r⟩ := (show h.IsTuple l xs from x); exact (show h'.IsTuple l xs from ⟨o, k o ho, r⟩)
theorem ItH.at {h h' : Heap} {b : Bool} {it l : Addr} {i : Nat} (x : ItH h b it l i) (k : ∀ o, h.get? it = some o → h'.get? it = some o) : ItH h' b it l i := by
  cases b with
  | true => obtain ⟨o, ho, r⟩ := (show h.IsListIter it l i from x); exact (show h'.IsListIter it l i from ⟨o, k o ho, r⟩)
  | false => obtain ⟨o, ho, r⟩ := (show h.IsTupleIter it l i from x); exact (show h'.IsTupleIter it l i from ⟨o, k o ho, r⟩)
theorem ItH.obj {h : Heap} {b : Bool} {it l : Addr} {i : Nat} (x : ItH h b it l i) : ∃ o vs, h.get? it = some o ∧ o.data = .fields vs := by
  cases b with
  | true => obtain ⟨o, ho, _, hd⟩ := (show h.IsListIter it l i from x); exact ⟨o, _, ho, hd⟩
  | false => obtain ⟨o, ho, _, hd⟩ := (show h.IsTupleIter it l i from x); exact ⟨o, _, ho, hd⟩
theorem SqH.obj {h : Heap} {b : Bool} {l : Addr} {xs : Array Value} (x : SqH h b l xs) : ∃ o n, h.get? l = some o ∧ o.data = .seq xs n := by
  cases b with
  | true => obtain ⟨o, ho, _, n, hd⟩ := (show h.IsList l xs from x); exact ⟨o, n, ho, hd⟩
  | false => obtain ⟨o, ho, _, n, hd⟩ := (show h.IsTuple l xs from x); exact ⟨o, n, ho, hd⟩
section
variable {prog : Program} {w : World} {A : Around} {E : Value → Shared → Prop} {s : Shared}
theorem nextOf_tuple_item {it t : Addr} {i : Nat} {items : Array Value} {x : Value} {Q : Value → Shared → Prop} (hit : s.heap.IsTupleIter it t i)
    (ht : s.heap.IsTuple t items) (hx : items[i]? = some x)
    (hQ : ∀ h', h'.IsTupleIter it t (i + 1) → Heap.SameBut it s.heap h' → Q x { s with heap := h' }) :
    wpAny (model prog w) A (Builtin.SmallTypes.nextOf (.ref it)) Q E s := by
  obtain ⟨o, ho, hc, hd⟩ := id hit
  obtain ⟨ol, hol, _, nl, hdl⟩ := ht
  unfold Builtin.SmallTypes.nextOf
  refine wpAny_bind (wpAny_callSpecial?_slot (name := Str.ofString "__next__") hit.typeIs F.slot_tuple_iterator_next
    (wpAny_call_entry F.slot_tuple_iterator_next hit.typeIs F.entry_tuple_iterator_next ?_ (F.args_tuple_iterator_next_1 _)))
  show wpAny _ _ (field (.ref it) 0 >>= _) _ _ s
  refine wpAny_bind (wpAny_field ho hd (x := .ref t) rfl ?_)
  show wpAny _ _ (if (Value.ref t == Value.none) = true then _ else _) _ _ s
  rw [if_neg (show ¬ ((Value.ref t == Value.none) = true) from Bool.false_ne_true)]
  show wpAny _ _ (field (.ref it) 1 >>= _) _ _ s
  refine wpAny_bind (wpAny_field ho hd (x := .int i 0) rfl ?_)
  show wpAny _ _ (seqItems? (.ref t) >>= _) _ _ s
  refine wpAny_bind (wpAny_seqItems hol hdl ?_)
  simp only [Int.toNat_natCast, hx]
  refine wpAny_bind (wpAny_setField ho hd (by simp) (wpAny_pure ⟨x, rfl, wpAny_pure (hQ _ ?_ (Heap.SameBut.update ..))⟩))
  exact ⟨_, Heap.get?_update_self _ ho (Obj.isFreed_of_fields (Obj.data_mapFields hd _)), (Obj.cls_mapFields ..).trans hc, by
    rw [Obj.data_mapFields hd]; simp [rawInt]⟩
theorem nextOf_tuple_end {it t : Addr} {i : Nat} {items : Array Value} {Q : Value → Shared → Prop} (hh : A.handled = none)
    (hit : s.heap.IsTupleIter it t i) (ht : s.heap.IsTuple t items) (hx : items[i]? = none)
    (hE : ∀ h' e, Heap.ExtBut it s.heap h' → (∃ o, h'.get? e = some o ∧ o.cls = .type "StopIteration") → E (.ref e) { s with heap := h' }) :
    wpAny (model prog w) A (Builtin.SmallTypes.nextOf (.ref it)) Q E s := by
  obtain ⟨o, ho, hc, hd⟩ := id hit
  obtain ⟨ol, hol, _, nl, hdl⟩ := ht
  unfold Builtin.SmallTypes.nextOf
  refine wpAny_bind (wpAny_callSpecial?_slot (name := Str.ofString "__next__") hit.typeIs F.slot_tuple_iterator_next
    (wpAny_call_entry F.slot_tuple_iterator_next hit.typeIs F.entry_tuple_iterator_next ?_ (F.args_tuple_iterator_next_1 _)))
  show wpAny _ _ (field (.ref it) 0 >>= _) _ _ s
  refine wpAny_bind (wpAny_field ho hd (x := .ref t) rfl ?_)
  show wpAny _ _ (if (Value.ref t == Value.none) = true then _ else _) _ _ s
  rw [if_neg (show ¬ ((Value.ref t == Value.none) = true) from Bool.false_ne_true)]
  show wpAny _ _ (field (.ref it) 1 >>= _) _ _ s
  refine wpAny_bind (wpAny_field ho hd (x := .int i 0) rfl ?_)
  show wpAny _ _ (seqItems? (.ref t) >>= _) _ _ s
  refine wpAny_bind (wpAny_seqItems hol hdl ?_)
  simp only [Int.toNat_natCast, hx]
  refine wpAny_bind (wpAny_rule (wpAny_bind (wpAny_setField ho hd (by simp) ?_)))
  show wpAny _ _ (newExc (.type "StopIteration") [] >>= _) _ _ _
  refine wpAny_bind ?_
  simp only [newExc, newTuple]
  refine wpAny_bind (wpAny_newObj_type ?_ (by size_fits))
  refine wpAny_bind (m := firstArgMember _ _) (wpAny_of_eq (a := Value.none) (by first | rfl | (simp only [firstArgMember]; rfl)) ?_)
  refine wpAny_newObj_type ?_ (by size_fits)
  simp only [raiseNew]
  refine wpAny_bind (wpAny_handled ?_)
  first | rw [show A.in1.handled = none from hh] | rw [hh]
  refine wpAny_bind (wpAny_pure (wpAny_throw ?_))
  exact hE _ _ (((Heap.SameBut.update ..).extBut.push _).push _) ⟨_, Heap.get?_push_size _ rfl, rfl⟩
theorem nextOf_item {b : Bool} {it l : Addr} {i : Nat} {items : Array Value} {x : Value} {Q : Value → Shared → Prop} (hit : ItH s.heap b it l i) (hl : SqH s.heap b l items) (hx : items[i]? = some x)
    (hQ : ∀ h', ItH h' b it l (i + 1) → Heap.SameBut it s.heap h' → Q x { s with heap := h' }) : wpAny (model prog w) A (Builtin.SmallTypes.nextOf (.ref it)) Q E s := by
  cases b with
  | true => exact wpAny_nextOf_list_item hit hl hx hQ
  | false => exact nextOf_tuple_item hit hl hx hQ
theorem nextOf_end {b : Bool} {it l : Addr} {i : Nat} {items : Array Value} {Q : Value → Shared → Prop} (hh : A.handled = none) (hit : ItH s.heap b it l i) (hl : SqH s.heap b l items) (hx : items[i]? = none)
    (hE : ∀ h' e, Heap.ExtBut it s.heap h' → (∃ o, h'.get? e = some o ∧ o.cls = .type "StopIteration") → E (.ref e) { s with heap := h' }) : wpAny (model prog w) A (Builtin.SmallTypes.nextOf (.ref it)) Q E s := by
  cases b with
  | true => exact wpAny_nextOf_list_end hh hit hl hx hE
  | false => exact nextOf_tuple_end hh hit hl hx hE
theorem zipH_item {b1 b2 : Bool} {z TI TO i1 i2 l1 l2 : Addr} {k1 k2 : Nat} {xs ys : Array Value} {x y a b : Value} {Q : Value → Shared → Prop} (D : ZipApart z TI TO i1 i2 l1 l2)
    (hz : IsZip s.heap z TI TO .none) (hTI : IsPair s.heap TI (.ref i1) (.ref i2)) (hTO : IsPair s.heap TO a b)
    (h1 : ItH s.heap b1 i1 l1 k1) (h2 : ItH s.heap b2 i2 l2 k2) (hl1 : SqH s.heap b1 l1 xs) (hl2 : SqH s.heap b2 l2 ys) (hx : xs[k1]? = some x) (hy : ys[k2]? = some y)
    (hQ : ∀ h', IsZip h' z TI TO (rawInt s.heap.objs.size) → IsPair h' TO x y → ItH h' b1 i1 l1 (k1 + 1) → ItH h' b2 i2 l2 (k2 + 1) → IsPair h' s.heap.objs.size x y → h'.objs.size = s.heap.objs.size + 1 →
      (∀ c o, c ≠ z → c ≠ TO → c ≠ i1 → c ≠ i2 → s.heap.get? c = some o → h'.get? c = some o) → Q (.ref s.heap.objs.size) { s with heap := h' }) :
    wpAny (model prog w) A (Builtin.«zip.__next__» ⟨[.ref z], []⟩) (fun fin s' => ∃ v, fin = .done (.ret v) ∧ Q v s') E s := by
  show wpAny _ _ (field (.ref z) 2 >>= _) _ _ _
  refine wpAny_bind (wpAny_field hz rfl (x := .bool false) rfl ?_)
  show wpAny _ _ (field (.ref z) 3 >>= _) _ _ _
  refine wpAny_bind (wpAny_field hz rfl (x := .ref TI) rfl ?_)
  refine wpAny_bind (wpAny_seqItems hTI rfl ?_)
  show wpAny _ _ (Builtin.SmallTypes.ownedTupleIsFree (.ref z) >>= _) _ _ _
  refine wpAny_bind ?_
  unfold Builtin.SmallTypes.ownedTupleIsFree
  refine wpAny_bind (wpAny_field hz rfl (x := .none) rfl (wpAny_pure ?_))
  simp only [if_true]
  refine wpAny_bind (wpAny_rule ?_)
  refine wpAny_bind (wpAny_field hz rfl (x := .ref TO) rfl ?_)
  refine wpAny_bind (wpAny_setField_rec hz (by simp) fun h₁ hz₁ hs₁ => ?_)
  replace hz₁ : IsZip h₁ z TI TO .ellipsis := hz₁
  refine wpAny_bind ?_
  simp only [List.zipIdx_cons, List.zipIdx_nil, List.forIn_cons, List.forIn_nil]
  refine wpAny_bind (wpAny_bind (wpAny_onRaise ?_))
  show wpAny _ _ (Builtin.SmallTypes.nextOf (.ref i1) >>= _) _ _ _
  refine wpAny_bind (nextOf_item (h1.at fun o e => hs₁.extBut _ _ D.i1z e) (hl1.at fun o e => hs₁.extBut _ _ D.l1z e) hx fun h₂ h1₂ hs₂ => wpAny_pure ?_)
  have hTO₂ : IsPair h₂ TO a b := hs₂.extBut _ _ D.TOi1 (hs₁.extBut _ _ D.TOz hTO)
  refine wpAny_bind (wpAny_seqItems hTO₂ rfl ?_)
  refine wpAny_bind (wpAny_updateSeq_pair hTO₂ fun h₃ hTO₃ hs₃ => ?_)
  replace hTO₃ : IsPair h₃ TO x b := hTO₃
  refine wpAny_bind (wpAny_letGo (wpAny_pure ?_))
  refine wpAny_bind (wpAny_bind (wpAny_onRaise ?_))
  show wpAny _ _ (Builtin.SmallTypes.nextOf (.ref i2) >>= _) _ _ _
  refine wpAny_bind (nextOf_item (h2.at fun o e => hs₃.extBut _ _ D.TOi2.symm (hs₂.extBut _ _ D.i12.symm (hs₁.extBut _ _ D.i2z e)))
    (hl2.at fun o e => hs₃.extBut _ _ D.l2TO (hs₂.extBut _ _ D.l2i1 (hs₁.extBut _ _ D.l2z e))) hy fun h₄ h2₄ hs₄ => wpAny_pure ?_)
  have hTO₄ : IsPair h₄ TO x b := hs₄.extBut _ _ D.TOi2 hTO₃
  refine wpAny_bind (wpAny_seqItems hTO₄ rfl ?_)
  refine wpAny_bind (wpAny_updateSeq_pair hTO₄ fun h₅ hTO₅ hs₅ => ?_)
  replace hTO₅ : IsPair h₅ TO x y := hTO₅
  refine wpAny_bind (wpAny_letGo (wpAny_pure (wpAny_pure ?_)))
  refine wpAny_bind (wpAny_seqItems hTO₅ rfl ?_)
  refine wpAny_bind (wpAny_newTuple ?_)
  have hsz : h₅.objs.size = s.heap.objs.size := by rw [hs₅.1, hs₄.1, hs₃.1, hs₂.1, hs₁.1]
  have hz₅ : IsZip h₅ z TI TO .ellipsis := hs₅.extBut _ _ D.TOz.symm (hs₄.extBut _ _ D.i2z.symm (hs₃.extBut _ _ D.TOz.symm (hs₂.extBut _ _ D.i1z.symm hz₁)))
  have hk₅ : ∀ c o, c ≠ z → c ≠ TO → c ≠ i1 → c ≠ i2 → s.heap.get? c = some o → h₅.get? c = some o := fun c o c1 c2 c3 c4 e =>
    hs₅.extBut _ _ c2 (hs₄.extBut _ _ c4 (hs₃.extBut _ _ c2 (hs₂.extBut _ _ c3 (hs₁.extBut _ _ c1 e))))
  have h1₅ : ItH h₅ b1 i1 l1 (k1 + 1) := h1₂.at fun o e => hs₅.extBut _ _ D.TOi1.symm (hs₄.extBut _ _ D.i12 (hs₃.extBut _ _ D.TOi1.symm e))
  have h2₅ : ItH h₅ b2 i2 l2 (k2 + 1) := h2₄.at fun o e => hs₅.extBut _ _ D.TOi2.symm e
  have hzlt : z < h₅.objs.size := Heap.lt_size hz₅
  show wpAny _ _ (Builtin.SmallTypes.ownedTupleHandOut (.ref z) (.ref h₅.objs.size) >>= _) _ _ _
  refine wpAny_bind ?_
  unfold Builtin.SmallTypes.ownedTupleHandOut
  have hz₆ : IsZip (h₅.push { cls := .type "tuple", data := .seq #[x, y] }) z TI TO .ellipsis := Heap.get?_push_of_some _ hz₅
  refine wpAny_bind (wpAny_setField_rec hz₆ (by simp) fun h₇ hz₇ hs₇ => ?_)
  replace hz₇ : IsZip h₇ z TI TO (rawInt h₅.objs.size) := hz₇
  refine wpAny_setField_rec hz₇ (by simp) fun h₈ hz₈ hs₈ => ?_
  replace hz₈ : IsZip h₈ z TI TO (rawInt h₅.objs.size) := hz₈
  have up : ∀ c o, c ≠ z → h₅.get? c = some o → h₈.get? c = some o := fun c o c1 e => hs₈.extBut _ _ c1 (hs₇.extBut _ _ c1 (Heap.get?_push_of_some _ e))
  have hT₈ : IsPair h₈ h₅.objs.size x y := hs₈.extBut _ _ (Nat.ne_of_gt hzlt) (hs₇.extBut _ _ (Nat.ne_of_gt hzlt) (Heap.get?_push_size _ rfl))
  have hz8 : h₈.objs.size = h₅.objs.size + 1 := by rw [hs₈.1, hs₇.1, Heap.size_push]
  rw [hsz] at hz₈ hT₈ hz8
  refine wpAny_pure ⟨_, rfl, ?_⟩
  show Q (.ref h₅.objs.size) _
  rw [hsz]
  exact hQ h₈ hz₈ (up _ _ D.TOz hTO₅) (h1₅.at fun o e => up _ o D.i1z e) (h2₅.at fun o e => up _ o D.i2z e) hT₈ hz8 fun c o c1 c2 c3 c4 e => up c o c1 (hk₅ c o c1 c2 c3 c4 e)
theorem zipH_end {b1 b2 : Bool} {z TI TO i1 i2 l1 l2 : Addr} {k1 k2 : Nat} {xs ys : Array Value} {a b : Value} {Q : Fin → Shared → Prop} (hh : A.handled = none) (D : ZipApart z TI TO i1 i2 l1 l2)
    (hz : IsZip s.heap z TI TO .none) (hTI : IsPair s.heap TI (.ref i1) (.ref i2)) (hTO : IsPair s.heap TO a b)
    (h1 : ItH s.heap b1 i1 l1 k1) (h2 : ItH s.heap b2 i2 l2 k2) (hl1 : SqH s.heap b1 l1 xs) (hl2 : SqH s.heap b2 l2 ys) (hend : xs[k1]? = none ∨ ys[k2]? = none)
    (hE : ∀ h' e, (∀ c o, c ≠ z → c ≠ TO → c ≠ i1 → c ≠ i2 → s.heap.get? c = some o → h'.get? c = some o) → (∃ o, h'.get? e = some o ∧ o.cls = .type "StopIteration") → E (.ref e) { s with heap := h' }) :
    wpAny (model prog w) A (Builtin.«zip.__next__» ⟨[.ref z], []⟩) Q E s := by
  show wpAny _ _ (field (.ref z) 2 >>= _) _ _ _
  refine wpAny_bind (wpAny_field hz rfl (x := .bool false) rfl ?_)
  show wpAny _ _ (field (.ref z) 3 >>= _) _ _ _
  refine wpAny_bind (wpAny_field hz rfl (x := .ref TI) rfl ?_)
  refine wpAny_bind (wpAny_seqItems hTI rfl ?_)
  show wpAny _ _ (Builtin.SmallTypes.ownedTupleIsFree (.ref z) >>= _) _ _ _
  refine wpAny_bind ?_
  unfold Builtin.SmallTypes.ownedTupleIsFree
  refine wpAny_bind (wpAny_field hz rfl (x := .none) rfl (wpAny_pure ?_))
  simp only [if_true]
  refine wpAny_bind (wpAny_rule ?_)
  refine wpAny_bind (wpAny_field hz rfl (x := .ref TO) rfl ?_)
  refine wpAny_bind (wpAny_setField_rec hz (by simp) fun h₁ hz₁ hs₁ => ?_)
  replace hz₁ : IsZip h₁ z TI TO .ellipsis := hz₁
  refine wpAny_bind ?_
  simp only [List.zipIdx_cons, List.zipIdx_nil, List.forIn_cons, List.forIn_nil]
  refine wpAny_bind (wpAny_bind (wpAny_onRaise ?_))
  show wpAny _ _ (Builtin.SmallTypes.nextOf (.ref i1) >>= _) _ _ _
  cases hx : xs[k1]? with
  | none =>
    refine wpAny_bind (nextOf_end hh (h1.at fun o e => hs₁.extBut _ _ D.i1z e) (hl1.at fun o e => hs₁.extBut _ _ D.l1z e) hx fun h₂ e hs₂ he => ?_)
    obtain ⟨oe, hoe, hce⟩ := he
    have hz₂ : IsZip h₂ z TI TO .ellipsis := hs₂ _ _ D.i1z.symm hz₁
    have hez : e ≠ z := fun x => by subst x; rw [hz₂] at hoe; cases hoe; simp at hce
    refine wpAny_setField_rec hz₂ (by simp) fun h₃ _ hs₃ => hE h₃ e (fun c o c1 _ c3 _ x => hs₃.extBut _ _ c1 (hs₂ _ _ c3 (hs₁.extBut _ _ c1 x))) ⟨oe, hs₃.extBut _ _ hez hoe, hce⟩
  | some x =>
    have hy : ys[k2]? = none := by rcases hend with h | h; rw [hx] at h; cases h; exact h
    refine wpAny_bind (nextOf_item (h1.at fun o e => hs₁.extBut _ _ D.i1z e) (hl1.at fun o e => hs₁.extBut _ _ D.l1z e) hx fun h₂ h1₂ hs₂ => wpAny_pure ?_)
    have hTO₂ : IsPair h₂ TO a b := hs₂.extBut _ _ D.TOi1 (hs₁.extBut _ _ D.TOz hTO)
    refine wpAny_bind (wpAny_seqItems hTO₂ rfl ?_)
    refine wpAny_bind (wpAny_updateSeq_pair hTO₂ fun h₃ hTO₃ hs₃ => ?_)
    refine wpAny_bind (wpAny_letGo (wpAny_pure ?_))
    refine wpAny_bind (wpAny_bind (wpAny_onRaise ?_))
    show wpAny _ _ (Builtin.SmallTypes.nextOf (.ref i2) >>= _) _ _ _
    refine wpAny_bind (nextOf_end hh (h2.at fun o e => hs₃.extBut _ _ D.TOi2.symm (hs₂.extBut _ _ D.i12.symm (hs₁.extBut _ _ D.i2z e)))
      (hl2.at fun o e => hs₃.extBut _ _ D.l2TO (hs₂.extBut _ _ D.l2i1 (hs₁.extBut _ _ D.l2z e))) hy fun h₄ e hs₄ he => ?_)
    obtain ⟨oe, hoe, hce⟩ := he
    have hz₄ : IsZip h₄ z TI TO .ellipsis := hs₄ _ _ D.i2z.symm (hs₃.extBut _ _ D.TOz.symm (hs₂.extBut _ _ D.i1z.symm hz₁))
    have hez : e ≠ z := fun x => by subst x; rw [hz₄] at hoe; cases hoe; simp at hce
    refine wpAny_setField_rec hz₄ (by simp) fun h₅ _ hs₅ => hE h₅ e (fun c o c1 c2 c3 c4 x => hs₅.extBut _ _ c1 (hs₄ _ _ c4 (hs₃.extBut _ _ c2 (hs₂.extBut _ _ c3 (hs₁.extBut _ _ c1 x))))) ⟨oe, hs₅.extBut _ _ hez hoe, hce⟩
theorem pyIter_seqH {b : Bool} {l : Addr} {items : Array Value} {Q : Value → Shared → Prop} (hl : SqH s.heap b l items)
    (h : ∀ o, o = ({ cls := .type (if b then "list_iterator" else "tuple_iterator"), data := .fields #[.ref l, .int 0 0] } : Obj) → Q (.ref s.heap.objs.size) { s with heap := s.heap.push o }) : wpAny (model prog w) A (pyIter (.ref l)) Q E s := by
  cases b with
  | true => exact wpAny_pyIter_list hl (h _ rfl)
  | false => exact wpAny_pyIter_tuple hl (h _ rfl)
theorem pyNext_zipH_item {b1 b2 : Bool} {z TI TO i1 i2 l1 l2 : Addr} {k1 k2 : Nat} {xs ys : Array Value} {x y a b : Value} {Q : Option Value → Shared → Prop} (D : ZipApart z TI TO i1 i2 l1 l2)
    (hz : IsZip s.heap z TI TO .none) (hTI : IsPair s.heap TI (.ref i1) (.ref i2)) (hTO : IsPair s.heap TO a b)
    (h1 : ItH s.heap b1 i1 l1 k1) (h2 : ItH s.heap b2 i2 l2 k2) (hl1 : SqH s.heap b1 l1 xs) (hl2 : SqH s.heap b2 l2 ys) (hx : xs[k1]? = some x) (hy : ys[k2]? = some y)
    (hQ : ∀ h', IsZip h' z TI TO (rawInt s.heap.objs.size) → IsPair h' TO x y → ItH h' b1 i1 l1 (k1 + 1) → ItH h' b2 i2 l2 (k2 + 1) → IsPair h' s.heap.objs.size x y → h'.objs.size = s.heap.objs.size + 1 →
      (∀ c o, c ≠ z → c ≠ TO → c ≠ i1 → c ≠ i2 → s.heap.get? c = some o → h'.get? c = some o) → Q (some (.ref s.heap.objs.size)) { s with heap := h' }) :
    wpAny (model prog w) A (pyNext (.ref z)) Q E s := by
  have hT : s.TypeIs (.ref z) "zip" := ⟨_, hz, rfl⟩
  unfold pyNext
  exact wpAny_bind (wpAny_attempt (wpAny_callSpecial?_slot (name := Str.ofString "__next__") hT F.slot_zip_next
    (wpAny_call_entry F.slot_zip_next hT F.entry_zip_next
      (zipH_item D hz hTI hTO h1 h2 hl1 hl2 hx hy fun h' a1 a2 a3 a4 a5 a6 a7 => wpAny_pure (hQ h' a1 a2 a3 a4 a5 a6 a7)) (F.args_zip_next_1 _))))
theorem pyNext_zipH_end {b1 b2 : Bool} {z TI TO i1 i2 l1 l2 : Addr} {k1 k2 : Nat} {xs ys : Array Value} {a b : Value} {Q : Option Value → Shared → Prop} (hh : A.handled = none) (D : ZipApart z TI TO i1 i2 l1 l2)
    (hz : IsZip s.heap z TI TO .none) (hTI : IsPair s.heap TI (.ref i1) (.ref i2)) (hTO : IsPair s.heap TO a b)
    (h1 : ItH s.heap b1 i1 l1 k1) (h2 : ItH s.heap b2 i2 l2 k2) (hl1 : SqH s.heap b1 l1 xs) (hl2 : SqH s.heap b2 l2 ys) (hend : xs[k1]? = none ∨ ys[k2]? = none)
    (hQ : ∀ h', (∀ c o, c ≠ z → c ≠ TO → c ≠ i1 → c ≠ i2 → s.heap.get? c = some o → h'.get? c = some o) → Q none { s with heap := h' }) : wpAny (model prog w) A (pyNext (.ref z)) Q E s := by
  have hT : s.TypeIs (.ref z) "zip" := ⟨_, hz, rfl⟩
  unfold pyNext
  refine wpAny_bind (wpAny_attempt (wpAny_callSpecial?_slot (name := Str.ofString "__next__") hT F.slot_zip_next
    (wpAny_call_entry F.slot_zip_next hT F.entry_zip_next (zipH_end hh D hz hTI hTO h1 h2 hl1 hl2 hend fun h' e hk he => ?_) (F.args_zip_next_1 _))))
  obtain ⟨o, ho, hc⟩ := he
  refine wpAny_bind (wpAny_isInstance (T := "StopIteration") (b := true) ⟨o, ho, hc⟩ isSubtype_stop ?_)
  exact wpAny_pure (hQ _ hk)
abbrev itO (b : Bool) (l : Addr) : Obj := { cls := .type (if b then "list_iterator" else "tuple_iterator"), data := .fields #[.ref l, .int 0 0] }
abbrev zG1 (h : Heap) (b1 : Bool) (l1 : Addr) : Heap := h.push (itO b1 l1)
abbrev zG2 (h : Heap) (b1 b2 : Bool) (l1 l2 : Addr) : Heap := (zG1 h b1 l1).push (itO b2 l2)
abbrev zG3 (h : Heap) (b1 b2 : Bool) (l1 l2 : Addr) : Heap := (zG2 h b1 b2 l1 l2).push { cls := .type "tuple", data := .seq #[.ref h.objs.size, .ref (zG1 h b1 l1).objs.size] }
abbrev zG4 (h : Heap) (b1 b2 : Bool) (l1 l2 : Addr) : Heap := (zG3 h b1 b2 l1 l2).push { cls := .type "tuple", data := .seq #[.none, .none] }
abbrev zG5 (h : Heap) (b1 b2 : Bool) (l1 l2 : Addr) : Heap := (zG4 h b1 b2 l1 l2).push { cls := .type "zip", data := .fields #[.none, .bool false, .bool false, .ref (zG2 h b1 b2 l1 l2).objs.size, .ref (zG3 h b1 b2 l1 l2).objs.size] }
end
theorem pyIter_seqG {prog : Program} {w : World} {A : Around} {E : Value → Shared → Prop} {s : Shared} {b : Bool} {l : Addr} {items : Array Value} {Q : Value → Shared → Prop} (hl : SqH s.heap b l items)
    (h : Q (.ref s.heap.objs.size) { s with heap := s.heap.push (itO b l) }) : wpAny (model prog w) A (pyIter (.ref l)) Q E s := pyIter_seqH hl fun o e => by subst e; exact h
theorem SqH.push {h : Heap} {b : Bool} {l : Addr} {xs : Array Value} (x : SqH h b l xs) (o : Obj) : SqH (h.push o) b l xs := x.at fun _ e => Heap.get?_push_of_some _ e
theorem meets_zipH_new (b1 b2 : Bool) (l1 l2 : Addr) (xs ys : Array Value) :
    Meets (Builtin.«zip.__new__» ⟨[.type "zip", .ref l1, .ref l2], []⟩) (fun _ R s => SqH s.heap b1 l1 xs ∧ SqH s.heap b2 l2 ys ∧
      R (.ok (.ret (.ref (zG4 s.heap b1 b2 l1 l2).objs.size))) { s with heap := zG5 s.heap b1 b2 l1 l2 }) :=
  .of_wp fun prog w A R s h => by
    obtain ⟨hp, g, d, tk, os⟩ := s; obtain ⟨hl1, hl2, h⟩ := h
    have hsub := sub_zip
    have hL1 : SqH (Shared.heap ⟨hp, g, d, tk, os⟩) b1 l1 xs := hl1
    have hL2 : SqH (Shared.heap ⟨hp.push (itO b1 l1), g, d, tk, os⟩) b2 l2 ys := SqH.push hl2 _
    wp_walk using pyIter_seqG hL1, pyIter_seqG hL2
    exact ⟨_, rfl, h⟩
section
variable {prog : Program} {w : World} {A : Around} {E : Value → Shared → Prop} {s : Shared}
theorem ItH.new (h : Heap) (b : Bool) (it l : Addr) (e : h.get? it = some (itO b l)) : ItH h b it l 0 := by
  cases b with
  | true => exact ⟨_, e, rfl, rfl⟩
  | false => exact ⟨_, e, rfl, rfl⟩
theorem call_zipH {b1 b2 : Bool} {l1 l2 : Addr} {xs ys : Array Value} {Q : Value → Shared → Prop} (hl1 : SqH s.heap b1 l1 xs) (hl2 : SqH s.heap b2 l2 ys)
    (h : ∀ h', IsZip h' (s.heap.objs.size + 4) (s.heap.objs.size + 2) (s.heap.objs.size + 3) .none → IsPair h' (s.heap.objs.size + 2) (.ref s.heap.objs.size) (.ref (s.heap.objs.size + 1)) →
      IsPair h' (s.heap.objs.size + 3) .none .none → ItH h' b1 s.heap.objs.size l1 0 → ItH h' b2 (s.heap.objs.size + 1) l2 0 → h'.objs.size = s.heap.objs.size + 5 →
      (∀ c o, s.heap.get? c = some o → h'.get? c = some o) → Q (.ref (s.heap.objs.size + 4)) { s with heap := h' }) :
    wpAny (model prog w) A (call (.type "zip") [.ref l1, .ref l2]) Q E s := by
  refine callType_new F.called_zip (by decide) (F.typeCall_zip_2 _ _) (F.newCall_zip_2 _ _) (fun obj => F.args_object_init_3 obj _ _) F.entry_zip_new
    (meets_zipH_new b1 b2 l1 l2 xs ys) ⟨hl1, hl2, ?_⟩
  have z1 : (zG1 s.heap b1 l1).objs.size = s.heap.objs.size + 1 := Heap.size_push ..
  have z2 : (zG2 s.heap b1 b2 l1 l2).objs.size = s.heap.objs.size + 2 := by rw [Heap.size_push, z1]
  have z3 : (zG3 s.heap b1 b2 l1 l2).objs.size = s.heap.objs.size + 3 := by rw [Heap.size_push, z2]
  have z4 : (zG4 s.heap b1 b2 l1 l2).objs.size = s.heap.objs.size + 4 := by rw [Heap.size_push, z3]
  have z5 : (zG5 s.heap b1 b2 l1 l2).objs.size = s.heap.objs.size + 5 := by rw [Heap.size_push, z4]
  have g5 : (zG5 s.heap b1 b2 l1 l2).get? (zG4 s.heap b1 b2 l1 l2).objs.size = some _ := Heap.get?_push_size _ rfl
  have g4 : (zG5 s.heap b1 b2 l1 l2).get? (zG3 s.heap b1 b2 l1 l2).objs.size = some _ := Heap.get?_push_of_some _ (Heap.get?_push_size _ rfl)
  have g3 : (zG5 s.heap b1 b2 l1 l2).get? (zG2 s.heap b1 b2 l1 l2).objs.size = some _ := Heap.get?_push_of_some _ (Heap.get?_push_of_some _ (Heap.get?_push_size _ rfl))
  have g2 : (zG5 s.heap b1 b2 l1 l2).get? (zG1 s.heap b1 l1).objs.size = some _ := Heap.get?_push_of_some _ (Heap.get?_push_of_some _ (Heap.get?_push_of_some _ (Heap.get?_push_size _ rfl)))
  have g1 : (zG5 s.heap b1 b2 l1 l2).get? s.heap.objs.size = some _ := Heap.get?_push_of_some _ (Heap.get?_push_of_some _ (Heap.get?_push_of_some _ (Heap.get?_push_of_some _ (Heap.get?_push_size _ rfl))))
  show _ ∧ _
  rw [z2, z3, z4] at g5
  rw [z1, z2] at g3
  rw [z3] at g4
  rw [z1] at g2
  rw [z4]
  exact ⟨⟨_, g5, rfl⟩, h _ g5 g3 g4 (ItH.new _ b1 _ _ g1) (ItH.new _ b2 _ _ g2) z5 fun c o x =>
    Heap.get?_push_of_some _ (Heap.get?_push_of_some _ (Heap.get?_push_of_some _ (Heap.get?_push_of_some _ (Heap.get?_push_of_some _ x))))⟩
end
def SqB (K : PySem.W.Frag) (H : Hp) (b : Bool) (a : Addr) (xs : List V) : Prop := match b with
  | true => SqL K H a xs
  | false => SqT K H a xs
section
variable {X : Cx}
theorem Inv.row {pins : List (Addr × Obj)} {σ : St} {H : Hp} {s : Shared} {b : Bool} {a : Addr} {xs : List V} (I : Inv X pins σ H s) (h : SqB X.K H b a xs) : ∃ its : List Value, Vals xs its ∧ SqH s.heap b a its.toArray ∧ xs.length ≤ sizeLine := by
  cases b with
  | true =>
    obtain ⟨its, r, p, z⟩ := I.list h
    exact ⟨its, r, p.isList, z⟩
  | false =>
    obtain ⟨its, r, p, z⟩ := I.tuple h
    exact ⟨its, r, p, z⟩
theorem Inv.row_inj {pins : List (Addr × Obj)} {σ : St} {H : Hp} {s : Shared} {b : Bool} {a : Addr} {xs ys : List V} (I : Inv X pins σ H s) (h : SqB X.K H b a xs) (h' : SqB X.K H b a ys) : xs = ys := by
  cases b with
  | true => exact I.list_inj h h'
  | false => exact I.tuple_inj h h'
theorem Inv.turnedL {pins : List (Addr × Obj)} {σ : St} {H : Hp} {s : Shared} {h' : Heap} {t' : Nat} {ch : List Addr} (I : Inv X pins σ H s) (k : ∀ b u, b ∉ ch → s.heap.get? b = some u → h'.get? b = some u)
    (hch : ∀ b ∈ ch, FpOk X pins H b) : Inv X pins σ H { s with heap := h', toks := t' } := by
  have nitH : ∀ b u, H b = some u → b ∉ ch := fun b u e z => by rw [(hch b z).1] at e; cases e
  refine I.step (g' := s.gens) (d' := s.drawn) (ch := ch) (fun b hb => ?_) (fun b u _ _ hc e _ => k b u hc e) (fun b u _ _ hc e _ => ⟨u.slots, k b u hc e⟩)
    (fun b u _ e n => n) (fun b u hc e => ⟨u, k b u hc e⟩) (fun b xs e => e) (fun b ob u e => e) (fun b ps e => ⟨#[], by rw [e]; simp⟩) (fun m hm => ?_) (fun b u e => ?_) I.bare
  · obtain ⟨_, f1, _, f3, f4, f5⟩ := hch b hb
    exact ⟨f3, f1, f4, f5⟩
  · obtain ⟨ob, es, ep, ho, r⟩ := hm
    exact ⟨ob, es, ep, k _ ob (fun z => (hch _ z).2.1 rfl) ho, r⟩
  · refine (I.hok b u e).stay (fun c v hc q => k c v ?_ q) (fun c q => q) fun c ys q => q
    rcases hc with z' | z'
    · rw [z']; exact nitH b u e
    · exact nitH c _ z'
theorem row_ne {pins : List (Addr × Obj)} {σ : St} {H : Hp} {s : Shared} {b : Bool} {a c : Addr} {xs : List V} (I : Inv X pins σ H s) (h : SqB X.K H b a xs) (f : FpOk X pins H c) : a ≠ c := by
  have rd : ∀ {u : HO}, Rd H a u → a ≠ c := fun {u} r => by
    rcases r with r | ⟨o, r⟩
    · exact ne_of_none r f.1
    · exact ne_of_none r f.1
  have mk : ∀ {o : Obj}, X.K.lookup a = some o → a ≠ c := fun {o} e z => by
    subst z
    have e' := I.ok.mod.kin _ _ e
    rcases f.2.2.2.1 with q | q
    · exact I.ok.noex _ _ e' q
    · exact absurd (Nat.lt_of_lt_of_le (Heap.lt_size (I.ok.bs _ _ e').1) q) (Nat.lt_irrefl _)
  cases b with
  | true =>
    rcases (show SqL X.K H a xs from h) with r | ⟨o, its, n, e, _⟩
    · exact rd r
    · exact mk e
  | false =>
    rcases (show SqT X.K H a xs from h) with r | ⟨o, its, n, e, _⟩
    · exact rd r
    · exact mk e
def Itz (K : PySem.W.Frag) (b1 b2 : Bool) (a1 a2 : Addr) : It :=
  ⟨fun i H => ∃ xs ys x y, SqB K H b1 a1 xs ∧ SqB K H b2 a2 ys ∧ xs[i]? = some x ∧ ys[i]? = some y,
   fun i H v H' => ∃ p x y, H p = none ∧ v = .ref p ∧ H' = upd H p (.tup [x, y]) ∧ (∀ xs, SqB K H b1 a1 xs → xs[i]? = some x) ∧ (∀ ys, SqB K H b2 a2 ys → ys[i]? = some y),
   fun i H => ∃ xs ys, SqB K H b1 a1 xs ∧ SqB K H b2 a2 ys ∧ (xs.length ≤ i ∨ ys.length ≤ i)⟩
theorem turn_zip {P : Program} {w : World} {K : PySem.W.Frag} {elts : List Expr} {x1 : Nat} {tp : Pos} (b1 b2 : Bool) (a1 a2 z TI TO i1 i2 : Addr) (D : TI ≠ z ∧ TO ≠ z ∧ i1 ≠ z ∧ i2 ≠ z ∧ TI ≠ TO ∧ TI ≠ i1 ∧ TI ≠ i2 ∧ TO ≠ i1 ∧ TO ≠ i2 ∧ i1 ≠ i2) :
    Turn P w K (.Tuple elts x1 tp) (Itz K b1 b2 a1 a2) [z, TO, i1, i2, TI] z (fun i h => IsZip h z TI TO .none ∧ IsPair h TI (.ref i1) (.ref i2) ∧ (∃ a b, IsPair h TO a b) ∧ ItH h b1 i1 a1 i ∧ ItH h b2 i2 a2 i) where
  mem := by simp
  obj := fun i h st b hb => by
    obtain ⟨hz, hTI, ⟨a, c, hTO⟩, h1, h2⟩ := st
    simp only [List.mem_cons, List.mem_nil_iff, or_false] at hb
    rcases hb with q | q | q | q | q <;> subst q
    · exact ⟨_, hz, fun v z => by cases z⟩
    · exact ⟨_, hTO, fun v z => by cases z⟩
    · obtain ⟨o, vs, e, d⟩ := h1.obj
      exact ⟨o, e, fun v z => by rw [d] at z; cases z⟩
    · obtain ⟨o, vs, e, d⟩ := h2.obj
      exact ⟨o, e, fun v z => by rw [d] at z; cases z⟩
    · exact ⟨_, hTI, fun v z => by cases z⟩
  keep := fun i h h' st k => by
    obtain ⟨hz, hTI, ⟨a, c, hTO⟩, h1, h2⟩ := st
    exact ⟨k z (by simp) _ hz, k TI (by simp) _ hTI, ⟨a, c, k TO (by simp) _ hTO⟩, h1.at fun o e => k i1 (by simp) o e, h2.at fun o e => k i2 (by simp) o e⟩
  item := by
    intro X hP hw hK hc i pins s σ H E I hf st hg
    subst hP hw hK
    obtain ⟨xs, ys, x, y, hq1, hq2, hx, hy⟩ := hg
    obtain ⟨its1, rv1, p1, hz1⟩ := I.row hq1
    obtain ⟨its2, rv2, p2, hz2⟩ := I.row hq2
    obtain ⟨u1, hu1, ru1⟩ := rv1.get hx
    obtain ⟨u2, hu2, ru2⟩ := rv2.get hy
    obtain ⟨hz, hTI, ⟨a, c, hTO⟩, h1, h2⟩ := st
    obtain ⟨d1, d2, d3, d4, d5, d6, d7, d8, d9, d10⟩ := D
    obtain ⟨o1, n1, e1, dd1⟩ := p1.obj
    obtain ⟨o2, n2, e2, dd2⟩ := p2.obj
    obtain ⟨oi1, vs1, ei1, di1⟩ := h1.obj
    obtain ⟨oi2, vs2, ei2, di2⟩ := h2.obj
    have D : ZipApart z TI TO i1 i2 a1 a2 := ⟨d1, d2, d3, d4, d5, d6, d7, d8, d9, d10, row_ne I hq1 (hf z (by simp)), row_ne I hq1 (hf TO (by simp)), row_ne I hq1 (hf i1 (by simp)), row_ne I hq1 (hf i2 (by simp)),
      row_ne I hq2 (hf z (by simp)), row_ne I hq2 (hf TO (by simp)), row_ne I hq2 (hf i1 (by simp)), row_ne I hq2 (hf i2 (by simp))⟩
    refine pyNext_zipH_item D hz hTI hTO h1 h2 p1 p2 (x := u1) (y := u2) (by simpa using hu1) (by simpa using hu2) fun h' g1 g2 g3 g4 g5 g6 g7 => ⟨_, rfl, ?_⟩
    refine wpAny_letOwnedTupleGo_zip (s := { s with heap := h' }) g1 fun h3 hz3 hs3 => ?_
    have hnew : H s.heap.objs.size = none := I.hok.fresh (Nat.le_refl _)
    have lt : ∀ {c : Addr} {o : Obj}, s.heap.get? c = some o → c ≠ s.heap.objs.size := fun e => Nat.ne_of_lt (Heap.lt_size e)
    have keep3 : ∀ b o, b ∉ [z, TO, i1, i2, TI] → s.heap.get? b = some o → h3.get? b = some o := fun b o hb q => by
      simp only [List.mem_cons, List.mem_nil_iff, or_false, not_or] at hb
      exact (hs3.2 b hb.1).trans (g7 b o hb.1 hb.2.1 hb.2.2.1 hb.2.2.2.1 q)
    have hT3 : h3.get? s.heap.objs.size = some { cls := .type "tuple", data := .seq #[u1, u2] } := (hs3.2 _ (lt hz).symm).trans g5
    have I3 : Inv X pins σ (upd H s.heap.objs.size (.tup [x, y])) { s with heap := h3, toks := s.toks } :=
      I.turnedNew (ch := [z, TO, i1, i2, TI]) keep3 hf (Nat.le_refl _) (fun b hb => by
        simp only [List.mem_cons, List.mem_nil_iff, or_false] at hb
        rcases hb with q | q | q | q | q <;> subst q
        · exact ⟨_, hz⟩
        · exact ⟨_, hTO⟩
        · exact ⟨_, ei1⟩
        · exact ⟨_, ei2⟩
        · exact ⟨_, hTI⟩)
        ⟨by show 2 ≤ sizeLine; decide, [u1, u2], .cons ru1 (.cons ru2 .nil), ⟨_, hT3, rfl, _, rfl⟩⟩
    refine ⟨.ref s.heap.objs.size, _, I3, rfl, ⟨_, x, y, hnew, rfl, rfl, fun zs hzs => by rw [I.row_inj hzs hq1]; exact hx, fun zs hzs => by rw [I.row_inj hzs hq2]; exact hy⟩,
      ⟨hz3, (hs3.2 TI d1).trans (g7 TI _ d1 d5 d6 d7 hTI), ⟨_, _, (hs3.2 TO d2).trans g2⟩, g3.at fun o e => (hs3.2 i1 d3).trans e, g4.at fun o e => (hs3.2 i2 d4).trans e⟩, fun b hb => ?_⟩
    have nb : b ≠ s.heap.objs.size := by
      simp only [List.mem_cons, List.mem_nil_iff, or_false] at hb
      rcases hb with q | q | q | q | q <;> subst q
      · exact lt hz
      · exact lt hTO
      · exact lt ei1
      · exact lt ei2
      · exact lt hTI
    rw [upd_ne nb]
    exact (hf b hb).1
  done := by
    intro X hP hw hK hc i pins s σ H E I hf st hg
    subst hP hw hK
    obtain ⟨xs, ys, hq1, hq2, hend⟩ := hg
    obtain ⟨its1, rv1, p1, hz1⟩ := I.row hq1
    obtain ⟨its2, rv2, p2, hz2⟩ := I.row hq2
    obtain ⟨hz, hTI, ⟨a, c, hTO⟩, h1, h2⟩ := st
    obtain ⟨d1, d2, d3, d4, d5, d6, d7, d8, d9, d10⟩ := D
    have D : ZipApart z TI TO i1 i2 a1 a2 := ⟨d1, d2, d3, d4, d5, d6, d7, d8, d9, d10, row_ne I hq1 (hf z (by simp)), row_ne I hq1 (hf TO (by simp)), row_ne I hq1 (hf i1 (by simp)), row_ne I hq1 (hf i2 (by simp)),
      row_ne I hq2 (hf z (by simp)), row_ne I hq2 (hf TO (by simp)), row_ne I hq2 (hf i1 (by simp)), row_ne I hq2 (hf i2 (by simp))⟩
    have l1 := rv1.length
    have l2 := rv2.length
    refine pyNext_zipH_end (I.ok.hd hc) D hz hTI hTO h1 h2 p1 p2 ?_ fun h' k => ⟨rfl, ?_⟩
    · rcases hend with q | q
      · exact .inl (by simp; omega)
      · exact .inr (by simp; omega)
    · exact I.turnedL (t' := s.toks) (ch := [z, TO, i1, i2, TI]) (fun b u hb e => by
        simp only [List.mem_cons, List.mem_nil_iff, or_false, not_or] at hb
        exact k b u hb.1 hb.2.1 hb.2.2.1 hb.2.2.2.1 e) hf
  self := fun _ _ _ _ _ st h => by
    obtain ⟨hz, _⟩ := st
    exact wpAny_pyIter_zip hz h
theorem zapart (n : Nat) : n + 2 ≠ n + 4 ∧ n + 3 ≠ n + 4 ∧ n ≠ n + 4 ∧ n + 1 ≠ n + 4 ∧ n + 2 ≠ n + 3 ∧ n + 2 ≠ n ∧ n + 2 ≠ n + 1 ∧ n + 3 ≠ n ∧ n + 3 ≠ n + 1 ∧ n ≠ n + 1 := by
  refine ⟨?_, ?_, ?_, ?_, ?_, ?_, ?_, ?_, ?_, ?_⟩ <;> omega
def iZip (K : PySem.W.Frag) (tl : TA) : TI := fun σ H R => tl σ H fun vs H1 => ∃ b1 b2 a1 a2, vs = [.ref a1, .ref a2] ∧ (∃ xs, SqB K H1 b1 a1 xs) ∧ (∃ ys, SqB K H1 b2 a2 ys) ∧ R (Itz K b1 b2 a1 a2) H1
theorem pi_zip {elts : List Expr} {x1 : Nat} {tp : Pos} {l1 l2 : Expr} {tl : TA} {p pos : Pos} (hg : Gl X "zip") (hm : X.mg "zip" = none) (hl : PA X [l1, l2] tl) (hs : starEach [l1, l2] X.env = [(false, eval l1 X.env), (false, eval l2 X.env)] := by rfl) (hs2 : starEach [l2] X.env = [(false, eval l2 X.env)] := by rfl) :
    PI X (.Tuple elts x1 tp) (.Call (.Name "zip" p) [l1, l2] [] pos) (iZip X.K tl) := by
  intro pins s σ H R I h
  refine Call_ (ld_blt I hg hm PyProof.Rows.boot_zip (PyProof.Rows.callWith_type1 (thn (hl pos pins s σ H _ I h) fun us s1 ⟨vs, H1, I1, r1, q1⟩ => ?_) (by rw [hs, hs2]) (by rw [hs2]; rfl)))
  obtain ⟨b1, b2, a1, a2, e, ⟨xs, hq1⟩, ⟨ys, hq2⟩, q⟩ := q1
  subst e
  cases r1 with
  | cons r rr =>
    cases rr with
    | cons r' rr =>
      cases rr
      cases (show _ = Value.ref a1 from r)
      cases (show _ = Value.ref a2 from r')
      obtain ⟨its1, rv1, p1, hz1⟩ := I1.row hq1
      obtain ⟨its2, rv2, p2, hz2⟩ := I1.row hq2
      refine call_zipH p1 p2 fun h' g1 g2 g3 g4 g5 g6 g7 => ?_
      have I2 : Inv X pins σ H1 { s1 with heap := h' } := I1.kept (t' := s1.toks) g7
      refine wpAny_pyIter_zip (s := { s1 with heap := h' }) g1 ?_
      refine ⟨s1.heap.objs.size + 4, [s1.heap.objs.size + 4, s1.heap.objs.size + 3, s1.heap.objs.size, s1.heap.objs.size + 1, s1.heap.objs.size + 2], _, _, H1, rfl, I2,
        turn_zip b1 b2 a1 a2 _ _ _ _ _ (zapart s1.heap.objs.size), ⟨g1, g2, ⟨_, _, g3⟩, g4, g5⟩, fun b hb => ?_, q⟩
      have hle : s1.heap.objs.size ≤ b := by
        simp only [List.mem_cons, List.mem_nil_iff, or_false] at hb
        rcases hb with q | q | q | q | q
        · rw [q]; exact Nat.le_add_right _ 4
        · rw [q]; exact Nat.le_add_right _ 3
        · rw [q]; exact Nat.le_refl _
        · rw [q]; exact Nat.le_add_right _ 1
        · rw [q]; exact Nat.le_add_right _ 2
      exact I1.fpOk hle (I1.hok.fresh hle)
theorem for_zip {K : PySem.W.Frag} {b1 b2 : Bool} {a1 a2 : Addr} {xs ys : List V} {g : TG} {tb : TS} {D : Ends} {σ : St} {H : Hp} (Pv : Nat → St → Hp → Prop) (h0 : Pv 0 σ H)
    (hl : ∀ i σ H, i ≤ min xs.length ys.length → Pv i σ H → SqB K H b1 a1 xs ∧ SqB K H b2 a2 ys)
    (hs : ∀ i x y σ H p, xs[i]? = some x → ys[i]? = some y → Pv i σ H → H p = none → g (.ref p) σ (upd H p (.tup [x, y])) fun σ2 H2 => tb { D with nx := Pv (i + 1), ct := Pv (i + 1), bk := D.nx } σ2 H2) (hd : ∀ σ H, Pv (min xs.length ys.length) σ H → D.nx σ H) :
    ∃ W : Nat → Nat → St → Hp → Prop, (∃ m, W 0 m σ H) ∧ ∀ i m σ H, W i m σ H →
      ((Itz K b1 b2 a1 a2).stop i H ∧ D.nx σ H) ∨ ((Itz K b1 b2 a1 a2).go i H ∧ ∃ N : St → Hp → Prop, (∀ σ' H', N σ' H' → ∃ m', m' < m ∧ W (i + 1) m' σ' H') ∧ ∀ x H', (Itz K b1 b2 a1 a2).yld i H x H' → g x σ H' fun σ2 H2 => tb { D with nx := N, ct := N, bk := D.nx } σ2 H2) := by
  refine ⟨fun i m σ H => m = min xs.length ys.length - i ∧ i ≤ min xs.length ys.length ∧ Pv i σ H, ⟨min xs.length ys.length, by simp, Nat.zero_le _, h0⟩, ?_⟩
  rintro i m σ H ⟨rfl, hi, p⟩
  obtain ⟨q1, q2⟩ := hl i σ H hi p
  by_cases hlt : i < min xs.length ys.length
  · have h1 : i < xs.length := by omega
    have h2 : i < ys.length := by omega
    refine .inr ⟨⟨xs, ys, xs[i], ys[i], q1, q2, by simp [h1], by simp [h2]⟩, Pv (i + 1), fun σ' H' p' => ⟨min xs.length ys.length - (i + 1), by omega, rfl, hlt, p'⟩, fun x H' y => ?_⟩
    obtain ⟨pa, x, y, hn, e1, e2, y1, y2⟩ := y
    subst e1 e2
    exact hs i x y σ _ pa (y1 xs q1) (y2 ys q2) p hn
  · have e : i = min xs.length ys.length := by omega
    subst e
    exact .inl ⟨⟨xs, ys, q1, q2, by omega⟩, hd σ H p⟩
end
end L2
namespace L2
open PySem PySem.Spec PyProof.Rows
def Itb (K : PySem.W.Frag) (b : Bool) (a : Addr) : It := match b with
  | true => Itl K a
  | false => Itt K a
section
variable {X : Cx} {tg : Expr}
def iSeq (K : PySem.W.Frag) (tl : TE) : TI := fun σ H R => tl σ H fun x H1 => ∃ b a, x = .ref a ∧ (∃ xs, SqB K H1 b a xs) ∧ R (Itb K b a) H1
theorem pi_seq {l : Expr} {tl : TE} (hl : PE X l tl) : PI X tg l (iSeq X.K tl) := by
  intro pins s σ H R I h
  refine thn (hl pins s σ H _ I h) fun v s1 ⟨x, H1, I1, r1, q1⟩ => ?_
  obtain ⟨b, a, e, ⟨xs, hq⟩, q⟩ := q1
  subst e
  cases r1
  cases b with
  | true =>
    obtain ⟨its, rv, p, hz⟩ := I1.list hq
    refine wpAny_pyIter_list p.isList ?_
    refine ⟨s1.heap.objs.size, [s1.heap.objs.size], _, _, H1, rfl, I1.kept (t' := s1.toks) fun b o e => Heap.get?_push_of_some _ e, turn_list a _, ⟨_, Heap.get?_push_size _ rfl, rfl, rfl⟩, fun b hb => ?_, q⟩
    have e : b = s1.heap.objs.size := by simpa using hb
    subst e
    exact I1.fpOk (Nat.le_refl _) (I1.hok.fresh (Nat.le_refl _))
  | false =>
    obtain ⟨its, rv, p, hz⟩ := I1.tuple hq
    refine wpAny_pyIter_tuple (show s1.heap.IsTuple a its.toArray from p) ?_
    refine ⟨s1.heap.objs.size, [s1.heap.objs.size], _, _, H1, rfl, I1.kept (t' := s1.toks) fun b o e => Heap.get?_push_of_some _ e, turn_tuple a _, ⟨_, Heap.get?_push_size _ rfl, rfl, rfl⟩, fun b hb => ?_, q⟩
    have e : b = s1.heap.objs.size := by simpa using hb
    subst e
    exact I1.fpOk (Nat.le_refl _) (I1.hok.fresh (Nat.le_refl _))
end
theorem for_seq {K : PySem.W.Frag} {b : Bool} {a : Addr} {xs : List V} {g : TG} {tb : TS} {D : Ends} {σ : St} {H : Hp} (Pv : Nat → St → Hp → Prop) (h0 : Pv 0 σ H) (hl : ∀ i σ H, i ≤ xs.length → Pv i σ H → SqB K H b a xs)
    (hs : ∀ i x σ H, xs[i]? = some x → Pv i σ H → g x σ H fun σ2 H2 => tb { D with nx := Pv (i + 1), ct := Pv (i + 1), bk := D.nx } σ2 H2) (hd : ∀ σ H, Pv xs.length σ H → D.nx σ H) :
    ∃ W : Nat → Nat → St → Hp → Prop, (∃ m, W 0 m σ H) ∧ ∀ i m σ H, W i m σ H →
      ((Itb K b a).stop i H ∧ D.nx σ H) ∨ ((Itb K b a).go i H ∧ ∃ N : St → Hp → Prop, (∀ σ' H', N σ' H' → ∃ m', m' < m ∧ W (i + 1) m' σ' H') ∧ ∀ x H', (Itb K b a).yld i H x H' → g x σ H' fun σ2 H2 => tb { D with nx := N, ct := N, bk := D.nx } σ2 H2) := by
  cases b with
  | true => exact for_list (K := K) (a := a) (xs := xs) Pv h0 hl hs hd
  | false => exact for_tup (K := K) (a := a) (xs := xs) Pv h0 hl hs hd
theorem Same.seqT {K : PySem.W.Frag} {H H' : Hp} {a : Addr} {xs : List V} (e : Same H H') (h : SqT K H a xs) : SqT K H' a xs := by
  rcases h with (h | ⟨o, h⟩) | h
  · exact .inl (.inl (e _ _ h))
  · exact .inl (.inr ⟨o, e _ _ h⟩)
  · exact .inr h
theorem Same.seqB {K : PySem.W.Frag} {H H' : Hp} {b : Bool} {a : Addr} {xs : List V} (e : Same H H') (h : SqB K H b a xs) : SqB K H' b a xs := by
  cases b with
  | true => exact e.seq h
  | false => exact e.seqT h
section
theorem comp_seq {K : PySem.W.Frag} {b : Bool} {a : Addr} {xs : List V} {g : TG} {te : TE} {R : Hp → Prop} {σ : St} {H : Hp} {D : Addr} (Pv : Nat → St → Hp → Prop) (h0 : Pv 0 σ H) (hl : ∀ i σ H, i ≤ xs.length → Pv i σ H → SqB K H b a xs)
    (hs : ∀ i x σ H, xs[i]? = some x → Pv i σ H → g x σ H fun σ2 H2 => te σ2 H2 fun y H4 => ∃ ys, H4 D = some (.lst ys) ∧ ys.length < sizeLine ∧ Pv (i + 1) σ2 (upd H4 D (.lst (ys ++ [y])))) (hd : ∀ σ H, Pv xs.length σ H → R H) :
    ∃ W : Nat → Nat → St → Hp → Prop, (∃ m, W 0 m σ H) ∧ ∀ i m σ' H', W i m σ' H' →
    ((Itb K b a).stop i H' ∧ R H') ∨ ((Itb K b a).go i H' ∧ ∃ N : St → Hp → Prop, (∀ σ'' H'', N σ'' H'' → ∃ m', m' < m ∧ W (i + 1) m' σ'' H'') ∧
      ∀ x H2, (Itb K b a).yld i H' x H2 → g x σ' H2 fun σ2 H3 => te σ2 H3 fun y H4 => ∃ ys, H4 D = some (.lst ys) ∧ ys.length < sizeLine ∧ N σ2 (upd H4 D (.lst (ys ++ [y])))) := by
  refine ⟨fun i m σ H => m = xs.length - i ∧ i ≤ xs.length ∧ Pv i σ H, ⟨xs.length, by simp, Nat.zero_le _, h0⟩, ?_⟩
  rintro i m σ H ⟨rfl, hi, p⟩
  have q := hl i σ H hi p
  by_cases hlt : i < xs.length
  · cases b with
    | true =>
      refine .inr ⟨⟨xs, xs[i], q, by simp [hlt]⟩, Pv (i + 1), fun σ' H' p' => ⟨xs.length - (i + 1), by omega, rfl, hlt, p'⟩, fun x H' y => ?_⟩
      obtain ⟨e, y⟩ := y
      subst e
      exact hs i x σ _ (y xs q) p
    | false =>
      refine .inr ⟨⟨xs, xs[i], q, by simp [hlt]⟩, Pv (i + 1), fun σ' H' p' => ⟨xs.length - (i + 1), by omega, rfl, hlt, p'⟩, fun x H' y => ?_⟩
      obtain ⟨e, y⟩ := y
      subst e
      exact hs i x σ _ (y xs q) p
  · have e : i = xs.length := by omega
    subst e
    cases b with
    | true => exact .inl ⟨⟨xs, q, Nat.le_refl _⟩, hd σ H p⟩
    | false => exact .inl ⟨⟨xs, q, Nat.le_refl _⟩, hd σ H p⟩
theorem comp_zip {K : PySem.W.Frag} {b1 b2 : Bool} {a1 a2 : Addr} {xs ys : List V} {g : TG} {te : TE} {R : Hp → Prop} {σ : St} {H : Hp} {D : Addr} (Pv : Nat → St → Hp → Prop) (h0 : Pv 0 σ H)
    (hl : ∀ i σ H, i ≤ min xs.length ys.length → Pv i σ H → SqB K H b1 a1 xs ∧ SqB K H b2 a2 ys)
    (hs : ∀ i x y σ H p, xs[i]? = some x → ys[i]? = some y → Pv i σ H → H p = none → g (.ref p) σ (upd H p (.tup [x, y])) fun σ2 H2 => te σ2 H2 fun y H4 => ∃ ys, H4 D = some (.lst ys) ∧ ys.length < sizeLine ∧ Pv (i + 1) σ2 (upd H4 D (.lst (ys ++ [y])))) (hd : ∀ σ H, Pv (min xs.length ys.length) σ H → R H) :
    ∃ W : Nat → Nat → St → Hp → Prop, (∃ m, W 0 m σ H) ∧ ∀ i m σ' H', W i m σ' H' →
    ((Itz K b1 b2 a1 a2).stop i H' ∧ R H') ∨ ((Itz K b1 b2 a1 a2).go i H' ∧ ∃ N : St → Hp → Prop, (∀ σ'' H'', N σ'' H'' → ∃ m', m' < m ∧ W (i + 1) m' σ'' H'') ∧
      ∀ x H2, (Itz K b1 b2 a1 a2).yld i H' x H2 → g x σ' H2 fun σ2 H3 => te σ2 H3 fun y H4 => ∃ ys, H4 D = some (.lst ys) ∧ ys.length < sizeLine ∧ N σ2 (upd H4 D (.lst (ys ++ [y])))) := by
  refine ⟨fun i m σ H => m = min xs.length ys.length - i ∧ i ≤ min xs.length ys.length ∧ Pv i σ H, ⟨min xs.length ys.length, by simp, Nat.zero_le _, h0⟩, ?_⟩
  rintro i m σ H ⟨rfl, hi, p⟩
  obtain ⟨q1, q2⟩ := hl i σ H hi p
  by_cases hlt : i < min xs.length ys.length
  · have h1 : i < xs.length := by omega
    have h2 : i < ys.length := by omega
    refine .inr ⟨⟨xs, ys, xs[i], ys[i], q1, q2, by simp [h1], by simp [h2]⟩, Pv (i + 1), fun σ' H' p' => ⟨min xs.length ys.length - (i + 1), by omega, rfl, hlt, p'⟩, fun x H' y => ?_⟩
    obtain ⟨pa, x, y, hn, e1, e2, y1, y2⟩ := y
    subst e1 e2
    exact hs i x y σ _ pa (y1 xs q1) (y2 ys q2) p hn
  · have e : i = min xs.length ys.length := by omega
    subst e
    exact .inl ⟨⟨xs, ys, q1, q2, by omega⟩, hd σ H p⟩
end
section
variable {X : Cx}
end
end L2
namespace L2
open PySem PySem.Spec PyProof.Rows
open PySem.SeqAt (shaped noMix noMixAll)
theorem comp_range {lo : Int} {n : Nat} {g : TG} {te : TE} {R : Hp → Prop} {σ : St} {H : Hp} {D : Addr} (Pv : Nat → St → Hp → Prop) (h0 : Pv 0 σ H)
    (hs : ∀ i σ H, i < n → Pv i σ H → g (.int (lo + i)) σ H fun σ2 H2 => te σ2 H2 fun y H4 => ∃ ys, H4 D = some (.lst ys) ∧ ys.length < sizeLine ∧ Pv (i + 1) σ2 (upd H4 D (.lst (ys ++ [y])))) (hd : ∀ σ H, Pv n σ H → R H) :
    ∃ W : Nat → Nat → St → Hp → Prop, (∃ m, W 0 m σ H) ∧ ∀ i m σ' H', W i m σ' H' →
    ((Itr lo n).stop i H' ∧ R H') ∨ ((Itr lo n).go i H' ∧ ∃ N : St → Hp → Prop, (∀ σ'' H'', N σ'' H'' → ∃ m', m' < m ∧ W (i + 1) m' σ'' H'') ∧
      ∀ x H2, (Itr lo n).yld i H' x H2 → g x σ' H2 fun σ2 H3 => te σ2 H3 fun y H4 => ∃ ys, H4 D = some (.lst ys) ∧ ys.length < sizeLine ∧ N σ2 (upd H4 D (.lst (ys ++ [y])))) := by
  refine ⟨fun i m σ H => m = n - i ∧ i ≤ n ∧ Pv i σ H, ⟨n, by simp, Nat.zero_le _, h0⟩, ?_⟩
  rintro i m σ H ⟨rfl, hi, p⟩
  by_cases hlt : i < n
  · refine .inr ⟨hlt, Pv (i + 1), fun σ' H' p' => ⟨n - (i + 1), by omega, rfl, hlt, p'⟩, fun x H' y => ?_⟩
    obtain ⟨e, y⟩ := y
    subst e y
    exact hs i σ _ hlt p
  · have e : i = n := by omega
    subst e
    exact .inl ⟨Nat.le_refl _, hd σ H p⟩
section
variable {X : Cx}
end
end L2
namespace L2
open PySem PySem.Spec PyProof.Rows
open PySem.SeqAt (shaped noMix noMixAll)
section
variable {X : Cx} {pins : List (Addr × Obj)} {σ : St} {H : Hp} {s : Shared}
theorem kitx_at {x : V} {u t : Value} (I : Inv X pins σ H s) (rx : RelV x u) (ty : TyOf X.K H x t) : ∃ HH : Heap → Prop, PySem.W.KitX X.K u t HH ∧ HH s.heap ∧ u ≠ .builtin "__main__.__loader__#opaque" := by
  cases ty with
  | non => cases (show u = Value.none from rx); exact ⟨_, PySem.W.kitx_none, True.intro, fun z => nomatch z⟩
  | bl y => cases (show u = Value.bool y from rx); exact ⟨_, PySem.W.kitx_bool, True.intro, fun z => nomatch z⟩
  | int i => obtain ⟨t, q⟩ := (show ∃ t, u = Value.int i t from rx); cases q; exact ⟨_, PySem.W.kitx_int, True.intro, fun z => nomatch z⟩
  | str y => obtain ⟨t, q⟩ := (show ∃ t, u = Value.str y t from rx); cases q; exact ⟨_, PySem.W.kitx_str, True.intro, fun z => nomatch z⟩
  | flt y => obtain ⟨t, q⟩ := (show ∃ t, u = Value.float y t from rx); cases q; exact ⟨_, PySem.W.kitx_float, True.intro, fun z => nomatch z⟩
  | @lst a xs ea =>
    cases (show u = Value.ref a from rx)
    obtain ⟨_, _, n, _, h1⟩ := (show ObjOk X.prog X.w H s.heap a (.lst xs) from I.hok a _ ea)
    exact ⟨_, PySem.W.kitx_list, ⟨_, h1, rfl⟩, fun z => nomatch z⟩
  | @frz a ob xs ea =>
    cases (show u = Value.ref a from rx)
    obtain ⟨_, _, _, n, _, h1⟩ := (show ObjOk X.prog X.w H s.heap a (.frz ob (.lst xs)) from I.hok a _ ea)
    exact ⟨_, PySem.W.kitx_list, ⟨_, h1, rfl⟩, fun z => nomatch z⟩
  | @tup a xs ea =>
    cases (show u = Value.ref a from rx)
    obtain ⟨_, _, _, o, h1, h2, _⟩ := (show ObjOk X.prog X.w H s.heap a (.tup xs) from I.hok a _ ea)
    exact ⟨_, PySem.W.kitx_tuple, ⟨o, h1, h2⟩, fun z => nomatch z⟩
  | @dK a kvs ea =>
    cases (show u = Value.ref a from rx)
    obtain ⟨_, _, vs, _, o, es, ep, h1, h2, _⟩ := (show ObjOk X.prog X.w H s.heap a (.dK kvs) from I.hok a _ ea)
    exact ⟨_, PySem.W.kitx_dict, ⟨o, h1, h2.1⟩, fun z => nomatch z⟩
  | @dT a kvs ea =>
    cases (show u = Value.ref a from rx)
    obtain ⟨_, _, xs, _, o, es, ep, h1, h2, _⟩ := (show ObjOk X.prog X.w H s.heap a (.dT kvs) from I.hok a _ ea)
    exact ⟨_, PySem.W.kitx_dict, ⟨o, h1, h2.1⟩, fun z => nomatch z⟩
  | @ins a C dx fs ea cl ha hn htk hm =>
    cases (show u = Value.ref a from rx)
    obtain ⟨mA, O, _⟩ := ins_get I.hok ea
    obtain ⟨od, J, _⟩ := O.look
    exact ⟨_, PySem.W.kitx_own (cl.get _) cl.hd ha hn htk hm, J, fun z => nomatch z⟩
end
section
variable {X : Cx}
def rIsTT (K : PySem.W.Frag) : List V → Hp → VK → Prop := fun xs H Q => ∃ (x : V) (tp : Addr) (Ts : List String) (t : Value) (b : Bool), xs = [x, .ref tp] ∧ H tp = some (.tup (Ts.map V.ty)) ∧ TyOf K H x t ∧ PySem.W.kitAny K t (Ts.map Value.type) = some b ∧ Q (.bl b) H
theorem vals_ty : ∀ {Ts : List String} {us : List Value}, Vals (Ts.map V.ty) us → us = Ts.map Value.type
  | [], us, r => by rw [List.map_nil] at r; cases r; rfl
  | T :: Ts, us, r => by
    rw [List.map_cons] at r
    cases r with
    | cons r1 r2 =>
      cases (show _ = Value.type T from r1)
      rw [vals_ty r2]
      rfl
theorem call_isTT : CallR X (.builtin "isinstance") (rIsTT X.K) := by
  intro pins s σ H xs us Q I r h
  obtain ⟨x, tp, Ts, t, b, rfl, htp, ty, e, q⟩ := h
  cases r with
  | cons r1 r2 =>
    cases r2 with
    | cons r3 r4 =>
      cases r4
      cases (show _ = Value.ref tp from r3)
      obtain ⟨HH, Z, p, ne⟩ := kitx_at I r1 ty
      obtain ⟨_, its, rv, o, h1, h2, n, h3⟩ := (show ObjOk X.prog X.w H s.heap tp (.tup (Ts.map V.ty)) from I.hok tp _ htp)
      have ei := vals_ty rv
      subst ei
      obtain ⟨cls, dd, data, sl⟩ := o
      dsimp only at h2 h3
      subst h2 h3
      exact PySem.W.kia_tup Z I.kIn p h1 e ne fun tk => ⟨.bl b, H, I.tok tk, rfl, q⟩
theorem vals_bl : ∀ {bs : List Bool} {us : List Value}, Vals (bs.map V.bl) us → us = bs.map Value.bool
  | [], us, r => by rw [List.map_nil] at r; cases r; rfl
  | b :: bs, us, r => by
    rw [List.map_cons] at r
    cases r with
    | cons r1 r2 =>
      cases (show _ = Value.bool b from r1)
      rw [vals_bl r2]
      rfl
theorem bt_all : bootBuiltins "all" = some (.builtin "all") := by decide +kernel
theorem call_allB (hc : X.calm = true) : CallR X (.builtin "all") (fun xs H Q => ∃ (a : Addr) (bs : List Bool), xs = [.ref a] ∧ SqL X.K H a (bs.map V.bl) ∧ Q (.bl (bs.all id)) H) := by
  intro pins s σ H xs us Q I r h
  obtain ⟨a, bs, rfl, hq, q⟩ := h
  cases r with
  | cons r1 r2 =>
    cases r2
    cases (show _ = Value.ref a from r1)
    obtain ⟨its, rv, p, hz⟩ := I.list hq
    have ei := vals_bl rv
    subst ei
    have hl := p.isList
    have hlt : a < s.heap.objs.size := by obtain ⟨_, e, _⟩ := hl; exact Heap.lt_size e
    refine call_all_walk (wpAny_pyIter_list hl ?_)
    refine ⟨s.heap.objs.size, [s.heap.objs.size, a], [s.heap.objs.size], (bs.map Value.bool).toArray.size, _, _, fun i => (bs[i]?).getD true, rfl, Walks.list (A := X.A.in1) (I.ok.hd hc) _ a (Nat.ne_of_lt hlt) (bs.map Value.bool).toArray,
      ⟨⟨_, Heap.get?_push_size _ rfl, rfl, rfl⟩, hl.push _⟩, fun i v s' Q' E' hP hQ => ?_, fun h' tk hk => ?_⟩
    · have hP' : (bs.map Value.bool)[i]? = some v := by simpa using hP
      rw [List.getElem?_map] at hP'
      obtain ⟨b, e1, e2⟩ := Option.map_eq_some_iff.mp hP'
      subst e2
      simp only [e1, Option.getD_some] at hQ
      exact wpAny_truthy_bool hQ
    · have e : ((List.range (bs.map Value.bool).toArray.size).all fun i => (bs[i]?).getD true) = bs.all id := by
        rw [List.size_toArray, List.length_map]
        rw [Bool.eq_iff_iff, List.all_eq_true, List.all_eq_true]
        constructor
        · intro h b hb
          obtain ⟨i, hi, e⟩ := List.getElem_of_mem hb
          have := h i (List.mem_range.mpr hi)
          simp only [List.getElem?_eq_getElem hi, Option.getD_some, e] at this
          exact this
        · intro h i hi
          have hi' := List.mem_range.mp hi
          simp only [List.getElem?_eq_getElem hi', Option.getD_some]
          exact h _ (List.getElem_mem hi')
      rw [e]
      refine ⟨.bl _, H, I.kept (t' := tk) (fun b x e => ?_), rfl, q⟩
      exact hk b x (fun hm => by rw [List.mem_singleton.mp hm] at e; exact Nat.lt_irrefl _ (Heap.lt_size e)) (Heap.get?_push_of_some _ e)
theorem readsAll_ints {h : Heap} : ∀ {ns : List Int} {us : List Value}, Vals (ns.map V.int) us → ReadsAll h us (ns.map PyData.int) []
  | [], us, r => by rw [List.map_nil] at r; cases r; exact .nil
  | b :: bs, us, r => by
    rw [List.map_cons] at r
    cases r with
    | cons r1 r2 =>
      obtain ⟨t, e⟩ := (show ∃ t, _ = Value.int b t from r1)
      subst e
      exact .cons (as := []) (.int b t) (readsAll_ints r2)
theorem canLay_intsV : ∀ bs : List Int, PyData.canLayAll0 (bs.map PyData.int) = true
  | [] => by simp [PyData.canLayAll0]
  | n :: r => by simp [PyData.canLayAll0, PyData.canLay0, canLay_intsV r]
theorem depth_intsV : ∀ bs : List Int, PyData.depthAll (bs.map PyData.int) ≤ 1
  | [] => by simp [PyData.depthAll]
  | n :: r => by have := depth_intsV r; simp [PyData.depthAll, PyData.depth]; omega
theorem shaped_intsT (bs : List Int) : shaped (.tuple (bs.map PyData.int)) = true := by
  have h1 := depth_intsV bs
  have h2 : PyData.depth (.tuple (bs.map PyData.int)) ≤ 64 := by simp only [PyData.depth]; omega
  show (PyData.canLay0 (.tuple (bs.map PyData.int)) && decide (PyData.depth (.tuple (bs.map PyData.int)) ≤ 64)) = true
  rw [Bool.and_eq_true]
  exact ⟨by simp only [PyData.canLay0]; exact canLay_intsV bs, decide_eq_true h2⟩
theorem noMix_intsV : ∀ ns ms : List Int, noMixAll (ns.map PyData.int) (ms.map PyData.int) = true
  | [], [] => by simp [noMixAll]
  | [], _ :: _ => by simp [noMixAll]
  | _ :: _, [] => by simp [noMixAll]
  | _ :: r, _ :: q => by simp [noMixAll, noMix, noMix_intsV r q]
theorem same_intsV : ∀ ns ms : List Int, PySem.Spec.sameAll (ns.map PyData.int) (ms.map PyData.int) = decide (ns = ms)
  | [], [] => by simp [PySem.Spec.sameAll]
  | [], _ :: _ => by simp [PySem.Spec.sameAll]
  | _ :: _, [] => by simp [PySem.Spec.sameAll]
  | n :: r, k :: q => by
    simp only [List.map_cons, PySem.Spec.sameAll, PySem.Spec.same, same_intsV r q]
    by_cases h : n = k <;> simp [h]
def rEqT (K : PySem.W.Frag) (neg : Bool) : R2 := fun x y H Q => ∃ (a b : Addr) (ns ms : List Int), x = .ref a ∧ y = .ref b ∧ SqT K H a (ns.map V.int) ∧ SqT K H b (ms.map V.int) ∧ Q (.bl (if neg then !decide (ns = ms) else decide (ns = ms))) H
theorem op_neT (hu : X.A.units + 64 < cLine) : OpR X (compareOp .NotEq) (rEqT X.K true) := by
  intro pins s σ H x y v u Q I rx ry h
  obtain ⟨a, b, ns, ms, rfl, rfl, hq1, hq2, q⟩ := h
  cases rx
  cases ry
  obtain ⟨its1, r1, ⟨o1, ho1, hc1, n1, hd1⟩, _⟩ := I.tuple hq1
  obtain ⟨its2, r2, ⟨o2, ho2, hc2, n2, hd2⟩, _⟩ := I.tuple hq2
  refine ne_dataH_same (Reads.tuple ho1 hc1 hd1 (by simpa using readsAll_ints r1)) (Reads.tuple ho2 hc2 hd2 (by simpa using readsAll_ints r2)) (shaped_intsT ns) (shaped_intsT ms) hu (by simp only [noMix]; exact noMix_intsV ns ms) ?_
  simp only [PySem.Spec.same]
  rw [same_intsV]
  exact fin_bl I q rfl
theorem op_eqT (hu : X.A.units + 64 < cLine) : OpR X (compareOp .Eq) (rEqT X.K false) := by
  intro pins s σ H x y v u Q I rx ry h
  obtain ⟨a, b, ns, ms, rfl, rfl, hq1, hq2, q⟩ := h
  cases rx
  cases ry
  obtain ⟨its1, r1, ⟨o1, ho1, hc1, n1, hd1⟩, _⟩ := I.tuple hq1
  obtain ⟨its2, r2, ⟨o2, ho2, hc2, n2, hd2⟩, _⟩ := I.tuple hq2
  refine eq_dataH_same (Reads.tuple ho1 hc1 hd1 (by simpa using readsAll_ints r1)) (Reads.tuple ho2 hc2 hd2 (by simpa using readsAll_ints r2)) (shaped_intsT ns) (shaped_intsT ms) hu (by simp only [noMix]; exact noMix_intsV ns ms) ?_
  simp only [PySem.Spec.same]
  rw [same_intsV]
  exact fin_bl I q rfl
end
end L2
namespace L2
open PySem PySem.Spec PyProof.Rows
open PySem.MeetsSeq PySem.MeetsSeq2 PySem.MeetsSeq3
theorem noFill_tuple_mul : fillsNumberSlot (.type "tuple") "mul" = pure false :=
  PySem.fillsNumberSlot_seq (id := "tuple.__mul__") (r := some (.builtin "tuple.__rmul__")) F.slot_tuple_mul.lookup (by decide +kernel) F.slot_tuple_rmul.lookup (by decide +kernel)
theorem repeat_tuple : seqRepeat? (.type "tuple") = pure (some (.builtin "tuple.__mul__")) := by
  unfold seqRepeat?
  rw [PySem.seqSlot_of (T := "tuple") (name := "__mul__") (id := "tuple.__mul__") F.slot_tuple_mul.lookup (by decide +kernel), PySem.seqSlot_of (T := "tuple") (name := "__rmul__") (id := "tuple.__rmul__") F.slot_tuple_rmul.lookup (by decide +kernel)]
  rfl
theorem rmul_int_tup (a : Int) (t : Tok) (l : Addr) (items : Array Value) (n : Nat) (dd : Option Addr) (sl : Array (Option Value)) :
    Meets (Builtin.«int.__rmul__» ⟨[.int a t, .ref l], []⟩) (fun _ R s => s.heap.get? l = some ⟨.type "tuple", dd, .seq items n, sl⟩ ∧ R (.ok (.ret Value.notImplemented)) s) :=
  .of_wp fun prog w A R s h => by obtain ⟨hp, g, d, tk, os⟩ := s; obtain ⟨hl, h⟩ := h; wp_walk; exact ⟨_, rfl, h⟩
theorem tup_mul_1 (l : Addr) (items : Array Value) (n : Nat) (dd : Option Addr) (sl : Array (Option Value)) (u : Tok) :
    Meets (Builtin.«tuple.__mul__» ⟨[.ref l, .int 1 u], []⟩) (fun _ R s => s.heap.get? l = some ⟨.type "tuple", dd, .seq items n, sl⟩ ∧ R (.ok (.ret (.ref l))) s) :=
  .of_wp fun prog w A R s h => by
    obtain ⟨hp, g, d, tk, os⟩ := s; obtain ⟨hl, h⟩ := h; have f1 := AutoSeq1.idx_int; have f2 := AutoSeq1.sub_tuple_tuple
    wp_walk using AutoSeq1.wpAny_loadPart' hl
    exact ⟨_, rfl, h⟩
theorem tup_mul_n (l : Addr) (items : Array Value) (n : Nat) (dd : Option Addr) (sl : Array (Option Value)) (x : Int) (u : Tok) (c0 : ¬ (decide (x < -2 ^ 63) || decide (x ≥ 2 ^ 63)) = true) (c1 : ¬ (items.isEmpty || x == 1) = true) (c2 : ¬ (decide (x ≤ 0) || items.isEmpty) = true)
    (c3 : ¬ (items.size : Int) * x > (2 ^ 63 - 1) / 8) (c4 : ¬ Builtin.Tuple.tupleTooMany ((items.size : Int) * x) = true) (hsz : (List.foldl (fun x1 x2 => x1 ++ x2) #[] (List.replicate x.toNat items)).size ≤ sizeLine) :
    Meets (Builtin.«tuple.__mul__» ⟨[.ref l, .int x u], []⟩) (fun _ R s => s.heap.get? l = some ⟨.type "tuple", dd, .seq items n, sl⟩ ∧ R (.ok (.ret (.ref s.heap.objs.size))) { s with heap := s.heap.push { cls := .type "tuple", data := .seq (List.foldl (fun x1 x2 => x1 ++ x2) #[] (List.replicate x.toNat items)) }, toks := s.toks }) :=
  .of_wp fun prog w A R s h => by
    obtain ⟨hp, g, d, tk, os⟩ := s; obtain ⟨hl, h⟩ := h; have f1 := AutoSeq1.idx_int; have f2 := AutoSeq1.sub_tuple_tuple
    wp_walk using AutoSeq1.wpAny_loadPart' hl
    refine wpAny_ite_false (decide_eq_false c0) ?_; wp_walk using AutoSeq1.wpAny_loadPart' hl
    refine wpAny_ite_false (decide_eq_false c3) ?_; wp_walk using AutoSeq1.wpAny_loadPart' hl
    exact ⟨_, rfl, h⟩
theorem tup_mul_0 (l : Addr) (items : Array Value) (n : Nat) (dd : Option Addr) (sl : Array (Option Value)) (x : Int) (u : Tok) (c0 : ¬ (decide (x < -2 ^ 63) || decide (x ≥ 2 ^ 63)) = true) (c1 : ¬ (items.isEmpty || x == 1) = true) (c2 : (decide (x ≤ 0) || items.isEmpty) = true) :
    Meets (Builtin.«tuple.__mul__» ⟨[.ref l, .int x u], []⟩) (fun _ R s => s.heap.get? l = some ⟨.type "tuple", dd, .seq items n, sl⟩ ∧ R (.ok (.ret (.ref s.heap.objs.size))) { s with heap := s.heap.push { cls := .type "tuple", data := .seq #[] }, toks := s.toks }) :=
  .of_wp fun prog w A R s h => by
    obtain ⟨hp, g, d, tk, os⟩ := s; obtain ⟨hl, h⟩ := h; have f1 := AutoSeq1.idx_int; have f2 := AutoSeq1.sub_tuple_tuple
    wp_walk using AutoSeq1.wpAny_loadPart' hl
    refine wpAny_ite_false (decide_eq_false c0) ?_; wp_walk using AutoSeq1.wpAny_loadPart' hl
    exact ⟨_, rfl, h⟩
section
variable {X : Cx}
def rRepT (K : PySem.W.Frag) : R2 := fun x y H Q => ∃ a k xs, x = .ref a ∧ y = .int k ∧ SqT K H a xs ∧ xs ≠ [] ∧ -(2 ^ 63) ≤ k ∧ k < 2 ^ 63 ∧ xs.length * k.toNat ≤ sizeLine ∧ (k = 1 → Q (.ref a) H) ∧ (k ≠ 1 → ∀ p, H p = none → Q (.ref p) (upd H p (.tup (List.replicate k.toNat xs).flatten)))
theorem op_repT : OpR X (binaryOp .Mult) (rRepT X.K) := by
  intro pins s σ H x y v u Q I rx ry h
  obtain ⟨a, k, xs, rfl, rfl, hq, hne, h1, h2, hz, q1, q2⟩ := h
  cases rx
  obtain ⟨t, rfl⟩ := ry
  obtain ⟨its, r, ⟨o, e, hc, n, hd⟩, _⟩ := I.tuple hq
  obtain ⟨cls, dd, data, sl⟩ := o
  dsimp only at hc hd
  subst hc hd
  have hl := r.length
  refine wpAny_binaryOp_repeat_ref (T := "tuple") (U := "int") (by decide) ⟨_, e, rfl⟩ (fun s' => typeIs_int s' k t) noFill_tuple_mul F.fills_int_mul F.slot_int_rmul repeat_tuple F.slot_int_index.lookup
    (call_meets F.slot_int_rmul (typeIs_int s k t) F.entry_int_rmul (F.args_int_rmul_2 _ _) (rmul_int_tup k t a its.toArray n dd sl) ⟨e, rfl, ⟨_, e, rfl⟩, ?_⟩)
  by_cases hk1 : k = 1
  · subst hk1
    exact call_meets F.slot_tuple_mul ⟨_, e, rfl⟩ F.entry_tuple_mul (F.args_tuple_mul_2 _ _) (tup_mul_1 a its.toArray n dd sl t) ⟨e, ⟨.ref a, H, I, rfl, q1 rfl⟩⟩
  · have hb1 : (k == 1) = false := by simpa using hk1
    have hni : its ≠ [] := fun z => hne (r.nil_iff.mp z)
    have hie : its.toArray.isEmpty = false := by cases its with | nil => exact absurd rfl hni | cons _ _ => rfl
    have c0 : ¬ (decide (k < -2 ^ 63) || decide (k ≥ 2 ^ 63)) = true := by simp; omega
    have c1 : ¬ (its.toArray.isEmpty || k == 1) = true := by rw [hie, hb1]; simp
    have fin : ∀ ys, ys = (List.replicate k.toNat its).flatten.toArray → EP X pins σ Q (.ref s.heap.objs.size) { s with heap := s.heap.push { cls := .type "tuple", data := .seq ys }, toks := s.toks } := fun ys ey => by
      subst ey
      refine ⟨.ref s.heap.objs.size, _, I.laid (t' := s.toks) (o := .tup (List.replicate k.toNat xs).flatten) (fun b ob q => Heap.get?_push_of_some _ q) (Nat.le_refl _) ?_, rfl, q2 hk1 _ (I.hok.fresh (Nat.le_refl _))⟩
      exact ⟨by rw [len_rep, Nat.mul_comm]; exact hz, _, r.rep k.toNat, IsTup.new _ _⟩
    have hnew : List.foldl (fun x1 x2 => x1 ++ x2) #[] (List.replicate k.toNat its.toArray) = (List.replicate k.toNat its).flatten.toArray := by
      have := foldl_rep its k.toNat []
      rw [List.nil_append] at this
      exact this
    by_cases hk0 : k ≤ 0
    · have c2 : (decide (k ≤ 0) || its.toArray.isEmpty) = true := by rw [decide_eq_true hk0]; rfl
      refine call_meets F.slot_tuple_mul ⟨_, e, rfl⟩ F.entry_tuple_mul (F.args_tuple_mul_2 _ _) (tup_mul_0 a its.toArray n dd sl k t c0 c1 c2) ⟨e, fin _ ?_⟩
      rw [show k.toNat = 0 by omega]
      rfl
    · have c2 : ¬ (decide (k ≤ 0) || its.toArray.isEmpty) = true := by rw [decide_eq_false hk0, hie]; simp
      have em : ((its.toArray.size : Nat) : Int) * k = ((xs.length * k.toNat : Nat) : Int) := by
        rw [List.size_toArray, ← hl, Int.natCast_mul, Int.toNat_of_nonneg (by omega)]
      have hs : (sizeLine : Int) ≤ (2 ^ 63 - 1) / 8 := by decide
      refine call_meets F.slot_tuple_mul ⟨_, e, rfl⟩ F.entry_tuple_mul (F.args_tuple_mul_2 _ _) (tup_mul_n a its.toArray n dd sl k t c0 c1 c2 ?_ ?_ ?_) ⟨e, fin _ hnew⟩
      · rw [em]; omega
      · rw [em]
        unfold Builtin.Tuple.tupleTooMany
        simp only [decide_eq_true_eq]
        omega
      · rw [hnew, List.size_toArray, len_rep, Nat.mul_comm, ← hl]
        exact hz
end
end L2
namespace L2
open PySem PySem.Spec PyProof.Rows
structure FunD (K : PySem.W.Frag) (x qual : Str) (st : Stmt) (dv : Value) (f : Addr) (fd : FuncData) : Prop where
  ex : ∃ (oc : Value) (od : Option Addr) (kV doc pm : Value) (an : Option Addr) (cdv ct : Value) (osl : Array (Option Value)),
    fd = PySem.W.fnOf x qual (defArgs st) (defBody st) (defScope st) dv kV doc pm an cdv ct ∧ K.lookup f = some ⟨oc, od, .func fd, osl⟩ ∧ PySem.W.codeIn K cdv qual = true
  kp : PySem.W.keepIn K (.ref f) = true
section
variable {P : Program} {w : World} {K : PySem.W.Frag} {mg : Str → Option Value} {base : Heap}
theorem FunD.ok {x qual : Str} {st : Stmt} {dv : Value} {f : Addr} {fd : FuncData} {N ps : List Str} {k : Nat} {sp : Sp} (F : FunD K x qual st dv f fd) (S : FnScope N ps (defScope st)) (len : ∀ vs H Q E, sp vs H Q E → vs.length = ps.length)
    (hbody : ∀ (cdv : Value) (A : Around) (outer : List Env) (s : Shared) (H : Hp) (vs : List V) (Q : VK) (E : XK), Room k (A.deeper (envOfC qual (defScope st) s.heap.objs.size f cdv)) → sp vs H Q E →
      ∃ t, PSs (cxOf CX0 P w K mg base N qual (defScope st) f cdv A outer s H E).nox (defBody st) t ∧ t { nx := fun _ H' => Q .non H', rt := Q } (start N vs) H) : FnOk P w K mg base CX0 (k + 1) f fd ps sp := by
  obtain ⟨oc, od, kV, doc, pm, an, cdv, ct, osl, rfl, lk, hcd⟩ := F.ex
  refine fn_of lk hcd S len fun A outer s H vs Q E hr hsp => ?_
  obtain ⟨t, h, q⟩ := hbody cdv A outer s H vs Q E hr hsp
  exact ⟨t, h.nox, q⟩
theorem FunD.binds {x qual : Str} {st : Stmt} {T : Addr} {o : Obj} {items : Array Value} {n : Nat} {f : Addr} {fd : FuncData} {ps : List Str} {ds : List Value} (F : FunD K x qual st (.ref T) f fd) (ho : K.lookup T = some o) (hs : o.data = .seq items n)
    (h : ∀ (kV doc pm : Value) (an : Option Addr) (cdv ct : Value) (us : List Value), (us ++ ds).length = ps.length → ∃ k, bindArgs (PySem.W.fnOf x qual (defArgs st) (defBody st) (defScope st) (.ref T) kV doc pm an cdv ct) ⟨us, []⟩ = seqItems? (.ref T) >>= k ∧ k (some items) = pure (ps.zip (us ++ ds))) : Binds K fd ps ds := by
  obtain ⟨oc, od, kV, doc, pm, an, cdv, ct, osl, rfl, lk, hcd⟩ := F.ex
  intro s us X hl
  obtain ⟨k, h1, h2⟩ := h kV doc pm an cdv ct us hl
  exact BindsTo.of_defaults rfl (X _ _ ho) hs h1 h2
theorem fund_mk {x qual : Str} {st : Stmt} {dv : Value} {f : Addr} {oc : Value} {od an : Option Addr} {osl : Array (Option Value)} {kV doc pm cdv ct : Value} (l : K.lookup f = some ⟨oc, od, .func (PySem.W.fnOf x qual (defArgs st) (defBody st) (defScope st) dv kV doc pm an cdv ct), osl⟩)
    (c : PySem.W.codeIn K cdv qual = true) (k : PySem.W.keepIn K (.ref f) = true) : FunD K x qual st dv f (PySem.W.fnOf x qual (defArgs st) (defBody st) (defScope st) dv kV doc pm an cdv ct) := ⟨⟨oc, od, kV, doc, pm, an, cdv, ct, osl, rfl, l, c⟩, k⟩
end
theorem pe_gi {X : Cx} {x : Str} {v : V} {pos : Pos} (hg : Gl X x) (hm : ∃ u, X.mg x = some u ∧ RelV v u) (hd : (x == ("__debug__" : Str)) = false := by decide) : PE X (.Name x pos) (tC v) := by
  obtain ⟨u, h1, h2⟩ := hm
  exact pe_glob hg h1 h2 hd
theorem bt_max : bootBuiltins "max" = some (.builtin "max") := by decide +kernel
theorem bt_min : bootBuiltins "min" = some (.builtin "min") := by decide +kernel
theorem kit_lt1 (K : PySem.W.Frag) : PySem.W.kitAny K (.type "list") (["list", "tuple"].map Value.type) = some true := by
  unfold PySem.W.kitAny PySem.W.kitOne
  simp
theorem SqB.ofL {K : PySem.W.Frag} {H : Hp} {a : Addr} {xs : List V} (h : H a = some (.lst xs)) : SqB K H true a xs := SqL.of h
theorem SqB.ofT {K : PySem.W.Frag} {H : Hp} {a : Addr} {xs : List V} (h : H a = some (.tup xs)) : SqB K H false a xs := SqT.of h
end L2
namespace L2
open PySem PySem.Spec PyProof.Rows
theorem ps_setC {X : Cx} {tg elt iter : Expr} {scope : Scope} {cl : List (Str × Addr)} {pos spos py : Pos} {i : Nat} {y : Str} {wi : TI} {g : TG} {te : TE} {ts fs : List Str} {js : List Nat} (hN : X.N.Nodup) (hiy : X.N[i]? = some y) (hy : Loc X.env.scope y) (hcalm : X.calm = true)
    (hclos : closureFor scope X.env = pure cl) (hk : scope.kind = .function) (nc : noCell scope.names = true) (lo : locOnce scope.names = true) (fh : freeHas cl scope.names = true) (ag : Agrees X cl) (fr : Frees X scope cl fs js)
    (hi : PI X tg iter wi) (hg : ∀ C s₀ H₀ ex pins, PG (cxc X scope cl (ts ++ fs) C s₀ H₀ ex pins) tg g) (he : ∀ C s₀ H₀ ex pins, PE (cxc X scope cl (ts ++ fs) C s₀ H₀ ex pins) elt te)
    (hs : ∀ x, foldedSetIterable iter X.env x = pure x := by intro _; rfl) (hsw : swapsWith (.ListComp elt [⟨tg, iter, [], 0⟩] scope pos) (some (.Name y py)) spos.line X.env = pure true := by rfl)
    (hf : X.fn y = true ∨ X.env.scope.names.lookup y = some .local := by first | exact .inl rfl | exact .inr rfl | assumption) :
    PS X (.Assign [.Name y py] (.ListComp elt [⟨tg, iter, [], 0⟩] scope pos) spos) (tAsg (tCompN wi g te ts js) (gName i)) := by
  intro pins s σ H D I h
  rw [exec_Assign_Name_used _ _ _ _ hsw]
  refine wpAny_bind (wpAny_standAt (wpAny_bind ?_))
  show wpAny _ X.A (do let _ ← comprehension (.ListComp elt [⟨tg, iter, [], 0⟩] scope pos) scope X.env _ (newList []) false (eval iter X.env) (some (assign (.Name y py) X.env))) _ _ s
  refine wpAny_bind (wpAny_mono (comp_gen (tt := none) hcalm hclos hk nc lo fh ag fr hi hg (fun _ _ _ _ _ => trivial) he hs I (show tComp wi g none te ts js σ H (fun x H1 => D.nx (σ.set i (some x)) H1) from h) (some (assign (.Name y py) X.env)) (fun _ s' => SP X pins D .next s') fun Dd H' s' C Io q hm f => ?_) (fun _ s' hq => wpAny_pure (wpAny_pure hq)) fun _ _ e => e)
  show wpAny _ X.A (assign (.Name y py) X.env (.ref Dd)) _ _ s'
  refine wpAny_assign_Name (store_ok2 Io hN hiy hy (v := .ref Dd) rfl (fun s'' I'' ⟨a, sb, ha⟩ => ?_) hf)
  obtain ⟨m, hn⟩ := hm
  obtain ⟨f0, f1, f2, f3, f4, f5⟩ := f
  have naC : a ≠ C := by
    rcases ha with z | z
    · rw [z]; exact fun w => f1 w.symm
    · exact f4 y a z
  refine ⟨m, hn.sameBut sb (Ne.symm naC), fun h' hs' => ?_⟩
  exact ⟨_, H', I''.other ⟨f0, f1, f2, f3, f4, f5⟩ hs', q⟩
end L2
set_option exponentiation.threshold 100000
namespace K14
open PySem L2
def top (i : Nat) : Stmt := PySem.Challenge.pw_dialvault_k14_whole_pulls_add.main.body.getD i (.Pass ⟨0, 0, 0, 0⟩)
abbrev sWhole : Stmt := top 10
abbrev sIsRow : Stmt := top 11
abbrev sCommon : Stmt := top 12
abbrev sMulOf : Stmt := top 13
abbrev sWithin : Stmt := top 22
abbrev sNeedSizes : Stmt := top 23
abbrev sNeedLevers : Stmt := top 24
abbrev sPrices : Stmt := top 25
abbrev sRests : Stmt := top 26
abbrev sNought : Stmt := top 27
abbrev sIsSetting : Stmt := top 28
abbrev sIsPulls : Stmt := top 29
abbrev sNeedSetting : Stmt := top 30
abbrev sNeedPulls : Stmt := top 31
abbrev sAdded : Stmt := top 32
abbrev sTurned : Stmt := top 33
abbrev sPulled : Stmt := top 34
abbrev sBetween : Stmt := top 35
abbrev sCell : Stmt := top 37
abbrev sMix : Stmt := top 38
abbrev sNumber : Stmt := top 39
abbrev sLSizes : Stmt := top 40
abbrev sLLevers : Stmt := top 41
abbrev sTimes : Stmt := top 42
abbrev sCounted : Stmt := top 43
abbrev sLaw : Stmt := top 44
abbrev sInit : Stmt := inClass (top 21) 0
abbrev sSizes : Stmt := inClass (top 21) 1
abbrev sLevers : Stmt := inClass (top 21) 2
structure Txt (mg : Str → Option Value) : Prop where
  isi : mg "isinstance" = none
  int : mg "int" = none
  bool : mg "bool" = none
  tup : mg "tuple" = none
  lst : mg "list" = none
  len : mg "len" = none
  zip : mg "zip" = none
  range : mg "range" = none
  enum : mg "enumerate" = none
  all : mg "all" = none
  max : mg "max" = none
  min : mg "min" = none
  md : ∃ u, mg "MOST_DIALS" = some u ∧ RelV (.int 6) u
  sl : ∃ u, mg "LEAST_SIZE" = some u ∧ RelV (.int 2) u
  sm : ∃ u, mg "MOST_SIZE" = some u ∧ RelV (.int 360) u
  ml : ∃ u, mg "MOST_LEVERS" = some u ∧ RelV (.int 8) u
  pl : ∃ u, mg "LEAST_PRICE" = some u ∧ RelV (.int 1) u
structure Cal (K : PySem.W.Frag) (mg : Str → Option Value) (x : Str) (st : Stmt) (ps : List Str) (f : Addr) (fd : FuncData) : Prop where
  m : mg x = some (.ref f)
  k : PySem.W.keepIn K (.ref f) = true
  b : Binds K fd ps []
  F : Fun K x x st f fd
/-- a def that keeps its promise, and can be called by its name -/
structure Ok (P : Program) (w : World) (K : PySem.W.Frag) (mg : Str → Option Value) (base : Heap) (n : Nat) (x : Str) (ps : List Str) (sp : Sp) (f : Addr) (fd : FuncData) : Prop where
  m : mg x = some (.ref f)
  k : PySem.W.keepIn K (.ref f) = true
  b : Binds K fd ps []
  G : FnOk P w K mg base CX0 n f fd ps sp
structure VT (K : PySem.W.Frag) (mg : Str → Option Value) (C : Addr) : Prop where
  cl : Cls K C
  mg : mg "Vault" = some (.ref C)
  n1 : NoAttr K C "dial_sizes"
  n2 : NoAttr K C "lever_settings"
  n3 : NoAttr K C "lever_prices"
  n4 : NoAttr K C "least_round"
theorem small {i n : Nat} (h : i < n) (hn : n ≤ 64) : i < sizeLine := Nat.lt_of_lt_of_le h (Nat.le_trans hn (by decide))
theorem rep1 {n : Nat} (h : n ≤ 8) : 1 * ((n : Nat) : Int).toNat ≤ sizeLine := by
  rw [Nat.one_mul, Int.toNat_natCast]
  exact Nat.le_trans h (by decide)
theorem same_upd {H : Hp} {p : Addr} {o : HO} (h : H p = none) : Same H (upd H p o) := fun b u e => by
  rw [upd_ne (ne_of_none e h)]
  exact e
theorem same_put {H H1 : Hp} {p : Addr} {o : HO} (s : Same H H1) (h : H p = none) : Same H (upd H1 p o) := fun b u e => by
  rw [upd_ne (ne_of_none e h)]
  exact s b u e
abbrev nV (ms : List Nat) : List V := ms.map fun (n : Nat) => V.int (n : Int)
abbrev iV (ns : List Int) : List V := ns.map V.int
abbrev iZ (ms : List Nat) : List Int := ms.map fun (n : Nat) => (n : Int)
theorem nV_iV (ms : List Nat) : nV ms = iV (iZ ms) := by
  unfold nV iV iZ
  rw [List.map_map]
  rfl
def Szs (ds : List Nat) : Prop := 1 ≤ ds.length ∧ ds.length ≤ 6 ∧ ∀ d ∈ ds, 2 ≤ d ∧ d ≤ 360
/-- rows of numbers that stand in the heap -/
inductive Rws (H : Hp) (mk : List V → HO) : List V → List (List Int) → Prop where
  | nil : Rws H mk [] []
  | cons {a : Addr} {l : List Int} {vs : List V} {ls : List (List Int)} (h : H a = some (mk (iV l))) (r : Rws H mk vs ls) : Rws H mk (.ref a :: vs) (l :: ls)
theorem Rws.mono {H H' : Hp} {mk : List V → HO} {vs : List V} {ls : List (List Int)} (h : Rws H mk vs ls) (s : Same H H') : Rws H' mk vs ls := by
  induction h with
  | nil => exact .nil
  | cons h r ih => exact .cons (s _ _ h) ih
theorem Rws.len {H : Hp} {mk : List V → HO} {vs : List V} {ls : List (List Int)} (h : Rws H mk vs ls) : vs.length = ls.length := by
  induction h with
  | nil => rfl
  | cons h r ih => exact congrArg (· + 1) ih
theorem Rws.at {H : Hp} {mk : List V → HO} {vs : List V} {ls : List (List Int)} {i : Nat} {x : V} (h : Rws H mk vs ls) (e : vs[i]? = some x) : ∃ a l, x = .ref a ∧ ls[i]? = some l ∧ H a = some (mk (iV l)) := by
  induction h generalizing i with
  | nil => rw [List.getElem?_nil] at e; cases e
  | cons h r ih =>
    cases i with
    | zero => cases e; exact ⟨_, _, rfl, rfl, h⟩
    | succ i => exact ih e
theorem Rws.snoc {H : Hp} {mk : List V → HO} {a : Addr} {l : List Int} (h : H a = some (mk (iV l))) {vs : List V} {ls : List (List Int)} (q : Rws H mk vs ls) : Rws H mk (vs ++ [.ref a]) (ls ++ [l]) := by
  induction q with
  | nil => exact .cons h .nil
  | cons h' r ih => exact .cons h' ih
def VaultAt (H : Hp) (C v : Addr) (ds : List Nat) (ls : List (List Int)) : Prop := ∃ (dx pd pl pp : Addr) (rd : Int) (lv : List V),
  H v = some (.ins C dx [("dial_sizes", .ref pd), ("lever_settings", .ref pl), ("lever_prices", .ref pp), ("least_round", .int rd)]) ∧ H pd = some (.tup (nV ds)) ∧ H pl = some (.tup lv) ∧ Rws H HO.tup lv ls
theorem VaultAt.mono {H H' : Hp} {C v : Addr} {ds : List Nat} {ls : List (List Int)} (h : VaultAt H C v ds ls) (s : Same H H') : VaultAt H' C v ds ls := by
  obtain ⟨dx, pd, pl, pp, rd, lv, h1, h2, h3, h4⟩ := h
  exact ⟨dx, pd, pl, pp, rd, lv, s _ _ h1, s _ _ h2, s _ _ h3, h4.mono s⟩
def rst (ns ms : List Int) : List Int := List.zipWith (fun n m => n % m) ns ms
def addS (ds : List Nat) (s o : List Int) (t : Int) : List Int := rst (List.zipWith (fun x y => x + t * y) s o) (iZ ds)
def turnS (ds : List Nat) (ls : List (List Int)) (s ps : List Int) : List Int := (ls.zip ps).foldl (fun r lt => addS ds r lt.1 lt.2) s
/-- a setting -/
def InB (ds : List Nat) (s : List Int) : Prop := s.length = ds.length ∧ ∀ (i : Nat) (n : Int) (d : Nat), s[i]? = some n → ds[i]? = some d → 0 ≤ n ∧ n < d
/-! ### the promises -/
def spCommon : Sp := fun vs H Q _ => ∃ (a b : Int), vs = [.int a, .int b] ∧ 0 ≤ a ∧ a < 2 ^ 60 ∧ 0 < b ∧ b ≤ 360 ∧ ∀ (p : Addr) (g s t : Int) (H' : Hp), Same H H' → H' p = some (.tup [.int g, .int s, .int t]) → 0 < g → g < 2 ^ 60 → Q (.ref p) H'
def spMulOf (K : PySem.W.Frag) : Sp := fun vs H Q _ => ∃ (b : Bool) (a : Addr) (ms : List Nat), vs = [.ref a] ∧ SqB K H b a (nV ms) ∧ Szs ms ∧ ∀ (z : Int) H', Same H H' → Q (.int z) H'
def spWhole : Sp := fun vs H Q _ => ∃ (i : Int), vs = [.int i] ∧ Q (.bl true) H
def spRow : Sp := fun vs H Q _ => ∃ (b : Bool) (a : Addr) (ns : List Int), vs = [.ref a, .int (ns.length : Nat)] ∧ H a = some (if b then .lst (iV ns) else .tup (iV ns)) ∧ ns.length ≤ 64 ∧ ∀ H', Same H H' → Q (.bl true) H'
def spWithin : Sp := fun vs H Q _ => ∃ (i lo hi : Int), vs = [.int i, .int lo, .int hi] ∧ lo ≤ i ∧ i ≤ hi ∧ Q (.bl true) H
def spNeedSizes : Sp := fun vs H Q _ => ∃ (a : Addr) (ds : List Nat), vs = [.ref a] ∧ H a = some (.lst (nV ds)) ∧ Szs ds ∧ ∀ H', Same H H' → Q .non H'
def spNeedLevers : Sp := fun vs H Q _ => ∃ (a : Addr) (lv : List V) (ls : List (List Int)) (m : Nat), vs = [.ref a, .int m] ∧ H a = some (.lst lv) ∧ Rws H HO.lst lv ls ∧ ls.length ≤ 8 ∧ (∀ l ∈ ls, l.length = m) ∧ m ≤ 64 ∧ ∀ H', Same H H' → Q .non H'
def spPrices : Sp := fun vs H Q _ => ∃ (a : Addr) (lv : List V), vs = [.ref a, .non] ∧ H a = some (.lst lv) ∧ lv.length ≤ 8 ∧ ∀ p H', Same H H' → Q (.ref p) H'
def spRests (K : PySem.W.Frag) : Sp := fun vs H Q _ => ∃ (b1 b2 : Bool) (a1 a2 : Addr) (ns ms : List Int), vs = [.ref a1, .ref a2] ∧ SqB K H b1 a1 (iV ns) ∧ SqB K H b2 a2 (iV ms) ∧ ms.length ≤ 64 ∧ (∀ m ∈ ms, 0 < m) ∧ ∀ p H', H p = none → Same H H' → H' p = some (.tup (iV (rst ns ms))) → Q (.ref p) H'
section
variable {P : Program} {w : World} {K : PySem.W.Frag} {mg : Str → Option Value} {base : Heap}
theorem take_fold {α β : Type} (f : β → α → β) (b : β) (xs : List α) (i : Nat) (x : α) (h : xs[i]? = some x) : (xs.take (i + 1)).foldl f b = f ((xs.take i).foldl f b) x := by
  rw [List.take_add_one, h, List.foldl_append]
  rfl
theorem at_ints {ns : List Int} {i : Nat} {y : V} (hi : (iV ns)[i]? = some y) : ∃ n : Int, ns[i]? = some n ∧ y = V.int n := by
  rw [List.getElem?_map] at hi
  cases e : ns[i]? with
  | none => rw [e] at hi; cases hi
  | some z => rw [e] at hi; exact ⟨z, rfl, (Option.some.inj hi).symm⟩
theorem at_nats {ns : List Nat} {i : Nat} {y : V} (hi : (nV ns)[i]? = some y) : ∃ n : Nat, ns[i]? = some n ∧ y = V.int (n : Int) := by
  rw [List.getElem?_map] at hi
  cases e : ns[i]? with
  | none => rw [e] at hi; cases hi
  | some z => rw [e] at hi; exact ⟨z, rfl, (Option.some.inj hi).symm⟩
def Bd (k : Nat) (x : Int) : Prop := x.natAbs ≤ 2 ^ (64 * k)
theorem Bd.up {k : Nat} {x : Int} (h : Bd k x) : Bd (k + 1) x := Nat.le_trans h (Nat.pow_le_pow_right (by decide) (Nat.mul_le_mul_left _ (Nat.le_succ k)))
theorem Bd.lt {k : Nat} {x : Int} (h : Bd k x) (hk : k ≤ 361) : x.natAbs < 2 ^ 24000 := Nat.lt_of_le_of_lt h (Nat.pow_lt_pow_right (by decide) (Nat.lt_of_le_of_lt (Nat.mul_le_mul_left 64 hk) (by decide)))
theorem Bd.grow {k : Nat} {s s' q : Int} (hs : Bd k s) (hs' : Bd k s') (hq : q.natAbs < 2 ^ 60) : Bd (k + 1) (s - q * s') := by
  have e1 : (s - q * s').natAbs ≤ s.natAbs + q.natAbs * s'.natAbs := by
    rw [← Int.natAbs_mul]
    exact Int.natAbs_sub_le s (q * s')
  refine Nat.le_trans e1 (Nat.le_trans (Nat.add_le_add hs (Nat.mul_le_mul (Nat.le_of_lt hq) hs')) ?_)
  show 2 ^ (64 * k) + 2 ^ 60 * 2 ^ (64 * k) ≤ 2 ^ (64 * k + 64)
  rw [Nat.pow_add]
  clear e1 hq hs hs'
  generalize 2 ^ (64 * k) = B
  omega
/-- what the loop knows of r and r', and k turns -/
def Wl (r r' : Int) (k : Nat) : Prop := 0 ≤ r ∧ r < 2 ^ 60 ∧ 0 ≤ r' ∧ r' + k ≤ 361 ∧ 0 < r + r'
theorem Wl.start {a b : Int} (a0 : 0 ≤ a) (a1 : a < 2 ^ 60) (b0 : 0 < b) (b1 : b ≤ 360) : Wl a b 0 := by
  unfold Wl
  omega
theorem Wl.facts {r r' : Int} {k : Nat} (h : Wl r r' k) : k ≤ 361 ∧ r.natAbs < 2 ^ 60 ∧ r'.natAbs < 2 ^ 60 := by
  unfold Wl at h
  omega
theorem Wl.last {r : Int} {k : Nat} (h : Wl r 0 k) : 0 < r ∧ r < 2 ^ 60 ∧ ¬ r < 0 := by
  unfold Wl at h
  omega
theorem Wl.step {r r' : Int} {k : Nat} (h : Wl r r' k) (h0 : r' ≠ 0) : Wl r' (r - r.fdiv r' * r') (k + 1) ∧ (r - r.fdiv r' * r').natAbs < r'.natAbs := by
  unfold Wl at *
  have hm : r - r.fdiv r' * r' = r % r' := by
    rw [Int.fdiv_eq_ediv_of_nonneg _ h.2.2.1, Int.emod_def, Int.mul_comm]
  rw [hm]
  have h3 := Int.emod_nonneg r h0
  have h4 := Int.emod_lt_of_pos r (by omega : 0 < r')
  omega
theorem scC : FnScope ["one", "other", "row", "behind", "times", "rest"] ["one", "other"] (defScope sCommon) := ⟨rfl, rfl, rfl, by decide +kernel, rfl, by decide +kernel, by decide +kernel⟩
theorem ok_common {f : Addr} {fd : FuncData} (F : Fun K "common" "common" sCommon f fd) : FnOk P w K mg base CX0 1 f fd ["one", "other"] spCommon := by
  refine F.ok scC (fun vs H Q E h => ?_) (fun cdv A outer s H vs Q E hr h => ?_)
  · obtain ⟨a, b, rfl, _⟩ := h
    rfl
  · obtain ⟨a, b, rfl, a0, a1, b0, b1, k⟩ := h
    refine ⟨_, pss_cons (ps_set (i := 2) scC.nd rfl (Or.inl rfl) (pe_tup (pa_cons (pv 0) (pa_cons pe_int (pa_cons pe_int pa_nil)))))
      (pss_cons (ps_set (i := 3) scC.nd rfl (Or.inl rfl) (pe_tup (pa_cons (pv 1) (pa_cons pe_int (pa_cons pe_int pa_nil)))))
      (pss_cons (ps_while PassesOwn.never (pt_cmpR op_ne (pe_ix ix_tup (pv 3) pe_int (fun _ _ => rfl)) pe_int (nomark _))
        (pss_cons (ps_set (i := 4) scC.nd rfl (Or.inl rfl) (pe_op op_fdivB (pe_ix ix_tup (pv 2) pe_int (fun _ _ => rfl)) (pe_ix ix_tup (pv 3) pe_int (fun _ _ => rfl))))
        (pss_cons (ps_set (i := 5) scC.nd rfl (Or.inl rfl) (pe_tup
          (pa_cons (pe_op op_sub (pe_ix ix_tup (pv 2) pe_int (fun _ _ => rfl)) (pe_op op_mulB (pv 4) (pe_ix ix_tup (pv 3) pe_int (fun _ _ => rfl))))
          (pa_cons (pe_op op_sub (pe_ix ix_tup (pv 2) pe_int (fun _ _ => rfl)) (pe_op op_mulB (pv 4) (pe_ix ix_tup (pv 3) pe_int (fun _ _ => rfl))))
          (pa_cons (pe_op op_sub (pe_ix ix_tup (pv 2) pe_int (fun _ _ => rfl)) (pe_op op_mulB (pv 4) (pe_ix ix_tup (pv 3) pe_int (fun _ _ => rfl)))) pa_nil)))))
        (pss_cons (ps_set (i := 2) scC.nd rfl (Or.inl rfl) (pv 3))
        (pss_one (ps_set (i := 3) scC.nd rfl (Or.inl rfl) (pv 5)))))))
      (pss_cons (ps_if (pt_cmpR op_lt (pe_ix ix_tup (pv 2) pe_int (fun _ _ => rfl)) pe_int (nomark _)) pss_never pss_nil)
      (pss_one (ps_ret (pv 2)))))), ?_⟩
    refine ⟨_, rfl, (by show 3 ≤ sizeLine; decide), fun p1 n1 => ?_⟩
    refine ⟨_, rfl, (by show 3 ≤ sizeLine; decide), fun p2 n2 => ?_⟩
    have s1 : Same H (upd H p1 (.tup [.int a, .int 1, .int 0])) := same_upd n1
    have s2 := s1.trans (same_upd (o := .tup [.int b, .int 0, .int 1]) n2)
    have n12 : p1 ≠ p2 := ne_of_none upd_same n2
    have one : ∀ (x : Int), x.natAbs ≤ 1 → Bd 0 x := fun x hx => hx
    refine ⟨fun m σ H1 => ∃ (p p' : Addr) (r s t r' s' t' : Int) (x y : Option V), σ = [some (.int a), some (.int b), some (.ref p), some (.ref p'), x, y] ∧ m = r'.natAbs ∧ Same H H1 ∧
      H1 p = some (.tup [.int r, .int s, .int t]) ∧ H1 p' = some (.tup [.int r', .int s', .int t']) ∧ ∃ n, Wl r r' n ∧ (Bd n s ∧ Bd n s') ∧ Bd n t ∧ Bd n t',
      ⟨b.natAbs, p1, p2, a, 1, 0, b, 0, 1, none, none, rfl, rfl, s2, by rw [upd_ne n12, upd_same], upd_same, 0, .start a0 a1 b0 b1, ⟨one 1 (by decide), one 0 (by decide)⟩, one 0 (by decide), one 1 (by decide)⟩, ?_⟩
    rintro m σ H1 ⟨p, p', r, s, t, r', s', t', x, y, rfl, rfl, sm, hp, hp', n, wl, ⟨bs, bs'⟩, bt, bt'⟩
    obtain ⟨f1, f2, f3⟩ := wl.facts
    refine ⟨_, rfl, p', _, 0, _, rfl, rfl, SqT.of hp', atI_nat (j := 0) rfl, rfl, _, rfl, ?_⟩
    refine iteNE (fun h0 => ?_) (fun h0 => ?_)
    · have h0' : r' ≠ 0 := fun z => h0 (by rw [z])
      refine ⟨fun σ' H' => ∃ m', m' < r'.natAbs ∧ ∃ (p p' : Addr) (r s t r' s' t' : Int) (x y : Option V), σ' = [some (.int a), some (.int b), some (.ref p), some (.ref p'), x, y] ∧ m' = r'.natAbs ∧ Same H H' ∧
        H' p = some (.tup [.int r, .int s, .int t]) ∧ H' p' = some (.tup [.int r', .int s', .int t']) ∧ ∃ n, Wl r r' n ∧ (Bd n s ∧ Bd n s') ∧ Bd n t ∧ Bd n t', fun σ' H' z => z, ?_⟩
      have hq : (r.fdiv r').natAbs < 2 ^ 60 := Nat.lt_of_le_of_lt (natAbs_fdiv_le r r') f2
      obtain ⟨w2, w3⟩ := wl.step h0'
      refine ⟨_, rfl, p, _, 0, _, rfl, rfl, SqT.of hp, atI_nat (j := 0) rfl, _, rfl, p', _, 0, _, rfl, rfl, SqT.of hp', atI_nat (j := 0) rfl, _, _, rfl, rfl, ⟨h0', Nat.lt_trans (log2_lt (n := 60) h0' f3) (by decide)⟩, ?_⟩
      refine ⟨_, rfl, p, _, 0, _, rfl, rfl, SqT.of hp, atI_nat (j := 0) rfl, _, rfl, _, rfl, p', _, 0, _, rfl, rfl, SqT.of hp', atI_nat (j := 0) rfl, _, _, rfl, rfl, mulOk_lt hq f3 (by decide), _, _, rfl, rfl, ?_⟩
      refine ⟨_, rfl, p, _, 1, _, rfl, rfl, SqT.of hp, atI_nat (j := 1) rfl, _, rfl, _, rfl, p', _, 1, _, rfl, rfl, SqT.of hp', atI_nat (j := 1) rfl, _, _, rfl, rfl, mulOk_lt hq (bs'.lt f1) (by decide), _, _, rfl, rfl, ?_⟩
      refine ⟨_, rfl, p, _, 2, _, rfl, rfl, SqT.of hp, atI_nat (j := 2) rfl, _, rfl, _, rfl, p', _, 2, _, rfl, rfl, SqT.of hp', atI_nat (j := 2) rfl, _, _, rfl, rfl, mulOk_lt hq (bt'.lt f1) (by decide), _, _, rfl, rfl, ?_⟩
      refine ⟨(by show 3 ≤ sizeLine; decide), fun p3 n3 => ?_⟩
      refine ⟨_, rfl, _, rfl, ?_⟩
      have n3' : p' ≠ p3 := ne_of_none hp' n3
      exact ⟨_, w3, p', p3, r', s', t', _, _, _, _, _, rfl, rfl, sm.trans (same_upd n3), by rw [upd_ne n3']; exact hp', upd_same, n + 1, w2, ⟨bs'.up, bs.grow bs' hq⟩, bt'.up, bt.grow bt' hq⟩
    · have h0' : r' = 0 := V.int.inj h0
      subst h0'
      obtain ⟨g1, g2, g3⟩ := wl.last
      exact ⟨_, rfl, p, _, 0, _, rfl, rfl, SqT.of hp, atI_nat (j := 0) rfl, _, _, rfl, rfl, _, rfl, iteD (fun hn => absurd (show r < 0 from hn) g3) (fun _ => ⟨_, rfl, k p r s t H1 sm hp g1 g2⟩)⟩
theorem scMO : FnScope ["numbers", "multiple", "number"] ["numbers"] (defScope sMulOf) := ⟨rfl, rfl, rfl, by decide +kernel, rfl, by decide +kernel, by decide +kernel⟩
theorem mul_ar {m n : Nat} {g : Int} (h6 : m ≤ 360 ^ 6) (gn : 2 ≤ n ∧ n ≤ 360) (g0 : 0 < g) (g1 : g < 2 ^ 60) : g ≠ 0 ∧ g.natAbs < 2 ^ 60 ∧ ((m : Int).fdiv g).natAbs < 2 ^ 60 ∧ ((n : Int)).natAbs < 2 ^ 60 ∧ ((m : Int).fdiv g).natAbs ≤ m := by
  have := natAbs_fdiv_le (m : Int) g
  omega
theorem mul_ar2 {m n : Nat} (h6 : m ≤ 360 ^ 6) (gn : 2 ≤ n ∧ n ≤ 360) : (0 : Int) ≤ (m : Int) ∧ (m : Int) < 2 ^ 60 ∧ (0 : Int) < (n : Int) ∧ (n : Int) ≤ 360 := by
  omega
theorem ok_mulof {f fC : Addr} {fd fdC : FuncData} (F : Fun K "multiple_of" "multiple_of" sMulOf f fd) (C : Cal K mg "common" sCommon ["one", "other"] fC fdC) : FnOk P w K mg base CX0 2 f fd ["numbers"] (spMulOf K) := by
  have GC : FnOk P w K mg base CX0 1 fC fdC ["one", "other"] spCommon := ok_common C.F
  refine F.ok scMO (fun vs H Q E h => ?_) (fun cdv A outer s H vs Q E hr h => ?_)
  · obtain ⟨b, a, ms, rfl, _⟩ := h
    rfl
  · obtain ⟨b, a, ms, rfl, hS, hz, k⟩ := h
    refine ⟨_, pss_cons (ps_set (i := 1) scMO.nd rfl (Or.inl rfl) pe_int)
      (pss_cons (ps_for PassesOwn.never rfl (pi_seq (pv 0)) (pg_name (i := 2) scMO.nd rfl (Or.inl rfl))
        (pss_one (ps_set (i := 1) scMO.nd rfl (Or.inl rfl) (pe_op op_mulB (pe_op op_fdivB (pv 1) (pe_ix ix_tup (pe_call GC hr (by rfl) C.m C.k C.b .nil pass0 (pa_cons (pv 1) (pa_cons (pv 2) pa_nil))) pe_int (fun _ _ => rfl))) (pv 2)))))
      (pss_one (ps_ret (pv 1)))), ?_⟩
    refine ⟨_, rfl, b, a, rfl, ⟨_, hS⟩, for_seq (K := K) (b := b) (a := a) (xs := nV ms) (fun i σ H2 => ∃ (m : Nat) (v : Option V), σ = [some (.ref a), some (.int (m : Int)), v] ∧ Same H H2 ∧ m ≤ 360 ^ i)
      ⟨1, none, rfl, Same.refl _, by decide⟩ (fun i σ H2 _ ⟨_, _, _, sm, _⟩ => sm.seqB hS) ?_ ?_⟩
    · rintro i y σ H2 hi ⟨m, v, rfl, sm, hm⟩
      obtain ⟨n, hn, rfl⟩ := at_nats hi
      have hil : i < ms.length := (List.getElem?_eq_some_iff.mp hn).1
      have gn := hz.2.2 n (List.mem_of_getElem? hn)
      have h6 : m ≤ 360 ^ 6 := Nat.le_trans hm (Nat.pow_le_pow_right (by decide) (Nat.le_trans (Nat.le_of_lt hil) hz.2.1))
      obtain ⟨x1, x2, x3, x4⟩ := mul_ar2 h6 gn
      refine ⟨_, rfl, _, rfl, _, rfl, (m : Int), (n : Int), rfl, x1, x2, x3, x4, fun p g s t H3 sm3 hp g0 g1 => ?_⟩
      obtain ⟨y1, y2, y3, y4, hd⟩ := mul_ar h6 gn g0 g1
      refine ⟨p, _, 0, _, rfl, rfl, SqT.of hp, atI_nat (j := 0) rfl, _, _, rfl, rfl, ⟨y1, Nat.lt_trans (log2_lt (n := 60) y1 y2) (by decide)⟩, _, rfl, _, _, rfl, rfl, ?_, ?_⟩
      · exact mulOk_lt (m := 60) (n := 60) y3 y4 (by decide)
      · have h0 : 0 ≤ (m : Int).fdiv g := Int.fdiv_nonneg x1 (Int.le_of_lt g0)
        refine ⟨((m : Int).fdiv g).natAbs * n, some (V.int (n : Int)), ?_, sm.trans sm3, ?_⟩
        · have e : (((m : Int).fdiv g).natAbs * n : Nat) = (m : Int).fdiv g * (n : Int) := by
            rw [Int.natCast_mul, Int.natAbs_of_nonneg h0]
          rw [e]
          rfl
        · rw [Nat.pow_succ]
          exact Nat.mul_le_mul (Nat.le_trans hd hm) gn.2
    · rintro σ H2 ⟨m, v, rfl, sm, _⟩
      exact ⟨_, rfl, k _ H2 sm⟩
theorem kit_tt : PySem.W.kitAny K (.type "tuple") (["list", "tuple"].map Value.type) = some true := by with_unfolding_all kernel_rfl
/-! ### is_whole -/
theorem scW : FnScope ["thing"] ["thing"] (defScope sWhole) := ⟨rfl, rfl, rfl, by decide +kernel, rfl, by decide +kernel, by decide +kernel⟩
theorem ok_whole {f : Addr} {fd : FuncData} (F : Fun K "is_whole" "is_whole" sWhole f fd) (T : Txt mg) : FnOk P w K mg base CX0 1 f fd ["thing"] spWhole := by
  refine F.ok scW (fun vs H Q E h => ?_) (fun cdv A outer s H vs Q E hr h => ?_)
  · obtain ⟨i, rfl, _⟩ := h
    rfl
  · obtain ⟨i, rfl, k⟩ := h
    refine ⟨_, pss_one (ps_ret (pe_and (pe_callB call_isT (by rfl) T.isi bt_isi (pa_cons (pv 0) (pa_cons (pe_bltn (v := .ty "int") (by rfl) T.int bt_int rfl) pa_nil)))
      (pe_one (pe_not (pe_callB call_isT (by rfl) T.isi bt_isi (pa_cons (pv 0) (pa_cons (pe_bltn (v := .ty "bool") (by rfl) T.bool bt_bool rfl) pa_nil))))))), ?_⟩
    exact ⟨_, rfl, _, _, _, _, rfl, .int i, kit_same K _, _, rfl, iteT ⟨_, rfl, _, _, _, _, rfl, .int i, kit_int_bool K, _, rfl, k⟩⟩
/-! ### is_row -/
theorem scR : FnScope ["thing", "length"] ["thing", "length"] (defScope sIsRow) := ⟨rfl, rfl, rfl, by decide +kernel, rfl, by decide +kernel, by decide +kernel⟩
theorem nd1 : ((["number"] : List Str) ++ ([] : List Str)).Nodup := by decide +kernel
theorem ok_row {f fW : Addr} {fd fdW : FuncData} (F : Fun K "is_row" "is_row" sIsRow f fd) (T : Txt mg) (W : Ok P w K mg base 1 "is_whole" ["thing"] spWhole fW fdW) : FnOk P w K mg base CX0 2 f fd ["thing", "length"] spRow := by
  refine F.ok scR (fun vs H Q E h => ?_) (fun cdv A outer s H vs Q E hr h => ?_)
  · obtain ⟨b, a, ns, rfl, _⟩ := h
    rfl
  · obtain ⟨b, a, ns, rfl, ha, hl, k⟩ := h
    refine ⟨_, pss_cons (ps_if (pw_or (pt_not (pt_val (pe_callB call_isTT (by rfl) T.isi bt_isi (pa_cons (pv 0) (pa_cons (pe_tup (pa_cons (pe_bltn (v := .ty "list") (by rfl) T.lst bt_list rfl) (pa_cons (pe_bltn (v := .ty "tuple") (by rfl) T.tup bt_tuple rfl) pa_nil))) pa_nil)))))
        (pw_or1 (pt_cmpR op_ne (pe_callB call_len_seq (by rfl) T.len PySem.boot_len (pa_cons (pv 0) pa_nil)) (pv 1) (nomark _)))).pt (pss_one (ps_ret pe_bl)) pss_nil)
      (pss_one (ps_ret (pe_callB (call_allB rfl) (by rfl) T.all bt_all (pa_cons (pe_compN (g := gName 0) (ts := ["number"]) (fs := []) (js := []) (cl := []) rfl rfl rfl rfl rfl rfl .nil .nil
        (pi_seq (pv 0)) (fun C s₀ H₀ ex pins => pg_name (i := 0) nd1 rfl (Or.inl rfl) (.inr rfl)) (fun C s₀ H₀ ex pins => pe_call W.G hr (by rfl) W.m W.k W.b .nil pass0 (pa_cons (pv 0) pa_nil))) pa_nil)))), ?_⟩
    refine ⟨_, rfl, (by show 2 ≤ sizeLine; decide), fun tp ntp => ?_⟩
    have s1 : Same H (upd H tp (.tup [.ty "list", .ty "tuple"])) := same_upd ntp
    have ha1 := s1 _ _ ha
    have hq : ∀ {H' : Hp}, H' a = some (if b then .lst (iV ns) else .tup (iV ns)) → SqB K H' b a (iV ns) := fun {H'} h => by
      cases b with
      | true => exact SqB.ofL h
      | false => exact SqB.ofT h
    have tail : ∀ H1, Same H H1 → H1 a = some (if b then .lst (iV ns) else .tup (iV ns)) → ∃ t, True := fun _ _ _ => ⟨0, trivial⟩
    have ty : ∃ t, TyOf K (upd H tp (.tup [.ty "list", .ty "tuple"])) (.ref a) t ∧ PySem.W.kitAny K t (["list", "tuple"].map Value.type) = some true := by
      cases b with
      | true => exact ⟨_, .lst ha1, kit_lt1 K⟩
      | false => exact ⟨_, .tup ha1, kit_tt⟩
    obtain ⟨t, ty1, ty2⟩ := ty
    refine ⟨_, tp, ["list", "tuple"], t, true, rfl, upd_same, ty1, ty2, _, rfl, iteF ?_⟩
    have hlen : ((iV ns).length : Int) = (ns.length : Nat) := by rw [List.length_map]
    have hsq := hq ha1
    have hor : SqL K (upd H tp (.tup [.ty "list", .ty "tuple"])) a (iV ns) ∨ SqT K (upd H tp (.tup [.ty "list", .ty "tuple"])) a (iV ns) := by
      cases b with
      | true => exact .inl hsq
      | false => exact .inr hsq
    refine ⟨_, rfl, a, _, rfl, hor, _, rfl, rfl, _, rfl, iteNS (congrArg V.int hlen) ?_⟩
    refine ⟨_, rfl, b, a, rfl, ⟨_, hsq⟩, fun D hD => ?_⟩
    refine comp_seq (K := K) (b := b) (a := a) (xs := iV ns) (fun i σ H3 => (∃ v : Option V, σ = [v]) ∧ Same (upd H tp (.tup [.ty "list", .ty "tuple"])) H3 ∧ H3 D = some (.lst ((List.replicate i true).map V.bl)))
      ⟨⟨_, rfl⟩, same_upd hD, upd_same⟩ (fun i σ H3 _ ⟨_, sm, _⟩ => sm.seqB hsq) ?_ ?_
    · rintro i y σ H3 hi ⟨⟨v, rfl⟩, sm, hd⟩
      obtain ⟨n, hn, rfl⟩ := at_ints hi
      have hil : i < ns.length := (List.getElem?_eq_some_iff.mp hn).1
      refine ⟨_, rfl, n, rfl, _, hd, ?_, ⟨_, rfl⟩, same_put sm hD, ?_⟩
      · rw [List.length_map, List.length_replicate]
        exact small hil hl
      · rw [upd_same, List.replicate_succ', List.map_append]
        rfl
    · rintro σ H3 ⟨_, sm, hd⟩
      refine ⟨D, _, rfl, SqL.of hd, ?_⟩
      have e : (List.replicate (iV ns).length true).all id = true := by simp
      rw [e]
      exact k H3 (s1.trans sm)
/-! ### is_within -/
theorem scI : FnScope ["thing", "least", "most"] ["thing", "least", "most"] (defScope sWithin) := ⟨rfl, rfl, rfl, by decide +kernel, rfl, by decide +kernel, by decide +kernel⟩
theorem ok_within {f fW : Addr} {fd fdW : FuncData} (F : Fun K "is_within" "is_within" sWithin f fd) (W : Ok P w K mg base 1 "is_whole" ["thing"] spWhole fW fdW) : FnOk P w K mg base CX0 2 f fd ["thing", "least", "most"] spWithin := by
  refine F.ok scI (fun vs H Q E h => ?_) (fun cdv A outer s H vs Q E hr h => ?_)
  · obtain ⟨i, lo, hi, rfl, _⟩ := h
    rfl
  · obtain ⟨i, lo, hi, rfl, h1, h2, k⟩ := h
    refine ⟨_, pss_one (ps_ret (pe_and (pe_call W.G hr (by rfl) W.m W.k W.b .nil pass0 (pa_cons (pv 0) pa_nil)) (pe_one (pe_chain op_le op_le (pv 1) (pv 0) (pv 2))))), ?_⟩
    refine ⟨_, rfl, i, rfl, _, rfl, iteT ⟨_, rfl, _, rfl, _, _, rfl, rfl, _, rfl, ?_⟩⟩
    rw [decide_eq_true h1]
    refine iteT ⟨_, rfl, _, _, rfl, rfl, ?_⟩
    show Q (.bl (decide (i ≤ hi))) H
    rw [decide_eq_true h2]
    exact k
/-! ### need_sizes -/
theorem scNS : FnScope ["sizes", "dial", "size"] ["sizes"] (defScope sNeedSizes) := ⟨rfl, rfl, rfl, by decide +kernel, rfl, by decide +kernel, by decide +kernel⟩
theorem ok_needsizes {f fI : Addr} {fd fdI : FuncData} (F : Fun K "need_sizes" "need_sizes" sNeedSizes f fd) (T : Txt mg) (I : Ok P w K mg base 2 "is_within" ["thing", "least", "most"] spWithin fI fdI) : FnOk P w K mg base CX0 3 f fd ["sizes"] spNeedSizes := by
  refine F.ok scNS (fun vs H Q E h => ?_) (fun cdv A outer s H vs Q E hr h => ?_)
  · obtain ⟨a, ds, rfl, _⟩ := h
    rfl
  · obtain ⟨a, ds, rfl, ha, hz, k⟩ := h
    refine ⟨_, pss_cons (ps_if (pt_cmpR op_gt (pe_callB call_len_seq (by rfl) T.len PySem.boot_len (pa_cons (pv 0) pa_nil)) (pe_gi (by rfl) T.md) (nomark _)) pss_never pss_nil)
      (pss_cons (ps_if (pt_cmpR op_eq (pe_callB call_len_seq (by rfl) T.len PySem.boot_len (pa_cons (pv 0) pa_nil)) pe_int (nomark _)) pss_never pss_nil)
      (pss_one (ps_for PassesOwn.never rfl (pi_enum (by rfl) T.enum (pa_cons (pv 0) pa_nil)) (pg_tup rfl (pgs_cons (pg_name (i := 1) scNS.nd rfl (Or.inl rfl)) (pgs_cons (pg_name (i := 2) scNS.nd rfl (Or.inl rfl)) pgs_nil)))
        (pss_one (ps_if (pt_not (pt_val (pe_call I.G hr (by rfl) I.m I.k I.b .nil pass0 (pa_cons (pv 2) (pa_cons (pe_gi (by rfl) T.sl) (pa_cons (pe_gi (by rfl) T.sm) pa_nil)))))) pss_never pss_nil))))), ?_⟩
    have hl : (nV ds).length = ds.length := List.length_map _
    obtain ⟨z1, z2, z3⟩ := hz
    refine ⟨_, rfl, a, _, rfl, .inl (SqL.of ha), _, _, rfl, rfl, _, rfl, iteD (fun z => absurd z (by rw [hl]; omega)) (fun _ => ?_)⟩
    refine ⟨_, rfl, a, _, rfl, .inl (SqL.of ha), rfl, _, rfl, iteD (fun z => absurd (V.int.inj z) (by rw [hl]; omega)) (fun _ => ?_)⟩
    refine ⟨_, rfl, a, rfl, ⟨_, SqL.of ha⟩, for_enum (K := K) (a := a) (xs := nV ds) (fun i σ H2 => ∃ v1 v2 : Option V, σ = [some (.ref a), v1, v2] ∧ Same H H2)
      ⟨_, _, rfl, Same.refl _⟩ (fun i σ H2 _ ⟨_, _, _, sm⟩ => SqL.of (sm _ _ ha)) ?_ ?_⟩
    · rintro i y σ H2 p hi ⟨v1, v2, rfl, sm⟩ hp
      obtain ⟨n, hn, rfl⟩ := at_nats hi
      have hb := z3 n (List.mem_of_getElem? hn)
      refine ⟨p, _, rfl, SqT.of upd_same, rfl, _, _, rfl, _, _, rfl, rfl, ?_⟩
      exact ⟨_, rfl, _, _, _, rfl, by omega, by omega, _, rfl, iteF ⟨_, _, rfl, sm.trans (same_upd hp)⟩⟩
    · rintro σ H2 ⟨v1, v2, rfl, sm⟩
      exact k H2 sm
/-! ### need_levers -/
theorem scNL : FnScope ["levers", "dials", "place", "lever"] ["levers", "dials"] (defScope sNeedLevers) := ⟨rfl, rfl, rfl, by decide +kernel, rfl, by decide +kernel, by decide +kernel⟩
theorem ok_needlevers {f fR : Addr} {fd fdR : FuncData} (F : Fun K "need_levers" "need_levers" sNeedLevers f fd) (T : Txt mg) (R : Ok P w K mg base 2 "is_row" ["thing", "length"] spRow fR fdR) : FnOk P w K mg base CX0 3 f fd ["levers", "dials"] spNeedLevers := by
  refine F.ok scNL (fun vs H Q E h => ?_) (fun cdv A outer s H vs Q E hr h => ?_)
  · obtain ⟨a, lv, ls, m, rfl, _⟩ := h
    rfl
  · obtain ⟨a, lv, ls, m, rfl, ha, hR, h8, hm, h64, k⟩ := h
    refine ⟨_, pss_cons (ps_if (pt_cmpR op_gt (pe_callB call_len_seq (by rfl) T.len PySem.boot_len (pa_cons (pv 0) pa_nil)) (pe_gi (by rfl) T.ml) (nomark _)) pss_never pss_nil)
      (pss_one (ps_for PassesOwn.never rfl (pi_enum (by rfl) T.enum (pa_cons (pv 0) pa_nil)) (pg_tup rfl (pgs_cons (pg_name (i := 2) scNL.nd rfl (Or.inl rfl)) (pgs_cons (pg_name (i := 3) scNL.nd rfl (Or.inl rfl)) pgs_nil)))
        (pss_one (ps_if (pt_not (pt_val (pe_call R.G hr (by rfl) R.m R.k R.b .nil pass0 (pa_cons (pv 3) (pa_cons (pv 1) pa_nil))))) pss_never pss_nil)))), ?_⟩
    have hl := hR.len
    refine ⟨_, rfl, a, _, rfl, .inl (SqL.of ha), _, _, rfl, rfl, _, rfl, iteD (fun z => absurd z (by rw [hl]; omega)) (fun _ => ?_)⟩
    refine ⟨_, rfl, a, rfl, ⟨_, SqL.of ha⟩, for_enum (K := K) (a := a) (xs := lv) (fun i σ H2 => ∃ v1 v2 : Option V, σ = [some (.ref a), some (.int m), v1, v2] ∧ Same H H2)
      ⟨_, _, rfl, Same.refl _⟩ (fun i σ H2 _ ⟨_, _, _, sm⟩ => SqL.of (sm _ _ ha)) ?_ ?_⟩
    · rintro i y σ H2 p hi ⟨v1, v2, rfl, sm⟩ hp
      obtain ⟨b, l, rfl, hl2, hb⟩ := hR.at hi
      have hlm := hm l (List.mem_of_getElem? hl2)
      have sm2 := sm.trans (same_upd (o := .tup [.int (i : Int), .ref b]) hp)
      refine ⟨p, _, rfl, SqT.of upd_same, rfl, _, _, rfl, _, _, rfl, rfl, ?_⟩
      refine ⟨_, rfl, _, rfl, true, b, l, ?_, sm2 _ _ hb, by omega, fun H3 sm3 => ⟨_, rfl, iteF ⟨_, _, rfl, sm2.trans sm3⟩⟩⟩
      rw [hlm]
      rfl
    · rintro σ H2 ⟨v1, v2, rfl, sm⟩
      exact k H2 sm
/-! ### prices_for: no prices -/
theorem scPF : FnScope ["levers", "prices", "place"] ["levers", "prices"] (defScope sPrices) := ⟨rfl, rfl, rfl, by decide +kernel, rfl, by decide +kernel, by decide +kernel⟩
theorem ok_prices {f : Addr} {fd : FuncData} (F : Fun K "prices_for" "prices_for" sPrices f fd) (T : Txt mg) : FnOk P w K mg base CX0 1 f fd ["levers", "prices"] spPrices := by
  refine F.ok scPF (fun vs H Q E h => ?_) (fun cdv A outer s H vs Q E hr h => ?_)
  · obtain ⟨a, lv, rfl, _⟩ := h
    rfl
  · obtain ⟨a, lv, rfl, ha, h8, k⟩ := h
    refine ⟨_, pss_cons (ps_if (pt_cmpR op_isN (pv 1) pe_non (nomark _)) (pss_one (ps_ret (pe_op op_repT (pe_tup (pa_cons (pe_gi (by rfl) T.pl) pa_nil)) (pe_callB call_len_seq (by rfl) T.len PySem.boot_len (pa_cons (pv 0) pa_nil))))) pss_nil) pss_never, ?_⟩
    refine ⟨_, rfl, rfl, _, rfl, iteD (fun _ => ?_) (fun z => absurd rfl z)⟩
    refine ⟨(by show 1 ≤ sizeLine; decide), fun p np => ?_⟩
    have sp := same_upd (o := .tup [.int 1]) np
    refine ⟨_, rfl, a, lv, rfl, .inl (SqL.of (sp _ _ ha)), p, _, [.int 1], rfl, rfl, SqT.of upd_same, by simp, by omega, by omega, ?_, fun _ => k p _ sp, fun _ q nq => k q _ (sp.trans (same_upd nq))⟩
    exact rep1 h8
/-! ### rests -/
theorem scRe : FnScope ["numbers", "sizes"] ["numbers", "sizes"] (defScope sRests) := ⟨rfl, rfl, rfl, by decide +kernel, rfl, by decide +kernel, by decide +kernel⟩
theorem nd2 : ((["number", "size"] : List Str) ++ ([] : List Str)).Nodup := by decide +kernel
theorem zip_at {f : Int → Int → Int} {xs ys : List Int} {i : Nat} {x y : Int} (hx : xs[i]? = some x) (hy : ys[i]? = some y) : (iV ((List.zipWith f xs ys).take (i + 1))) = iV ((List.zipWith f xs ys).take i) ++ [V.int (f x y)] := by
  have h : (List.zipWith f xs ys)[i]? = some (f x y) := by
    rw [List.getElem?_zipWith, hx, hy]
  unfold iV
  rw [List.take_add_one, h, List.map_append]
  rfl
theorem ok_rests {f : Addr} {fd : FuncData} (F : Fun K "rests" "rests" sRests f fd) (T : Txt mg) : FnOk P w K mg base CX0 1 f fd ["numbers", "sizes"] (spRests K) := by
  refine F.ok scRe (fun vs H Q E h => ?_) (fun cdv A outer s H vs Q E hr h => ?_)
  · obtain ⟨b1, b2, a1, a2, ns, ms, rfl, _⟩ := h
    rfl
  · obtain ⟨b1, b2, a1, a2, ns, ms, rfl, hS1, hS2, hl, hm, k⟩ := h
    refine ⟨_, pss_one (ps_ret (pe_callTy call_tuple_of (by rfl) T.tup bt_tuple (pa_cons (pe_compN (g := gTup K 2 (gCons (gName 0) (gCons (gName 1) gNil))) (ts := ["number", "size"]) (fs := []) (js := []) (cl := []) rfl rfl rfl rfl rfl rfl .nil .nil
        (pi_zip (by rfl) T.zip (pa_cons (pv 0) (pa_cons (pv 1) pa_nil)))
        (fun C s₀ H₀ ex pins => pg_tup (n := 2) rfl (pgs_cons (pg_name (i := 0) nd2 rfl (Or.inl rfl) (.inr rfl)) (pgs_cons (pg_name (i := 1) nd2 rfl (Or.inl rfl) (.inr rfl)) pgs_nil)))
        (fun C s₀ H₀ ex pins => pe_op op_mod (pv 0) (pv 1))) pa_nil))), ?_⟩
    refine ⟨_, rfl, _, rfl, b1, b2, a1, a2, rfl, ⟨_, hS1⟩, ⟨_, hS2⟩, fun D hD => ?_⟩
    refine comp_zip (K := K) (xs := iV ns) (ys := iV ms) (fun i σ H2 => (∃ v1 v2 : Option V, σ = [v1, v2]) ∧ Same H H2 ∧ H2 D = some (.lst (iV ((rst ns ms).take i))))
      ⟨⟨_, _, rfl⟩, same_upd hD, upd_same⟩ (fun i σ H2 _ ⟨_, sm, _⟩ => ⟨sm.seqB hS1, sm.seqB hS2⟩) ?_ ?_
    · rintro i x y σ H2 p hx hy ⟨⟨v1, v2, rfl⟩, sm, hd⟩ hp
      obtain ⟨x, hx', rfl⟩ := at_ints hx
      obtain ⟨y, hy', rfl⟩ := at_ints hy
      have nDp : D ≠ p := ne_of_none hd hp
      have hil : i < ms.length := (List.getElem?_eq_some_iff.mp hy').1
      refine ⟨p, _, rfl, SqT.of upd_same, rfl, _, _, rfl, _, _, rfl, rfl, ?_⟩
      refine ⟨_, rfl, _, rfl, _, _, rfl, rfl, hm y (List.mem_of_getElem? hy'), ?_⟩
      refine ⟨_, by rw [upd_ne nDp]; exact hd, ?_, ⟨_, _, rfl⟩, same_put (sm.trans (same_upd hp)) hD, by rw [upd_same]; unfold rst; rw [zip_at hx' hy']⟩
      rw [List.length_map, List.length_take]
      exact Nat.lt_of_le_of_lt (Nat.min_le_left _ _) (small hil hl)
    · rintro σ H2 ⟨_, sm, hd⟩
      have e : (rst ns ms).take (min (iV ns).length (iV ms).length) = rst ns ms := by
        refine List.take_of_length_le ?_
        unfold rst
        rw [List.length_zipWith, List.length_map, List.length_map]
        exact Nat.le_refl _
      rw [e] at hd
      refine ⟨D, _, rfl, .inl ⟨SqL.of hd, fun p hp => ?_⟩⟩
      exact k p _ (sm.free hp) (sm.trans (same_upd hp)) upd_same
end
end K14
namespace K14
open PySem L2
/-! ### the vault -/
def Kp (x : Addr) (H H' : Hp) : Prop := ∀ c u, c ≠ x → H c = some u → H' c = some u
theorem Kp.refl (x : Addr) (H : Hp) : Kp x H H := fun _ _ _ e => e
theorem Kp.same {x : Addr} {H H1 H2 : Hp} (a : Kp x H H1) (b : Same H1 H2) : Kp x H H2 := fun c u n e => b c u (a c u n e)
theorem Kp.put {x : Addr} {H H1 : Hp} {o : HO} (a : Kp x H H1) : Kp x H (upd H1 x o) := fun c u n e => by rw [upd_ne n]; exact a c u n e
theorem Rws.kp {H H' : Hp} {mk : List V → HO} {x : Addr} (hx : ∀ xs, H x ≠ some (mk xs)) (s : Kp x H H') {vs : List V} {ls : List (List Int)} (q : Rws H mk vs ls) : Rws H' mk vs ls := by
  induction q with
  | nil => exact .nil
  | cons h r ih => exact .cons (s _ _ (fun z => hx _ (by rw [← z]; exact h)) h) ih
def spInit (C : Addr) : Sp := fun vs H Q _ => ∃ (x dx a b : Addr) (ds : List Nat) (lv : List V) (ls : List (List Int)), vs = [.ref x, .ref a, .ref b, .non] ∧ H x = some (.ins C dx []) ∧ H a = some (.lst (nV ds)) ∧ H b = some (.lst lv) ∧ Rws H HO.lst lv ls ∧ Szs ds ∧ ls.length ≤ 8 ∧
  (∀ l ∈ ls, l.length = ds.length) ∧ ∀ H', Kp x H H' → VaultAt H' C x ds (ls.map fun l => rst l (iZ ds)) → Q .non H'
def spSizes (C : Addr) : Sp := fun vs H Q _ => ∃ (v : Addr) (ds : List Nat) (ls : List (List Int)), vs = [.ref v] ∧ VaultAt H C v ds ls ∧ ∀ pd, H pd = some (.tup (nV ds)) → Q (.ref pd) H
def spLevers (C : Addr) : Sp := fun vs H Q _ => ∃ (v : Addr) (ds : List Nat) (ls : List (List Int)), vs = [.ref v] ∧ VaultAt H C v ds ls ∧ ∀ pl lv, H pl = some (.tup lv) → Rws H HO.tup lv ls → Q (.ref pl) H
def spNought (C : Addr) : Sp := fun vs H Q _ => ∃ (v : Addr) (ds : List Nat) (ls : List (List Int)), vs = [.ref v] ∧ VaultAt H C v ds ls ∧ Szs ds ∧ ∀ p H', Same H H' → H' p = some (.tup (iV (List.replicate ds.length 0))) → Q (.ref p) H'
def spIsSetting (C : Addr) : Sp := fun vs H Q _ => ∃ (v a : Addr) (ds : List Nat) (ls : List (List Int)) (s : List Int), vs = [.ref v, .ref a] ∧ VaultAt H C v ds ls ∧ Szs ds ∧ H a = some (.tup (iV s)) ∧ InB ds s ∧ ∀ H', Same H H' → Q (.bl true) H'
def spIsPulls (C : Addr) : Sp := fun vs H Q _ => ∃ (v a : Addr) (ds : List Nat) (ls : List (List Int)) (ps : List Int), vs = [.ref v, .ref a] ∧ VaultAt H C v ds ls ∧ ls.length ≤ 8 ∧ H a = some (.tup (iV ps)) ∧ ps.length = ls.length ∧ ∀ H', Same H H' → Q (.bl true) H'
def spNeedSetting (C : Addr) : Sp := fun vs H Q _ => ∃ (v a : Addr) (ds : List Nat) (ls : List (List Int)) (s : List Int), vs = [.ref v, .ref a] ∧ VaultAt H C v ds ls ∧ Szs ds ∧ H a = some (.tup (iV s)) ∧ InB ds s ∧ ∀ H', Same H H' → Q .non H'
def spNeedPulls (C : Addr) : Sp := fun vs H Q _ => ∃ (v a : Addr) (ds : List Nat) (ls : List (List Int)) (ps : List Int), vs = [.ref v, .ref a] ∧ VaultAt H C v ds ls ∧ ls.length ≤ 8 ∧ H a = some (.tup (iV ps)) ∧ ps.length = ls.length ∧ ∀ H', Same H H' → Q .non H'
def Sml (o : List Int) : Prop := o.length ≤ 64 ∧ ∀ y ∈ o, 0 ≤ y ∧ y < 361
def spAdded (C : Addr) : Sp := fun vs H Q _ => ∃ (v a b : Addr) (ds : List Nat) (ls : List (List Int)) (s o : List Int) (t : Int), vs = [.ref v, .ref a, .ref b, .int t] ∧ VaultAt H C v ds ls ∧ Szs ds ∧ H a = some (.tup (iV s)) ∧ H b = some (.tup (iV o)) ∧ Sml o ∧
  ∀ p H', Same H H' → H' p = some (.tup (iV (addS ds s o t))) → Q (.ref p) H'
def spTurned (C : Addr) : Sp := fun vs H Q _ => ∃ (v a b : Addr) (ds : List Nat) (ls : List (List Int)) (s ps : List Int), vs = [.ref v, .ref a, .ref b] ∧ VaultAt H C v ds ls ∧ Szs ds ∧ ls.length ≤ 8 ∧ (∀ l ∈ ls, Sml l) ∧ H a = some (.tup (iV s)) ∧ InB ds s ∧ H b = some (.tup (iV ps)) ∧ ps.length = ls.length ∧
  ∀ p H', Same H H' → H' p = some (.tup (iV (turnS ds ls s ps))) → Q (.ref p) H'
def spPulled (C : Addr) : Sp := fun vs H Q _ => ∃ (v a : Addr) (ds : List Nat) (ls : List (List Int)) (s : List Int) (k : Nat) (l : List Int) (t : Int), vs = [.ref v, .ref a, .int k, .int t] ∧ VaultAt H C v ds ls ∧ Szs ds ∧ ls.length ≤ 8 ∧ ls[k]? = some l ∧ Sml l ∧ H a = some (.tup (iV s)) ∧ InB ds s ∧
  ∀ p H', Same H H' → H' p = some (.tup (iV (addS ds s l t))) → Q (.ref p) H'
def spBetween (C : Addr) : Sp := fun vs H Q _ => ∃ (v a b : Addr) (ds : List Nat) (ls : List (List Int)) (s o : List Int), vs = [.ref v, .ref a, .ref b] ∧ VaultAt H C v ds ls ∧ Szs ds ∧ H a = some (.tup (iV s)) ∧ InB ds s ∧ H b = some (.tup (iV o)) ∧ InB ds o ∧
  ∀ p H', Same H H' → H' p = some (.tup (iV (addS ds o s (-1)))) → Q (.ref p) H'
/-- a method that keeps its promise -/
structure Mt (P : Program) (w : World) (K : PySem.W.Frag) (mg : Str → Option Value) (base : Heap) (C : Addr) (x : Str) (sp : Sp) (f : Addr) (fd : FuncData) : Prop where
  M : Meth K C x f
  b : Binds K fd ["self"] []
  G : FnOk P w K mg base CX0 1 f fd ["self"] sp
section
variable {P : Program} {w : World} {K : PySem.W.Frag} {mg : Str → Option Value} {base : Heap}
theorem Rws.put {H : Hp} {D : Addr} {o : HO} {xs : List V} (hD : H D = some (.lst xs)) {vs : List V} {ls : List (List Int)} (q : Rws H HO.tup vs ls) : Rws (upd H D o) HO.tup vs ls := by
  induction q with
  | nil => exact .nil
  | cons h r ih => exact .cons (by rw [upd_ne (ne_of h hD (by intro z; cases z))]; exact h) ih
theorem pos_iZ {ds : List Nat} (h : Szs ds) : ∀ m ∈ iZ ds, (0 : Int) < m := fun m hm => by
  obtain ⟨d, hd, rfl⟩ := List.mem_map.mp hm
  have := h.2.2 d hd
  show (0 : Int) < (d : Int)
  omega
theorem scIn : FnScope ["self", "sizes", "levers", "prices"] ["self", "sizes", "levers", "prices"] (defScope sInit) := ⟨rfl, rfl, rfl, by decide +kernel, rfl, by decide +kernel, by decide +kernel⟩
theorem ndL : ((["lever"] : List Str) ++ (["sizes"] : List Str)).Nodup := by decide +kernel
theorem ok_init {f C f1 f2 f3 f4 f5 : Addr} {dv : Value} {fd fd1 fd2 fd3 fd4 fd5 : FuncData} (F : FunD K "__init__" "Vault.__init__" sInit dv f fd) (T : Txt mg) (Z : VT K mg C)
    (NS : Ok P w K mg base 3 "need_sizes" ["sizes"] spNeedSizes f1 fd1) (NL : Ok P w K mg base 3 "need_levers" ["levers", "dials"] spNeedLevers f2 fd2) (Rs : Ok P w K mg base 1 "rests" ["numbers", "sizes"] (spRests K) f3 fd3)
    (PF : Ok P w K mg base 1 "prices_for" ["levers", "prices"] spPrices f4 fd4) (MO : Ok P w K mg base 2 "multiple_of" ["numbers"] (spMulOf K) f5 fd5) : FnOk P w K mg base CX0 4 f fd ["self", "sizes", "levers", "prices"] (spInit C) := by
  refine F.ok scIn (fun vs H Q E h => ?_) (fun cdv A outer s H vs Q E hr h => ?_)
  · obtain ⟨x, dx, a, b, ds, lv, ls, rfl, _⟩ := h
    rfl
  · obtain ⟨x, dx, a, b, ds, lv, ls, rfl, hx, ha, hb, hR, hz, h8, hm, k⟩ := h
    have hr1 : Room 1 _ := hr.mono (by decide)
    have hr2 : Room 2 _ := hr.mono (by decide)
    refine ⟨_, pss_cons (ps_expr (pe_call NS.G hr (by rfl) NS.m NS.k NS.b .nil pass0 (pa_cons (pv 1) pa_nil)))
      (pss_cons (ps_expr (pe_call NL.G hr (by rfl) NL.m NL.k NL.b .nil pass0 (pa_cons (pv 2) (pa_cons (pe_callB call_len_seq (by rfl) T.len PySem.boot_len (pa_cons (pv 1) pa_nil)) pa_nil))))
      (pss_cons (ps_fld (pv 0) (pe_callTy call_tuple_of (by rfl) T.tup bt_tuple (pa_cons (pv 1) pa_nil)) rfl)
      (pss_cons (ps_fld (pv 0) (pe_callTy call_tuple_of (by rfl) T.tup bt_tuple (pa_cons (pe_compN (g := gName 0) (ts := ["lever"]) (fs := ["sizes"]) (js := [1]) rfl rfl rfl rfl rfl rfl (.cons rfl .nil) (.cons rfl rfl (.inl rfl) rfl rfl .nil)
          (pi_seq (pv 2)) (fun C s₀ H₀ ex pins => pg_name (i := 0) ndL rfl (Or.inl rfl) (.inr rfl)) (fun C s₀ H₀ ex pins => pe_call Rs.G hr1 (by rfl) Rs.m Rs.k Rs.b .nil pass0 (pa_cons (pv 0) (pa_cons (pv 1) pa_nil)))) pa_nil)) rfl)
      (pss_cons (ps_fld (pv 0) (pe_call PF.G hr1 (by rfl) PF.m PF.k PF.b .nil pass0 (pa_cons (pv 2) (pa_cons (pv 3) pa_nil))) rfl)
      (pss_one (ps_fld (pv 0) (pe_call MO.G hr2 (by rfl) MO.m MO.k MO.b .nil pass0 (pa_cons (pv 1) pa_nil)) rfl)))))), ?_⟩
    have nax : a ≠ x := ne_of ha hx (by intro z; cases z)
    have nbx : b ≠ x := ne_of hb hx (by intro z; cases z)
    have nR : ∀ xs, H x ≠ some (.lst xs) := fun xs z => by rw [hx] at z; cases z
    have hl : (nV ds).length = ds.length := List.length_map _
    refine ⟨_, rfl, a, ds, rfl, ha, hz, fun H1 s1 => ?_⟩
    refine ⟨_, rfl, _, rfl, a, _, rfl, .inl (SqL.of (s1 _ _ ha)), b, lv, ls, ds.length, ?_, s1 _ _ hb, hR.mono s1, h8, hm, Nat.le_trans hz.2.1 (by decide), fun H2 s2 => ?_⟩
    · rw [hl]
      rfl
    have s12 := s1.trans s2
    refine ⟨_, rfl, a, _, rfl, .inl ⟨SqL.of (s12 _ _ ha), fun pd npd => ?_⟩⟩
    have s3 := s12.trans (same_upd (o := .tup (nV ds)) npd)
    refine ⟨_, rfl, x, C, dx, [], rfl, s3 _ _ hx, Z.cl, Z.n1, by decide, ?_⟩
    have hpdx : pd ≠ x := fun z => by rw [z, s12 _ _ hx] at npd; cases npd
    have k3 : Kp x H (upd (upd H2 pd (.tup (nV ds))) x (.ins C dx (putF "dial_sizes" (.ref pd) []))) := ((Kp.refl x H).same s3).put
    have hx3 : upd (upd H2 pd (.tup (nV ds))) x (.ins C dx (putF "dial_sizes" (.ref pd) [])) x = some (.ins C dx [("dial_sizes", .ref pd)]) := upd_same
    have hpd3 : upd (upd H2 pd (.tup (nV ds))) x (.ins C dx (putF "dial_sizes" (.ref pd) [])) pd = some (.tup (nV ds)) := by rw [upd_ne hpdx, upd_same]
    generalize upd (upd H2 pd (.tup (nV ds))) x (.ins C dx (putF "dial_sizes" (.ref pd) [])) = H3 at k3 hx3 hpd3 ⊢
    have ha3 := k3 _ _ nax ha
    have hb3 := k3 _ _ nbx hb
    have hR3 := hR.kp nR k3
    refine ⟨_, rfl, true, b, rfl, ⟨_, SqB.ofL hb3⟩, fun D hD => ?_⟩
    refine comp_seq (K := K) (b := true) (a := b) (xs := lv) (fun i σ H4 => (∃ v : Option V, σ = [v, some (.ref a)]) ∧ Same H3 H4 ∧ ∃ vs, H4 D = some (.lst vs) ∧ vs.length = i ∧ Rws H4 HO.tup vs ((ls.take i).map fun l => rst l (iZ ds)))
      ⟨⟨_, rfl⟩, same_upd hD, [], upd_same, rfl, .nil⟩ (fun i σ H4 _ ⟨_, sm, _⟩ => SqB.ofL (sm _ _ hb3)) ?_ ?_
    · rintro i y σ H4 hi ⟨⟨v, rfl⟩, sm, vs, hd, hvl, hvR⟩
      obtain ⟨r, l, rfl, hl2, hrl⟩ := hR3.at hi
      have hil : i < ls.length := (List.getElem?_eq_some_iff.mp hl2).1
      refine ⟨_, rfl, _, rfl, true, true, r, a, l, iZ ds, rfl, SqB.ofL (sm _ _ hrl), SqB.ofL (by rw [← nV_iV]; exact sm _ _ ha3), ?_, pos_iZ hz, fun p H5 np s5 hp => ?_⟩
      · rw [List.length_map]
        exact Nat.le_trans hz.2.1 (by decide)
      refine ⟨vs, s5 _ _ hd, ?_, ⟨_, rfl⟩, same_put (sm.trans s5) hD, vs ++ [.ref p], upd_same, ?_, ?_⟩
      · rw [hvl]
        exact small hil (Nat.le_trans h8 (by decide))
      · rw [List.length_append, hvl]
        rfl
      · rw [List.take_add_one, hl2, List.map_append]
        exact Rws.put (s5 _ _ hd) ((hvR.mono s5).snoc hp)
    · rintro σ H4 ⟨_, sm, vs, hd, hvl, hvR⟩
      have e : ls.take lv.length = ls := List.take_of_length_le (by rw [hR.len]; exact Nat.le_refl _)
      rw [e] at hvR
      refine ⟨D, _, rfl, .inl ⟨SqL.of hd, fun pl npl => ?_⟩⟩
      have s4 := sm.trans (same_upd (o := .tup vs) npl)
      have hx4 := s4 _ _ hx3
      refine ⟨_, rfl, x, C, dx, _, rfl, hx4, Z.cl, Z.n2, (by show 1 < 1000; decide), ?_⟩
      have hplx : pl ≠ x := fun z => by rw [z, sm _ _ hx3] at npl; cases npl
      have hpdx4 := s4 _ _ hpd3
      have hvR4 := hvR.mono (same_upd (o := .tup vs) npl)
      have nT : ∀ xs, upd H4 pl (.tup vs) x ≠ some (.tup xs) := fun xs z => by rw [hx4] at z; cases z
      have k4 : Kp x (upd H4 pl (.tup vs)) (upd (upd H4 pl (.tup vs)) x (.ins C dx (putF "lever_settings" (.ref pl) [("dial_sizes", .ref pd)]))) := (Kp.refl x _).put
      have k4' : Kp x H (upd (upd H4 pl (.tup vs)) x (.ins C dx (putF "lever_settings" (.ref pl) [("dial_sizes", .ref pd)]))) := (k3.same s4).put
      have hx5 : upd (upd H4 pl (.tup vs)) x (.ins C dx (putF "lever_settings" (.ref pl) [("dial_sizes", .ref pd)])) x = some (.ins C dx [("dial_sizes", .ref pd), ("lever_settings", .ref pl)]) := upd_same
      have hpd5 := k4 _ _ hpdx hpdx4
      have hpl5 := k4 _ _ hplx upd_same
      have hvR5 := hvR4.kp nT k4
      generalize upd (upd H4 pl (.tup vs)) x (.ins C dx (putF "lever_settings" (.ref pl) [("dial_sizes", .ref pd)])) = H5 at k4 k4' hx5 hpd5 hpl5 hvR5 ⊢
      refine ⟨_, rfl, _, rfl, b, lv, rfl, k4' _ _ nbx hb, by rw [hR.len]; exact h8, fun pp H6 s6 => ?_⟩
      have hx6 := s6 _ _ hx5
      refine ⟨_, rfl, x, C, dx, _, rfl, hx6, Z.cl, Z.n3, (by show 2 < 1000; decide), ?_⟩
      have k6 : Kp x H6 (upd H6 x (.ins C dx (putF "lever_prices" (.ref pp) [("dial_sizes", .ref pd), ("lever_settings", .ref pl)]))) := (Kp.refl x _).put
      have k6' : Kp x H (upd H6 x (.ins C dx (putF "lever_prices" (.ref pp) [("dial_sizes", .ref pd), ("lever_settings", .ref pl)]))) := (k4'.same s6).put
      have hx7 : upd H6 x (.ins C dx (putF "lever_prices" (.ref pp) [("dial_sizes", .ref pd), ("lever_settings", .ref pl)])) x = some (.ins C dx [("dial_sizes", .ref pd), ("lever_settings", .ref pl), ("lever_prices", .ref pp)]) := upd_same
      have hpd7 := k6 _ _ hpdx (s6 _ _ hpd5)
      have hpl7 := k6 _ _ hplx (s6 _ _ hpl5)
      have nT6 : ∀ xs, H6 x ≠ some (.tup xs) := fun xs z => by rw [hx6] at z; cases z
      have hvR7 := (hvR5.mono s6).kp nT6 k6
      generalize upd H6 x (.ins C dx (putF "lever_prices" (.ref pp) [("dial_sizes", .ref pd), ("lever_settings", .ref pl)])) = H7 at k6 k6' hx7 hpd7 hpl7 hvR7 ⊢
      refine ⟨_, rfl, true, a, ds, rfl, SqB.ofL (k6' _ _ nax ha), hz, fun z H8 s8 => ?_⟩
      have hx8 := s8 _ _ hx7
      refine ⟨_, rfl, x, C, dx, _, rfl, hx8, Z.cl, Z.n4, (by show 3 < 1000; decide), ?_⟩
      have k8 : Kp x H8 (upd H8 x (.ins C dx (putF "least_round" (.int z) [("dial_sizes", .ref pd), ("lever_settings", .ref pl), ("lever_prices", .ref pp)]))) := (Kp.refl x _).put
      have nT8 : ∀ xs, H8 x ≠ some (.tup xs) := fun xs z => by rw [hx8] at z; cases z
      exact k _ (k6'.same s8).put ⟨dx, pd, pl, pp, _, vs, upd_same, k8 _ _ hpdx (s8 _ _ hpd7), k8 _ _ hplx (s8 _ _ hpl7), (hvR7.mono s8).kp nT8 k8⟩
/-! ### its methods -/
theorem scS : FnScope ["self"] ["self"] (defScope sSizes) := ⟨rfl, rfl, rfl, by decide +kernel, rfl, by decide +kernel, by decide +kernel⟩
theorem ok_sizes {f C : Addr} {fd : FuncData} (F : Fun K "sizes" "Vault.sizes" sSizes f fd) (Z : VT K mg C) : FnOk P w K mg base CX0 1 f fd ["self"] (spSizes C) := by
  refine F.ok scS (fun vs H Q E h => ?_) (fun cdv A outer s H vs Q E hr h => ?_)
  · obtain ⟨v, ds, ls, rfl, _⟩ := h
    rfl
  · obtain ⟨v, ds, ls, rfl, ⟨dx, pd, pl, pp, rd, lv, h1, h2, h3, h4⟩, k⟩ := h
    refine ⟨_, pss_one (ps_ret (pe_fld (pv 0) rfl)), ?_⟩
    exact ⟨_, rfl, v, C, dx, _, _, rfl, h1, Z.cl, Z.n1, rfl, k pd h2⟩
theorem scV : FnScope ["self"] ["self"] (defScope sLevers) := ⟨rfl, rfl, rfl, by decide +kernel, rfl, by decide +kernel, by decide +kernel⟩
theorem ok_levers {f C : Addr} {fd : FuncData} (F : Fun K "levers" "Vault.levers" sLevers f fd) (Z : VT K mg C) : FnOk P w K mg base CX0 1 f fd ["self"] (spLevers C) := by
  refine F.ok scV (fun vs H Q E h => ?_) (fun cdv A outer s H vs Q E hr h => ?_)
  · obtain ⟨v, ds, ls, rfl, _⟩ := h
    rfl
  · obtain ⟨v, ds, ls, rfl, ⟨dx, pd, pl, pp, rd, lv, h1, h2, h3, h4⟩, k⟩ := h
    refine ⟨_, pss_one (ps_ret (pe_fld (pv 0) rfl)), ?_⟩
    exact ⟨_, rfl, v, C, dx, _, _, rfl, h1, Z.cl, Z.n2, rfl, k pl lv h3 h4⟩
/-! ### nought -/
theorem scNo : FnScope ["vault"] ["vault"] (defScope sNought) := ⟨rfl, rfl, rfl, by decide +kernel, rfl, by decide +kernel, by decide +kernel⟩
theorem ok_nought {f C fS : Addr} {fd fdS : FuncData} (F : Fun K "nought" "nought" sNought f fd) (T : Txt mg) (Z : VT K mg C) (S : Mt P w K mg base C "sizes" (spSizes C) fS fdS) : FnOk P w K mg base CX0 2 f fd ["vault"] (spNought C) := by
  refine F.ok scNo (fun vs H Q E h => ?_) (fun cdv A outer s H vs Q E hr h => ?_)
  · obtain ⟨v, ds, ls, rfl, _⟩ := h
    rfl
  · obtain ⟨v, ds, ls, rfl, hv, hz, k⟩ := h
    refine ⟨_, pss_one (ps_ret (pe_op op_repT (pe_tup (pa_cons pe_int pa_nil)) (pe_callB call_len_seq (by rfl) T.len PySem.boot_len (pa_cons (pe_meth0 (pv 0) Z.cl S.M S.G hr S.b .nil pass0) pa_nil)))), ?_⟩
    refine ⟨(by show 1 ≤ sizeLine; decide), fun p np => ?_⟩
    have s1 := same_upd (o := .tup [.int 0]) np
    have hv1 := hv.mono s1
    obtain ⟨dx, pd, pl, pp, rd, lv, h1, _⟩ := id hv1
    have hl : (nV ds).length = ds.length := List.length_map _
    refine ⟨_, rfl, v, dx, _, rfl, h1, rfl, v, ds, ls, rfl, hv1, fun pd hpd => ?_⟩
    refine ⟨pd, _, rfl, .inr (SqT.of hpd), p, _, [.int 0], rfl, rfl, SqT.of upd_same, by simp, by omega, by rw [hl]; have := hz.2.1; omega, ?_, fun h1 => ?_, fun h1 q nq => ?_⟩
    · exact rep1 (by rw [hl]; exact Nat.le_trans hz.2.1 (by decide))
    · refine k p _ s1 ?_
      rw [hl] at h1
      rw [show ds.length = 1 by omega]
      exact upd_same
    · refine k q _ (s1.trans (same_upd nq)) ?_
      rw [upd_same, hl]
      have e : ∀ n : Nat, (List.replicate n [V.int 0]).flatten = iV (List.replicate n 0) := fun n => by
        induction n with
        | zero => rfl
        | succ n ih => rw [List.replicate_succ, List.flatten_cons, ih, List.replicate_succ]; rfl
      rw [show ((ds.length : Nat) : Int).toNat = ds.length from Int.toNat_natCast _, e]
/-! ### is_setting -/
theorem scIS : FnScope ["vault", "thing", "sizes"] ["vault", "thing"] (defScope sIsSetting) := ⟨rfl, rfl, rfl, by decide +kernel, rfl, by decide +kernel, by decide +kernel⟩
theorem ndN : ((["notch", "size"] : List Str) ++ ([] : List Str)).Nodup := by decide +kernel
theorem ok_issetting {f C fS fR : Addr} {fd fdS fdR : FuncData} (F : Fun K "is_setting" "is_setting" sIsSetting f fd) (T : Txt mg) (Z : VT K mg C) (S : Mt P w K mg base C "sizes" (spSizes C) fS fdS) (R : Ok P w K mg base 2 "is_row" ["thing", "length"] spRow fR fdR) :
    FnOk P w K mg base CX0 3 f fd ["vault", "thing"] (spIsSetting C) := by
  refine F.ok scIS (fun vs H Q E h => ?_) (fun cdv A outer s H vs Q E hr h => ?_)
  · obtain ⟨v, a, ds, ls, s, rfl, _⟩ := h
    rfl
  · obtain ⟨v, a, ds, ls, st, rfl, hv, hz, ha, hin, k⟩ := h
    have hr1 : Room 1 _ := hr.mono (by decide)
    refine ⟨_, pss_cons (ps_set (i := 2) scIS.nd rfl (Or.inl rfl) (pe_meth0 (pv 0) Z.cl S.M S.G hr1 S.b .nil pass0))
      (pss_cons (ps_if (pw_or (pt_not (pt_val (pe_callB call_isT (by rfl) T.isi bt_isi (pa_cons (pv 1) (pa_cons (pe_bltn (v := .ty "tuple") (by rfl) T.tup bt_tuple rfl) pa_nil)))))
        (pw_or1 (pt_not (pt_val (pe_call R.G hr (by rfl) R.m R.k R.b .nil pass0 (pa_cons (pv 1) (pa_cons (pe_callB call_len_seq (by rfl) T.len PySem.boot_len (pa_cons (pv 2) pa_nil)) pa_nil))))))).pt (pss_one (ps_ret pe_bl)) pss_nil)
      (pss_one (ps_ret (pe_callB (call_allB rfl) (by rfl) T.all bt_all (pa_cons (pe_compN (g := gTup K 2 (gCons (gName 0) (gCons (gName 1) gNil))) (ts := ["notch", "size"]) (fs := []) (js := []) (cl := []) rfl rfl rfl rfl rfl rfl .nil .nil
        (pi_zip (by rfl) T.zip (pa_cons (pv 1) (pa_cons (pv 2) pa_nil)))
        (fun C s₀ H₀ ex pins => pg_tup (n := 2) rfl (pgs_cons (pg_name (i := 0) ndN rfl (Or.inl rfl) (.inr rfl)) (pgs_cons (pg_name (i := 1) ndN rfl (Or.inl rfl) (.inr rfl)) pgs_nil)))
        (fun C s₀ H₀ ex pins => pe_chain op_le op_lt pe_int (pv 0) (pv 1))) pa_nil))))), ?_⟩
    obtain ⟨dx, pd', pl, pp, rd, lv, h1, _⟩ := id hv
    have hl : (nV ds).length = ds.length := List.length_map _
    have hls : (iV st).length = st.length := List.length_map _
    refine ⟨_, rfl, v, dx, _, rfl, h1, rfl, v, ds, ls, rfl, hv, fun pd hpd => ?_⟩
    refine ⟨_, rfl, _, _, _, _, rfl, .tup ha, kit_same K _, _, rfl, iteF ?_⟩
    refine ⟨_, rfl, _, rfl, pd, _, rfl, .inr (SqT.of hpd), false, a, st, ?_, ha, by rw [hin.1]; exact Nat.le_trans hz.2.1 (by decide), fun H1 s1 => ?_⟩
    · rw [hl, hin.1]
      rfl
    refine ⟨_, rfl, iteF ?_⟩
    refine ⟨_, rfl, _, rfl, false, false, a, pd, rfl, ⟨_, SqB.ofT (s1 _ _ ha)⟩, ⟨_, SqB.ofT (s1 _ _ hpd)⟩, fun D hD => ?_⟩
    refine comp_zip (K := K) (xs := iV st) (ys := nV ds) (fun i σ H2 => (∃ v1 v2 : Option V, σ = [v1, v2]) ∧ Same H1 H2 ∧ H2 D = some (.lst ((List.replicate i true).map V.bl)))
      ⟨⟨_, _, rfl⟩, same_upd hD, upd_same⟩ (fun i σ H2 _ ⟨_, sm, _⟩ => ⟨SqB.ofT (sm _ _ (s1 _ _ ha)), SqB.ofT (sm _ _ (s1 _ _ hpd))⟩) ?_ ?_
    · rintro i x y σ H2 p hx hy ⟨⟨v1, v2, rfl⟩, sm, hd⟩ hp
      obtain ⟨x, hx', rfl⟩ := at_ints hx
      obtain ⟨y, hy', rfl⟩ := at_nats hy
      have nDp : D ≠ p := ne_of_none hd hp
      have hil : i < ds.length := (List.getElem?_eq_some_iff.mp hy').1
      obtain ⟨b1, b2⟩ := hin.2 i x y hx' hy'
      refine ⟨p, _, rfl, SqT.of upd_same, rfl, _, _, rfl, _, _, rfl, rfl, ?_⟩
      refine ⟨_, rfl, _, _, rfl, rfl, _, rfl, ?_⟩
      rw [decide_eq_true b1]
      refine iteT ⟨_, rfl, _, _, rfl, rfl, _, by rw [upd_ne nDp]; exact hd, ?_, ⟨_, _, rfl⟩, same_put (sm.trans (same_upd hp)) hD, ?_⟩
      · rw [List.length_map, List.length_replicate]
        exact small hil (Nat.le_trans hz.2.1 (by decide))
      · rw [upd_same, List.replicate_succ', List.map_append]
        show some (HO.lst (_ ++ [V.bl (decide (x < (y : Int)))])) = _
        rw [decide_eq_true b2]
        rfl
    · rintro σ H2 ⟨_, sm, hd⟩
      refine ⟨D, _, rfl, SqL.of hd, ?_⟩
      have e : ∀ n, (List.replicate n true).all id = true := fun n => by simp
      rw [e]
      exact k H2 (s1.trans sm)
/-! ### is_pulls -/
theorem scIP : FnScope ["vault", "thing"] ["vault", "thing"] (defScope sIsPulls) := ⟨rfl, rfl, rfl, by decide +kernel, rfl, by decide +kernel, by decide +kernel⟩
theorem ok_ispulls {f C fL fR : Addr} {fd fdL fdR : FuncData} (F : Fun K "is_pulls" "is_pulls" sIsPulls f fd) (T : Txt mg) (Z : VT K mg C) (L : Mt P w K mg base C "levers" (spLevers C) fL fdL) (R : Ok P w K mg base 2 "is_row" ["thing", "length"] spRow fR fdR) :
    FnOk P w K mg base CX0 3 f fd ["vault", "thing"] (spIsPulls C) := by
  refine F.ok scIP (fun vs H Q E h => ?_) (fun cdv A outer s H vs Q E hr h => ?_)
  · obtain ⟨v, a, ds, ls, ps, rfl, _⟩ := h
    rfl
  · obtain ⟨v, a, ds, ls, ps, rfl, hv, h8, ha, hps, k⟩ := h
    have hr1 : Room 1 _ := hr.mono (by decide)
    refine ⟨_, pss_one (ps_ret (pe_and (pe_callB call_isT (by rfl) T.isi bt_isi (pa_cons (pv 1) (pa_cons (pe_bltn (v := .ty "tuple") (by rfl) T.tup bt_tuple rfl) pa_nil)))
      (pe_one (pe_call R.G hr (by rfl) R.m R.k R.b .nil pass0 (pa_cons (pv 1) (pa_cons (pe_callB call_len_seq (by rfl) T.len PySem.boot_len (pa_cons (pe_meth0 (pv 0) Z.cl L.M L.G hr1 L.b .nil pass0) pa_nil)) pa_nil)))))), ?_⟩
    obtain ⟨dx, pd', pl', pp, rd, lv', h1, _⟩ := id hv
    refine ⟨_, rfl, _, _, _, _, rfl, .tup ha, kit_same K _, _, rfl, iteT ?_⟩
    refine ⟨_, rfl, _, rfl, v, dx, _, rfl, h1, rfl, v, ds, ls, rfl, hv, fun pl lv hpl hR => ?_⟩
    refine ⟨pl, _, rfl, .inr (SqT.of hpl), false, a, ps, ?_, ha, by omega, fun H1 s1 => k H1 s1⟩
    rw [hR.len, hps]
    rfl
/-! ### need_setting, need_pulls -/
theorem scNT : FnScope ["vault", "thing"] ["vault", "thing"] (defScope sNeedSetting) := ⟨rfl, rfl, rfl, by decide +kernel, rfl, by decide +kernel, by decide +kernel⟩
theorem ok_needsetting {f C fS : Addr} {fd fdS : FuncData} (F : Fun K "need_setting" "need_setting" sNeedSetting f fd) (S : Ok P w K mg base 3 "is_setting" ["vault", "thing"] (spIsSetting C) fS fdS) : FnOk P w K mg base CX0 4 f fd ["vault", "thing"] (spNeedSetting C) := by
  refine F.ok scNT (fun vs H Q E h => ?_) (fun cdv A outer s H vs Q E hr h => ?_)
  · obtain ⟨v, a, ds, ls, ps, rfl, _⟩ := h
    rfl
  · obtain ⟨v, a, ds, ls, st, rfl, hv, hz, ha, hin, k⟩ := h
    refine ⟨_, pss_one (ps_if (pt_not (pt_val (pe_call S.G hr (by rfl) S.m S.k S.b .nil pass0 (pa_cons (pv 0) (pa_cons (pv 1) pa_nil))))) pss_never pss_nil), ?_⟩
    exact ⟨_, rfl, _, rfl, v, a, ds, ls, st, rfl, hv, hz, ha, hin, fun H1 s1 => ⟨_, rfl, iteF (k H1 s1)⟩⟩
theorem scNP : FnScope ["vault", "thing"] ["vault", "thing"] (defScope sNeedPulls) := ⟨rfl, rfl, rfl, by decide +kernel, rfl, by decide +kernel, by decide +kernel⟩
theorem ok_needpulls {f C fS : Addr} {fd fdS : FuncData} (F : Fun K "need_pulls" "need_pulls" sNeedPulls f fd) (S : Ok P w K mg base 3 "is_pulls" ["vault", "thing"] (spIsPulls C) fS fdS) : FnOk P w K mg base CX0 4 f fd ["vault", "thing"] (spNeedPulls C) := by
  refine F.ok scNP (fun vs H Q E h => ?_) (fun cdv A outer s H vs Q E hr h => ?_)
  · obtain ⟨v, a, ds, ls, ps, rfl, _⟩ := h
    rfl
  · obtain ⟨v, a, ds, ls, ps, rfl, hv, h8, ha, hps, k⟩ := h
    refine ⟨_, pss_one (ps_if (pt_not (pt_val (pe_call S.G hr (by rfl) S.m S.k S.b .nil pass0 (pa_cons (pv 0) (pa_cons (pv 1) pa_nil))))) pss_never pss_nil), ?_⟩
    exact ⟨_, rfl, _, rfl, v, a, ds, ls, ps, rfl, hv, h8, ha, hps, fun H1 s1 => ⟨_, rfl, iteF (k H1 s1)⟩⟩
/-! ### added -/
theorem scA : FnScope ["vault", "setting", "other", "times", "numbers"] ["vault", "setting", "other", "times"] (defScope sAdded) := ⟨rfl, rfl, rfl, by decide +kernel, rfl, by decide +kernel, by decide +kernel⟩
theorem ndA : ((["notch", "turn"] : List Str) ++ (["times"] : List Str)).Nodup := by decide +kernel
theorem ok_added {f C fS fR : Addr} {fd fdS fdR : FuncData} (F : Fun K "added" "added" sAdded f fd) (T : Txt mg) (Z : VT K mg C) (S : Mt P w K mg base C "sizes" (spSizes C) fS fdS) (Rs : Ok P w K mg base 1 "rests" ["numbers", "sizes"] (spRests K) fR fdR) :
    FnOk P w K mg base CX0 2 f fd ["vault", "setting", "other", "times"] (spAdded C) := by
  refine F.ok scA (fun vs H Q E h => ?_) (fun cdv A outer s H vs Q E hr h => ?_)
  · obtain ⟨v, a, b, ds, ls, st, o, t, rfl, _⟩ := h
    rfl
  · obtain ⟨v, a, b, ds, ls, st, o, t, rfl, hv, hz, ha, hb, ho, k⟩ := h
    refine ⟨_, pss_cons (ps_setC (i := 4) scA.nd rfl (Or.inl rfl) (g := gTup K 2 (gCons (gName 0) (gCons (gName 1) gNil))) (ts := ["notch", "turn"]) (fs := ["times"]) (js := [3]) rfl rfl rfl rfl rfl rfl (.cons rfl .nil) (.cons rfl rfl (.inl rfl) rfl rfl .nil)
        (pi_zip (by rfl) T.zip (pa_cons (pv 1) (pa_cons (pv 2) pa_nil)))
        (fun C s₀ H₀ ex pins => pg_tup (n := 2) rfl (pgs_cons (pg_name (i := 0) ndA rfl (Or.inl rfl) (.inr rfl)) (pgs_cons (pg_name (i := 1) ndA rfl (Or.inl rfl) (.inr rfl)) pgs_nil)))
        (fun C s₀ H₀ ex pins => pe_op op_add (pv 0) (pe_op op_mul (pv 2) (pv 1))))
      (pss_one (ps_ret (pe_call Rs.G hr (by rfl) Rs.m Rs.k Rs.b .nil pass0 (pa_cons (pv 4) (pa_cons (pe_meth0 (pv 0) Z.cl S.M S.G hr S.b .nil pass0) pa_nil))))), ?_⟩
    refine ⟨_, rfl, _, rfl, false, false, a, b, rfl, ⟨_, SqB.ofT ha⟩, ⟨_, SqB.ofT hb⟩, fun D hD => ?_⟩
    refine comp_zip (K := K) (xs := iV st) (ys := iV o) (fun i σ H2 => (∃ v1 v2 : Option V, σ = [v1, v2, some (.int t)]) ∧ Same H H2 ∧ H2 D = some (.lst (iV ((List.zipWith (fun x y => x + t * y) st o).take i))))
      ⟨⟨_, _, rfl⟩, same_upd hD, upd_same⟩ (fun i σ H2 _ ⟨_, sm, _⟩ => ⟨SqB.ofT (sm _ _ ha), SqB.ofT (sm _ _ hb)⟩) ?_ ?_
    · rintro i x y σ H2 p hx hy ⟨⟨v1, v2, rfl⟩, sm, hd⟩ hp
      obtain ⟨x, hx', rfl⟩ := at_ints hx
      obtain ⟨y, hy', rfl⟩ := at_ints hy
      have nDp : D ≠ p := ne_of_none hd hp
      have hil : i < o.length := (List.getElem?_eq_some_iff.mp hy').1
      obtain ⟨b1, b2⟩ := ho.2 y (List.mem_of_getElem? hy')
      have ho1 := ho.1
      refine ⟨p, _, rfl, SqT.of upd_same, rfl, _, _, rfl, _, _, rfl, rfl, ?_⟩
      refine ⟨_, rfl, _, rfl, _, rfl, _, _, rfl, rfl, .inr ⟨by omega, by omega⟩, _, _, rfl, rfl, ?_⟩
      refine ⟨_, by rw [upd_ne nDp]; exact hd, ?_, ⟨_, _, rfl⟩, same_put (sm.trans (same_upd hp)) hD, ?_⟩
      · rw [List.length_map, List.length_take]
        exact Nat.lt_of_le_of_lt (Nat.min_le_left _ _) (small hil ho1)
      · rw [upd_same, zip_at hx' hy']
    · rintro σ H2 ⟨_, sm, hd⟩
      have e : (List.zipWith (fun x y => x + t * y) st o).take (min (iV st).length (iV o).length) = List.zipWith (fun x y => x + t * y) st o := by
        refine List.take_of_length_le ?_
        rw [List.length_zipWith, List.length_map, List.length_map]
        exact Nat.le_refl _
      rw [e] at hd
      have hv2 := hv.mono sm
      obtain ⟨dx, pd', pl', pp, rd, lv', h1, _⟩ := id hv2
      refine ⟨_, rfl, _, rfl, v, dx, _, rfl, h1, rfl, v, ds, ls, rfl, hv2, fun pd hpd => ?_⟩
      refine ⟨true, false, D, pd, _, iZ ds, rfl, SqB.ofL hd, SqB.ofT (by rw [← nV_iV]; exact hpd), ?_, pos_iZ hz, fun p H3 np s3 hp => k p H3 (sm.trans s3) hp⟩
      rw [List.length_map]
      exact Nat.le_trans hz.2.1 (by decide)
/-! ### turned -/
theorem scT : FnScope ["vault", "setting", "pulls", "reached", "lever", "times"] ["vault", "setting", "pulls"] (defScope sTurned) := ⟨rfl, rfl, rfl, by decide +kernel, rfl, by decide +kernel, by decide +kernel⟩
theorem ok_turned {f C fS fP fL fA : Addr} {fd fdS fdP fdL fdA : FuncData} (F : Fun K "turned" "turned" sTurned f fd) (T : Txt mg) (Z : VT K mg C) (S : Ok P w K mg base 4 "need_setting" ["vault", "thing"] (spNeedSetting C) fS fdS) (NP : Ok P w K mg base 4 "need_pulls" ["vault", "thing"] (spNeedPulls C) fP fdP)
    (L : Mt P w K mg base C "levers" (spLevers C) fL fdL) (AD : Ok P w K mg base 2 "added" ["vault", "setting", "other", "times"] (spAdded C) fA fdA) : FnOk P w K mg base CX0 5 f fd ["vault", "setting", "pulls"] (spTurned C) := by
  refine F.ok scT (fun vs H Q E h => ?_) (fun cdv A outer s H vs Q E hr h => ?_)
  · obtain ⟨v, a, b, ds, ls, st, ps, rfl, _⟩ := h
    rfl
  · obtain ⟨v, a, b, ds, ls, st, ps, rfl, hv, hz, h8, hsm, ha, hin, hb, hps, k⟩ := h
    have hr1 : Room 1 _ := hr.mono (by decide)
    have hr2 : Room 2 _ := hr.mono (by decide)
    refine ⟨_, pss_cons (ps_expr (pe_call S.G hr (by rfl) S.m S.k S.b .nil pass0 (pa_cons (pv 0) (pa_cons (pv 1) pa_nil))))
      (pss_cons (ps_expr (pe_call NP.G hr (by rfl) NP.m NP.k NP.b .nil pass0 (pa_cons (pv 0) (pa_cons (pv 2) pa_nil))))
      (pss_cons (ps_set (i := 3) scT.nd rfl (Or.inl rfl) (pv 1))
      (pss_cons (ps_for PassesOwn.never rfl (pi_zip (by rfl) T.zip (pa_cons (pe_meth0 (pv 0) Z.cl L.M L.G hr1 L.b .nil pass0) (pa_cons (pv 2) pa_nil))) (pg_tup rfl (pgs_cons (pg_name (i := 4) scT.nd rfl (Or.inl rfl)) (pgs_cons (pg_name (i := 5) scT.nd rfl (Or.inl rfl)) pgs_nil)))
        (pss_one (ps_set (i := 3) scT.nd rfl (Or.inl rfl) (pe_call AD.G hr2 (by rfl) AD.m AD.k AD.b .nil pass0 (pa_cons (pv 0) (pa_cons (pv 3) (pa_cons (pv 4) (pa_cons (pv 5) pa_nil))))))))
      (pss_one (ps_ret (pv 3)))))), ?_⟩
    refine ⟨_, rfl, _, rfl, v, a, ds, ls, st, rfl, hv, hz, ha, hin, fun H1 s1 => ?_⟩
    refine ⟨_, rfl, _, rfl, v, b, ds, ls, ps, rfl, hv.mono s1, h8, s1 _ _ hb, hps, fun H2 s2 => ?_⟩
    have s12 := s1.trans s2
    have hv2 := hv.mono s12
    obtain ⟨dx, pd', pl', pp, rd, lv', h1, _⟩ := id hv2
    refine ⟨_, rfl, _, rfl, v, dx, _, rfl, h1, rfl, v, ds, ls, rfl, hv2, fun pl lv hpl hR => ?_⟩
    have hb2 := s12 _ _ hb
    refine ⟨_, rfl, false, false, pl, b, rfl, ⟨_, SqB.ofT hpl⟩, ⟨_, SqB.ofT hb2⟩, for_zip (K := K) (xs := lv) (ys := iV ps) (fun i σ H3 => ∃ (r : Addr) (v1 v2 : Option V), σ = [some (.ref v), some (.ref a), some (.ref b), some (.ref r), v1, v2] ∧ Same H2 H3 ∧
      H3 r = some (.tup (iV (((ls.zip ps).take i).foldl (fun r lt => addS ds r lt.1 lt.2) st)))) ⟨a, _, _, rfl, Same.refl _, s12 _ _ ha⟩ (fun i σ H3 _ ⟨_, _, _, _, sm, _⟩ => ⟨SqB.ofT (sm _ _ hpl), SqB.ofT (sm _ _ hb2)⟩) ?_ ?_⟩
    · rintro i x y σ H3 p hx hy ⟨r, v1, v2, rfl, sm, hr3⟩ hp
      obtain ⟨c, l, rfl, hl2, hcl⟩ := hR.at hx
      obtain ⟨t, ht, rfl⟩ := at_ints hy
      have hzip : (ls.zip ps)[i]? = some (l, t) := List.getElem?_zip_eq_some.mpr ⟨hl2, ht⟩
      have sp := same_upd (o := .tup [.ref c, .int t]) hp
      refine ⟨p, _, rfl, SqT.of upd_same, rfl, _, _, rfl, _, _, rfl, rfl, ?_⟩
      refine ⟨_, rfl, _, rfl, _, rfl, _, rfl, v, r, c, ds, ls, _, l, t, rfl, hv2.mono (sm.trans sp), hz, sp _ _ hr3, sp _ _ (sm _ _ hcl), hsm l (List.mem_of_getElem? hl2), fun q H4 s4 hq => ?_⟩
      refine ⟨q, _, _, rfl, sm.trans (sp.trans s4), ?_⟩
      rw [take_fold _ _ _ _ _ hzip]
      exact hq
    · rintro σ H3 ⟨r, v1, v2, rfl, sm, hr3⟩
      have e : (ls.zip ps).take (min lv.length (iV ps).length) = ls.zip ps := by
        refine List.take_of_length_le ?_
        rw [List.length_zip, hR.len, List.length_map]
        exact Nat.le_refl _
      rw [e] at hr3
      exact ⟨_, rfl, k r H3 (s12.trans sm) hr3⟩
/-! ### pulled -/
theorem scP : FnScope ["vault", "setting", "lever", "times", "levers"] ["vault", "setting", "lever", "times"] (defScope sPulled) := ⟨rfl, rfl, rfl, by decide +kernel, rfl, by decide +kernel, by decide +kernel⟩
theorem ok_pulled {f C fS fL fA fI fW : Addr} {dv : Value} {fd fdS fdL fdA fdI fdW : FuncData} (F : FunD K "pulled" "pulled" sPulled dv f fd) (T : Txt mg) (Z : VT K mg C) (S : Ok P w K mg base 4 "need_setting" ["vault", "thing"] (spNeedSetting C) fS fdS)
    (L : Mt P w K mg base C "levers" (spLevers C) fL fdL) (AD : Ok P w K mg base 2 "added" ["vault", "setting", "other", "times"] (spAdded C) fA fdA) (I : Ok P w K mg base 2 "is_within" ["thing", "least", "most"] spWithin fI fdI) (W : Ok P w K mg base 1 "is_whole" ["thing"] spWhole fW fdW) :
    FnOk P w K mg base CX0 5 f fd ["vault", "setting", "lever", "times"] (spPulled C) := by
  refine F.ok scP (fun vs H Q E h => ?_) (fun cdv A outer s H vs Q E hr h => ?_)
  · obtain ⟨v, a, ds, ls, st, n, l, t, rfl, _⟩ := h
    rfl
  · obtain ⟨v, a, ds, ls, st, n, l, t, rfl, hv, hz, h8, hl, hsm, ha, hin, k⟩ := h
    have hr1 : Room 1 _ := hr.mono (by decide)
    have hr2 : Room 2 _ := hr.mono (by decide)
    refine ⟨_, pss_cons (ps_expr (pe_call S.G hr (by rfl) S.m S.k S.b .nil pass0 (pa_cons (pv 0) (pa_cons (pv 1) pa_nil))))
      (pss_cons (ps_set (i := 4) scP.nd rfl (Or.inl rfl) (pe_meth0 (pv 0) Z.cl L.M L.G hr1 L.b .nil pass0))
      (pss_cons (ps_if (pt_not (pt_val (pe_call I.G hr2 (by rfl) I.m I.k I.b .nil pass0 (pa_cons (pv 2) (pa_cons pe_int (pa_cons (pe_op op_sub (pe_callB call_len_seq (by rfl) T.len PySem.boot_len (pa_cons (pv 4) pa_nil)) pe_int) pa_nil)))))) pss_never pss_nil)
      (pss_cons (ps_if (pt_not (pt_val (pe_call W.G hr1 (by rfl) W.m W.k W.b .nil pass0 (pa_cons (pv 3) pa_nil)))) pss_never pss_nil)
      (pss_one (ps_ret (pe_call AD.G hr2 (by rfl) AD.m AD.k AD.b .nil pass0 (pa_cons (pv 0) (pa_cons (pv 1) (pa_cons (pe_ix ix_tup (pv 4) (pv 2) (fun _ _ => rfl)) (pa_cons (pv 3) pa_nil)))))))))), ?_⟩
    refine ⟨_, rfl, _, rfl, v, a, ds, ls, st, rfl, hv, hz, ha, hin, fun H1 s1 => ?_⟩
    have hv1 := hv.mono s1
    obtain ⟨dx, pd', pl', pp, rd, lv', h1, _⟩ := id hv1
    refine ⟨_, rfl, v, dx, _, rfl, h1, rfl, v, ds, ls, rfl, hv1, fun pl lv hpl hR => ?_⟩
    have hnl : n < ls.length := (List.getElem?_eq_some_iff.mp hl).1
    have hlv := hR.len
    refine ⟨_, rfl, _, rfl, pl, lv, rfl, .inr (SqT.of hpl), _, _, rfl, rfl, _, _, _, rfl, by omega, by omega, _, rfl, iteF ?_⟩
    refine ⟨_, rfl, t, rfl, _, rfl, iteF ?_⟩
    obtain ⟨x, hx⟩ : ∃ x, lv[n]? = some x := ⟨_, List.getElem?_eq_getElem (by omega)⟩
    obtain ⟨c, l', rfl, hl', hcl⟩ := hR.at hx
    rw [hl] at hl'
    cases hl'
    refine ⟨_, rfl, _, rfl, _, rfl, _, rfl, pl, lv, n, _, rfl, rfl, SqT.of hpl, atI_nat hx, _, rfl, v, a, c, ds, ls, st, l, t, rfl, hv1, hz, s1 _ _ ha, hcl, hsm, fun p H2 s2 hp => k p H2 (s1.trans s2) hp⟩
/-! ### between -/
theorem scB : FnScope ["vault", "one", "other"] ["vault", "one", "other"] (defScope sBetween) := ⟨rfl, rfl, rfl, by decide +kernel, rfl, by decide +kernel, by decide +kernel⟩
theorem InB.sml {ds : List Nat} {s : List Int} (hz : Szs ds) (h : InB ds s) : Sml s := by
  refine ⟨by rw [h.1]; exact Nat.le_trans hz.2.1 (by decide), fun y hy => ?_⟩
  obtain ⟨i, hi, e⟩ := List.getElem_of_mem hy
  have hi' : i < ds.length := by rw [← h.1]; exact hi
  have := h.2 i y ds[i] (by rw [List.getElem?_eq_getElem hi, e]) (List.getElem?_eq_getElem hi')
  have hd := hz.2.2 _ (List.getElem_mem hi')
  omega
theorem ok_between {f C fS fA : Addr} {fd fdS fdA : FuncData} (F : Fun K "between" "between" sBetween f fd) (S : Ok P w K mg base 4 "need_setting" ["vault", "thing"] (spNeedSetting C) fS fdS)
    (AD : Ok P w K mg base 2 "added" ["vault", "setting", "other", "times"] (spAdded C) fA fdA) : FnOk P w K mg base CX0 5 f fd ["vault", "one", "other"] (spBetween C) := by
  refine F.ok scB (fun vs H Q E h => ?_) (fun cdv A outer s H vs Q E hr h => ?_)
  · obtain ⟨v, a, b, ds, ls, st, o, rfl, _⟩ := h
    rfl
  · obtain ⟨v, a, b, ds, ls, st, o, rfl, hv, hz, ha, hin, hb, hio, k⟩ := h
    have hr2 : Room 2 _ := hr.mono (by decide)
    refine ⟨_, pss_cons (ps_expr (pe_call S.G hr (by rfl) S.m S.k S.b .nil pass0 (pa_cons (pv 0) (pa_cons (pv 1) pa_nil))))
      (pss_cons (ps_expr (pe_call S.G hr (by rfl) S.m S.k S.b .nil pass0 (pa_cons (pv 0) (pa_cons (pv 2) pa_nil))))
      (pss_one (ps_ret (pe_call AD.G hr2 (by rfl) AD.m AD.k AD.b .nil pass0 (pa_cons (pv 0) (pa_cons (pv 2) (pa_cons (pv 1) (pa_cons (pe_un un_neg pe_int) pa_nil)))))))), ?_⟩
    refine ⟨_, rfl, _, rfl, v, a, ds, ls, st, rfl, hv, hz, ha, hin, fun H1 s1 => ?_⟩
    refine ⟨_, rfl, _, rfl, v, b, ds, ls, o, rfl, hv.mono s1, hz, s1 _ _ hb, hio, fun H2 s2 => ?_⟩
    have s12 := s1.trans s2
    exact ⟨_, rfl, _, rfl, _, rfl, _, rfl, v, b, a, ds, ls, o, st, -1, rfl, hv.mono s12, hz, s12 _ _ hb, s12 _ _ ha, hin.sml hz, fun p H3 s3 hp => k p H3 (s12.trans s3) hp⟩
end
end K14
namespace K14
open PySem L2
/-! ### the law's own defs -/
inductive Prs (H : Hp) : List V → List (Nat × Int) → Prop where
  | nil : Prs H [] []
  | cons {a : Addr} {k : Nat} {t : Int} {vs : List V} {ds : List (Nat × Int)} (h : H a = some (.tup [.int (k : Nat), .int t])) (r : Prs H vs ds) : Prs H (.ref a :: vs) ((k, t) :: ds)
theorem Prs.mono {H H' : Hp} {vs : List V} {ds : List (Nat × Int)} (q : Prs H vs ds) (s : Same H H') : Prs H' vs ds := by
  induction q with
  | nil => exact .nil
  | cons h r ih => exact .cons (s _ _ h) ih
theorem Prs.len {H : Hp} {vs : List V} {ds : List (Nat × Int)} (q : Prs H vs ds) : vs.length = ds.length := by
  induction q with
  | nil => rfl
  | cons h r ih => exact congrArg (· + 1) ih
theorem Prs.at {H : Hp} {vs : List V} {ds : List (Nat × Int)} {i : Nat} {x : V} (q : Prs H vs ds) (e : vs[i]? = some x) : ∃ (a : Addr) (k : Nat) (t : Int), x = .ref a ∧ ds[i]? = some (k, t) ∧ H a = some (.tup [.int (k : Nat), .int t]) := by
  induction q generalizing i with
  | nil => rw [List.getElem?_nil] at e; cases e
  | cons h r ih =>
    cases i with
    | zero => cases e; exact ⟨_, _, _, rfl, rfl, h⟩
    | succ i => exact ih e
theorem Prs.snoc {H : Hp} {a : Addr} {k : Nat} {t : Int} (h : H a = some (.tup [.int (k : Nat), .int t])) {vs : List V} {ds : List (Nat × Int)} (q : Prs H vs ds) : Prs H (vs ++ [.ref a]) (ds ++ [(k, t)]) := by
  induction q with
  | nil => exact .cons h .nil
  | cons h' r ih => exact .cons h' ih
theorem Prs.put {H : Hp} {D : Addr} {o : HO} {xs : List V} (hD : H D = some (.lst xs)) {vs : List V} {ds : List (Nat × Int)} (q : Prs H vs ds) : Prs (upd H D o) vs ds := by
  induction q with
  | nil => exact .nil
  | cons h r ih => exact .cons (by rw [upd_ne (ne_of h hD (by intro z; cases z))]; exact h) ih
theorem Prs.take {H : Hp} {vs : List V} {ds : List (Nat × Int)} (n : Nat) (q : Prs H vs ds) : Prs H (vs.take n) (ds.take n) := by
  induction q generalizing n with
  | nil => rw [List.take_nil, List.take_nil]; exact .nil
  | cons h r ih =>
    cases n with
    | zero => exact .nil
    | succ n => exact .cons h (ih n)
theorem Prs.drop {H : Hp} {vs : List V} {ds : List (Nat × Int)} (n : Nat) (q : Prs H vs ds) : Prs H (vs.drop n) (ds.drop n) := by
  induction q generalizing n with
  | nil => rw [List.drop_nil, List.drop_nil]; exact .nil
  | cons h r ih =>
    cases n with
    | zero => exact .cons h r
    | succ n => exact ih n
theorem Rws.off {H : Hp} {D : Addr} {o : HO} {mk : List V → HO} {vs : List V} {ls : List (List Int)} (hn : ∀ x ∈ vs, x ≠ V.ref D) (h : Rws H mk vs ls) : Rws (upd H D o) mk vs ls := by
  induction h with
  | nil => exact .nil
  | cons h r ih => exact .cons (by rw [upd_ne (fun z => hn _ List.mem_cons_self (by rw [z]))]; exact h) (ih fun x hx => hn x (List.mem_cons_of_mem _ hx))
def cnt (n : Nat) (ds : List (Nat × Int)) : List Int := ds.foldl (fun f d => f.set d.1 (f.getD d.1 0 + d.2)) (List.replicate n 0)
def spCell (K : PySem.W.Frag) : Sp := fun vs H Q _ => ∃ (a : Addr) (k : Nat) (ns : List Int), vs = [.ref a, .int k] ∧ SqL K H a (iV ns) ∧ k ≤ 1000 ∧ ∀ z, Q (.int z) H
def spMix : Sp := fun vs H Q _ => ∃ (c k : Int), vs = [.int c, .int k] ∧ ∀ z, 0 ≤ z → z < 2147483587 → Q (.int z) H
def spNumber : Sp := fun vs H Q _ => ∃ (c k : Int), vs = [.int c, .int k] ∧ ∀ z H', Same H H' → Q (.int z) H'
def spLSizes : Sp := fun vs H Q _ => ∃ (c : Int), vs = [.int c] ∧ ∀ (p : Addr) (ds : List Nat) (H' : Hp), H p = none → Same H H' → H' p = some (.lst (nV ds)) → Szs ds → Q (.ref p) H'
def spLLevers (K : PySem.W.Frag) : Sp := fun vs H Q _ => ∃ (a : Addr) (st many dials : Nat) (ns : List Int), vs = [.ref a, .int st, .int many, .int dials] ∧ SqL K H a (iV ns) ∧ st ≤ 10 ∧ many ≤ 8 ∧ dials ≤ 6 ∧
  ∀ (p : Addr) (lv : List V) (ls : List (List Int)) (H' : Hp), H p = none → Same H H' → H' p = some (.lst lv) → Rws H' HO.lst lv ls → ls.length = many → (∀ l ∈ ls, l.length = dials) → Q (.ref p) H'
def spCounted : Sp := fun vs H Q _ => ∃ (n : Nat) (a : Addr) (dv : List V) (ds : List (Nat × Int)), vs = [.int n, .ref a] ∧ n ≤ 8 ∧ H a = some (.lst dv) ∧ Prs H dv ds ∧ (∀ d ∈ ds, d.1 < n) ∧ ∀ p H', Same H H' → H' p = some (.tup (iV (cnt n ds))) → Q (.ref p) H'
section
variable {P : Program} {w : World} {K : PySem.W.Frag} {mg : Str → Option Value} {base : Heap}
theorem mb (x m : Int) (h : 0 < m) (h2 : m ≤ 2 ^ 64) : -(2 ^ 64) < x % m ∧ x % m < 2 ^ 64 := by
  have h1 := Int.emod_nonneg x (Int.ne_of_gt h)
  have h3 := Int.emod_lt_of_pos x h
  omega
theorem scCe : FnScope ["_law_script", "_law_k", "_law_number_here"] ["_law_script", "_law_k"] (defScope sCell) := ⟨rfl, rfl, rfl, by decide +kernel, rfl, by decide +kernel, by decide +kernel⟩
theorem ok_cell {f : Addr} {fd : FuncData} (F : Fun K "_law_cell" "_law_cell" sCell f fd) (T : Txt mg) : FnOk P w K mg base CX0 1 f fd ["_law_script", "_law_k"] (spCell K) := by
  refine F.ok scCe (fun vs H Q E h => ?_) (fun cdv A outer s H vs Q E hr h => ?_)
  · obtain ⟨a, k, ns, rfl, _⟩ := h
    rfl
  · obtain ⟨a, k, ns, rfl, hS, hk, kk⟩ := h
    refine ⟨_, pss_cons (ps_if (pt_cmpR op_lt (pv 1) (pe_callB call_len_seq (by rfl) T.len PySem.boot_len (pa_cons (pv 0) pa_nil)) (nomark _)) (pss_one (ps_ret (pe_ix ix_list (pv 0) (pv 1) (fun _ _ => rfl)))) pss_nil)
      (pss_cons (ps_set (i := 2) scCe.nd rfl (Or.inl rfl) (pe_op op_add (pe_op op_mul pe_int (pv 1)) pe_int))
      (pss_cons (ps_if (pt_cmpR op_gt (pe_callB call_len_seq (by rfl) T.len PySem.boot_len (pa_cons (pv 0) pa_nil)) pe_int (nomark _))
        (pss_one (ps_set (i := 2) scCe.nd rfl (Or.inl rfl) (pe_op op_mod (pe_op op_add (pe_ix ix_list (pv 0) (pe_op op_mod (pe_op op_mul pe_int (pv 1)) (pe_callB call_len_seq (by rfl) T.len PySem.boot_len (pa_cons (pv 0) pa_nil))) (fun _ _ => rfl)) (pe_op op_mul pe_int (pv 1))) pe_int))) pss_nil)
      (pss_one (ps_ret (pe_op op_mod (pe_op op_mul (pv 2) (pv 2)) pe_int))))), ?_⟩
    have hl : (iV ns).length = ns.length := List.length_map _
    refine ⟨_, rfl, _, rfl, a, _, rfl, .inl hS, _, _, rfl, rfl, _, rfl, iteD (fun z => ?_) (fun z => ?_)⟩
    · rw [hl] at z
      have hkl : k < ns.length := by omega
      have hat : (iV ns)[k]? = some (.int ns[k]) := by rw [List.getElem?_map, List.getElem?_eq_getElem hkl]; rfl
      exact ⟨_, rfl, _, rfl, a, _, k, _, rfl, rfl, hS, atI_nat hat, kk _⟩
    · refine ⟨_, rfl, _, _, rfl, rfl, .inl ⟨by decide, by decide⟩, _, _, rfl, rfl, ?_⟩
      refine ⟨_, rfl, a, _, rfl, .inl hS, _, _, rfl, rfl, _, rfl, iteD (fun z2 => ?_) (fun z2 => ?_)⟩
      · have z2' : 0 < ns.length := by rw [hl] at z2; omega
        have hlt : 7 * k % ns.length < ns.length := Nat.mod_lt _ z2'
        have hat : atI (iV ns) (7 * (k : Int) % (((iV ns).length : Nat) : Int)) = some (.int (ns[7 * k % ns.length]'hlt)) := by
          have e : 7 * (k : Int) % (((iV ns).length : Nat) : Int) = ((7 * k % ns.length : Nat) : Int) := by rw [hl, Int.natCast_emod, Int.natCast_mul]; rfl
          rw [e]
          exact atI_nat (by rw [List.getElem?_map, List.getElem?_eq_getElem hlt]; rfl)
        refine ⟨_, rfl, _, rfl, _, _, rfl, rfl, .inl ⟨by decide, by decide⟩, _, rfl, a, _, rfl, .inl hS, _, _, rfl, rfl, (by show (0 : Int) < (((iV ns).length : Nat) : Int); rw [hl]; omega), a, _, _, _, rfl, rfl, hS, hat, ?_⟩
        refine ⟨_, rfl, _, _, rfl, rfl, .inl ⟨by decide, by decide⟩, _, _, rfl, rfl, _, _, rfl, rfl, (by show (0 : Int) < 2147483647; decide), ?_⟩
        exact ⟨_, rfl, _, rfl, _, _, rfl, rfl, .inl (mb _ _ (by decide) (by decide)), _, _, rfl, rfl, (by show (0 : Int) < 2147483629; decide), kk _⟩
      · exact ⟨_, rfl, _, rfl, _, _, rfl, rfl, .inl ⟨by show -(2 ^ 64) < 7919 * (k : Int) + 5; omega, by show 7919 * (k : Int) + 5 < 2 ^ 64; omega⟩, _, _, rfl, rfl, (by show (0 : Int) < 2147483629; decide), kk _⟩
theorem scMi : FnScope ["_law_cell_here", "_law_k", "_law_number_here"] ["_law_cell_here", "_law_k"] (defScope sMix) := ⟨rfl, rfl, rfl, by decide +kernel, rfl, by decide +kernel, by decide +kernel⟩
theorem ok_mix {f : Addr} {fd : FuncData} (F : Fun K "_law_mix" "_law_mix" sMix f fd) : FnOk P w K mg base CX0 1 f fd ["_law_cell_here", "_law_k"] spMix := by
  refine F.ok scMi (fun vs H Q E h => ?_) (fun cdv A outer s H vs Q E hr h => ?_)
  · obtain ⟨c, k, rfl, _⟩ := h
    rfl
  · obtain ⟨c, k, rfl, kk⟩ := h
    refine ⟨_, pss_cons (ps_set (i := 2) scMi.nd rfl (Or.inl rfl) (pe_op op_mod (pe_op op_add (pe_op op_add (pv 0) (pe_op op_mul pe_int (pv 1))) pe_int) pe_int))
      (pss_cons (ps_set (i := 2) scMi.nd rfl (Or.inl rfl) (pe_op op_mod (pe_op op_add (pe_op op_mul (pv 2) (pv 2)) (pe_op op_mul pe_int (pv 1))) pe_int))
      (pss_one (ps_ret (pe_op op_mod (pe_op op_add (pe_op op_add (pe_op op_mul (pv 2) (pv 2)) (pe_op op_mul pe_int (pv 2))) (pv 1)) pe_int)))), ?_⟩
    refine ⟨_, rfl, _, rfl, _, _, rfl, rfl, .inl ⟨by decide, by decide⟩, _, _, rfl, rfl, _, _, rfl, rfl, _, _, rfl, rfl, (by show (0 : Int) < 2147483647; decide), ?_⟩
    refine ⟨_, rfl, _, rfl, _, _, rfl, rfl, .inl (mb _ _ (by decide) (by decide)), _, rfl, _, _, rfl, rfl, .inl ⟨by decide, by decide⟩, _, _, rfl, rfl, _, _, rfl, rfl, (by show (0 : Int) < 2147483629; decide), ?_⟩
    refine ⟨_, rfl, _, rfl, _, _, rfl, rfl, .inl (mb _ _ (by decide) (by decide)), _, rfl, _, _, rfl, rfl, .inl ⟨by decide, by decide⟩, _, _, rfl, rfl, _, rfl, _, _, rfl, rfl, _, _, rfl, rfl, (by show (0 : Int) < 2147483587; decide), ?_⟩
    exact kk _ (Int.emod_nonneg _ (by decide)) (Int.emod_lt_of_pos _ (by decide))
theorem scNu : FnScope ["_law_cell_here", "_law_k", "_law_number_here", "_law_far"] ["_law_cell_here", "_law_k"] (defScope sNumber) := ⟨rfl, rfl, rfl, by decide +kernel, rfl, by decide +kernel, by decide +kernel⟩
theorem ok_number {f fM : Addr} {fd fdM : FuncData} (F : Fun K "_law_number" "_law_number" sNumber f fd) (M : Ok P w K mg base 1 "_law_mix" ["_law_cell_here", "_law_k"] spMix fM fdM) : FnOk P w K mg base CX0 2 f fd ["_law_cell_here", "_law_k"] spNumber := by
  refine F.ok scNu (fun vs H Q E h => ?_) (fun cdv A outer s H vs Q E hr h => ?_)
  · obtain ⟨c, k, rfl, _⟩ := h
    rfl
  · obtain ⟨c, k, rfl, kk⟩ := h
    refine ⟨_, pss_cons (ps_set (i := 2) scNu.nd rfl (Or.inl rfl) (pe_call M.G hr (by rfl) M.m M.k M.b .nil pass0 (pa_cons (pv 0) (pa_cons (pv 1) pa_nil))))
      (pss_cons (ps_if (pt_cmpR op_eq (pe_op op_mod (pv 2) pe_int) pe_int (nomark _)) (pss_one (ps_ret (pe_op op_sub (pe_op op_mod (pe_op op_fdiv (pv 2) pe_int) pe_int) pe_int))) pss_nil)
      (pss_cons (ps_if (pt_cmpR op_eq (pe_op op_mod (pv 2) pe_int) pe_int (nomark _)) (pss_one (ps_ret (pe_op op_mod (pe_op op_fdiv (pv 2) pe_int) pe_int))) pss_nil)
      (pss_cons (ps_set (i := 3) scNu.nd rfl (Or.inl rfl) (pe_op op_add (pe_op op_mul (pe_op op_mod (pe_call M.G hr (by rfl) M.m M.k M.b .nil pass0 (pa_cons (pv 0) (pa_cons (pe_op op_add (pv 1) pe_int) pa_nil))) (pe_op op_pow pe_int pe_int)) (pe_op op_pow pe_int pe_int)) (pv 2)))
      (pss_one (ps_ret (pe_ix ix_list (pe_lst (pa_cons (pv 3) (pa_cons (pe_op op_sub pe_int (pv 3)) pa_nil))) (pe_op op_mod (pe_op op_fdiv (pv 2) pe_int) pe_int) (fun _ _ => rfl))))))), ?_⟩
    refine ⟨_, rfl, _, rfl, c, k, rfl, fun n n0 n1 => ?_⟩
    refine ⟨_, rfl, _, _, rfl, rfl, (by show (0 : Int) < 3; decide), rfl, _, rfl, iteD (fun _ => ?_) (fun _ => ?_)⟩
    · exact ⟨_, rfl, _, _, rfl, rfl, ⟨by decide, by decide⟩, _, _, rfl, rfl, (by show (0 : Int) < 9; decide), _, _, rfl, rfl, kk _ _ (Same.refl _)⟩
    refine ⟨_, rfl, _, _, rfl, rfl, (by show (0 : Int) < 3; decide), rfl, _, rfl, iteD (fun _ => ?_) (fun _ => ?_)⟩
    · exact ⟨_, rfl, _, _, rfl, rfl, ⟨by decide, by decide⟩, _, _, rfl, rfl, (by show (0 : Int) < 720; decide), kk _ _ (Same.refl _)⟩
    refine ⟨_, rfl, _, rfl, _, _, rfl, rfl, c, k + 61, rfl, fun m m0 m1 => ?_⟩
    refine ⟨_, _, rfl, rfl, ⟨by decide, by decide, by decide⟩, _, _, rfl, rfl, (by show (0 : Int) < 10 ^ 9; decide), _, _, rfl, rfl, ⟨by decide, by decide, by decide⟩, _, _, rfl, rfl, .inl (mb m (10 ^ 9) (by decide) (by decide)), _, rfl, _, _, rfl, rfl, ?_⟩
    refine ⟨_, rfl, _, rfl, _, _, rfl, rfl, (by show 2 ≤ sizeLine; decide), fun p np => ?_⟩
    have hat : ∃ z : Int, atI [V.int (m % 10 ^ 9 * 10 ^ 20 + n), V.int (0 - (m % 10 ^ 9 * 10 ^ 20 + n))] (n / 3 % 2) = some (V.int z) := by
      rcases (by omega : n / 3 % 2 = 0 ∨ n / 3 % 2 = 1) with e | e
      · exact ⟨_, by rw [e]; exact atI_nat (j := 0) rfl⟩
      · exact ⟨_, by rw [e]; exact atI_nat (j := 1) rfl⟩
    obtain ⟨z, hat⟩ := hat
    exact ⟨_, rfl, _, _, rfl, rfl, ⟨by decide, by decide⟩, _, _, rfl, rfl, (by show (0 : Int) < 2; decide), p, _, _, V.int z, rfl, rfl, SqL.of upd_same, hat, kk _ _ (same_upd np)⟩
theorem scTi : FnScope ["_law_cell_here", "_law_k", "_law_number_here"] ["_law_cell_here", "_law_k"] (defScope sTimes) := ⟨rfl, rfl, rfl, by decide +kernel, rfl, by decide +kernel, by decide +kernel⟩
theorem ok_times {f fM : Addr} {fd fdM : FuncData} (F : Fun K "_law_times" "_law_times" sTimes f fd) (M : Ok P w K mg base 2 "_law_number" ["_law_cell_here", "_law_k"] spNumber fM fdM) : FnOk P w K mg base CX0 3 f fd ["_law_cell_here", "_law_k"] spNumber := by
  refine F.ok scTi (fun vs H Q E h => ?_) (fun cdv A outer s H vs Q E hr h => ?_)
  · obtain ⟨c, k, rfl, _⟩ := h
    rfl
  · obtain ⟨c, k, rfl, kk⟩ := h
    refine ⟨_, pss_cons (ps_set (i := 2) scTi.nd rfl (Or.inl rfl) (pe_call M.G hr (by rfl) M.m M.k M.b .nil pass0 (pa_cons (pv 0) (pa_cons (pv 1) pa_nil))))
      (pss_cons (ps_if (pt_chain op_lt op_lt (pe_un un_neg pe_int) (pv 2) pe_int) (pss_one (ps_ret (pv 2))) pss_nil)
      (pss_one (ps_ret (pe_op op_fdiv (pv 2) pe_int)))), ?_⟩
    refine ⟨_, rfl, _, rfl, c, k, rfl, fun n H1 s1 => ?_⟩
    refine ⟨_, rfl, _, rfl, _, _, rfl, rfl, _, rfl, iteD (fun _ => ?_) (fun _ => ?_)⟩
    · refine ⟨_, _, rfl, rfl, _, rfl, iteD (fun _ => ?_) (fun _ => ?_)⟩
      · exact ⟨_, rfl, kk _ _ s1⟩
      · exact ⟨_, rfl, _, _, rfl, rfl, ⟨by decide, by decide⟩, kk _ _ s1⟩
    · exact ⟨_, rfl, iteF ⟨_, rfl, _, _, rfl, rfl, ⟨by decide, by decide⟩, kk _ _ s1⟩⟩
/-! ### _law_sizes -/
theorem c6 (c : Int) : 1 ≤ (1 + c % 6).toNat ∧ (1 + c % 6).toNat ≤ 6 := by omega
theorem scSi : FnScope ["_law_cell_here", "_law_sizes_here", "_law_k", "_law_number_here"] ["_law_cell_here"] (defScope sLSizes) := ⟨rfl, rfl, rfl, by decide +kernel, rfl, by decide +kernel, by decide +kernel⟩
theorem ok_lsizes {f fM : Addr} {fd fdM : FuncData} (F : Fun K "_law_sizes" "_law_sizes" sLSizes f fd) (T : Txt mg) (M : Ok P w K mg base 1 "_law_mix" ["_law_cell_here", "_law_k"] spMix fM fdM) : FnOk P w K mg base CX0 2 f fd ["_law_cell_here"] spLSizes := by
  refine F.ok scSi (fun vs H Q E h => ?_) (fun cdv A outer s H vs Q E hr h => ?_)
  · obtain ⟨c, rfl, _⟩ := h
    rfl
  · obtain ⟨c, rfl, kk⟩ := h
    refine ⟨_, pss_cons (ps_set (i := 1) scSi.nd rfl (Or.inl rfl) (pe_lst pa_nil))
      (pss_cons (ps_for PassesOwn.never rfl (pi_range1 (by rfl) T.range (pa_cons (pe_op op_add pe_int (pe_op op_mod (pv 0) pe_int)) pa_nil)) (pg_name (i := 2) scSi.nd rfl (Or.inl rfl))
        (pss_cons (ps_set (i := 3) scSi.nd rfl (Or.inl rfl) (pe_call M.G hr (by rfl) M.m M.k M.b .nil pass0 (pa_cons (pv 0) (pa_cons (pv 2) pa_nil))))
        (pss_one (ps_expr (pe_bm PySem.F.plainAttrs_list PySem.F.slot_list_append PySem.F.type_list_append mt_append (pv 1) (pa_cons (pe_op op_add pe_int (pe_op op_mod (pe_op op_fdiv (pv 3) pe_int)
          (pe_ix ix_list (pe_lst (pa_cons pe_int (pa_cons pe_int (pa_cons pe_int (pa_cons pe_int pa_nil))))) (pe_op op_mod (pv 3) pe_int) (fun _ _ => rfl)))) pa_nil))))))
      (pss_one (ps_ret (pv 1)))), ?_⟩
    refine ⟨(by show 0 ≤ sizeLine; decide), fun p np => ?_⟩
    refine ⟨_, rfl, _, _, rfl, rfl, (by show (0 : Int) < 6; decide), _, _, rfl, rfl, 1 + c % 6, rfl, by omega, by omega, for_range (fun i σ H2 => ∃ (ds : List Nat) (v1 v2 : Option V), σ = [some (.int c), some (.ref p), v1, v2] ∧ Same H H2 ∧ H2 p = some (.lst (nV ds)) ∧ ds.length = i ∧ ∀ d ∈ ds, 2 ≤ d ∧ d ≤ 360)
      ⟨[], _, _, rfl, same_upd np, upd_same, rfl, fun d hd => by simp at hd⟩ ?_ ?_⟩
    · rintro i σ H2 hi ⟨ds, v1, v2, rfl, sm, hp, hl, hd⟩
      refine ⟨_, rfl, _, rfl, c, _, rfl, fun n n0 n1 => ?_⟩
      refine ⟨_, rfl, .inl ⟨rfl, _, SqL.of hp⟩, ?_⟩
      refine ⟨_, rfl, _, _, rfl, rfl, ⟨by decide, by decide⟩, (by show 4 ≤ sizeLine; decide), fun q nq => ?_⟩
      have hat : ∃ z : Int, 0 < z ∧ z ≤ 359 ∧ atI [V.int 359, V.int 11, V.int 5, V.int 359] (n % 4) = some (V.int z) := by
        rcases (by omega : n % 4 = 0 ∨ n % 4 = 1 ∨ n % 4 = 2 ∨ n % 4 = 3) with e | e | e | e
        · exact ⟨359, by decide, by decide, by rw [e]; exact atI_nat (j := 0) rfl⟩
        · exact ⟨11, by decide, by decide, by rw [e]; exact atI_nat (j := 1) rfl⟩
        · exact ⟨5, by decide, by decide, by rw [e]; exact atI_nat (j := 2) rfl⟩
        · exact ⟨359, by decide, by decide, by rw [e]; exact atI_nat (j := 3) rfl⟩
      obtain ⟨z, z0, z1, hat⟩ := hat
      have npq : p ≠ q := ne_of_none hp nq
      refine ⟨_, rfl, _, _, rfl, rfl, (by show (0 : Int) < 4; decide), q, _, _, V.int z, rfl, rfl, SqL.of upd_same, hat, _, _, rfl, rfl, z0, _, _, rfl, rfl, p, _, _, rfl, rfl, by rw [upd_ne npq]; exact hp, ?_, ?_⟩
      · rw [List.length_map, hl]
        exact small hi (Nat.le_trans (c6 c).2 (by decide))
      · have e0 := Int.emod_nonneg (n / 4) (Int.ne_of_gt z0)
        have e1 := Int.emod_lt_of_pos (n / 4) z0
        refine ⟨ds ++ [(2 + n / 4 % z).toNat], _, _, rfl, same_put (sm.trans (same_upd nq)) np, ?_, ?_, fun d hdm => ?_⟩
        · rw [upd_same]
          unfold nV
          rw [List.map_append]
          show some (HO.lst (_ ++ [V.int (2 + n / 4 % z)])) = some (HO.lst (_ ++ [V.int (((2 + n / 4 % z).toNat : Nat) : Int)]))
          rw [Int.toNat_of_nonneg (by omega)]
        · rw [List.length_append, hl]
          rfl
        · rcases List.mem_append.mp hdm with q | q
          · exact hd d q
          · rw [List.mem_singleton.mp q]
            omega
    · rintro σ H2 ⟨ds, v1, v2, rfl, sm, hp, hl, hd⟩
      refine ⟨_, rfl, kk p ds H2 np sm hp ⟨?_, ?_, hd⟩⟩
      · rw [hl]; exact (c6 c).1
      · rw [hl]; exact (c6 c).2
/-! ### _law_levers -/
theorem scLe : FnScope ["_law_script", "_law_start", "_law_many", "_law_dials", "_law_levers_here", "_law_j"] ["_law_script", "_law_start", "_law_many", "_law_dials"] (defScope sLLevers) := ⟨rfl, rfl, rfl, by decide +kernel, rfl, by decide +kernel, by decide +kernel⟩
theorem ndD : ((["_law_dial"] : List Str) ++ (["_law_script", "_law_start", "_law_j"] : List Str)).Nodup := by decide +kernel
theorem ok_llevers {f fC fN : Addr} {fd fdC fdN : FuncData} (F : Fun K "_law_levers" "_law_levers" sLLevers f fd) (T : Txt mg) (C : Ok P w K mg base 1 "_law_cell" ["_law_script", "_law_k"] (spCell K) fC fdC) (N : Ok P w K mg base 2 "_law_number" ["_law_cell_here", "_law_k"] spNumber fN fdN) :
    FnOk P w K mg base CX0 3 f fd ["_law_script", "_law_start", "_law_many", "_law_dials"] (spLLevers K) := by
  refine F.ok scLe (fun vs H Q E h => ?_) (fun cdv A outer s H vs Q E hr h => ?_)
  · obtain ⟨a, st, many, dials, ns, rfl, _⟩ := h
    rfl
  · obtain ⟨a, st, many, dials, ns, rfl, hS, h1, h2, h3, kk⟩ := h
    have hr1 : Room 1 _ := hr.mono (by decide)
    refine ⟨_, pss_cons (ps_set (i := 4) scLe.nd rfl (Or.inl rfl) (pe_lst pa_nil))
      (pss_cons (ps_for PassesOwn.never rfl (pi_range1 (by rfl) T.range (pa_cons (pv 2) pa_nil)) (pg_name (i := 5) scLe.nd rfl (Or.inr rfl))
        (pss_one (ps_expr (pe_bm PySem.F.plainAttrs_list PySem.F.slot_list_append PySem.F.type_list_append mt_append (pv 4) (pa_cons (pe_compN (g := gName 0) (ts := ["_law_dial"]) (fs := ["_law_script", "_law_start", "_law_j"]) (js := [0, 1, 5]) rfl rfl rfl rfl rfl rfl (.cons rfl (.cons rfl (.cons rfl .nil))) (.cons rfl rfl (.inl rfl) rfl rfl (.cons rfl rfl (.inl rfl) rfl rfl (.cons rfl rfl (.inl rfl) rfl rfl .nil)))
          (pi_range1 (by rfl) T.range (pa_cons (pv 3) pa_nil)) (fun C s₀ H₀ ex pins => pg_name (i := 0) ndD rfl (Or.inl rfl) (.inr rfl))
          (fun _ s₀ H₀ ex pins => pe_call N.G hr (by rfl) N.m N.k N.b .nil pass0 (pa_cons (pe_call C.G hr1 (by rfl) C.m C.k C.b .nil pass0 (pa_cons (pv 1) (pa_cons (pe_op op_add (pv 2) (pv 3)) pa_nil))) (pa_cons (pv 0) pa_nil)))) pa_nil)))))
      (pss_one (ps_ret (pv 4)))), ?_⟩
    refine ⟨(by show 0 ≤ sizeLine; decide), fun p np => ?_⟩
    refine ⟨_, rfl, (many : Int), rfl, by omega, by omega, for_range (fun i σ H2 => ∃ (lv : List V) (ls : List (List Int)) (v1 : Option V), σ = [some (.ref a), some (.int st), some (.int many), some (.int dials), some (.ref p), v1] ∧ Same H H2 ∧ H2 p = some (.lst lv) ∧ (∀ x ∈ lv, x ≠ V.ref p) ∧ Rws H2 HO.lst lv ls ∧ ls.length = i ∧ ∀ l ∈ ls, l.length = dials)
      ⟨[], [], _, rfl, same_upd np, upd_same, fun x hx => (by simp at hx), .nil, rfl, fun l hl => by simp at hl⟩ ?_ ?_⟩
    · rintro i σ H2 hi ⟨lv, ls, v1, rfl, sm, hp, hne, hR, hl, hd⟩
      have hi' : i < many := by have h' : i < (many : Int).toNat := hi; rw [Int.toNat_natCast] at h'; exact h'
      refine ⟨_, rfl, .inl ⟨rfl, _, SqL.of hp⟩, ?_⟩
      refine ⟨_, rfl, (dials : Int), rfl, by omega, by omega, fun D hD => comp_range (fun j σ H3 => (∃ v : Option V, σ = [v, some (.ref a), some (.int st), some (.int (0 + (i : Int)))]) ∧ Same H2 H3 ∧ ∃ ms : List Int, H3 D = some (.lst (iV ms)) ∧ ms.length = j)
        ⟨⟨_, rfl⟩, same_upd hD, [], upd_same, rfl⟩ ?_ ?_⟩
      · rintro j σ H3 hj ⟨⟨v, rfl⟩, sm3, ms, hm, hml⟩
        refine ⟨_, rfl, _, rfl, _, rfl, _, _, rfl, rfl, a, st + i, ns, ?_, sm3.seq (sm.seq hS), Nat.le_trans (Nat.add_le_add h1 (Nat.le_trans (Nat.le_of_lt hi') h2)) (by decide), fun z => ?_⟩
        · show [V.ref a, V.int ((st : Int) + (0 + (i : Int)))] ++ [] = [V.ref a, V.int ((st + i : Nat) : Int)]
          rw [Int.zero_add, Int.natCast_add]
          rfl
        · refine ⟨_, rfl, z, _, rfl, fun y H4 s4 => ?_⟩
          refine ⟨iV ms, s4 _ _ hm, ?_, ⟨_, rfl⟩, same_put (sm3.trans s4) hD, ms ++ [y], ?_, ?_⟩
          · rw [List.length_map, hml]
            have hj2 : j < (dials : Int).toNat := hj
            rw [Int.toNat_natCast] at hj2
            exact small hj2 (Nat.le_trans h3 (by decide))
          · rw [upd_same]
            unfold iV
            rw [List.map_append]
            rfl
          · rw [List.length_append, hml]
            rfl
      · rintro σ H3 ⟨_, sm3, ms, hm, hml⟩
        have hp3 := sm3 _ _ hp
        have npD : D ≠ p := fun z => by rw [z, hp] at hD; cases hD
        refine ⟨p, lv, _, rfl, rfl, hp3, ?_, ?_⟩
        · rw [hR.len, hl]
          exact small hi' (Nat.le_trans h2 (by decide))
        · have hne' : ∀ x ∈ lv ++ [V.ref D], x ≠ V.ref p := fun x hx => by
            rcases List.mem_append.mp hx with q | q
            · exact hne x q
            · rw [List.mem_singleton.mp q]
              intro z
              exact npD (V.ref.inj z)
          refine ⟨lv ++ [.ref D], ls ++ [ms], _, rfl, same_put (sm.trans sm3) np, upd_same, hne', Rws.off hne' ((hR.mono sm3).snoc hm), ?_, fun l hlm => ?_⟩
          · rw [List.length_append, hl]
            rfl
          · rcases List.mem_append.mp hlm with q | q
            · exact hd l q
            · rw [List.mem_singleton.mp q, hml]
              exact Int.toNat_natCast _
    · rintro σ H2 ⟨lv, ls, v1, rfl, sm, hp, hne, hR, hl, hd⟩
      refine ⟨_, rfl, kk p lv ls H2 np sm hp hR ?_ hd⟩
      rw [hl]
      exact Int.toNat_natCast _
/-! ### _law_counted -/
theorem scCo : FnScope ["_law_many", "_law_deeds", "_law_found", "_law_lever", "_law_times_here"] ["_law_many", "_law_deeds"] (defScope sCounted) := ⟨rfl, rfl, rfl, by decide +kernel, rfl, by decide +kernel, by decide +kernel⟩
theorem cnt_len (n : Nat) (ds : List (Nat × Int)) : (cnt n ds).length = n := by
  unfold cnt
  have : ∀ (ds : List (Nat × Int)) (f : List Int), (ds.foldl (fun f d => f.set d.1 (f.getD d.1 0 + d.2)) f).length = f.length := by
    intro ds
    induction ds with
    | nil => intro f; rfl
    | cons d ds ih => intro f; rw [List.foldl_cons, ih, List.length_set]
  rw [this, List.length_replicate]
theorem ok_counted {f : Addr} {fd : FuncData} (F : Fun K "_law_counted" "_law_counted" sCounted f fd) (T : Txt mg) : FnOk P w K mg base CX0 1 f fd ["_law_many", "_law_deeds"] spCounted := by
  refine F.ok scCo (fun vs H Q E h => ?_) (fun cdv A outer s H vs Q E hr h => ?_)
  · obtain ⟨n, a, dv, ds, rfl, _⟩ := h
    rfl
  · obtain ⟨n, a, dv, ds, rfl, hn, ha, hP, hlt, kk⟩ := h
    refine ⟨_, pss_cons (ps_set (i := 2) scCo.nd rfl (Or.inl rfl) (pe_op op_rep (pe_lst (pa_cons pe_int pa_nil)) (pv 0)))
      (pss_cons (ps_for PassesOwn.never rfl (pi_list (pv 1)) (pg_tup rfl (pgs_cons (pg_name (i := 3) scCo.nd rfl (Or.inl rfl)) (pgs_cons (pg_name (i := 4) scCo.nd rfl (Or.inl rfl)) pgs_nil)))
        (pss_one (ps_asg (pe_op op_add (pe_ix ix_list (pv 2) (pv 3) (fun _ _ => rfl)) (pv 4)) (pg_sub (pv 2) (pv 3) set_list))))
      (pss_one (ps_ret (pe_callTy call_tuple_of (by rfl) T.tup bt_tuple (pa_cons (pv 2) pa_nil))))), ?_⟩
    refine ⟨(by show 1 ≤ sizeLine; decide), fun p1 n1 => ?_⟩
    have s1 := same_upd (o := .lst [.int 0]) n1
    refine ⟨_, rfl, p1, _, [.int 0], rfl, rfl, upd_same, by omega, by omega, ?_, fun p n2 => ?_⟩
    · exact rep1 hn
    have s2 := s1.trans (same_upd (o := .lst (List.replicate (n : Int).toNat [V.int 0]).flatten) n2)
    have np : H p = none := s1.free n2
    refine ⟨_, rfl, a, rfl, ⟨_, SqL.of (s2 _ _ ha)⟩, for_list (K := K) (a := a) (xs := dv) (fun i σ H2 => ∃ v1 v2 : Option V, σ = [some (.int n), some (.ref a), some (.ref p), v1, v2] ∧ Same H H2 ∧ H2 p = some (.lst (iV (cnt n (ds.take i)))))
      ⟨_, _, rfl, s2, ?_⟩ (fun i σ H2 _ ⟨_, _, _, sm, _⟩ => SqL.of (sm _ _ ha)) ?_ ?_⟩
    · rw [upd_same, Int.toNat_natCast]
      have e : ∀ n : Nat, (List.replicate n [V.int 0]).flatten = iV (List.replicate n 0) := fun n => by
        induction n with
        | zero => rfl
        | succ n ih => rw [List.replicate_succ, List.flatten_cons, ih, List.replicate_succ]; rfl
      rw [e]
      rfl
    · rintro i y σ H2 hi ⟨v1, v2, rfl, sm, hp⟩
      obtain ⟨c, k, t, rfl, hd, hc⟩ := hP.at hi
      have hk := hlt _ (List.mem_of_getElem? hd)
      dsimp only at hk
      have hlen := cnt_len n (ds.take i)
      have hat : (iV (cnt n (ds.take i)))[k]? = some (.int ((cnt n (ds.take i)).getD k 0)) := by
        rw [List.getElem?_map, List.getElem?_eq_getElem (by omega)]
        simp [List.getD, List.getElem?_eq_getElem (show k < (cnt n (ds.take i)).length by omega)]
      refine ⟨c, _, rfl, SqT.of (sm _ _ hc), rfl, _, _, rfl, _, _, rfl, rfl, ?_⟩
      refine ⟨_, rfl, _, rfl, p, _, k, _, rfl, rfl, SqL.of hp, atI_nat hat, _, rfl, _, _, rfl, rfl, ?_⟩
      refine ⟨_, rfl, _, rfl, p, _, k, k, rfl, rfl, hp, ?_, ⟨_, _, rfl, same_put sm np, ?_⟩⟩
      · unfold ixN
        rw [List.length_map, hlen, if_pos (by omega), if_pos (by omega), Int.toNat_natCast]
      · rw [upd_same]
        unfold cnt
        rw [take_fold _ _ _ _ _ hd]
        unfold iV
        rw [List.map_set]
    · rintro σ H2 ⟨v1, v2, rfl, sm, hp⟩
      rw [show ds.take dv.length = ds from List.take_of_length_le (by rw [hP.len]; exact Nat.le_refl _)] at hp
      exact ⟨_, rfl, p, _, rfl, .inl ⟨SqL.of hp, fun q nq => kk q _ (sm.trans (same_upd nq)) upd_same⟩⟩
end
end K14
namespace K14
open PySem L2
/-! ### mathematics of pulls -/
abbrev FS (ds : List Nat) (s : List Int) (xs : List (List Int × Int)) : List Int := xs.foldl (fun r lt => addS ds r lt.1 lt.2) s
def dx (ls : List (List Int)) (dl : List (Nat × Int)) : List (List Int × Int) := dl.map fun d => (ls.getD d.1 [], d.2)
def runS (ds : List Nat) (ls : List (List Int)) (s : List Int) (dl : List (Nat × Int)) : List Int := FS ds s (dx ls dl)
def smA (i : Nat) (xs : List (List Int × Int)) : Int := (xs.map fun x => x.2 * x.1.getD i 0).sum
theorem smA_nil (i : Nat) : smA i [] = 0 := rfl
theorem smA_cons (i : Nat) (x : List Int × Int) (xs : List (List Int × Int)) : smA i (x :: xs) = x.2 * x.1.getD i 0 + smA i xs := rfl
theorem smA_append (i : Nat) (xs ys : List (List Int × Int)) : smA i (xs ++ ys) = smA i xs + smA i ys := by
  unfold smA
  rw [List.map_append, List.sum_append]
theorem addS_len {ds : List Nat} {s o : List Int} {t : Int} (hs : s.length = ds.length) (ho : o.length = ds.length) : (addS ds s o t).length = ds.length := by
  unfold addS rst iZ
  rw [List.length_zipWith, List.length_zipWith, List.length_map, hs, ho, Nat.min_self, Nat.min_self]
theorem addS_at {ds : List Nat} {s o : List Int} {t : Int} {i : Nat} (hs : s.length = ds.length) (ho : o.length = ds.length) (hi : i < ds.length) : (addS ds s o t).getD i 0 = (s.getD i 0 + t * o.getD i 0) % ((ds.getD i 0 : Nat) : Int) := by
  unfold addS rst iZ
  rw [List.getD_eq_getElem?_getD, List.getD_eq_getElem?_getD, List.getD_eq_getElem?_getD, List.getD_eq_getElem?_getD]
  rw [List.getElem?_zipWith, List.getElem?_zipWith, List.getElem?_map]
  rw [List.getElem?_eq_getElem (show i < s.length by omega), List.getElem?_eq_getElem (show i < o.length by omega), List.getElem?_eq_getElem hi]
  rfl
theorem FS_at {ds : List Nat} : ∀ {xs : List (List Int × Int)} {s : List Int}, s.length = ds.length → (∀ x ∈ xs, x.1.length = ds.length) → (FS ds s xs).length = ds.length ∧
    ∀ i, i < ds.length → s.getD i 0 % ((ds.getD i 0 : Nat) : Int) = s.getD i 0 → (FS ds s xs).getD i 0 = (s.getD i 0 + smA i xs) % ((ds.getD i 0 : Nat) : Int)
  | [], s, hs, _ => ⟨hs, fun i hi e => by rw [smA_nil, Int.add_zero, e]; rfl⟩
  | x :: xs, s, hs, hx => by
    have h1 : (addS ds s x.1 x.2).length = ds.length := addS_len hs (hx x List.mem_cons_self)
    obtain ⟨a, b⟩ := FS_at (xs := xs) (s := addS ds s x.1 x.2) h1 (fun y hy => hx y (List.mem_cons_of_mem _ hy))
    refine ⟨a, fun i hi e => ?_⟩
    have e2 := addS_at (t := x.2) hs (hx x List.mem_cons_self) hi
    have e3 := b i hi (by rw [e2, Int.emod_emod])
    show (FS ds (addS ds s x.1 x.2) xs).getD i 0 = _
    rw [e3, e2, Int.emod_add_emod, smA_cons, Int.add_assoc]
theorem ext_at {a b : List Int} {n : Nat} (ha : a.length = n) (hb : b.length = n) (h : ∀ i, i < n → a.getD i 0 = b.getD i 0) : a = b := by
  refine List.ext_getElem (ha.trans hb.symm) fun i h1 h2 => ?_
  have := h i (by omega)
  rw [List.getD_eq_getElem?_getD, List.getD_eq_getElem?_getD, List.getElem?_eq_getElem h1, List.getElem?_eq_getElem h2] at this
  exact this
theorem InB.mod {ds : List Nat} {s : List Int} (h : InB ds s) {i : Nat} (hi : i < ds.length) : s.getD i 0 % ((ds.getD i 0 : Nat) : Int) = s.getD i 0 := by
  have h1 : i < s.length := by rw [h.1]; exact hi
  obtain ⟨a, b⟩ := h.2 i s[i] ds[i] (List.getElem?_eq_getElem h1) (List.getElem?_eq_getElem hi)
  rw [List.getD_eq_getElem?_getD, List.getD_eq_getElem?_getD, List.getElem?_eq_getElem h1, List.getElem?_eq_getElem hi]
  exact Int.emod_eq_of_lt a b
theorem smA_set (i : Nat) (t : Int) : ∀ (ls : List (List Int)) (f : List Int) (k : Nat), f.length = ls.length → k < ls.length → smA i (ls.zip (f.set k (f.getD k 0 + t))) = smA i (ls.zip f) + t * (ls.getD k []).getD i 0
  | [], _, k, _, hk => absurd hk (Nat.not_lt_zero k)
  | l :: ls, [], k, hf, _ => by simp at hf
  | l :: ls, x :: f, 0, hf, hk => by
    show smA i ((l :: ls).zip ((x + t) :: f)) = _
    rw [List.zip_cons_cons, List.zip_cons_cons, smA_cons, smA_cons, Int.add_mul]
    show x * l.getD i 0 + t * l.getD i 0 + smA i (ls.zip f) = x * l.getD i 0 + smA i (ls.zip f) + t * l.getD i 0
    omega
  | l :: ls, x :: f, k + 1, hf, hk => by
    show smA i ((l :: ls).zip (x :: f.set k (f.getD k 0 + t))) = _ + t * (ls.getD k []).getD i 0
    rw [List.zip_cons_cons, List.zip_cons_cons, smA_cons, smA_cons, smA_set i t ls f k (by simpa using hf) (by simpa using hk), Int.add_assoc]
theorem smA_zero (i : Nat) : ∀ (ls : List (List Int)), smA i (ls.zip (List.replicate ls.length 0)) = 0
  | [] => rfl
  | l :: ls => by
    rw [List.length_cons, List.replicate_succ, List.zip_cons_cons, smA_cons, smA_zero i ls, Int.zero_mul]
    rfl
theorem smA_fold (i : Nat) (ls : List (List Int)) : ∀ (dl : List (Nat × Int)) (f : List Int), f.length = ls.length → (∀ d ∈ dl, d.1 < ls.length) →
    smA i (ls.zip (dl.foldl (fun f d => f.set d.1 (f.getD d.1 0 + d.2)) f)) = smA i (ls.zip f) + smA i (dx ls dl)
  | [], f, _, _ => by
    show smA i (ls.zip f) = _ + 0
    rw [Int.add_zero]
  | d :: dl, f, hf, hd => by
    rw [List.foldl_cons, smA_fold i ls dl _ (by rw [List.length_set]; exact hf) (fun x hx => hd x (List.mem_cons_of_mem _ hx)), smA_set i d.2 ls f d.1 hf (hd d List.mem_cons_self)]
    show _ = _ + (d.2 * (ls.getD d.1 []).getD i 0 + smA i (dx ls dl))
    omega
theorem smA_cnt (i : Nat) (ls : List (List Int)) (dl : List (Nat × Int)) (hd : ∀ d ∈ dl, d.1 < ls.length) : smA i (ls.zip (cnt ls.length dl)) = smA i (dx ls dl) := by
  unfold cnt
  rw [smA_fold i ls dl _ (by rw [List.length_replicate]) hd, smA_zero, Int.zero_add]
theorem smA_neg (i : Nat) : ∀ (ls : List (List Int)) (ps : List Int), smA i (ls.zip (ps.map fun t => 0 - t)) = - smA i (ls.zip ps)
  | [], ps => by
    rw [List.zip_nil_left, List.zip_nil_left]
    rfl
  | l :: ls, [] => by
    rw [List.map_nil, List.zip_nil_right]
    rfl
  | l :: ls, p :: ps => by
    rw [List.map_cons, List.zip_cons_cons, List.zip_cons_cons, smA_cons, smA_cons, smA_neg i ls ps, Int.zero_sub, Int.neg_add, Int.neg_mul]
theorem zip_len {ds : List Nat} {ls : List (List Int)} {ps : List Int} (hl : ∀ l ∈ ls, l.length = ds.length) : ∀ x ∈ ls.zip ps, x.1.length = ds.length := fun x hx => hl _ (List.of_mem_zip (a := x.1) (b := x.2) hx).1
theorem dx_len {ds : List Nat} {ls : List (List Int)} {dl : List (Nat × Int)} (hl : ∀ l ∈ ls, l.length = ds.length) (hd : ∀ d ∈ dl, d.1 < ls.length) : ∀ x ∈ dx ls dl, x.1.length = ds.length := fun x hx => by
  obtain ⟨d, h, rfl⟩ := List.mem_map.mp hx
  refine hl _ ?_
  show ls.getD d.1 [] ∈ ls
  rw [List.getD_eq_getElem?_getD, List.getElem?_eq_getElem (hd d h)]
  exact List.getElem_mem _
theorem FS_inb {ds : List Nat} {xs : List (List Int × Int)} {s : List Int} (hz : Szs ds) (hs : InB ds s) (hx : ∀ x ∈ xs, x.1.length = ds.length) : InB ds (FS ds s xs) := by
  obtain ⟨a, b⟩ := FS_at hs.1 hx
  refine ⟨a, fun i n d hn hd => ?_⟩
  have hi : i < ds.length := (List.getElem?_eq_some_iff.mp hd).1
  have e := b i hi (hs.mod hi)
  rw [List.getD_eq_getElem?_getD, hn, List.getD_eq_getElem?_getD (l := ds), hd] at e
  have hd2 := hz.2.2 d (List.mem_of_getElem? hd)
  have e' : n = (s.getD i 0 + smA i xs) % (d : Int) := e
  rw [e']
  exact ⟨Int.emod_nonneg _ (by omega), Int.emod_lt_of_pos _ (by omega)⟩
theorem turn_inb {ds : List Nat} {ls : List (List Int)} {s ps : List Int} (hz : Szs ds) (hs : InB ds s) (hl : ∀ l ∈ ls, l.length = ds.length) : InB ds (turnS ds ls s ps) := FS_inb hz hs (zip_len hl)
theorem run_inb {ds : List Nat} {ls : List (List Int)} {s : List Int} {dl : List (Nat × Int)} (hz : Szs ds) (hs : InB ds s) (hl : ∀ l ∈ ls, l.length = ds.length) (hd : ∀ d ∈ dl, d.1 < ls.length) : InB ds (runS ds ls s dl) := FS_inb hz hs (dx_len hl hd)
theorem addS_inb {ds : List Nat} {s o : List Int} {t : Int} (hz : Szs ds) (hs : InB ds s) (ho : o.length = ds.length) : InB ds (addS ds s o t) := FS_inb (xs := [(o, t)]) hz hs (fun x hx => by rw [List.mem_singleton.mp hx]; exact ho)
theorem nought_inb {ds : List Nat} (hz : Szs ds) : InB ds (List.replicate ds.length 0) := by
  refine ⟨List.length_replicate, fun i n d hn hd => ?_⟩
  have hd2 := hz.2.2 d (List.mem_of_getElem? hd)
  have := List.eq_of_mem_replicate (List.mem_of_getElem? hn)
  omega
theorem run_snoc (ds : List Nat) (ls : List (List Int)) (s : List Int) (dl : List (Nat × Int)) (k : Nat) (t : Int) : runS ds ls s (dl ++ [(k, t)]) = addS ds (runS ds ls s dl) (ls.getD k []) t := by
  unfold runS dx FS
  rw [List.map_append, List.foldl_append]
  rfl
section
variable {ds : List Nat} {ls : List (List Int)} {s : List Int} {dl : List (Nat × Int)}
theorem m1 (hs : InB ds s) (hl : ∀ l ∈ ls, l.length = ds.length) (hd : ∀ d ∈ dl, d.1 < ls.length) : turnS ds ls s (cnt ls.length dl) = runS ds ls s dl := by
  obtain ⟨a, b⟩ := FS_at (xs := ls.zip (cnt ls.length dl)) hs.1 (zip_len hl)
  obtain ⟨c, d⟩ := FS_at (xs := dx ls dl) hs.1 (dx_len hl hd)
  refine ext_at a c fun i hi => ?_
  exact (b i hi (hs.mod hi)).trans ((by rw [smA_cnt i ls dl hd] : _ = _).trans (d i hi (hs.mod hi)).symm)
theorem m2 (hz : Szs ds) (hs : InB ds s) (hl : ∀ l ∈ ls, l.length = ds.length) (hd : ∀ d ∈ dl, d.1 < ls.length) : turnS ds ls (runS ds ls s dl) ((cnt ls.length dl).map fun t => 0 - t) = s := by
  have hr := run_inb hz hs hl hd
  obtain ⟨a, b⟩ := FS_at (xs := ls.zip ((cnt ls.length dl).map fun t => 0 - t)) hr.1 (zip_len hl)
  obtain ⟨c, d⟩ := FS_at (xs := dx ls dl) hs.1 (dx_len hl hd)
  refine ext_at a hs.1 fun i hi => ?_
  refine (b i hi (hr.mod hi)).trans ?_
  rw [smA_neg, smA_cnt i ls dl hd]
  have e : (runS ds ls s dl).getD i 0 = _ := d i hi (hs.mod hi)
  rw [e, Int.emod_add_emod, Int.add_neg_cancel_right]
  exact hs.mod hi
theorem m3 (hz : Szs ds) (hs : InB ds s) (hl : ∀ l ∈ ls, l.length = ds.length) (hd : ∀ d ∈ dl, d.1 < ls.length) : addS ds (runS ds ls s dl) s (-1) = turnS ds ls (List.replicate ds.length 0) (cnt ls.length dl) := by
  have hr := run_inb hz hs hl hd
  have hn := nought_inb hz
  obtain ⟨a, b⟩ := FS_at (xs := ls.zip (cnt ls.length dl)) hn.1 (zip_len hl)
  obtain ⟨c, d⟩ := FS_at (xs := dx ls dl) hs.1 (dx_len hl hd)
  refine ext_at (addS_len hr.1 hs.1) a fun i hi => ?_
  refine Eq.trans ?_ (b i hi (hn.mod hi)).symm
  rw [addS_at hr.1 hs.1 hi, smA_cnt i ls dl hd]
  have e : (runS ds ls s dl).getD i 0 = _ := d i hi (hs.mod hi)
  have z : (List.replicate ds.length (0 : Int)).getD i 0 = 0 := by
    rw [List.getD_eq_getElem?_getD, List.getElem?_replicate, if_pos hi]
    rfl
  rw [e, Int.emod_add_emod, z, Int.zero_add]
  congr 1
  omega
theorem m4 (hz : Szs ds) (hs : InB ds s) (hl : ∀ l ∈ ls, l.length = ds.length) (hd : ∀ d ∈ dl, d.1 < ls.length) (c : Nat) : turnS ds ls (turnS ds ls s (cnt ls.length (dl.take c))) (cnt ls.length (dl.drop c)) = runS ds ls s dl := by
  have h1 : ∀ d ∈ dl.take c, d.1 < ls.length := fun d h => hd d (List.mem_of_mem_take h)
  have h2 : ∀ d ∈ dl.drop c, d.1 < ls.length := fun d h => hd d (List.mem_of_mem_drop h)
  rw [m1 hs hl h1, m1 (run_inb hz hs hl h1) hl h2]
  unfold runS dx FS
  rw [← List.foldl_append, ← List.map_append, List.take_append_drop]
end
end K14
namespace K14
open PySem L2
/-! ### the law -/
def spLaw (K : PySem.W.Frag) : Sp := fun vs H Q _ => ∃ (a : Addr) (ns : List Int), vs = [.ref a] ∧ SqL K H a (ns.map V.int) ∧ ns.length ≤ 63 ∧ (∀ i ∈ ns, Builtin.Int.intBits i ≤ 1048576) ∧ ∀ H', Q (.bl true) H'
theorem rst_inb {ds : List Nat} {l : List Int} (hz : Szs ds) (hl : l.length = ds.length) : InB ds (rst l (iZ ds)) := by
  refine ⟨?_, fun i n d hn hd => ?_⟩
  · unfold rst iZ
    rw [List.length_zipWith, List.length_map, hl, Nat.min_self]
  · unfold rst iZ at hn
    have hi : i < l.length := by rw [hl]; exact (List.getElem?_eq_some_iff.mp hd).1
    rw [List.getElem?_zipWith, List.getElem?_map, hd, List.getElem?_eq_getElem hi] at hn
    have e : l[i] % (d : Int) = n := Option.some.inj hn
    have hd2 := hz.2.2 d (List.mem_of_getElem? hd)
    rw [← e]
    exact ⟨Int.emod_nonneg _ (by omega), Int.emod_lt_of_pos _ (by omega)⟩
theorem hiB {L : Int} (h : 0 ≤ L) : 10 ≤ (if (if L < 62 then L else 62) > 10 then (if L < 62 then L else 62) else 10) ∧ (if (if L < 62 then L else 62) > 10 then (if L < 62 then L else 62) else 10) ≤ 62 := by
  by_cases h1 : L < 62
  · rw [if_pos h1]
    by_cases h2 : L > 10
    · rw [if_pos h2]
      omega
    · rw [if_neg h2]
      decide
  · rw [if_neg h1]
    decide
theorem iB {J : Int} {i : Nat} (h : J ≤ 62) (h' : i < (J - 2).toNat) : i < 62 := by omega
theorem many (z : Int) : 1 ≤ (1 + z % 8).toNat ∧ (1 + z % 8).toNat ≤ 8 := by omega
theorem cut_take (xs : List V) (c : Nat) : cutV xs none (some (c : Int)) = xs.take c := by
  unfold cutV
  rw [HT.sIx_none, HT.sIx_nat, List.drop_zero, Nat.sub_zero]
  by_cases h : c ≤ xs.length
  · rw [Nat.min_eq_left h]
  · rw [Nat.min_eq_right (by omega), List.take_of_length_le (Nat.le_refl _), List.take_of_length_le (by omega)]
theorem cut_drop (xs : List V) (c : Nat) : cutV xs (some (c : Int)) none = xs.drop c := by
  unfold cutV
  rw [HT.sIx_none, HT.sIx_nat]
  by_cases h : c ≤ xs.length
  · rw [Nat.min_eq_left h]
    exact List.take_of_length_le (by rw [List.length_drop]; exact Nat.le_refl _)
  · rw [Nat.min_eq_right (by omega), List.drop_of_length_le (Nat.le_refl _), List.drop_of_length_le (by omega), List.take_nil]
section
variable {P : Program} {w : World} {K : PySem.W.Frag} {mg : Str → Option Value} {base : Heap}
theorem scL : FnScope ["_law_script", "_law_sizes_here", "_law_levers_here", "_law_vault", "_law_first", "_law_setting", "_law_deeds", "_law_k", "_law_number_here", "_law_lever", "_law_times_here", "_law_pulls", "_law_cut", "_law_amid"] ["_law_script"] (defScope sLaw) := ⟨rfl, rfl, rfl, by decide +kernel, rfl, by decide +kernel, by decide +kernel⟩
theorem ndK : ((["_law_k"] : List Str) ++ (["_law_script", "_law_sizes_here"] : List Str)).Nodup := by decide +kernel
theorem ndT : ((["_law_times_here"] : List Str) ++ ([] : List Str)).Nodup := by decide +kernel
theorem ok_law {f C fI fp f1 f2 f3 f4 f5 f6 f7 f8 f9 f10 : Addr} {TK : Tok} {fd fdI fdp fd1 fd2 fd3 fd4 fd5 fd6 fd7 fd8 fd9 fd10 : FuncData} (F : Fun K "law" "law" sLaw f fd) (T : Txt mg) (Z : VT K mg C)
    (M : Mk K C fI) (GI : FnOk P w K mg base CX0 4 fI fdI ["self", "sizes", "levers", "prices"] (spInit C)) (BI : Binds K fdI ["self", "sizes", "levers", "prices"] [Value.none])
    (mP : mg "pulled" = some (.ref fp)) (kP : PySem.W.keepIn K (.ref fp) = true) (GP : FnOk P w K mg base CX0 5 fp fdp ["vault", "setting", "lever", "times"] (spPulled C)) (BP0 : Binds K fdp ["vault", "setting", "lever", "times"] []) (BP1 : Binds K fdp ["vault", "setting", "lever", "times"] [Value.int 1 TK])
    (Ce : Ok P w K mg base 1 "_law_cell" ["_law_script", "_law_k"] (spCell K) f1 fd1) (Mx : Ok P w K mg base 1 "_law_mix" ["_law_cell_here", "_law_k"] spMix f2 fd2) (Ti : Ok P w K mg base 3 "_law_times" ["_law_cell_here", "_law_k"] spNumber f3 fd3)
    (Sz : Ok P w K mg base 2 "_law_sizes" ["_law_cell_here"] spLSizes f4 fd4) (Lv : Ok P w K mg base 3 "_law_levers" ["_law_script", "_law_start", "_law_many", "_law_dials"] (spLLevers K) f5 fd5) (Co : Ok P w K mg base 1 "_law_counted" ["_law_many", "_law_deeds"] spCounted f6 fd6)
    (No : Ok P w K mg base 2 "nought" ["vault"] (spNought C) f7 fd7) (IS : Ok P w K mg base 3 "is_setting" ["vault", "thing"] (spIsSetting C) f8 fd8) (Tu : Ok P w K mg base 5 "turned" ["vault", "setting", "pulls"] (spTurned C) f9 fd9) (Be : Ok P w K mg base 5 "between" ["vault", "one", "other"] (spBetween C) f10 fd10) :
    FnOk P w K mg base CX0 6 f fd ["_law_script"] (spLaw K) := by
  refine F.ok scL (fun vs H Q E h => ?_) (fun cdv A outer s H vs Q E hr h => ?_)
  · obtain ⟨a, ns, rfl, _⟩ := h
    rfl
  · obtain ⟨a, ns, rfl, hS, hlen, hbits, k⟩ := h
    have hr1 : Room 1 _ := hr.mono (by decide)
    have hr2 : Room 2 _ := hr.mono (by decide)
    have hr3 : Room 3 _ := hr.mono (by decide)
    have hu := hr.units
    refine ⟨_, (pss_cons (ps_set (i := 1) scL.nd rfl (Or.inr rfl) (pe_call Sz.G hr2 (by rfl) Sz.m Sz.k Sz.b .nil pass0 (pa_cons (pe_call Mx.G hr1 (by rfl) Mx.m Mx.k Mx.b .nil pass0 (pa_cons (pe_call Ce.G hr1 (by rfl) Ce.m Ce.k Ce.b .nil pass0 (pa_cons (pv 0) (pa_cons pe_int pa_nil))) (pa_cons pe_int pa_nil))) pa_nil)))
      (pss_cons (ps_set (i := 2) scL.nd rfl (Or.inl rfl) (pe_call Lv.G hr3 (by rfl) Lv.m Lv.k Lv.b .nil pass0 (pa_cons (pv 0) (pa_cons pe_int (pa_cons (pe_op op_add pe_int (pe_op op_mod (pe_call Mx.G hr1 (by rfl) Mx.m Mx.k Mx.b .nil pass0 (pa_cons (pe_call Ce.G hr1 (by rfl) Ce.m Ce.k Ce.b .nil pass0 (pa_cons (pv 0) (pa_cons pe_int pa_nil))) (pa_cons pe_int pa_nil))) pe_int)) (pa_cons (pe_callB call_len_seq (by rfl) T.len PySem.boot_len (pa_cons (pv 1) pa_nil)) pa_nil))))))
      (pss_cons (ps_set (i := 3) scL.nd rfl (Or.inl rfl) (pe_make M GI hr (by rfl) Z.mg BI (dvs := [.non]) (.cons rfl .nil) pass0 (pa_cons (pv 1) (pa_cons (pv 2) pa_nil))))
      (pss_cons (ps_set (i := 4) scL.nd rfl (Or.inl rfl) (pe_callTy call_tuple_of (by rfl) T.tup bt_tuple (pa_cons (pe_compN (g := gName 0) (ts := ["_law_k"]) (fs := ["_law_script", "_law_sizes_here"]) (js := [0, 1]) rfl rfl rfl rfl rfl rfl (.cons rfl (.cons rfl .nil)) (.cons rfl rfl (.inl rfl) rfl rfl (.cons rfl rfl (.inl rfl) rfl rfl .nil))
          (pi_range1 (by rfl) T.range (pa_cons (pe_callB call_len_seq (by rfl) T.len PySem.boot_len (pa_cons (pv 1) pa_nil)) pa_nil)) (fun C s₀ H₀ ex pins => pg_name (i := 0) ndK rfl (Or.inl rfl) (.inr rfl))
          (fun _ s₀ H₀ ex pins => pe_op op_mod (pe_call Mx.G hr1 (by rfl) Mx.m Mx.k Mx.b .nil pass0 (pa_cons (pe_call Ce.G hr1 (by rfl) Ce.m Ce.k Ce.b .nil pass0 (pa_cons (pv 1) (pa_cons pe_int pa_nil))) (pa_cons (pe_op op_add pe_int (pv 0)) pa_nil))) (pe_ix (r := rIxL K) ix_list (pv 2) (pv 0) (fun _ _ => rfl)))) pa_nil)))
      (pss_cons (ps_set (i := 5) scL.nd rfl (Or.inl rfl) (pv 4))
      (pss_cons (ps_set (i := 6) scL.nd rfl (Or.inl rfl) (pe_lst pa_nil))
      (pss_cons (ps_for PassesOwn.never rfl (pi_range2 (by rfl) T.range (pa_cons pe_int (pa_cons (pe_callB (call_max2 rfl) (by rfl) T.max bt_max (pa_cons pe_int (pa_cons (pe_callB (call_min2 rfl) (by rfl) T.min bt_min (pa_cons pe_int (pa_cons (pe_callB call_len_seq (by rfl) T.len PySem.boot_len (pa_cons (pv 0) pa_nil)) pa_nil))) pa_nil))) pa_nil))) (pg_name (i := 7) scL.nd rfl (Or.inl rfl))
      (pss_cons (ps_set (i := 8) scL.nd rfl (Or.inl rfl) (pe_call Mx.G hr1 (by rfl) Mx.m Mx.k Mx.b .nil pass0 (pa_cons (pe_call Ce.G hr1 (by rfl) Ce.m Ce.k Ce.b .nil pass0 (pa_cons (pv 0) (pa_cons (pv 7) pa_nil))) (pa_cons (pv 7) pa_nil))))
      (pss_cons (ps_set (i := 9) scL.nd rfl (Or.inl rfl) (pe_op op_mod (pv 8) (pe_callB call_len_seq (by rfl) T.len PySem.boot_len (pa_cons (pv 2) pa_nil))))
      (pss_cons (ps_set (i := 10) scL.nd rfl (Or.inl rfl) (pe_call Ti.G hr3 (by rfl) Ti.m Ti.k Ti.b .nil pass0 (pa_cons (pe_call Ce.G hr1 (by rfl) Ce.m Ce.k Ce.b .nil pass0 (pa_cons (pv 0) (pa_cons (pv 7) pa_nil))) (pa_cons (pe_op op_add (pv 7) pe_int) pa_nil))))
      (pss_cons (ps_if (pt_cmpR op_eq (pe_op op_mod (pe_op op_fdiv (pv 8) pe_int) pe_int) pe_int (nomark _)) (pss_cons (ps_set (i := 10) scL.nd rfl (Or.inl rfl) pe_int)
      (pss_one (ps_set (i := 5) scL.nd rfl (Or.inl rfl) (pe_call GP hr (by rfl) mP kP BP1 (dvs := [.int 1]) (.cons ⟨_, rfl⟩ .nil) pass0 (pa_cons (pv 3) (pa_cons (pv 5) (pa_cons (pv 9) pa_nil))))))) (pss_one (ps_set (i := 5) scL.nd rfl (Or.inl rfl) (pe_call GP hr (by rfl) mP kP BP0 .nil pass0 (pa_cons (pv 3) (pa_cons (pv 5) (pa_cons (pv 9) (pa_cons (pv 10) pa_nil))))))))
      (pss_cons (ps_expr (pe_bm PySem.F.plainAttrs_list PySem.F.slot_list_append PySem.F.type_list_append mt_append (pv 6) (pa_cons (pe_tup (pa_cons (pv 9) (pa_cons (pv 10) pa_nil))) pa_nil)))
      (pss_one (ps_if (pt_not (pt_val (pe_call IS.G hr3 (by rfl) IS.m IS.k IS.b .nil pass0 (pa_cons (pv 3) (pa_cons (pv 5) pa_nil))))) (pss_one (ps_ret pe_bl)) pss_nil))))))))
      (pss_cons (ps_set (i := 11) scL.nd rfl (Or.inl rfl) (pe_call Co.G hr1 (by rfl) Co.m Co.k Co.b .nil pass0 (pa_cons (pe_callB call_len_seq (by rfl) T.len PySem.boot_len (pa_cons (pv 2) pa_nil)) (pa_cons (pv 6) pa_nil))))
      (pss_cons (ps_if (pt_cmpR (op_neT hu) (pe_call Tu.G hr (by rfl) Tu.m Tu.k Tu.b .nil pass0 (pa_cons (pv 3) (pa_cons (pv 4) (pa_cons (pv 11) pa_nil)))) (pv 5) (nomark _)) (pss_one (ps_ret pe_bl)) pss_nil)
      (pss_cons (ps_if (pt_cmpR (op_neT hu) (pe_call Tu.G hr (by rfl) Tu.m Tu.k Tu.b .nil pass0 (pa_cons (pv 3) (pa_cons (pv 5) (pa_cons (pe_callTy call_tuple_of (by rfl) T.tup bt_tuple (pa_cons (pe_compN (g := gName 0) (ts := ["_law_times_here"]) (fs := []) (js := []) (cl := []) rfl rfl rfl rfl rfl rfl .nil .nil (pi_seq (pv 11)) (fun C s₀ H₀ ex pins => pg_name (i := 0) ndT rfl (Or.inl rfl) (.inr rfl)) (fun C s₀ H₀ ex pins => pe_op op_sub pe_int (pv 0))) pa_nil)) pa_nil)))) (pv 4) (nomark _)) (pss_one (ps_ret pe_bl)) pss_nil)
      (pss_cons (ps_if (pt_cmpR (op_neT hu) (pe_call Be.G hr (by rfl) Be.m Be.k Be.b .nil pass0 (pa_cons (pv 3) (pa_cons (pv 4) (pa_cons (pv 5) pa_nil)))) (pe_call Tu.G hr (by rfl) Tu.m Tu.k Tu.b .nil pass0 (pa_cons (pv 3) (pa_cons (pe_call No.G hr2 (by rfl) No.m No.k No.b .nil pass0 (pa_cons (pv 3) pa_nil)) (pa_cons (pv 11) pa_nil)))) (nomark _)) (pss_one (ps_ret pe_bl)) pss_nil)
      (pss_cons (ps_set (i := 12) scL.nd rfl (Or.inl rfl) (pe_op op_mod (pe_call Mx.G hr1 (by rfl) Mx.m Mx.k Mx.b .nil pass0 (pa_cons (pe_call Ce.G hr1 (by rfl) Ce.m Ce.k Ce.b .nil pass0 (pa_cons (pv 0) (pa_cons pe_int pa_nil))) (pa_cons pe_int pa_nil))) (pe_op op_add (pe_callB call_len_seq (by rfl) T.len PySem.boot_len (pa_cons (pv 6) pa_nil)) pe_int)))
      (pss_cons (ps_set (i := 13) scL.nd rfl (Or.inl rfl) (pe_call Tu.G hr (by rfl) Tu.m Tu.k Tu.b .nil pass0 (pa_cons (pv 3) (pa_cons (pv 4) (pa_cons (pe_call Co.G hr1 (by rfl) Co.m Co.k Co.b .nil pass0 (pa_cons (pe_callB call_len_seq (by rfl) T.len PySem.boot_len (pa_cons (pv 2) pa_nil)) (pa_cons (pe_slice sl_list (pv 6) po_none (po_some (pv 12))) pa_nil))) pa_nil)))))
      (pss_one (ps_ret (pe_cmpR (op_eqT hu) (pe_call Tu.G hr (by rfl) Tu.m Tu.k Tu.b .nil pass0 (pa_cons (pv 3) (pa_cons (pv 13) (pa_cons (pe_call Co.G hr1 (by rfl) Co.m Co.k Co.b .nil pass0 (pa_cons (pe_callB call_len_seq (by rfl) T.len PySem.boot_len (pa_cons (pv 2) pa_nil)) (pa_cons (pe_slice sl_list (pv 6) (po_some (pv 12)) po_none) pa_nil))) pa_nil)))) (pv 5) (nomark _))))))))))))))))), ?_⟩
    -- sizes
    refine ⟨_, rfl, a, 0, ns, rfl, hS, by decide, fun z1 => ⟨z1, 1, rfl, fun z2 h20 h21 => ⟨z2, rfl, fun p ds H1 np1 s1 hp hz => ?_⟩⟩⟩
    have hdl0 : (nV ds).length = ds.length := List.length_map _
    -- levers
    refine ⟨_, rfl, _, rfl, a, 1, ns, rfl, s1.seq hS, by decide, fun z3 => ⟨z3, 2, rfl, fun z4 h40 h41 => ?_⟩⟩
    refine ⟨_, _, rfl, rfl, (by show (0 : Int) < 8; decide), _, _, rfl, rfl, _, rfl, p, _, rfl, .inl (SqL.of hp), a, 2, (1 + z4 % 8).toNat, ds.length, ns, ?_, s1.seq hS, by decide, (many z4).2, hz.2.1, fun q lv ls H2 np2 s2 hq hR hlL hlD => ?_⟩
    · show [V.ref a, V.int 2, V.int (1 + z4 % 8), V.int (((nV ds).length : Nat) : Int)] = [V.ref a, V.int ((2 : Nat) : Int), V.int ((((1 + z4 % 8).toNat : Nat)) : Int), V.int ((ds.length : Nat) : Int)]
      rw [Int.toNat_of_nonneg (by omega), hdl0]
      rfl
    have h8 : 1 ≤ ls.length ∧ ls.length ≤ 8 := by rw [hlL]; exact many z4
    -- the vault
    refine ⟨_, rfl, _, rfl, fun x dx nx ndx hne => ?_⟩
    have s3 : Same H2 (upd (upd H2 dx (.own x)) x (.ins C dx [])) := same_put (same_upd ndx) nx
    refine ⟨x, dx, p, q, ds, lv, ls, rfl, upd_same, s3 _ _ (s2 _ _ hp), s3 _ _ hq, hR.mono s3, hz, h8.2, hlD, fun H4 kp hv => ⟨rfl, ?_⟩⟩
    have s4 : Same H2 H4 := fun b u e => kp b u (fun z => by rw [z, nx] at e; cases e) (s3 b u e)
    have hLl : (ls.map fun l => rst l (iZ ds)).length = ls.length := List.length_map _
    have hLi : ∀ l ∈ (ls.map fun l => rst l (iZ ds)), InB ds l := fun l hl => by
      obtain ⟨l0, h0, rfl⟩ := List.mem_map.mp hl
      exact rst_inb hz (hlD l0 h0)
    generalize (ls.map fun l => rst l (iZ ds)) = ls' at hv hLl hLi ⊢
    have hLd : ∀ l ∈ ls', l.length = ds.length := fun l hl => (hLi l hl).1
    have hLs : ∀ l ∈ ls', Sml l := fun l hl => (hLi l hl).sml hz
    have hlv : lv.length = ls'.length := by rw [hR.len, hLl]
    have hL8 : 1 ≤ ls'.length ∧ ls'.length ≤ 8 := by rw [hLl]; exact h8
    have hp4 := s4 _ _ (s2 _ _ hp)
    have hq4 := s4 _ _ hq
    have hS4 := (s1.trans (s2.trans s4)).seq hS
    -- first
    refine ⟨_, rfl, p, _, rfl, .inl (SqL.of hp4), (((nV ds).length : Nat) : Int), rfl, by omega, by have := hz.2.1; omega, fun D hD => ?_⟩
    refine comp_range (fun j σ H5 => (∃ v : Option V, σ = [v, some (.ref a), some (.ref p)]) ∧ Same H4 H5 ∧ ∃ ms : List Int, H5 D = some (.lst (iV ms)) ∧ ms.length = j ∧ ∀ (i : Nat) (n : Int) (d : Nat), ms[i]? = some n → ds[i]? = some d → 0 ≤ n ∧ n < d)
      ⟨⟨_, rfl⟩, same_upd hD, [], upd_same, rfl, fun i n d hn => by simp at hn⟩ ?_ ?_
    · rintro j σ H5 hj ⟨⟨v, rfl⟩, sm5, ms, hm, hml, hmb⟩
      have hj' : j < ds.length := by have h' : j < (((nV ds).length : Nat) : Int).toNat := hj; rw [Int.toNat_natCast, hdl0] at h'; exact h'
      have hat : atI (nV ds) (0 + (j : Int)) = some (V.int ((ds[j] : Nat) : Int)) := by
        rw [Int.zero_add]
        exact atI_nat (by rw [List.getElem?_map, List.getElem?_eq_getElem hj']; rfl)
      have hdj := hz.2.2 _ (List.getElem_mem hj')
      refine ⟨_, rfl, a, 1, ns, rfl, sm5.seq hS4, by decide, fun z => ⟨_, rfl, _, _, rfl, rfl, z, _, rfl, fun y y0 y1 => ?_⟩⟩
      refine ⟨_, rfl, _, rfl, p, _, _, _, rfl, rfl, SqL.of (sm5 _ _ hp4), hat, _, _, rfl, rfl, (by show (0 : Int) < ((ds[j] : Nat) : Int); omega), ?_⟩
      refine ⟨iV ms, hm, ?_, ⟨_, rfl⟩, same_put sm5 hD, ms ++ [y % ((ds[j] : Nat) : Int)], ?_, ?_, ?_⟩
      · rw [List.length_map, hml]
        exact small hj' (Nat.le_trans hz.2.1 (by decide))
      · rw [upd_same]
        unfold iV
        rw [List.map_append]
        rfl
      · rw [List.length_append, hml]
        rfl
      · intro i n d hn hd
        by_cases hi : i < ms.length
        · rw [List.getElem?_append_left hi] at hn
          exact hmb i n d hn hd
        · rw [List.getElem?_append_right (by omega)] at hn
          have h0 : i - ms.length = 0 := by
            have := (List.getElem?_eq_some_iff.mp hn).1
            simp at this
            omega
          rw [h0] at hn
          have en : y % ((ds[j] : Nat) : Int) = n := Option.some.inj hn
          have ei : i = j := by omega
          subst ei
          rw [List.getElem?_eq_getElem hj'] at hd
          cases hd
          rw [← en]
          exact ⟨Int.emod_nonneg _ (by omega), Int.emod_lt_of_pos _ (by omega)⟩
    rintro σ H5 ⟨_, sm5, ms, hm, hml, hmb⟩
    refine ⟨D, _, rfl, .inl ⟨SqL.of hm, fun ff nff => ?_⟩⟩
    have hin : InB ds ms := ⟨by rw [hml, hdl0]; exact Int.toNat_natCast _, hmb⟩
    have s6 := sm5.trans (same_upd (o := .tup (iV ms)) nff)
    have hff6 : upd H5 ff (.tup (iV ms)) ff = some (.tup (iV ms)) := upd_same
    generalize upd H5 ff (.tup (iV ms)) = H6 at s6 hff6 ⊢
    have hp6 := s6 _ _ hp4
    have hq6 := s6 _ _ hq4
    have hS6 := s6.seq hS4
    have hv6 := hv.mono s6
    clear hD hm sm5 nff kp s3 hml hmb
    -- setting, deeds
    refine ⟨_, rfl, ?_⟩
    refine ⟨(by show 0 ≤ sizeLine; decide), fun dd ndd => ?_⟩
    have s7 := same_upd (o := .lst []) ndd
    have hnl : (ns.map V.int).length = ns.length := List.length_map _
    refine ⟨_, rfl, a, _, rfl, .inl (s7.seq hS6), _, _, rfl, _, _, rfl, 2, _, rfl, ⟨by decide, by decide, ?_, ?_⟩, ?_⟩
    · exact Int.le_trans (by decide) (hiB (Int.natCast_nonneg _)).1
    · exact Int.lt_of_le_of_lt (hiB (Int.natCast_nonneg _)).2 (by decide)
    refine for_range (fun i σ H8 => ∃ (st : Addr) (dl : List (Nat × Int)) (dv : List V) (v7 v8 v9 v10 : Option V), σ = [some (.ref a), some (.ref p), some (.ref q), some (.ref x), some (.ref ff), some (.ref st), some (.ref dd), v7, v8, v9, v10, none, none, none] ∧ Same H6 H8 ∧
      H8 st = some (.tup (iV (runS ds ls' ms dl))) ∧ H8 dd = some (.lst dv) ∧ Prs H8 dv dl ∧ dl.length = i ∧ ∀ d ∈ dl, d.1 < ls'.length) ⟨ff, [], [], none, none, none, none, rfl, s7, s7 _ _ hff6, upd_same, .nil, rfl, fun d hd => by simp at hd⟩ ?_ ?_
    · rintro i σ H8 hi ⟨st, dl, dv, v7, v8, v9, v10, rfl, sm, hst, hdd, hP, hdl, hlt⟩
      have hi62 : i < 62 := by
        exact iB (hiB (Int.natCast_nonneg (ns.map V.int).length)).2 hi
      have ek : ∀ l : List V, V.ref a :: V.int (2 + (i : Int)) :: l = V.ref a :: V.int ((2 + i : Nat) : Int) :: l := fun l => by rw [Int.natCast_add]; rfl
      have h2i : 2 + i ≤ 1000 := Nat.le_trans (Nat.add_le_add_left (Nat.le_of_lt hi62) 2) (by decide)
      have hq8 := sm _ _ hq6
      refine ⟨_, rfl, _, rfl, a, 2 + i, ns, ek _, sm.seq hS6, h2i, fun z => ⟨_, rfl, z, _, rfl, fun n n0 n1 => ?_⟩⟩
      -- lever
      have hpos : (0 : Int) < ((lv.length : Nat) : Int) := Int.natCast_pos.mpr (by rw [hlv]; exact hL8.1)
      refine ⟨_, rfl, _, rfl, q, _, rfl, .inl (SqL.of hq8), _, _, rfl, rfl, hpos, ?_⟩
      obtain ⟨kk, ekk, hkl⟩ : ∃ kk : Nat, n % ((lv.length : Nat) : Int) = (kk : Int) ∧ kk < ls'.length := by
        have e0 := Int.emod_nonneg n (Int.ne_of_gt hpos)
        have e1 := Int.emod_lt_of_pos n hpos
        exact ⟨(n % ((lv.length : Nat) : Int)).toNat, (Int.toNat_of_nonneg e0).symm, by rw [← hlv]; exact (Int.toNat_lt e0).mpr e1⟩
      have elk : ls'.getD kk [] = ls'[kk] := by
        rw [List.getD_eq_getElem?_getD, List.getElem?_eq_getElem hkl]
        rfl
      have hel : ls'[kk]? = some ls'[kk] := List.getElem?_eq_getElem hkl
      have hsm := hLs _ (List.getElem_mem hkl)
      have hrin := run_inb hz hin hLd hlt
      -- times
      refine ⟨_, rfl, _, rfl, a, 2 + i, ns, ek _, sm.seq hS6, h2i, fun z' => ⟨_, rfl, _, _, rfl, rfl, z', _, rfl, fun t H9 s9 => ?_⟩⟩
      have S9 := sm.trans s9
      refine ⟨_, rfl, _, _, rfl, rfl, ⟨by decide, by decide⟩, _, _, rfl, rfl, (by show (0 : Int) < 4; decide), rfl, _, rfl, iteD (fun _ => ?_) (fun _ => ?_)⟩
      · refine ⟨_, rfl, _, rfl, _, rfl, x, st, ds, ls', _, kk, ls'[kk], 1, ?_, hv6.mono S9, hz, hL8.2, hel, hsm, s9 _ _ hst, hrin, fun r H10 s10 hr10 => ?_⟩
        · show [V.ref x, V.ref st, V.int (n % ((lv.length : Nat) : Int)), V.int 1] = [V.ref x, V.ref st, V.int ((kk : Nat) : Int), V.int 1]
          rw [ekk]
        have hc8 := s9.trans s10
        have hdd10 := hc8 _ _ hdd
        refine ⟨_, rfl, .inl ⟨rfl, _, SqL.of hdd10⟩, ?_⟩
        refine ⟨_, rfl, _, rfl, (by show 2 ≤ sizeLine; decide), fun c nc => ?_⟩
        have sc := same_upd (o := .tup [.int (n % ((lv.length : Nat) : Int)), .int 1]) nc
        have hdd11 := sc _ _ hdd10
        refine ⟨dd, _, _, rfl, rfl, hdd11, ?_, ?_⟩
        · rw [hP.len, hdl]
          exact small hi62 (by decide)
        have hrd : r ≠ dd := ne_of (sc _ _ hr10) hdd11 (by intro z; cases z)
        have hcc : upd H10 c (.tup [.int (n % ((lv.length : Nat) : Int)), .int 1]) c = some (.tup [.int ((kk : Nat) : Int), .int 1]) := by rw [upd_same, ekk]
        have S12 : Same H6 (upd (upd H10 c (.tup [.int (n % ((lv.length : Nat) : Int)), .int 1])) dd (.lst (dv ++ [.ref c]))) := same_put ((sm.trans hc8).trans sc) ndd
        have hP12 : Prs (upd (upd H10 c (.tup [.int (n % ((lv.length : Nat) : Int)), .int 1])) dd (.lst (dv ++ [.ref c]))) (dv ++ [.ref c]) (dl ++ [(kk, 1)]) := Prs.put hdd11 (((hP.mono hc8).mono sc).snoc hcc)
        have hr12 : upd (upd H10 c (.tup [.int (n % ((lv.length : Nat) : Int)), .int 1])) dd (.lst (dv ++ [.ref c])) r = some (.tup (iV (runS ds ls' ms (dl ++ [(kk, 1)])))) := by
          rw [upd_ne hrd, run_snoc, elk]
          exact sc _ _ hr10
        have hlt' : ∀ d ∈ dl ++ [(kk, (1 : Int))], d.1 < ls'.length := fun d hd => by
          rcases List.mem_append.mp hd with q | q
          · exact hlt d q
          · rw [List.mem_singleton.mp q]
            exact hkl
        refine ⟨_, rfl, _, rfl, x, r, ds, ls', _, rfl, hv6.mono S12, hz, hr12, run_inb hz hin hLd hlt', fun H13 s13 => ⟨_, rfl, iteF ?_⟩⟩
        exact ⟨r, dl ++ [(kk, 1)], dv ++ [.ref c], _, _, _, _, rfl, S12.trans s13, s13 _ _ hr12, s13 _ _ upd_same, hP12.mono s13, by rw [List.length_append, hdl]; rfl, hlt'⟩
      · refine ⟨_, rfl, _, rfl, _, rfl, _, rfl, x, st, ds, ls', _, kk, ls'[kk], t, ?_, hv6.mono S9, hz, hL8.2, hel, hsm, s9 _ _ hst, hrin, fun r H10 s10 hr10 => ?_⟩
        · show [V.ref x, V.ref st, V.int (n % ((lv.length : Nat) : Int)), V.int t] = [V.ref x, V.ref st, V.int ((kk : Nat) : Int), V.int t]
          rw [ekk]
        have hc8 := s9.trans s10
        have hdd10 := hc8 _ _ hdd
        refine ⟨_, rfl, .inl ⟨rfl, _, SqL.of hdd10⟩, ?_⟩
        refine ⟨_, rfl, _, rfl, (by show 2 ≤ sizeLine; decide), fun c nc => ?_⟩
        have sc := same_upd (o := .tup [.int (n % ((lv.length : Nat) : Int)), .int t]) nc
        have hdd11 := sc _ _ hdd10
        refine ⟨dd, _, _, rfl, rfl, hdd11, ?_, ?_⟩
        · rw [hP.len, hdl]
          exact small hi62 (by decide)
        have hrd : r ≠ dd := ne_of (sc _ _ hr10) hdd11 (by intro z; cases z)
        have hcc : upd H10 c (.tup [.int (n % ((lv.length : Nat) : Int)), .int t]) c = some (.tup [.int ((kk : Nat) : Int), .int t]) := by rw [upd_same, ekk]
        have S12 : Same H6 (upd (upd H10 c (.tup [.int (n % ((lv.length : Nat) : Int)), .int t])) dd (.lst (dv ++ [.ref c]))) := same_put ((sm.trans hc8).trans sc) ndd
        have hP12 : Prs (upd (upd H10 c (.tup [.int (n % ((lv.length : Nat) : Int)), .int t])) dd (.lst (dv ++ [.ref c]))) (dv ++ [.ref c]) (dl ++ [(kk, t)]) := Prs.put hdd11 (((hP.mono hc8).mono sc).snoc hcc)
        have hr12 : upd (upd H10 c (.tup [.int (n % ((lv.length : Nat) : Int)), .int t])) dd (.lst (dv ++ [.ref c])) r = some (.tup (iV (runS ds ls' ms (dl ++ [(kk, t)])))) := by
          rw [upd_ne hrd, run_snoc, elk]
          exact sc _ _ hr10
        have hlt' : ∀ d ∈ dl ++ [(kk, (t : Int))], d.1 < ls'.length := fun d hd => by
          rcases List.mem_append.mp hd with q | q
          · exact hlt d q
          · rw [List.mem_singleton.mp q]
            exact hkl
        refine ⟨_, rfl, _, rfl, x, r, ds, ls', _, rfl, hv6.mono S12, hz, hr12, run_inb hz hin hLd hlt', fun H13 s13 => ⟨_, rfl, iteF ?_⟩⟩
        exact ⟨r, dl ++ [(kk, t)], dv ++ [.ref c], _, _, _, _, rfl, S12.trans s13, s13 _ _ hr12, s13 _ _ upd_same, hP12.mono s13, by rw [List.length_append, hdl]; rfl, hlt'⟩
    rintro σ H8 ⟨st, dl, dv, v7, v8, v9, v10, rfl, sm, hst, hdd, hP, hdl, hlt⟩
    have hcl : ∀ l : List V, V.int ((lv.length : Nat) : Int) :: l = V.int ((ls'.length : Nat) : Int) :: l := fun l => by rw [hlv]
    have hrin := run_inb hz hin hLd hlt
    have hv8 := hv6.mono sm
    have hf8 := sm _ _ hff6
    have hq8 := sm _ _ hq6
    have hS8 := sm.seq hS6
    have hcn : ∀ e : List (Nat × Int), (cnt ls'.length e).length = ls'.length := fun e => cnt_len _ _
    refine ⟨_, rfl, q, _, rfl, .inl (SqL.of hq8), _, rfl, ls'.length, dd, dv, dl, hcl _, hL8.2, hdd, hP, hlt, fun pu H9 s9 hpu => ?_⟩
    -- turned at once
    refine ⟨_, rfl, _, rfl, _, rfl, x, ff, pu, ds, ls', ms, _, rfl, hv8.mono s9, hz, hL8.2, hLs, s9 _ _ hf8, hin, hpu, hcn _, fun t1 H10 s10 ht1 => ?_⟩
    have S10 := s9.trans s10
    refine ⟨_, rfl, t1, st, _, _, rfl, rfl, SqT.of ht1, SqT.of (S10 _ _ hst), !decide (turnS ds ls' ms (cnt ls'.length dl) = runS ds ls' ms dl), rfl, iteNS (m1 hin hLd hlt) ?_⟩
    -- back
    have hpu10 := s10 _ _ hpu
    refine ⟨_, rfl, _, rfl, _, rfl, false, pu, rfl, ⟨_, SqB.ofT hpu10⟩, fun D hD => ?_⟩
    refine comp_seq (K := K) (b := false) (a := pu) (xs := iV (cnt ls'.length dl)) (fun i σ H11 => (∃ v : Option V, σ = [v]) ∧ Same H10 H11 ∧ H11 D = some (.lst (iV (((cnt ls'.length dl).map fun t => 0 - t).take i))))
      ⟨⟨_, rfl⟩, same_upd hD, upd_same⟩ (fun i σ H11 _ ⟨_, sm11, _⟩ => SqB.ofT (sm11 _ _ hpu10)) ?_ ?_
    · rintro i y σ H11 hi ⟨⟨v, rfl⟩, sm11, hd⟩
      obtain ⟨t, ht, rfl⟩ := at_ints hi
      have hil : i < ls'.length := by rw [← hcn dl]; exact (List.getElem?_eq_some_iff.mp ht).1
      refine ⟨_, rfl, _, _, rfl, rfl, _, hd, ?_, ⟨_, rfl⟩, same_put sm11 hD, ?_⟩
      · rw [List.length_map, List.length_take]
        exact Nat.lt_of_le_of_lt (Nat.min_le_left _ _) (small hil (Nat.le_trans hL8.2 (by decide)))
      · rw [upd_same, List.take_add_one, List.getElem?_map, ht]
        unfold iV
        rw [List.map_append]
        rfl
    rintro σ H11 ⟨_, sm11, hd⟩
    rw [show ((cnt ls'.length dl).map fun t => 0 - t).take (iV (cnt ls'.length dl)).length = (cnt ls'.length dl).map fun t => 0 - t from List.take_of_length_le (by rw [List.length_map, List.length_map]; exact Nat.le_refl _)] at hd
    refine ⟨D, _, rfl, .inl ⟨SqL.of hd, fun g ng => ?_⟩⟩
    have S12 := S10.trans (sm11.trans (same_upd (o := .tup (iV ((cnt ls'.length dl).map fun t => 0 - t))) ng))
    refine ⟨x, st, g, ds, ls', _, _, rfl, hv8.mono S12, hz, hL8.2, hLs, S12 _ _ hst, hrin, upd_same, by rw [List.length_map]; exact hcn _, fun t2 H13 s13 ht2 => ?_⟩
    have S13 := S12.trans s13
    have hpu13 : H13 pu = _ := (sm11.trans ((same_upd (o := .tup (iV ((cnt ls'.length dl).map fun t => 0 - t))) ng).trans s13)) _ _ hpu10
    refine ⟨_, rfl, t2, ff, _, _, rfl, rfl, SqT.of ht2, SqT.of (S13 _ _ hf8), !decide (turnS ds ls' (runS ds ls' ms dl) ((cnt ls'.length dl).map fun t => 0 - t) = ms), rfl, iteNS (m2 hz hin hLd hlt) ?_⟩
    -- between
    refine ⟨_, rfl, _, rfl, _, rfl, x, ff, st, ds, ls', ms, _, rfl, hv8.mono S13, hz, S13 _ _ hf8, hin, S13 _ _ hst, hrin, fun t3 H14 s14 ht3 => ?_⟩
    have S14 := S13.trans s14
    refine ⟨_, rfl, _, rfl, x, ds, ls', rfl, hv8.mono S14, hz, fun no H15 s15 hno => ?_⟩
    have S15 := S14.trans s15
    refine ⟨_, rfl, x, no, pu, ds, ls', _, _, rfl, hv8.mono S15, hz, hL8.2, hLs, hno, nought_inb hz, s15 _ _ (s14 _ _ hpu13), hcn _, fun t4 H16 s16 ht4 => ?_⟩
    have S16 := S15.trans s16
    refine ⟨t3, t4, _, _, rfl, rfl, SqT.of (s16 _ _ (s15 _ _ ht3)), SqT.of ht4, !decide (addS ds (runS ds ls' ms dl) ms (-1) = turnS ds ls' (List.replicate ds.length 0) (cnt ls'.length dl)), rfl, iteNS (m3 hz hin hLd hlt) ?_⟩
    -- cut
    have hdd16 := S16 _ _ hdd
    have hcp : (0 : Int) < ((dv.length : Nat) : Int) + 1 := by omega
    refine ⟨_, rfl, a, 0, ns, rfl, S16.seq hS8, by decide, fun z1 => ⟨z1, 5, rfl, fun y y0 y1 => ?_⟩⟩
    refine ⟨_, rfl, dd, _, rfl, .inl (SqL.of hdd16), _, _, rfl, rfl, _, _, rfl, rfl, hcp, ?_⟩
    obtain ⟨c, ec⟩ : ∃ c : Nat, y % (((dv.length : Nat) : Int) + 1) = (c : Int) := ⟨_, (Int.toNat_of_nonneg (Int.emod_nonneg y (Int.ne_of_gt hcp))).symm⟩
    -- amid
    have ct : cutV dv none (some (y % (((dv.length : Nat) : Int) + 1))) = dv.take c := by rw [ec, cut_take]
    have cd : cutV dv (some (y % (((dv.length : Nat) : Int) + 1))) none = dv.drop c := by rw [ec, cut_drop]
    refine ⟨_, rfl, _, rfl, _, rfl, q, _, rfl, .inl (SqL.of (S16 _ _ hq8)), _, rfl, _, rfl, _, rfl, dd, _, rfl, SqL.of hdd16, fun sl nsl => ?_⟩
    have h17 : upd H16 sl (.lst (cutV dv none (some (y % (((dv.length : Nat) : Int) + 1))))) sl = some (.lst (dv.take c)) := by rw [upd_same, ct]
    have S17 := S16.trans (same_upd (o := .lst (cutV dv none (some (y % (((dv.length : Nat) : Int) + 1))))) nsl)
    have ht' : ∀ d ∈ dl.take c, d.1 < ls'.length := fun d h => hlt d (List.mem_of_mem_take h)
    have hd' : ∀ d ∈ dl.drop c, d.1 < ls'.length := fun d h => hlt d (List.mem_of_mem_drop h)
    refine ⟨ls'.length, sl, dv.take c, dl.take c, hcl _, hL8.2, h17, (hP.mono S17).take c, ht', fun pa H18 s18 hpa => ?_⟩
    have S18 := S17.trans s18
    refine ⟨x, ff, pa, ds, ls', ms, _, rfl, hv8.mono S18, hz, hL8.2, hLs, S18 _ _ hf8, hin, hpa, hcn _, fun am H19 s19 ham => ?_⟩
    have S19 := S18.trans s19
    -- the end
    refine ⟨_, rfl, _, rfl, _, rfl, q, _, rfl, .inl (SqL.of (S19 _ _ hq8)), _, rfl, _, rfl, _, rfl, dd, _, rfl, SqL.of (S19 _ _ hdd), fun s2' ns2 => ?_⟩
    have h20 : upd H19 s2' (.lst (cutV dv (some (y % (((dv.length : Nat) : Int) + 1))) none)) s2' = some (.lst (dv.drop c)) := by rw [upd_same, cd]
    have S20 := S19.trans (same_upd (o := .lst (cutV dv (some (y % (((dv.length : Nat) : Int) + 1))) none)) ns2)
    have ham20 := same_upd (o := .lst (cutV dv (some (y % (((dv.length : Nat) : Int) + 1))) none)) ns2 _ _ ham
    refine ⟨ls'.length, s2', dv.drop c, dl.drop c, hcl _, hL8.2, h20, (hP.mono S20).drop c, hd', fun pb H21 s21 hpb => ?_⟩
    have S21 := S20.trans s21
    refine ⟨x, am, pb, ds, ls', _, _, rfl, hv8.mono S21, hz, hL8.2, hLs, s21 _ _ ham20, turn_inb hz hin hLd, hpb, hcn _, fun t5 H22 s22 ht5 => ?_⟩
    have S22 := S21.trans s22
    refine ⟨_, rfl, t5, st, _, _, rfl, rfl, SqT.of ht5, SqT.of (S22 _ _ hst), ?_⟩
    show Q (.bl (decide (turnS ds ls' (turnS ds ls' ms (cnt ls'.length (dl.take c))) (cnt ls'.length (dl.drop c)) = runS ds ls' ms dl))) H22
    rw [decide_eq_true (m4 hz hin hLd hlt c)]
    exact k _
end
end K14
namespace K14
open PySem L2
theorem len1 {α : Type} {us : List α} (h : us.length = 1) : ∃ a, us = [a] := by
  cases us with
  | nil => cases h
  | cons a t => cases t with
    | nil => exact ⟨a, rfl⟩
    | cons b t => cases h
theorem len2 {α : Type} {us : List α} (h : us.length = 2) : ∃ a b, us = [a, b] := by
  cases us with
  | nil => cases h
  | cons a t => obtain ⟨b, rfl⟩ := len1 (Nat.succ.inj h); exact ⟨a, b, rfl⟩
theorem len3 {α : Type} {us : List α} (h : us.length = 3) : ∃ a b c, us = [a, b, c] := by
  cases us with
  | nil => cases h
  | cons a t => obtain ⟨b, c, rfl⟩ := len2 (Nat.succ.inj h); exact ⟨a, b, c, rfl⟩
theorem len4 {α : Type} {us : List α} (h : us.length = 4) : ∃ a b c d, us = [a, b, c, d] := by
  cases us with
  | nil => cases h
  | cons a t => obtain ⟨b, c, d, rfl⟩ := len3 (Nat.succ.inj h); exact ⟨a, b, c, d, rfl⟩
theorem all_mk {P : Program} {w : World} {K : PySem.W.Frag} {h : Heap} {mg : Str → Option Value} {fa C T_pu T_in f_wh f_rw f_co f_mo f_wi f_ns f_nl f_pf f_rs f_no f_is f_ip f_st f_np f_ad f_tu f_be f_ce f_mx f_nu f_ti f_sz f_lv f_ct f_lw f_ms f_ml f_in f_pu : Addr} (X : K.In h) (G : h.Ns mainGlobals mg) (hfa : mg "law" = some (.ref fa))
    {od_wh an_wh od_rw an_rw od_co an_co od_mo an_mo od_wi an_wi od_ns an_ns od_nl an_nl od_pf an_pf od_rs an_rs od_no an_no od_is an_is od_ip an_ip od_st an_st od_np an_np od_ad an_ad od_tu an_tu od_be an_be od_ce an_ce od_mx an_mx od_nu an_nu od_ti an_ti od_sz an_sz od_lv an_lv od_ct an_ct od_lw an_lw od_ms an_ms od_ml an_ml od_in an_in od_pu an_pu dT_pu dT_in : Option Addr} {sl_wh sl_rw sl_co sl_mo sl_wi sl_ns sl_nl sl_pf sl_rs sl_no sl_is sl_ip sl_st sl_np sl_ad sl_tu sl_be sl_ce sl_mx sl_nu sl_ti sl_sz sl_lv sl_ct sl_lw sl_ms sl_ml sl_in sl_pu sT_pu sT_in : Array (Option Value)} {oc_wh kV_wh dc_wh pm_wh cd_wh ct_wh oc_rw kV_rw dc_rw pm_rw cd_rw ct_rw oc_co kV_co dc_co pm_co cd_co ct_co oc_mo kV_mo dc_mo pm_mo cd_mo ct_mo oc_wi kV_wi dc_wi pm_wi cd_wi ct_wi oc_ns kV_ns dc_ns pm_ns cd_ns ct_ns oc_nl kV_nl dc_nl pm_nl cd_nl ct_nl oc_pf kV_pf dc_pf pm_pf cd_pf ct_pf oc_rs kV_rs dc_rs pm_rs cd_rs ct_rs oc_no kV_no dc_no pm_no cd_no ct_no oc_is kV_is dc_is pm_is cd_is ct_is oc_ip kV_ip dc_ip pm_ip cd_ip ct_ip oc_st kV_st dc_st pm_st cd_st ct_st oc_np kV_np dc_np pm_np cd_np ct_np oc_ad kV_ad dc_ad pm_ad cd_ad ct_ad oc_tu kV_tu dc_tu pm_tu cd_tu ct_tu oc_be kV_be dc_be pm_be cd_be ct_be oc_ce kV_ce dc_ce pm_ce cd_ce ct_ce oc_mx kV_mx dc_mx pm_mx cd_mx ct_mx oc_nu kV_nu dc_nu pm_nu cd_nu ct_nu oc_ti kV_ti dc_ti pm_ti cd_ti ct_ti oc_sz kV_sz dc_sz pm_sz cd_sz ct_sz oc_lv kV_lv dc_lv pm_lv cd_lv ct_lv oc_ct kV_ct dc_ct pm_ct cd_ct ct_ct oc_lw kV_lw dc_lw pm_lw cd_lw ct_lw oc_ms kV_ms dc_ms pm_ms cd_ms ct_ms oc_ml kV_ml dc_ml pm_ml cd_ml ct_ml oc_in kV_in dc_in pm_in cd_in ct_in oc_pu kV_pu dc_pu pm_pu cd_pu ct_pu oT_pu oT_in : Value} {nT_pu nT_in : Nat} {tk tg0 tg1 tg2 tg3 tg4 : Tok}
    (aC : PySem.W.nsIn K mainGlobals "Vault" = some (some (.ref C)))
    (a_wh : PySem.W.nsIn K mainGlobals "is_whole" = some (some (.ref f_wh)))
    (l_wh : K.lookup f_wh = some ⟨oc_wh, od_wh, .func (PySem.W.fnOf "is_whole" "is_whole" (defArgs sWhole) (defBody sWhole) (defScope sWhole) .none kV_wh dc_wh pm_wh an_wh cd_wh ct_wh), sl_wh⟩)
    (c_wh : PySem.W.codeIn K cd_wh "is_whole" = true)
    (k_wh : PySem.W.keepIn K (.ref f_wh) = true)
    (a_rw : PySem.W.nsIn K mainGlobals "is_row" = some (some (.ref f_rw)))
    (l_rw : K.lookup f_rw = some ⟨oc_rw, od_rw, .func (PySem.W.fnOf "is_row" "is_row" (defArgs sIsRow) (defBody sIsRow) (defScope sIsRow) .none kV_rw dc_rw pm_rw an_rw cd_rw ct_rw), sl_rw⟩)
    (c_rw : PySem.W.codeIn K cd_rw "is_row" = true)
    (k_rw : PySem.W.keepIn K (.ref f_rw) = true)
    (a_co : PySem.W.nsIn K mainGlobals "common" = some (some (.ref f_co)))
    (l_co : K.lookup f_co = some ⟨oc_co, od_co, .func (PySem.W.fnOf "common" "common" (defArgs sCommon) (defBody sCommon) (defScope sCommon) .none kV_co dc_co pm_co an_co cd_co ct_co), sl_co⟩)
    (c_co : PySem.W.codeIn K cd_co "common" = true)
    (k_co : PySem.W.keepIn K (.ref f_co) = true)
    (a_mo : PySem.W.nsIn K mainGlobals "multiple_of" = some (some (.ref f_mo)))
    (l_mo : K.lookup f_mo = some ⟨oc_mo, od_mo, .func (PySem.W.fnOf "multiple_of" "multiple_of" (defArgs sMulOf) (defBody sMulOf) (defScope sMulOf) .none kV_mo dc_mo pm_mo an_mo cd_mo ct_mo), sl_mo⟩)
    (c_mo : PySem.W.codeIn K cd_mo "multiple_of" = true)
    (k_mo : PySem.W.keepIn K (.ref f_mo) = true)
    (a_wi : PySem.W.nsIn K mainGlobals "is_within" = some (some (.ref f_wi)))
    (l_wi : K.lookup f_wi = some ⟨oc_wi, od_wi, .func (PySem.W.fnOf "is_within" "is_within" (defArgs sWithin) (defBody sWithin) (defScope sWithin) .none kV_wi dc_wi pm_wi an_wi cd_wi ct_wi), sl_wi⟩)
    (c_wi : PySem.W.codeIn K cd_wi "is_within" = true)
    (k_wi : PySem.W.keepIn K (.ref f_wi) = true)
    (a_ns : PySem.W.nsIn K mainGlobals "need_sizes" = some (some (.ref f_ns)))
    (l_ns : K.lookup f_ns = some ⟨oc_ns, od_ns, .func (PySem.W.fnOf "need_sizes" "need_sizes" (defArgs sNeedSizes) (defBody sNeedSizes) (defScope sNeedSizes) .none kV_ns dc_ns pm_ns an_ns cd_ns ct_ns), sl_ns⟩)
    (c_ns : PySem.W.codeIn K cd_ns "need_sizes" = true)
    (k_ns : PySem.W.keepIn K (.ref f_ns) = true)
    (a_nl : PySem.W.nsIn K mainGlobals "need_levers" = some (some (.ref f_nl)))
    (l_nl : K.lookup f_nl = some ⟨oc_nl, od_nl, .func (PySem.W.fnOf "need_levers" "need_levers" (defArgs sNeedLevers) (defBody sNeedLevers) (defScope sNeedLevers) .none kV_nl dc_nl pm_nl an_nl cd_nl ct_nl), sl_nl⟩)
    (c_nl : PySem.W.codeIn K cd_nl "need_levers" = true)
    (k_nl : PySem.W.keepIn K (.ref f_nl) = true)
    (a_pf : PySem.W.nsIn K mainGlobals "prices_for" = some (some (.ref f_pf)))
    (l_pf : K.lookup f_pf = some ⟨oc_pf, od_pf, .func (PySem.W.fnOf "prices_for" "prices_for" (defArgs sPrices) (defBody sPrices) (defScope sPrices) .none kV_pf dc_pf pm_pf an_pf cd_pf ct_pf), sl_pf⟩)
    (c_pf : PySem.W.codeIn K cd_pf "prices_for" = true)
    (k_pf : PySem.W.keepIn K (.ref f_pf) = true)
    (a_rs : PySem.W.nsIn K mainGlobals "rests" = some (some (.ref f_rs)))
    (l_rs : K.lookup f_rs = some ⟨oc_rs, od_rs, .func (PySem.W.fnOf "rests" "rests" (defArgs sRests) (defBody sRests) (defScope sRests) .none kV_rs dc_rs pm_rs an_rs cd_rs ct_rs), sl_rs⟩)
    (c_rs : PySem.W.codeIn K cd_rs "rests" = true)
    (k_rs : PySem.W.keepIn K (.ref f_rs) = true)
    (a_no : PySem.W.nsIn K mainGlobals "nought" = some (some (.ref f_no)))
    (l_no : K.lookup f_no = some ⟨oc_no, od_no, .func (PySem.W.fnOf "nought" "nought" (defArgs sNought) (defBody sNought) (defScope sNought) .none kV_no dc_no pm_no an_no cd_no ct_no), sl_no⟩)
    (c_no : PySem.W.codeIn K cd_no "nought" = true)
    (k_no : PySem.W.keepIn K (.ref f_no) = true)
    (a_is : PySem.W.nsIn K mainGlobals "is_setting" = some (some (.ref f_is)))
    (l_is : K.lookup f_is = some ⟨oc_is, od_is, .func (PySem.W.fnOf "is_setting" "is_setting" (defArgs sIsSetting) (defBody sIsSetting) (defScope sIsSetting) .none kV_is dc_is pm_is an_is cd_is ct_is), sl_is⟩)
    (c_is : PySem.W.codeIn K cd_is "is_setting" = true)
    (k_is : PySem.W.keepIn K (.ref f_is) = true)
    (a_ip : PySem.W.nsIn K mainGlobals "is_pulls" = some (some (.ref f_ip)))
    (l_ip : K.lookup f_ip = some ⟨oc_ip, od_ip, .func (PySem.W.fnOf "is_pulls" "is_pulls" (defArgs sIsPulls) (defBody sIsPulls) (defScope sIsPulls) .none kV_ip dc_ip pm_ip an_ip cd_ip ct_ip), sl_ip⟩)
    (c_ip : PySem.W.codeIn K cd_ip "is_pulls" = true)
    (k_ip : PySem.W.keepIn K (.ref f_ip) = true)
    (a_st : PySem.W.nsIn K mainGlobals "need_setting" = some (some (.ref f_st)))
    (l_st : K.lookup f_st = some ⟨oc_st, od_st, .func (PySem.W.fnOf "need_setting" "need_setting" (defArgs sNeedSetting) (defBody sNeedSetting) (defScope sNeedSetting) .none kV_st dc_st pm_st an_st cd_st ct_st), sl_st⟩)
    (c_st : PySem.W.codeIn K cd_st "need_setting" = true)
    (k_st : PySem.W.keepIn K (.ref f_st) = true)
    (a_np : PySem.W.nsIn K mainGlobals "need_pulls" = some (some (.ref f_np)))
    (l_np : K.lookup f_np = some ⟨oc_np, od_np, .func (PySem.W.fnOf "need_pulls" "need_pulls" (defArgs sNeedPulls) (defBody sNeedPulls) (defScope sNeedPulls) .none kV_np dc_np pm_np an_np cd_np ct_np), sl_np⟩)
    (c_np : PySem.W.codeIn K cd_np "need_pulls" = true)
    (k_np : PySem.W.keepIn K (.ref f_np) = true)
    (a_ad : PySem.W.nsIn K mainGlobals "added" = some (some (.ref f_ad)))
    (l_ad : K.lookup f_ad = some ⟨oc_ad, od_ad, .func (PySem.W.fnOf "added" "added" (defArgs sAdded) (defBody sAdded) (defScope sAdded) .none kV_ad dc_ad pm_ad an_ad cd_ad ct_ad), sl_ad⟩)
    (c_ad : PySem.W.codeIn K cd_ad "added" = true)
    (k_ad : PySem.W.keepIn K (.ref f_ad) = true)
    (a_tu : PySem.W.nsIn K mainGlobals "turned" = some (some (.ref f_tu)))
    (l_tu : K.lookup f_tu = some ⟨oc_tu, od_tu, .func (PySem.W.fnOf "turned" "turned" (defArgs sTurned) (defBody sTurned) (defScope sTurned) .none kV_tu dc_tu pm_tu an_tu cd_tu ct_tu), sl_tu⟩)
    (c_tu : PySem.W.codeIn K cd_tu "turned" = true)
    (k_tu : PySem.W.keepIn K (.ref f_tu) = true)
    (a_be : PySem.W.nsIn K mainGlobals "between" = some (some (.ref f_be)))
    (l_be : K.lookup f_be = some ⟨oc_be, od_be, .func (PySem.W.fnOf "between" "between" (defArgs sBetween) (defBody sBetween) (defScope sBetween) .none kV_be dc_be pm_be an_be cd_be ct_be), sl_be⟩)
    (c_be : PySem.W.codeIn K cd_be "between" = true)
    (k_be : PySem.W.keepIn K (.ref f_be) = true)
    (a_ce : PySem.W.nsIn K mainGlobals "_law_cell" = some (some (.ref f_ce)))
    (l_ce : K.lookup f_ce = some ⟨oc_ce, od_ce, .func (PySem.W.fnOf "_law_cell" "_law_cell" (defArgs sCell) (defBody sCell) (defScope sCell) .none kV_ce dc_ce pm_ce an_ce cd_ce ct_ce), sl_ce⟩)
    (c_ce : PySem.W.codeIn K cd_ce "_law_cell" = true)
    (k_ce : PySem.W.keepIn K (.ref f_ce) = true)
    (a_mx : PySem.W.nsIn K mainGlobals "_law_mix" = some (some (.ref f_mx)))
    (l_mx : K.lookup f_mx = some ⟨oc_mx, od_mx, .func (PySem.W.fnOf "_law_mix" "_law_mix" (defArgs sMix) (defBody sMix) (defScope sMix) .none kV_mx dc_mx pm_mx an_mx cd_mx ct_mx), sl_mx⟩)
    (c_mx : PySem.W.codeIn K cd_mx "_law_mix" = true)
    (k_mx : PySem.W.keepIn K (.ref f_mx) = true)
    (a_nu : PySem.W.nsIn K mainGlobals "_law_number" = some (some (.ref f_nu)))
    (l_nu : K.lookup f_nu = some ⟨oc_nu, od_nu, .func (PySem.W.fnOf "_law_number" "_law_number" (defArgs sNumber) (defBody sNumber) (defScope sNumber) .none kV_nu dc_nu pm_nu an_nu cd_nu ct_nu), sl_nu⟩)
    (c_nu : PySem.W.codeIn K cd_nu "_law_number" = true)
    (k_nu : PySem.W.keepIn K (.ref f_nu) = true)
    (a_ti : PySem.W.nsIn K mainGlobals "_law_times" = some (some (.ref f_ti)))
    (l_ti : K.lookup f_ti = some ⟨oc_ti, od_ti, .func (PySem.W.fnOf "_law_times" "_law_times" (defArgs sTimes) (defBody sTimes) (defScope sTimes) .none kV_ti dc_ti pm_ti an_ti cd_ti ct_ti), sl_ti⟩)
    (c_ti : PySem.W.codeIn K cd_ti "_law_times" = true)
    (k_ti : PySem.W.keepIn K (.ref f_ti) = true)
    (a_sz : PySem.W.nsIn K mainGlobals "_law_sizes" = some (some (.ref f_sz)))
    (l_sz : K.lookup f_sz = some ⟨oc_sz, od_sz, .func (PySem.W.fnOf "_law_sizes" "_law_sizes" (defArgs sLSizes) (defBody sLSizes) (defScope sLSizes) .none kV_sz dc_sz pm_sz an_sz cd_sz ct_sz), sl_sz⟩)
    (c_sz : PySem.W.codeIn K cd_sz "_law_sizes" = true)
    (k_sz : PySem.W.keepIn K (.ref f_sz) = true)
    (a_lv : PySem.W.nsIn K mainGlobals "_law_levers" = some (some (.ref f_lv)))
    (l_lv : K.lookup f_lv = some ⟨oc_lv, od_lv, .func (PySem.W.fnOf "_law_levers" "_law_levers" (defArgs sLLevers) (defBody sLLevers) (defScope sLLevers) .none kV_lv dc_lv pm_lv an_lv cd_lv ct_lv), sl_lv⟩)
    (c_lv : PySem.W.codeIn K cd_lv "_law_levers" = true)
    (k_lv : PySem.W.keepIn K (.ref f_lv) = true)
    (a_ct : PySem.W.nsIn K mainGlobals "_law_counted" = some (some (.ref f_ct)))
    (l_ct : K.lookup f_ct = some ⟨oc_ct, od_ct, .func (PySem.W.fnOf "_law_counted" "_law_counted" (defArgs sCounted) (defBody sCounted) (defScope sCounted) .none kV_ct dc_ct pm_ct an_ct cd_ct ct_ct), sl_ct⟩)
    (c_ct : PySem.W.codeIn K cd_ct "_law_counted" = true)
    (k_ct : PySem.W.keepIn K (.ref f_ct) = true)
    (a_lw : PySem.W.nsIn K mainGlobals "law" = some (some (.ref f_lw)))
    (l_lw : K.lookup f_lw = some ⟨oc_lw, od_lw, .func (PySem.W.fnOf "law" "law" (defArgs sLaw) (defBody sLaw) (defScope sLaw) .none kV_lw dc_lw pm_lw an_lw cd_lw ct_lw), sl_lw⟩)
    (c_lw : PySem.W.codeIn K cd_lw "law" = true)
    (k_lw : PySem.W.keepIn K (.ref f_lw) = true)
    (a_pu : PySem.W.nsIn K mainGlobals "pulled" = some (some (.ref f_pu)))
    (l_pu : K.lookup f_pu = some ⟨oc_pu, od_pu, .func (PySem.W.fnOf "pulled" "pulled" (defArgs sPulled) (defBody sPulled) (defScope sPulled) (.ref T_pu) kV_pu dc_pu pm_pu an_pu cd_pu ct_pu), sl_pu⟩)
    (c_pu : PySem.W.codeIn K cd_pu "pulled" = true)
    (k_pu : PySem.W.keepIn K (.ref f_pu) = true)
    (d_pu : K.lookup T_pu = some ⟨oT_pu, dT_pu, .seq #[.int 1 tk] nT_pu, sT_pu⟩)
    (a_in : PySem.W.findIn K (.ref C) "__init__" = some (some (.ref f_in)))
    (n_in : PySem.W.isFn K (.ref f_in) = true)
    (l_in : K.lookup f_in = some ⟨oc_in, od_in, .func (PySem.W.fnOf "__init__" "Vault.__init__" (defArgs sInit) (defBody sInit) (defScope sInit) (.ref T_in) kV_in dc_in pm_in an_in cd_in ct_in), sl_in⟩)
    (c_in : PySem.W.codeIn K cd_in "Vault.__init__" = true)
    (k_in : PySem.W.keepIn K (.ref f_in) = true)
    (d_in : K.lookup T_in = some ⟨oT_in, dT_in, .seq #[.none] nT_in, sT_in⟩)
    (a_ms : PySem.W.findIn K (.ref C) "sizes" = some (some (.ref f_ms)))
    (n_ms : PySem.W.isFn K (.ref f_ms) = true)
    (l_ms : K.lookup f_ms = some ⟨oc_ms, od_ms, .func (PySem.W.fnOf "sizes" "Vault.sizes" (defArgs sSizes) (defBody sSizes) (defScope sSizes) .none kV_ms dc_ms pm_ms an_ms cd_ms ct_ms), sl_ms⟩)
    (c_ms : PySem.W.codeIn K cd_ms "Vault.sizes" = true)
    (k_ms : PySem.W.keepIn K (.ref f_ms) = true)
    (a_ml : PySem.W.findIn K (.ref C) "levers" = some (some (.ref f_ml)))
    (n_ml : PySem.W.isFn K (.ref f_ml) = true)
    (l_ml : K.lookup f_ml = some ⟨oc_ml, od_ml, .func (PySem.W.fnOf "levers" "Vault.levers" (defArgs sLevers) (defBody sLevers) (defScope sLevers) .none kV_ml dc_ml pm_ml an_ml cd_ml ct_ml), sl_ml⟩)
    (c_ml : PySem.W.codeIn K cd_ml "Vault.levers" = true)
    (k_ml : PySem.W.keepIn K (.ref f_ml) = true)
    (z0 : PySem.W.nsIn K mainGlobals "isinstance" = some none)
    (z1 : PySem.W.nsIn K mainGlobals "int" = some none)
    (z2 : PySem.W.nsIn K mainGlobals "bool" = some none)
    (z3 : PySem.W.nsIn K mainGlobals "tuple" = some none)
    (z4 : PySem.W.nsIn K mainGlobals "list" = some none)
    (z5 : PySem.W.nsIn K mainGlobals "len" = some none)
    (z6 : PySem.W.nsIn K mainGlobals "zip" = some none)
    (z7 : PySem.W.nsIn K mainGlobals "range" = some none)
    (z8 : PySem.W.nsIn K mainGlobals "enumerate" = some none)
    (z9 : PySem.W.nsIn K mainGlobals "all" = some none)
    (z10 : PySem.W.nsIn K mainGlobals "max" = some none)
    (z11 : PySem.W.nsIn K mainGlobals "min" = some none)
    (gi0 : PySem.W.nsIn K mainGlobals "MOST_DIALS" = some (some (.int 6 tg0)))
    (gi1 : PySem.W.nsIn K mainGlobals "LEAST_SIZE" = some (some (.int 2 tg1)))
    (gi2 : PySem.W.nsIn K mainGlobals "MOST_SIZE" = some (some (.int 360 tg2)))
    (gi3 : PySem.W.nsIn K mainGlobals "MOST_LEVERS" = some (some (.int 8 tg3)))
    (gi4 : PySem.W.nsIn K mainGlobals "LEAST_PRICE" = some (some (.int 1 tg4)))
    (q0 : PySem.W.makesIn K C = true)
    (q1 : PySem.W.keepIn K (.ref C) = true)
    (q2 : PySem.W.plainGet K C Str.empty = true)
    (q3 : PySem.W.hasDictIn K C = true)
    (q4 : PySem.W.plainOver K C = true)
    (q5 : PySem.W.findIn K (.ref C) "__setattr__" = some (some (.builtin "object.__setattr__")))
    (x0 : PySem.W.findIn K (.ref C) "dial_sizes" = some none)
    (x1 : PySem.W.findIn K (.ref C) "lever_settings" = some none)
    (x2 : PySem.W.findIn K (.ref C) "lever_prices" = some none)
    (x3 : PySem.W.findIn K (.ref C) "least_round" = some none)
    : ∃ fd : FuncData, (∀ (s : Shared) (v : Value), BindsTo s fd ⟨[v], []⟩ [("_law_script", v)]) ∧ ∀ base : Heap, K.In base → base.Ns mainGlobals mg → FnOk P w K mg base CX0 6 fa fd ["_law_script"] (spLaw K) := by
  have e := hfa.symm.trans (PySem.W.mg_of X G a_lw)
  cases e
  have T : Txt mg := ⟨PySem.W.mg_none_of X G z0, PySem.W.mg_none_of X G z1, PySem.W.mg_none_of X G z2, PySem.W.mg_none_of X G z3, PySem.W.mg_none_of X G z4, PySem.W.mg_none_of X G z5, PySem.W.mg_none_of X G z6, PySem.W.mg_none_of X G z7, PySem.W.mg_none_of X G z8, PySem.W.mg_none_of X G z9, PySem.W.mg_none_of X G z10, PySem.W.mg_none_of X G z11, ⟨_, PySem.W.mg_of X G gi0, ⟨_, rfl⟩⟩, ⟨_, PySem.W.mg_of X G gi1, ⟨_, rfl⟩⟩, ⟨_, PySem.W.mg_of X G gi2, ⟨_, rfl⟩⟩, ⟨_, PySem.W.mg_of X G gi3, ⟨_, rfl⟩⟩, ⟨_, PySem.W.mg_of X G gi4, ⟨_, rfl⟩⟩⟩
  have Z : VT K mg C := ⟨⟨q2, q3, q4, q5⟩, PySem.W.mg_of X G aC, x0, x1, x2, x3⟩
  have F_wh := fun_mk (st := sWhole) l_wh c_wh k_wh
  have b_wh := F_wh.binds (ps := ["thing"]) fun _ _ _ _ _ _ us hl => by obtain ⟨a, rfl⟩ := len1 hl; exact rfl
  have m_wh := PySem.W.mg_of X G a_wh
  have F_rw := fun_mk (st := sIsRow) l_rw c_rw k_rw
  have b_rw := F_rw.binds (ps := ["thing", "length"]) fun _ _ _ _ _ _ us hl => by obtain ⟨a, b, rfl⟩ := len2 hl; exact rfl
  have m_rw := PySem.W.mg_of X G a_rw
  have F_co := fun_mk (st := sCommon) l_co c_co k_co
  have b_co := F_co.binds (ps := ["one", "other"]) fun _ _ _ _ _ _ us hl => by obtain ⟨a, b, rfl⟩ := len2 hl; exact rfl
  have m_co := PySem.W.mg_of X G a_co
  have F_mo := fun_mk (st := sMulOf) l_mo c_mo k_mo
  have b_mo := F_mo.binds (ps := ["numbers"]) fun _ _ _ _ _ _ us hl => by obtain ⟨a, rfl⟩ := len1 hl; exact rfl
  have m_mo := PySem.W.mg_of X G a_mo
  have F_wi := fun_mk (st := sWithin) l_wi c_wi k_wi
  have b_wi := F_wi.binds (ps := ["thing", "least", "most"]) fun _ _ _ _ _ _ us hl => by obtain ⟨a, b, c, rfl⟩ := len3 hl; exact rfl
  have m_wi := PySem.W.mg_of X G a_wi
  have F_ns := fun_mk (st := sNeedSizes) l_ns c_ns k_ns
  have b_ns := F_ns.binds (ps := ["sizes"]) fun _ _ _ _ _ _ us hl => by obtain ⟨a, rfl⟩ := len1 hl; exact rfl
  have m_ns := PySem.W.mg_of X G a_ns
  have F_nl := fun_mk (st := sNeedLevers) l_nl c_nl k_nl
  have b_nl := F_nl.binds (ps := ["levers", "dials"]) fun _ _ _ _ _ _ us hl => by obtain ⟨a, b, rfl⟩ := len2 hl; exact rfl
  have m_nl := PySem.W.mg_of X G a_nl
  have F_pf := fun_mk (st := sPrices) l_pf c_pf k_pf
  have b_pf := F_pf.binds (ps := ["levers", "prices"]) fun _ _ _ _ _ _ us hl => by obtain ⟨a, b, rfl⟩ := len2 hl; exact rfl
  have m_pf := PySem.W.mg_of X G a_pf
  have F_rs := fun_mk (st := sRests) l_rs c_rs k_rs
  have b_rs := F_rs.binds (ps := ["numbers", "sizes"]) fun _ _ _ _ _ _ us hl => by obtain ⟨a, b, rfl⟩ := len2 hl; exact rfl
  have m_rs := PySem.W.mg_of X G a_rs
  have F_no := fun_mk (st := sNought) l_no c_no k_no
  have b_no := F_no.binds (ps := ["vault"]) fun _ _ _ _ _ _ us hl => by obtain ⟨a, rfl⟩ := len1 hl; exact rfl
  have m_no := PySem.W.mg_of X G a_no
  have F_is := fun_mk (st := sIsSetting) l_is c_is k_is
  have b_is := F_is.binds (ps := ["vault", "thing"]) fun _ _ _ _ _ _ us hl => by obtain ⟨a, b, rfl⟩ := len2 hl; exact rfl
  have m_is := PySem.W.mg_of X G a_is
  have F_ip := fun_mk (st := sIsPulls) l_ip c_ip k_ip
  have b_ip := F_ip.binds (ps := ["vault", "thing"]) fun _ _ _ _ _ _ us hl => by obtain ⟨a, b, rfl⟩ := len2 hl; exact rfl
  have m_ip := PySem.W.mg_of X G a_ip
  have F_st := fun_mk (st := sNeedSetting) l_st c_st k_st
  have b_st := F_st.binds (ps := ["vault", "thing"]) fun _ _ _ _ _ _ us hl => by obtain ⟨a, b, rfl⟩ := len2 hl; exact rfl
  have m_st := PySem.W.mg_of X G a_st
  have F_np := fun_mk (st := sNeedPulls) l_np c_np k_np
  have b_np := F_np.binds (ps := ["vault", "thing"]) fun _ _ _ _ _ _ us hl => by obtain ⟨a, b, rfl⟩ := len2 hl; exact rfl
  have m_np := PySem.W.mg_of X G a_np
  have F_ad := fun_mk (st := sAdded) l_ad c_ad k_ad
  have b_ad := F_ad.binds (ps := ["vault", "setting", "other", "times"]) fun _ _ _ _ _ _ us hl => by obtain ⟨a, b, c, d, rfl⟩ := len4 hl; exact rfl
  have m_ad := PySem.W.mg_of X G a_ad
  have F_tu := fun_mk (st := sTurned) l_tu c_tu k_tu
  have b_tu := F_tu.binds (ps := ["vault", "setting", "pulls"]) fun _ _ _ _ _ _ us hl => by obtain ⟨a, b, c, rfl⟩ := len3 hl; exact rfl
  have m_tu := PySem.W.mg_of X G a_tu
  have F_be := fun_mk (st := sBetween) l_be c_be k_be
  have b_be := F_be.binds (ps := ["vault", "one", "other"]) fun _ _ _ _ _ _ us hl => by obtain ⟨a, b, c, rfl⟩ := len3 hl; exact rfl
  have m_be := PySem.W.mg_of X G a_be
  have F_ce := fun_mk (st := sCell) l_ce c_ce k_ce
  have b_ce := F_ce.binds (ps := ["_law_script", "_law_k"]) fun _ _ _ _ _ _ us hl => by obtain ⟨a, b, rfl⟩ := len2 hl; exact rfl
  have m_ce := PySem.W.mg_of X G a_ce
  have F_mx := fun_mk (st := sMix) l_mx c_mx k_mx
  have b_mx := F_mx.binds (ps := ["_law_cell_here", "_law_k"]) fun _ _ _ _ _ _ us hl => by obtain ⟨a, b, rfl⟩ := len2 hl; exact rfl
  have m_mx := PySem.W.mg_of X G a_mx
  have F_nu := fun_mk (st := sNumber) l_nu c_nu k_nu
  have b_nu := F_nu.binds (ps := ["_law_cell_here", "_law_k"]) fun _ _ _ _ _ _ us hl => by obtain ⟨a, b, rfl⟩ := len2 hl; exact rfl
  have m_nu := PySem.W.mg_of X G a_nu
  have F_ti := fun_mk (st := sTimes) l_ti c_ti k_ti
  have b_ti := F_ti.binds (ps := ["_law_cell_here", "_law_k"]) fun _ _ _ _ _ _ us hl => by obtain ⟨a, b, rfl⟩ := len2 hl; exact rfl
  have m_ti := PySem.W.mg_of X G a_ti
  have F_sz := fun_mk (st := sLSizes) l_sz c_sz k_sz
  have b_sz := F_sz.binds (ps := ["_law_cell_here"]) fun _ _ _ _ _ _ us hl => by obtain ⟨a, rfl⟩ := len1 hl; exact rfl
  have m_sz := PySem.W.mg_of X G a_sz
  have F_lv := fun_mk (st := sLLevers) l_lv c_lv k_lv
  have b_lv := F_lv.binds (ps := ["_law_script", "_law_start", "_law_many", "_law_dials"]) fun _ _ _ _ _ _ us hl => by obtain ⟨a, b, c, d, rfl⟩ := len4 hl; exact rfl
  have m_lv := PySem.W.mg_of X G a_lv
  have F_ct := fun_mk (st := sCounted) l_ct c_ct k_ct
  have b_ct := F_ct.binds (ps := ["_law_many", "_law_deeds"]) fun _ _ _ _ _ _ us hl => by obtain ⟨a, b, rfl⟩ := len2 hl; exact rfl
  have m_ct := PySem.W.mg_of X G a_ct
  have F_lw := fun_mk (st := sLaw) l_lw c_lw k_lw
  have F_ms := fun_mk (st := sSizes) l_ms c_ms k_ms
  have b_ms := F_ms.binds (ps := ["self"]) fun _ _ _ _ _ _ us hl => by obtain ⟨a, rfl⟩ := len1 hl; exact rfl
  have F_ml := fun_mk (st := sLevers) l_ml c_ml k_ml
  have b_ml := F_ml.binds (ps := ["self"]) fun _ _ _ _ _ _ us hl => by obtain ⟨a, rfl⟩ := len1 hl; exact rfl
  have F_pu := fund_mk (st := sPulled) l_pu c_pu k_pu
  have F_in := fund_mk (st := sInit) l_in c_in k_in
  have bp0 := F_pu.binds (ps := ["vault", "setting", "lever", "times"]) (ds := []) d_pu rfl fun _ _ _ _ _ _ us hl => by obtain ⟨a, b, c, d, rfl⟩ := len4 (show _ = 4 from (by simpa using hl)); exact ⟨_, rfl, rfl⟩
  have bp1 := F_pu.binds (ps := ["vault", "setting", "lever", "times"]) (ds := [.int 1 tk]) d_pu rfl fun _ _ _ _ _ _ us hl => by obtain ⟨a, b, c, rfl⟩ := len3 (show _ = 3 from (by simpa using hl)); exact ⟨_, rfl, rfl⟩
  have bi := F_in.binds (ps := ["self", "sizes", "levers", "prices"]) (ds := [.none]) d_in rfl fun _ _ _ _ _ _ us hl => by obtain ⟨a, b, c, rfl⟩ := len3 (show _ = 3 from (by simpa using hl)); exact ⟨_, rfl, rfl⟩
  refine ⟨PySem.W.fnOf "law" "law" (defArgs sLaw) (defBody sLaw) (defScope sLaw) .none kV_lw dc_lw pm_lw an_lw cd_lw ct_lw, fun s v => .of_eq rfl, fun base _ _ => ?_⟩
  have o_wh : Ok P w K mg base 1 "is_whole" ["thing"] spWhole f_wh _ := ⟨m_wh, k_wh, b_wh, ok_whole F_wh T⟩
  have o_rw : Ok P w K mg base 2 "is_row" ["thing", "length"] spRow f_rw _ := ⟨m_rw, k_rw, b_rw, ok_row F_rw T o_wh⟩
  have o_mo : Ok P w K mg base 2 "multiple_of" ["numbers"] (spMulOf K) f_mo _ := ⟨m_mo, k_mo, b_mo, ok_mulof F_mo ⟨m_co, k_co, b_co, F_co⟩⟩
  have o_wi : Ok P w K mg base 2 "is_within" ["thing", "least", "most"] spWithin f_wi _ := ⟨m_wi, k_wi, b_wi, ok_within F_wi o_wh⟩
  have o_ns : Ok P w K mg base 3 "need_sizes" ["sizes"] spNeedSizes f_ns _ := ⟨m_ns, k_ns, b_ns, ok_needsizes F_ns T o_wi⟩
  have o_nl : Ok P w K mg base 3 "need_levers" ["levers", "dials"] spNeedLevers f_nl _ := ⟨m_nl, k_nl, b_nl, ok_needlevers F_nl T o_rw⟩
  have o_pf : Ok P w K mg base 1 "prices_for" ["levers", "prices"] spPrices f_pf _ := ⟨m_pf, k_pf, b_pf, ok_prices F_pf T⟩
  have o_rs : Ok P w K mg base 1 "rests" ["numbers", "sizes"] (spRests K) f_rs _ := ⟨m_rs, k_rs, b_rs, ok_rests F_rs T⟩
  have GI : FnOk P w K mg base CX0 4 f_in _ ["self", "sizes", "levers", "prices"] (spInit C) := ok_init F_in T Z o_ns o_nl o_rs o_pf o_mo
  have M_s : Mt P w K mg base C "sizes" (spSizes C) f_ms _ := ⟨⟨a_ms, n_ms, k_ms⟩, b_ms, ok_sizes F_ms Z⟩
  have M_l : Mt P w K mg base C "levers" (spLevers C) f_ml _ := ⟨⟨a_ml, n_ml, k_ml⟩, b_ml, ok_levers F_ml Z⟩
  have o_no : Ok P w K mg base 2 "nought" ["vault"] (spNought C) f_no _ := ⟨m_no, k_no, b_no, ok_nought F_no T Z M_s⟩
  have o_is : Ok P w K mg base 3 "is_setting" ["vault", "thing"] (spIsSetting C) f_is _ := ⟨m_is, k_is, b_is, ok_issetting F_is T Z M_s o_rw⟩
  have o_ip : Ok P w K mg base 3 "is_pulls" ["vault", "thing"] (spIsPulls C) f_ip _ := ⟨m_ip, k_ip, b_ip, ok_ispulls F_ip T Z M_l o_rw⟩
  have o_st : Ok P w K mg base 4 "need_setting" ["vault", "thing"] (spNeedSetting C) f_st _ := ⟨m_st, k_st, b_st, ok_needsetting F_st o_is⟩
  have o_np : Ok P w K mg base 4 "need_pulls" ["vault", "thing"] (spNeedPulls C) f_np _ := ⟨m_np, k_np, b_np, ok_needpulls F_np o_ip⟩
  have o_ad : Ok P w K mg base 2 "added" ["vault", "setting", "other", "times"] (spAdded C) f_ad _ := ⟨m_ad, k_ad, b_ad, ok_added F_ad T Z M_s o_rs⟩
  have o_tu : Ok P w K mg base 5 "turned" ["vault", "setting", "pulls"] (spTurned C) f_tu _ := ⟨m_tu, k_tu, b_tu, ok_turned F_tu T Z o_st o_np M_l o_ad⟩
  have GP : FnOk P w K mg base CX0 5 f_pu _ ["vault", "setting", "lever", "times"] (spPulled C) := ok_pulled F_pu T Z o_st M_l o_ad o_wi o_wh
  have o_be : Ok P w K mg base 5 "between" ["vault", "one", "other"] (spBetween C) f_be _ := ⟨m_be, k_be, b_be, ok_between F_be o_st o_ad⟩
  have o_ce : Ok P w K mg base 1 "_law_cell" ["_law_script", "_law_k"] (spCell K) f_ce _ := ⟨m_ce, k_ce, b_ce, ok_cell F_ce T⟩
  have o_mx : Ok P w K mg base 1 "_law_mix" ["_law_cell_here", "_law_k"] spMix f_mx _ := ⟨m_mx, k_mx, b_mx, ok_mix F_mx⟩
  have o_nu : Ok P w K mg base 2 "_law_number" ["_law_cell_here", "_law_k"] spNumber f_nu _ := ⟨m_nu, k_nu, b_nu, ok_number F_nu o_mx⟩
  have o_ti : Ok P w K mg base 3 "_law_times" ["_law_cell_here", "_law_k"] spNumber f_ti _ := ⟨m_ti, k_ti, b_ti, ok_times F_ti o_nu⟩
  have o_sz : Ok P w K mg base 2 "_law_sizes" ["_law_cell_here"] spLSizes f_sz _ := ⟨m_sz, k_sz, b_sz, ok_lsizes F_sz T o_mx⟩
  have o_lv : Ok P w K mg base 3 "_law_levers" ["_law_script", "_law_start", "_law_many", "_law_dials"] (spLLevers K) f_lv _ := ⟨m_lv, k_lv, b_lv, ok_llevers F_lv T o_ce o_nu⟩
  have o_ct : Ok P w K mg base 1 "_law_counted" ["_law_many", "_law_deeds"] spCounted f_ct _ := ⟨m_ct, k_ct, b_ct, ok_counted F_ct T⟩
  exact ok_law F_lw T Z ⟨q0, a_in, n_in, q1⟩ GI bi (PySem.W.mg_of X G a_pu) k_pu GP bp0 bp1 o_ce o_mx o_ti o_sz o_lv o_ct o_no o_is o_tu o_be
end K14
open PySem PySem.W PyProof.Rows
set_option maxRecDepth 100000 in
set_option maxHeartbeats 0 in
theorem PySem.Challenge.cw_dialvault_k14_whole_pulls_add_holds : PySem.Challenge.rw_dialvault_k14_whole_pulls_add.Holds := by
  w_on; o_law; k_head; (case hw => w_witness2)
  k_fill
  refine L2.walk_bits (l := PySem.Challenge.rw_dialvault_k14_whole_pulls_add) (n := 63) (k := 6) (x := "_law_script") (CX := L2.CX0) (sp := fun K => K14.spLaw K) rfl (by decide) rfl ⟨rfl, by decide, by decide⟩ (fun w h Y => PySem.W.kIn_of Y) ?F (fun K H a ns hl hb hO hS => ⟨a, ns, rfl, hS, hl, hb, fun _ => rfl⟩) (fun _ _ _ _ z => z)
  case F =>
    intro w mg fa h KX G hmg
    refine' K14.all_mk KX G hmg ?aC ?a_wh ?l_wh ?c_wh ?k_wh ?a_rw ?l_rw ?c_rw ?k_rw ?a_co ?l_co ?c_co ?k_co ?a_mo ?l_mo ?c_mo ?k_mo ?a_wi ?l_wi ?c_wi ?k_wi ?a_ns ?l_ns ?c_ns ?k_ns ?a_nl ?l_nl ?c_nl ?k_nl ?a_pf ?l_pf ?c_pf ?k_pf ?a_rs ?l_rs ?c_rs ?k_rs ?a_no ?l_no ?c_no ?k_no ?a_is ?l_is ?c_is ?k_is ?a_ip ?l_ip ?c_ip ?k_ip ?a_st ?l_st ?c_st ?k_st ?a_np ?l_np ?c_np ?k_np ?a_ad ?l_ad ?c_ad ?k_ad ?a_tu ?l_tu ?c_tu ?k_tu ?a_be ?l_be ?c_be ?k_be ?a_ce ?l_ce ?c_ce ?k_ce ?a_mx ?l_mx ?c_mx ?k_mx ?a_nu ?l_nu ?c_nu ?k_nu ?a_ti ?l_ti ?c_ti ?k_ti ?a_sz ?l_sz ?c_sz ?k_sz ?a_lv ?l_lv ?c_lv ?k_lv ?a_ct ?l_ct ?c_ct ?k_ct ?a_lw ?l_lw ?c_lw ?k_lw ?a_pu ?l_pu ?c_pu ?k_pu ?d_pu ?a_in ?n_in ?l_in ?c_in ?k_in ?d_in ?a_ms ?n_ms ?l_ms ?c_ms ?k_ms ?a_ml ?n_ml ?l_ml ?c_ml ?k_ml ?z0 ?z1 ?z2 ?z3 ?z4 ?z5 ?z6 ?z7 ?z8 ?z9 ?z10 ?z11 ?gi0 ?gi1 ?gi2 ?gi3 ?gi4 ?q0 ?q1 ?q2 ?q3 ?q4 ?q5 ?x0 ?x1 ?x2 ?x3
    (case aC => k_is)
    (case a_wh => k_is)
    (case l_wh => k_is)
    (case c_wh => kernel_rfl!)
    (case k_wh => kernel_rfl!)
    (case a_rw => k_is)
    (case l_rw => k_is)
    (case c_rw => kernel_rfl!)
    (case k_rw => kernel_rfl!)
    (case a_co => k_is)
    (case l_co => k_is)
    (case c_co => kernel_rfl!)
    (case k_co => kernel_rfl!)
    (case a_mo => k_is)
    (case l_mo => k_is)
    (case c_mo => kernel_rfl!)
    (case k_mo => kernel_rfl!)
    (case a_wi => k_is)
    (case l_wi => k_is)
    (case c_wi => kernel_rfl!)
    (case k_wi => kernel_rfl!)
    (case a_ns => k_is)
    (case l_ns => k_is)
    (case c_ns => kernel_rfl!)
    (case k_ns => kernel_rfl!)
    (case a_nl => k_is)
    (case l_nl => k_is)
    (case c_nl => kernel_rfl!)
    (case k_nl => kernel_rfl!)
    (case a_pf => k_is)
    (case l_pf => k_is)
    (case c_pf => kernel_rfl!)
    (case k_pf => kernel_rfl!)
    (case a_rs => k_is)
    (case l_rs => k_is)
    (case c_rs => kernel_rfl!)
    (case k_rs => kernel_rfl!)
    (case a_no => k_is)
    (case l_no => k_is)
    (case c_no => kernel_rfl!)
    (case k_no => kernel_rfl!)
    (case a_is => k_is)
    (case l_is => k_is)
    (case c_is => kernel_rfl!)
    (case k_is => kernel_rfl!)
    (case a_ip => k_is)
    (case l_ip => k_is)
    (case c_ip => kernel_rfl!)
    (case k_ip => kernel_rfl!)
    (case a_st => k_is)
    (case l_st => k_is)
    (case c_st => kernel_rfl!)
    (case k_st => kernel_rfl!)
    (case a_np => k_is)
    (case l_np => k_is)
    (case c_np => kernel_rfl!)
    (case k_np => kernel_rfl!)
    (case a_ad => k_is)
    (case l_ad => k_is)
    (case c_ad => kernel_rfl!)
    (case k_ad => kernel_rfl!)
    (case a_tu => k_is)
    (case l_tu => k_is)
    (case c_tu => kernel_rfl!)
    (case k_tu => kernel_rfl!)
    (case a_be => k_is)
    (case l_be => k_is)
    (case c_be => kernel_rfl!)
    (case k_be => kernel_rfl!)
    (case a_ce => k_is)
    (case l_ce => k_is)
    (case c_ce => kernel_rfl!)
    (case k_ce => kernel_rfl!)
    (case a_mx => k_is)
    (case l_mx => k_is)
    (case c_mx => kernel_rfl!)
    (case k_mx => kernel_rfl!)
    (case a_nu => k_is)
    (case l_nu => k_is)
    (case c_nu => kernel_rfl!)
    (case k_nu => kernel_rfl!)
    (case a_ti => k_is)
    (case l_ti => k_is)
    (case c_ti => kernel_rfl!)
    (case k_ti => kernel_rfl!)
    (case a_sz => k_is)
    (case l_sz => k_is)
    (case c_sz => kernel_rfl!)
    (case k_sz => kernel_rfl!)
    (case a_lv => k_is)
    (case l_lv => k_is)
    (case c_lv => kernel_rfl!)
    (case k_lv => kernel_rfl!)
    (case a_ct => k_is)
    (case l_ct => k_is)
    (case c_ct => kernel_rfl!)
    (case k_ct => kernel_rfl!)
    (case a_lw => k_is)
    (case l_lw => k_is)
    (case c_lw => kernel_rfl!)
    (case k_lw => kernel_rfl!)
    (case a_pu => k_is)
    (case l_pu => k_is)
    (case c_pu => kernel_rfl!)
    (case k_pu => kernel_rfl!)
    (case d_pu => k_is)
    (case a_in => k_is)
    (case n_in => kernel_rfl!)
    (case l_in => k_is)
    (case c_in => kernel_rfl!)
    (case k_in => kernel_rfl!)
    (case d_in => k_is)
    (case a_ms => k_is)
    (case n_ms => kernel_rfl!)
    (case l_ms => k_is)
    (case c_ms => kernel_rfl!)
    (case k_ms => kernel_rfl!)
    (case a_ml => k_is)
    (case n_ml => kernel_rfl!)
    (case l_ml => k_is)
    (case c_ml => kernel_rfl!)
    (case k_ml => kernel_rfl!)
    (case z0 => k_is)
    (case z1 => k_is)
    (case z2 => k_is)
    (case z3 => k_is)
    (case z4 => k_is)
    (case z5 => k_is)
    (case z6 => k_is)
    (case z7 => k_is)
    (case z8 => k_is)
    (case z9 => k_is)
    (case z10 => k_is)
    (case z11 => k_is)
    (case gi0 => k_is)
    (case gi1 => k_is)
    (case gi2 => k_is)
    (case gi3 => k_is)
    (case gi4 => k_is)
    (case q0 => kernel_rfl!)
    (case q1 => kernel_rfl!)
    (case q2 => kernel_rfl!)
    (case q3 => kernel_rfl!)
    (case q4 => kernel_rfl!)
    (case q5 => k_is)
    (case x0 => k_is)
    (case x1 => k_is)
    (case x2 => k_is)
    (case x3 => k_is)
