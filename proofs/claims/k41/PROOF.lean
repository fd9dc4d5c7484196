import PyProof.Rows.All
import Wide.All
import OpenK.AllK
import Wide.FinOn
import Lean
import PyProof.EqAt
import PyProof.EqKinds
import PyProof.TupleCall
import PySem.Challenge.RW_dialvault_k41_still_or_not
set_option Elab.async false
set_option linter.all false
set_option maxRecDepth 100000
namespace L2
open PySem PySem.Spec PyProof.Rows
abbrev Key := Sum Int Str
def keyIs : Key → Value → Bool
  | .inl k, v => Value.isInt k v
  | .inr x, v => Value.isStrOf x v
def keyH (w : World) : Key → Int
  | .inl k => hashInt k
  | .inr x => hashStr w x
theorem keyIs_shape : ∀ {k : Key} {v : Value}, keyIs k v = true → (∃ i t, k = Sum.inl i ∧ v = Value.int i t) ∨ (∃ x t, k = Sum.inr x ∧ v = Value.str x t)
  | .inl i, v, h => by
    obtain ⟨t, e⟩ := Value.isInt_shape (k := i) (v := v) h
    exact .inl ⟨i, t, rfl, e⟩
  | .inr x, v, h => by
    obtain ⟨t, e⟩ := Value.isStrOf_shape (x := x) (v := v) h
    exact .inr ⟨x, t, rfl, e⟩
theorem key_ll (a b : Int) : decide ((Sum.inl a : Key) = Sum.inl b) = (a == b) := by
  by_cases e : a = b
  · subst e; simp
  · have h : ¬ (Sum.inl a : Key) = Sum.inl b := fun q => e (Sum.inl.inj q)
    rw [decide_eq_false h]
    exact (beq_eq_false_iff_ne.mpr e).symm
theorem key_rr (a b : Str) : decide ((Sum.inr a : Key) = Sum.inr b) = decide (a = b) := by
  by_cases e : a = b
  · subst e; simp
  · have h : ¬ (Sum.inr a : Key) = Sum.inr b := fun q => e (Sum.inr.inj q)
    rw [decide_eq_false h, decide_eq_false e]
theorem key_lr (a : Int) (b : Str) : decide ((Sum.inl a : Key) = Sum.inr b) = false := decide_eq_false (fun q => nomatch q)
theorem key_rl (a : Str) (b : Int) : decide ((Sum.inr a : Key) = Sum.inl b) = false := decide_eq_false (fun q => nomatch q)
def mixKind (prog : Program) (w : World) : PySem.KeyKind prog w Key where
  is := keyIs
  hash := keyH w
  inj := fun v a b ha hb => by
    rcases keyIs_shape ha with ⟨i, t, rfl, rfl⟩ | ⟨x, t, rfl, rfl⟩
    · rcases keyIs_shape hb with ⟨j, u, rfl, e⟩ | ⟨y, u, rfl, e⟩
      · injection e with e1 _; rw [e1]
      · exact nomatch e
    · rcases keyIs_shape hb with ⟨j, u, rfl, e⟩ | ⟨y, u, rfl, e⟩
      · exact nomatch e
      · injection e with e1 _; rw [e1]
  byValue := fun k v h => by
    rcases keyIs_shape h with ⟨i, t, rfl, rfl⟩ | ⟨x, t, rfl, rfl⟩ <;> rfl
  pyHash := fun hv h => by
    rcases keyIs_shape hv with ⟨i, t, rfl, rfl⟩ | ⟨x, t, rfl, rfl⟩
    · exact wpAny_pyHash_int h
    · exact wpAny_pyHash_str h
  eqBool := fun hu hv h => by
    rcases keyIs_shape hu with ⟨i, t, rfl, rfl⟩ | ⟨x, t, rfl, rfl⟩
    · rcases keyIs_shape hv with ⟨j, u, rfl, rfl⟩ | ⟨y, u, rfl, rfl⟩
      · rw [key_ll] at h; exact wpAny_eqBool_int h
      · rw [key_lr] at h; exact SeqAt.EqAt.int_str i t y u _ _ _ _ h
    · rcases keyIs_shape hv with ⟨j, u, rfl, rfl⟩ | ⟨y, u, rfl, rfl⟩
      · rw [key_rl] at h; exact SeqAt.EqAt.str_int x t j u _ _ _ _ h
      · rw [key_rr] at h; exact wpAny_eqBool_str h
  «strs» := fun k x t v h => by
    rcases keyIs_shape h with ⟨i, u, rfl, e⟩ | ⟨y, u, rfl, e⟩
    · exact nomatch e
    · injection e with e1 _
      subst e1
      cases v <;> rfl
end L2
namespace L2
open PySem PySem.Spec PyProof.Rows
inductive V where
  | non | bl (b : Bool) | int (i : Int) | str (x : Str) | byt (b : Array UInt8) | flt (b : UInt64) | ref (a : Addr) | ty (n : String)
  deriving DecidableEq
def RelV : V → Value → Prop
  | .non, u => u = Value.none
  | .bl b, u => u = Value.bool b
  | .int i, u => ∃ t, u = Value.int i t
  | .str x, u => ∃ t, u = Value.str x t
  | .byt b, u => ∃ t, u = Value.bytes b t
  | .flt b, u => ∃ t, u = Value.float b t
  | .ref a, u => u = Value.ref a
  | .ty n, u => u = Value.type n
abbrev Vals : List V → List Value → Prop := Paired RelV
theorem Vals.length {xs : List V} {us : List Value} (r : Vals xs us) : xs.length = us.length := Paired.length r
theorem Vals.get : ∀ {xs : List V} {us : List Value} {i : Nat} {x : V}, Vals xs us → xs[i]? = some x → ∃ u, us[i]? = some u ∧ RelV x u
  | _, _, _, _, .nil, e => by simp at e
  | _, _, 0, _, .cons r _, e => by simp at e; subst e; exact ⟨_, rfl, r⟩
  | _, _, i + 1, x, .cons _ t, e => by
    obtain ⟨u, h1, h2⟩ := Vals.get (i := i) (x := x) t (by simpa using e)
    exact ⟨u, by simpa using h1, h2⟩
theorem Vals.set {x : V} {u : Value} (r : RelV x u) : ∀ {xs : List V} {us : List Value} (i : Nat), Vals xs us → Vals (xs.set i x) (us.set i u)
  | _, _, _, .nil => .nil
  | _, _, 0, .cons _ t => .cons r t
  | _, _, i + 1, .cons q t => .cons q (Vals.set r i t)
theorem Vals.append : ∀ {xs ys : List V} {us ws : List Value}, Vals xs us → Vals ys ws → Vals (xs ++ ys) (us ++ ws)
  | _, _, _, _, .nil, s => s
  | _, _, _, _, .cons r t, s => .cons r (Vals.append t s)
theorem Vals.take : ∀ {xs : List V} {us : List Value} (n : Nat), Vals xs us → Vals (xs.take n) (us.take n)
  | _, _, 0, _ => .nil
  | _, _, _ + 1, .nil => .nil
  | _, _, n + 1, .cons r t => .cons r (Vals.take n t)
theorem Vals.drop : ∀ {xs : List V} {us : List Value} (n : Nat), Vals xs us → Vals (xs.drop n) (us.drop n)
  | _, _, 0, r => r
  | _, _, _ + 1, .nil => .nil
  | _, _, n + 1, .cons _ t => Vals.drop n t
def RelO : Option V → Option Value → Prop
  | some v, some u => RelV v u
  | none, none => True
  | _, _ => False
def KV {κ : Type} : List (κ × V) → List (κ × Value) → Prop := Paired fun (p : κ × V) (q : κ × Value) => p.1 = q.1 ∧ RelV p.2 q.2
def kV : Key → V
  | .inl i => .int i
  | .inr x => .str x
inductive HO where
  /-- a list -/
  | lst (xs : List V)
  /-- a tuple (never changes) -/
  | tup (xs : List V)
  /-- a dict whose keys are ints and texts; one whose keys are tuples of ints and texts (the empty one is both) -/
  | dK (kvs : List (Key × V)) | dT (kvs : List (List Key × V))
  /-- a set of ints: its members, its size -/
  | set (S : Int → Bool) (n : Nat)
  /-- an instance of the class at C, its dict at dx, its attributes -/
  | ins (C dx : Addr) (fs : List (Str × V))
  /-- the dict of the instance at x -/
  | own (x : Addr)
  /-- the dict of an exception -/
  | xd (fs : List (Str × V))
  /-- a bound method, f of x -/
  | met (f x : Addr)
  /-- a range object lo, lo + 1, .. below hi -/
  | rng (lo hi : Int)
  /-- a thing that is known to the object (the script; a dict while a loop walks it): read, never written while it is so -/
  | frz (o : Obj) (u : HO)
  /-- a code object's table -/
  | tbl (ps : Array Value)
  /-- any other thing, by what is true of its one object (a def of one's own: SetO a S n := HO.ext fun h => ..) -/
  | ext (φ : Heap → Prop)
abbrev Hp := Addr → Option HO
def upd (H : Hp) (a : Addr) (o : HO) : Hp := fun b => if b = a then some o else H b
theorem upd_same {H : Hp} {a : Addr} {o : HO} : upd H a o a = some o := by unfold upd; rw [if_pos rfl]
theorem upd_ne {H : Hp} {a b : Addr} {o : HO} (h : b ≠ a) : upd H a o b = H b := by unfold upd; rw [if_neg h]
theorem upd_upd {H : Hp} {a : Addr} {o u : HO} : upd (upd H a o) a u = upd H a u := by
  funext b; unfold upd; split <;> rfl
theorem ne_of_none {H : Hp} {a b : Addr} {o : HO} (h : H a = some o) (h' : H b = none) : a ≠ b := by
  intro e; subst e; rw [h] at h'; cases h'
section
variable (P : Program) (w : World)
def ObjOk (H : Hp) (h : Heap) (a : Addr) : HO → Prop
  | .lst xs => xs.length ≤ sizeLine ∧ ∃ (its : List Value) (n : Nat), Vals xs its ∧ h.get? a = some { cls := .type "list", data := .seq its.toArray n }
  | .tup xs => xs.length ≤ sizeLine ∧ ∃ its : List Value, Vals xs its ∧ IsTup h a its.toArray
  | .dK kvs => kvs.length ≤ sizeLine ∧ (a == sysModules) = false ∧ ∃ vs, KV kvs vs ∧ h.DictOf (mixKind P w) a vs
  | .dT kvs => kvs.length ≤ sizeLine ∧ (a == sysModules) = false ∧ ∃ xs : List (List Key × Addr × Value),
      Paired (fun (p : List Key × V) (q : List Key × Addr × Value) => p.1 = q.1 ∧ H q.2.1 = some (.tup (p.1.map kV)) ∧ RelV p.2 q.2.2) kvs xs ∧
      ∃ o es ep, h.get? a = some o ∧ o.ExactDict ∧ o.data = .dict es ep ∧ es.toList = xs.map (entryOfKey (tupleKind (mixKind P w))) ∧ (xs.map (·.1)).Nodup
  | .set S n => h.SetOf (intKind P w) a S n
  | .ins C dx fs => H dx = some (.own a) ∧ fs.length ≤ 1000 ∧ dx ≠ a ∧ h.get? a = some (PySem.W.instObj C dx) ∧
      ∃ mA, h.Ns1 dx mA ∧ (∀ f, RelO (fs.lookup f) (mA f)) ∧ PySem.Within mA (fs.map (·.1))
  | .own _ => ∃ o, h.get? a = some o
  | .xd fs => ∃ mA, h.Ns1 a mA ∧ ∀ f, RelO (fs.lookup f) (mA f)
  | .rng lo hi => ∃ t u v, h.get? a = some { cls := .type "range", data := .fields #[.int lo t, .int hi u, .int 1 v] }
  | .frz o u => h.get? a = some o ∧ ObjOk H h a u
  | .tbl ps => h.get? a = some { cls := .none, data := .fields ps }
  | .met f x => h.get? a = some (PySem.W.methodObj (.ref f) (.ref x))
  | .ext φ => φ h ∧ (∃ o, h.get? a = some o) ∧ ∀ h1 h2 : Heap, φ h1 → (∀ o, h1.get? a = some o → h2.get? a = some o) → φ h2
def HOk (H : Hp) (h : Heap) : Prop := ∀ a o, H a = some o → ObjOk P w H h a o
end
section
variable {P : Program} {w : World} {H H' : Hp} {h h' : Heap} {a : Addr} {o : HO}
theorem ObjOk.lt (x : ObjOk P w H h a o) : a < h.objs.size := by
  cases o with
  | lst xs => obtain ⟨_, _, _, _, e⟩ := x; exact Heap.lt_size e
  | tup xs => obtain ⟨_, _, _, p⟩ := x; exact p.lt
  | dK kvs => obtain ⟨_, _, _, _, o, _, _, e, _⟩ := x; exact Heap.lt_size e
  | dT kvs => obtain ⟨_, _, _, _, o, _, _, e, _⟩ := x; exact Heap.lt_size e
  | set S n => obtain ⟨o, _, _, _, e, _⟩ := x; exact Heap.lt_size e
  | ins C dx fs => obtain ⟨_, _, _, e, _⟩ := x; exact Heap.lt_size e
  | own y => obtain ⟨_, e⟩ := x; exact Heap.lt_size e
  | xd fs => obtain ⟨_, ⟨_, _, _, e, _⟩, _⟩ := x; exact Heap.lt_size e
  | rng lo hi => obtain ⟨_, _, _, e⟩ := x; exact Heap.lt_size e
  | frz ob u => obtain ⟨e, _⟩ := x; exact Heap.lt_size e
  | tbl ps => exact Heap.lt_size (show h.get? a = some _ from x)
  | met f y => exact Heap.lt_size (show h.get? a = some _ from x)
  | ext φ => obtain ⟨_, ⟨_, e⟩, _⟩ := x; exact Heap.lt_size e
theorem Paired.mapP {α β : Type} {F G : α → β → Prop} : ∀ {l₁ : List α} {l₂ : List β}, Paired F l₁ l₂ → (∀ a b, F a b → G a b) → Paired G l₁ l₂
  | _, _, .nil, _ => .nil
  | _, _, .cons r t, f => .cons (f _ _ r) (Paired.mapP t f)
theorem ObjOk.stay (x : ObjOk P w H h a o) (k : ∀ b u, (b = a ∨ H b = some (.own a)) → h.get? b = some u → h'.get? b = some u)
    (ho : ∀ b, H b = some (.own a) → H' b = some (.own a)) (ht : ∀ b xs, H b = some (.tup xs) → H' b = some (.tup xs)) : ObjOk P w H' h' a o := by
  induction o with
  | lst xs => obtain ⟨z, its, n, r, e⟩ := x; exact ⟨z, its, n, r, k _ _ (.inl rfl) e⟩
  | tup xs => obtain ⟨z, its, r, ob, e, c⟩ := x; exact ⟨z, its, r, ob, k _ _ (.inl rfl) e, c⟩
  | dK kvs => obtain ⟨z, y, vs, r, ob, es, ep, e, c⟩ := x; exact ⟨z, y, vs, r, ob, es, ep, k _ _ (.inl rfl) e, c⟩
  | dT kvs =>
    obtain ⟨z, y, xs, r, ob, es, ep, e, c⟩ := x
    exact ⟨z, y, xs, Paired.mapP r fun p q z => ⟨z.1, ht _ _ z.2.1, z.2.2⟩, ob, es, ep, k _ _ (.inl rfl) e, c⟩
  | set S n => obtain ⟨ob, es, ep, t, e, c⟩ := x; exact ⟨ob, es, ep, t, k _ _ (.inl rfl) e, c⟩
  | ins C dx fs =>
    obtain ⟨d, z, ne, e, mA, ⟨od, es, ep, e2, c⟩, r⟩ := x
    exact ⟨ho _ d, z, ne, k _ _ (.inl rfl) e, mA, ⟨od, es, ep, k _ _ (.inr d) e2, c⟩, r⟩
  | own y => obtain ⟨ob, e⟩ := x; exact ⟨ob, k _ _ (.inl rfl) e⟩
  | xd fs => obtain ⟨mA, ⟨od, es, ep, e, c⟩, r⟩ := x; exact ⟨mA, ⟨od, es, ep, k _ _ (.inl rfl) e, c⟩, r⟩
  | rng lo hi => obtain ⟨t, u, v, e⟩ := x; exact ⟨t, u, v, k _ _ (.inl rfl) e⟩
  | frz ob u ih => obtain ⟨e, q⟩ := x; exact ⟨k _ _ (.inl rfl) e, ih q⟩
  | tbl ps =>
    have e : h.get? a = some { cls := .none, data := .fields ps } := x
    show h'.get? a = some { cls := .none, data := .fields ps }
    exact k a _ (.inl rfl) e
  | met f y =>
    have e : h.get? a = some (PySem.W.methodObj (.ref f) (.ref y)) := x
    show h'.get? a = some (PySem.W.methodObj (.ref f) (.ref y))
    exact k a _ (.inl rfl) e
  | ext φ => obtain ⟨p, ⟨o, e⟩, st⟩ := x; exact ⟨st _ _ p fun o q => k _ _ (.inl rfl) q, ⟨o, k _ _ (.inl rfl) e⟩, st⟩
theorem HOk.lt (x : HOk P w H h) (e : H a = some o) : a < h.objs.size := (x a o e).lt
theorem HOk.fresh (x : HOk P w H h) (e : h.objs.size ≤ a) : H a = none := by
  cases q : H a with
  | none => rfl
  | some u => exact absurd (Nat.lt_of_lt_of_le (x.lt q) e) (Nat.lt_irrefl _)
theorem HOk.kept (x : HOk P w H h) (k : ∀ b u, h.get? b = some u → h'.get? b = some u) : HOk P w H h' := fun a o e =>
  (x a o e).stay (fun b u _ q => k b u q) (fun _ q => q) fun _ _ q => q
theorem HOk.laid (x : HOk P w H h) (k : ∀ b u, h.get? b = some u → h'.get? b = some u) (hp : h.objs.size ≤ a) (new : ObjOk P w (upd H a o) h' a o) : HOk P w (upd H a o) h' := fun b u e => by
  have hn := x.fresh hp
  by_cases hb : b = a
  · subst hb; rw [upd_same] at e; cases e; exact new
  · rw [upd_ne hb] at e
    exact (x b u e).stay (fun c v _ q => k c v q) (fun c q => by rw [upd_ne (ne_of_none q hn)]; exact q) fun c xs q => by rw [upd_ne (ne_of_none q hn)]; exact q
end
def Rd (H : Hp) (a : Addr) (u : HO) : Prop := H a = some u ∨ ∃ o, H a = some (.frz o u)
theorem Rd.ok {P : Program} {w : World} {H : Hp} {h : Heap} {a : Addr} {u : HO} (r : Rd H a u) (x : HOk P w H h) : ObjOk P w H h a u := by
  rcases r with r | ⟨o, r⟩
  · exact x a u r
  · obtain ⟨_, q⟩ := x a _ r
    exact q
def Mut : Option HO → Prop
  | some (.lst _) => True
  | some (.dK _) => True
  | some (.dT _) => True
  | some (.set _ _) => True
  | some (.ins _ _ _) => True
  | some (.ext _) => True
  | _ => False
section
variable {P : Program} {w : World} {H : Hp} {h h' : Heap} {x e : Addr} {o' : HO}
theorem HOk.write (ok : HOk P w H h) (mu : Mut (H x)) (he : e = x ∨ H e = some (.own x)) (k : ∀ b u, b ≠ e → h.get? b = some u → h'.get? b = some u) (heo : ∃ u, h'.get? e = some u)
    (new : ObjOk P w (upd H x o') h' x o') : HOk P w (upd H x o') h' := fun b u q => by
  have nown : ∀ c y, H c = some (.own y) → c ≠ x := fun c y r z => by subst z; rw [r] at mu; exact mu
  have ntup : ∀ c xs, H c = some (.tup xs) → c ≠ x := fun c xs r z => by subst z; rw [r] at mu; exact mu
  by_cases hb : b = x
  · subst hb; rw [upd_same] at q; cases q; exact new
  · rw [upd_ne hb] at q
    by_cases hbe : b = e
    · have q' : H b = some (.own x) := by
        rcases he with z | z
        · exact absurd (hbe.trans z) hb
        · rw [hbe]; exact z
      rw [q] at q'; cases q'
      obtain ⟨v, hv⟩ := heo
      exact ⟨v, by rw [hbe]; exact hv⟩
    · refine (ok b u q).stay (fun c v hc r => k c v ?_ r) (fun c r => by rw [upd_ne (nown c b r)]; exact r) fun c xs r => by rw [upd_ne (ntup c xs r)]; exact r
      rcases hc with rfl | hc
      · exact hbe
      · rintro rfl
        rcases he with z | z
        · exact nown c b hc z
        · rw [hc] at z; cases z; exact hb rfl
end
structure Un (fs ex : List Addr) (H H' : Hp) (h h' : Heap) : Prop where
  keep : ∀ b o, h.get? b = some o → H b = none → b ∉ fs → b ∉ ex → h'.get? b = some o
  slot : ∀ b o, h.get? b = some o → H b = none → b ∈ fs → b ∉ ex → ∃ sl, h'.get? b = some { o with slots := sl }
  free : ∀ b o, h.get? b = some o → H b = none → b ∉ ex → H' b = none
  there : ∀ b o, h.get? b = some o → b ∉ ex → ∃ o', h'.get? b = some o'
  tups : ∀ b xs, H b = some (.tup xs) → H' b = some (.tup xs)
  frzs : ∀ b o u, H b = some (.frz o u) → H' b = some (.frz o u)
  tbls : ∀ b ps, H b = some (.tbl ps) → ∃ more, H' b = some (.tbl (ps ++ more))
section
variable {fs fs' ex ex' : List Addr} {H H1 H2 : Hp} {h h1 h2 h' : Heap} {a x e : Addr} {o : HO}
theorem Un.any (u : Un fs ex H H1 h h1) {b : Addr} {ob : Obj} (q : h.get? b = some ob) (n : H b = none) (hx : b ∉ ex) : ∃ sl, h1.get? b = some { ob with slots := sl } := by
  by_cases hb : b ∈ fs
  · exact u.slot b ob q n hb hx
  · exact ⟨ob.slots, u.keep b ob q n hb hx⟩
theorem Un.kept (k : ∀ b u, h.get? b = some u → h'.get? b = some u) : Un fs ex H H h h' :=
  ⟨fun b ob q _ _ _ => k b ob q, fun b ob q _ _ _ => ⟨ob.slots, k b ob q⟩, fun _ _ _ n _ => n, fun b ob q _ => ⟨ob, k b ob q⟩, fun _ _ q => q, fun _ _ _ q => q, fun _ ps q => ⟨#[], by rw [q]; simp⟩⟩
theorem Un.refl : Un fs ex H H h h := Un.kept fun _ _ q => q
theorem Un.laid (k : ∀ b u, h.get? b = some u → h'.get? b = some u) (hp : h.objs.size ≤ a) (hn : H a = none) : Un fs ex H (upd H a o) h h' where
  keep := fun b u q _ _ _ => k b u q
  slot := fun b u q _ _ _ => ⟨u.slots, k b u q⟩
  free := fun b u q n _ => by rw [upd_ne (Nat.ne_of_lt (Nat.lt_of_lt_of_le (Heap.lt_size q) hp))]; exact n
  there := fun b u q _ => ⟨u, k b u q⟩
  tups := fun b xs q => by rw [upd_ne (ne_of_none q hn)]; exact q
  frzs := fun b u xs q => by rw [upd_ne (ne_of_none q hn)]; exact q
  tbls := fun b ps q => ⟨#[], by rw [upd_ne (ne_of_none q hn), q]; simp⟩
theorem Un.write (mu : Mut (H x)) (he : e = x ∨ H e = some (.own x)) (k : ∀ b u, b ≠ e → h.get? b = some u → h'.get? b = some u) (heo : ∃ u, h'.get? e = some u) : Un fs ex H (upd H x o) h h' := by
  have hx : ∀ b, H b = none → b ≠ x := fun b n z => by subst z; rw [n] at mu; exact mu
  have hb : ∀ b, H b = none → b ≠ e := fun b n z => by
    subst z
    rcases he with r | r
    · exact hx b n r
    · rw [n] at r; cases r
  have hm : ∀ b u, H b = some u → ¬ Mut (some u) → b ≠ x := fun b u q nm z => by subst z; rw [q] at mu; exact nm mu
  refine ⟨fun b u q n _ _ => k b u (hb b n) q, fun b u q n _ _ => ⟨u.slots, k b u (hb b n) q⟩, fun b u q n _ => by rw [upd_ne (hx b n)]; exact n, fun b u q _ => ?_,
    fun b xs q => by rw [upd_ne (hm b _ q fun z => z)]; exact q, fun b u xs q => by rw [upd_ne (hm b _ q fun z => z)]; exact q, fun b ps q => ⟨#[], by rw [upd_ne (hm b _ q fun z => z), q]; simp⟩⟩
  by_cases hbe : b = e
  · subst hbe; exact heo
  · exact ⟨u, k b u hbe q⟩
end
def trk (h : Heap) (H : Hp) : List Addr := (List.range h.objs.size).filter fun a => (H a).isSome
def hidT (h : Heap) (H : Hp) : Heap := PySem.W.hideAll h (trk h H)
theorem hidT_size (h : Heap) (H : Hp) : (hidT h H).objs.size = h.objs.size := PySem.W.hideAll_size _ _
theorem hidT_get {h : Heap} {H : Hp} {b : Addr} {o : Obj} (e : h.get? b = some o) (n : H b = none) : (hidT h H).get? b = some o :=
  PySem.W.hideAll_get _ e fun hm => by
    have q : (H b).isSome = true := (List.mem_filter.mp hm).2
    rw [n] at q; simp at q
theorem of_hidT {h : Heap} {H : Hp} {b : Addr} {o : Obj} (e : (hidT h H).get? b = some o) : h.get? b = some o ∧ H b = none := by
  have e' : h.get? b = some o := PySem.W.of_hideAll (trk h H) e
  refine ⟨e', ?_⟩
  cases q : H b with
  | none => rfl
  | some x =>
    have hm : b ∈ trk h H := List.mem_filter.mpr ⟨List.mem_range.mpr (Heap.lt_size e'), by simp [q]⟩
    have z : (hidT h H).get? b = none := PySem.W.hideAll_none (trk h H) hm
    rw [z] at e; cases e
def allNews (g h : Heap) (L : Addr) : List (Addr × Obj) := (List.range h.objs.size).filterMap fun a => if a = L ∨ (g.get? a).isSome = true then none else (h.get? a).map fun o => (a, o)
def rest (g h : Heap) (L d : Addr) : List (Addr × Obj) := (allNews g h L).filter fun p => decide (p.1 ≠ d)
end L2
namespace L2
open PySem PySem.Spec PyProof.Rows
structure Mod (K : PySem.W.Frag) (mg : Str → Option Value) (base : Heap) : Prop where
  kin : K.In base
  glob : base.Ns mainGlobals mg
  blt : ∃ mb, base.Ns builtinsNs mb ∧ ∀ x : Str, x ≠ "__name__" → mb x = bootBuiltins x
  nolimit : base.NoLimit
structure Cx where
  prog : Program
  w : World
  K : PySem.W.Frag
  mg : Str → Option Value
  base : Heap
  A : Around
  N : List Str
  s₀ : Shared
  H₀ : Hp
  env : Env
  outer : List Env
  stack : List Env
  ex : List Addr
  fn : Str → Bool
  calm : Bool
  pn : List (Addr × Obj)
  xe : Value → Shared → Prop
def frs (l : List Env) : List Addr := l.filterMap (·.frame)
abbrev Cx.fs (X : Cx) : List Addr := frs X.outer
def Vis (sc : Scope) (x : Str) : Prop := sc.names.lookup x = some .local ∨ sc.names.lookup x = some .cell ∨ sc.names.lookup x = some .free
def Loc (sc : Scope) (x : Str) : Prop := sc.names.lookup x = some .local ∨ sc.names.lookup x = some .cell
def Look (env : Env) (h : Heap) (m : Str → Option Value) (x : Str) (u : Value) : Prop :=
  (env.kindOf x = some .local ∧ m x = some u) ∨ ((env.kindOf x = some .cell ∨ env.kindOf x = some .free) ∧ ∃ c, env.cells.lookup x = some c ∧ h.IsCell c (some u))
structure Cx.Ok (X : Cx) : Prop where
  mod : Mod X.K X.mg X.base
  kind : X.env.scope.kind = .function
  glob : X.env.globals = mainGlobals
  blt : X.env.builtins = builtinsNs
  above : X.s₀.heap.objs.size ≤ X.env.locals
  inj : ∀ x y c, X.env.cells.lookup x = some c → X.env.cells.lookup y = some c → x = y
  has : ∀ x, (X.env.kindOf x = some .cell ∨ X.env.kindOf x = some .free) → ∃ c, X.env.cells.lookup x = some c
  cab : ∀ x c, X.fn x = true → X.env.cells.lookup x = some c → X.s₀.heap.objs.size ≤ c
  hd : X.calm = true → X.A.handled = none
  frames : X.A.frames = some X.stack
  stk : X.stack = X.outer ∨ (X.stack = X.env :: X.outer ∧ X.env.frame = some X.env.locals)
  exf : ∀ b ∈ X.ex, b ≠ X.env.locals ∧ ∀ x c, X.env.cells.lookup x = some c → c ≠ b
  bs : ∀ b o, X.base.get? b = some o → X.s₀.heap.get? b = some o ∧ X.H₀ b = none
  bsz : X.base.objs.size ≤ X.s₀.heap.objs.size
  noex : ∀ b o, X.base.get? b = some o → b ∉ X.ex
  exfs : ∀ b ∈ X.ex, b ∉ X.fs
  funs : X.s₀.heap.FunFrames X.base X.outer
  frf : ∀ b ∈ X.fs, X.H₀ b = none
structure Inv (X : Cx) (pins : List (Addr × Obj)) (σ : List (Option V)) (H : Hp) (s : Shared) : Prop where
  ok : X.Ok
  os : s.os = X.s₀.os
  bare : AllBare s.gens
  base : Un X.fs X.ex X.H₀ H X.s₀.heap s.heap
  loc : ∃ m, s.heap.Ns X.env.locals m ∧ ∀ (i : Nat) (x : Str) (v : V), X.N[i]? = some x → σ[i]? = some (some v) → Vis X.env.scope x → ∃ u, RelV v u ∧ Look X.env s.heap m x u
  cell : ∀ x c, X.env.cells.lookup x = some c → ∃ v, s.heap.IsCell c v
  free : H X.env.locals = none
  freeC : ∀ x c, X.env.cells.lookup x = some c → H c = none
  pin : ∀ p ∈ X.pn ++ pins, s.heap.get? p.1 = some p.2 ∧ H p.1 = none ∧ p.1 ≠ X.env.locals ∧ p.1 ∉ X.fs ∧ ∀ v, p.2.data ≠ .cell v
  hok : HOk X.prog X.w H s.heap
  len : σ.length = X.N.length
section
variable {X : Cx} {pins : List (Addr × Obj)} {σ : List (Option V)} {H H' : Hp} {s : Shared} {h' : Heap}
theorem Cx.Ok.nofr (ok : X.Ok) {b : Addr} {o : Obj} (e : X.base.get? b = some o) : b ∉ X.fs := fun hb => by
  have := (ok.funs.mem hb).1
  rw [e] at this; cases this
theorem Inv.bs (I : Inv X pins σ H s) : ∀ b o, X.base.get? b = some o → s.heap.get? b = some o ∧ H b = none := fun b o e =>
  ⟨I.base.keep b o (I.ok.bs b o e).1 (I.ok.bs b o e).2 (I.ok.nofr e) (I.ok.noex b o e), I.base.free b o (I.ok.bs b o e).1 (I.ok.bs b o e).2 (I.ok.noex b o e)⟩
theorem Inv.bk (I : Inv X pins σ H s) : ∀ b o, X.base.get? b = some o → s.heap.get? b = some o := fun b o e => (I.bs b o e).1
theorem Inv.mod (I : Inv X pins σ H s) : Mod X.K X.mg X.base := I.ok.mod
theorem Inv.kIn (I : Inv X pins σ H s) : X.K.In s.heap := I.ok.mod.kin.keeps I.bk
theorem Inv.lt (I : Inv X pins σ H s) : X.env.locals < s.heap.objs.size := let ⟨_, hn, _⟩ := I.loc; hn.lt
theorem Inv.sz (I : Inv X pins σ H s) : X.s₀.heap.objs.size ≤ s.heap.objs.size := Nat.le_trans I.ok.above (Nat.le_of_lt I.lt)
theorem Inv.nofs (I : Inv X pins σ H s) {a : Addr} (h : s.heap.objs.size ≤ a) : a ∉ X.fs := fun hb => by
  obtain ⟨_, o, ho, _⟩ := I.ok.funs.mem hb
  exact absurd (Nat.lt_of_lt_of_le (Heap.lt_size ho) (Nat.le_trans I.sz h)) (Nat.lt_irrefl _)
theorem Inv.cne (I : Inv X pins σ H s) : ∀ x c, X.env.cells.lookup x = some c → c ≠ X.env.locals := fun x c e z => by
  obtain ⟨v, o, ho, hd⟩ := I.cell x c e
  obtain ⟨m, ⟨o', es, ep, ho', hd', _⟩, _⟩ := I.loc
  rw [z, ho'] at ho; cases ho; rw [hd'] at hd; cases hd
theorem Inv.funs (I : Inv X pins σ H s) : s.heap.FunFrames X.base X.outer := by
  have all : ∀ (l : List Env), (∀ b ∈ frs l, b ∈ X.fs) → X.s₀.heap.FunFrames X.base l → s.heap.FunFrames X.base l := by
    intro l
    induction l with
    | nil => intro _ _; trivial
    | cons env r ih =>
      intro hs hl
      obtain ⟨hk, ⟨L, o, hf, hn, ho, hd⟩, hr⟩ := hl
      have hL : L ∈ X.fs := hs L (by unfold frs; rw [List.filterMap_cons, hf]; exact List.mem_cons_self)
      obtain ⟨sl, e⟩ := I.base.slot L o ho (I.ok.frf L hL) hL fun z => I.ok.exfs L z hL
      exact ⟨hk, ⟨L, _, hf, hn, e, hd⟩, ih (fun b hb => hs b (by unfold frs; rw [List.filterMap_cons, hf]; exact List.mem_cons_of_mem _ hb)) hr⟩
  exact all X.outer (fun _ hb => hb) I.ok.funs
theorem Inv.stack (I : Inv X pins σ H s) : s.heap.FunFrames X.base X.stack := by
  rcases I.ok.stk with e | ⟨e, hf⟩
  · rw [e]; exact I.funs
  · rw [e]
    obtain ⟨m, hn, _⟩ := I.loc
    refine .cons (by rw [I.ok.kind]; decide) hf hn ?_ I.funs
    exact Heap.get?_none_of_le (Nat.le_trans I.ok.bsz I.ok.above)
theorem Inv.stkSub (I : Inv X pins σ H s) : ∀ b ∈ frs X.stack, b ∈ X.env.locals :: X.fs := fun b hb => by
  rcases I.ok.stk with e | ⟨e, hf⟩
  · rw [e] at hb; exact List.mem_cons_of_mem _ hb
  · rw [e] at hb
    unfold frs at hb
    rw [List.filterMap_cons, hf] at hb
    exact hb
theorem Inv.stkFree (I : Inv X pins σ H s) : ∀ b ∈ frs X.stack, H b = none := fun b hb => by
  rcases List.mem_cons.mp (I.stkSub b hb) with e | hb
  · rw [e]; exact I.free
  · obtain ⟨_, o, ho, _⟩ := I.ok.funs.mem hb
    exact I.base.free b o ho (I.ok.frf b hb) fun z => I.ok.exfs b z hb
theorem Inv.step {g' : Array GenState} {t' : Nat} {d' : Drawn} {ch : List Addr} (I : Inv X pins σ H s)
    (hch : ∀ b ∈ ch, (b ∈ X.ex ∨ X.s₀.heap.objs.size ≤ b) ∧ b ≠ X.env.locals ∧ (∀ x c, X.env.cells.lookup x = some c → c ≠ b) ∧ ∀ p ∈ X.pn ++ pins, p.1 ≠ b)
    (keep : ∀ b o, b ≠ X.env.locals → b ∉ X.fs → b ∉ ch → s.heap.get? b = some o → H b = none → h'.get? b = some o)
    (slot : ∀ b o, b ≠ X.env.locals → b ∈ X.fs → b ∉ ch → s.heap.get? b = some o → H b = none → ∃ sl, h'.get? b = some { o with slots := sl }) (free : ∀ b o, b ∉ ch → s.heap.get? b = some o → H b = none → H' b = none)
    (there : ∀ b o, b ∉ ch → s.heap.get? b = some o → ∃ o', h'.get? b = some o')
    (tups : ∀ b xs, H b = some (.tup xs) → H' b = some (.tup xs)) (frzs : ∀ b o u, H b = some (.frz o u) → H' b = some (.frz o u)) (tbls : ∀ b ps, H b = some (.tbl ps) → ∃ more, H' b = some (.tbl (ps ++ more)))
    (ns : ∀ m, s.heap.Ns X.env.locals m → h'.Ns X.env.locals m) (hok : HOk X.prog X.w H' h') (hg : AllBare g') :
    Inv X pins σ H' { s with heap := h', gens := g', drawn := d', toks := t' } := by
  have neL : ∀ b o, X.s₀.heap.get? b = some o → b ≠ X.env.locals := fun b o e => Nat.ne_of_lt (Nat.lt_of_lt_of_le (Heap.lt_size e) I.ok.above)
  have neC : ∀ b o, X.s₀.heap.get? b = some o → b ∉ X.ex → b ∉ ch := fun b o e hx hb => by
    rcases (hch b hb).1 with z | z
    · exact hx z
    · exact absurd (Nat.lt_of_lt_of_le (Heap.lt_size e) z) (Nat.lt_irrefl _)
  have cellK : ∀ x c, X.env.cells.lookup x = some c → ∀ v, s.heap.IsCell c v → h'.IsCell c v := fun x c e v ⟨o, ho, hd⟩ => by
    have nch : c ∉ ch := fun z => (hch c z).2.2.1 x c e rfl
    by_cases hc : c ∈ X.fs
    · obtain ⟨sl, q⟩ := slot c o (I.cne x c e) hc nch ho (I.freeC x c e)
      exact ⟨_, q, hd⟩
    · exact ⟨o, keep c o (I.cne x c e) hc nch ho (I.freeC x c e), hd⟩
  refine ⟨I.ok, I.os, hg, ⟨fun b o e n hb hx => ?_, fun b o e n hb hx => ?_, fun b o e n hx => ?_, fun b o e hx => ?_, fun b xs e => tups b xs (I.base.tups b xs e), fun b o xs e => frzs b o xs (I.base.frzs b o xs e), fun b ps e => ?_⟩, ?_, fun x c e => ?_, ?_, fun x c e => ?_, fun p hp => ?_, hok, I.len⟩
  · exact keep b o (neL b o e) hb (neC b o e hx) (I.base.keep b o e n hb hx) (I.base.free b o e n hx)
  · obtain ⟨sl, e1⟩ := I.base.slot b o e n hb hx
    obtain ⟨sl', e2⟩ := slot b _ (neL b o e) hb (neC b o e hx) e1 (I.base.free b o e n hx)
    exact ⟨sl', e2⟩
  · obtain ⟨o', e1⟩ := I.base.there b o e hx
    exact free b o' (neC b o e hx) e1 (I.base.free b o e n hx)
  · obtain ⟨o', e1⟩ := I.base.there b o e hx
    exact there b o' (neC b o e hx) e1
  · obtain ⟨m1, e1⟩ := I.base.tbls b ps e
    obtain ⟨m2, e2⟩ := tbls b _ e1
    exact ⟨m1 ++ m2, by rw [e2, Array.append_assoc]⟩
  · obtain ⟨m, hn, hl⟩ := I.loc
    refine ⟨m, ns m hn, fun i x v e1 e2 e3 => ?_⟩
    obtain ⟨u, r, l⟩ := hl i x v e1 e2 e3
    refine ⟨u, r, ?_⟩
    rcases l with l | ⟨k, c, e, z⟩
    · exact .inl l
    · exact .inr ⟨k, c, e, cellK x c e _ z⟩
  · obtain ⟨v, z⟩ := I.cell x c e
    exact ⟨v, cellK x c e v z⟩
  · obtain ⟨m, ⟨o, _, _, ho, _⟩, _⟩ := I.loc
    exact free _ o (fun z => (hch _ z).2.1 rfl) ho I.free
  · obtain ⟨v, o, ho, hd⟩ := I.cell x c e
    exact free c o (fun z => (hch c z).2.2.1 x c e rfl) ho (I.freeC x c e)
  · obtain ⟨e, n, ne, nf, d⟩ := I.pin p hp
    have nch : p.1 ∉ ch := fun z => (hch p.1 z).2.2.2 p hp rfl
    exact ⟨keep p.1 p.2 ne nf nch e n, free p.1 p.2 nch e n, ne, nf, d⟩
theorem Inv.un {t' : Nat} (I : Inv X pins σ H s) (u : Un X.fs [] H H' s.heap h') (hok : HOk X.prog X.w H' h') : Inv X pins σ H' { s with heap := h', toks := t' } := by
  obtain ⟨m, ⟨o, es, ep, ho, r⟩, _⟩ := id I.loc
  obtain ⟨sl, hL⟩ := u.any ho I.free (by simp)
  exact I.step (g' := s.gens) (d' := s.drawn) (ch := []) (fun _ z => nomatch z) (fun b o _ hb _ e n => u.keep b o e n hb (by simp)) (fun b o _ hb _ e n => u.slot b o e n hb (by simp)) (fun b o _ e n => u.free b o e n (by simp)) (fun b o _ e => u.there b o e (by simp)) u.tups u.frzs u.tbls (fun m' hm => by
    obtain ⟨o', es', ep', ho', r'⟩ := hm
    rw [ho] at ho'; cases ho'
    exact ⟨_, es', ep', hL, r'⟩) hok I.bare
theorem Inv.call {g' : Array GenState} {t' : Nat} {d' : Drawn} {ch : List Addr} (I : Inv X pins σ H s) (u : Un (frs X.stack) ch H H' s.heap h') (hok : HOk X.prog X.w H' h') (hg : AllBare g')
    (hch : ∀ b ∈ ch, (b ∈ X.ex ∨ X.s₀.heap.objs.size ≤ b) ∧ b ≠ X.env.locals ∧ (∀ x c, X.env.cells.lookup x = some c → c ≠ b) ∧ ∀ p ∈ X.pn ++ pins, p.1 ≠ b) :
    Inv X pins σ H' { s with heap := h', gens := g', drawn := d', toks := t' } := by
  obtain ⟨m, ⟨o, es, ep, ho, r⟩, _⟩ := id I.loc
  obtain ⟨sl, hL⟩ := u.any ho I.free fun z => (hch _ z).2.1 rfl
  exact I.step (ch := ch) hch (fun b o hL hb hc e n => u.keep b o e n (fun z => (List.mem_cons.mp (I.stkSub b z)).elim hL hb) hc) (fun b o _ _ hc e n => u.any e n hc) (fun b o hc e n => u.free b o e n hc) (fun b o hc e => u.there b o e hc) u.tups u.frzs u.tbls (fun m' hm => by
    obtain ⟨o', es', ep', ho', r'⟩ := hm
    rw [ho] at ho'; cases ho'
    exact ⟨_, es', ep', hL, r'⟩) hok hg
theorem Inv.turned {t' : Nat} {it : Addr} (I : Inv X pins σ H s) (k : ∀ b o, b ≠ it → s.heap.get? b = some o → h'.get? b = some o) (hn : H it = none) (hL : it ≠ X.env.locals)
    (h1 : it ∈ X.ex ∨ X.s₀.heap.objs.size ≤ it) (h2 : ∀ x c, X.env.cells.lookup x = some c → c ≠ it) (h3 : ∀ p ∈ X.pn ++ pins, p.1 ≠ it) : Inv X pins σ H { s with heap := h', toks := t' } := by
  have nit : ∀ b u, H b = some u → b ≠ it := fun b u e z => by rw [z, hn] at e; cases e
  refine I.step (g' := s.gens) (d' := s.drawn) (ch := [it]) (fun b hb => ?_) (fun b o _ _ hc e _ => k b o (fun z => hc (by simp [z])) e) (fun b o _ _ hc e _ => ⟨o.slots, k b o (fun z => hc (by simp [z])) e⟩) (fun _ _ _ _ n => n)
    (fun b o hc e => ⟨o, k b o (fun z => hc (by simp [z])) e⟩) (fun _ _ e => e) (fun _ _ _ e => e) (fun b ps e => ⟨#[], by rw [e]; simp⟩) (fun m hm => ?_) (fun b u e => ?_) I.bare
  · have e : b = it := by simpa using hb
    subst e
    exact ⟨h1, hL, h2, h3⟩
  · obtain ⟨o, es, ep, ho, r⟩ := hm
    exact ⟨o, es, ep, k _ o (Ne.symm hL) ho, r⟩
  · refine (I.hok b u e).stay (fun c v hc q => k c v ?_ q) (fun _ q => q) fun _ _ q => q
    rcases hc with z | z
    · rw [z]; exact nit b u e
    · exact nit c _ z
theorem Inv.tok (I : Inv X pins σ H s) (t : Nat) : Inv X pins σ H { s with toks := t } := I.un (h' := s.heap) (t' := t) Un.refl I.hok
theorem Inv.kept {t' : Nat} (I : Inv X pins σ H s) (k : ∀ b u, s.heap.get? b = some u → h'.get? b = some u) : Inv X pins σ H { s with heap := h', toks := t' } := I.un (Un.kept k) (I.hok.kept k)
theorem Inv.laid {a : Addr} {o : HO} {t' : Nat} (I : Inv X pins σ H s) (k : ∀ b u, s.heap.get? b = some u → h'.get? b = some u) (hp : s.heap.objs.size ≤ a) (new : ObjOk X.prog X.w (upd H a o) h' a o) :
    Inv X pins σ (upd H a o) { s with heap := h', toks := t' } := I.un (Un.laid k hp (I.hok.fresh hp)) (I.hok.laid k hp new)
theorem Inv.write {x e : Addr} {o : HO} {t' : Nat} (I : Inv X pins σ H s) (mu : Mut (H x)) (he : e = x ∨ H e = some (.own x)) (k : ∀ b u, b ≠ e → s.heap.get? b = some u → h'.get? b = some u) (heo : ∃ u, h'.get? e = some u)
    (new : ObjOk X.prog X.w (upd H x o) h' x o) : Inv X pins σ (upd H x o) { s with heap := h', toks := t' } := I.un (Un.write mu he k heo) (I.hok.write mu he k heo new)
theorem Inv.pins_of {pins' : List (Addr × Obj)} (I : Inv X pins σ H s) (h : ∀ p ∈ pins', s.heap.get? p.1 = some p.2 ∧ H p.1 = none ∧ p.1 ≠ X.env.locals ∧ p.1 ∉ X.fs ∧ ∀ v, p.2.data ≠ .cell v) : Inv X pins' σ H s :=
  ⟨I.ok, I.os, I.bare, I.base, I.loc, I.cell, I.free, I.freeC, fun p hp => (List.mem_append.mp hp).elim (fun z => I.pin p (List.mem_append_left _ z)) (h p), I.hok, I.len⟩
theorem nodup_ix {N : List Str} (hN : N.Nodup) {i j : Nat} {x : Str} (a : N[i]? = some x) (b : N[j]? = some x) : i = j := by
  obtain ⟨h1, e1⟩ := List.getElem?_eq_some_iff.mp a
  obtain ⟨h2, e2⟩ := List.getElem?_eq_some_iff.mp b
  exact (List.getElem_inj hN).mp (e1.trans e2.symm)
theorem store_ok2 {M : Model} {A : Around} {E : Value → Shared → Prop} {i : Nat} {x : Str} {v : V} {u : Value} {Q : Unit → Shared → Prop} (I : Inv X pins σ H s) (hN : X.N.Nodup) (hi : X.N[i]? = some x) (hx : Loc X.env.scope x) (r : RelV v u)
    (h : ∀ s', Inv X pins (σ.set i (some v)) H s' → (∃ a, Heap.SameBut a s.heap s'.heap ∧ (a = X.env.locals ∨ X.env.cells.lookup x = some a)) → Q () s') (hf : X.fn x = true ∨ X.env.scope.names.lookup x = some .local := by first | exact .inl rfl | exact .inr rfl | assumption) : wpAny M A (storeName X.env x u) Q E s := by
  obtain ⟨m, hn, hl⟩ := id I.loc
  have hcls : (X.env.scope.kind == .class || (X.env.scope.kind == .module && X.env.locals != X.env.globals)) = false := by rw [I.ok.kind]; rfl
  have hiσ : i < σ.length := by rw [I.len]; exact (List.getElem?_eq_some_iff.mp hi).1
  have cne := I.cne
  have tracked : ∀ {a : Addr} {h' : Heap}, (∃ o, s.heap.get? a = some o ∧ H a = none) → Heap.SameBut a s.heap h' → HOk X.prog X.w H h' := fun {a h'} ha hs b ob e => by
    obtain ⟨_, _, hfree⟩ := ha
    refine (I.hok b ob e).stay (fun c w' hc q => (hs.2 c ?_).trans q) (fun _ q => q) fun _ _ q => q
    rintro rfl
    rcases hc with rfl | hc
    · rw [hfree] at e; cases e
    · rw [hfree] at hc; cases hc
  rcases hx with hk | hk
  · refine wpAny_storeName_local hk hn (fun h' hn' hs => ?_) hcls
    obtain ⟨oL, _, _, hoL, _⟩ := id hn
    refine h _ ⟨I.ok, I.os, I.bare, ⟨fun b o e n hb hx => ?_, fun b o e n hb hx => ?_, I.base.free, fun b o e hx => ?_, I.base.tups, I.base.frzs, I.base.tbls⟩, ⟨_, hn', fun j y v' e1 e2 e3 => ?_⟩, fun y c e => ?_, I.free, I.freeC, fun p hp => ?_, tracked ⟨oL, hoL, I.free⟩ hs, by simpa using I.len⟩ ⟨_, hs, .inl rfl⟩
    · exact (hs.2 b (Nat.ne_of_lt (Nat.lt_of_lt_of_le (Heap.lt_size e) I.ok.above))).trans (I.base.keep b o e n hb hx)
    · obtain ⟨sl, e1⟩ := I.base.slot b o e n hb hx
      exact ⟨sl, (hs.2 b (Nat.ne_of_lt (Nat.lt_of_lt_of_le (Heap.lt_size e) I.ok.above))).trans e1⟩
    · obtain ⟨o', e1⟩ := I.base.there b o e hx
      exact ⟨o', (hs.2 b (Nat.ne_of_lt (Nat.lt_of_lt_of_le (Heap.lt_size e) I.ok.above))).trans e1⟩
    · by_cases hj : j = i
      · subst hj
        rw [hi] at e1; cases e1
        rw [List.getElem?_set_self hiσ] at e2
        cases e2
        exact ⟨u, r, .inl ⟨hk, by simp⟩⟩
      · rw [List.getElem?_set_ne (Ne.symm hj)] at e2
        obtain ⟨u', r', q⟩ := hl j y v' e1 e2 e3
        refine ⟨u', r', ?_⟩
        rcases q with ⟨k, e⟩ | ⟨k, c, e, z⟩
        · refine .inl ⟨k, ?_⟩
          have : y ≠ x := fun e => hj (nodup_ix hN e1 (e ▸ hi))
          simp [this, e]
        · exact .inr ⟨k, c, e, z.sameBut hs (cne y c e)⟩
    · obtain ⟨w', z⟩ := I.cell y c e
      exact ⟨w', z.sameBut hs (cne y c e)⟩
    · obtain ⟨e, n, ne, nf, d⟩ := I.pin p hp
      exact ⟨(hs.2 p.1 ne).trans e, n, ne, nf, d⟩
  · have hfn : X.fn x = true := by
      rcases hf with z | z
      · exact z
      · rw [z] at hk; cases hk
    obtain ⟨c, hc⟩ := I.ok.has x (.inl hk)
    obtain ⟨w', z⟩ := I.cell x c hc
    refine wpAny_storeName_cell I.ok.kind hk hc z (fun h' hc' hs => ?_)
    obtain ⟨oc, hoc, hocd⟩ := id z
    refine h { s with heap := h' } ⟨I.ok, I.os, I.bare, ⟨fun b o e n hb hx => ?_, fun b o e n hb hx => ?_, I.base.free, fun b o e hx => ?_, I.base.tups, I.base.frzs, I.base.tbls⟩, ⟨m, hn.sameBut hs (Ne.symm (cne x c hc)), fun j y v' e1 e2 e3 => ?_⟩, fun y c' e => ?_, I.free, I.freeC, fun p hp => ?_, tracked ⟨oc, hoc, I.freeC x c hc⟩ hs, by simpa using I.len⟩ ⟨c, hs, .inr hc⟩
    · exact (hs.2 b (Nat.ne_of_lt (Nat.lt_of_lt_of_le (Heap.lt_size e) (I.ok.cab x c hfn hc)))).trans (I.base.keep b o e n hb hx)
    · obtain ⟨sl, e1⟩ := I.base.slot b o e n hb hx
      exact ⟨sl, (hs.2 b (Nat.ne_of_lt (Nat.lt_of_lt_of_le (Heap.lt_size e) (I.ok.cab x c hfn hc)))).trans e1⟩
    · obtain ⟨o', e1⟩ := I.base.there b o e hx
      exact ⟨o', (hs.2 b (Nat.ne_of_lt (Nat.lt_of_lt_of_le (Heap.lt_size e) (I.ok.cab x c hfn hc)))).trans e1⟩
    · by_cases hj : j = i
      · subst hj
        rw [hi] at e1; cases e1
        rw [List.getElem?_set_self hiσ] at e2
        cases e2
        exact ⟨u, r, .inr ⟨.inl hk, c, hc, hc'⟩⟩
      · rw [List.getElem?_set_ne (Ne.symm hj)] at e2
        obtain ⟨u', r', q⟩ := hl j y v' e1 e2 e3
        refine ⟨u', r', ?_⟩
        rcases q with q | ⟨k, c', e, z'⟩
        · exact .inl q
        · refine .inr ⟨k, c', e, z'.sameBut hs ?_⟩
          rintro rfl
          exact hj (nodup_ix hN e1 (I.ok.inj _ _ _ e hc ▸ hi))
    · by_cases hcc : c' = c
      · subst hcc; exact ⟨_, hc'⟩
      · obtain ⟨w2, z2⟩ := I.cell y c' e
        exact ⟨w2, z2.sameBut hs hcc⟩
    · obtain ⟨e, n, ne, nf, d⟩ := I.pin p hp
      refine ⟨(hs.2 p.1 ?_).trans e, n, ne, nf, d⟩
      intro q
      rw [q, hoc] at e
      have q' : oc = p.2 := Option.some.inj e
      exact d w' (by rw [← q']; exact hocd)
theorem store_ok {M : Model} {A : Around} {E : Value → Shared → Prop} {i : Nat} {x : Str} {v : V} {u : Value} {Q : Unit → Shared → Prop} (I : Inv X pins σ H s) (hN : X.N.Nodup) (hi : X.N[i]? = some x) (hx : Loc X.env.scope x) (r : RelV v u)
    (h : ∀ s', Inv X pins (σ.set i (some v)) H s' → Q () s') (hf : X.fn x = true ∨ X.env.scope.names.lookup x = some .local := by first | exact .inl rfl | exact .inr rfl | assumption) : wpAny M A (storeName X.env x u) Q E s :=
  store_ok2 I hN hi hx r (fun s' I' _ => h s' I') hf
theorem Inv.call' {s' : Shared} {ch : List Addr} (I : Inv X pins σ H s) (ho : s'.os = s.os) (u : Un (frs X.stack) ch H H' s.heap s'.heap) (hok : HOk X.prog X.w H' s'.heap) (hg : AllBare s'.gens)
    (hch : ∀ b ∈ ch, (b ∈ X.ex ∨ X.s₀.heap.objs.size ≤ b) ∧ b ≠ X.env.locals ∧ (∀ x c, X.env.cells.lookup x = some c → c ≠ b) ∧ ∀ p ∈ X.pn ++ pins, p.1 ≠ b) : Inv X pins σ H' s' := by
  obtain ⟨h', g', d', t', o'⟩ := s'
  have e : o' = s.os := ho
  subst e
  exact I.call (g' := g') (t' := t') (d' := d') u hok hg hch
end
abbrev XK := Value → Option Addr → Hp → Prop
abbrev St := List (Option V)
abbrev VK := V → Hp → Prop
abbrev TE := St → Hp → VK → Prop
abbrev TT := St → Hp → (Bool → Hp → Prop) → Prop
abbrev TA := St → Hp → (List V → Hp → Prop) → Prop
structure Ends where
  nx : St → Hp → Prop
  rt : VK
  bk : St → Hp → Prop := fun _ _ => False
  ct : St → Hp → Prop := fun _ _ => False
abbrev TS := Ends → St → Hp → Prop
def EP (X : Cx) (pins : List (Addr × Obj)) (σ : St) (Q : VK) (u : Value) (s' : Shared) : Prop := ∃ v H', Inv X pins σ H' s' ∧ RelV v u ∧ Q v H'
def TP (X : Cx) (pins : List (Addr × Obj)) (σ : St) (Q : Bool → Hp → Prop) (b : Bool) (s' : Shared) : Prop := ∃ H', Inv X pins σ H' s' ∧ Q b H'
def AP (X : Cx) (pins : List (Addr × Obj)) (σ : St) (Q : List V → Hp → Prop) (us : List Value) (s' : Shared) : Prop := ∃ vs H', Inv X pins σ H' s' ∧ Vals vs us ∧ Q vs H'
def SP (X : Cx) (pins : List (Addr × Obj)) (D : Ends) (f : Flow) (s' : Shared) : Prop :=
  match f with
  | .next => ∃ σ' H', Inv X pins σ' H' s' ∧ D.nx σ' H'
  | .brk => ∃ σ' H', Inv X pins σ' H' s' ∧ D.bk σ' H'
  | .cont => ∃ σ' H', Inv X pins σ' H' s' ∧ D.ct σ' H'
  | .ret u => ∃ v σ' H', Inv X pins σ' H' s' ∧ RelV v u ∧ D.rt v H'
def PE (X : Cx) (e : Expr) (t : TE) : Prop :=
  ∀ (pins : List (Addr × Obj)) (s : Shared) (σ : St) (H : Hp) (Q : VK), Inv X pins σ H s → t σ H Q → wpAny (model X.prog X.w) X.A (eval e X.env) (EP X pins σ Q) X.xe s
def PT (X : Cx) (e : Expr) (t : TT) : Prop :=
  ∀ (pins : List (Addr × Obj)) (s : Shared) (σ : St) (H : Hp) (Q : Bool → Hp → Prop), Inv X pins σ H s → t σ H Q → wpAny (model X.prog X.w) X.A (isTrue e X.env (eval e X.env)) (TP X pins σ Q) X.xe s
def PW (X : Cx) (e : Expr) (t : TT) : Prop :=
  ∀ (whole : Sem Value) (pins : List (Addr × Obj)) (s : Shared) (σ : St) (H : Hp) (Q : Bool → Hp → Prop), Inv X pins σ H s → t σ H Q → wpAny (model X.prog X.w) X.A (isTrue e X.env whole) (TP X pins σ Q) X.xe s
theorem PW.pt {X : Cx} {e : Expr} {t : TT} (h : PW X e t) : PT X e t := h _
def PA (X : Cx) (es : List Expr) (t : TA) : Prop :=
  ∀ (pos : Pos) (pins : List (Addr × Obj)) (s : Shared) (σ : St) (H : Hp) (Q : List V → Hp → Prop), Inv X pins σ H s → t σ H Q → wpAny (model X.prog X.w) X.A (spliced (backTo pos (starEach es X.env))) (AP X pins σ Q) X.xe s
def PS (X : Cx) (st : Stmt) (t : TS) : Prop :=
  ∀ (pins : List (Addr × Obj)) (s : Shared) (σ : St) (H : Hp) (D : Ends), Inv X pins σ H s → t D σ H → wpAny (model X.prog X.w) X.A (exec st X.env) (SP X pins D) X.xe s
def PSs (X : Cx) (st : List Stmt) (t : TS) : Prop :=
  ∀ (pins : List (Addr × Obj)) (s : Shared) (σ : St) (H : Hp) (D : Ends), Inv X pins σ H s → t D σ H → wpAny (model X.prog X.w) X.A (execs st X.env) (SP X pins D) X.xe s
theorem thn {α : Type} {t : Sem α} {Q Q' : α → Shared → Prop} {M : Model} {A : Around} {E : Value → Shared → Prop} {s : Shared} (h : wpAny M A t Q E s) (hQ : ∀ a s, Q a s → Q' a s) : wpAny M A t Q' E s := wpAny_mono h hQ fun _ _ x => x
end L2
namespace L2
open PySem PySem.Spec PyProof.Rows
section
variable {X : Cx}
def tVar (i : Nat) : TE := fun σ H Q => ∃ v, σ[i]? = some (some v) ∧ Q v H
def tC (v : V) : TE := fun _ H Q => Q v H
theorem pe_var {i : Nat} {x : Str} {pos : Pos} (hN : X.N[i]? = some x) (hv : Vis X.env.scope x) (hd : (x == ("__debug__" : Str)) = false := by decide) (hcd : (x == ("__classdict__" : Str)) = false := by decide) : PE X (.Name x pos) (tVar i) := by
  intro pins s σ H Q I h
  obtain ⟨v, e, h⟩ := h
  obtain ⟨m, hn, hl⟩ := I.loc
  obtain ⟨u, r, l⟩ := hl i x v hN e hv
  have fin : EP X pins σ Q u s := ⟨v, H, I, r, h⟩
  rcases l with ⟨hk, hm⟩ | ⟨hk, c, hc, hcell⟩
  · exact wpAny_Name (wpAny_loadName_local I.ok.kind hk hn hm fin) hd
  · rcases hk with hk | hk
    · exact wpAny_Name (wpAny_loadName_cell I.ok.kind hk hc hcell fin) hd
    · exact wpAny_Name (wpAny_loadName_free I.ok.kind hk hc hcell fin hcd) hd
theorem pe_int {i j pos} : PE X (.Constant (.int i) j pos) (tC (.int i)) := fun _ _ _ H _ I h => wpAny_Constant_int ⟨.int i, H, I.tok _, ⟨_, rfl⟩, h⟩
theorem pe_bl {b j pos} : PE X (.Constant (.bool b) j pos) (tC (.bl b)) := fun _ _ _ H _ I h => Constant_bool ⟨.bl b, H, I, rfl, h⟩
theorem pe_non {j pos} : PE X (.Constant .none j pos) (tC .non) := fun _ _ _ H _ I h => Constant_none ⟨.non, H, I, rfl, h⟩
theorem pe_str {x j pos} : PE X (.Constant (.str x) j pos) (tC (.str x)) := fun _ _ _ H _ I h => Calls.Constant_str ⟨.str x, H, I.tok _, ⟨_, rfl⟩, h⟩
def Gl (X : Cx) (x : Str) : Prop := X.env.kindOf x = some .globalImplicit
theorem ld_glob {E : Value → Shared → Prop} {pins : List (Addr × Obj)} {s : Shared} {σ : St} {H : Hp} {x : Str} {u : Value} {pos : Pos} {Q : Value → Shared → Prop} (I : Inv X pins σ H s) (hg : Gl X x) (hm : X.mg x = some u) (h : Q u s)
    (hd : (x == ("__debug__" : Str)) = false := by decide) : wpAny (model X.prog X.w) X.A (eval (.Name x pos) X.env) Q E s :=
  Calls.Name_function_global I.ok.kind hg (Calls.loadGlobal_global (by rw [I.ok.glob]; exact I.mod.glob.keeps I.bk) hm h) hd
theorem ld_blt {E : Value → Shared → Prop} {pins : List (Addr × Obj)} {s : Shared} {σ : St} {H : Hp} {x : Str} {u : Value} {pos : Pos} {Q : Value → Shared → Prop} (I : Inv X pins σ H s) (hg : Gl X x) (hm : X.mg x = none) (hv : bootBuiltins x = some u) (h : Q u s)
    (hn : x ≠ "__name__" := by decide) (hd : (x == ("__debug__" : Str)) = false := by decide) : wpAny (model X.prog X.w) X.A (eval (.Name x pos) X.env) Q E s := by
  obtain ⟨mb, h1, h2⟩ := I.mod.blt
  exact Calls.Name_function_global I.ok.kind hg (Calls.loadGlobal_builtin (by rw [I.ok.glob]; exact I.mod.glob.keeps I.bk) hm (by rw [I.ok.blt]; exact h1.keeps I.bk) ((h2 x hn).trans hv) h) hd
theorem pe_glob {x : Str} {v : V} {u : Value} {pos : Pos} (hg : Gl X x) (hm : X.mg x = some u) (r : RelV v u) (hd : (x == ("__debug__" : Str)) = false := by decide) : PE X (.Name x pos) (tC v) :=
  fun _ _ _ H _ I h => ld_glob I hg hm ⟨v, H, I, r, h⟩ hd
theorem pe_bltn {x : Str} {v : V} {u : Value} {pos : Pos} (hg : Gl X x) (hm : X.mg x = none) (hv : bootBuiltins x = some u) (r : RelV v u) (hn : x ≠ "__name__" := by decide) (hd : (x == ("__debug__" : Str)) = false := by decide) : PE X (.Name x pos) (tC v) :=
  fun _ _ _ H _ I h => ld_blt I hg hm hv ⟨v, H, I, r, h⟩ hn hd
variable {a b : Expr} {ta tb : TE} {pos : Pos}
def tB (t : TE) : TT := fun σ H Q => t σ H fun x H1 => ∃ c, x = .bl c ∧ Q c H1
theorem pt_val {e : Expr} {t : TE} (h : PE X e t) (he : ∀ whole, isTrue e X.env whole = (do let v ← whole; standAt e.pos; holding [v] (truthy v)) := by intro _; rfl) : PT X e (tB t) := by
  intro pins s σ H Q I hw
  refine isTrue_plain (thn (h pins s σ H _ I hw) fun v s1 ⟨x, H1, I1, r1, q1⟩ => ?_) (he _)
  obtain ⟨d, rfl, q⟩ := q1
  cases r1
  exact wpAny_truthy_bool ⟨H1, I1, q⟩
variable {tA tB' : TT} {rest : List Expr}
def tOr (t u : TT) : TT := fun σ H Q => t σ H fun c H1 => if c = true then Q true H1 else u σ H1 Q
def tNot (t : TT) : TT := fun σ H Q => t σ H fun c H1 => Q (!c) H1
theorem pw_or1 (ha : PT X a tA) : PW X (.BoolOp .Or [a] pos) tA := by
  intro wh pins s σ H Q I h
  refine isTrue_or (thn (ha pins s σ H Q I h) fun c s1 e => ?_)
  cases c with
  | false => exact isTrue_or_nil e
  | true => exact e
theorem pw_or (ha : PT X a tA) (hb : PW X (.BoolOp .Or (b :: rest) pos) tB') : PW X (.BoolOp .Or (a :: b :: rest) pos) (tOr tA tB') := by
  intro wh pins s σ H Q I h
  refine isTrue_or (thn (ha pins s σ H _ I h) fun c s1 ⟨H1, I1, q1⟩ => ?_)
  cases c with
  | true => exact ⟨H1, I1, q1⟩
  | false => exact hb wh pins s1 σ H1 Q I1 q1
theorem pt_not (ha : PT X a tA) : PT X (.UnaryOp .Not a pos) (tNot tA) := by
  intro pins s σ H Q I h
  exact isTrue_not (ha pins s σ H (fun c H1 => Q (!c) H1) I h)
def tAndV (ta tb : TE) : TE := fun σ H Q => ta σ H fun x H1 => ∃ c, x = .bl c ∧ if c = true then tb σ H1 Q else Q (.bl false) H1
def tNotV (ta : TE) : TE := fun σ H Q => ta σ H fun x H1 => ∃ c, x = .bl c ∧ Q (.bl (!c)) H1
theorem pe_one {op} {t : TE} (h : PE X a t) : PE X (.BoolOp op [a] pos) t := fun pins s σ H Q I hw => BoolOp_one (h pins s σ H Q I hw)
theorem pe_and (ha : PE X a ta) (hb : PE X (.BoolOp .And (b :: rest) pos) tb) : PE X (.BoolOp .And (a :: b :: rest) pos) (tAndV ta tb) := by
  intro pins s σ H Q I h
  refine BoolOp_and (thn (ha pins s σ H _ I h) fun v s1 ⟨x, H1, I1, r1, q1⟩ => ?_)
  obtain ⟨c, rfl, q1⟩ := q1
  cases r1
  refine wpAny_truthy_bool ?_
  cases c with
  | true => exact hb pins s1 σ H1 Q I1 q1
  | false => exact ⟨.bl false, H1, I1, rfl, q1⟩
theorem pe_not (ha : PE X a ta) : PE X (.UnaryOp .Not a pos) (tNotV ta) := by
  intro pins s σ H Q I h
  refine UnaryOp_ (thn (ha pins s σ H _ I h) fun v s1 ⟨x, H1, I1, r1, q1⟩ => ?_)
  obtain ⟨c, rfl, q1⟩ := q1
  cases r1
  exact not_of (wpAny_truthy_bool ⟨.bl (!c), H1, I1, rfl, q1⟩)
end
end L2
namespace L2
open PySem PySem.Spec PyProof.Rows
def SqL (K : PySem.W.Frag) (H : Hp) (a : Addr) (xs : List V) : Prop :=
  Rd H a (.lst xs) ∨
    ∃ (o : Obj) (its : Array Value) (n : Nat), K.lookup a = some o ∧ o.cls = .type "list" ∧ o.dict = none ∧ o.data = .seq its n ∧ its.size ≤ sizeLine ∧ Vals xs its.toList
def SqT (K : PySem.W.Frag) (H : Hp) (a : Addr) (xs : List V) : Prop :=
  Rd H a (.tup xs) ∨
    ∃ (o : Obj) (its : Array Value) (n : Nat), K.lookup a = some o ∧ o.cls = .type "tuple" ∧ o.data = .seq its n ∧ its.size ≤ sizeLine ∧ Vals xs its.toList
def absV : Value → Option V
  | .none => some .non
  | .bool b => some (.bl b)
  | .int i _ => some (.int i)
  | .str x _ => some (.str x)
  | .bytes b _ => some (.byt b)
  | .float b _ => some (.flt b)
  | .ref a => some (.ref a)
  | .type n => some (.ty n)
  | _ => none
theorem RelV.abs {x : V} {u : Value} (r : RelV x u) : absV u = some x := by
  cases x with
  | non => cases r; rfl
  | bl _ => cases r; rfl
  | int _ => obtain ⟨t, rfl⟩ := r; rfl
  | str _ => obtain ⟨t, rfl⟩ := r; rfl
  | byt _ => obtain ⟨t, rfl⟩ := r; rfl
  | flt _ => obtain ⟨t, rfl⟩ := r; rfl
  | ref _ => cases r; rfl
  | ty _ => cases r; rfl
theorem RelV.inj {x y : V} {u : Value} (r : RelV x u) (q : RelV y u) : x = y := Option.some.inj (r.abs.symm.trans q.abs)
theorem Vals.inj : ∀ {xs ys : List V} {us : List Value}, Vals xs us → Vals ys us → xs = ys
  | _, _, _, .nil, .nil => rfl
  | _, _, _, .cons r t, .cons r' t' => by rw [r.inj r', Vals.inj t t']
section
variable {X : Cx} {pins : List (Addr × Obj)} {σ : St} {H : Hp} {s : Shared} {a : Addr} {xs ys : List V}
theorem SqL.of {K : PySem.W.Frag} (h : H a = some (.lst xs)) : SqL K H a xs := .inl (.inl h)
theorem SqT.of {K : PySem.W.Frag} (h : H a = some (.tup xs)) : SqT K H a xs := .inl (.inl h)
theorem Inv.list (I : Inv X pins σ H s) (h : SqL X.K H a xs) : ∃ its : List Value, Vals xs its ∧ PlainL s.heap a its.toArray ∧ xs.length ≤ sizeLine := by
  rcases h with h | ⟨o, its, n, hk, hc, hd, hs, hz, r⟩
  · obtain ⟨z, its, n, r, e⟩ := h.ok I.hok
    exact ⟨its, r, ⟨_, n, e, rfl, rfl, rfl⟩, z⟩
  · refine ⟨its.toList, r, ⟨o, n, I.kIn a o hk, hc, hd, by simpa using hs⟩, ?_⟩
    have e := r.length
    simp only [Array.length_toList] at e
    omega
theorem Inv.tuple (I : Inv X pins σ H s) (h : SqT X.K H a xs) : ∃ its : List Value, Vals xs its ∧ IsTup s.heap a its.toArray ∧ xs.length ≤ sizeLine := by
  rcases h with h | ⟨o, its, n, hk, hc, hs, hz, r⟩
  · obtain ⟨z, its, r, p⟩ := h.ok I.hok
    exact ⟨its, r, p, z⟩
  · refine ⟨its.toList, r, ⟨o, I.kIn a o hk, hc, n, by simpa using hs⟩, ?_⟩
    have e := r.length
    simp only [Array.length_toList] at e
    omega
theorem Inv.list_inj (I : Inv X pins σ H s) (h : SqL X.K H a xs) (h' : SqL X.K H a ys) : xs = ys := by
  obtain ⟨its, r, ⟨o, n, e, _, _, d⟩, _⟩ := I.list h
  obtain ⟨its', r', ⟨o', n', e', _, _, d'⟩, _⟩ := I.list h'
  rw [e] at e'; cases e'
  rw [d] at d'
  injection d' with d1 _
  have : its = its' := by simpa using congrArg Array.toList d1
  subst this
  exact r.inj r'
theorem Inv.tuple_inj (I : Inv X pins σ H s) (h : SqT X.K H a xs) (h' : SqT X.K H a ys) : xs = ys := by
  obtain ⟨its, r, ⟨o, e, _, n, d⟩, _⟩ := I.tuple h
  obtain ⟨its', r', ⟨o', e', _, n', d'⟩, _⟩ := I.tuple h'
  rw [e] at e'; cases e'
  rw [d] at d'
  injection d' with d1 _
  have : its = its' := by simpa using congrArg Array.toList d1
  subst this
  exact r.inj r'
end
abbrev Cx.wish (X : Cx) (E : Value → Shared → Prop) : Cx := { X with xe := E }
theorem Cx.Ok.wish {X : Cx} (ok : X.Ok) (E : Value → Shared → Prop) : (X.wish E).Ok :=
  ⟨ok.mod, ok.kind, ok.glob, ok.blt, ok.above, ok.inj, ok.has, ok.cab, ok.hd, ok.frames, ok.stk, ok.exf, ok.bs, ok.bsz, ok.noex, ok.exfs, ok.funs, ok.frf⟩
theorem Cx.Ok.unwish {X : Cx} {E : Value → Shared → Prop} (ok : (X.wish E).Ok) : X.Ok :=
  ⟨ok.mod, ok.kind, ok.glob, ok.blt, ok.above, ok.inj, ok.has, ok.cab, ok.hd, ok.frames, ok.stk, ok.exf, ok.bs, ok.bsz, ok.noex, ok.exfs, ok.funs, ok.frf⟩
section
variable {X : Cx} {pins : List (Addr × Obj)} {σ : St} {H : Hp} {s : Shared} {E : Value → Shared → Prop}
theorem Inv.wish (I : Inv X pins σ H s) (E : Value → Shared → Prop) : Inv (X.wish E) pins σ H s := ⟨I.ok.wish E, I.os, I.bare, I.base, I.loc, I.cell, I.free, I.freeC, I.pin, I.hok, I.len⟩
theorem Inv.unwish (I : Inv (X.wish E) pins σ H s) : Inv X pins σ H s := ⟨I.ok.unwish, I.os, I.bare, I.base, I.loc, I.cell, I.free, I.freeC, I.pin, I.hok, I.len⟩
theorem SP.unwish {D : Ends} {f : Flow} {s' : Shared} (h : SP (X.wish E) pins D f s') : SP X pins D f s' := by
  cases f with
  | next => obtain ⟨σ', H', I, q⟩ := h; exact ⟨σ', H', I.unwish, q⟩
  | brk => obtain ⟨σ', H', I, q⟩ := h; exact ⟨σ', H', I.unwish, q⟩
  | cont => obtain ⟨σ', H', I, q⟩ := h; exact ⟨σ', H', I.unwish, q⟩
  | ret u => obtain ⟨v, σ', H', I, r, q⟩ := h; exact ⟨v, σ', H', I.unwish, r, q⟩
end
section
variable {X : Cx} {st : Stmt} {rest : List Stmt} {t u : TS} {e : Expr} {te : TE} {pos : Pos}
def tNext : TS := fun D σ H => D.nx σ H
def tSeq (t u : TS) : TS := fun D σ H => t { D with nx := u D } σ H
theorem pss_nil : PSs X [] tNext := fun _ _ σ H _ I h => wpAny_execs_nil ⟨σ, H, I, h⟩
theorem pss_cons (h1 : PS X st t) (h2 : PSs X rest u) : PSs X (st :: rest) (tSeq t u) := by
  intro pins s σ H D I h
  refine wpAny_execs_cons (thn (h1 pins s σ H { D with nx := u D } I h) fun f s1 q => ?_)
  cases f with
  | next =>
    obtain ⟨σ', H', I', q⟩ := q
    exact h2 pins s1 σ' H' D I' q
  | ret v => exact q
  | brk => exact q
  | cont => exact q
theorem pss_one (h1 : PS X st t) : PSs X [st] t := by
  intro pins s σ H D I h
  refine wpAny_execs_cons (thn (h1 pins s σ H D I h) fun f s1 q => ?_)
  cases f with
  | next => exact wpAny_execs_nil q
  | ret v => exact q
  | brk => exact q
  | cont => exact q
theorem Inv.quiet {pins : List (Addr × Obj)} {σ : St} {H : Hp} {s : Shared} (I : Inv X pins σ H s) : interactive X.env = false := by simp [interactive, I.ok.kind]
def tDrop (te : TE) : TS := fun D σ H => te σ H fun _ H1 => D.nx σ H1
theorem ps_expr (he : PE X e te) (hs : swapsWith e none pos.line X.env = pure false := by rfl) : PS X (.Expr e pos) (tDrop te) := by
  intro pins s σ H D I h
  exact wpAny_Expr_any (thn (he pins s σ H _ I h) fun v s1 ⟨x, H1, I1, r1, q1⟩ => ⟨σ, H1, I1, q1⟩) I.quiet hs
def tRet (te : TE) : TS := fun D σ H => te σ H D.rt
theorem ps_ret (he : PE X e te) : PS X (.Return (some e) pos) (tRet te) := by
  intro pins s σ H D I h
  exact wpAny_Return_some (thn (he pins s σ H _ I h) fun v s1 ⟨x, H1, I1, r1, q1⟩ => ⟨x, σ, H1, I1, r1, q1⟩)
def tIfS (c : TT) (t u : TS) : TS := fun D σ H => c σ H fun b H1 => if b = true then t D σ H1 else u D σ H1
theorem ps_if {c : Expr} {a b : List Stmt} {tc : TT} (hc : PT X c tc) (ha : PSs X a t) (hb : PSs X b u) : PS X (.If c a b pos) (tIfS tc t u) := by
  intro pins s σ H D I h
  refine wpAny_If (thn (hc pins s σ H _ I h) fun d s1 ⟨H1, I1, q1⟩ => ?_)
  cases d with
  | true => exact ha pins s1 σ H1 D I1 q1
  | false => exact hb pins s1 σ H1 D I1 q1
end
abbrev TG := V → St → Hp → (St → Hp → Prop) → Prop
abbrev TGs := List V → St → Hp → (St → Hp → Prop) → Prop
def PG (X : Cx) (target : Expr) (t : TG) : Prop :=
  ∀ (pins : List (Addr × Obj)) (s : Shared) (σ : St) (H : Hp) (v : V) (u : Value) (Q : St → Hp → Prop), Inv X pins σ H s → RelV v u → t v σ H Q →
    wpAny (model X.prog X.w) X.A (assign target X.env u) (fun _ s' => ∃ σ' H', Inv X pins σ' H' s' ∧ Q σ' H') X.xe s
def PGs (X : Cx) (ts : List Expr) (t : TGs) : Prop :=
  ∀ (pins : List (Addr × Obj)) (s : Shared) (σ : St) (H : Hp) (vs : List V) (us : List Value) (Q : St → Hp → Prop), Inv X pins σ H s → Vals vs us → t vs σ H Q →
    wpAny (model X.prog X.w) X.A (assignInOrder ((assignEach ts X.env).map (·.2)) us) (fun _ s' => ∃ σ' H', Inv X pins σ' H' s' ∧ Q σ' H') X.xe s
abbrev TSet := V → V → V → Hp → (Hp → Prop) → Prop
def PSet (X : Cx) (t : TSet) : Prop :=
  ∀ (pins : List (Addr × Obj)) (s : Shared) (σ : St) (H : Hp) (o i v : V) (ov iv u : Value) (Q : Hp → Prop), Inv X pins σ H s → RelV o ov → RelV i iv → RelV v u → t o i v H Q →
    wpAny (model X.prog X.w) X.A (setItem ov iv u) (fun _ s' => ∃ H', Inv X pins σ H' s' ∧ Q H') X.xe s
section
variable {X : Cx} {pos : Pos}
def gName (i : Nat) : TG := fun v σ H Q => Q (σ.set i (some v)) H
theorem pg_name {i : Nat} {x : Str} (hN : X.N.Nodup) (hi : X.N[i]? = some x) (hx : Loc X.env.scope x) (hf : X.fn x = true ∨ X.env.scope.names.lookup x = some .local := by first | exact .inl rfl | exact .inr rfl | assumption) : PG X (.Name x pos) (gName i) := by
  intro pins s σ H v u Q I r h
  exact wpAny_assign_Name (store_ok I hN hi hx r (fun s' I' => ⟨_, H, I', h⟩) hf)
def gNil : TGs := fun vs σ H Q => vs = [] ∧ Q σ H
def gCons (t : TG) (u : TGs) : TGs := fun vs σ H Q => ∃ v r, vs = v :: r ∧ t v σ H fun σ' H' => u r σ' H' Q
theorem pgs_nil : PGs X [] gNil := by
  intro pins s σ H vs us Q I r h
  obtain ⟨e, h⟩ := h
  subst e
  cases r
  exact assignInOrder_nil ⟨σ, H, I, h⟩
theorem pgs_cons {e : Expr} {es : List Expr} {t : TG} {u : TGs} (h1 : PG X e t) (h2 : PGs X es u)
    (hs : (assignEach (e :: es) X.env).map (·.2) = assign e X.env :: (assignEach es X.env).map (·.2) := by rfl) : PGs X (e :: es) (gCons t u) := by
  intro pins s σ H vs us Q I r h
  obtain ⟨v, vr, e1, h⟩ := h
  subst e1
  cases r with
  | cons r rr =>
    rw [hs]
    refine assignInOrder_cons (thn (h1 pins s σ H _ _ _ I r h) fun _ s1 ⟨σ1, H1, I1, q1⟩ => ?_)
    exact h2 pins s1 σ1 H1 _ _ Q I1 rr q1
def gTup (K : PySem.W.Frag) (n : Nat) (t : TGs) : TG := fun v σ H Q => ∃ a xs, v = .ref a ∧ SqT K H a xs ∧ xs.length = n ∧ t xs σ H Q
theorem pg_tup {es : List Expr} {k : Nat} {t : TGs} {n : Nat} (hc : X.calm = true) (h : PGs X es t)
    (hn : (assignEach es X.env).length = n := by rfl) (hst : (assignEach es X.env).findIdx? (·.1) = none := by rfl) : PG X (.Tuple es k pos) (gTup X.K n t) := by
  intro pins s σ H v u Q I r hw
  obtain ⟨a, xs, e1, hq, hl, hw⟩ := hw
  subst e1
  cases r
  obtain ⟨its, rv, ht, hz⟩ := I.tuple hq
  refine assign_Tuple_tuple (I.ok.hd hc) ht (by simp [hn, ← hl, rv.length]) hst fun h' hx => ?_
  have I1 : Inv X pins σ H { s with heap := h' } := I.kept (t' := s.toks) fun b o e => hx b o (Nat.ne_of_lt (Heap.lt_size e)) e
  exact h pins _ σ H xs _ Q I1 (by simpa using rv) hw
def gSub (to ti : TE) (t : TSet) : TG := fun v σ H Q => to σ H fun o H1 => ti σ H1 fun i H2 => t o i v H2 fun H3 => Q σ H3
theorem pg_sub {o i : Expr} {to ti : TE} {t : TSet} (ho : PE X o to) (hi : PE X i ti) (hs : PSet X t)
    (ha : ∀ v, assign (.Subscript o i pos) X.env v = (do
      let ov ← holding [v] (eval o X.env)
      let iv ← holding [v, ov] (eval i X.env)
      standAt pos
      holding [v, ov, iv] (setItem ov iv v)
      release [v, ov, iv] []) := by intro _; rfl) : PG X (.Subscript o i pos) (gSub to ti t) := by
  intro pins s σ H v u Q I r h
  rw [ha]
  refine wpAny_bind (wpAny_holding (thn (ho pins s σ H _ I h) fun ov s1 ⟨x, H1, I1, r1, q1⟩ => ?_))
  refine wpAny_bind (wpAny_holding (thn (hi pins s1 σ H1 _ I1 q1) fun iv s2 ⟨y, H2, I2, r2, q2⟩ => ?_))
  refine wpAny_bind (wpAny_standAt (wpAny_bind (wpAny_holding (thn (hs pins s2 σ H2 x y v ov iv u _ I2 r1 r2 r q2) fun _ s3 ⟨H3, I3, q3⟩ => ?_))))
  exact wpAny_release ⟨σ, H3, I3, q3⟩
def tAsg (te : TE) (g : TG) : TS := fun D σ H => te σ H fun x H1 => g x σ H1 D.nx
theorem ps_asg {tg e : Expr} {te : TE} {g : TG} (he : PE X e te) (hg : PG X tg g) (hs : swapsWithSole [tg] e pos.line X.env = pure false := by rfl) (hw : swappedStores [tg] e X.env = pure none := by rfl)
    (h1 : (assignEach [tg] X.env).map (·.2) = [assign tg X.env] := by rfl) : PS X (.Assign [tg] e pos) (tAsg te g) := by
  intro pins s σ H D I h
  refine wpAny_Assign_stores (thn (he pins s σ H _ I h) fun v s1 ⟨x, H1, I1, r1, q1⟩ => ?_) hs hw
  rw [h1]
  exact thn (hg pins s1 σ H1 x v _ I1 r1 q1) fun _ s2 q => q
theorem ps_set {i : Nat} {x : Str} {e : Expr} {te : TE} {pos' : Pos} (hN : X.N.Nodup) (hi : X.N[i]? = some x) (hx : Loc X.env.scope x) (he : PE X e te) (hs : swapsWith e (some (.Name x pos')) pos.line X.env = pure false := by rfl) (hf : X.fn x = true ∨ X.env.scope.names.lookup x = some .local := by first | exact .inl rfl | exact .inr rfl | assumption) :
    PS X (.Assign [.Name x pos'] e pos) (tAsg te (gName i)) := by
  intro pins s σ H D I h
  refine wpAny_Assign_Name (thn (he pins s σ H _ I h) fun v s1 ⟨y, H1, I1, r1, q1⟩ => ?_) hs
  exact store_ok I1 hN hi hx r1 (fun s2 I2 => ⟨_, H1, I2, q1⟩) hf
def tPar (i j : Nat) (ta : TA) : TS := fun D σ H => ta σ H fun vs H1 => ∃ v w, vs = [v, w] ∧ D.nx ((σ.set i (some v)).set j (some w)) H1
theorem ps_par {i j : Nat} {x y : Str} {a b : Expr} {ta : TA} {px py pt : Pos} {kt k2 pt2} (hc : X.calm = true) (hN : X.N.Nodup) (hi : X.N[i]? = some x) (hj : X.N[j]? = some y) (hij : i ≠ j)
    (hx : X.env.scope.names.lookup x = some .local) (hy : X.env.scope.names.lookup y = some .local) (ha : PA X [a, b] ta)
    (hw : swappedStores [.Tuple [.Name x px, .Name y py] kt pt] (.Tuple [a, b] k2 pt2) X.env = pure (some [x, y]))
    (hs : swapsWithSole [.Tuple [.Name x px, .Name y py] kt pt] (.Tuple [a, b] k2 pt2) pos.line X.env = pure false := by rfl) :
    PS X (.Assign [.Tuple [.Name x px, .Name y py] kt pt] (.Tuple [a, b] k2 pt2) pos) (tPar i j ta) := by
  intro pins s σ H D I h
  rw [exec_Assign_arm]
  refine wpAny_bind (wpAny_standAt ?_)
  rw [hs]
  refine wpAny_bind (wpAny_pure ?_)
  rw [if_neg (by decide)]
  refine wpAny_bind (Tuple_ (thn (ha _ pins s σ H _ I h) fun us s1 ⟨vs, H1, I1, r1, q1⟩ => ?_))
  obtain ⟨v, w, e1, q1⟩ := q1
  subst e1
  obtain ⟨u1, u2, rfl, rv, rw'⟩ : ∃ u1 u2, us = [u1, u2] ∧ RelV v u1 ∧ RelV w u2 := by
    cases r1 with
    | cons p q =>
      cases q with
      | cons p' q' =>
        cases q'
        exact ⟨_, _, rfl, p, p'⟩
  refine wpAny_newObj_type ?_ (by show 2 ≤ sizeLine; decide)
  have I2 : Inv X pins σ H1 { s1 with heap := s1.heap.push { cls := .type "tuple", data := .seq [u1, u2].toArray } } := I1.kept (t' := s1.toks) fun b o e => Heap.get?_push_of_some _ e
  rw [hw]
  refine wpAny_bind (wpAny_pure ?_)
  show wpAny (model X.prog X.w) X.A (do rule "assign.swapped-stores"; let items ← unpackItems (.ref s1.heap.objs.size) 2 none; assignInOrder [fun v => bindName X.env y v, fun v => bindName X.env x v] items.reverse; pure Flow.next) _ _ _
  refine wpAny_bind (wpAny_rule (wpAny_bind (unpackItems_tuple (items := #[u1, u2]) (I.ok.hd hc) (IsTup.new s1.heap _) fun h' hx' => ?_)))
  have I3 := I2.kept (h' := h') (t' := s1.toks) fun b o e => hx' b o (Nat.ne_of_lt (Heap.lt_size e)) e
  show wpAny _ _ (assignInOrder [fun v => bindName X.env y v, fun v => bindName X.env x v] [u2, u1] >>= fun _ => pure Flow.next) _ _ _
  refine wpAny_bind (assignInOrder_cons (wpAny_bindName (store_ok I3 hN hj (.inl hy) rw' (fun s2 I4 => ?_) (.inr hy))))
  refine assignInOrder_cons (wpAny_bindName (store_ok I4 hN hi (.inl hx) rv (fun s3 I5 => assignInOrder_nil (wpAny_pure ?_)) (.inr hx)))
  rw [List.set_comm _ _ (Ne.symm hij)] at I5
  exact ⟨_, H1, I5, q1⟩
end
section
variable {X : Cx} {pos : Pos}
def tWhile (c : TT) (tb : TS) : TS := fun D σ H => ∃ W : Nat → St → Hp → Prop, (∃ m, W m σ H) ∧ ∀ m σ H, W m σ H →
  c σ H fun b H1 => if b = true then ∃ N : St → Hp → Prop, (∀ σ' H', N σ' H' → ∃ m', m' < m ∧ W m' σ' H') ∧ tb { D with nx := N, ct := N, bk := D.nx } σ H1 else D.nx σ H1
theorem ps_while {c : Expr} {body : List Stmt} {tc : TT} {tb : TS} (hp : PassesOwn (model X.prog X.w) X.A X.env X.xe) (hc : PT X c tc) (hb : PSs X body tb) : PS X (.While c body [] pos) (tWhile tc tb) := by
  intro pins s σ H D I h
  obtain ⟨W, ⟨m0, w0⟩, turn⟩ := h
  refine wpAny_While (codeAny_whileLoop (fun n s' => ∃ σ' H', Inv X pins σ' H' s' ∧ W n σ' H') ?_ m0 ⟨σ, H, I, w0⟩)
  rintro n s1 ⟨σ1, H1, I1, w1⟩
  refine wpAny_passesOwn hp (thn (hc pins s1 σ1 H1 _ I1 (turn n σ1 H1 w1)) fun b s2 ⟨H2, I2, q2⟩ => ?_)
  cases b with
  | true =>
    obtain ⟨N, hN, q2⟩ := q2
    rw [if_pos rfl]
    refine wpAny_passesOwn hp (thn (hb pins s2 σ1 H2 _ I2 q2) fun f s3 q3 => ?_)
    cases f with
    | next =>
      obtain ⟨σ3, H3, I3, n3⟩ := q3
      obtain ⟨m', hm, w3⟩ := hN σ3 H3 n3
      exact ⟨m', hm, σ3, H3, I3, w3⟩
    | cont =>
      obtain ⟨σ3, H3, I3, n3⟩ := q3
      obtain ⟨m', hm, w3⟩ := hN σ3 H3 n3
      exact ⟨m', hm, σ3, H3, I3, w3⟩
    | brk => exact q3
    | ret v => exact q3
  | false =>
    rw [if_neg Bool.false_ne_true]
    exact wpAny_execs_nil ⟨σ1, H2, I2, q2⟩
end
structure It where
  go : Nat → Hp → Prop
  yld : Nat → Hp → V → Hp → Prop
  stop : Nat → Hp → Prop
def FpOk (X : Cx) (pins : List (Addr × Obj)) (H : Hp) (b : Addr) : Prop :=
  H b = none ∧ b ≠ X.env.locals ∧ b ∉ X.fs ∧ (b ∈ X.ex ∨ X.s₀.heap.objs.size ≤ b) ∧ (∀ x c, X.env.cells.lookup x = some c → c ≠ b) ∧ ∀ p ∈ X.pn ++ pins, p.1 ≠ b
theorem Inv.fpOk {X : Cx} {pins : List (Addr × Obj)} {σ : St} {H H' : Hp} {s : Shared} {b : Addr} (I : Inv X pins σ H s) (hb : s.heap.objs.size ≤ b) (hn : H' b = none) : FpOk X pins H' b := by
  refine ⟨hn, Nat.ne_of_gt (Nat.lt_of_lt_of_le I.lt hb), I.nofs hb, .inr (Nat.le_trans I.sz hb), fun x c e z => ?_, fun p hp z => ?_⟩
  · obtain ⟨v, q⟩ := I.cell x c e
    exact absurd (Nat.lt_of_lt_of_le q.lt (by rw [z]; exact hb)) (Nat.lt_irrefl _)
  · exact absurd (Nat.lt_of_lt_of_le (Heap.lt_size (I.pin p hp).1) (by rw [z]; exact hb)) (Nat.lt_irrefl _)
structure Turn (P : Program) (w : World) (K : PySem.W.Frag) (tg : Expr) (J : It) (fp : List Addr) (it : Addr) (tn : Nat → Heap → Prop) : Prop where
  mem : it ∈ fp
  obj : ∀ i h, tn i h → ∀ b ∈ fp, ∃ o, h.get? b = some o ∧ ∀ v, o.data ≠ .cell v
  keep : ∀ i h h', tn i h → (∀ b ∈ fp, ∀ o, h.get? b = some o → h'.get? b = some o) → tn i h'
  item : ∀ (X : Cx), X.prog = P → X.w = w → X.K = K → X.calm = true → ∀ (i : Nat) (pins : List (Addr × Obj)) (s : Shared) (σ : St) (H : Hp) (E : Value → Shared → Prop), Inv X pins σ H s → (∀ b ∈ fp, FpOk X pins H b) → tn i s.heap → J.go i H →
    wpAny (model P w) X.A (pyNext (.ref it)) (fun r s1 => ∃ u, r = some u ∧
      wpAny (model P w) X.A (letOwnedTupleGo tg (.ref it) u) (fun _ s2 => ∃ x H', Inv X pins σ H' s2 ∧ RelV x u ∧ J.yld i H x H' ∧ tn (i + 1) s2.heap ∧ ∀ b ∈ fp, H' b = none) E s1) E s
  done : ∀ (X : Cx), X.prog = P → X.w = w → X.K = K → X.calm = true → ∀ (i : Nat) (pins : List (Addr × Obj)) (s : Shared) (σ : St) (H : Hp) (E : Value → Shared → Prop), Inv X pins σ H s → (∀ b ∈ fp, FpOk X pins H b) → tn i s.heap → J.stop i H →
    wpAny (model P w) X.A (pyNext (.ref it)) (fun r s1 => r = none ∧ Inv X pins σ H s1) E s
  self : ∀ (A : Around) (i : Nat) (s : Shared) (Q : Value → Shared → Prop) (E : Value → Shared → Prop), tn i s.heap → Q (.ref it) s → wpAny (model P w) A (pyIter (.ref it)) Q E s
abbrev TI := St → Hp → (It → Hp → Prop) → Prop
def PIE (X : Cx) (pins : List (Addr × Obj)) (σ : St) (tg : Expr) (R : It → Hp → Prop) (itv : Value) (s2 : Shared) : Prop :=
  ∃ (it : Addr) (fp : List Addr) (tn : Nat → Heap → Prop) (J : It) (H' : Hp), itv = .ref it ∧ Inv X pins σ H' s2 ∧ Turn X.prog X.w X.K tg J fp it tn ∧ tn 0 s2.heap ∧ (∀ b ∈ fp, FpOk X pins H' b) ∧ R J H'
def PI (X : Cx) (tg iter : Expr) (wi : TI) : Prop :=
  ∀ (pins : List (Addr × Obj)) (s : Shared) (σ : St) (H : Hp) (R : It → Hp → Prop), Inv X pins σ H s → wi σ H R →
    wpAny (model X.prog X.w) X.A (eval iter X.env) (fun v s1 => wpAny (model X.prog X.w) X.A (pyIter v) (PIE X pins σ tg R) X.xe s1) X.xe s
theorem go_of {M : Model} {A : Around} {E : Value → Shared → Prop} {s : Shared} {tg : Expr} {it : Addr} {u : Value} {o : Obj} {n : String} {vs : Array Value} {Q : Unit → Shared → Prop} (ho : s.heap.get? it = some o) (hc : o.cls = .type n) (hd : o.data = .fields vs)
    (hn : ["enumerate", "zip", "dict_itemiterator", "dict_reverseitemiterator", "odict_iterator", "itertools.zip_longest", "itertools.pairwise"].contains n = false) (hQ : Q () s) : wpAny M A (letOwnedTupleGo tg (.ref it) u) Q E s := by
  unfold letOwnedTupleGo
  cases tg <;> first
    | exact wpAny_pure hQ
    | (cases u <;> first
        | exact wpAny_pure hQ
        | (refine wpAny_bind (wpAny_load ho ?_)
           rw [hc, hd]
           show wpAny M A (if (["enumerate", "zip", "dict_itemiterator", "dict_reverseitemiterator", "odict_iterator", "itertools.zip_longest", "itertools.pairwise"].contains n && vs[0]? == some (rawInt _)) = true then _ else _) Q E s
           rw [if_neg (by intro h; rw [hn, Bool.false_and] at h; cases h)]
           exact wpAny_pure hQ))
def Itl (K : PySem.W.Frag) (a : Addr) : It :=
  ⟨fun i H => ∃ xs x, SqL K H a xs ∧ xs[i]? = some x, fun i H x H' => H' = H ∧ ∀ xs, SqL K H a xs → xs[i]? = some x, fun i H => ∃ xs, SqL K H a xs ∧ xs.length ≤ i⟩
def Itt (K : PySem.W.Frag) (a : Addr) : It :=
  ⟨fun i H => ∃ xs x, SqT K H a xs ∧ xs[i]? = some x, fun i H x H' => H' = H ∧ ∀ xs, SqT K H a xs → xs[i]? = some x, fun i H => ∃ xs, SqT K H a xs ∧ xs.length ≤ i⟩
def Itr (lo : Int) (n : Nat) : It := ⟨fun i _ => i < n, fun i H x H' => H' = H ∧ x = .int (lo + i), fun i _ => n ≤ i⟩
theorem turn_list {P : Program} {w : World} {K : PySem.W.Frag} {tg : Expr} (a it : Addr) : Turn P w K tg (Itl K a) [it] it (fun i h => h.IsListIter it a i) where
  mem := by simp
  obj := fun i h st b hb => by
    have e : b = it := by simpa using hb
    subst e
    obtain ⟨o, e, c, d⟩ := st
    exact ⟨o, e, fun v z => by rw [d] at z; cases z⟩
  keep := fun i h h' st k => st.at fun o e => k it (by simp) o e
  item := by
    intro X hP hw hK hc i pins s σ H E I hf st hg
    subst hP hw hK
    obtain ⟨xs, x, hq, hx⟩ := hg
    obtain ⟨its, rv, p, hz⟩ := I.list hq
    obtain ⟨u, hu, ru⟩ := rv.get hx
    obtain ⟨f0, f1, f2, f3, f4, f5⟩ := hf it (by simp)
    refine wpAny_pyNext_list_item st p.isList (x := u) (by simpa using hu) fun h' st' sb => ?_
    have I1 : Inv X pins σ H { s with heap := h' } := I.turned (t' := s.toks) (fun b o hb e => (sb.2 b hb).trans e) f0 f1 f3 f4 f5
    obtain ⟨o, e, c, d⟩ := id st'
    exact ⟨u, rfl, go_of (s := { s with heap := h' }) e c d (by decide) ⟨x, H, I1, ru, ⟨rfl, fun ys hy => by rw [I.list_inj hy hq]; exact hx⟩, st', fun b hb => (hf b hb).1⟩⟩
  done := by
    intro X hP hw hK hc i pins s σ H E I hf st hg
    subst hP hw hK
    obtain ⟨xs, hq, hx⟩ := hg
    obtain ⟨its, rv, p, hz⟩ := I.list hq
    obtain ⟨f0, f1, f2, f3, f4, f5⟩ := hf it (by simp)
    have hl := rv.length
    exact wpAny_pyNext_list_end (I.ok.hd hc) st p.isList (by simp; omega) fun h' eb => ⟨rfl, I.turned (t' := s.toks) (fun b o hb e => eb b o hb e) f0 f1 f3 f4 f5⟩
  self := fun _ _ _ _ _ st h => wpAny_pyIter_listiter st h
theorem turn_tuple {P : Program} {w : World} {K : PySem.W.Frag} {tg : Expr} (a it : Addr) : Turn P w K tg (Itt K a) [it] it (fun i h => h.IsTupleIter it a i) where
  mem := by simp
  obj := fun i h st b hb => by
    have e : b = it := by simpa using hb
    subst e
    obtain ⟨o, e, c, d⟩ := st
    exact ⟨o, e, fun v z => by rw [d] at z; cases z⟩
  keep := fun i h h' st k => st.at fun o e => k it (by simp) o e
  item := by
    intro X hP hw hK hc i pins s σ H E I hf st hg
    subst hP hw hK
    obtain ⟨xs, x, hq, hx⟩ := hg
    obtain ⟨its, rv, p, hz⟩ := I.tuple hq
    obtain ⟨u, hu, ru⟩ := rv.get hx
    obtain ⟨f0, f1, f2, f3, f4, f5⟩ := hf it (by simp)
    refine wpAny_pyNext_tuple_item st (show s.heap.IsTuple a its.toArray from p) (x := u) (by simpa using hu) fun h' st' sb => ?_
    have I1 : Inv X pins σ H { s with heap := h' } := I.turned (t' := s.toks) (fun b o hb e => (sb.2 b hb).trans e) f0 f1 f3 f4 f5
    obtain ⟨o, e, c, d⟩ := id st'
    exact ⟨u, rfl, go_of (s := { s with heap := h' }) e c d (by decide) ⟨x, H, I1, ru, ⟨rfl, fun ys hy => by rw [I.tuple_inj hy hq]; exact hx⟩, st', fun b hb => (hf b hb).1⟩⟩
  done := by
    intro X hP hw hK hc i pins s σ H E I hf st hg
    subst hP hw hK
    obtain ⟨xs, hq, hx⟩ := hg
    obtain ⟨its, rv, p, hz⟩ := I.tuple hq
    obtain ⟨f0, f1, f2, f3, f4, f5⟩ := hf it (by simp)
    have hl := rv.length
    exact wpAny_pyNext_tuple_end (I.ok.hd hc) st (show s.heap.IsTuple a its.toArray from p) (by simp; omega) fun h' eb => ⟨rfl, I.turned (t' := s.toks) (fun b o hb e => eb b o hb e) f0 f1 f3 f4 f5⟩
  self := fun _ _ _ _ _ st h => wpAny_pyIter_tupleiter st h
theorem turn_range {P : Program} {w : World} {K : PySem.W.Frag} {tg : Expr} (it : Addr) (lo : Int) (n : Nat) : Turn P w K tg (Itr lo n) [it] it (fun i h => IsRangeIter h it (lo + (i : Nat) * 1) ((n : Int) - (i : Nat)) 1) where
  mem := by simp
  obj := fun i h st b hb => by
    have e : b = it := by simpa using hb
    subst e
    exact ⟨_, st, fun v z => by
      have z' : Data.fields _ = Data.cell v := z
      cases z'⟩
  keep := fun i h h' st k => k it (by simp) _ st
  item := by
    intro X hP hw hK hc i pins s σ H E I hf st hg
    subst hP hw hK
    obtain ⟨f0, f1, f2, f3, f4, f5⟩ := hf it (by simp)
    have W := Walks.range (prog := X.prog) (w := X.w) (I.ok.hd hc) it lo 1 n
    refine W.item i s _ _ hg st fun v h' tk hv st' kk => ?_
    obtain ⟨t, rfl⟩ := hv
    have I1 : Inv X pins σ H { s with heap := h', toks := tk } := I.turned (fun b o hb e => kk b o (by simpa using hb) e) f0 f1 f3 f4 f5
    refine ⟨_, rfl, go_of (s := { s with heap := h', toks := tk }) (n := "range_iterator") st' rfl rfl (by decide) ⟨.int (lo + i), H, I1, ⟨t, ?_⟩, ⟨rfl, rfl⟩, st', fun b hb => (hf b hb).1⟩⟩
    rw [Int.mul_one]
  done := by
    intro X hP hw hK hc i pins s σ H E I hf st hg
    subst hP hw hK
    obtain ⟨f0, f1, f2, f3, f4, f5⟩ := hf it (by simp)
    exact wpAny_pyNext_range_end (I.ok.hd hc) st (by have : n ≤ i := hg; omega) fun h' eb => ⟨rfl, I.turned (t' := s.toks) (fun b o hb e => eb b o hb e) f0 f1 f3 f4 f5⟩
  self := fun _ _ _ _ _ st h => wpAny_pyIter_rangeiter st h
end L2
namespace L2
open PySem PySem.Spec PyProof.Rows
section
variable {X : Cx} {tg : Expr}
theorem range_it {pins : List (Addr × Obj)} {σ : St} {H : Hp} {s : Shared} {R : It → Hp → Prop} {E : Value → Shared → Prop} {lo hi : Int} {t u v : Tok} {tk : Nat} (I : Inv X pins σ H s) (h1 : -(2 ^ 62) ≤ lo) (h2 : lo < 2 ^ 62) (h3 : -(2 ^ 62) ≤ hi) (h4 : hi < 2 ^ 62)
    (q : R (Itr lo (hi - lo).toNat) H) : wpAny (model X.prog X.w) X.A (pyIter (.ref s.heap.objs.size)) (PIE X pins σ tg R) E { s with heap := s.heap.push { cls := .type "range", data := .fields #[.int lo t, .int hi u, .int 1 v] }, toks := tk } := by
  refine wpAny_pyIter_range (IsRange.new ..) (small_one h1 h2 h3 h4) ?_
  have I1 : Inv X pins σ H { s with heap := s.heap.push { cls := .type "range", data := .fields #[.int lo t, .int hi u, .int 1 v] }, toks := tk } := I.kept fun b o e => Heap.get?_push_of_some _ e
  refine ⟨(s.heap.push { cls := .type "range", data := .fields #[.int lo t, .int hi u, .int 1 v] }).objs.size, [(s.heap.push { cls := .type "range", data := .fields #[.int lo t, .int hi u, .int 1 v] }).objs.size], _, _, H, rfl,
    I1.kept (t' := tk) fun b o e => Heap.get?_push_of_some _ e, turn_range _ lo (hi - lo).toNat, ?_, fun b hb => ?_, q⟩
  · have e1 : lo + ((0 : Nat) : Int) * 1 = lo := by simp
    have e2 : (((hi - lo).toNat : Nat) : Int) - ((0 : Nat) : Int) = Builtin.Range.rangeSize lo hi 1 := by rw [rangeSize_one]; split <;> omega
    show IsRangeIter _ _ (lo + ((0 : Nat) : Int) * 1) ((((hi - lo).toNat : Nat) : Int) - ((0 : Nat) : Int)) 1
    rw [e1, e2]
    exact Heap.get?_push_size _ rfl
  · have e : b = (s.heap.push { cls := .type "range", data := .fields #[.int lo t, .int hi u, .int 1 v] }).objs.size := by simpa using hb
    subst e
    exact I1.fpOk (Nat.le_refl _) (I1.hok.fresh (Nat.le_refl _))
def iRng1 (ta : TA) : TI := fun σ H R => ta σ H fun vs H1 => ∃ j : Int, vs = [.int j] ∧ -(2 ^ 62) ≤ j ∧ j < 2 ^ 62 ∧ R (Itr 0 j.toNat) H1
theorem pi_range1 {a : Expr} {ta : TA} {p pos : Pos} (hg : Gl X "range") (hm : X.mg "range" = none) (ha : PA X [a] ta) (hs : starEach [a] X.env = [(false, eval a X.env)] := by rfl) : PI X tg (.Call (.Name "range" p) [a] [] pos) (iRng1 ta) := by
  intro pins s σ H R I h
  refine Call_ (ld_blt I hg hm boot_range (PyProof.Rows.callWith_type1 (thn (ha pos pins s σ H _ I h) fun us s1 ⟨vs, H1, I1, r1, q1⟩ => ?_) hs rfl))
  obtain ⟨j, e, q1, q2, q⟩ := q1
  subst e
  cases r1 with
  | cons r rr =>
    cases rr
    obtain ⟨t, rfl⟩ := r
    exact call_range_1 (range_it I1 (by omega) (by omega) q1 q2 (by simpa using q))
def tFor (wi : TI) (g : TG) (tb : TS) : TS := fun D σ H => wi σ H fun J H1 => ∃ W : Nat → Nat → St → Hp → Prop, (∃ m, W 0 m σ H1) ∧ ∀ i m σ H, W i m σ H →
  (J.stop i H ∧ D.nx σ H) ∨ (J.go i H ∧ ∃ N : St → Hp → Prop, (∀ σ' H', N σ' H' → ∃ m', m' < m ∧ W (i + 1) m' σ' H') ∧ ∀ x H', J.yld i H x H' → g x σ H' fun σ2 H2 => tb { D with nx := N, ct := N, bk := D.nx } σ2 H2)
def pinsAt (fp : List Addr) (h : Heap) : List (Addr × Obj) := fp.filterMap fun b => (h.get? b).map fun o => (b, o)
theorem mem_pinsAt {fp : List Addr} {h : Heap} {b : Addr} {o : Obj} (hb : b ∈ fp) (e : h.get? b = some o) : (b, o) ∈ pinsAt fp h := List.mem_filterMap.mpr ⟨b, hb, by rw [e]; rfl⟩
theorem of_pinsAt {fp : List Addr} {h : Heap} {p : Addr × Obj} (hp : p ∈ pinsAt fp h) : p.1 ∈ fp ∧ h.get? p.1 = some p.2 := by
  obtain ⟨b, hb, e⟩ := List.mem_filterMap.mp hp
  cases q : h.get? b with
  | none => rw [q] at e; cases e
  | some o =>
    rw [q] at e
    have e' : (b, o) = p := Option.some.inj e
    subst e'
    exact ⟨hb, q⟩
theorem Inv.pinned {pins : List (Addr × Obj)} {σ : St} {H : Hp} {s : Shared} {fp : List Addr} (I : Inv X pins σ H s) (hf : ∀ b ∈ fp, FpOk X pins H b) (ho : ∀ b ∈ fp, ∃ o, s.heap.get? b = some o ∧ ∀ v, o.data ≠ .cell v) : Inv X (pins ++ pinsAt fp s.heap) σ H s :=
  I.pins_of fun p hp => (List.mem_append.mp hp).elim (fun z => I.pin p (List.mem_append_right _ z)) fun z => by
    obtain ⟨hb, e⟩ := of_pinsAt z
    obtain ⟨f0, f1, f2, _⟩ := hf p.1 hb
    obtain ⟨o, e', d⟩ := ho p.1 hb
    rw [e] at e'; cases e'
    exact ⟨e, f0, f1, f2, d⟩
theorem Inv.unpinned {pins pl : List (Addr × Obj)} {σ : St} {H : Hp} {s : Shared} (I : Inv X (pins ++ pl) σ H s) : Inv X pins σ H s := I.pins_of fun p hp => I.pin p (List.mem_append_right _ (List.mem_append_left _ hp))
theorem ps_for {iter : Expr} {body : List Stmt} {wi : TI} {g : TG} {tb : TS} {pos : Pos} (hp : PassesOwn (model X.prog X.w) X.A X.env X.xe) (hc : X.calm = true) (hi : PI X tg iter wi) (hg : PG X tg g) (hb : PSs X body tb)
    (hs : ∀ x, foldedSetIterable iter X.env x = pure x := by intro _; rfl) : PS X (.For tg iter body [] pos) (tFor wi g tb) := by
  intro pins s σ H D I h
  refine wpAny_For (thn (hi pins s σ H _ I h) fun v s1 h1 => thn h1 fun itv s2 h2 => ?_) hs
  obtain ⟨it, fp, tn, J, H2, e, I2, T, st2, f2, W, ⟨m0, w0⟩, turn⟩ := h2
  subst e
  -- what stays true of the iterator's objects through the loop
  have stat : ∀ {H' : Hp}, (∀ b ∈ fp, H' b = none) → ∀ b ∈ fp, FpOk X pins H' b := fun hn b hb => ⟨hn b hb, (f2 b hb).2⟩
  refine codeAny_forLoop_any (fun n s' => ∃ i σ' H', Inv X pins σ' H' s' ∧ tn i s'.heap ∧ (∀ b ∈ fp, H' b = none) ∧ W i n σ' H') ?_ m0 ⟨0, σ, H2, I2, st2, fun b hb => (f2 b hb).1, w0⟩
  rintro n s3 ⟨i, σ3, H3, I3, st3, fr3, w3⟩
  rcases turn i n σ3 H3 w3 with ⟨stop, qn⟩ | ⟨go, N, hN, step⟩
  · refine wpAny_passesOwn hp (thn (T.done X rfl rfl rfl hc i pins s3 σ3 H3 X.xe I3 (stat fr3) st3 stop) fun r s4 ⟨hr, I4⟩ => ?_)
    subst hr
    exact wpAny_execs_nil ⟨σ3, H3, I4, qn⟩
  · refine wpAny_passesOwn hp (thn (T.item X rfl rfl rfl hc i pins s3 σ3 H3 X.xe I3 (stat fr3) st3 go) fun r s4 ⟨u, hr, h4⟩ => ?_)
    subst hr
    refine wpAny_passesOwn hp (thn h4 fun _ s5 ⟨x, H5, I5, r5, y5, st5, fr5⟩ => ?_)
    have I5' := I5.pinned (stat fr5) (T.obj _ _ st5)
    refine wpAny_passesOwn hp (thn (hg _ s5 σ3 H5 x u _ I5' r5 (step x H5 y5)) fun _ s6 ⟨σ6, H6, I6, q6⟩ => ?_)
    refine wpAny_passesOwn hp (thn (hb _ s6 σ6 H6 _ I6 q6) fun f s7 q7 => ?_)
    have again : ∀ {σ7 : St} {H7 : Hp}, Inv X (pins ++ pinsAt fp s5.heap) σ7 H7 s7 → N σ7 H7 → ∃ m, m < n ∧ ∃ i σ' H', Inv X pins σ' H' s7 ∧ tn i s7.heap ∧ (∀ b ∈ fp, H' b = none) ∧ W i m σ' H' := fun {σ7 H7} I7 n7 => by
      obtain ⟨m', hm, w7⟩ := hN σ7 H7 n7
      refine ⟨m', hm, i + 1, σ7, H7, I7.unpinned, T.keep _ _ _ st5 fun b hb o e => (I7.pin (b, o) (List.mem_append_right _ (List.mem_append_right _ (mem_pinsAt hb e)))).1, fun b hb => ?_, w7⟩
      obtain ⟨o, e, d⟩ := T.obj _ _ st5 b hb
      exact (I7.pin (b, o) (List.mem_append_right _ (List.mem_append_right _ (mem_pinsAt hb e)))).2.1
    cases f with
    | next => obtain ⟨σ7, H7, I7, n7⟩ := q7; exact again I7 n7
    | cont => obtain ⟨σ7, H7, I7, n7⟩ := q7; exact again I7 n7
    | brk => obtain ⟨σ7, H7, I7, q7⟩ := q7; exact ⟨σ7, H7, I7.unpinned, q7⟩
    | ret v => obtain ⟨x7, σ7, H7, I7, r7, q7⟩ := q7; exact ⟨x7, σ7, H7, I7.unpinned, r7, q7⟩
end
end L2
namespace L2
open PySem PySem.Spec PyProof.Rows
abbrev R2 := V → V → Hp → VK → Prop
def OpR (X : Cx) (f : Value → Value → Sem Value) (r : R2) : Prop :=
  ∀ (pins : List (Addr × Obj)) (s : Shared) (σ : St) (H : Hp) (x y : V) (v u : Value) (Q : VK), Inv X pins σ H s → RelV x v → RelV y u → r x y H Q →
    wpAny (model X.prog X.w) X.A (f v u) (EP X pins σ Q) X.xe s
def UnR (X : Cx) (f : Value → Sem Value) (r : V → Hp → VK → Prop) : Prop :=
  ∀ (pins : List (Addr × Obj)) (s : Shared) (σ : St) (H : Hp) (x : V) (v : Value) (Q : VK), Inv X pins σ H s → RelV x v → r x H Q →
    wpAny (model X.prog X.w) X.A (f v) (EP X pins σ Q) X.xe s
def CallR (X : Cx) (f : Value) (r : List V → Hp → VK → Prop) : Prop :=
  ∀ (pins : List (Addr × Obj)) (s : Shared) (σ : St) (H : Hp) (xs : List V) (us : List Value) (Q : VK), Inv X pins σ H s → Vals xs us → r xs H Q →
    wpAny (model X.prog X.w) X.A (call f us) (EP X pins σ Q) X.xe s
def tOp (r : R2) (ta tb : TE) : TE := fun σ H Q => ta σ H fun x H1 => tb σ H1 fun y H2 => r x y H2 Q
def tUn (r : V → Hp → VK → Prop) (ta : TE) : TE := fun σ H Q => ta σ H fun x H1 => r x H1 Q
def rI (C : Int → Int → Prop) (g : Int → Int → V) : R2 := fun x y H Q => ∃ i j, x = .int i ∧ y = .int j ∧ C i j ∧ Q (g i j) H
def rI0 (g : Int → Int → V) : R2 := fun x y H Q => ∃ i j, x = .int i ∧ y = .int j ∧ Q (g i j) H
def rU (g : Int → V) : V → Hp → VK → Prop := fun x H Q => ∃ i, x = .int i ∧ Q (g i) H
section
variable {X : Cx} {a b c : Expr} {ta tb tc : TE} {pos : Pos}
theorem binT (ha : PE X a ta) (hb : PE X b tb) {pins : List (Addr × Obj)} {s : Shared} {σ : St} {H : Hp} {R : V → V → Hp → Prop} (I : Inv X pins σ H s)
    (h : ta σ H fun x H1 => tb σ H1 fun y H2 => R x y H2) {Q : Value → Shared → Prop} {f : Value → Value → Sem Value}
    (hf : ∀ v u s2 x y H2, Inv X pins σ H2 s2 → RelV x v → RelV y u → R x y H2 → wpAny (model X.prog X.w) X.A (f v u) Q X.xe s2) :
    wpAny (model X.prog X.w) X.A (eval a X.env) (fun v s₁ => wpAny (model X.prog X.w) X.A (eval b X.env) (fun u s₂ => wpAny (model X.prog X.w) X.A (f v u) Q X.xe s₂) X.xe s₁) X.xe s := by
  refine thn (ha pins s σ H _ I h) fun v s1 ⟨x, H1, I1, r1, q1⟩ => ?_
  refine thn (hb pins s1 σ H1 _ I1 q1) fun u s2 ⟨y, H2, I2, r2, q2⟩ => ?_
  exact hf v u s2 x y H2 I2 r1 r2 q2
theorem pe_op {op : Operator} {r : R2} (ho : OpR X (binaryOp op) r) (ha : PE X a ta) (hb : PE X b tb) : PE X (.BinOp a op b pos) (tOp r ta tb) := by
  intro pins s σ H Q I h
  exact wpAny_BinOp (binT ha hb I h fun v u s2 x y H2 I2 rx ry q => ho pins s2 σ H2 x y v u Q I2 rx ry q)
theorem pe_un {op : UnaryOp} {r : V → Hp → VK → Prop} (ho : UnR X (unaryOp op) r) (ha : PE X a ta) : PE X (.UnaryOp op a pos) (tUn r ta) := by
  intro pins s σ H Q I h
  exact UnaryOp_ (thn (ha pins s σ H _ I h) fun v s1 ⟨x, H1, I1, r1, q1⟩ => ho pins s1 σ H1 x v Q I1 r1 q1)
theorem opI {f : Value → Value → Sem Value} {C : Int → Int → Prop} {g : Int → Int → Int}
    (rule : ∀ (i j : Int) (t u : Tok) (s : Shared) (Q : Value → Shared → Prop) (E : Value → Shared → Prop), C i j → Q (.int (g i j) s.toks) { s with toks := s.toks + 1 } → wpAny (model X.prog X.w) X.A (f (.int i t) (.int j u)) Q E s) :
    OpR X f (rI C fun i j => .int (g i j)) := by
  intro pins s σ H x y v u Q I rx ry h
  obtain ⟨i, j, rfl, rfl, hc, q⟩ := h
  obtain ⟨t, rfl⟩ := rx
  obtain ⟨t', rfl⟩ := ry
  exact rule i j t t' s _ _ hc ⟨.int (g i j), H, I.tok _, ⟨_, rfl⟩, q⟩
theorem opI0 {f : Value → Value → Sem Value} {g : Int → Int → Int}
    (rule : ∀ (i j : Int) (t u : Tok) (s : Shared) (Q : Value → Shared → Prop) (E : Value → Shared → Prop), Q (.int (g i j) s.toks) { s with toks := s.toks + 1 } → wpAny (model X.prog X.w) X.A (f (.int i t) (.int j u)) Q E s) :
    OpR X f (rI0 fun i j => .int (g i j)) := by
  intro pins s σ H x y v u Q I rx ry h
  obtain ⟨i, j, rfl, rfl, q⟩ := h
  obtain ⟨t, rfl⟩ := rx
  obtain ⟨t', rfl⟩ := ry
  exact rule i j t t' s _ _ ⟨.int (g i j), H, I.tok _, ⟨_, rfl⟩, q⟩
theorem opB0 {f : Value → Value → Sem Value} {g : Int → Int → Bool}
    (rule : ∀ (i j : Int) (t u : Tok) (s : Shared) (Q : Value → Shared → Prop) (E : Value → Shared → Prop), Q (.bool (g i j)) s → wpAny (model X.prog X.w) X.A (f (.int i t) (.int j u)) Q E s) :
    OpR X f (rI0 fun i j => .bl (g i j)) := by
  intro pins s σ H x y v u Q I rx ry h
  obtain ⟨i, j, rfl, rfl, q⟩ := h
  obtain ⟨t, rfl⟩ := rx
  obtain ⟨t', rfl⟩ := ry
  exact rule i j t t' s _ _ ⟨.bl (g i j), H, I, rfl, q⟩
def CPow (i j : Int) : Prop := 0 ≤ j ∧ j ≤ 1000000 ∧ i.natAbs < 2 ^ 64
theorem op_add : OpR X (binaryOp .Add) (rI0 fun i j => .int (i + j)) := opI0 fun _ _ _ _ _ _ _ q => add_int q
theorem op_sub : OpR X (binaryOp .Sub) (rI0 fun i j => .int (i - j)) := opI0 fun _ _ _ _ _ _ _ q => sub_int q
theorem op_modN : OpR X (binaryOp .Mod) (rI (fun _ j => j ≠ 0) fun i j => .int (i.fmod j)) := opI fun _ _ _ _ _ _ _ hc q => mod_int' hc q
theorem op_pow : OpR X (binaryOp .Pow) (rI CPow fun i j => .int (i ^ j.toNat)) := opI fun _ _ _ _ _ _ _ hc q => pow_int_small hc.1 hc.2.1 hc.2.2 q
theorem unI {f : Value → Sem Value} {g : Int → Int}
    (rule : ∀ (i : Int) (t : Tok) (s : Shared) (Q : Value → Shared → Prop) (E : Value → Shared → Prop), Q (.int (g i) s.toks) { s with toks := s.toks + 1 } → wpAny (model X.prog X.w) X.A (f (.int i t)) Q E s) :
    UnR X f (rU fun i => .int (g i)) := by
  intro pins s σ H x v Q I rx h
  obtain ⟨i, rfl, q⟩ := h
  obtain ⟨t, rfl⟩ := rx
  exact rule i t s _ _ ⟨.int (g i), H, I.tok _, ⟨_, rfl⟩, q⟩
theorem un_neg : UnR X (unaryOp .USub) (rU fun i => .int (-i)) := unI fun _ _ _ _ _ q => neg_int q
end
section
variable {X : Cx} {a b c : Expr} {ta tb tc : TE} {pos : Pos}
theorem fin_bl {pins : List (Addr × Obj)} {σ : St} {H : Hp} {s : Shared} {Q : VK} {k k' : Bool} (I : Inv X pins σ H s) (q : Q (.bl k) H) (e : k = k') : EP X pins σ Q (.bool k') s := by
  subst e
  exact ⟨.bl k, H, I, rfl, q⟩
theorem op_lt : OpR X (compareOp .Lt) (rI0 fun i j => .bl (decide (i < j))) := opB0 fun _ _ _ _ _ _ _ q => lt_int q
theorem op_le : OpR X (compareOp .LtE) (rI0 fun i j => .bl (decide (i ≤ j))) := opB0 fun _ _ _ _ _ _ _ q => le_int q
theorem op_gt : OpR X (compareOp .Gt) (rI0 fun i j => .bl (decide (j < i))) := opB0 fun _ _ _ _ _ _ _ q => gt_int q
theorem op_ge : OpR X (compareOp .GtE) (rI0 fun i j => .bl (decide (j ≤ i))) := opB0 fun _ _ _ _ _ _ _ q => ge_int q
theorem op_isN : OpR X (compareOp .Is) (fun x y H Q => y = .non ∧ Q (.bl (decide (x = .non))) H) := by
  intro pins s σ H x y v u Q I rx ry h
  obtain ⟨rfl, q⟩ := h
  cases ry
  refine is_none_gen (fin_bl I q ?_)
  cases x <;> first
    | (cases rx; rfl)
    | (obtain ⟨t, rfl⟩ := rx; rfl)
theorem OpR.or {f : Value → Value → Sem Value} {r r' : R2} (h : OpR X f r) (h' : OpR X f r') : OpR X f (fun x y H Q => r x y H Q ∨ r' x y H Q) := by
  intro pins s σ H x y v u Q I rx ry q
  rcases q with q | q
  · exact h pins s σ H x y v u Q I rx ry q
  · exact h' pins s σ H x y v u Q I rx ry q
theorem nomark (b : Expr) {op : CmpOp} (h : op ≠ .In := by decide) (h2 : op ≠ .NotIn := by decide) : behindInMarks op b = false := by
  have e1 : (op == CmpOp.In) = false := by cases op <;> first | rfl | exact absurd rfl h
  have e2 : (op == CmpOp.NotIn) = false := by cases op <;> first | rfl | exact absurd rfl h2
  cases b <;> simp [behindInMarks, e1, e2]
theorem pe_cmpR {op : CmpOp} {r : R2} (ho : OpR X (compareOp op) r) (ha : PE X a ta) (hb : PE X b tb) (hm : behindInMarks op b = false) : PE X (.Compare a [op] [b] pos) (tOp r ta tb) := by
  intro pins s σ H Q I h
  exact wpAny_Compare1 (binT ha hb I h fun v u s2 x y H2 I2 rx ry q => ho pins s2 σ H2 x y v u Q I2 rx ry q) hm
def tTest (t : TE) : TT := fun σ H Q => t σ H fun x H' => ∃ k, x = .bl k ∧ Q k H'
theorem pt_cmpR {op : CmpOp} {r : R2} (ho : OpR X (compareOp op) r) (ha : PE X a ta) (hb : PE X b tb) (hm : behindInMarks op b = false) : PT X (.Compare a [op] [b] pos) (tTest (tOp r ta tb)) := by
  intro pins s σ H Q I h
  refine wpAny_isTrue_Compare1 (thn (ha pins s σ H _ I h) fun v s1 ⟨x, H1, I1, r1, q1⟩ => thn (hb pins s1 σ H1 _ I1 q1) fun u s2 ⟨y, H2, I2, r2, q2⟩ =>
    thn (ho pins s2 σ H2 x y v u _ I2 r1 r2 q2) fun c s3 ⟨z, H3, I3, r3, k, e, q3⟩ => ?_) hm
  subst e
  cases r3
  exact wpAny_truthy_bool ⟨H3, I3, q3⟩
def tChain (r r' : R2) (ta tb tc : TE) : TE := fun σ H Q => ta σ H fun x H1 => tb σ H1 fun y H2 => r x y H2 fun z H3 => ∃ k, z = .bl k ∧
  (if k = true then tc σ H3 fun w' H4 => r' y w' H4 Q else Q (.bl false) H3)
theorem pe_chain {op op' : CmpOp} {r r' : R2} (ho : OpR X (compareOp op) r) (ho' : OpR X (compareOp op') r') (ha : PE X a ta) (hb : PE X b tb) (hc : PE X c tc)
    (hm : lastMarks [op, op'] [b, c] = false := by with_unfolding_all rfl) : PE X (.Compare a [op, op'] [b, c] pos) (tChain r r' ta tb tc) := by
  intro pins s σ H Q I h
  refine Compare_chain (thn (ha pins s σ H _ I h) fun v s1 ⟨x, H1, I1, r1, q1⟩ => chain_link (thn (hb pins s1 σ H1 _ I1 q1) fun u s2 ⟨y, H2, I2, r2, q2⟩ =>
    thn (ho pins s2 σ H2 x y v u _ I2 r1 r2 q2) fun d s3 ⟨z, H3, I3, r3, k, e, q3⟩ => ?_)) hm
  subst e
  cases r3
  refine wpAny_truthy_bool ?_
  cases k with
  | false => exact ite_ff ⟨.bl false, H3, I3, rfl, q3⟩
  | true => exact ite_tt (chain_last (thn (hc pins s3 σ H3 _ I3 q3) fun w' s4 ⟨z', H4, I4, r4, q4⟩ => ho' pins s4 σ H4 y z' u w' Q I4 r2 r4 q4))
theorem line63 : (sizeLine : Nat) < 2 ^ 63 := by rw [sizeLine_eq]; decide
theorem op_add_str : OpR X (binaryOp .Add) (fun x y H Q => ∃ i j, x = .str i ∧ y = .str j ∧ i.length + j.length ≤ sizeLine ∧ Q (.str (i ++ j)) H) := by
  intro pins s σ H x y v u Q I rx ry h
  obtain ⟨i, j, rfl, rfl, hz, q⟩ := h
  obtain ⟨t, rfl⟩ := rx
  obtain ⟨t', rfl⟩ := ry
  exact add_str (fun t' tk => ⟨.str (i ++ j), H, I.tok _, ⟨_, rfl⟩, q⟩) hz
theorem vals1 {x : V} {us : List Value} (r : Vals [x] us) : ∃ u, us = [u] ∧ RelV x u := by
  cases r with
  | cons r1 r2 => cases r2; exact ⟨_, rfl, r1⟩
theorem vals2 {x y : V} {us : List Value} (r : Vals [x, y] us) : ∃ u w', us = [u, w'] ∧ RelV x u ∧ RelV y w' := by
  cases r with
  | cons r1 r2 =>
    cases r2 with
    | cons r3 r4 => cases r4; exact ⟨_, _, rfl, r1, r3⟩
theorem call_max2 (hc : X.calm = true) : CallR X (.builtin "max") (fun xs H Q => ∃ i j, xs = [.int i, .int j] ∧ Q (.int (if j > i then j else i)) H) := by
  intro pins s σ H xs us Q I r h
  obtain ⟨i, j, rfl, q⟩ := h
  obtain ⟨u, w', rfl, ⟨t, rfl⟩, ⟨t', rfl⟩⟩ := vals2 r
  refine max_two_ints (I.ok.hd hc) fun h' tk k => ⟨_, H, I.kept k, ?_, q⟩
  by_cases hj : j > i
  · rw [if_pos hj, if_pos hj]; exact ⟨_, rfl⟩
  · rw [if_neg hj, if_neg hj]; exact ⟨_, rfl⟩
end
end L2
namespace L2
open PySem PySem.Spec PyProof.Rows
structure ObjM (h : Heap) (x dx C : Addr) (mA : Str → Option Value) : Prop where
  obj : h.get? x = some (PySem.W.instObj C dx)
  ns : h.Ns1 dx mA
  ne : dx ≠ x
theorem lookIn_ns {h : Heap} {dx : Addr} {mA : Str → Option Value} (n : h.Ns1 dx mA) : ∃ od, h.get? dx = some od ∧ ∀ name, PySem.W.lookIn name od = some (mA name) := by
  obtain ⟨o, es, ep, ho, hd, hk, _, hm⟩ := n
  refine ⟨o, ho, fun name => ?_⟩
  have e := hm name
  unfold nsFind findBy at e
  rw [← Array.find?_toList] at e
  unfold PySem.W.lookIn
  rw [hd]
  dsimp only
  split
  · rename_i y q
    rw [q] at e
    exact congrArg some e
  · rename_i q
    rw [q] at e
    have a : es.toList.any (·.refKey) = false := by
      rw [List.any_eq_false]
      intro y hy
      obtain ⟨z, t, hkey⟩ := hk y (Array.mem_toList_iff.mp hy)
      simp [DictEntry.refKey, hkey]
    have a' : ¬ es.toList.any (·.refKey) = true := by rw [a]; exact Bool.false_ne_true
    rw [if_neg a']
    exact congrArg some e
theorem ObjM.look {h : Heap} {x dx C : Addr} {mA : Str → Option Value} (I : ObjM h x dx C mA) : ∃ od, PySem.W.InstAt h x (PySem.W.instObj C dx) C (some od) ∧ ∀ name, PySem.W.lookIn name od = some (mA name) :=
  let ⟨od, ho, hl⟩ := lookIn_ns I.ns
  ⟨od, ⟨I.obj, rfl, rfl, ho⟩, hl⟩
section
variable {prog : Program} {w : World} {A : Around} {E : Value → Shared → Prop} {s : Shared} {K : PySem.W.Frag} {x dx C f : Addr} {mA : Str → Option Value} {name : Str} {v : Value}
theorem get_map {expr : Bool} {Q : Value → Shared → Prop} (X : K.In s.heap) (I : ObjM s.heap x dx C mA) (hg : PySem.W.plainGet K C name = true) (hh : PySem.W.hasDictIn K C = true)
    (ha : PySem.W.findIn K (.ref C) name = some none) (hv : mA name = some v) (hv' : PySem.W.handedIn v = true) (h : Q v { s with toks := s.toks + 1 }) :
    wpAny (model prog w) A (getAttr (.ref x) name expr) Q E s := by
  obtain ⟨od, J, hl⟩ := I.look
  exact PySem.W.get_value X J (PySem.W.plainGet_of hg).1 (PySem.W.findObj_own hh ha rfl (by rw [hl, hv])) hv' h
theorem get_meth {pl : Sem Bool} {Q : Value × List Value → Shared → Prop} (X : K.In s.heap) (I : ObjM s.heap x dx C mA) (hg : PySem.W.plainGet K C name = true)
    (hf : PySem.W.findIn K (.ref C) name = some (some (.ref f))) (ht : PySem.W.isFn K (.ref f) = true) (hv : mA name = none) (h : Q (.ref f, [.ref x]) s) :
    wpAny (model prog w) A (getMethod (.ref x) name pl) Q E s := by
  obtain ⟨od, J, hl⟩ := I.look
  exact PySem.W.method_fn X J (PySem.W.plainGet_of hg).1 (PySem.W.plainGet_of hg).2 hf (beq_iff_eq.mp ht) (by show (PySem.W.lookIn name od).map (·.isSome) = some false; rw [hl, hv]; rfl) h
theorem set_map {ns : List Str} {Q : Unit → Shared → Prop} (X : K.In s.heap) (I : ObjM s.heap x dx C mA)
    (hs : PySem.W.findIn K (.ref C) "__setattr__" = some (some (.builtin "object.__setattr__"))) (hp : PySem.W.plainOver K C = true) (ht : PySem.W.takerIn K C name = some none) (hh : PySem.W.hasDictIn K C = true)
    (hw : PySem.Within mA ns) (hsz : ns.length ≤ sizeLine)
    (h : ∀ h', ObjM h' x dx C (fun y => if y = name then some v else mA y) → Heap.SameBut dx s.heap h' → Q () { s with heap := h', toks := s.toks + 2 }) :
    wpAny (model prog w) A (setAttr (.ref x) name v) Q E s := by
  obtain ⟨od, J, hl⟩ := I.look
  refine PySem.W.set_plain X J hs (PySem.W.osa_open (s := { s with toks := s.toks + 1 }) (r := none) X J hp ht fun b => ?_)
  obtain ⟨cd, hc, hd'⟩ := PySem.W.any_some hh
  have hx : s.heap.get? x = some ⟨.ref C, some dx, .plain, #[]⟩ := I.obj
  refine wpAny_bind (wpAny_pure (wpAny_bind (wpAny_bind (wpAny_loadPart hx (wpAny_bind (PySem.W.Looks.here (s := { s with toks := s.toks + 1 }) (PySem.W.looks_clsIn X hc) ?_))))))
  rw [hd']
  refine wpAny_pure (a := some dx) (wpAny_bind (wpAny_pure (wpAny_bind ?_)))
  refine wpAny_nsSet1 (s := { s with toks := s.toks + 1 }) I.ns fun h' hn2 hs2 => ?_
  obtain ⟨oD, esD, epD, hoD, hdD, hcD⟩ := hn2.count (PySem.Within.cons name v hw)
  refine wpAny_bind (wpAny_lookBehind hoD (by rw [hdD]; exact pastItsLine_dict (Nat.le_trans hcD (by rw [List.length_cons]; omega))) ?_)
  exact wpAny_pure (h _ ⟨(hs2.2 _ (Ne.symm I.ne)).trans I.obj, hn2, I.ne⟩ hs2)
theorem make_map {R : Result → Shared → Prop} {vs : List Value} {kw : List (Str × Value)} (X : K.In s.heap) (hm : PySem.W.makesIn K C = true)
    (hi : PySem.W.findIn K (.ref C) "__init__" = some (some (.ref f))) (hf : PySem.W.typeIn K (.ref f) = some (.type "function"))
    (h : codeAny (model prog w) (A.under (.builtin "type.__call__" ⟨.ref C :: vs, kw⟩)) (.call (.ref f) ⟨.ref (s.heap.objs.size + 1) :: vs, kw⟩) (PySem.W.InitBack (s.heap.objs.size + 1) R)
      { s with heap := (s.heap.push PySem.W.emptyDict).push (PySem.W.instObj C s.heap.objs.size) }) :
    codeAny (model prog w) A (.call (.ref C) ⟨vs, kw⟩) R s := by
  obtain ⟨hh, g, d, t, os⟩ := s
  exact PySem.W.make_core (PySem.W.makes_of X hm) (PySem.W.looks_findIn X hi) (fun self => PySem.W.bind_fn X self hf) (.inl rfl) h
end
def putF (f : Str) (v : V) : List (Str × V) → List (Str × V)
  | [] => [(f, v)]
  | (g, x) :: r => if g = f then (g, v) :: r else (g, x) :: putF f v r
theorem lookup_putF (f g : Str) (v : V) : ∀ fs : List (Str × V), (putF f v fs).lookup g = if g = f then some v else fs.lookup g
  | [] => by
    show List.lookup g [(f, v)] = _
    by_cases h : g = f
    · have hb : (g == f) = true := beq_iff_eq.mpr h
      simp only [List.lookup, hb, if_pos h]
    · have hb : (g == f) = false := beq_eq_false_iff_ne.mpr h
      simp only [List.lookup, hb, if_neg h]
  | (k, x) :: r => by
    have ih := lookup_putF f g v r
    rw [show putF f v ((k, x) :: r) = (if k = f then (k, v) :: r else (k, x) :: putF f v r) from rfl]
    by_cases hk : k = f
    · rw [if_pos hk]
      by_cases h : g = k
      · have hb : (g == k) = true := beq_iff_eq.mpr h
        simp only [List.lookup, hb, if_pos (h.trans hk)]
      · have hb : (g == k) = false := beq_eq_false_iff_ne.mpr h
        simp only [List.lookup, hb, if_neg (fun e : g = f => h (e.trans hk.symm))]
    · rw [if_neg hk]
      by_cases h : g = k
      · have hb : (g == k) = true := beq_iff_eq.mpr h
        simp only [List.lookup, hb, if_neg (fun e : g = f => hk (h.symm.trans e))]
      · have hb : (g == k) = false := beq_eq_false_iff_ne.mpr h
        simp only [List.lookup, hb]
        exact ih
theorem keys_putF (f : Str) (v : V) : ∀ fs : List (Str × V), f ∈ (putF f v fs).map (·.1) ∧ ∀ g, g ∈ fs.map (·.1) → g ∈ (putF f v fs).map (·.1)
  | [] => ⟨by simp [putF], fun g h => by simp at h⟩
  | (k, x) :: r => by
    obtain ⟨i1, i2⟩ := keys_putF f v r
    rw [show putF f v ((k, x) :: r) = (if k = f then (k, v) :: r else (k, x) :: putF f v r) from rfl]
    by_cases hk : k = f
    · rw [if_pos hk]
      subst hk
      exact ⟨by simp, fun g h => by simpa using h⟩
    · rw [if_neg hk]
      refine ⟨?_, fun g h => ?_⟩
      · rw [List.map_cons]
        exact List.mem_cons_of_mem _ i1
      · rw [List.map_cons] at h ⊢
        rcases List.mem_cons.mp h with e | e
        · exact List.mem_cons.mpr (.inl e)
        · exact List.mem_cons_of_mem _ (i2 g e)
theorem length_putF (f : Str) (v : V) : ∀ fs : List (Str × V), (putF f v fs).length ≤ fs.length + 1
  | [] => by simp [putF]
  | (k, x) :: r => by
    have ih := length_putF f v r
    rw [show putF f v ((k, x) :: r) = (if k = f then (k, v) :: r else (k, x) :: putF f v r) from rfl]
    by_cases hk : k = f
    · rw [if_pos hk, List.length_cons, List.length_cons]; omega
    · rw [if_neg hk, List.length_cons, List.length_cons]; omega
theorem RelO.some_of {v : V} {o : Option Value} (r : RelO (some v) o) : ∃ u, o = some u ∧ RelV v u := by
  cases o with
  | none => exact (show False from r).elim
  | some u => exact ⟨u, rfl, r⟩
theorem RelO.none_of {o : Option Value} (r : RelO none o) : o = none := by
  cases o with
  | none => rfl
  | some u => exact (show False from r).elim
theorem handed_of {v : V} {u : Value} (r : RelV v u) : PySem.W.handedIn u = true := by
  cases v with
  | non => cases (show u = Value.none from r); rfl
  | bl b => cases (show u = Value.bool b from r); rfl
  | int i => obtain ⟨t, e⟩ := (show ∃ t, u = Value.int i t from r); cases e; rfl
  | str x => obtain ⟨t, e⟩ := (show ∃ t, u = Value.str x t from r); cases e; rfl
  | byt b => obtain ⟨t, e⟩ := (show ∃ t, u = Value.bytes b t from r); cases e; rfl
  | flt b => obtain ⟨t, e⟩ := (show ∃ t, u = Value.float b t from r); cases e; rfl
  | ref a => cases (show u = Value.ref a from r); rfl
  | ty n => cases (show u = Value.type n from r); rfl
section
variable {P : Program} {w : World} {H H' : Hp} {h h' : Heap} {a C dx : Addr} {fs fs' : List (Str × V)}
theorem ins_get (hok : HOk P w H h) (e : H a = some (.ins C dx fs)) : ∃ mA, ObjM h a dx C mA ∧ (∀ f, RelO (fs.lookup f) (mA f)) ∧ PySem.Within mA (fs.map (·.1)) ∧ fs.length ≤ 1000 ∧ H dx = some (.own a) := by
  obtain ⟨d, z, ne, ob, mA, n, r, q⟩ := (show ObjOk P w H h a (.ins C dx fs) from hok a _ e)
  exact ⟨mA, ⟨ob, n, ne⟩, r, q, z, d⟩
end
structure Cls (K : PySem.W.Frag) (C : Addr) : Prop where
  pg : PySem.W.plainGet K C Str.empty = true
  hd : PySem.W.hasDictIn K C = true
  po : PySem.W.plainOver K C = true
  sa : PySem.W.findIn K (.ref C) "__setattr__" = some (some (.builtin "object.__setattr__"))
theorem Cls.get {K : PySem.W.Frag} {C : Addr} (c : Cls K C) (f : Str) : PySem.W.plainGet K C f = true := c.pg
def NoAttr (K : PySem.W.Frag) (C : Addr) (f : Str) : Prop := PySem.W.findIn K (.ref C) f = some none
theorem NoAttr.taker {K : PySem.W.Frag} {C : Addr} {f : Str} (n : NoAttr K C f) : PySem.W.takerIn K C f = some none := by
  unfold PySem.W.takerIn
  rw [show PySem.W.findIn K (.ref C) f = some none from n]
  rfl
structure Meth (K : PySem.W.Frag) (C : Addr) (m : Str) (f : Addr) : Prop where
  at_ : PySem.W.findIn K (.ref C) m = some (some (.ref f))
  fn : PySem.W.isFn K (.ref f) = true
  kp : PySem.W.keepIn K (.ref f) = true
section
variable {X : Cx} {pins : List (Addr × Obj)} {σ : St} {H : Hp} {s : Shared} {a C dx : Addr} {fs : List (Str × V)} {f : Str} {v : V} {A : Around} {E : Value → Shared → Prop}
theorem getattr_ok {b : Bool} {Q : Value → Shared → Prop} (I : Inv X pins σ H s) (e : H a = some (.ins C dx fs)) (c : Cls X.K C) (n : NoAttr X.K C f) (l : fs.lookup f = some v)
    (h : ∀ u s', Inv X pins σ H s' → RelV v u → Q u s') : wpAny (model X.prog X.w) A (getAttr (.ref a) f b) Q E s := by
  obtain ⟨mA, O, r, _, _, _⟩ := ins_get I.hok e
  obtain ⟨u, hu, ru⟩ := RelO.some_of (v := v) (o := mA f) (by rw [← l]; exact r f)
  exact get_map I.kIn O (c.get f) c.hd n hu (handed_of ru) (h u _ (I.tok _) ru)
theorem getmeth_ok {m : Str} {g : Addr} {pl : Sem Bool} {Q : Value × List Value → Shared → Prop} (I : Inv X pins σ H s) (e : H a = some (.ins C dx fs)) (c : Cls X.K C) (k : Meth X.K C m g) (l : fs.lookup m = none)
    (h : Q (.ref g, [.ref a]) s) : wpAny (model X.prog X.w) A (getMethod (.ref a) m pl) Q E s := by
  obtain ⟨mA, O, r, _, _, _⟩ := ins_get I.hok e
  have hn : mA m = none := RelO.none_of (by rw [← l]; exact r m)
  exact get_meth I.kIn O (c.get m) k.at_ k.fn hn h
theorem setattr_ok {y : V} {u : Value} {Q : Unit → Shared → Prop} (I : Inv X pins σ H s) (e : H a = some (.ins C dx fs)) (c : Cls X.K C) (n : NoAttr X.K C f) (hl : fs.length < 1000) (ry : RelV y u)
    (h : ∀ s', Inv X pins σ (upd H a (.ins C dx (putF f y fs))) s' → Q () s') : wpAny (model X.prog X.w) A (setAttr (.ref a) f u) Q E s := by
  obtain ⟨mA, O, r, wi, _, ho⟩ := ins_get I.hok e
  have hz : (fs.map (·.1)).length ≤ sizeLine := by rw [List.length_map, sizeLine_eq]; omega
  refine set_map I.kIn O c.sa c.po n.taker c.hd wi hz fun h' O' sb => h _ ?_
  have hd : ∃ o, h'.get? dx = some o := let ⟨o, _, _, e', _⟩ := O'.ns; ⟨o, e'⟩
  refine I.write (x := a) (e := dx) (by rw [e]; exact True.intro) (.inr ho) (fun b q hb z => (sb.2 b hb).trans z) hd ?_
  refine ⟨by rw [upd_ne O.ne]; exact ho, ?_, O.ne, O'.obj, _, O'.ns, fun g => ?_, fun g hg => ?_⟩
  · have := length_putF f y fs; omega
  · show RelO ((putF f y fs).lookup g) (if g = f then some u else mA g)
    rw [lookup_putF]
    by_cases q : g = f
    · rw [if_pos q, if_pos q]; exact ry
    · rw [if_neg q, if_neg q]; exact r g
  · by_cases q : g = f
    · rw [q]; exact (keys_putF f y fs).1
    · refine (keys_putF f y fs).2 g (wi g fun z => hg ?_)
      show (if g = f then some u else mA g) = none
      rw [if_neg q]; exact z
theorem Inv.made (I : Inv X pins σ H s) : Inv X pins σ (upd (upd H s.heap.objs.size (.own (s.heap.objs.size + 1))) (s.heap.objs.size + 1) (.ins C s.heap.objs.size []))
    { s with heap := (s.heap.push PySem.W.emptyDict).push (PySem.W.instObj C s.heap.objs.size) } := by
  have e1 : (s.heap.push PySem.W.emptyDict).get? s.heap.objs.size = some PySem.W.emptyDict := Heap.get?_push_size s.heap rfl
  have e2 : ((s.heap.push PySem.W.emptyDict).push (PySem.W.instObj C s.heap.objs.size)).get? (s.heap.objs.size + 1) = some (PySem.W.instObj C s.heap.objs.size) := by
    have := Heap.get?_push_size (s.heap.push PySem.W.emptyDict) (o := PySem.W.instObj C s.heap.objs.size) rfl
    rwa [Heap.size_push] at this
  have e3 : (s.heap.push PySem.W.emptyDict).Ns s.heap.objs.size (fun _ => none) := ⟨PySem.W.emptyDict, #[], _, e1, rfl, (fun e he => absurd he (by simp)), fun _ => rfl⟩
  have I1 := I.laid (a := s.heap.objs.size) (o := .own (s.heap.objs.size + 1)) (h' := s.heap.push PySem.W.emptyDict) (t' := s.toks) (fun b u q => Heap.get?_push_of_some _ q) (Nat.le_refl _) ⟨_, e1⟩
  refine I1.laid (a := s.heap.objs.size + 1) (o := .ins C s.heap.objs.size []) (t' := s.toks) (fun b u q => Heap.get?_push_of_some _ q) (Nat.le_of_eq (Heap.size_push _ _)) ?_
  have ne : s.heap.objs.size ≠ s.heap.objs.size + 1 := Nat.ne_of_lt (Nat.lt_succ_self _)
  refine ⟨by rw [upd_ne ne, upd_same], Nat.zero_le _, ne, e2, fun _ => none, (Heap.Ns1.of_empty e3).at fun o q => Heap.get?_push_of_some _ q, fun _ => True.intro, fun y hy => absurd rfl hy⟩
theorem attr_of {prog : Program} {w : World} {env : Env} {e : Expr} {f : Str} {pos : Pos} {s : Shared} {Q : Value → Shared → Prop} (hb : attributeBase e f env (eval e env) = eval e env)
    (h : wpAny (model prog w) A (eval e env) (fun o s₁ => wpAny (model prog w) A (getAttr o f true) Q E s₁) E s) : wpAny (model prog w) A (eval (.Attribute e f pos) env) Q E s :=
  Attribute_any_ h (by rw [arm_eval_Attribute, hb])
end
def tFld (K : PySem.W.Frag) (ta : TE) (f : Str) : TE := fun σ H Q => ta σ H fun x H1 => ∃ a C dx fs v, x = .ref a ∧ H1 a = some (.ins C dx fs) ∧ Cls K C ∧ NoAttr K C f ∧ fs.lookup f = some v ∧ Q v H1
def sFld (K : PySem.W.Frag) (ta tv : TE) (f : Str) : TS := fun D σ H => tv σ H fun y H1 => ta σ H1 fun x H2 => ∃ a C dx fs, x = .ref a ∧ H2 a = some (.ins C dx fs) ∧ Cls K C ∧ NoAttr K C f ∧ fs.length < 1000 ∧
  D.nx σ (upd H2 a (.ins C dx (putF f y fs)))
section
variable {X : Cx} {o e value : Expr} {f : Str} {pos pos' tpos : Pos} {ta tv : TE}
theorem pe_fld (he : PE X e ta) (hb : attributeBase e f X.env (eval e X.env) = eval e X.env) : PE X (.Attribute e f pos) (tFld X.K ta f) := by
  intro pins s σ H Q I h
  refine attr_of hb (thn (he pins s σ H _ I h) fun u s1 ⟨x, H1, I1, rx, a, C, dx, fs, v, ex, ea, c, n, l, q⟩ => ?_)
  subst ex
  obtain rfl : u = Value.ref a := rx
  exact getattr_ok I1 ea c n l fun u' s2 I2 ru => ⟨v, H1, I2, ru, q⟩
theorem ps_fld (ha : PE X o ta) (hv : PE X value tv) (hs : swapsWith value (some (.Attribute o f pos')) pos.line X.env = pure false) : PS X (.Assign [.Attribute o f pos'] value pos) (sFld X.K ta tv f) := by
  intro pins s σ H D I h
  refine plainObj_wpAny_Assign_Attribute (thn (hv pins s σ H _ I h) fun u s1 ⟨y, H1, I1, ry, q⟩ => thn (ha pins s1 σ H1 _ I1 q) fun ov s2 ⟨x, H2, I2, rx, a, C, dx, fs, ex, ea, c, n, l, q2⟩ => ?_) hs
  subst ex
  obtain rfl : ov = Value.ref a := rx
  exact setattr_ok I2 ea c n l ry fun s3 I3 => ⟨σ, _, I3, q2⟩
end
section
variable {X : Cx} {pins : List (Addr × Obj)} {σ : St} {H : Hp} {s : Shared} {A : Around} {E : Value → Shared → Prop} {Q : Value → Shared → Prop} {c : Value} {b : Bool}
inductive TyOf (K : PySem.W.Frag) (H : Hp) : V → Value → Prop where
  | non : TyOf K H .non (.type "NoneType")
  | bl (x : Bool) : TyOf K H (.bl x) (.type "bool")
  | int (i : Int) : TyOf K H (.int i) (.type "int")
  | str (x : Str) : TyOf K H (.str x) (.type "str")
  | flt (x : UInt64) : TyOf K H (.flt x) (.type "float")
  | lst {a : Addr} {xs : List V} (e : H a = some (.lst xs)) : TyOf K H (.ref a) (.type "list")
  | frz {a : Addr} {o : Obj} {xs : List V} (e : H a = some (.frz o (.lst xs))) : TyOf K H (.ref a) (.type "list")
  | tup {a : Addr} {xs : List V} (e : H a = some (.tup xs)) : TyOf K H (.ref a) (.type "tuple")
  | dK {a : Addr} {kvs : List (Key × V)} (e : H a = some (.dK kvs)) : TyOf K H (.ref a) (.type "dict")
  | dT {a : Addr} {kvs : List (List Key × V)} (e : H a = some (.dT kvs)) : TyOf K H (.ref a) (.type "dict")
  | ins {a C dx : Addr} {fs : List (Str × V)} (e : H a = some (.ins C dx fs)) (cl : Cls K C) (ha : PySem.W.findIn K (.ref C) "__class__" = some (some (.builtin "object.__class__")))
      (hn : PySem.W.specialIn K (.builtin "object.__class__") "__get__" = some (some (.builtin "getset_descriptor.__get__"))) (htk : PySem.W.takesIn K (.builtin "object.__class__") = some true)
      (hm : PySem.W.mroIn K C (.type "object") = some true) : TyOf K H (.ref a) (.ref C)
theorem isinst_ok {x : V} {u t : Value} (I : Inv X pins σ H s) (rx : RelV x u) (ty : TyOf X.K H x t) (e : PySem.W.kitOne X.K t c = some b) (h : ∀ tk, Q (.bool b) { s with toks := tk }) :
    wpAny (model X.prog X.w) A (call (.builtin "isinstance") [u, c]) Q E s := by
  cases ty with
  | non => cases (show u = Value.none from rx); exact PySem.W.kia_one PySem.W.kitx_none I.kIn True.intro e (fun z => nomatch z) h
  | bl y => cases (show u = Value.bool y from rx); exact PySem.W.kia_one PySem.W.kitx_bool I.kIn True.intro e (fun z => nomatch z) h
  | int i => obtain ⟨t, q⟩ := (show ∃ t, u = Value.int i t from rx); cases q; exact PySem.W.kia_one PySem.W.kitx_int I.kIn True.intro e (fun z => nomatch z) h
  | str y => obtain ⟨t, q⟩ := (show ∃ t, u = Value.str y t from rx); cases q; exact PySem.W.kia_one PySem.W.kitx_str I.kIn True.intro e (fun z => nomatch z) h
  | flt y => obtain ⟨t, q⟩ := (show ∃ t, u = Value.float y t from rx); cases q; exact PySem.W.kia_one PySem.W.kitx_float I.kIn True.intro e (fun z => nomatch z) h
  | @lst a xs ea =>
    cases (show u = Value.ref a from rx)
    obtain ⟨_, _, n, _, h1⟩ := (show ObjOk X.prog X.w H s.heap a (.lst xs) from I.hok a _ ea)
    exact PySem.W.kia_one PySem.W.kitx_list I.kIn ⟨_, h1, rfl⟩ e (fun z => nomatch z) h
  | @frz a ob xs ea =>
    cases (show u = Value.ref a from rx)
    obtain ⟨_, _, _, n, _, h1⟩ := (show ObjOk X.prog X.w H s.heap a (.frz ob (.lst xs)) from I.hok a _ ea)
    exact PySem.W.kia_one PySem.W.kitx_list I.kIn ⟨_, h1, rfl⟩ e (fun z => nomatch z) h
  | @tup a xs ea =>
    cases (show u = Value.ref a from rx)
    obtain ⟨_, _, _, p⟩ := (show ObjOk X.prog X.w H s.heap a (.tup xs) from I.hok a _ ea)
    obtain ⟨o, h1, h2, _⟩ := p
    exact PySem.W.kia_one PySem.W.kitx_tuple I.kIn ⟨o, h1, h2⟩ e (fun z => nomatch z) h
  | @dK a kvs ea =>
    cases (show u = Value.ref a from rx)
    obtain ⟨_, _, vs, _, p⟩ := (show ObjOk X.prog X.w H s.heap a (.dK kvs) from I.hok a _ ea)
    obtain ⟨o, es, ep, h1, h2, _⟩ := p
    exact PySem.W.kia_one PySem.W.kitx_dict I.kIn ⟨o, h1, h2.1⟩ e (fun z => nomatch z) h
  | @dT a kvs ea =>
    cases (show u = Value.ref a from rx)
    obtain ⟨_, _, xs, _, o, es, ep, h1, h2, _⟩ := (show ObjOk X.prog X.w H s.heap a (.dT kvs) from I.hok a _ ea)
    exact PySem.W.kia_one PySem.W.kitx_dict I.kIn ⟨o, h1, h2.1⟩ e (fun z => nomatch z) h
  | @ins a C dx fs ea cl ha hn htk hm =>
    cases (show u = Value.ref a from rx)
    obtain ⟨mA, O, _⟩ := ins_get I.hok ea
    obtain ⟨od, J, _⟩ := O.look
    exact PySem.W.kia_one (PySem.W.kitx_own (cl.get _) cl.hd ha hn htk hm) I.kIn J e (fun z => nomatch z) h
end
end L2
namespace L2
open PySem PySem.Spec PyProof.Rows
structure Room (k : Nat) (A : Around) : Prop where
  hd : A.handled = none
  dp : A.depth + 3 * k + 5 < recursionLimit
  un : A.units + 16 * k + 200 < cLine
theorem Room.mono {j k : Nat} {A : Around} (r : Room k A) (h : j ≤ k) : Room j A := ⟨r.hd, by have := r.dp; omega, by have := r.un; omega⟩
theorem Room.deeper {k : Nat} {A : Around} (r : Room (k + 1) A) (env : Env) : Room k (A.deeper env) :=
  ⟨r.hd, by have := r.dp; show A.depth + 1 + 3 * k + 5 < _; omega, by have := r.un; show A.units + 3 + 16 * k + 200 < _; omega⟩
theorem make_depth {A : Around} {C : Addr} {us : List Value} {kw : List (Str × Value)} : (A.under (.builtin "type.__call__" ⟨.ref C :: us, kw⟩)).depth = A.depth + 1 := by
  first | rfl | simp [Around.under, Code.weight, Code.isCreation, Code.isGuard, Code.isCaller, Code.frames, Code.isFrame, guardIds]
theorem make_units {A : Around} {C : Addr} {us : List Value} {kw : List (Str × Value)} : (A.under (.builtin "type.__call__" ⟨.ref C :: us, kw⟩)).units = A.units + 1 := by
  first | rfl | simp [Around.under, Code.cUnits, Code.frames, Code.isFrame]
theorem Room.make {k : Nat} {A : Around} (r : Room (k + 1) A) (C : Addr) (us : List Value) (kw : List (Str × Value)) : Room k (A.under (.builtin "type.__call__" ⟨.ref C :: us, kw⟩)) :=
  ⟨r.hd, by have := r.dp; rw [make_depth]; omega, by have := r.un; rw [make_units]; omega⟩
theorem Room.depth {k : Nat} {A : Around} (r : Room k A) : A.depth < recursionLimit := by have := r.dp; omega
theorem Room.units {k : Nat} {A : Around} (r : Room k A) : A.units + 64 < cLine := by have := r.un; omega
def tNil : TA := fun _ H Q => Q [] H
def tCons (ta : TE) (tr : TA) : TA := fun σ H Q => ta σ H fun x H1 => tr σ H1 fun xs H2 => Q (x :: xs) H2
section
variable {X : Cx} {e : Expr} {es : List Expr} {te : TE} {t : TA} {pos : Pos}
theorem pa_nil : PA X [] tNil := fun _ _ _ _ H Q I h => Calls.spliced_nil ⟨[], H, I, .nil, h⟩
theorem pa_cons (ha : PE X e te) (hr : PA X es t) (hs : starEach (e :: es) X.env = (false, eval e X.env) :: starEach es X.env := by rfl) : PA X (e :: es) (tCons te t) := by
  intro pos pins s σ H Q I h
  rw [hs]
  show wpAny _ _ (spliced ((false, eval e X.env) :: backTo pos (starEach es X.env))) _ _ s
  refine Calls.spliced_cons (thn (ha pins s σ H _ I h) fun u s1 ⟨x, H1, I1, r1, q1⟩ => ?_)
  exact thn (hr pos pins s1 σ H1 _ I1 q1) fun us s2 ⟨xs, H2, I2, r2, q2⟩ => ⟨x :: xs, H2, I2, .cons r1 r2, q2⟩
def tTup (t : TA) : TE := fun σ H Q => t σ H fun xs H1 => xs.length ≤ sizeLine ∧ ∀ p, H1 p = none → Q (.ref p) (upd H1 p (.tup xs))
def tLst (t : TA) : TE := fun σ H Q => t σ H fun xs H1 => xs.length ≤ sizeLine ∧ ∀ p, H1 p = none → Q (.ref p) (upd H1 p (.lst xs))
theorem pe_tup {x1} (h : PA X es t) : PE X (.Tuple es x1 pos) (tTup t) := by
  intro pins s σ H Q I hq
  refine wpAny_Tuple_spliced (thn (h pos pins s σ H _ I hq) fun us s1 ⟨xs, H1, I1, r, z, q⟩ => ⟨by rw [← r.length]; exact z, ?_⟩)
  have hf : H1 s1.heap.objs.size = none := I1.hok.fresh (Nat.le_refl _)
  refine ⟨.ref s1.heap.objs.size, upd H1 s1.heap.objs.size (.tup xs), I1.laid (t' := s1.toks) (fun b u e => Heap.get?_push_of_some _ e) (Nat.le_refl _) ?_, rfl, q _ hf⟩
  exact ⟨z, us, r, ⟨_, Heap.get?_push_size _ rfl, rfl, _, rfl⟩⟩
theorem pe_lst (h : PA X es t) : PE X (.List es pos) (tLst t) := by
  intro pins s σ H Q I hq
  refine wpAny_List_spliced (thn (h pos pins s σ H _ I hq) fun us s1 ⟨xs, H1, I1, r, z, q⟩ => ⟨by rw [← r.length]; exact z, ?_⟩)
  have hf : H1 s1.heap.objs.size = none := I1.hok.fresh (Nat.le_refl _)
  refine ⟨.ref s1.heap.objs.size, upd H1 s1.heap.objs.size (.lst xs), I1.laid (t' := s1.toks) (fun b u e => Heap.get?_push_of_some _ e) (Nat.le_refl _) ?_, rfl, q _ hf⟩
  exact ⟨z, us, 0, r, Heap.get?_push_size _ rfl⟩
end
abbrev Sp := List V → Hp → VK → XK → Prop
abbrev CXT := List Env → Hp → Shared → XK → Value → Shared → Prop
structure Env0 (P : Program) (w : World) (K : PySem.W.Frag) (mg : Str → Option Value) (base : Heap) (A : Around) (outer : List Env) (s : Shared) (H : Hp) : Prop where
  frames : A.frames = some outer
  mod : Mod K mg base
  bs : ∀ b o, base.get? b = some o → s.heap.get? b = some o ∧ H b = none
  bsz : base.objs.size ≤ s.heap.objs.size
  funs : s.heap.FunFrames base outer
  frf : ∀ b ∈ frs outer, H b = none
  hok : HOk P w H s.heap
  bare : AllBare s.gens
def CE (outer : List Env) (P : Program) (w : World) (H : Hp) (s : Shared) (Q : VK) (u : Value) (s' : Shared) : Prop :=
  ∃ v H', s'.os = s.os ∧ AllBare s'.gens ∧ Un (frs outer) [] H H' s.heap s'.heap ∧ HOk P w H' s'.heap ∧ RelV v u ∧ Q v H'
def CR (CX : CXT) (outer : List Env) (P : Program) (w : World) (H : Hp) (s : Shared) (Q : VK) (E : XK) (r : Result) (s' : Shared) : Prop :=
  match r with
  | .ok (.ret u) => CE outer P w H s Q u s'
  | .ok _ => False
  | .error e => CX outer H s E e s'
structure FnOk (P : Program) (w : World) (K : PySem.W.Frag) (mg : Str → Option Value) (base : Heap) (CX : CXT) (k : Nat) (f : Addr) (fd : FuncData) (ps : List Str) (sp : Sp) : Prop where
  len : ∀ vs H Q E, sp vs H Q E → vs.length = ps.length
  run : ∀ (A : Around) (outer : List Env) (s : Shared) (H : Hp) (args : Args) (us : List Value) (vs : List V) (Q : VK) (E : XK), Room k A → Env0 P w K mg base A outer s H → BindsTo s fd args (ps.zip us) → Vals vs us → sp vs H Q E →
    codeAny (model P w) A (.call (.ref f) args) (CR CX outer P w H s Q E) s
theorem Env0.make {P : Program} {w : World} {K : PySem.W.Frag} {mg : Str → Option Value} {base : Heap} {A : Around} {outer : List Env} {s : Shared} {H : Hp} (e : Env0 P w K mg base A outer s H) (C : Addr) (us : List Value) (kw : List (Str × Value)) :
    Env0 P w K mg base (A.under (.builtin "type.__call__" ⟨.ref C :: us, kw⟩)) outer s H := ⟨by first | exact e.frames | (simpa [Around.under, Code.envs, Code.isFrame, pushEnvs] using e.frames), e.mod, e.bs, e.bsz, e.funs, e.frf, e.hok, e.bare⟩
section
variable {X : Cx} {pins : List (Addr × Obj)} {σ : St} {H : Hp} {s s' : Shared}
theorem Inv.env0 (I : Inv X pins σ H s) : Env0 X.prog X.w X.K X.mg X.base X.A X.stack s H :=
  ⟨I.ok.frames, I.ok.mod, I.bs, Nat.le_trans I.ok.bsz I.sz, I.stack, I.stkFree, I.hok, I.bare⟩
theorem Inv.after {Q : VK} {u : Value} (I : Inv X pins σ H s) (h : CE X.stack X.prog X.w H s Q u s') : EP X pins σ Q u s' := by
  obtain ⟨v, H', os, bare, un, hok, r, q⟩ := h
  obtain ⟨hh, g, d, t, os'⟩ := s'
  obtain rfl : os' = s.os := os
  exact ⟨v, H', I.call (h' := hh) (g' := g) (d' := d) (t' := t) (ch := []) un hok bare (fun b z => absurd z (by simp)), r, q⟩
end
def Binds (K : PySem.W.Frag) (fd : FuncData) (ps : List Str) (ds : List Value) : Prop :=
  ∀ (s : Shared) (us : List Value), K.In s.heap → (us ++ ds).length = ps.length → BindsTo s fd ⟨us, []⟩ (ps.zip (us ++ ds))
theorem Binds.all {K : PySem.W.Frag} {fd : FuncData} {ps : List Str} (h : ∀ us : List Value, us.length = ps.length → bindArgs fd ⟨us, []⟩ = pure (ps.zip us)) : Binds K fd ps [] := fun s us _ hl => by
  rw [List.append_nil] at hl ⊢
  exact .of_eq (h us hl)
section
variable {X : Cx} {CX : CXT} {k : Nat} {f C : Addr} {fd : FuncData} {ps : List Str} {sp : Sp} {dvs : List V} {ds : List Value} {E : XK} {x m : Str} {p pos apos : Pos} {e o : Expr} {es : List Expr} {ta : TE} {t : TA}
structure Mk (K : PySem.W.Frag) (C f : Addr) : Prop where
  makes : PySem.W.makesIn K C = true
  init : PySem.W.findIn K (.ref C) "__init__" = some (some (.ref f))
  fn : PySem.W.isFn K (.ref f) = true
  kp : PySem.W.keepIn K (.ref C) = true
end
section
variable {X : Cx} {CX : CXT} {k : Nat} {f C : Addr} {fd : FuncData} {ps ks : List Str} {sp : Sp} {E : XK} {x m : Str} {p pos apos kpos : Pos} {e o : Expr} {es : List Expr} {kws : List Keyword} {te ta : TE} {t tk : TA} {nm : Option Str}
variable {g : List Value → List Value → List Value} {gV : List V → List V → List V}
end
structure FnScope (N P : List Str) (sc : Scope) : Prop where
  kind : sc.kind = .function
  co : sc.isCoroutine = false
  gen : sc.isGenerator = false
  nd : N.Nodup
  pre : N.take P.length = P
  par : ∀ x ∈ P, sc.names.lookup x = some .local ∨ sc.names.lookup x = some .cell
  nofree : ∀ y ∈ sc.names, y.2 ≠ .free
theorem bindL_out {kindOf : Str → Option NameKind} {x : Str} : ∀ {binds : List (Str × Value)} {m : Str → Option Value}, (∀ v, (x, v) ∉ binds) → bindL kindOf binds m x = m x
  | [], _, _ => rfl
  | (n, v) :: r, m, h => by
    unfold bindL
    rw [bindL_out fun w hw => h w (List.mem_cons_of_mem _ hw)]
    split
    · have : x ≠ n := by rintro rfl; exact h v List.mem_cons_self
      simp [this]
    · rfl
theorem bindC_out {kindOf : Str → Option NameKind} {x : Str} : ∀ {binds : List (Str × Value)} {m : Str → Option Value}, (∀ v, (x, v) ∉ binds) → bindC kindOf binds m x = m x
  | [], _, _ => rfl
  | (n, v) :: r, m, h => by
    unfold bindC
    rw [bindC_out fun w hw => h w (List.mem_cons_of_mem _ hw)]
    split
    · rfl
    · have : x ≠ n := by rintro rfl; exact h v List.mem_cons_self
      simp [this]
theorem bindL_get {kindOf : Str → Option NameKind} {x : Str} {v : Value} : ∀ {P : List Str} {vs : List Value} {i : Nat} {m : Str → Option Value}, P.Nodup → P[i]? = some x → vs[i]? = some v → kindOf x = some .local →
    bindL kindOf (P.zip vs) m x = some v
  | [], _, _, _, _, h, _, _ => by simp at h
  | _ :: _, [], _, _, _, _, h, _ => by simp at h
  | p :: P, w :: vs, 0, m, nd, h1, h2, hk => by
    simp at h1 h2; subst h1; subst h2
    show bindL kindOf ((p, w) :: P.zip vs) m p = _
    unfold bindL
    rw [bindL_out fun v hv => (List.nodup_cons.mp nd).1 (List.of_mem_zip hv).1, if_pos hk]
    simp
  | p :: P, w :: vs, i + 1, m, nd, h1, h2, hk => by
    show bindL kindOf ((p, w) :: P.zip vs) m x = _
    unfold bindL
    exact bindL_get (i := i) (List.nodup_cons.mp nd).2 (by simpa using h1) (by simpa using h2) hk
theorem bindC_get {kindOf : Str → Option NameKind} {x : Str} {v : Value} : ∀ {P : List Str} {vs : List Value} {i : Nat} {m : Str → Option Value}, P.Nodup → P[i]? = some x → vs[i]? = some v → kindOf x ≠ some .local →
    bindC kindOf (P.zip vs) m x = some v
  | [], _, _, _, _, h, _, _ => by simp at h
  | _ :: _, [], _, _, _, _, h, _ => by simp at h
  | p :: P, w :: vs, 0, m, nd, h1, h2, hk => by
    simp at h1 h2; subst h1; subst h2
    show bindC kindOf ((p, w) :: P.zip vs) m p = _
    unfold bindC
    rw [bindC_out fun v hv => (List.nodup_cons.mp nd).1 (List.of_mem_zip hv).1, if_neg hk]
    simp
  | p :: P, w :: vs, i + 1, m, nd, h1, h2, hk => by
    show bindC kindOf ((p, w) :: P.zip vs) m x = _
    unfold bindC
    exact bindC_get (i := i) (List.nodup_cons.mp nd).2 (by simpa using h1) (by simpa using h2) hk
def start (N : List Str) (vs : List V) : St := vs.map some ++ List.replicate (N.length - vs.length) none
def cxOf (CX : CXT) (P : Program) (w : World) (K : PySem.W.Frag) (mg : Str → Option Value) (base : Heap) (N : List Str) (qual : Str) (scope : Scope) (f : Addr) (cd : Value) (A : Around) (outer : List Env) (s : Shared) (H : Hp) (E : XK) : Cx where
  prog := P
  w := w
  K := K
  mg := mg
  base := base
  A := A.deeper (envOfC qual scope s.heap.objs.size f cd)
  N := N
  s₀ := s
  H₀ := H
  env := envOfC qual scope s.heap.objs.size f cd
  outer := outer
  stack := envOfC qual scope s.heap.objs.size f cd :: outer
  ex := []
  calm := true
  fn := fun _ => true
  pn := []
  xe := fun e s' => wpAny (model P w) (A.deeper (envOfC qual scope s.heap.objs.size f cd)) (leaving (envOfC qual scope s.heap.objs.size f cd) e) (fun _ s'' => CX outer H s E e s'') (fun e' s'' => CX outer H s E e' s'') s'
theorem cell_has {sc : Scope} {n : Nat} {x : Str} (h : sc.names.lookup x = some .cell) : ∃ c, (cellsFrom n sc.names []).lookup x = some c := by
  have q := PySem.W.cellsFrom_some sc.names n [] (.inl h)
  exact Option.isSome_iff_exists.mp q
theorem inv_start {CX : CXT} {P : Program} {w : World} {K : PySem.W.Frag} {mg : Str → Option Value} {base : Heap} {N ps : List Str} {qual : Str} {scope : Scope} {f : Addr} {cd : Value} {A : Around} {outer : List Env} {s s1 : Shared} {H : Hp} {E : XK} {us : List Value} {vs : List V}
    (S : FnScope N ps scope) (hd : A.handled = none) (e0 : Env0 P w K mg base A outer s H) (hl : vs.length = ps.length) (r : Vals vs us)
    (x : InCallC s s.heap.objs.size (bindL (envOfC qual scope s.heap.objs.size f cd).kindOf (ps.zip us) fun _ => none) (cellsFrom (s.heap.objs.size + 1) scope.names []) (bindC (envOfC qual scope s.heap.objs.size f cd).kindOf (ps.zip us) fun _ => none) s1) :
    Inv (cxOf CX P w K mg base N qual scope f cd A outer s H E) [] (start N vs) H s1 := by
  have hpl : ps.length ≤ N.length := by have := congrArg List.length S.pre; rw [List.length_take] at this; omega
  obtain ⟨h1, tk, rfl, hk⟩ := x.done
  have noA : ∀ b : Addr, b ∉ (cxOf CX P w K mg base N qual scope f cd A outer s H E).ex := fun b z => absurd (show b ∈ ([] : List Addr) from z) (by simp)
  refine ⟨⟨e0.mod, S.kind, rfl, rfl, Nat.le_refl _, fun y z c h1 h2 => ?_, fun y hy => ?_, fun y c _ h => ?_, fun _ => hd, Around.frames_deeper e0.frames, .inr ⟨rfl, rfl⟩, fun b z => absurd z (noA b), e0.bs, e0.bsz, fun b _ _ => noA b, fun b z => absurd z (noA b), e0.funs, e0.frf⟩,
    rfl, e0.bare, Un.kept hk, ⟨_, x.toInCall.ns, fun i y v h1 h2 h3 => ?_⟩, fun y c h => ⟨_, x.cell y c h⟩, e0.hok.fresh (Nat.le_refl _), fun y c h => ?_, fun p hp => absurd (show p ∈ ([] : List (Addr × Obj)) from hp) (by simp), e0.hok.kept hk, ?_⟩
  · exact name_of_addr x.apart (PySem.mem_of_lookup h1) (PySem.mem_of_lookup h2)
  · have hy : scope.names.lookup y = some .cell ∨ scope.names.lookup y = some .free := hy
    rcases hy with hy | hy
    · exact cell_has hy
    · exact absurd rfl (S.nofree _ (PySem.mem_of_lookup hy))
  · exact Nat.le_of_lt (x.above y c (PySem.mem_of_lookup h))
  · have hi : i < vs.length := by
      unfold start at h2
      by_cases hi : i < vs.length
      · exact hi
      · rw [List.getElem?_append_right (by simpa using hi)] at h2
        rw [List.getElem?_replicate] at h2
        split at h2 <;> cases h2
    have ha : vs[i]? = some v := by
      unfold start at h2
      rw [List.getElem?_append_left (by simpa using hi), List.getElem?_map] at h2
      cases e : vs[i]? with
      | none => rw [e] at h2; cases h2
      | some a => rw [e] at h2; cases h2; rfl
    obtain ⟨u, hu, rv⟩ := r.get ha
    have hp : ps[i]? = some y := by
      rw [← S.pre, List.getElem?_take_of_lt (by omega)]; exact h1
    have ndP : ps.Nodup := by rw [← S.pre]; exact S.nd.sublist (List.take_sublist _ _)
    refine ⟨u, rv, ?_⟩
    rcases S.par y (List.mem_of_getElem? hp) with k | k
    · exact .inl ⟨k, bindL_get ndP hp hu k⟩
    · obtain ⟨c, e⟩ := cell_has (n := s.heap.objs.size + 1) k
      refine .inr ⟨.inl k, c, e, ?_⟩
      have q := x.cell y c e
      rw [bindC_get ndP hp hu (by show scope.names.lookup y ≠ _; rw [k]; decide)] at q
      exact q
  · exact e0.hok.fresh (Nat.le_of_lt (x.above y c (PySem.mem_of_lookup h)))
  · unfold start
    show _ = N.length
    rw [List.length_append, List.length_map, List.length_replicate]
    omega
theorem fn_of {CX : CXT} {P : Program} {w : World} {K : PySem.W.Frag} {mg : Str → Option Value} {base : Heap} {k : Nat} {f : Addr} {name qual : Str} {params : Arguments} {body : List Stmt} {scope : Scope} {dV kV doc pm cdv ct oc : Value} {an od : Option Addr}
    {osl : Array (Option Value)} {N ps : List Str} {sp : Sp} (lk : K.lookup f = some ⟨oc, od, .func (PySem.W.fnOf name qual params body scope dV kV doc pm an cdv ct), osl⟩) (hcd : PySem.W.codeIn K cdv qual = true) (S : FnScope N ps scope)
    (len : ∀ vs H Q E, sp vs H Q E → vs.length = ps.length)
    (hbody : ∀ (A : Around) (outer : List Env) (s : Shared) (H : Hp) (vs : List V) (Q : VK) (E : XK), Room k (A.deeper (envOfC qual scope s.heap.objs.size f cdv)) → sp vs H Q E →
      ∃ t, PSs (cxOf CX P w K mg base N qual scope f cdv A outer s H E) body t ∧ t { nx := fun _ H' => Q .non H', rt := Q } (start N vs) H) :
    FnOk P w K mg base CX (k + 1) f (PySem.W.fnOf name qual params body scope dV kV doc pm an cdv ct) ps sp := by
  refine ⟨len, fun A outer s H args us vs Q E hr e0 hb r hsp => ?_⟩
  have hl := len _ _ _ _ hsp
  have KX : K.In s.heap := e0.mod.kin.keeps fun b o e => (e0.bs b o e).1
  have lim : s.heap.NoLimit := e0.mod.nolimit.keeps fun b o e => (e0.bs b o e).1
  have hkind : ∀ y ∈ ps.zip us, scope.names.lookup y.1 = some .local ∨ (scope.names.lookup y.1 = some .cell ∧ ((cellsFrom (s.heap.objs.size + 1) scope.names []).lookup y.1).isSome = true) := fun ⟨n, v⟩ hy => by
    rcases S.par n (List.of_mem_zip hy).1 with q | q
    · exact .inl q
    · exact .inr ⟨q, PySem.W.cellsFrom_some _ _ _ (.inl q)⟩
  refine codeAny_call_function hr.depth (KX _ _ lk) rfl S.co S.gen rfl (PySem.W.codeRec_of KX hcd) (hb _ _ _ _ ?_)
  refine wpAny_newFunctionEnv_cells S.kind hkind fun env he s1 x => ?_
  subst he
  refine ⟨lim.keeps x.toInCall.keep, codeAny_func ?_⟩
  obtain ⟨t, ht, hq⟩ := hbody A outer s H vs Q E (hr.deeper _) hsp
  have I : Inv (cxOf CX P w K mg base N qual scope f cdv A outer s H E) [] (start N vs) H s1 := inv_start S hr.hd e0 hl r x
  refine wpAny_mono (ht [] s1 (start N vs) H _ I hq) (fun fl s' hs => ?_) fun e s' hs => hs
  have fin : ∀ {σ' : St} {H' : Hp} {v : V} {u : Value}, Inv (cxOf CX P w K mg base N qual scope f cdv A outer s H E) [] σ' H' s' → RelV v u → Q v H' → CE outer P w H s Q u s' :=
    fun {σ' H' v u} J rv q => ⟨v, H', J.os, J.bare, J.base, J.hok, rv, q⟩
  cases fl with
  | ret u =>
    obtain ⟨v, σ', H', J, rv, q⟩ := hs
    exact fin J rv q
  | next =>
    obtain ⟨σ', H', J, q⟩ := hs
    exact fin (v := V.non) (u := Value.none) J rfl q
  | brk =>
    obtain ⟨_, _, _, q⟩ := hs
    exact False.elim q
  | cont =>
    obtain ⟨_, _, _, q⟩ := hs
    exact False.elim q
end L2
namespace L2
open PySem PySem.Spec PyProof.Rows
section
variable {X : Cx} {x : Str} {p pos : Pos} {e : Expr} {es : List Expr} {t : TA} {id T : String} {r : List V → Hp → VK → Prop}
def tCB (r : List V → Hp → VK → Prop) (t : TA) : TE := fun σ H Q => t σ H fun vs H1 => r vs H1 Q
theorem pe_callB (hc : CallR X (.builtin id) r) (hg : Gl X x) (hm : X.mg x = none) (hv : bootBuiltins x = some (.builtin id)) (ha : PA X (e :: es) t) (hn : x ≠ "__name__" := by decide) (hdb : (x == ("__debug__" : Str)) = false := by decide)
    (he : starEach (e :: es) X.env = (false, eval e X.env) :: starEach es X.env := by rfl) (hpl : (backTo pos (starEach es X.env)).any (·.1) = false := by rfl) : PE X (.Call (.Name x p) (e :: es) [] pos) (tCB r t) := by
  intro pins s σ H Q I h
  refine wpAny_Call_Name_kw (ld_blt I hg hm hv ?_ hn hdb)
  exact PyProof.Rows.callWith_builtin1 (thn (ha pos pins s σ H _ I h) fun us s1 ⟨vs, H1, I1, r1, q1⟩ => hc pins s1 σ H1 vs us Q I1 r1 q1) he hpl
theorem pe_callTy (hc : CallR X (.type T) r) (hg : Gl X x) (hm : X.mg x = none) (hv : bootBuiltins x = some (.type T)) (ha : PA X (e :: es) t) (hn : x ≠ "__name__" := by decide) (hdb : (x == ("__debug__" : Str)) = false := by decide)
    (he : starEach (e :: es) X.env = (false, eval e X.env) :: starEach es X.env := by rfl) (hpl : (backTo pos (starEach es X.env)).any (·.1) = false := by rfl) : PE X (.Call (.Name x p) (e :: es) [] pos) (tCB r t) := by
  intro pins s σ H Q I h
  refine wpAny_Call_Name_kw (ld_blt I hg hm hv ?_ hn hdb)
  exact PyProof.Rows.callWith_type1 (thn (ha pos pins s σ H _ I h) fun us s1 ⟨vs, H1, I1, r1, q1⟩ => hc pins s1 σ H1 vs us Q I1 r1 q1) he hpl
end
end L2
namespace HT
open PySem PyProof.Rows
section
open PySem.SeqAt
open PySem.AutoSeq1 (wpAny_loadPart')
open PySem.MeetsSeq PySem.MeetsSeq2 PySem.MeetsSeq3
end
section
variable {prog : Program} {w : World} {A : Around} {E : Value → Shared → Prop} {s : Shared}
theorem cat_tup {t b : Addr} {vs ws : List Value} {Q : Value → Shared → Prop} (ht : IsTup s.heap t vs.toArray) (hb : IsTup s.heap b ws.toArray) (hv : vs ≠ [])
    (h1 : ws = [] → Q (.ref t) s) (h2 : ws ≠ [] → Q (.ref s.heap.objs.size) { s with heap := s.heap.push { cls := .type "tuple", data := .seq (vs ++ ws).toArray } })
    (hsz : vs.length + ws.length ≤ sizeLine) : wpAny (model prog w) A (binaryOp .Add (.ref t) (.ref b)) Q E s := by
  obtain ⟨⟨cls, dd, data, sl⟩, ho, hc, n, hd⟩ := id ht
  obtain ⟨⟨cls2, dd2, data2, sl2⟩, ho2, hc2, n2, hd2⟩ := id hb
  simp only at hc hd hc2 hd2
  subst hc hd hc2 hd2
  have e : vs.toArray ++ ws.toArray = (vs ++ ws).toArray := by simp
  by_cases hw : ws = []
  · exact concat_meets ⟨_, ho, rfl⟩ ⟨_, ho2, rfl⟩ noFill_tuple_add seq_tuple_add PySem.F.slot_tuple_add PySem.F.entry_tuple_add (PySem.F.args_tuple_add_2 _ _)
      (tuple_addW1 t b vs.toArray ws.toArray n n2 dd dd2 sl sl2 (by simpa using hv) (by simp [hw])) ⟨ho, ho2, h1 hw⟩
  · refine concat_meets ⟨_, ho, rfl⟩ ⟨_, ho2, rfl⟩ noFill_tuple_add seq_tuple_add PySem.F.slot_tuple_add PySem.F.entry_tuple_add (PySem.F.args_tuple_add_2 _ _)
      (tuple_addW2 t b vs.toArray ws.toArray n n2 dd dd2 sl sl2 (by simpa using hv) (by simpa using hw) (by rw [List.size_toArray, List.size_toArray]; exact hsz)) ⟨ho, ho2, ?_⟩
    rw [e]
    exact h2 hw
def sIx (n d : Nat) : Option Int → Nat
  | none => d
  | some v => if v < 0 then (v + (n : Int)).toNat else min v.toNat n
theorem sIx_none (n d : Nat) : sIx n d none = d := rfl
theorem sIx_nat (n d k : Nat) : sIx n d (some (k : Int)) = min k n := by
  show (if (k : Int) < 0 then ((k : Int) + (n : Int)).toNat else min (k : Int).toNat n) = min k n
  rw [if_neg (by omega), Int.toNat_natCast]
theorem sIx_le (n d : Nat) (hd : d ≤ n) (o : Option Int) : sIx n d o ≤ n := by
  cases o with
  | none => exact hd
  | some v =>
    show (if v < 0 then (v + (n : Int)).toNat else min v.toNat n) ≤ n
    by_cases hv : v < 0
    · rw [if_pos hv]; omega
    · rw [if_neg hv]; exact Nat.min_le_right _ _
theorem clip_eq (v : Int) (n d : Nat) : (if v < 0 then max (v + (n : Int)) 0 else min v (n : Int)) = ((sIx n d (some v) : Nat) : Int) := by
  show (if v < 0 then max (v + (n : Int)) 0 else min v (n : Int)) = (((if v < 0 then (v + (n : Int)).toNat else min v.toNat n) : Nat) : Int)
  by_cases hv : v < 0
  · simp only [if_pos hv]; omega
  · simp only [if_neg hv]; omega
theorem adjust_gen (lo hi : Option Int) (n : Nat) : Builtin.Slice.sliceAdjust lo hi 1 (n : Int) = (((sIx n 0 lo : Nat) : Int), ((sIx n n hi : Nat) : Int)) := by
  have h1 : ¬ ((1 : Int) < 0) := by omega
  unfold Builtin.Slice.sliceAdjust
  simp only [h1, if_false]
  refine Prod.ext ?_ ?_
  · cases lo with
    | none => rfl
    | some v => exact clip_eq v n 0
  · cases hi with
    | none => rfl
    | some v => exact clip_eq v n n
theorem places_gen (i j : Nat) : Builtin.Slice.slicePlaces (i : Int) (j : Int) 1 = j - i := by
  unfold Builtin.Slice.slicePlaces
  have h1 : (1 : Int) > 0 := by omega
  simp only [h1, if_true, Int.ediv_one]
  split <;> omega
theorem slicePart_ {v : Value} {o : Option Int} {Q : Option Int → Shared → Prop} (p : IsPart v o) (h : Q o s) : wpAny (model prog w) A (Builtin.Slice.slicePartIndex v) Q E s := by
  cases p with
  | none => exact slicePart_none h
  | int i t => exact slicePart_int h
theorem sliceApplied_gen {sl : Addr} {vl vu : Value} {lo hi : Option Int} {n : Nat} {Q : Int × Int × Nat → Shared → Prop} (hs : s.heap.IsSliceOf sl vl vu .none) (pl : IsPart vl lo) (pu : IsPart vu hi)
    (h : Q (((sIx n 0 lo : Nat) : Int), 1, sIx n n hi - sIx n 0 lo) s) : wpAny (model prog w) A (Builtin.Slice.sliceApplied (.ref sl) (pure (n : Int))) Q E s := by
  obtain ⟨os, hos, hcs, hds⟩ := id hs
  unfold Builtin.Slice.sliceApplied Builtin.Slice.sliceFields
  refine wpAny_bind (wpAny_bind (wpAny_field hos hds (x := vl) rfl (wpAny_bind (wpAny_field hos hds (x := vu) rfl (wpAny_bind (wpAny_field hos hds (x := .none) rfl (wpAny_pure ?_)))))))
  refine wpAny_bind (slicePart_none ?_)
  show wpAny _ _ (if ((1 : Int) == 0) = true then _ else _) _ _ s
  rw [if_neg (by decide)]
  refine wpAny_bind (slicePart_ pl (wpAny_bind (slicePart_ pu (wpAny_bind (wpAny_pure ?_)))))
  show wpAny _ _ (match Builtin.Slice.sliceAdjust lo hi 1 (n : Int) with | (lo, hi) => pure (lo, (1 : Int), Builtin.Slice.slicePlaces lo hi 1)) _ _ s
  rw [adjust_gen lo hi n]
  show wpAny _ _ (pure (((sIx n 0 lo : Nat) : Int), (1 : Int), Builtin.Slice.slicePlaces ((sIx n 0 lo : Nat) : Int) ((sIx n n hi : Nat) : Int) 1)) _ _ s
  rw [places_gen]
  exact wpAny_pure h
theorem pick_gen (xs : Array Value) (i k : Nat) : ((List.range k).filterMap fun (m : Nat) => xs[((i : Int) + (m : Int) * 1).toNat]?).toArray = ((xs.toList.drop i).take k).toArray := by
  have e : (fun (m : Nat) => xs[((i : Int) + (m : Int) * 1).toNat]?) = fun m => xs[i + m]? := by
    funext m
    have : ((i : Int) + (m : Int) * 1).toNat = i + m := by omega
    rw [this]
  rw [e]
  have := pick_run xs i k
  rw [List.filterMap_map] at this
  have e2 : ((fun x => xs[x]?) ∘ fun x => i + x) = fun m => xs[i + m]? := rfl
  rw [e2] at this
  rw [this]
theorem getItem_tuple_cut {t sl : Addr} {items : Array Value} {vl vu : Value} {lo hi : Option Int} {Q : Value → Shared → Prop} (ht : IsTup s.heap t items) (hs : s.heap.IsSliceOf sl vl vu .none) (pl : IsPart vl lo) (pu : IsPart vu hi)
    (hw : ¬ (sIx items.size 0 lo = 0 ∧ sIx items.size items.size hi = items.size))
    (h : Q (.ref s.heap.objs.size) { s with heap := s.heap.push { cls := .type "tuple", data := .seq ((items.toList.drop (sIx items.size 0 lo)).take (sIx items.size items.size hi - sIx items.size 0 lo)).toArray } })
    (hsz : items.size ≤ sizeLine) : wpAny (model prog w) A (getItem (.ref t) (.ref sl)) Q E s := by
  have htake : sizeOk (.seq ((items.toList.drop (sIx items.size 0 lo)).take (sIx items.size items.size hi - sIx items.size 0 lo)).toArray) := by
    show ((items.toList.drop (sIx items.size 0 lo)).take (sIx items.size items.size hi - sIx items.size 0 lo)).toArray.size ≤ sizeLine
    rw [List.size_toArray, List.length_take, List.length_drop, Array.length_toList]
    omega
  have hj : sIx items.size items.size hi ≤ items.size := sIx_le _ _ (Nat.le_refl _) hi
  obtain ⟨os, hos, hcs, hds⟩ := id hs
  have hTs : s.TypeIs (.ref sl) "slice" := ⟨os, hos, hcs⟩
  unfold getItem
  try with_reducible refine wpAny_holding ?_
  first | refine wpAny_bind (wpAny_pure ?_) | skip
  refine wpAny_bind (wpAny_sequenceKey ht.typeIs (by decide) ?_)
  refine wpAny_bind (wpAny_callSpecial?_slot (name := Str.ofString "__getitem__") ht.typeIs PyProof.Rows.slot_tuple_getitem
    (wpAny_call_entry PyProof.Rows.slot_tuple_getitem ht.typeIs entry_tuple_getitem ?_ (args_tuple_getitem _ _)))
  show wpAny _ _ (Builtin.Tuple.tupleItemsOf (.ref t) >>= _) _ _ s
  refine wpAny_bind (tupleItemsOf_ ht ?_)
  refine wpAny_bind (wpAny_typeOf hTs ?_)
  rw [if_pos (by decide)]
  refine wpAny_bind (sliceApplied_gen hs pl pu ?_)
  have hno : ¬ ((((sIx items.size 0 lo : Nat) : Int) == 0 && (1 : Int) == 1 && (sIx items.size items.size hi - sIx items.size 0 lo) == items.size) = true) := by
    intro q
    rw [Bool.and_eq_true, Bool.and_eq_true] at q
    have q1 : ((sIx items.size 0 lo : Nat) : Int) = 0 := eq_of_beq q.1.1
    have q2 : sIx items.size items.size hi - sIx items.size 0 lo = items.size := eq_of_beq q.2
    exact hw ⟨by omega, by omega⟩
  show wpAny _ _ (if (((sIx items.size 0 lo : Nat) : Int) == 0 && (1 : Int) == 1 && (sIx items.size items.size hi - sIx items.size 0 lo) == items.size) = true then _ else _) _ _ s
  rw [if_neg hno, pick_gen]
  first
    | exact wpAny_bind (m := Builtin.Tuple.tupleExact _) (wpAny_newObj_type (wpAny_pure ⟨_, rfl, wpAny_pure h⟩) htake)
    | exact wpAny_bind (m := Builtin.Tuple.tupleExact _) (wpAny_newObj_type (wpAny_bind (wpAny_pure (wpAny_pure ⟨_, rfl, wpAny_pure h⟩))) htake)
    | exact wpAny_bind (wpAny_bind (m := Builtin.Tuple.tupleExact _) (wpAny_newObj_type (wpAny_pure (wpAny_pure ⟨_, rfl, wpAny_pure h⟩)) htake))
    | exact wpAny_bind (wpAny_bind (m := Builtin.Tuple.tupleExact _) (wpAny_newObj_type (wpAny_pure ⟨_, rfl, wpAny_pure h⟩) htake))
end
end HT
namespace L2
open PySem PySem.Spec PyProof.Rows
abbrev TO := St → Hp → (Option Int → Hp → Prop) → Prop
def PO (X : Cx) (e : Option Expr) (t : TO) : Prop :=
  ∀ (pins : List (Addr × Obj)) (s : Shared) (σ : St) (H : Hp) (Q : Option Int → Hp → Prop), Inv X pins σ H s → t σ H Q →
    wpAny (model X.prog X.w) X.A (evalPart e X.env) (fun u s' => ∃ o H', Inv X pins σ H' s' ∧ IsPart u o ∧ Q o H') X.xe s
def tNoPart : TO := fun _ H Q => Q none H
def tPart (t : TE) : TO := fun σ H Q => t σ H fun x H1 => ∃ i, x = .int i ∧ Q (some i) H1
theorem intsAre_of {ns : List Int} : ∀ {us : List Value}, Vals (ns.map V.int) us → IntsAre us ns := by
  induction ns with
  | nil => intro us r; rw [List.map_nil] at r; cases r; exact .nil
  | cons n ns ih =>
    intro us r
    rw [List.map_cons] at r
    cases r with
    | cons r1 r2 =>
      obtain ⟨t, e⟩ := r1
      subst e
      exact .cons n t (ih r2)
section
variable {X : Cx} {e : Expr} {te : TE} {lo hi : Option Expr} {tl th : TO} {pos p2 : Pos}
theorem po_none : PO X none tNoPart := by
  intro pins s σ H Q I h
  rw [evalPart_none]
  exact wpAny_pure ⟨none, H, I, .none, h⟩
theorem po_some (h : PE X e te) : PO X (some e) (tPart te) := by
  intro pins s σ H Q I hw
  rw [evalPart_some]
  refine thn (h pins s σ H _ I hw) fun u s1 ⟨x, H1, I1, r1, q1⟩ => ?_
  obtain ⟨i, rfl, q⟩ := q1
  obtain ⟨t, rfl⟩ := r1
  exact ⟨some i, H1, I1, .int i t, q⟩
def SlR (X : Cx) (r : V → Option Int → Option Int → Hp → VK → Prop) : Prop :=
  ∀ (pins : List (Addr × Obj)) (s : Shared) (σ : St) (H : Hp) (x : V) (v vl vu : Value) (lo hi : Option Int) (sl : Addr) (Q : VK), Inv X pins σ H s → RelV x v → s.heap.IsSliceOf sl vl vu .none → IsPart vl lo → IsPart vu hi → r x lo hi H Q →
    ∃ T id, typeLookup (.type T) "__getitem__" = pure (some (.builtin id)) ∧ s.TypeIs v T ∧ wpAny (model X.prog X.w) X.A (getItem v (.ref sl)) (EP X pins σ Q) X.xe s
theorem SlR.or {r r' : V → Option Int → Option Int → Hp → VK → Prop} (h : SlR X r) (h' : SlR X r') : SlR X (fun x lo hi H Q => r x lo hi H Q ∨ r' x lo hi H Q) := by
  intro pins s σ H x v vl vu lo hi sl Q I rx hs pl pu q
  rcases q with q | q
  · exact h pins s σ H x v vl vu lo hi sl Q I rx hs pl pu q
  · exact h' pins s σ H x v vl vu lo hi sl Q I rx hs pl pu q
def tSl (r : V → Option Int → Option Int → Hp → VK → Prop) (te : TE) (tl th : TO) : TE := fun σ H Q => te σ H fun x H1 => tl σ H1 fun l H2 => th σ H2 fun u H3 => r x l u H3 Q
theorem pe_slice {r : V → Option Int → Option Int → Hp → VK → Prop} (hr : SlR X r) (he : PE X e te) (hl : PO X lo tl) (hu : PO X hi th) : PE X (.Subscript e (.Slice lo hi none p2) pos) (tSl r te tl th) := by
  intro pins s σ H Q I h
  refine Subscript_ (thn (he pins s σ H _ I h) fun v s1 ⟨x, H1, I1, r1, q1⟩ => ?_)
  refine wpAny_Slice (thn (hl pins s1 σ H1 _ I1 q1) fun vl s2 ⟨l, H2, I2, pl, q2⟩ => thn (hu pins s2 σ H2 _ I2 q2) fun vu s3 ⟨u, H3, I3, pu, q3⟩ => ?_)
  rw [evalPart_none]
  refine wpAny_pure ?_
  have I4 : Inv X pins σ H3 { s3 with heap := s3.heap.push { cls := .type "slice", data := .fields #[vl, vu, .none] } } := I3.kept (t' := s3.toks) fun b ob q => Heap.get?_push_of_some _ q
  obtain ⟨T, id, hT, ht, hg⟩ := hr pins { s3 with heap := s3.heap.push { cls := .type "slice", data := .fields #[vl, vu, .none] } } σ H3 x v vl vu l u s3.heap.objs.size Q I4 r1 (Heap.IsSliceOf.new ..) pl pu q3
  show wpAny (model X.prog X.w) X.A (subscriptTail e (.Slice lo hi none p2) v (.ref s3.heap.objs.size)) (EP X pins σ Q) X.xe { s3 with heap := s3.heap.push { cls := .type "slice", data := .fields #[vl, vu, .none] } }
  exact tail_any (ops := [.ref s3.heap.objs.size, v]) ht hT hg (by with_unfolding_all rfl)
def cutV (xs : List V) (lo hi : Option Int) : List V := (xs.drop (HT.sIx xs.length 0 lo)).take (HT.sIx xs.length xs.length hi - HT.sIx xs.length 0 lo)
theorem cutV_length (xs : List V) (lo hi : Option Int) : (cutV xs lo hi).length ≤ xs.length := by
  unfold cutV
  rw [List.length_take, List.length_drop]
  omega
def rSlT (K : PySem.W.Frag) : V → Option Int → Option Int → Hp → VK → Prop := fun x lo hi H Q => ∃ a xs, x = .ref a ∧ SqT K H a xs ∧
  ¬ (HT.sIx xs.length 0 lo = 0 ∧ HT.sIx xs.length xs.length hi = xs.length) ∧ ∀ p, H p = none → Q (.ref p) (upd H p (.tup (cutV xs lo hi)))
theorem sl_tup : SlR X (rSlT X.K) := by
  intro pins s σ H x v vl vu lo hi sl Q I rx hs pl pu h
  obtain ⟨a, xs, rfl, hx, hw, q⟩ := h
  cases rx
  obtain ⟨its, r, ht, hz⟩ := I.tuple hx
  have hlen : its.toArray.size = xs.length := by rw [List.size_toArray]; exact r.length.symm
  refine ⟨"tuple", _, PyProof.Rows.slot_tuple_getitem.lookup, ht.typeIs, ?_⟩
  refine HT.getItem_tuple_cut ht hs pl pu (by rw [hlen]; exact hw) ?_ (by rw [hlen]; exact hz)
  rw [hlen]
  refine ⟨.ref s.heap.objs.size, _, I.laid (t' := s.toks) (o := .tup (cutV xs lo hi)) (fun b ob q => Heap.get?_push_of_some _ q) (Nat.le_refl _) ?_, rfl, q _ (I.hok.fresh (Nat.le_refl _))⟩
  exact ⟨Nat.le_trans (cutV_length xs lo hi) hz, _, (r.drop (HT.sIx xs.length 0 lo)).take (HT.sIx xs.length xs.length hi - HT.sIx xs.length 0 lo), IsTup.new _ _⟩
def rCatT (K : PySem.W.Frag) : R2 := fun x y H Q => ∃ a b xs ys, x = .ref a ∧ y = .ref b ∧ SqT K H a xs ∧ SqT K H b ys ∧ xs ≠ [] ∧ xs.length + ys.length ≤ sizeLine ∧
  (ys = [] → Q (.ref a) H) ∧ (ys ≠ [] → ∀ p, H p = none → Q (.ref p) (upd H p (.tup (xs ++ ys))))
theorem Vals.nil_iff {xs : List V} {us : List Value} (r : Vals xs us) : us = [] ↔ xs = [] := by
  cases r with
  | nil => simp
  | cons _ _ => simp
theorem op_catT : OpR X (binaryOp .Add) (rCatT X.K) := by
  intro pins s σ H x y v u Q I rx ry h
  obtain ⟨a, b, xs, ys, rfl, rfl, ha, hb, hx, hz, q1, q2⟩ := h
  cases rx
  cases ry
  obtain ⟨its, r1, p1, _⟩ := I.tuple ha
  obtain ⟨its2, r2, p2, _⟩ := I.tuple hb
  refine HT.cat_tup p1 p2 (fun z => hx (r1.nil_iff.mp z)) (fun z => ⟨.ref a, H, I, rfl, q1 (r2.nil_iff.mp z)⟩) (fun z => ?_) (by rw [← r1.length, ← r2.length]; exact hz)
  refine ⟨.ref s.heap.objs.size, _, I.laid (t' := s.toks) (o := .tup (xs ++ ys)) (fun b ob q => Heap.get?_push_of_some _ q) (Nat.le_refl _) ?_, rfl, q2 (fun w => z (r2.nil_iff.mpr w)) _ (I.hok.fresh (Nat.le_refl _))⟩
  exact ⟨by rw [List.length_append]; exact hz, _, r1.append r2, IsTup.new _ _⟩
end
end L2
namespace L2
open PySem PySem.Spec PyProof.Rows
def ixN (n : Nat) (i : Int) : Option Nat := if 0 ≤ i then (if i < n then some i.toNat else none) else if -(n : Int) ≤ i then some (i + n).toNat else none
def atI {α : Type} (xs : List α) (i : Int) : Option α := (ixN xs.length i).bind fun j => xs[j]?
theorem ixN_seq {n : Nat} {i : Int} {j : Nat} (h : ixN n i = some j) : seqIndex? i n = some j ∧ j < n ∧ -(n : Int) ≤ i ∧ i < n := by
  unfold ixN at h
  by_cases h0 : 0 ≤ i
  · rw [if_pos h0] at h
    by_cases h1 : i < n
    · rw [if_pos h1] at h
      have e : i.toNat = j := Option.some.inj h
      exact ⟨by rw [seqIndex_of h0 h1, e], by omega, by omega, h1⟩
    · rw [if_neg h1] at h; cases h
  · rw [if_neg h0] at h
    by_cases h1 : -(n : Int) ≤ i
    · rw [if_pos h1] at h
      have e : (i + n).toNat = j := Option.some.inj h
      exact ⟨by rw [seqIndex_neg (by omega) h1, e], by omega, h1, by omega⟩
    · rw [if_neg h1] at h; cases h
theorem atI_get {α : Type} {xs : List α} {i : Int} {v : α} (h : atI xs i = some v) : ∃ j, seqIndex? i xs.length = some j ∧ xs[j]? = some v ∧ j < xs.length ∧ -(xs.length : Int) ≤ i ∧ i < xs.length := by
  unfold atI at h
  cases e : ixN xs.length i with
  | none => rw [e] at h; cases h
  | some j =>
    rw [e] at h
    obtain ⟨h1, h2, h3, h4⟩ := ixN_seq e
    exact ⟨j, h1, h, h2, h3, h4⟩
theorem atI_nat {α : Type} {xs : List α} {j : Nat} {v : α} (h : xs[j]? = some v) : atI xs (j : Int) = some v := by
  have hj : j < xs.length := (List.getElem?_eq_some_iff.mp h).1
  have e : ixN xs.length (j : Int) = some j := by
    unfold ixN
    rw [if_pos (by omega), if_pos (by omega)]; simp
  unfold atI; rw [e]; exact h
def PlainIx (b : Expr) : Prop := ∀ o i, subscripted b false o i = operate [o, i] (getItem o i)
def IxR (X : Cx) (r : R2) : Prop :=
  ∀ (value slice : Expr) (pins : List (Addr × Obj)) (s : Shared) (σ : St) (H : Hp) (x y : V) (v u : Value) (Q : VK), Inv X pins σ H s → RelV x v → RelV y u → r x y H Q →
    subscripted slice false v u = operate [v, u] (getItem v u) → wpAny (model X.prog X.w) X.A (subscriptTail value slice v u) (EP X pins σ Q) X.xe s
def MtR (X : Cx) (id : String) (r : V → List V → Hp → VK → Prop) : Prop :=
  ∀ (pins : List (Addr × Obj)) (s : Shared) (σ : St) (H : Hp) (x : V) (xs : List V) (v : Value) (us : List Value) (Q : VK), Inv X pins σ H s → RelV x v → Vals xs us → r x xs H Q →
    wpAny (model X.prog X.w) X.A (call (.builtin id) (v :: us)) (EP X pins σ Q) X.xe s
section
variable {X : Cx} {a b : Expr} {ta tb : TE} {pos : Pos}
theorem IxR.or {r r' : R2} (h : IxR X r) (h' : IxR X r') : IxR X (fun x y H Q => r x y H Q ∨ r' x y H Q) := by
  intro value slice pins s σ H x y v u Q I rx ry q hs
  rcases q with q | q
  · exact h value slice pins s σ H x y v u Q I rx ry q hs
  · exact h' value slice pins s σ H x y v u Q I rx ry q hs
theorem pe_ix {r : R2} (hr : IxR X r) (ha : PE X a ta) (hb : PE X b tb) (hs : PlainIx b) : PE X (.Subscript a b pos) (tOp r ta tb) := by
  intro pins s σ H Q I h
  exact Subscript_ (binT ha hb I h fun v u s2 x y H2 I2 rx ry q => hr a b pins s2 σ H2 x y v u Q I2 rx ry q (hs _ _))
def rIxL (K : PySem.W.Frag) : R2 := fun x y H Q => ∃ p xs i v, x = .ref p ∧ y = .int i ∧ SqL K H p xs ∧ atI xs i = some v ∧ Q v H
def rIxT (K : PySem.W.Frag) : R2 := fun x y H Q => ∃ p xs i v, x = .ref p ∧ y = .int i ∧ SqT K H p xs ∧ atI xs i = some v ∧ Q v H
def rIxS : R2 := fun x y H Q => ∃ z i c, x = .str z ∧ y = .int i ∧ z.length ≤ sizeLine ∧ atI z.cps.toList i = some c ∧ Q (.str ⟨#[c]⟩) H
theorem ix_list : IxR X (rIxL X.K) := by
  intro value slice pins s σ H x y v u Q I rx ry h hs
  obtain ⟨p, xs, i, z, rfl, rfl, hq, he, q⟩ := h
  cases rx
  obtain ⟨t, rfl⟩ := ry
  obtain ⟨its, r, pl, hz⟩ := I.list hq
  obtain ⟨j, h1, h2, h3, h4, h5⟩ := atI_get he
  obtain ⟨w, ew, rw'⟩ := r.get h2
  have hl := r.length
  have hn := line63
  have fin : EP X pins σ Q w s := ⟨z, H, I, rw', q⟩
  by_cases h0 : 0 ≤ i
  · have hj : i.toNat = j := by
      rw [seqIndex_of h0 h5] at h1
      exact Option.some.inj h1
    exact item_listR pl.isList h0 (by omega) (by rw [hj]; simpa using ew) fin hs
  · have hj : (i + (its.toArray.size : Int)).toNat = j := by
      rw [seqIndex_neg (by omega) h4] at h1
      rw [List.size_toArray, ← hl]
      exact Option.some.inj h1
    exact subscriptTail_builtinR (x := w) pl.isList.typeIs slot_list_getitem.lookup
      (wpAny_getItem_list_neg (Q := fun r s' => r = w ∧ EP X pins σ Q r s') pl.isList (by omega) (by rw [List.size_toArray] <;> omega) (by omega) (by rw [hj]; simpa using ew) ⟨rfl, fin⟩) hs
theorem ix_tup : IxR X (rIxT X.K) := by
  intro value slice pins s σ H x y v u Q I rx ry h hs
  obtain ⟨p, xs, i, z, rfl, rfl, hq, he, q⟩ := h
  cases rx
  obtain ⟨t, rfl⟩ := ry
  obtain ⟨its, r, pl, hz⟩ := I.tuple hq
  obtain ⟨j, h1, h2, h3, h4, h5⟩ := atI_get he
  obtain ⟨w, ew, rw'⟩ := r.get h2
  have hl := r.length
  have hn := line63
  have fin : EP X pins σ Q w s := ⟨z, H, I, rw', q⟩
  exact subscriptTail_builtinR (x := w) pl.typeIs slot_tuple_getitem.lookup
    (getItem_tuple (j := j) (Q := fun r s' => r = w ∧ EP X pins σ Q r s') pl (by omega) (by omega) (by rw [List.size_toArray, ← hl]; exact h1) (by simpa using ew) ⟨rfl, fin⟩) hs
theorem ix_str : IxR X rIxS := by
  intro value slice pins s σ H x y v u Q I rx ry h hs
  obtain ⟨z, i, c, rfl, rfl, hz, he, q⟩ := h
  obtain ⟨t, rfl⟩ := rx
  obtain ⟨t', rfl⟩ := ry
  obtain ⟨j, h1, h2, h3, h4, h5⟩ := atI_get he
  have hl : z.cps.toList.length = z.length := by simp [Str.length]
  rw [hl] at h1 h4 h5
  have hn := line63
  exact tail_any (typeIs_str s z t) slot_str_getitem.lookup (getItem_str (c := c) (by
    have e1 : decide (i < -(2 ^ 63 : Int)) = false := decide_eq_false (by omega)
    have e2 : decide (i ≥ 2 ^ 63) = false := decide_eq_false (by omega)
    rw [e1, e2, Bool.or_false]) (by rw [h1]; simpa using h2) ⟨.str ⟨#[c]⟩, H, I.tok _, ⟨_, rfl⟩, q⟩) hs
def rIx (K : PySem.W.Frag) : R2 := fun x y H Q => rIxL K x y H Q ∨ rIxT K x y H Q ∨ rIxS x y H Q
theorem ix_seq : IxR X (rIx X.K) := ix_list.or (ix_tup.or ix_str)
theorem mapSeq_set (its : List Value) (n j : Nat) (u : Value) : Obj.mapSeq (·.setIfInBounds j u) { cls := .type "list", data := .seq its.toArray n } = { cls := .type "list", data := .seq (its.set j u).toArray n } := by
  simp [Obj.mapSeq]
theorem Inv.lst {pins : List (Addr × Obj)} {σ : St} {H : Hp} {s : Shared} {p : Addr} {xs : List V} (I : Inv X pins σ H s) (h : H p = some (.lst xs)) :
    ∃ (its : List Value) (n : Nat), Vals xs its ∧ s.heap.get? p = some { cls := .type "list", data := .seq its.toArray n } ∧ xs.length ≤ sizeLine := by
  obtain ⟨z, its, n, r, e⟩ := I.hok p _ h
  exact ⟨its, n, r, e, z⟩
theorem Inv.lstUpd {pins : List (Addr × Obj)} {σ : St} {H : Hp} {s : Shared} {p : Addr} {xs ys : List V} {its its' : List Value} {n n' : Nat} {f : Obj → Obj} (I : Inv X pins σ H s) (h : H p = some (.lst xs))
    (ho : s.heap.get? p = some { cls := .type "list", data := .seq its.toArray n }) (hf : f { cls := .type "list", data := .seq its.toArray n } = { cls := .type "list", data := .seq its'.toArray n' }) (r : Vals ys its') (hz : ys.length ≤ sizeLine) (t : Nat) :
    Inv X pins σ (upd H p (.lst ys)) { s with heap := s.heap.update p f, toks := t } := by
  have e : (s.heap.update p f).get? p = some { cls := .type "list", data := .seq its'.toArray n' } := by
    rw [Heap.get?_update_self f ho (by rw [hf] <;> rfl), hf]
  refine I.write (x := p) (e := p) (by rw [h]; trivial) (.inl rfl) (fun b u hb q => (Heap.get?_update_other _ _ (Ne.symm hb)).trans q) ⟨_, e⟩ ?_
  exact ⟨hz, its', n', r, e⟩
def rSetL : V → V → V → Hp → (Hp → Prop) → Prop := fun o i v H Q => ∃ p xs k j, o = .ref p ∧ i = .int k ∧ H p = some (.lst xs) ∧ ixN xs.length k = some j ∧ Q (upd H p (.lst (xs.set j v)))
theorem set_list : PSet X rSetL := by
  intro pins s σ H o i v ov iv u Q I ro ri rv h
  obtain ⟨p, xs, k, j, rfl, rfl, hp, hj, q⟩ := h
  cases ro
  obtain ⟨t, rfl⟩ := ri
  obtain ⟨its, n, r, ho, hz⟩ := I.lst hp
  obtain ⟨h1, h2, h3, h4⟩ := ixN_seq hj
  have hl := r.length
  have hn := line63
  have I' : Inv X pins σ (upd H p (.lst (xs.set j v))) { s with heap := s.heap.update p (Obj.mapSeq (·.setIfInBounds j u)) } :=
    I.lstUpd hp ho (mapSeq_set its n j u) (r.set rv j) (by rw [List.length_set]; exact hz) s.toks
  by_cases h0 : 0 ≤ k
  · have hk : k.toNat = j := by
      rw [seqIndex_of h0 h4] at h1
      exact Option.some.inj h1
    exact PySem.W.ki_setAt ho h0 (by omega) (by rw [List.size_toArray, ← hl]; exact h4) (by rw [hk]; exact ⟨_, I', q⟩)
  · have hk : (k + (its.toArray.size : Int)).toNat = j := by
      rw [seqIndex_neg (by omega) h3] at h1
      rw [List.size_toArray, ← hl]
      exact Option.some.inj h1
    exact PySem.W.ki_setBack ho (by omega) (by rw [List.size_toArray, ← hl]; exact h3) (by omega) (by rw [hk]; exact ⟨_, I', q⟩)
theorem slice_bounds (lo hi : Option Int) (n : Nat) : (sliceBounds lo hi none n).1 = ((HT.sIx n 0 lo : Nat) : Int) ∧ (sliceBounds lo hi none n).2.1 = ((HT.sIx n n hi : Nat) : Int) ∧ (sliceBounds lo hi none n).2.2 = 1 := by
  refine ⟨?_, ?_, rfl⟩
  · cases lo with
    | none => simp [sliceBounds, HT.sIx]
    | some i =>
      simp only [sliceBounds, HT.sIx, Option.getD_none, show (1 : Int) > 0 by decide, if_true]
      by_cases h : i < 0
      · simp only [h, if_true] <;> omega
      · simp only [h, if_false] <;> omega
  · cases hi with
    | none => simp [sliceBounds, HT.sIx]
    | some i =>
      simp only [sliceBounds, HT.sIx, Option.getD_none, show (1 : Int) > 0 by decide, if_true]
      by_cases h : i < 0
      · simp only [h, if_true] <;> omega
      · simp only [h, if_false] <;> omega
theorem slicePick_cut (its : List Value) (lo hi : Option Int) : slicePick its.toArray lo hi none = ((its.drop (HT.sIx its.length 0 lo)).take (HT.sIx its.length its.length hi - HT.sIx its.length 0 lo)).toArray := by
  obtain ⟨h1, h2, h3⟩ := slice_bounds lo hi its.toArray.size
  unfold slicePick
  rw [h1, h2, h3]
  simp only [sliceRange_one, pick_run, List.size_toArray] <;> rfl
def rSlL (K : PySem.W.Frag) : V → Option Int → Option Int → Hp → VK → Prop := fun x lo hi H Q => ∃ a xs, x = .ref a ∧ SqL K H a xs ∧ ∀ p, H p = none → Q (.ref p) (upd H p (.lst (cutV xs lo hi)))
theorem sl_list : SlR X (rSlL X.K) := by
  intro pins s σ H x v vl vu lo hi sl Q I rx hs pl pu h
  obtain ⟨a, xs, rfl, hx, q⟩ := h
  cases rx
  obtain ⟨its, r, ht, hz⟩ := I.list hx
  have hlen := r.length
  refine ⟨"list", _, slot_list_getitem.lookup, ht.isList.typeIs, ?_⟩
  refine wpAny_getItem_list_slice ht.isList hs pl pu .none (by simp) ?_ (by rw [List.size_toArray] <;> omega)
  rw [slicePick_cut, ← hlen]
  refine ⟨.ref s.heap.objs.size, _, I.laid (t' := s.toks) (o := .lst (cutV xs lo hi)) (fun b ob q => Heap.get?_push_of_some _ q) (Nat.le_refl _) ?_, rfl, q _ (I.hok.fresh (Nat.le_refl _))⟩
  exact ⟨Nat.le_trans (cutV_length xs lo hi) hz, _, 0, (r.drop (HT.sIx xs.length 0 lo)).take (HT.sIx xs.length xs.length hi - HT.sIx xs.length 0 lo), Heap.get?_push_size _ rfl⟩
theorem call_len_seq : CallR X (.builtin "len") (fun xs H Q => ∃ p ys, xs = [.ref p] ∧ (SqL X.K H p ys ∨ SqT X.K H p ys) ∧ Q (.int ys.length) H) := by
  intro pins s σ H xs us Q I r h
  obtain ⟨p, ys, rfl, hq, q⟩ := h
  obtain ⟨u, rfl, rx⟩ := vals1 r
  cases rx
  have hn := line63
  rcases hq with hq | hq
  · obtain ⟨its, r', pl, hz⟩ := I.list hq
    have hlen := r'.length
    exact Calls.call_len_list pl.isList (by simp only [List.size_toArray] <;> omega) ⟨.int ys.length, H, I.tok _, ⟨s.toks + 1, by rw [List.size_toArray, hlen]⟩, q⟩
  · obtain ⟨its, r', pl, hz⟩ := I.tuple hq
    have hlen := r'.length
    exact len_tuple pl (by simp only [List.size_toArray] <;> omega) ⟨.int ys.length, H, I.tok _, ⟨s.toks + 1, by rw [List.size_toArray, hlen]⟩, q⟩
theorem call_len_str : CallR X (.builtin "len") (fun xs H Q => ∃ z, xs = [.str z] ∧ z.length ≤ sizeLine ∧ Q (.int z.length) H) := by
  intro pins s σ H xs us Q I r h
  obtain ⟨z, rfl, hz, q⟩ := h
  obtain ⟨u, rfl, t, rfl⟩ := vals1 r
  have hn := line63
  exact len_str (by omega) ⟨.int z.length, H, I.tok _, ⟨_, rfl⟩, q⟩
theorem CallR.or {f : Value} {r r' : List V → Hp → VK → Prop} (h : CallR X f r) (h' : CallR X f r') : CallR X f (fun xs H Q => r xs H Q ∨ r' xs H Q) := by
  intro pins s σ H xs us Q I rs q
  rcases q with q | q
  · exact h pins s σ H xs us Q I rs q
  · exact h' pins s σ H xs us Q I rs q
theorem call_list_of : CallR X (.type "list") (fun xs H Q => ∃ p ys, xs = [.ref p] ∧ (SqL X.K H p ys ∨ SqT X.K H p ys) ∧ ∀ l, H l = none → Q (.ref l) (upd H l (.lst ys))) := by
  intro pins s σ H xs us Q I r h
  obtain ⟨p, ys, rfl, hq, q⟩ := h
  obtain ⟨u, rfl, rx⟩ := vals1 r
  cases rx
  have fin : ∀ (its : List Value), Vals ys its → ys.length ≤ sizeLine → ∀ (h' : Heap) (c' : Nat), (∀ b o', s.heap.get? b = some o' → h'.get? b = some o') →
      h'.get? s.heap.objs.size = some { cls := .type "list", dict := none, data := .seq its.toArray c', slots := #[] } → EP X pins σ Q (.ref s.heap.objs.size) { s with heap := h' } := fun its r' hz h' c' kp e =>
    ⟨.ref s.heap.objs.size, _, I.laid (t' := s.toks) kp (Nat.le_refl _) (show ObjOk X.prog X.w _ h' _ (.lst ys) from ⟨hz, its, c', r', e⟩), rfl, q _ (I.hok.fresh (Nat.le_refl _))⟩
  rcases hq with hq | hq
  · obtain ⟨its, r', pl, hz⟩ := I.list hq
    have hlen := r'.length
    obtain ⟨o, ho, hc, n, hd⟩ := pl.isList
    exact call_list_seq p (.inl rfl) ho hc hd (fun h' c' kp e => fin its r' hz h' c' kp e) (by simp only [List.size_toArray] <;> omega)
  · obtain ⟨its, r', pl, hz⟩ := I.tuple hq
    have hlen := r'.length
    obtain ⟨o, ho, hc, n, hd⟩ := pl
    exact call_list_seq p (.inr rfl) ho hc hd (fun h' c' kp e => fin its r' hz h' c' kp e) (by simp only [List.size_toArray] <;> omega)
theorem call_tuple_of : CallR X (.type "tuple") (fun xs H Q => ∃ p ys, xs = [.ref p] ∧ ((SqL X.K H p ys ∧ ∀ l, H l = none → Q (.ref l) (upd H l (.tup ys))) ∨ (SqT X.K H p ys ∧ Q (.ref p) H))) := by
  intro pins s σ H xs us Q I r h
  obtain ⟨p, ys, rfl, h⟩ := h
  obtain ⟨u, rfl, rx⟩ := vals1 r
  cases rx
  rcases h with ⟨hq, q⟩ | ⟨hq, q⟩
  · obtain ⟨its, r', pl, hz⟩ := I.list hq
    have hlen := r'.length
    refine call_tuple_list pl.isList (fun h' kp => ?_) (by simp only [List.size_toArray] <;> omega)
    have I1 : Inv X pins σ H { s with heap := h' } := I.kept (t' := s.toks) kp
    have I2 : Inv X pins σ (upd H h'.objs.size (.tup ys)) { s with heap := h'.push { cls := .type "tuple", data := .seq its.toArray } } :=
      I1.laid (t' := s.toks) (fun b o e => Heap.get?_push_of_some _ e) (Nat.le_refl _) (show ObjOk X.prog X.w _ _ _ (.tup ys) from ⟨hz, its, r', IsTup.new _ _⟩)
    exact ⟨.ref h'.objs.size, _, I2, rfl, q _ (I1.hok.fresh (Nat.le_refl _))⟩
  · obtain ⟨its, r', pl, hz⟩ := I.tuple hq
    exact call_tuple_same pl ⟨.ref p, H, I, rfl, q⟩
def tyV (K : PySem.W.Frag) (T : String) (x : V) (H : Hp) : Prop := match x with
  | .str _ => T = "str"
  | .int _ => T = "int"
  | .ref p => (T = "list" ∧ ∃ xs, SqL K H p xs) ∨ (T = "tuple" ∧ ∃ o, K.lookup p = some o ∧ o.cls = .type "tuple" ∧ o.dict = none) ∨
      (T = "dict" ∧ ((∃ kvs, H p = some (.dK kvs)) ∨ ∃ kvs, H p = some (.dT kvs))) ∨ (T = "set" ∧ ∃ S n, H p = some (.set S n))
  | _ => False
theorem tyV_is {pins : List (Addr × Obj)} {σ : St} {H : Hp} {s : Shared} {T : String} {x : V} {v : Value} (I : Inv X pins σ H s) (r : RelV x v) (ty : tyV X.K T x H) :
    s.TypeIs v T ∧ ∀ a, v = .ref a → ∃ ob, s.heap.get? a = some ob ∧ ob.dict = none := by
  cases x with
  | str z =>
    obtain ⟨t, rfl⟩ := r
    cases (show T = "str" from ty)
    exact ⟨typeIs_str s z t, fun _ e => nomatch e⟩
  | int i =>
    obtain ⟨t, rfl⟩ := r
    cases (show T = "int" from ty)
    exact ⟨typeIs_int s i t, fun _ e => nomatch e⟩
  | ref p =>
    cases r
    rcases ty with ⟨rfl, xs, hq⟩ | ⟨rfl, o, hk, hc, hd⟩ | ⟨rfl, hk⟩ | ⟨rfl, S, n, hk⟩
    · obtain ⟨its, _, pl, _⟩ := I.list hq
      refine ⟨pl.isList.typeIs, fun a e => ?_⟩
      cases e
      obtain ⟨o, n, e, c, hd, _⟩ := pl
      exact ⟨o, e, hd⟩
    · refine ⟨⟨o, I.kIn p o hk, hc⟩, fun a e => ?_⟩
      cases e
      exact ⟨o, I.kIn _ o hk, hd⟩
    · have z : ∃ o, s.heap.get? p = some o ∧ o.ExactDict := by
        rcases hk with ⟨kvs, hk⟩ | ⟨kvs, hk⟩
        · obtain ⟨_, _, _, _, o, _, _, e, ex, _⟩ := I.hok p _ hk
          exact ⟨o, e, ex⟩
        · obtain ⟨_, _, _, _, o, _, _, e, ex, _⟩ := I.hok p _ hk
          exact ⟨o, e, ex⟩
      obtain ⟨o, e, ex⟩ := z
      refine ⟨⟨o, e, ex.1⟩, fun a e2 => ?_⟩
      cases e2
      exact ⟨o, e, ex.2.1⟩
    · obtain ⟨o, _, _, _, e, ex, _⟩ := I.hok p _ hk
      refine ⟨⟨o, e, ex.1⟩, fun a e2 => ?_⟩
      cases e2
      exact ⟨o, e, ex.2.1⟩
  | _ => exact False.elim ty
def tBM (K : PySem.W.Frag) (T : String) (r : V → List V → Hp → VK → Prop) (to : TE) (t : TA) : TE := fun σ H Q => to σ H fun x H1 => tyV K T x H1 ∧ t σ H1 fun xs H2 => r x xs H2 Q
variable {o e : Expr} {es : List Expr} {to : TE} {t : TA} {name : Str} {apos cpos : Pos} {T id : String} {r : V → List V → Hp → VK → Prop}
theorem pe_bm (pa : PlainAttrs T) (slot : Slot T name id) (hty : typeOf (.builtin id) = pure (.type "method_descriptor")) (hm : MtR X id r) (ho : PE X o to) (ha : PA X (e :: es) t)
    (hbase : attributeBase o name X.env (eval o X.env) = eval o X.env := by rfl)
    (hfew : ((backTo cpos (starEach (e :: es) X.env)).all (fun x => !x.1) && (backToKw cpos (keywordEach [] X.env)).all (fun x => x.1.isSome)
      && decide ((e :: es).length + ([] : List Keyword).length + (if ([] : List Keyword).isEmpty then 0 else 1) < 30)) = true := by rfl)
    (hline : (apos.endLine == cpos.line) = true := by rfl) (hs : starEach (e :: es) X.env = (false, eval e X.env) :: starEach es X.env := by rfl) (hplain : (backTo cpos (starEach es X.env)).any (·.1) = false := by rfl) :
    PE X (.Call (.Attribute o name apos) (e :: es) [] cpos) (tBM X.K T r to t) := by
  intro pins s σ H Q I h
  refine wpAny_Call_method_late hbase hfew hline rfl (thn (ho pins s σ H _ I h) fun v s1 ⟨x, H1, I1, r1, ty, q1⟩ => ?_)
  obtain ⟨h1, h2⟩ := tyV_is I1 r1 ty
  refine ⟨T, id, pa, slot, hty, h1, h2, ?_⟩
  have hA := ha cpos pins s1 σ H1 _ I1 q1
  rw [hs] at hA ⊢
  refine Calls.callWith_builtin (by show (false || (backTo cpos (starEach es X.env)).any (·.1)) = false; rw [hplain] <;> rfl) (Calls.evalArgs_plain ?_)
  exact thn hA fun us s2 ⟨vs, H2, I2, r2, q2⟩ => hm pins s2 σ H2 x vs v us Q I2 r1 r2 q2
end
end L2
namespace L2
open PySem PySem.Spec PyProof.Rows
def MtM (X : Cx) (id : String) (r : V → List V → Hp → VK → Prop) : Prop :=
  ∀ (pins : List (Addr × Obj)) (s : Shared) (σ : St) (H : Hp) (x : V) (xs : List V) (v : Value) (us : List Value) (Q : VK), Inv X pins σ H s → RelV x v → Vals xs us → r x xs H Q →
    wpAny (model X.prog X.w) X.A (call (.builtin id) (v :: us)) (EP X pins σ Q) X.xe s
theorem Vals.one : ∀ {x : V} {us : List Value}, Vals [x] us → ∃ u, us = [u] ∧ RelV x u
  | _, _, .cons r .nil => ⟨_, rfl, r⟩
theorem Vals.rep {xs : List V} {us : List Value} (h : Vals xs us) : ∀ k : Nat, Vals (List.replicate k xs).flatten (List.replicate k us).flatten
  | 0 => .nil
  | k + 1 => by
    rw [List.replicate_succ, List.replicate_succ, List.flatten_cons, List.flatten_cons]
    exact Vals.append h (Vals.rep h k)
theorem foldl_rep (its : List Value) : ∀ (k : Nat) (acc : List Value),
    List.foldl (fun x1 x2 => x1 ++ x2) acc.toArray (List.replicate k its.toArray) = (acc ++ (List.replicate k its).flatten).toArray
  | 0, acc => by simp
  | k + 1, acc => by
    have e : acc.toArray ++ its.toArray = (acc ++ its).toArray := by simp
    have e2 : (acc ++ its) ++ (List.replicate k its).flatten = acc ++ (List.replicate (k + 1) its).flatten := by
      rw [List.replicate_succ, List.flatten_cons, List.append_assoc]
    rw [← e2, ← foldl_rep its k (acc ++ its), ← e, List.replicate_succ, List.foldl_cons]
section
variable {X : Cx} {pins : List (Addr × Obj)} {σ : St} {H : Hp} {s : Shared} {l b : Addr} {xs ys zs : List V}
theorem Inv.lset {its its' : List Value} {n : Nat} {f : Array Value → Array Value} {t' : Nat} (I : Inv X pins σ H s) (hH : H l = some (.lst xs))
    (e : s.heap.get? l = some { cls := .type "list", data := .seq its.toArray n }) (hf : f its.toArray = its'.toArray) (hv : Vals ys its') (hz : ys.length ≤ sizeLine) :
    Inv X pins σ (upd H l (.lst ys)) { s with heap := s.heap.update l (Obj.mapSeq f), toks := t' } := by
  have q := PySem.IsL.update e f
  rw [hf] at q
  refine I.write (x := l) (e := l) (by rw [hH]; exact trivial) (.inl rfl) (fun b' u hb hu => (Heap.get?_update_other s.heap (Obj.mapSeq f) (Ne.symm hb)).trans hu) ⟨_, q⟩ ?_
  exact ⟨hz, its', _, hv, q⟩
theorem Inv.lnew {its : List Value} {t' : Nat} (I : Inv X pins σ H s) (hv : Vals ys its) (hz : ys.length ≤ sizeLine) :
    Inv X pins σ (upd H s.heap.objs.size (.lst ys)) { s with heap := s.heap.push { cls := .type "list", data := .seq its.toArray }, toks := t' } :=
  I.laid (fun _ _ q => Heap.get?_push_of_some _ q) (Nat.le_refl _) ⟨hz, its, 0, hv, Heap.get?_push_size _ rfl⟩
theorem Inv.fresh (I : Inv X pins σ H s) : H s.heap.objs.size = none := I.hok.fresh (Nat.le_refl _)
theorem Inv.lstM (I : Inv X pins σ H s) (hH : H l = some (.lst xs)) : xs.length ≤ sizeLine ∧ ∃ (its : List Value) (n : Nat), Vals xs its ∧ xs.length = its.length ∧ s.heap.get? l = some { cls := .type "list", data := .seq its.toArray n } := by
  obtain ⟨z, its, n, r, e⟩ := I.hok l _ hH
  exact ⟨z, its, n, r, r.length, e⟩
theorem notLongL {n : Nat} (h : n ≤ sizeLine) : Builtin.List.listTooLong n = false := by
  unfold Builtin.List.listTooLong
  exact decide_eq_false (by omega)
end
section
variable {X : Cx}
def rAppend : V → List V → Hp → VK → Prop := fun x vs H Q => ∃ l xs y, x = .ref l ∧ vs = [y] ∧ H l = some (.lst xs) ∧ xs.length < sizeLine ∧ Q .non (upd H l (.lst (xs ++ [y])))
theorem mt_append : MtM X "list.append" rAppend := by
  intro pins s σ H x vs v us Q I rx rv h
  obtain ⟨l, xs, y, rfl, rfl, hH, hz, q⟩ := h
  cases rx
  obtain ⟨u, rfl, ru⟩ := rv.one
  obtain ⟨z, its, n, r, hl, e⟩ := I.lstM hH
  refine call_meets F.slot_list_append ⟨_, e, rfl⟩ F.entry_list_append (F.args_list_append_2 _ _) (PySem.list_append l its.toArray n u (by rw [List.size_toArray]; omega)) ⟨e, ?_⟩
  refine ⟨.non, _, I.lset (its' := its ++ [u]) hH e (by simp) (r.append (.cons ru .nil)) ?_, rfl, q⟩
  rw [List.length_append, List.length_singleton]
  omega
def rCat : R2 := fun x y H Q => ∃ l b xs zs, x = .ref l ∧ y = .ref b ∧ H l = some (.lst xs) ∧ H b = some (.lst zs) ∧ xs.length + zs.length ≤ sizeLine ∧ ∀ p, H p = none → Q (.ref p) (upd H p (.lst (xs ++ zs)))
theorem op_cat : OpR X (binaryOp .Add) rCat := by
  intro pins s σ H x y v u Q I rx ry h
  obtain ⟨l, b, xs, zs, rfl, rfl, hH, hB, hz, q⟩ := h
  cases rx
  cases ry
  obtain ⟨z, its, n, r, hl, e⟩ := I.lstM hH
  obtain ⟨z2, its2, n2, r2, hl2, e2⟩ := I.lstM hB
  refine PySem.P.add_list e e2 ?_ (by rw [List.size_toArray, List.size_toArray]; omega)
  have ea : its.toArray ++ its2.toArray = (its ++ its2).toArray := by simp
  rw [ea]
  exact ⟨.ref _, _, I.lnew (t' := s.toks) (r.append r2) (by rw [List.length_append]; omega), rfl, q _ I.fresh⟩
def rRep : R2 := fun x y H Q => ∃ l k xs, x = .ref l ∧ y = .int k ∧ H l = some (.lst xs) ∧ -(2 ^ 63) ≤ k ∧ k < 2 ^ 63 ∧ xs.length * k.toNat ≤ sizeLine ∧
  ∀ p, H p = none → Q (.ref p) (upd H p (.lst (List.replicate k.toNat xs).flatten))
theorem len_rep {α : Type} (xs : List α) (k : Nat) : (List.replicate k xs).flatten.length = k * xs.length := by
  induction k with
  | zero => simp
  | succ k ih => rw [List.replicate_succ, List.flatten_cons, List.length_append, ih, Nat.succ_mul, Nat.add_comm]
theorem op_rep : OpR X (binaryOp .Mult) rRep := by
  intro pins s σ H x y v u Q I rx ry h
  obtain ⟨l, k, xs, rfl, rfl, hH, h1, h2, hz, q⟩ := h
  cases rx
  obtain ⟨t, rfl⟩ := ry
  obtain ⟨z, its, n, r, hl, e⟩ := I.lstM hH
  have hlen : its.toArray.size * k.toNat ≤ sizeLine := by rw [List.size_toArray, ← hl]; exact hz
  have hcap : ¬ its.toArray.size * k.toNat > (2 ^ 63 - 1) / 8 := by
    have : (sizeLine : Nat) ≤ (2 ^ 63 - 1) / 8 := by decide
    omega
  have hfit : ¬ (!Builtin.List.listFitsIndex k) = true := by
    rw [fitsIndex_both h1 h2]
    exact Bool.false_ne_true
  have hlong : ¬ Builtin.List.listTooLong (its.toArray.size * k.toNat) = true := by
    rw [notLongL hlen]
    exact Bool.false_ne_true
  have hnew : List.foldl (fun x1 x2 => x1 ++ x2) #[] (List.replicate (if its.toArray.isEmpty = true then 0 else k.toNat) its.toArray) = (List.replicate k.toNat its).flatten.toArray := by
    have f0 : ∀ m : Nat, List.foldl (fun x1 x2 => x1 ++ x2) #[] (List.replicate m its.toArray) = (List.replicate m its).flatten.toArray := fun m => by
      have := foldl_rep its m []
      rw [List.nil_append] at this
      exact this
    rw [f0]
    cases its with
    | nil => simp
    | cons a r' => rw [if_neg (by simp)]
  refine wpAny_binaryOp_repeat_ref (T := "list") (U := "int") (by decide) ⟨_, e, rfl⟩ (fun s' => typeIs_int s' k t) noFill_list_mul F.fills_int_mul F.slot_int_rmul repeat_list F.slot_int_index.lookup
    (call_meets F.slot_int_rmul (typeIs_int s k t) F.entry_int_rmul (F.args_int_rmul_2 _ _) (int___rmul___int_list k t l its.toArray n)
      ⟨e, rfl, ⟨_, e, rfl⟩, call_meets F.slot_list_mul ⟨_, e, rfl⟩ F.entry_list_mul (F.args_list_mul_2 _ _) (AutoListH.list___mul___list_int_3 l its.toArray n k t hfit hcap hlong) ⟨e, ?_⟩⟩)
  rw [hnew]
  exact ⟨.ref _, _, I.lnew (t' := s.toks) (r.rep k.toNat) (by rw [len_rep, Nat.mul_comm]; exact hz), rfl, q _ I.fresh⟩
end
section
variable {prog : Program} {w : World} {A : Around} {E : Value → Shared → Prop} {s : Shared}
end
section
variable {X : Cx}
end
end L2
namespace L2
open PySem PySem.Spec PyProof.Rows
section
variable {κ : Type} [DecidableEq κ]
end
section
variable {P : Program} {w : World} {H : Hp} {h : Heap} {a : Addr}
end
section
variable {X : Cx} {pins : List (Addr × Obj)} {σ : St} {H : Hp} {s : Shared} {a : Addr} {y v : V} {u r : Value} {o : Option V} {A : Around} {E : Value → Shared → Prop}
theorem Inv.big (I : Inv X pins σ H s) : sysModules < s.heap.objs.size := by
  have h : mainGlobals < s.heap.objs.size := (I.mod.glob.keeps I.bk).lt
  exact Nat.lt_trans (by decide) h
end
section
variable {X : Cx} {pins : List (Addr × Obj)} {σ : St} {H : Hp} {s : Shared} {a : Addr} {kvs : List (Key × V)} {k : Key} {u : Value} {A : Around} {E : Value → Shared → Prop}
end
section
variable {X : Cx} {o i e value : Expr} {pos pos' tpos : Pos} {td ty tv : TE}
end
theorem dk_empty {P : Program} {w : World} {H : Hp} (h : Heap) (hb : sysModules < h.objs.size) : ObjOk P w H (h.push { cls := .type "dict", data := .dict #[] }) h.objs.size (.dK []) :=
  ⟨Nat.zero_le _, beq_eq_false_iff_ne.mpr (Ne.symm (Nat.ne_of_lt hb)), [], .nil, Heap.DictOf.new h⟩
def tDNewK : TE := fun _ H Q => ∀ p, H p = none → Q (.ref p) (upd H p (.dK []))
section
variable {X : Cx} {pos : Pos}
theorem pe_dnewK : PE X (.Dict [] [] pos) tDNewK := fun pins s σ H Q I h =>
  wpAny_Dict_empty ⟨.ref s.heap.objs.size, _, I.laid (a := s.heap.objs.size) (o := .dK []) (t' := s.toks) (fun _ _ q => Heap.get?_push_of_some _ q) (Nat.le_refl _) (dk_empty s.heap I.big), rfl, h _ (I.hok.fresh (Nat.le_refl _))⟩
end
section
variable {X : Cx} {pins : List (Addr × Obj)} {σ : St} {H : Hp} {s : Shared} {a : Addr} {y d : V} {u r : Value} {o : Option V} {A : Around} {E : Value → Shared → Prop}
end
section
variable {X : Cx} {o e f : Expr} {apos cpos : Pos} {td ty tx : TE}
end
section
variable {X : Cx} {pins : List (Addr × Obj)} {σ : St} {H : Hp} {s : Shared} {a : Addr} {kvs : List (Key × V)} {A : Around} {E : Value → Shared → Prop}
end
section
variable {X : Cx} {pins : List (Addr × Obj)} {σ : St} {H : Hp} {s : Shared} {a : Addr} {y : V} {u : Value} {A : Around} {E : Value → Shared → Prop}
end
end L2
namespace Att
open PySem PySem.W PySem.Calls PyProof.Rows
theorem ints_of_wellAll {P : Params} {h : Heap} : ∀ (ns : List Int) (vs : List Value), WellAll P h vs (ns.map WData.int) → IntsAre vs ns := by
  intro ns
  induction ns with
  | nil =>
    intro vs w
    rw [List.map_nil] at w
    cases w
    exact .nil
  | cons n ns ih =>
    intro vs w
    rw [List.map_cons] at w
    cases w with
    | cons a b =>
      cases a
      exact .cons _ _ (ih _ b)
theorem script_of {l : OpenLaw} {n : Nat} (hn : l.most = some n) {P : Params} {h : Heap} {args : List WData} {vals : List Value}
    (hpre : l.row.toRowW.claim.pre args = true) (hwl : WellAll P h vals args) :
    ∃ a vs ns, vals = [Value.ref a] ∧ args = [WData.list (ns.map WData.int)] ∧ h.get? a = some { cls := .type "list", data := .seq vs.toArray } ∧ IntsAre vs ns ∧ ns.length ≤ n := by
  have hsh : WShape.hasAll [] args [.list .int] = true := (pre_splitW hpre).1
  have hc : l.pre.holds [] { args := args } = true := (pre_splitW hpre).2
  obtain ⟨d, r, rfl, h1, h2⟩ := hasAllW_cons hsh
  obtain rfl := hasAllW_nil h2
  obtain ⟨xs, rfl, h3⟩ := hasW_list h1
  obtain ⟨ns, rfl⟩ := items_int h3
  have hlen : ns.length ≤ n := by
    unfold OpenLaw.pre at hc
    have h4 : (WTm.not (.lt (.lit (.int (n : Int))) (.len (.arg 0)))).holds [] { args := [.list (ns.map .int)] } = true := by
      have h4 := (holds_andW hc).1
      rw [hn] at h4
      exact h4
    have h5 := condW_of h4 (w_not (w_lt w_lit (w_len_list (w_arg rfl))))
    rw [List.length_map] at h5
    refine Nat.le_of_not_lt fun q => ?_
    have q' : (n : Int) < ((ns.length : Nat) : Int) := by omega
    first
      | (rw [decide_eq_true q'] at h5; exact absurd h5 (by decide))
      | (simp at h5; omega)
  cases hwl with
  | cons w1 w2 =>
    cases w2
    cases w1 with
    | list ho hall => exact ⟨_, _, ns, rfl, rfl, ho, ints_of_wellAll ns _ hall, hlen⟩
theorem post_true (l : OpenLaw) (args : List WData) : l.row.toRowW.claim.post args (.bool true) args = true :=
  postW_of (r := l.row.toRowW) (X := (true == true))
    (show WShape.has [] (.bool true) .bool = true by first | rfl | decide | simp [WShape.has, WShape.arms, WShape.armsAll])
    (show (WTm.eq .res (.lit (.bool true))).value [] { args := args, res := some (.bool true), after := args } = some (.bool (true == true)) from w_eq_bool (w_res rfl) w_lit) rfl
section
variable {prog : Program} {w : World} {A : Around} {E : Value → Shared → Prop} {s : Shared} {K : Frag}
end
end Att
namespace L2
open PySem PySem.Spec PyProof.Rows
theorem vals_ints : ∀ {vs : List Value} {ns : List Int}, IntsAre vs ns → Vals (ns.map V.int) vs
  | _, _, .nil => .nil
  | _, _, .cons n t h => .cons ⟨t, rfl⟩ (vals_ints h)
def Only (H : Hp) : Prop := ∀ b, H b = none ∨ ∃ o xs, H b = some (.frz o (.lst xs))
theorem law_call {P : Program} {w : World} {K : PySem.W.Frag} {mg mb : Str → Option Value} {CX : CXT} {k : Nat} {fa a : Addr} {fd : FuncData} {x : Str} {sp : Sp} {s₁ : Shared} {vs : List Value} {ns : List Int}
    (KX : K.In s₁.heap) (hns : s₁.heap.Ns mainGlobals mg) (hb : s₁.heap.Ns builtinsNs mb) (hbb : ∀ x : Str, x ≠ "__name__" → mb x = bootBuiltins x) (hlim : s₁.heap.NoLimit) (hg : s₁.gens = #[])
    (ha : s₁.heap.get? a = some { cls := .type "list", data := .seq vs.toArray }) (hi : IntsAre vs ns) (hl : ns.length ≤ sizeLine) (hr : Room k callerA)
    (F : ∀ base : Heap, K.In base → base.Ns mainGlobals mg → FnOk P w K mg base CX k fa fd [x] sp) (hbind : ∀ (s : Shared) (u : Value), BindsTo s fd ⟨[u], []⟩ [(x, u)])
    (hsp : ∀ H : Hp, Only H → SqL K H a (ns.map V.int) → sp [.ref a] H (fun v _ => v = .bl true) fun _ _ _ => False)
    (hCX : ∀ H e s', CX [] H s₁ (fun _ _ _ => False) e s' → False) :
    codeAny (model P w) callerA (.call (.ref fa) ⟨[.ref a], []⟩) (fun r s' => r = .ok (.ret (.bool true)) ∧ OldK s₁.heap s'.heap ∧ s'.os = s₁.os ∧ AllBare s'.gens) s₁ := by
  have rv := vals_ints hi
  have lenV := hi.length
  -- from an abstract heap in which nothing but the script may be tracked
  have core : ∀ H : Hp, Only H → SqL K H a (ns.map V.int) → HOk P w H s₁.heap → (∀ b, H b ≠ none → b = a) → (H a ≠ none → K.lookup a = none) →
      codeAny (model P w) callerA (.call (.ref fa) ⟨[.ref a], []⟩) (fun r s' => r = .ok (.ret (.bool true)) ∧ OldK s₁.heap s'.heap ∧ s'.os = s₁.os ∧ AllBare s'.gens) s₁ := by
    intro H hO hS hok hA hK
    have base_of : ∀ {b : Addr} {o : Obj}, s₁.heap.get? b = some o → H b = none → (hidT s₁.heap H).get? b = some o := fun e n => hidT_get e n
    have noA : ∀ {b : Addr} {o : Obj} {es : Array DictEntry} {ep : Nat}, s₁.heap.get? b = some o → o.data = .dict es ep → H b = none := fun {b o es ep} e d => by
      cases q : H b with
      | none => rfl
      | some u =>
        have e' : b = a := hA b (by rw [q]; simp)
        subst e'
        rw [ha] at e; cases e
        have d' : Data.seq vs.toArray _ = Data.dict es ep := d
        cases d'
    have nsK : ∀ {b : Addr} {m : Str → Option Value}, s₁.heap.Ns b m → (hidT s₁.heap H).Ns b m := fun {b m} ⟨o, es, ep, e, d, r⟩ => ⟨o, es, ep, base_of e (noA e d), d, r⟩
    have hKb : K.In (hidT s₁.heap H) := fun b o e => base_of (KX b o e) (by
      cases q : H b with
      | none => rfl
      | some u =>
        have e' : b = a := hA b (by rw [q]; simp)
        subst e'
        rw [hK (by rw [q]; simp)] at e; cases e)
    have hM : Mod K mg (hidT s₁.heap H) := ⟨hKb, nsK hns, ⟨mb, nsK hb, hbb⟩, let ⟨mc, h1, h2⟩ := hlim; ⟨mc, nsK h1, h2⟩⟩
    have e0 : Env0 P w K mg (hidT s₁.heap H) callerA [] s₁ H := ⟨rfl, hM, fun b o e => of_hidT e, Nat.le_of_eq (hidT_size _ _), trivial, fun b hb => absurd (show b ∈ ([] : List Addr) from hb) (by simp), hok, .of_eq hg⟩
    refine codeAny_mono ((F _ hKb (nsK hns)).run callerA [] s₁ H ⟨[.ref a], []⟩ [.ref a] [.ref a] _ _ hr e0 (hbind s₁ (.ref a)) (.cons rfl .nil) (hsp H hO hS)) fun r s' h => ?_
    cases r with
    | error e => exact (hCX H e s' h).elim
    | ok fl =>
      cases fl with
      | next => exact False.elim h
      | brk => exact False.elim h
      | cont => exact False.elim h
      | ret u =>
        obtain ⟨v, H', os, bare, un, hok', r', q⟩ := h
        have q' : v = .bl true := q
        subst q'
        obtain rfl : u = Value.bool true := r'
        refine ⟨rfl, OldK.of_keep fun b o e => ?_, os, bare⟩
        cases q : H b with
        | none => exact un.keep b o e q (by intro z; exact absurd (show b ∈ ([] : List Addr) from z) (by simp)) (by simp)
        | some u =>
          rcases hO b with z | ⟨ob, xs, z⟩
          · rw [q] at z; cases z
          · have z2 := un.frzs b ob _ z
            obtain ⟨e1, _⟩ := hok b _ z
            obtain ⟨e2, _⟩ := hok' b _ z2
            rw [e] at e1; cases e1
            exact e2
  cases hk : K.lookup a with
  | some o =>
    -- the script is one of the module's own objects
    have e := KX a o hk
    rw [ha] at e
    cases e
    refine core (fun _ => none) (fun _ => .inl rfl) (.inr ⟨_, vs.toArray, _, hk, rfl, rfl, rfl, by rw [List.size_toArray, lenV]; exact hl, by simpa using rv⟩) (fun b u z => by have z' : (none : Option HO) = some u := z; cases z') (fun b z => absurd rfl z) fun z => absurd rfl z
  | none =>
    refine core (fun b => if b = a then some (.frz { cls := .type "list", data := .seq vs.toArray } (.lst (ns.map V.int))) else none) (fun b => ?_) (.inl (.inr ⟨{ cls := .type "list", data := .seq vs.toArray }, if_pos rfl⟩)) (fun b u z => ?_) (fun b z => ?_) fun _ => hk
    · by_cases hb : b = a
      · exact .inr ⟨_, _, if_pos hb⟩
      · exact .inl (if_neg hb)
    · by_cases hb : b = a
      · have z' := (if_pos hb).symm.trans z
        cases z'
        subst hb
        exact ⟨ha, by rw [List.length_map]; exact hl, vs, _, rv, ha⟩
      · have z' := (if_neg hb).symm.trans z
        cases z'
    · by_cases hb : b = a
      · exact hb
      · exact absurd (if_neg hb) z
end L2
namespace L2
open PySem PySem.Spec PyProof.Rows
end L2
namespace L2
open PySem PySem.Spec PyProof.Rows
def inClass (s : Stmt) (j : Nat) : Stmt := match s with
  | .ClassDef _ _ _ body _ _ _ _ _ _ _ => body.getD j (.Pass ⟨0, 0, 0, 0⟩)
  | _ => .Pass ⟨0, 0, 0, 0⟩
def defArgs (s : Stmt) : Arguments := match s with
  | .FunctionDef _ a _ _ _ _ _ _ _ _ => a
  | _ => { posonlyargs := [], args := [], vararg := none, kwonlyargs := [], kw_defaults := [], kwarg := none, defaults := [] }
def defBody (s : Stmt) : List Stmt := match s with
  | .FunctionDef _ _ b _ _ _ _ _ _ _ => b
  | _ => []
def defScope (s : Stmt) : Scope := match s with
  | .FunctionDef _ _ _ _ _ _ sc _ _ _ => sc
  | _ => { kind := .function, names := [], isGenerator := false, isCoroutine := false }
abbrev E0 : XK := fun _ _ _ => False
section
variable {P : Program} {w : World} {K : PySem.W.Frag} {mg : Str → Option Value} {base : Heap}
end
theorem small1000 {n : Nat} (h : n ≤ 1000) : n < sizeLine := Nat.lt_of_le_of_lt h (by decide)
section
variable {X : Cx}
end
def Same (H H' : Hp) : Prop := ∀ b o, H b = some o → H' b = some o
end L2
set_option maxHeartbeats 4000000
namespace L2
open PySem PySem.Spec PyProof.Rows
section
variable {X : Cx}
def CDivB (_ j : Int) : Prop := j ≠ 0 ∧ j.natAbs.log2 < 9000
theorem op_fdivB : OpR X (binaryOp .FloorDiv) (rI CDivB fun i j => .int (i.fdiv j)) := opI fun _ _ _ _ _ _ _ hc q => floordiv_int hc.1 q (.inl (PyProof.noPylong_of_log2 hc.2))
theorem op_mulB : OpR X (binaryOp .Mult) (rI (fun i j => IntMulOk i j) fun i j => .int (i * j)) := opI fun _ _ _ _ _ _ _ hc q => mul_int q hc
theorem mulOk_lt {a b : Int} {m n : Nat} (ha : a.natAbs < 2 ^ m) (hb : b.natAbs < 2 ^ n) (h : m + n ≤ 134217728) : IntMulOk a b := IntMulOk.of_le (intBits_le_iff.mpr ha) (intBits_le_iff.mpr hb) h
theorem bt_isi : bootBuiltins "isinstance" = some (.builtin "isinstance") := by decide +kernel
theorem bt_int : bootBuiltins "int" = some (.type "int") := by decide +kernel
theorem bt_bool : bootBuiltins "bool" = some (.type "bool") := by decide +kernel
theorem bt_tuple : bootBuiltins "tuple" = some (.type "tuple") := by decide +kernel
theorem bt_list : bootBuiltins "list" = some (.type "list") := by decide +kernel
theorem bt_sum : bootBuiltins "sum" = some (.builtin "sum") := by decide +kernel
def rIsT (K : PySem.W.Frag) : List V → Hp → VK → Prop := fun xs H Q => ∃ x T t b, xs = [x, .ty T] ∧ TyOf K H x t ∧ PySem.W.kitOne K t (.type T) = some b ∧ Q (.bl b) H
theorem call_isT : CallR X (.builtin "isinstance") (rIsT X.K) := by
  intro pins s σ H xs us Q I r h
  obtain ⟨x, T, t, b, rfl, ty, e, q⟩ := h
  cases r with
  | cons r1 r2 =>
    cases r2 with
    | cons r3 r4 =>
      cases r4
      cases (show _ = Value.type T from r3)
      exact isinst_ok I r1 ty e fun tk => ⟨.bl b, H, I.tok tk, rfl, q⟩
end
section
variable (K : PySem.W.Frag)
end
section
variable {X : Cx}
theorem Inv.turnedNew {pins : List (Addr × Obj)} {σ : St} {H : Hp} {s : Shared} {h' : Heap} {t' : Nat} {ch : List Addr} {a : Addr} {o : HO} (I : Inv X pins σ H s) (k : ∀ b u, b ∉ ch → s.heap.get? b = some u → h'.get? b = some u)
    (hch : ∀ b ∈ ch, FpOk X pins H b) (hp : s.heap.objs.size ≤ a) (hl : ∀ b ∈ ch, ∃ u, s.heap.get? b = some u) (new : ObjOk X.prog X.w (upd H a o) h' a o) : Inv X pins σ (upd H a o) { s with heap := h', toks := t' } := by
  have ne : ∀ b u, s.heap.get? b = some u → b ≠ a := fun b u e => Nat.ne_of_lt (Nat.lt_of_lt_of_le (Heap.lt_size e) hp)
  have hfr : H a = none := I.hok.fresh hp
  have nitH : ∀ b u, H b = some u → b ∉ ch := fun b u e z => by rw [(hch b z).1] at e; cases e
  have nea : ∀ b u, H b = some u → b ≠ a := fun b u e z => by rw [z, hfr] at e; cases e
  refine I.step (g' := s.gens) (d' := s.drawn) (ch := ch) (fun b hb => ?_) (fun b u _ _ hc e _ => k b u hc e) (fun b u _ _ hc e _ => ⟨u.slots, k b u hc e⟩)
    (fun b u _ e n => by rw [upd_ne (ne b u e)]; exact n) (fun b u hc e => ⟨u, k b u hc e⟩)
    (fun b xs e => by rw [upd_ne (nea b _ e)]; exact e) (fun b ob u e => by rw [upd_ne (nea b _ e)]; exact e) (fun b ps e => ⟨#[], by rw [upd_ne (nea b _ e), e]; simp⟩) (fun m hm => ?_) (fun b u e => ?_) I.bare
  · obtain ⟨_, f1, _, f3, f4, f5⟩ := hch b hb
    exact ⟨f3, f1, f4, f5⟩
  · obtain ⟨ob, es, ep, ho, r⟩ := hm
    exact ⟨ob, es, ep, k _ ob (fun z => (hch _ z).2.1 rfl) ho, r⟩
  · by_cases z : b = a
    · subst z
      rw [upd_same] at e
      cases e
      exact new
    · rw [upd_ne z] at e
      refine (I.hok b u e).stay (fun c v hc q => k c v ?_ q) (fun c q => ?_) fun c ys q => ?_
      · rcases hc with z' | z'
        · rw [z']; exact nitH b u e
        · exact nitH c _ z'
      · rw [upd_ne (nea c _ q)]; exact q
      · rw [upd_ne (nea c _ q)]; exact q
def Iten (K : PySem.W.Frag) (a : Addr) : It :=
  ⟨fun i H => ∃ xs x, SqL K H a xs ∧ xs[i]? = some x,
   fun i H y H' => ∃ p x, H p = none ∧ y = .ref p ∧ H' = upd H p (.tup [.int i, x]) ∧ ∀ xs, SqL K H a xs → xs[i]? = some x,
   fun i H => ∃ xs, SqL K H a xs ∧ xs.length ≤ i⟩
theorem turn_enum {P : Program} {w : World} {K : PySem.W.Frag} {elts : List Expr} {x1 : Nat} {tp : Pos} (a e it : Addr) (hne : e ≠ it) : Turn P w K (.Tuple elts x1 tp) (Iten K a) [e, it] e (fun i h => (∃ old, IsEnum h e it i old) ∧ h.IsListIter it a i) where
  mem := by simp
  obj := fun i h st b hb => by
    obtain ⟨⟨old, he⟩, ⟨o, e1, c, d⟩⟩ := st
    rcases List.mem_cons.mp hb with z | z
    · subst z
      exact ⟨_, he, fun v z => by cases z⟩
    · have z' : b = it := by simpa using z
      subst z'
      exact ⟨o, e1, fun v z => by rw [d] at z; cases z⟩
  keep := fun i h h' st k => by
    obtain ⟨⟨old, he⟩, hit⟩ := st
    exact ⟨⟨old, k e (by simp) _ he⟩, hit.at fun o x => k it (by simp) o x⟩
  item := by
    intro X hP hw hK hc i pins s σ H E I hf st hg
    subst hP hw hK
    obtain ⟨xs, x, hq, hx⟩ := hg
    obtain ⟨its, rv, p, hz⟩ := I.list hq
    obtain ⟨u, hu, ru⟩ := rv.get hx
    obtain ⟨⟨old, he⟩, hit⟩ := st
    have helt : e < s.heap.objs.size := Heap.lt_size he
    have hilt : it < s.heap.objs.size := by obtain ⟨_, z, _⟩ := hit; exact Heap.lt_size z
    refine wpAny_pyNext_enum_item he hit p.isList (x := u) (by simpa using hu) hne fun h' ho hit' hT hsz hk => ⟨_, rfl, ?_⟩
    refine wpAny_letOwnedTupleGo_enum (s := { s with heap := h', toks := s.toks + 1 }) ho fun h2 he2 hs2 => ?_
    have keep2 : ∀ b o, b ∉ [e, it] → s.heap.get? b = some o → h2.get? b = some o := fun b o hb q => by
      have n1 : b ≠ e := fun z => hb (by simp [z])
      have n2 : b ≠ it := fun z => hb (by simp [z])
      exact (hs2.2 b n1).trans (hk b o n1 n2 q)
    have hT2 : h2.get? s.heap.objs.size = some { cls := .type "tuple", data := .seq #[.int i s.toks, u] } := (hs2.2 _ (Nat.ne_of_gt helt)).trans hT
    have I2 : Inv X pins σ (upd H s.heap.objs.size (.tup [.int i, x])) { s with heap := h2, toks := s.toks + 1 } :=
      I.turnedNew (ch := [e, it]) keep2 hf (Nat.le_refl _) (fun b hb => by
        rcases List.mem_cons.mp hb with z | z
        · subst z; exact ⟨_, he⟩
        · have z' : b = it := by simpa using z
          subst z'
          obtain ⟨o, z, _⟩ := hit
          exact ⟨o, z⟩)
        ⟨by show 2 ≤ sizeLine; decide, [.int i s.toks, u], .cons ⟨_, rfl⟩ (.cons ru .nil), ⟨_, hT2, rfl, _, rfl⟩⟩
    have hnew : H s.heap.objs.size = none := I.hok.fresh (Nat.le_refl _)
    refine ⟨.ref s.heap.objs.size, _, I2, rfl, ⟨_, x, hnew, rfl, rfl, fun ys hy => by rw [I.list_inj hy hq]; exact hx⟩, ⟨⟨u, by simpa using he2⟩, hit'.at fun o z => (hs2.2 it (Ne.symm hne)).trans z⟩, fun b hb => ?_⟩
    have nb : b ≠ s.heap.objs.size := by
      rcases List.mem_cons.mp hb with z | z
      · rw [z]; exact Nat.ne_of_lt helt
      · have z' : b = it := by simpa using z
        rw [z']; exact Nat.ne_of_lt hilt
    rw [upd_ne nb]
    exact (hf b hb).1
  done := by
    intro X hP hw hK hc i pins s σ H E I hf st hg
    subst hP hw hK
    obtain ⟨xs, hq, hx⟩ := hg
    obtain ⟨its, rv, p, hz⟩ := I.list hq
    have hl := rv.length
    obtain ⟨⟨old, he⟩, hit⟩ := st
    obtain ⟨f0, f1, f2, f3, f4, f5⟩ := hf it (by simp)
    exact wpAny_pyNext_enum_end (I.ok.hd hc) he hit p.isList (by simp; omega) fun h' eb => ⟨rfl, I.turned (t' := s.toks) (fun b o hb e => eb b o hb e) f0 f1 f3 f4 f5⟩
  self := fun _ _ _ _ _ st h => by
    obtain ⟨⟨old, he⟩, _⟩ := st
    exact wpAny_pyIter_enum he h
def iEnum (K : PySem.W.Frag) (tl : TA) : TI := fun σ H R => tl σ H fun vs H1 => ∃ a, vs = [.ref a] ∧ (∃ xs, SqL K H1 a xs) ∧ R (Iten K a) H1
theorem pi_enum {elts : List Expr} {x1 : Nat} {tp : Pos} {l : Expr} {tl : TA} {p pos : Pos} (hg : Gl X "enumerate") (hm : X.mg "enumerate" = none) (hl : PA X [l] tl) (hs : starEach [l] X.env = [(false, eval l X.env)] := by rfl) :
    PI X (.Tuple elts x1 tp) (.Call (.Name "enumerate" p) [l] [] pos) (iEnum X.K tl) := by
  intro pins s σ H R I h
  refine Call_ (ld_blt I hg hm PyProof.Rows.boot_enumerate (PyProof.Rows.callWith_type1 (thn (hl pos pins s σ H _ I h) fun us s1 ⟨vs, H1, I1, r1, q1⟩ => ?_) hs rfl))
  obtain ⟨a, e, ⟨xs, hq⟩, q⟩ := q1
  subst e
  cases r1 with
  | cons r rr =>
    cases rr
    cases (show _ = Value.ref a from r)
    obtain ⟨its, rv, pl, hz⟩ := I1.list hq
    refine call_enumerate_list pl.isList fun h' he hit hsz hk => ?_
    have I2 : Inv X pins σ H1 { s1 with heap := h' } := I1.kept (t' := s1.toks) hk
    refine wpAny_pyIter_enum (s := { s1 with heap := h' }) he ?_
    refine ⟨s1.heap.objs.size + 1, [s1.heap.objs.size + 1, s1.heap.objs.size], _, _, H1, rfl, I2, turn_enum a _ _ (Nat.succ_ne_self _), ⟨⟨_, he⟩, hit⟩, fun b hb => ?_, q⟩
    rcases List.mem_cons.mp hb with z | z
    · subst z
      exact I1.fpOk (Nat.le_succ _) (I1.hok.fresh (Nat.le_succ _))
    · have z' : b = s1.heap.objs.size := by simpa using z
      subst z'
      exact I1.fpOk (Nat.le_refl _) (I1.hok.fresh (Nat.le_refl _))
end
end L2
namespace L2
open PySem PySem.Spec PyProof.Rows
section
variable {prog : Program} {w : World} {A : Around} {R : Result → Shared → Prop} {s : Shared}
theorem comp_loop {elt target iter : Expr} {ifs : List Expr} {scope : Scope} {pos : Pos} {it acc : Value} {env : Env} (I : Nat → Shared → Prop)
    (turn : ∀ n s, I n s → wpAny (model prog w) A (pyNext it) (fun r s₁ => match r with
      | none => R (.ok .next) s₁
      | some v => wpAny (model prog w) A (letOwnedTupleGo target it v) (fun _ s₂ => wpAny (model prog w) A (assign target env v) (fun _ s₃ =>
          wpAny (model prog w) A (forIn ifs true fun c r => if r = true then do let ok ← isTrue c env (eval c env); pure (ForInStep.yield ok) else pure (ForInStep.yield r)) (fun ok s₄ =>
            if ok = true then wpAny (model prog w) A (eval elt env) (fun x s₅ =>
              wpAny (model prog w) A (call (.builtin "list.append") [acc, x]) (fun _ s₆ => ∃ m, m < n ∧ I m s₆) (fun _ _ => False) s₅) (fun _ _ => False) s₄
            else ∃ m, m < n ∧ I m s₄) (fun _ _ => False) s₃) (fun _ _ => False) s₂) (fun _ _ => False) s₁) (fun _ _ => False) s)
    (n : Nat) (h : I n s) :
    codeAny (model prog w) A (.compLoop (.ListComp elt [⟨target, iter, ifs, 0⟩] scope pos) 0 it acc env) R s := by
  refine codeAny_loop rfl I (fun n s hI => ?_) n h
  show wpAny _ A ((compTurn (.ListComp elt [⟨target, iter, ifs, 0⟩] scope pos) 0 it acc env).onRaise (fun x => do noteFrame x env; theTreesLotGoes x)) _ _ s
  refine wpAny_noted ?_
  rw [compTurn_list]
  refine wpAny_bind (wpAny_standAt (wpAny_bind (wpAny_mono (turn n s hI) (fun r s₁ h₁ => ?_) fun _ _ h' => h'.elim)))
  cases r with
  | none => exact wpAny_pure h₁
  | some v =>
    refine wpAny_bind (wpAny_mono h₁ (fun _ s₂ h₂ => wpAny_bind (wpAny_mono h₂ (fun _ s₃ h₃ => wpAny_bind (wpAny_mono h₃ (fun ok s₄ h₄ => ?_) fun _ _ h' => h'.elim)) fun _ _ h' => h'.elim)) fun _ _ h' => h'.elim)
    cases ok with
    | false => exact wpAny_pure ⟨rfl, h₄⟩
    | true =>
      exact wpAny_bind (wpAny_bind (wpAny_mono h₄ (fun x s₅ h₅ => wpAny_bind (wpAny_mono h₅ (fun _ s₆ h₆ => wpAny_pure (wpAny_pure ⟨rfl, h₆⟩)) fun _ _ h' => h'.elim)) fun _ _ h' => h'.elim))
end
def cxc (X : Cx) (scope : Scope) (cl : List (Str × Addr)) (N : List Str) (C : Addr) (s₀ : Shared) (H₀ : Hp) (ex : List Addr) (pins : List (Addr × Obj)) : Cx :=
  { X with N := N, s₀ := s₀, H₀ := H₀, env := compEnvC scope cl C X.env, outer := X.stack, stack := X.stack, ex := ex, fn := fun _ => false, pn := X.pn ++ pins, xe := fun _ _ => False }
inductive Frees (X : Cx) (sc : Scope) (cl : List (Str × Addr)) : List Str → List Nat → Prop where
  | nil : Frees X sc cl [] []
  | cons {x : Str} {j : Nat} {c : Addr} {fs : List Str} {js : List Nat} (hN : X.N[j]? = some x) (hf : sc.names.lookup x = some .free) (hv : X.env.kindOf x = some .cell ∨ X.env.kindOf x = some .free) (hc : X.env.cells.lookup x = some c) (hl : cl.lookup x = some c) (r : Frees X sc cl fs js) : Frees X sc cl (x :: fs) (j :: js)
inductive Agrees (X : Cx) : List (Str × Addr) → Prop where
  | nil : Agrees X []
  | cons {x : Str} {c : Addr} {r : List (Str × Addr)} (h : X.env.cells.lookup x = some c) (t : Agrees X r) : Agrees X ((x, c) :: r)
theorem Agrees.at {X : Cx} : ∀ {cl : List (Str × Addr)}, Agrees X cl → ∀ x c, cl.lookup x = some c → X.env.cells.lookup x = some c
  | _, .nil, _, _, e => by simp at e
  | _, .cons (x := y) (c := d) h t, x, c, e => by
    rw [List.lookup_cons] at e
    cases q : x == y with
    | true =>
      rw [q] at e
      have e' : d = c := Option.some.inj e
      have q' : x = y := by simpa using q
      rw [q', ← e']; exact h
    | false =>
      rw [q] at e
      exact Agrees.at t x c e
def freeHas (cl : List (Str × Addr)) (names : List (Str × NameKind)) : Bool := names.all fun y => y.2 != .free || (cl.lookup y.1).isSome
def noCell (names : List (Str × NameKind)) : Bool := names.all fun y => y.2 != .cell
def locOnce (names : List (Str × NameKind)) : Bool := names.all fun y => y.2 != .local || (names.lookup y.1 == some .local)
def blockSt (ts : List Str) (js : List Nat) (σ : St) : St := ts.map (fun _ => none) ++ js.map fun j => (σ[j]?).join
def tComp (wi : TI) (g : TG) (tt : Option TT) (te : TE) (ts : List Str) (js : List Nat) : TE := fun σ H Q => wi σ H fun J H1 => ∀ D, H1 D = none →
  ∃ W : Nat → Nat → St → Hp → Prop, (∃ m, W 0 m (blockSt ts js σ) (upd H1 D (.lst []))) ∧ ∀ i m σ' H', W i m σ' H' →
    (J.stop i H' ∧ Q (.ref D) H') ∨ (J.go i H' ∧ ∃ N : St → Hp → Prop, (∀ σ'' H'', N σ'' H'' → ∃ m', m' < m ∧ W (i + 1) m' σ'' H'') ∧
      ∀ x H2, J.yld i H' x H2 → g x σ' H2 fun σ2 H3 => match tt with
        | none => te σ2 H3 fun y H4 => ∃ ys, H4 D = some (.lst ys) ∧ ys.length < sizeLine ∧ N σ2 (upd H4 D (.lst (ys ++ [y])))
        | some t => t σ2 H3 fun b H3' => if b = true then te σ2 H3' fun y H4 => ∃ ys, H4 D = some (.lst ys) ∧ ys.length < sizeLine ∧ N σ2 (upd H4 D (.lst (ys ++ [y]))) else N σ2 H3')
theorem kindOf_relabel {scope : Scope} {cl : List (Str × Addr)} {C : Addr} {env : Env} {x : Str} (h : (compEnvC scope cl C env).kindOf x = some .cell ∨ (compEnvC scope cl C env).kindOf x = some .free) (nc : noCell scope.names = true) : scope.names.lookup x = some .free := by
  have key : ∀ (names : List (Str × NameKind)), noCell names = true →
      ((names.map fun (n, k) => if (k == NameKind.free && env.scope.kind == .function && env.kindOf n == some .cell) then (n, NameKind.cell) else (n, k)).lookup x = some .cell ∨
       (names.map fun (n, k) => if (k == NameKind.free && env.scope.kind == .function && env.kindOf n == some .cell) then (n, NameKind.cell) else (n, k)).lookup x = some .free) → names.lookup x = some .free := by
    intro names
    induction names with
    | nil => intro _ h; simp at h
    | cons p r ih =>
      obtain ⟨n, k⟩ := p
      intro nc h
      have nc' : (k != .cell) = true ∧ noCell r = true := by
        unfold noCell at nc
        rw [List.all_cons, Bool.and_eq_true] at nc
        exact nc
      rw [List.map_cons] at h
      dsimp only at h
      by_cases hc : (k == NameKind.free && env.scope.kind == .function && env.kindOf n == some .cell) = true
      · rw [if_pos hc] at h
        rw [List.lookup_cons] at h ⊢
        cases q : x == n with
        | true =>
          have : k = .free := by
            rw [Bool.and_eq_true, Bool.and_eq_true] at hc
            simpa using hc.1.1
          rw [this]
        | false =>
          rw [q] at h
          exact ih nc'.2 h
      · rw [if_neg hc] at h
        rw [List.lookup_cons] at h ⊢
        cases q : x == n with
        | true =>
          rw [q] at h
          have nk : k ≠ .cell := by simpa using nc'.1
          rcases h with h | h
          · exact absurd (Option.some.inj h) nk
          · exact h
        | false =>
          rw [q] at h
          exact ih nc'.2 h
  exact key scope.names nc h
theorem pe_comp {X : Cx} {tg elt iter : Expr} {ifs : List Expr} {scope : Scope} {cl : List (Str × Addr)} {pos : Pos} {wi : TI} {g : TG} {tt : Option TT} {te : TE} {ts fs : List Str} {js : List Nat} (hcalm : X.calm = true)
    (hclos : closureFor scope X.env = pure cl) (hk : scope.kind = .function) (nc : noCell scope.names = true) (lo : locOnce scope.names = true) (fh : freeHas cl scope.names = true) (ag : Agrees X cl) (fr : Frees X scope cl fs js)
    (hi : PI X tg iter wi) (hg : ∀ C s₀ H₀ ex pins, PG (cxc X scope cl (ts ++ fs) C s₀ H₀ ex pins) tg g)
    (ht : ∀ C s₀ H₀ ex pins, match ifs, tt with | [], none => True | [c], some t => PT (cxc X scope cl (ts ++ fs) C s₀ H₀ ex pins) c t | _, _ => False)
    (he : ∀ C s₀ H₀ ex pins, PE (cxc X scope cl (ts ++ fs) C s₀ H₀ ex pins) elt te)
    (hs : ∀ x, foldedSetIterable iter X.env x = pure x := by intro _; rfl) :
    PE X (.ListComp elt [⟨tg, iter, ifs, 0⟩] scope pos) (tComp wi g tt te ts js) := by
  intro pins s σ H Q I h
  rw [eval_ListComp]
  have hcell : ∀ y ∈ scope.names, y.2 ≠ .cell := fun y hy => by
    have := List.all_eq_true.mp nc y hy
    simpa using this
  have hnames : ∀ y ∈ scope.names, y.2 = .local → scope.names.lookup y.1 = some .local := fun y hy hl => by
    have := List.all_eq_true.mp lo y hy
    rw [hl] at this
    simpa using this
  refine wpAny_comprehension_free (use := none) rfl hs hclos hk hnames (thn (hi pins s σ H _ I h) fun v s1 h1 => thn h1 fun itv s2 h2 => ?_)
  obtain ⟨it, fp, tn, J, H1, e, I2, T, st2, f2, hJ⟩ := h2
  subst e
  refine wpAny_newObj_type (wpAny_newFunctionEnv hcell (by intro y hy; simp at hy) (fun h₁ hns₁ hsb₁ => ?_) hk)
  dsimp only at hns₁ hsb₁ ⊢
  generalize hH2 : s2.heap.push { cls := .type "list", dict := none, data := .seq ([] : List Value).toArray } = G at hns₁ hsb₁ ⊢
  have hC : G.objs.size = s2.heap.objs.size + 1 := by rw [← hH2, Heap.size_push]
  have old : ∀ b o, s2.heap.get? b = some o → h₁.get? b = some o := fun b o e => by
    have hb := Heap.lt_size e
    refine hsb₁.extBut b o (Nat.ne_of_lt (Nat.lt_of_lt_of_le hb (Nat.le_of_lt (by rw [hC]; exact Nat.lt_succ_self _)))) (Heap.get?_push_of_some _ ?_)
    rw [← hH2]
    exact Heap.get?_push_of_some _ e
  have hacc : h₁.get? s2.heap.objs.size = some { cls := .type "list", dict := none, data := .seq #[] } := by
    refine hsb₁.extBut _ _ (Nat.ne_of_lt (by rw [hC]; exact Nat.lt_succ_self _)) (Heap.get?_push_of_some _ ?_)
    rw [← hH2]
    exact Heap.get?_push_size _ rfl
  have nD : H1 s2.heap.objs.size = none := I2.hok.fresh (Nat.le_refl _)
  have nC : H1 G.objs.size = none := I2.hok.fresh (by omega)
  obtain ⟨W, ⟨m0, w0⟩, turn⟩ := hJ _ nD
  -- the block's state
  have hfpS : ∀ b ∈ fp, b < s2.heap.objs.size := fun b hb => by
    obtain ⟨o, e, _⟩ := T.obj _ _ st2 b hb
    exact Heap.lt_size e
  have ltk : ∀ (x : Str) (c : Addr), cl.lookup x = some c → c < s2.heap.objs.size ∧ H1 c = none ∧ (∃ v, s2.heap.IsCell c v) := fun x c e => by
    have e' := ag.at x c e
    obtain ⟨v, q⟩ := I2.cell x c e'
    exact ⟨q.lt, I2.freeC x c e', v, q⟩
  let X' := cxc X scope cl (ts ++ fs) G.objs.size s2 H1 fp pins
  have okX : X'.Ok := by
    refine ⟨I2.ok.mod, hk, I2.ok.glob, I2.ok.blt, by show s2.heap.objs.size ≤ G.objs.size; omega, fun x y c e1 e2 => I2.ok.inj x y c (ag.at x c e1) (ag.at y c e2), fun x hx => ?_, fun x c hf _ => (nomatch (show (false : Bool) = true from hf)), I2.ok.hd, I2.ok.frames, .inl rfl, fun b hb => ⟨?_, fun x c e z => ?_⟩, fun b o e => I2.bs b o e, Nat.le_trans I2.ok.bsz I2.sz, fun b o e hb => ?_, fun b hb hz => ?_, I2.stack, fun b hb => I2.stkFree b hb⟩
    · have hfree := kindOf_relabel (env := X.env) hx nc
      have hm : ∃ y ∈ scope.names, y.1 = x ∧ y.2 = .free := by
        have : ∀ (l : List (Str × NameKind)), l.lookup x = some .free → ∃ y ∈ l, y.1 = x ∧ y.2 = .free := by
          intro l
          induction l with
          | nil => intro h; simp at h
          | cons p r ih =>
            intro h
            rw [List.lookup_cons] at h
            cases q : x == p.1 with
            | true =>
              rw [q] at h
              exact ⟨p, List.mem_cons_self, (by simpa using q : x = p.1).symm, Option.some.inj h⟩
            | false =>
              rw [q] at h
              obtain ⟨y, hy, r1, r2⟩ := ih h
              exact ⟨y, List.mem_cons_of_mem _ hy, r1, r2⟩
        exact this _ hfree
      obtain ⟨y, hy, r1, r2⟩ := hm
      have := List.all_eq_true.mp fh y hy
      rw [r2] at this
      have h' : (cl.lookup y.1).isSome = true := by simpa using this
      rw [r1] at h'
      exact Option.isSome_iff_exists.mp h'
    · exact Nat.ne_of_lt (Nat.lt_of_lt_of_le (hfpS b hb) (by show s2.heap.objs.size ≤ G.objs.size; omega))
    · exact (f2 b hb).2.2.2.2.1 x c (ag.at x c e) z
    · obtain ⟨_, _, _, f3, _, _⟩ := f2 b hb
      rcases f3 with z | z
      · exact I2.ok.noex b o e z
      · exact absurd (Nat.lt_of_lt_of_le (Heap.lt_size (I2.ok.bs b o e).1) z) (Nat.lt_irrefl _)
    · rcases List.mem_cons.mp (I2.stkSub b hz) with z | z
      · exact (f2 b hb).2.1 z
      · exact (f2 b hb).2.2.1 z
  have keepB : ∀ b o, s2.heap.get? b = some o → h₁.get? b = some o := old
  have I3 : Inv X' [] (blockSt ts js σ) (upd H1 s2.heap.objs.size (.lst [])) { s2 with heap := h₁, toks := s2.toks + ([] : List (Str × Value)).length } := by
    have neD : ∀ b o, s2.heap.get? b = some o → b ≠ s2.heap.objs.size := fun b o e => Nat.ne_of_lt (Heap.lt_size e)
    refine ⟨okX, rfl, I2.bare, ⟨fun b o e n hb hx => old b o e, fun b o e n hb hx => ⟨o.slots, old b o e⟩, fun b o e n hx => by rw [upd_ne (neD b o e)]; exact n, fun b o e hx => ⟨o, old b o e⟩, fun b xs e => ?_, fun b o u e => ?_, fun b ps e => ?_⟩, ⟨_, hns₁, fun i x v e1 e2 e3 => ?_⟩, fun x c e => ?_, ?_, fun x c e => ?_, fun p hp => ?_, ?_, ?_⟩
    · rw [upd_ne (ne_of_none e nD)]; exact e
    · rw [upd_ne (ne_of_none e nD)]; exact e
    · exact ⟨#[], by rw [upd_ne (ne_of_none e nD)]; exact Eq.trans e (by simp)⟩
    · -- the free names
      have hlen : (ts.map (fun _ => (none : Option V))).length = ts.length := List.length_map _
      unfold blockSt at e2
      by_cases hlt : i < ts.length
      · rw [List.getElem?_append_left (by rw [hlen]; exact hlt), List.getElem?_map] at e2
        cases q : ts[i]? <;> rw [q] at e2 <;> cases e2
      · rw [List.getElem?_append_right (by rw [hlen]; omega), hlen] at e2
        have e1' : fs[i - ts.length]? = some x := by
          have e1' : (ts ++ fs)[i]? = some x := e1
          rw [List.getElem?_append_right (by omega)] at e1'
          exact e1'
        have all : ∀ {fs : List Str} {js : List Nat}, Frees X scope cl fs js → ∀ k : Nat, fs[k]? = some x → (js.map fun j => (σ[j]?).join)[k]? = some (some v) →
            ∃ (j : Nat) (c : Addr), X.N[j]? = some x ∧ σ[j]? = some (some v) ∧ (X.env.kindOf x = some .cell ∨ X.env.kindOf x = some .free) ∧ X.env.cells.lookup x = some c ∧ cl.lookup x = some c ∧ scope.names.lookup x = some .free := by
          intro fs js r
          induction r with
          | nil => intro k e; simp at e
          | @cons y j c fs js hN hf hv hc hl r ih =>
            intro k e e'
            cases k with
            | zero =>
              have e0 : y = x := by simpa using e
              subst e0
              have e0' : (σ[j]?).join = some v := by simpa using e'
              refine ⟨j, c, hN, ?_, hv, hc, hl, hf⟩
              cases q : σ[j]? with
              | none => rw [q] at e0'; cases e0'
              | some z => rw [q] at e0'; cases z with
                | none => cases e0'
                | some z => have : z = v := by simpa using e0'
                            rw [this]
            | succ k => exact ih k (by simpa using e) (by simpa using e')
        obtain ⟨j, c, q1, q2, q3, q4, q5, q6⟩ := all fr (i - ts.length) e1' e2
        obtain ⟨m, hn, hl⟩ := I2.loc
        have vis : Vis X.env.scope x := by
          rcases q3 with z | z
          · exact .inr (.inl z)
          · exact .inr (.inr z)
        obtain ⟨u, ru, lk⟩ := hl j x v q1 q2 vis
        refine ⟨u, ru, .inr ⟨?_, c, q5, ?_⟩⟩
        · rcases e3 with z | z | z
          · exfalso
            -- a local of the block has no slot here: it is not free
            have key : ∀ (l : List (Str × NameKind)), (l.map fun (n, k) => if (k == NameKind.free && X.env.scope.kind == .function && X.env.kindOf n == some .cell) then (n, NameKind.cell) else (n, k)).lookup x = some .local → l.lookup x = some .local := by
              intro l
              induction l with
              | nil => intro h; simp at h
              | cons p r ih =>
                obtain ⟨n, k⟩ := p
                intro h
                rw [List.map_cons] at h
                dsimp only at h
                by_cases hc : (k == NameKind.free && X.env.scope.kind == .function && X.env.kindOf n == some .cell) = true
                · rw [if_pos hc] at h
                  rw [List.lookup_cons] at h ⊢
                  cases q : x == n with
                  | true => rw [q] at h; cases h
                  | false => rw [q] at h; exact ih h
                · rw [if_neg hc] at h
                  rw [List.lookup_cons] at h ⊢
                  cases q : x == n with
                  | true => rw [q] at h; exact h
                  | false => rw [q] at h; exact ih h
            have := key _ z
            rw [q6] at this
            cases this
          · exact .inl z
          · exact .inr z
        · rcases lk with ⟨k, _⟩ | ⟨_, c', e4, z⟩
          · rcases q3 with z | z <;> rw [z] at k <;> cases k
          · rw [q4] at e4
            cases e4
            obtain ⟨o, ho, hd⟩ := z
            exact ⟨o, old c o ho, hd⟩
    · obtain ⟨_, _, v, o, ho, hd⟩ := ltk x c e
      exact ⟨v, o, old c o ho, hd⟩
    · show upd H1 s2.heap.objs.size (.lst []) G.objs.size = none
      rw [upd_ne (Nat.ne_of_gt (by rw [hC]; exact Nat.lt_succ_self _))]; exact nC
    · obtain ⟨q1, q2, _⟩ := ltk x c e
      rw [upd_ne (Nat.ne_of_lt q1)]; exact q2
    · have hp' : p ∈ X.pn ++ pins := by
        have : p ∈ (X.pn ++ pins) ++ [] := hp
        rwa [List.append_nil] at this
      obtain ⟨e, n, ne, nf, d⟩ := I2.pin p hp'
      have hlt := Heap.lt_size e
      refine ⟨old _ _ e, by rw [upd_ne (Nat.ne_of_lt hlt)]; exact n, ?_, fun hz => ?_, d⟩
      · show p.1 ≠ G.objs.size
        exact Nat.ne_of_lt (Nat.lt_trans hlt (by rw [hC]; exact Nat.lt_succ_self _))
      · rcases List.mem_cons.mp (I2.stkSub _ hz) with z | z
        · exact ne z
        · exact nf z
    · exact I2.hok.laid old (Nat.le_refl _) ⟨Nat.zero_le _, [], 0, .nil, hacc⟩
    · show (blockSt ts js σ).length = (ts ++ fs).length
      have frl : ∀ {fs : List Str} {js : List Nat}, Frees X scope cl fs js → fs.length = js.length := by
        intro fs js r
        induction r with
        | nil => rfl
        | cons _ _ _ _ _ _ ih => rw [List.length_cons, List.length_cons, ih]
      unfold blockSt
      rw [List.length_append, List.length_append, List.length_map, List.length_map, frl fr]
  have stat : ∀ {H' : Hp}, (∀ b ∈ fp, H' b = none) → ∀ b ∈ fp, FpOk X' [] H' b := fun {H'} hn b hb => by
    obtain ⟨_, f1, f3, _, f4, f5⟩ := f2 b hb
    refine ⟨hn b hb, okX.exf b hb |>.1, okX.exfs b hb, .inl hb, fun x c e => f4 x c (ag.at x c e), fun p hp => f5 p ?_⟩
    have : p ∈ (X.pn ++ pins) ++ [] := hp
    rwa [List.append_nil] at this
  have fin : ∀ {σ' : St} {H' : Hp} {s' : Shared}, Inv X' [] σ' H' s' → Q (.ref s2.heap.objs.size) H' →
      compPost (model X.prog X.w) X.A X.xe none (EP X pins σ Q) (.ref s2.heap.objs.size) G.objs.size (.ok .next) s' := by
    intro σ' H' s' I4 q
    obtain ⟨m, hn, _⟩ := I4.loc
    refine ⟨m, hn, fun h' hs' => ⟨.ref s2.heap.objs.size, H', ?_, rfl, q⟩⟩
    have neC : ∀ b o, s2.heap.get? b = some o → b ≠ G.objs.size := fun b o e => Nat.ne_of_lt (Nat.lt_trans (Heap.lt_size e) (by rw [hC]; exact Nat.lt_succ_self _))
    have fC : H' G.objs.size = none := I4.free
    refine I2.call' (s' := { s' with heap := h' }) (ch := fp) I4.os ⟨fun b o e n hb hx => ?_, fun b o e n hb hx => ?_, fun b o e n hx => I4.base.free b o e n hx, fun b o e hx => ?_, I4.base.tups, I4.base.frzs, I4.base.tbls⟩ (fun b u e => ?_) I4.bare fun b hb => ?_
    · exact (hs'.2 b (neC b o e)).trans (I4.base.keep b o e n hb hx)
    · obtain ⟨sl, e1⟩ := I4.base.slot b o e n hb hx
      exact ⟨sl, (hs'.2 b (neC b o e)).trans e1⟩
    · obtain ⟨o', e1⟩ := I4.base.there b o e hx
      exact ⟨o', (hs'.2 b (neC b o e)).trans e1⟩
    · refine (I4.hok b u e).stay (fun c v hc q => (hs'.2 c ?_).trans q) (fun _ q => q) fun _ _ q => q
      rcases hc with z | z
      · rw [z]; exact ne_of_none e fC
      · exact ne_of_none z fC
    · obtain ⟨_, f1, _, f3, f4, f5⟩ := f2 b hb
      exact ⟨f3, f1, f4, f5⟩
  have loop : ∀ s3 : Shared, s3 = { s2 with heap := h₁, toks := s2.toks + ([] : List (Str × Value)).length } →
      codeAny (model X.prog X.w) X.A (.compLoop (.ListComp elt [⟨tg, iter, ifs, 0⟩] scope pos) 0 (.ref it) (.ref s2.heap.objs.size) (compEnvC scope cl G.objs.size X.env))
        (compPost (model X.prog X.w) X.A X.xe none (EP X pins σ Q) (.ref s2.heap.objs.size) G.objs.size) s3 := by
    rintro s3 rfl
    refine comp_loop (fun n s' => ∃ i σ' H', Inv X' [] σ' H' s' ∧ tn i s'.heap ∧ (∀ b ∈ fp, H' b = none) ∧ W i n σ' H') ?_ m0 ⟨0, _, _, I3, T.keep _ _ _ st2 fun b _ o e => old b o e, fun b hb => ?_, w0⟩
    · rintro n s3 ⟨i, σ3, H3, I3, st3, fr3, w3⟩
      rcases turn i n σ3 H3 w3 with ⟨stop, qn⟩ | ⟨go, N, hN, step⟩
      · refine thn (T.done X' rfl rfl rfl hcalm i [] s3 σ3 H3 _ I3 (stat fr3) st3 stop) fun r s4 ⟨hr, I4⟩ => ?_
        subst hr
        exact fin I4 qn
      · refine thn (T.item X' rfl rfl rfl hcalm i [] s3 σ3 H3 _ I3 (stat fr3) st3 go) fun r s4 ⟨u, hr, h4⟩ => ?_
        subst hr
        refine thn h4 fun _ s5 ⟨x, H5, I5, r5, y5, st5, fr5⟩ => ?_
        have I5' := I5.pinned (stat fr5) (T.obj _ _ st5)
        refine thn (hg _ _ _ _ _ _ s5 σ3 H5 x u _ I5' r5 (step x H5 y5)) fun _ s6 ⟨σ6, H6, I6, q6⟩ => ?_
        have again : ∀ {σ7 : St} {H7 : Hp} {s7 : Shared}, Inv X' ([] ++ pinsAt fp s5.heap) σ7 H7 s7 → N σ7 H7 → ∃ m, m < n ∧ ∃ i σ' H', Inv X' [] σ' H' s7 ∧ tn i s7.heap ∧ (∀ b ∈ fp, H' b = none) ∧ W i m σ' H' := fun {σ7 H7 s7} I7 n7 => by
          obtain ⟨m', hm, w7⟩ := hN σ7 H7 n7
          refine ⟨m', hm, i + 1, σ7, H7, I7.unpinned, T.keep _ _ _ st5 fun b hb o e => (I7.pin (b, o) (List.mem_append_right _ (List.mem_append_right _ (mem_pinsAt hb e)))).1, fun b hb => ?_, w7⟩
          obtain ⟨o, e, d⟩ := T.obj _ _ st5 b hb
          exact (I7.pin (b, o) (List.mem_append_right _ (List.mem_append_right _ (mem_pinsAt hb e)))).2.1
        have tail : ∀ {H7 : Hp} {s7 : Shared}, Inv X' ([] ++ pinsAt fp s5.heap) σ6 H7 s7 → (te σ6 H7 fun y H4 => ∃ ys, H4 s2.heap.objs.size = some (.lst ys) ∧ ys.length < sizeLine ∧ N σ6 (upd H4 s2.heap.objs.size (.lst (ys ++ [y])))) →
            wpAny (model X.prog X.w) X.A (eval elt (compEnvC scope cl G.objs.size X.env)) (fun x s₅ => wpAny (model X.prog X.w) X.A (call (.builtin "list.append") [.ref s2.heap.objs.size, x])
              (fun _ s₆ => ∃ m, m < n ∧ ∃ i σ' H', Inv X' [] σ' H' s₆ ∧ tn i s₆.heap ∧ (∀ b ∈ fp, H' b = none) ∧ W i m σ' H') (fun _ _ => False) s₅) (fun _ _ => False) s7 := by
          intro H7 s7 I7 q7
          refine thn (he _ _ _ _ _ _ s7 σ6 H7 _ I7 q7) fun uy s8 ⟨y, H8, I8, ry, ys, hy, hl, q8⟩ => ?_
          refine thn (mt_append (X := X') _ s8 σ6 H8 (.ref s2.heap.objs.size) [y] (.ref s2.heap.objs.size) [uy] (fun _ H9 => N σ6 H9) I8 rfl (.cons ry .nil) ⟨_, ys, y, rfl, rfl, hy, hl, q8⟩) fun _ s9 ⟨_, H9, I9, _, q9⟩ => ?_
          exact again I9 q9
        cases ifs with
        | nil =>
          cases tt with
          | none => exact wpAny_tests_nil (tail I6 q6)
          | some t => exact (ht 0 s2 H1 [] []).elim
        | cons c r =>
          cases r with
          | nil =>
            cases tt with
            | none => exact (ht 0 s2 H1 [] []).elim
            | some t =>
              refine wpAny_tests_one (thn (ht G.objs.size s2 H1 fp pins _ s6 σ6 H6 _ I6 q6) fun b s7 ⟨H7, I7, q7⟩ => ?_)
              cases b with
              | true =>
                rw [if_pos rfl] at q7 ⊢
                exact tail I7 q7
              | false =>
                rw [if_neg Bool.false_ne_true] at q7 ⊢
                exact again I7 q7
          | cons _ _ => cases tt <;> exact (ht 0 s2 H1 [] []).elim
    · rw [upd_ne (Nat.ne_of_lt (hfpS b hb))]
      exact (f2 b hb).1
  exact codeAny_compStart_list (loop _ rfl) (T.self _ 0 _ _ _ (T.keep _ _ _ st2 fun b _ o e => old b o e) (loop _ rfl))
def tCompN (wi : TI) (g : TG) (te : TE) (ts : List Str) (js : List Nat) : TE := fun σ H Q => wi σ H fun J H1 => ∀ D, H1 D = none →
  ∃ W : Nat → Nat → St → Hp → Prop, (∃ m, W 0 m (blockSt ts js σ) (upd H1 D (.lst []))) ∧ ∀ i m σ' H', W i m σ' H' →
    (J.stop i H' ∧ Q (.ref D) H') ∨ (J.go i H' ∧ ∃ N : St → Hp → Prop, (∀ σ'' H'', N σ'' H'' → ∃ m', m' < m ∧ W (i + 1) m' σ'' H'') ∧
      ∀ x H2, J.yld i H' x H2 → g x σ' H2 fun σ2 H3 => te σ2 H3 fun y H4 => ∃ ys, H4 D = some (.lst ys) ∧ ys.length < sizeLine ∧ N σ2 (upd H4 D (.lst (ys ++ [y]))))
theorem pe_compN {X : Cx} {tg elt iter : Expr} {scope : Scope} {cl : List (Str × Addr)} {pos : Pos} {wi : TI} {g : TG} {te : TE} {ts fs : List Str} {js : List Nat} (hcalm : X.calm = true)
    (hclos : closureFor scope X.env = pure cl) (hk : scope.kind = .function) (nc : noCell scope.names = true) (lo : locOnce scope.names = true) (fh : freeHas cl scope.names = true) (ag : Agrees X cl) (fr : Frees X scope cl fs js)
    (hi : PI X tg iter wi) (hg : ∀ C s₀ H₀ ex pins, PG (cxc X scope cl (ts ++ fs) C s₀ H₀ ex pins) tg g) (he : ∀ C s₀ H₀ ex pins, PE (cxc X scope cl (ts ++ fs) C s₀ H₀ ex pins) elt te)
    (hs : ∀ x, foldedSetIterable iter X.env x = pure x := by intro _; rfl) : PE X (.ListComp elt [⟨tg, iter, [], 0⟩] scope pos) (tCompN wi g te ts js) :=
  pe_comp (tt := none) hcalm hclos hk nc lo fh ag fr hi hg (fun _ _ _ _ _ => trivial) he hs
end L2
namespace L2
open PySem PySem.Spec PyProof.Rows
def SqH (h : Heap) (b : Bool) (l : Addr) (xs : Array Value) : Prop := match b with
  | true => h.IsList l xs
  | false => h.IsTuple l xs
def ItH (h : Heap) (b : Bool) (it l : Addr) (i : Nat) : Prop := match b with
  | true => h.IsListIter it l i
  | false => h.IsTupleIter it l i
theorem SqH.at {h h' : Heap} {b : Bool} {l : Addr} {xs : Array Value} (x : SqH h b l xs) (k : ∀ o, h.get? l = some o → h'.get? l = some o) : SqH h' b l xs := by
  cases b with
  | true => obtain ⟨o, ho, r⟩ := (show h.IsList l xs from x); exact (show h'.IsList l xs from ⟨o, k o ho, r⟩)
  | false => obtain ⟨o, ho, r⟩ := (show h.IsTuple l xs from x); exact (show h'.IsTuple l xs from ⟨o, k o ho, r⟩)
theorem ItH.at {h h' : Heap} {b : Bool} {it l : Addr} {i : Nat} (x : ItH h b it l i) (k : ∀ o, h.get? it = some o → h'.get? it = some o) : ItH h' b it l i := by
  cases b with
  | true => obtain ⟨o, ho, r⟩ := (show h.IsListIter it l i from x); exact (show h'.IsListIter it l i from ⟨o, k o ho, r⟩)
  | false => obtain ⟨o, ho, r⟩ := (show h.IsTupleIter it l i from x); exact (show h'.IsTupleIter it l i from ⟨o, k o ho, r⟩)
theorem ItH.obj {h : Heap} {b : Bool} {it l : Addr} {i : Nat} (x : ItH h b it l i) : ∃ o vs, h.get? it = some o ∧ o.data = .fields vs := by
  cases b with
  | true => obtain ⟨o, ho, _, hd⟩ := (show h.IsListIter it l i from x); exact ⟨o, _, ho, hd⟩
  | false => obtain ⟨o, ho, _, hd⟩ := (show h.IsTupleIter it l i from x); exact ⟨o, _, ho, hd⟩
theorem SqH.obj {h : Heap} {b : Bool} {l : Addr} {xs : Array Value} (x : SqH h b l xs) : ∃ o n, h.get? l = some o ∧ o.data = .seq xs n := by
  cases b with
  | true => obtain ⟨o, ho, _, n, hd⟩ := (show h.IsList l xs from x); exact ⟨o, n, ho, hd⟩
  | false => obtain ⟨o, ho, _, n, hd⟩ := (show h.IsTuple l xs from x); exact ⟨o, n, ho, hd⟩
section
variable {prog : Program} {w : World} {A : Around} {E : Value → Shared → Prop} {s : Shared}
theorem nextOf_tuple_item {it t : Addr} {i : Nat} {items : Array Value} {x : Value} {Q : Value → Shared → Prop} (hit : s.heap.IsTupleIter it t i)
    (ht : s.heap.IsTuple t items) (hx : items[i]? = some x)
    (hQ : ∀ h', h'.IsTupleIter it t (i + 1) → Heap.SameBut it s.heap h' → Q x { s with heap := h' }) :
    wpAny (model prog w) A (Builtin.SmallTypes.nextOf (.ref it)) Q E s := by
  obtain ⟨o, ho, hc, hd⟩ := id hit
  obtain ⟨ol, hol, _, nl, hdl⟩ := ht
  unfold Builtin.SmallTypes.nextOf
  refine wpAny_bind (wpAny_callSpecial?_slot (name := Str.ofString "__next__") hit.typeIs F.slot_tuple_iterator_next
    (wpAny_call_entry F.slot_tuple_iterator_next hit.typeIs F.entry_tuple_iterator_next ?_ (F.args_tuple_iterator_next_1 _)))
  show wpAny _ _ (field (.ref it) 0 >>= _) _ _ s
  refine wpAny_bind (wpAny_field ho hd (x := .ref t) rfl ?_)
  show wpAny _ _ (if (Value.ref t == Value.none) = true then _ else _) _ _ s
  rw [if_neg (show ¬ ((Value.ref t == Value.none) = true) from Bool.false_ne_true)]
  show wpAny _ _ (field (.ref it) 1 >>= _) _ _ s
  refine wpAny_bind (wpAny_field ho hd (x := .int i 0) rfl ?_)
  show wpAny _ _ (seqItems? (.ref t) >>= _) _ _ s
  refine wpAny_bind (wpAny_seqItems hol hdl ?_)
  simp only [Int.toNat_natCast, hx]
  refine wpAny_bind (wpAny_setField ho hd (by simp) (wpAny_pure ⟨x, rfl, wpAny_pure (hQ _ ?_ (Heap.SameBut.update ..))⟩))
  exact ⟨_, Heap.get?_update_self _ ho (Obj.isFreed_of_fields (Obj.data_mapFields hd _)), (Obj.cls_mapFields ..).trans hc, by
    rw [Obj.data_mapFields hd]; simp [rawInt]⟩
theorem nextOf_tuple_end {it t : Addr} {i : Nat} {items : Array Value} {Q : Value → Shared → Prop} (hh : A.handled = none)
    (hit : s.heap.IsTupleIter it t i) (ht : s.heap.IsTuple t items) (hx : items[i]? = none)
    (hE : ∀ h' e, Heap.ExtBut it s.heap h' → (∃ o, h'.get? e = some o ∧ o.cls = .type "StopIteration") → E (.ref e) { s with heap := h' }) :
    wpAny (model prog w) A (Builtin.SmallTypes.nextOf (.ref it)) Q E s := by
  obtain ⟨o, ho, hc, hd⟩ := id hit
  obtain ⟨ol, hol, _, nl, hdl⟩ := ht
  unfold Builtin.SmallTypes.nextOf
  refine wpAny_bind (wpAny_callSpecial?_slot (name := Str.ofString "__next__") hit.typeIs F.slot_tuple_iterator_next
    (wpAny_call_entry F.slot_tuple_iterator_next hit.typeIs F.entry_tuple_iterator_next ?_ (F.args_tuple_iterator_next_1 _)))
  show wpAny _ _ (field (.ref it) 0 >>= _) _ _ s
  refine wpAny_bind (wpAny_field ho hd (x := .ref t) rfl ?_)
  show wpAny _ _ (if (Value.ref t == Value.none) = true then _ else _) _ _ s
  rw [if_neg (show ¬ ((Value.ref t == Value.none) = true) from Bool.false_ne_true)]
  show wpAny _ _ (field (.ref it) 1 >>= _) _ _ s
  refine wpAny_bind (wpAny_field ho hd (x := .int i 0) rfl ?_)
  show wpAny _ _ (seqItems? (.ref t) >>= _) _ _ s
  refine wpAny_bind (wpAny_seqItems hol hdl ?_)
  simp only [Int.toNat_natCast, hx]
  refine wpAny_bind (wpAny_rule (wpAny_bind (wpAny_setField ho hd (by simp) ?_)))
  show wpAny _ _ (newExc (.type "StopIteration") [] >>= _) _ _ _
  refine wpAny_bind ?_
  simp only [newExc, newTuple]
  refine wpAny_bind (wpAny_newObj_type ?_ (by size_fits))
  refine wpAny_bind (m := firstArgMember _ _) (wpAny_of_eq (a := Value.none) (by first | rfl | (simp only [firstArgMember]; rfl)) ?_)
  refine wpAny_newObj_type ?_ (by size_fits)
  simp only [raiseNew]
  refine wpAny_bind (wpAny_handled ?_)
  first | rw [show A.in1.handled = none from hh] | rw [hh]
  refine wpAny_bind (wpAny_pure (wpAny_throw ?_))
  exact hE _ _ (((Heap.SameBut.update ..).extBut.push _).push _) ⟨_, Heap.get?_push_size _ rfl, rfl⟩
theorem nextOf_item {b : Bool} {it l : Addr} {i : Nat} {items : Array Value} {x : Value} {Q : Value → Shared → Prop} (hit : ItH s.heap b it l i) (hl : SqH s.heap b l items) (hx : items[i]? = some x)
    (hQ : ∀ h', ItH h' b it l (i + 1) → Heap.SameBut it s.heap h' → Q x { s with heap := h' }) : wpAny (model prog w) A (Builtin.SmallTypes.nextOf (.ref it)) Q E s := by
  cases b with
  | true => exact wpAny_nextOf_list_item hit hl hx hQ
  | false => exact nextOf_tuple_item hit hl hx hQ
theorem nextOf_end {b : Bool} {it l : Addr} {i : Nat} {items : Array Value} {Q : Value → Shared → Prop} (hh : A.handled = none) (hit : ItH s.heap b it l i) (hl : SqH s.heap b l items) (hx : items[i]? = none)
    (hE : ∀ h' e, Heap.ExtBut it s.heap h' → (∃ o, h'.get? e = some o ∧ o.cls = .type "StopIteration") → E (.ref e) { s with heap := h' }) : wpAny (model prog w) A (Builtin.SmallTypes.nextOf (.ref it)) Q E s := by
  cases b with
  | true => exact wpAny_nextOf_list_end hh hit hl hx hE
  | false => exact nextOf_tuple_end hh hit hl hx hE
theorem zipH_item {b1 b2 : Bool} {z TI TO i1 i2 l1 l2 : Addr} {k1 k2 : Nat} {xs ys : Array Value} {x y a b : Value} {Q : Value → Shared → Prop} (D : ZipApart z TI TO i1 i2 l1 l2)
    (hz : IsZip s.heap z TI TO .none) (hTI : IsPair s.heap TI (.ref i1) (.ref i2)) (hTO : IsPair s.heap TO a b)
    (h1 : ItH s.heap b1 i1 l1 k1) (h2 : ItH s.heap b2 i2 l2 k2) (hl1 : SqH s.heap b1 l1 xs) (hl2 : SqH s.heap b2 l2 ys) (hx : xs[k1]? = some x) (hy : ys[k2]? = some y)
    (hQ : ∀ h', IsZip h' z TI TO (rawInt s.heap.objs.size) → IsPair h' TO x y → ItH h' b1 i1 l1 (k1 + 1) → ItH h' b2 i2 l2 (k2 + 1) → IsPair h' s.heap.objs.size x y → h'.objs.size = s.heap.objs.size + 1 →
      (∀ c o, c ≠ z → c ≠ TO → c ≠ i1 → c ≠ i2 → s.heap.get? c = some o → h'.get? c = some o) → Q (.ref s.heap.objs.size) { s with heap := h' }) :
    wpAny (model prog w) A (Builtin.«zip.__next__» ⟨[.ref z], []⟩) (fun fin s' => ∃ v, fin = .done (.ret v) ∧ Q v s') E s := by
  show wpAny _ _ (field (.ref z) 2 >>= _) _ _ _
  refine wpAny_bind (wpAny_field hz rfl (x := .bool false) rfl ?_)
  show wpAny _ _ (field (.ref z) 3 >>= _) _ _ _
  refine wpAny_bind (wpAny_field hz rfl (x := .ref TI) rfl ?_)
  refine wpAny_bind (wpAny_seqItems hTI rfl ?_)
  show wpAny _ _ (Builtin.SmallTypes.ownedTupleIsFree (.ref z) >>= _) _ _ _
  refine wpAny_bind ?_
  unfold Builtin.SmallTypes.ownedTupleIsFree
  refine wpAny_bind (wpAny_field hz rfl (x := .none) rfl (wpAny_pure ?_))
  simp only [if_true]
  refine wpAny_bind (wpAny_rule ?_)
  refine wpAny_bind (wpAny_field hz rfl (x := .ref TO) rfl ?_)
  refine wpAny_bind (wpAny_setField_rec hz (by simp) fun h₁ hz₁ hs₁ => ?_)
  replace hz₁ : IsZip h₁ z TI TO .ellipsis := hz₁
  refine wpAny_bind ?_
  simp only [List.zipIdx_cons, List.zipIdx_nil, List.forIn_cons, List.forIn_nil]
  refine wpAny_bind (wpAny_bind (wpAny_onRaise ?_))
  show wpAny _ _ (Builtin.SmallTypes.nextOf (.ref i1) >>= _) _ _ _
  refine wpAny_bind (nextOf_item (h1.at fun o e => hs₁.extBut _ _ D.i1z e) (hl1.at fun o e => hs₁.extBut _ _ D.l1z e) hx fun h₂ h1₂ hs₂ => wpAny_pure ?_)
  have hTO₂ : IsPair h₂ TO a b := hs₂.extBut _ _ D.TOi1 (hs₁.extBut _ _ D.TOz hTO)
  refine wpAny_bind (wpAny_seqItems hTO₂ rfl ?_)
  refine wpAny_bind (wpAny_updateSeq_pair hTO₂ fun h₃ hTO₃ hs₃ => ?_)
  replace hTO₃ : IsPair h₃ TO x b := hTO₃
  refine wpAny_bind (wpAny_letGo (wpAny_pure ?_))
  refine wpAny_bind (wpAny_bind (wpAny_onRaise ?_))
  show wpAny _ _ (Builtin.SmallTypes.nextOf (.ref i2) >>= _) _ _ _
  refine wpAny_bind (nextOf_item (h2.at fun o e => hs₃.extBut _ _ D.TOi2.symm (hs₂.extBut _ _ D.i12.symm (hs₁.extBut _ _ D.i2z e)))
    (hl2.at fun o e => hs₃.extBut _ _ D.l2TO (hs₂.extBut _ _ D.l2i1 (hs₁.extBut _ _ D.l2z e))) hy fun h₄ h2₄ hs₄ => wpAny_pure ?_)
  have hTO₄ : IsPair h₄ TO x b := hs₄.extBut _ _ D.TOi2 hTO₃
  refine wpAny_bind (wpAny_seqItems hTO₄ rfl ?_)
  refine wpAny_bind (wpAny_updateSeq_pair hTO₄ fun h₅ hTO₅ hs₅ => ?_)
  replace hTO₅ : IsPair h₅ TO x y := hTO₅
  refine wpAny_bind (wpAny_letGo (wpAny_pure (wpAny_pure ?_)))
  refine wpAny_bind (wpAny_seqItems hTO₅ rfl ?_)
  refine wpAny_bind (wpAny_newTuple ?_)
  have hsz : h₅.objs.size = s.heap.objs.size := by rw [hs₅.1, hs₄.1, hs₃.1, hs₂.1, hs₁.1]
  have hz₅ : IsZip h₅ z TI TO .ellipsis := hs₅.extBut _ _ D.TOz.symm (hs₄.extBut _ _ D.i2z.symm (hs₃.extBut _ _ D.TOz.symm (hs₂.extBut _ _ D.i1z.symm hz₁)))
  have hk₅ : ∀ c o, c ≠ z → c ≠ TO → c ≠ i1 → c ≠ i2 → s.heap.get? c = some o → h₅.get? c = some o := fun c o c1 c2 c3 c4 e =>
    hs₅.extBut _ _ c2 (hs₄.extBut _ _ c4 (hs₃.extBut _ _ c2 (hs₂.extBut _ _ c3 (hs₁.extBut _ _ c1 e))))
  have h1₅ : ItH h₅ b1 i1 l1 (k1 + 1) := h1₂.at fun o e => hs₅.extBut _ _ D.TOi1.symm (hs₄.extBut _ _ D.i12 (hs₃.extBut _ _ D.TOi1.symm e))
  have h2₅ : ItH h₅ b2 i2 l2 (k2 + 1) := h2₄.at fun o e => hs₅.extBut _ _ D.TOi2.symm e
  have hzlt : z < h₅.objs.size := Heap.lt_size hz₅
  show wpAny _ _ (Builtin.SmallTypes.ownedTupleHandOut (.ref z) (.ref h₅.objs.size) >>= _) _ _ _
  refine wpAny_bind ?_
  unfold Builtin.SmallTypes.ownedTupleHandOut
  have hz₆ : IsZip (h₅.push { cls := .type "tuple", data := .seq #[x, y] }) z TI TO .ellipsis := Heap.get?_push_of_some _ hz₅
  refine wpAny_bind (wpAny_setField_rec hz₆ (by simp) fun h₇ hz₇ hs₇ => ?_)
  replace hz₇ : IsZip h₇ z TI TO (rawInt h₅.objs.size) := hz₇
  refine wpAny_setField_rec hz₇ (by simp) fun h₈ hz₈ hs₈ => ?_
  replace hz₈ : IsZip h₈ z TI TO (rawInt h₅.objs.size) := hz₈
  have up : ∀ c o, c ≠ z → h₅.get? c = some o → h₈.get? c = some o := fun c o c1 e => hs₈.extBut _ _ c1 (hs₇.extBut _ _ c1 (Heap.get?_push_of_some _ e))
  have hT₈ : IsPair h₈ h₅.objs.size x y := hs₈.extBut _ _ (Nat.ne_of_gt hzlt) (hs₇.extBut _ _ (Nat.ne_of_gt hzlt) (Heap.get?_push_size _ rfl))
  have hz8 : h₈.objs.size = h₅.objs.size + 1 := by rw [hs₈.1, hs₇.1, Heap.size_push]
  rw [hsz] at hz₈ hT₈ hz8
  refine wpAny_pure ⟨_, rfl, ?_⟩
  show Q (.ref h₅.objs.size) _
  rw [hsz]
  exact hQ h₈ hz₈ (up _ _ D.TOz hTO₅) (h1₅.at fun o e => up _ o D.i1z e) (h2₅.at fun o e => up _ o D.i2z e) hT₈ hz8 fun c o c1 c2 c3 c4 e => up c o c1 (hk₅ c o c1 c2 c3 c4 e)
theorem zipH_end {b1 b2 : Bool} {z TI TO i1 i2 l1 l2 : Addr} {k1 k2 : Nat} {xs ys : Array Value} {a b : Value} {Q : Fin → Shared → Prop} (hh : A.handled = none) (D : ZipApart z TI TO i1 i2 l1 l2)
    (hz : IsZip s.heap z TI TO .none) (hTI : IsPair s.heap TI (.ref i1) (.ref i2)) (hTO : IsPair s.heap TO a b)
    (h1 : ItH s.heap b1 i1 l1 k1) (h2 : ItH s.heap b2 i2 l2 k2) (hl1 : SqH s.heap b1 l1 xs) (hl2 : SqH s.heap b2 l2 ys) (hend : xs[k1]? = none ∨ ys[k2]? = none)
    (hE : ∀ h' e, (∀ c o, c ≠ z → c ≠ TO → c ≠ i1 → c ≠ i2 → s.heap.get? c = some o → h'.get? c = some o) → (∃ o, h'.get? e = some o ∧ o.cls = .type "StopIteration") → E (.ref e) { s with heap := h' }) :
    wpAny (model prog w) A (Builtin.«zip.__next__» ⟨[.ref z], []⟩) Q E s := by
  show wpAny _ _ (field (.ref z) 2 >>= _) _ _ _
  refine wpAny_bind (wpAny_field hz rfl (x := .bool false) rfl ?_)
  show wpAny _ _ (field (.ref z) 3 >>= _) _ _ _
  refine wpAny_bind (wpAny_field hz rfl (x := .ref TI) rfl ?_)
  refine wpAny_bind (wpAny_seqItems hTI rfl ?_)
  show wpAny _ _ (Builtin.SmallTypes.ownedTupleIsFree (.ref z) >>= _) _ _ _
  refine wpAny_bind ?_
  unfold Builtin.SmallTypes.ownedTupleIsFree
  refine wpAny_bind (wpAny_field hz rfl (x := .none) rfl (wpAny_pure ?_))
  simp only [if_true]
  refine wpAny_bind (wpAny_rule ?_)
  refine wpAny_bind (wpAny_field hz rfl (x := .ref TO) rfl ?_)
  refine wpAny_bind (wpAny_setField_rec hz (by simp) fun h₁ hz₁ hs₁ => ?_)
  replace hz₁ : IsZip h₁ z TI TO .ellipsis := hz₁
  refine wpAny_bind ?_
  simp only [List.zipIdx_cons, List.zipIdx_nil, List.forIn_cons, List.forIn_nil]
  refine wpAny_bind (wpAny_bind (wpAny_onRaise ?_))
  show wpAny _ _ (Builtin.SmallTypes.nextOf (.ref i1) >>= _) _ _ _
  cases hx : xs[k1]? with
  | none =>
    refine wpAny_bind (nextOf_end hh (h1.at fun o e => hs₁.extBut _ _ D.i1z e) (hl1.at fun o e => hs₁.extBut _ _ D.l1z e) hx fun h₂ e hs₂ he => ?_)
    obtain ⟨oe, hoe, hce⟩ := he
    have hz₂ : IsZip h₂ z TI TO .ellipsis := hs₂ _ _ D.i1z.symm hz₁
    have hez : e ≠ z := fun x => by subst x; rw [hz₂] at hoe; cases hoe; simp at hce
    refine wpAny_setField_rec hz₂ (by simp) fun h₃ _ hs₃ => hE h₃ e (fun c o c1 _ c3 _ x => hs₃.extBut _ _ c1 (hs₂ _ _ c3 (hs₁.extBut _ _ c1 x))) ⟨oe, hs₃.extBut _ _ hez hoe, hce⟩
  | some x =>
    have hy : ys[k2]? = none := by rcases hend with h | h; rw [hx] at h; cases h; exact h
    refine wpAny_bind (nextOf_item (h1.at fun o e => hs₁.extBut _ _ D.i1z e) (hl1.at fun o e => hs₁.extBut _ _ D.l1z e) hx fun h₂ h1₂ hs₂ => wpAny_pure ?_)
    have hTO₂ : IsPair h₂ TO a b := hs₂.extBut _ _ D.TOi1 (hs₁.extBut _ _ D.TOz hTO)
    refine wpAny_bind (wpAny_seqItems hTO₂ rfl ?_)
    refine wpAny_bind (wpAny_updateSeq_pair hTO₂ fun h₃ hTO₃ hs₃ => ?_)
    refine wpAny_bind (wpAny_letGo (wpAny_pure ?_))
    refine wpAny_bind (wpAny_bind (wpAny_onRaise ?_))
    show wpAny _ _ (Builtin.SmallTypes.nextOf (.ref i2) >>= _) _ _ _
    refine wpAny_bind (nextOf_end hh (h2.at fun o e => hs₃.extBut _ _ D.TOi2.symm (hs₂.extBut _ _ D.i12.symm (hs₁.extBut _ _ D.i2z e)))
      (hl2.at fun o e => hs₃.extBut _ _ D.l2TO (hs₂.extBut _ _ D.l2i1 (hs₁.extBut _ _ D.l2z e))) hy fun h₄ e hs₄ he => ?_)
    obtain ⟨oe, hoe, hce⟩ := he
    have hz₄ : IsZip h₄ z TI TO .ellipsis := hs₄ _ _ D.i2z.symm (hs₃.extBut _ _ D.TOz.symm (hs₂.extBut _ _ D.i1z.symm hz₁))
    have hez : e ≠ z := fun x => by subst x; rw [hz₄] at hoe; cases hoe; simp at hce
    refine wpAny_setField_rec hz₄ (by simp) fun h₅ _ hs₅ => hE h₅ e (fun c o c1 c2 c3 c4 x => hs₅.extBut _ _ c1 (hs₄ _ _ c4 (hs₃.extBut _ _ c2 (hs₂.extBut _ _ c3 (hs₁.extBut _ _ c1 x))))) ⟨oe, hs₅.extBut _ _ hez hoe, hce⟩
theorem pyIter_seqH {b : Bool} {l : Addr} {items : Array Value} {Q : Value → Shared → Prop} (hl : SqH s.heap b l items)
    (h : ∀ o, o = ({ cls := .type (if b then "list_iterator" else "tuple_iterator"), data := .fields #[.ref l, .int 0 0] } : Obj) → Q (.ref s.heap.objs.size) { s with heap := s.heap.push o }) : wpAny (model prog w) A (pyIter (.ref l)) Q E s := by
  cases b with
  | true => exact wpAny_pyIter_list hl (h _ rfl)
  | false => exact wpAny_pyIter_tuple hl (h _ rfl)
theorem pyNext_zipH_item {b1 b2 : Bool} {z TI TO i1 i2 l1 l2 : Addr} {k1 k2 : Nat} {xs ys : Array Value} {x y a b : Value} {Q : Option Value → Shared → Prop} (D : ZipApart z TI TO i1 i2 l1 l2)
    (hz : IsZip s.heap z TI TO .none) (hTI : IsPair s.heap TI (.ref i1) (.ref i2)) (hTO : IsPair s.heap TO a b)
    (h1 : ItH s.heap b1 i1 l1 k1) (h2 : ItH s.heap b2 i2 l2 k2) (hl1 : SqH s.heap b1 l1 xs) (hl2 : SqH s.heap b2 l2 ys) (hx : xs[k1]? = some x) (hy : ys[k2]? = some y)
    (hQ : ∀ h', IsZip h' z TI TO (rawInt s.heap.objs.size) → IsPair h' TO x y → ItH h' b1 i1 l1 (k1 + 1) → ItH h' b2 i2 l2 (k2 + 1) → IsPair h' s.heap.objs.size x y → h'.objs.size = s.heap.objs.size + 1 →
      (∀ c o, c ≠ z → c ≠ TO → c ≠ i1 → c ≠ i2 → s.heap.get? c = some o → h'.get? c = some o) → Q (some (.ref s.heap.objs.size)) { s with heap := h' }) :
    wpAny (model prog w) A (pyNext (.ref z)) Q E s := by
  have hT : s.TypeIs (.ref z) "zip" := ⟨_, hz, rfl⟩
  unfold pyNext
  exact wpAny_bind (wpAny_attempt (wpAny_callSpecial?_slot (name := Str.ofString "__next__") hT F.slot_zip_next
    (wpAny_call_entry F.slot_zip_next hT F.entry_zip_next
      (zipH_item D hz hTI hTO h1 h2 hl1 hl2 hx hy fun h' a1 a2 a3 a4 a5 a6 a7 => wpAny_pure (hQ h' a1 a2 a3 a4 a5 a6 a7)) (F.args_zip_next_1 _))))
theorem pyNext_zipH_end {b1 b2 : Bool} {z TI TO i1 i2 l1 l2 : Addr} {k1 k2 : Nat} {xs ys : Array Value} {a b : Value} {Q : Option Value → Shared → Prop} (hh : A.handled = none) (D : ZipApart z TI TO i1 i2 l1 l2)
    (hz : IsZip s.heap z TI TO .none) (hTI : IsPair s.heap TI (.ref i1) (.ref i2)) (hTO : IsPair s.heap TO a b)
    (h1 : ItH s.heap b1 i1 l1 k1) (h2 : ItH s.heap b2 i2 l2 k2) (hl1 : SqH s.heap b1 l1 xs) (hl2 : SqH s.heap b2 l2 ys) (hend : xs[k1]? = none ∨ ys[k2]? = none)
    (hQ : ∀ h', (∀ c o, c ≠ z → c ≠ TO → c ≠ i1 → c ≠ i2 → s.heap.get? c = some o → h'.get? c = some o) → Q none { s with heap := h' }) : wpAny (model prog w) A (pyNext (.ref z)) Q E s := by
  have hT : s.TypeIs (.ref z) "zip" := ⟨_, hz, rfl⟩
  unfold pyNext
  refine wpAny_bind (wpAny_attempt (wpAny_callSpecial?_slot (name := Str.ofString "__next__") hT F.slot_zip_next
    (wpAny_call_entry F.slot_zip_next hT F.entry_zip_next (zipH_end hh D hz hTI hTO h1 h2 hl1 hl2 hend fun h' e hk he => ?_) (F.args_zip_next_1 _))))
  obtain ⟨o, ho, hc⟩ := he
  refine wpAny_bind (wpAny_isInstance (T := "StopIteration") (b := true) ⟨o, ho, hc⟩ isSubtype_stop ?_)
  exact wpAny_pure (hQ _ hk)
abbrev itO (b : Bool) (l : Addr) : Obj := { cls := .type (if b then "list_iterator" else "tuple_iterator"), data := .fields #[.ref l, .int 0 0] }
abbrev zG1 (h : Heap) (b1 : Bool) (l1 : Addr) : Heap := h.push (itO b1 l1)
abbrev zG2 (h : Heap) (b1 b2 : Bool) (l1 l2 : Addr) : Heap := (zG1 h b1 l1).push (itO b2 l2)
abbrev zG3 (h : Heap) (b1 b2 : Bool) (l1 l2 : Addr) : Heap := (zG2 h b1 b2 l1 l2).push { cls := .type "tuple", data := .seq #[.ref h.objs.size, .ref (zG1 h b1 l1).objs.size] }
abbrev zG4 (h : Heap) (b1 b2 : Bool) (l1 l2 : Addr) : Heap := (zG3 h b1 b2 l1 l2).push { cls := .type "tuple", data := .seq #[.none, .none] }
abbrev zG5 (h : Heap) (b1 b2 : Bool) (l1 l2 : Addr) : Heap := (zG4 h b1 b2 l1 l2).push { cls := .type "zip", data := .fields #[.none, .bool false, .bool false, .ref (zG2 h b1 b2 l1 l2).objs.size, .ref (zG3 h b1 b2 l1 l2).objs.size] }
end
theorem pyIter_seqG {prog : Program} {w : World} {A : Around} {E : Value → Shared → Prop} {s : Shared} {b : Bool} {l : Addr} {items : Array Value} {Q : Value → Shared → Prop} (hl : SqH s.heap b l items)
    (h : Q (.ref s.heap.objs.size) { s with heap := s.heap.push (itO b l) }) : wpAny (model prog w) A (pyIter (.ref l)) Q E s := pyIter_seqH hl fun o e => by subst e; exact h
theorem SqH.push {h : Heap} {b : Bool} {l : Addr} {xs : Array Value} (x : SqH h b l xs) (o : Obj) : SqH (h.push o) b l xs := x.at fun _ e => Heap.get?_push_of_some _ e
theorem meets_zipH_new (b1 b2 : Bool) (l1 l2 : Addr) (xs ys : Array Value) :
    Meets (Builtin.«zip.__new__» ⟨[.type "zip", .ref l1, .ref l2], []⟩) (fun _ R s => SqH s.heap b1 l1 xs ∧ SqH s.heap b2 l2 ys ∧
      R (.ok (.ret (.ref (zG4 s.heap b1 b2 l1 l2).objs.size))) { s with heap := zG5 s.heap b1 b2 l1 l2 }) :=
  .of_wp fun prog w A R s h => by
    obtain ⟨hp, g, d, tk, os⟩ := s; obtain ⟨hl1, hl2, h⟩ := h
    have hsub := sub_zip
    have hL1 : SqH (Shared.heap ⟨hp, g, d, tk, os⟩) b1 l1 xs := hl1
    have hL2 : SqH (Shared.heap ⟨hp.push (itO b1 l1), g, d, tk, os⟩) b2 l2 ys := SqH.push hl2 _
    wp_walk using pyIter_seqG hL1, pyIter_seqG hL2
    exact ⟨_, rfl, h⟩
section
variable {prog : Program} {w : World} {A : Around} {E : Value → Shared → Prop} {s : Shared}
theorem ItH.new (h : Heap) (b : Bool) (it l : Addr) (e : h.get? it = some (itO b l)) : ItH h b it l 0 := by
  cases b with
  | true => exact ⟨_, e, rfl, rfl⟩
  | false => exact ⟨_, e, rfl, rfl⟩
theorem call_zipH {b1 b2 : Bool} {l1 l2 : Addr} {xs ys : Array Value} {Q : Value → Shared → Prop} (hl1 : SqH s.heap b1 l1 xs) (hl2 : SqH s.heap b2 l2 ys)
    (h : ∀ h', IsZip h' (s.heap.objs.size + 4) (s.heap.objs.size + 2) (s.heap.objs.size + 3) .none → IsPair h' (s.heap.objs.size + 2) (.ref s.heap.objs.size) (.ref (s.heap.objs.size + 1)) →
      IsPair h' (s.heap.objs.size + 3) .none .none → ItH h' b1 s.heap.objs.size l1 0 → ItH h' b2 (s.heap.objs.size + 1) l2 0 → h'.objs.size = s.heap.objs.size + 5 →
      (∀ c o, s.heap.get? c = some o → h'.get? c = some o) → Q (.ref (s.heap.objs.size + 4)) { s with heap := h' }) :
    wpAny (model prog w) A (call (.type "zip") [.ref l1, .ref l2]) Q E s := by
  refine callType_new F.called_zip (by decide) (F.typeCall_zip_2 _ _) (F.newCall_zip_2 _ _) (fun obj => F.args_object_init_3 obj _ _) F.entry_zip_new
    (meets_zipH_new b1 b2 l1 l2 xs ys) ⟨hl1, hl2, ?_⟩
  have z1 : (zG1 s.heap b1 l1).objs.size = s.heap.objs.size + 1 := Heap.size_push ..
  have z2 : (zG2 s.heap b1 b2 l1 l2).objs.size = s.heap.objs.size + 2 := by rw [Heap.size_push, z1]
  have z3 : (zG3 s.heap b1 b2 l1 l2).objs.size = s.heap.objs.size + 3 := by rw [Heap.size_push, z2]
  have z4 : (zG4 s.heap b1 b2 l1 l2).objs.size = s.heap.objs.size + 4 := by rw [Heap.size_push, z3]
  have z5 : (zG5 s.heap b1 b2 l1 l2).objs.size = s.heap.objs.size + 5 := by rw [Heap.size_push, z4]
  have g5 : (zG5 s.heap b1 b2 l1 l2).get? (zG4 s.heap b1 b2 l1 l2).objs.size = some _ := Heap.get?_push_size _ rfl
  have g4 : (zG5 s.heap b1 b2 l1 l2).get? (zG3 s.heap b1 b2 l1 l2).objs.size = some _ := Heap.get?_push_of_some _ (Heap.get?_push_size _ rfl)
  have g3 : (zG5 s.heap b1 b2 l1 l2).get? (zG2 s.heap b1 b2 l1 l2).objs.size = some _ := Heap.get?_push_of_some _ (Heap.get?_push_of_some _ (Heap.get?_push_size _ rfl))
  have g2 : (zG5 s.heap b1 b2 l1 l2).get? (zG1 s.heap b1 l1).objs.size = some _ := Heap.get?_push_of_some _ (Heap.get?_push_of_some _ (Heap.get?_push_of_some _ (Heap.get?_push_size _ rfl)))
  have g1 : (zG5 s.heap b1 b2 l1 l2).get? s.heap.objs.size = some _ := Heap.get?_push_of_some _ (Heap.get?_push_of_some _ (Heap.get?_push_of_some _ (Heap.get?_push_of_some _ (Heap.get?_push_size _ rfl))))
  show _ ∧ _
  rw [z2, z3, z4] at g5
  rw [z1, z2] at g3
  rw [z3] at g4
  rw [z1] at g2
  rw [z4]
  exact ⟨⟨_, g5, rfl⟩, h _ g5 g3 g4 (ItH.new _ b1 _ _ g1) (ItH.new _ b2 _ _ g2) z5 fun c o x =>
    Heap.get?_push_of_some _ (Heap.get?_push_of_some _ (Heap.get?_push_of_some _ (Heap.get?_push_of_some _ (Heap.get?_push_of_some _ x))))⟩
end
def SqB (K : PySem.W.Frag) (H : Hp) (b : Bool) (a : Addr) (xs : List V) : Prop := match b with
  | true => SqL K H a xs
  | false => SqT K H a xs
section
variable {X : Cx}
theorem Inv.row {pins : List (Addr × Obj)} {σ : St} {H : Hp} {s : Shared} {b : Bool} {a : Addr} {xs : List V} (I : Inv X pins σ H s) (h : SqB X.K H b a xs) : ∃ its : List Value, Vals xs its ∧ SqH s.heap b a its.toArray ∧ xs.length ≤ sizeLine := by
  cases b with
  | true =>
    obtain ⟨its, r, p, z⟩ := I.list h
    exact ⟨its, r, p.isList, z⟩
  | false =>
    obtain ⟨its, r, p, z⟩ := I.tuple h
    exact ⟨its, r, p, z⟩
theorem Inv.row_inj {pins : List (Addr × Obj)} {σ : St} {H : Hp} {s : Shared} {b : Bool} {a : Addr} {xs ys : List V} (I : Inv X pins σ H s) (h : SqB X.K H b a xs) (h' : SqB X.K H b a ys) : xs = ys := by
  cases b with
  | true => exact I.list_inj h h'
  | false => exact I.tuple_inj h h'
theorem Inv.turnedL {pins : List (Addr × Obj)} {σ : St} {H : Hp} {s : Shared} {h' : Heap} {t' : Nat} {ch : List Addr} (I : Inv X pins σ H s) (k : ∀ b u, b ∉ ch → s.heap.get? b = some u → h'.get? b = some u)
    (hch : ∀ b ∈ ch, FpOk X pins H b) : Inv X pins σ H { s with heap := h', toks := t' } := by
  have nitH : ∀ b u, H b = some u → b ∉ ch := fun b u e z => by rw [(hch b z).1] at e; cases e
  refine I.step (g' := s.gens) (d' := s.drawn) (ch := ch) (fun b hb => ?_) (fun b u _ _ hc e _ => k b u hc e) (fun b u _ _ hc e _ => ⟨u.slots, k b u hc e⟩)
    (fun b u _ e n => n) (fun b u hc e => ⟨u, k b u hc e⟩) (fun b xs e => e) (fun b ob u e => e) (fun b ps e => ⟨#[], by rw [e]; simp⟩) (fun m hm => ?_) (fun b u e => ?_) I.bare
  · obtain ⟨_, f1, _, f3, f4, f5⟩ := hch b hb
    exact ⟨f3, f1, f4, f5⟩
  · obtain ⟨ob, es, ep, ho, r⟩ := hm
    exact ⟨ob, es, ep, k _ ob (fun z => (hch _ z).2.1 rfl) ho, r⟩
  · refine (I.hok b u e).stay (fun c v hc q => k c v ?_ q) (fun c q => q) fun c ys q => q
    rcases hc with z' | z'
    · rw [z']; exact nitH b u e
    · exact nitH c _ z'
theorem row_ne {pins : List (Addr × Obj)} {σ : St} {H : Hp} {s : Shared} {b : Bool} {a c : Addr} {xs : List V} (I : Inv X pins σ H s) (h : SqB X.K H b a xs) (f : FpOk X pins H c) : a ≠ c := by
  have rd : ∀ {u : HO}, Rd H a u → a ≠ c := fun {u} r => by
    rcases r with r | ⟨o, r⟩
    · exact ne_of_none r f.1
    · exact ne_of_none r f.1
  have mk : ∀ {o : Obj}, X.K.lookup a = some o → a ≠ c := fun {o} e z => by
    subst z
    have e' := I.ok.mod.kin _ _ e
    rcases f.2.2.2.1 with q | q
    · exact I.ok.noex _ _ e' q
    · exact absurd (Nat.lt_of_lt_of_le (Heap.lt_size (I.ok.bs _ _ e').1) q) (Nat.lt_irrefl _)
  cases b with
  | true =>
    rcases (show SqL X.K H a xs from h) with r | ⟨o, its, n, e, _⟩
    · exact rd r
    · exact mk e
  | false =>
    rcases (show SqT X.K H a xs from h) with r | ⟨o, its, n, e, _⟩
    · exact rd r
    · exact mk e
def Itz (K : PySem.W.Frag) (b1 b2 : Bool) (a1 a2 : Addr) : It :=
  ⟨fun i H => ∃ xs ys x y, SqB K H b1 a1 xs ∧ SqB K H b2 a2 ys ∧ xs[i]? = some x ∧ ys[i]? = some y,
   fun i H v H' => ∃ p x y, H p = none ∧ v = .ref p ∧ H' = upd H p (.tup [x, y]) ∧ (∀ xs, SqB K H b1 a1 xs → xs[i]? = some x) ∧ (∀ ys, SqB K H b2 a2 ys → ys[i]? = some y),
   fun i H => ∃ xs ys, SqB K H b1 a1 xs ∧ SqB K H b2 a2 ys ∧ (xs.length ≤ i ∨ ys.length ≤ i)⟩
theorem turn_zip {P : Program} {w : World} {K : PySem.W.Frag} {elts : List Expr} {x1 : Nat} {tp : Pos} (b1 b2 : Bool) (a1 a2 z TI TO i1 i2 : Addr) (D : TI ≠ z ∧ TO ≠ z ∧ i1 ≠ z ∧ i2 ≠ z ∧ TI ≠ TO ∧ TI ≠ i1 ∧ TI ≠ i2 ∧ TO ≠ i1 ∧ TO ≠ i2 ∧ i1 ≠ i2) :
    Turn P w K (.Tuple elts x1 tp) (Itz K b1 b2 a1 a2) [z, TO, i1, i2, TI] z (fun i h => IsZip h z TI TO .none ∧ IsPair h TI (.ref i1) (.ref i2) ∧ (∃ a b, IsPair h TO a b) ∧ ItH h b1 i1 a1 i ∧ ItH h b2 i2 a2 i) where
  mem := by simp
  obj := fun i h st b hb => by
    obtain ⟨hz, hTI, ⟨a, c, hTO⟩, h1, h2⟩ := st
    simp only [List.mem_cons, List.mem_nil_iff, or_false] at hb
    rcases hb with q | q | q | q | q <;> subst q
    · exact ⟨_, hz, fun v z => by cases z⟩
    · exact ⟨_, hTO, fun v z => by cases z⟩
    · obtain ⟨o, vs, e, d⟩ := h1.obj
      exact ⟨o, e, fun v z => by rw [d] at z; cases z⟩
    · obtain ⟨o, vs, e, d⟩ := h2.obj
      exact ⟨o, e, fun v z => by rw [d] at z; cases z⟩
    · exact ⟨_, hTI, fun v z => by cases z⟩
  keep := fun i h h' st k => by
    obtain ⟨hz, hTI, ⟨a, c, hTO⟩, h1, h2⟩ := st
    exact ⟨k z (by simp) _ hz, k TI (by simp) _ hTI, ⟨a, c, k TO (by simp) _ hTO⟩, h1.at fun o e => k i1 (by simp) o e, h2.at fun o e => k i2 (by simp) o e⟩
  item := by
    intro X hP hw hK hc i pins s σ H E I hf st hg
    subst hP hw hK
    obtain ⟨xs, ys, x, y, hq1, hq2, hx, hy⟩ := hg
    obtain ⟨its1, rv1, p1, hz1⟩ := I.row hq1
    obtain ⟨its2, rv2, p2, hz2⟩ := I.row hq2
    obtain ⟨u1, hu1, ru1⟩ := rv1.get hx
    obtain ⟨u2, hu2, ru2⟩ := rv2.get hy
    obtain ⟨hz, hTI, ⟨a, c, hTO⟩, h1, h2⟩ := st
    obtain ⟨d1, d2, d3, d4, d5, d6, d7, d8, d9, d10⟩ := D
    obtain ⟨o1, n1, e1, dd1⟩ := p1.obj
    obtain ⟨o2, n2, e2, dd2⟩ := p2.obj
    obtain ⟨oi1, vs1, ei1, di1⟩ := h1.obj
    obtain ⟨oi2, vs2, ei2, di2⟩ := h2.obj
    have D : ZipApart z TI TO i1 i2 a1 a2 := ⟨d1, d2, d3, d4, d5, d6, d7, d8, d9, d10, row_ne I hq1 (hf z (by simp)), row_ne I hq1 (hf TO (by simp)), row_ne I hq1 (hf i1 (by simp)), row_ne I hq1 (hf i2 (by simp)),
      row_ne I hq2 (hf z (by simp)), row_ne I hq2 (hf TO (by simp)), row_ne I hq2 (hf i1 (by simp)), row_ne I hq2 (hf i2 (by simp))⟩
    refine pyNext_zipH_item D hz hTI hTO h1 h2 p1 p2 (x := u1) (y := u2) (by simpa using hu1) (by simpa using hu2) fun h' g1 g2 g3 g4 g5 g6 g7 => ⟨_, rfl, ?_⟩
    refine wpAny_letOwnedTupleGo_zip (s := { s with heap := h' }) g1 fun h3 hz3 hs3 => ?_
    have hnew : H s.heap.objs.size = none := I.hok.fresh (Nat.le_refl _)
    have lt : ∀ {c : Addr} {o : Obj}, s.heap.get? c = some o → c ≠ s.heap.objs.size := fun e => Nat.ne_of_lt (Heap.lt_size e)
    have keep3 : ∀ b o, b ∉ [z, TO, i1, i2, TI] → s.heap.get? b = some o → h3.get? b = some o := fun b o hb q => by
      simp only [List.mem_cons, List.mem_nil_iff, or_false, not_or] at hb
      exact (hs3.2 b hb.1).trans (g7 b o hb.1 hb.2.1 hb.2.2.1 hb.2.2.2.1 q)
    have hT3 : h3.get? s.heap.objs.size = some { cls := .type "tuple", data := .seq #[u1, u2] } := (hs3.2 _ (lt hz).symm).trans g5
    have I3 : Inv X pins σ (upd H s.heap.objs.size (.tup [x, y])) { s with heap := h3, toks := s.toks } :=
      I.turnedNew (ch := [z, TO, i1, i2, TI]) keep3 hf (Nat.le_refl _) (fun b hb => by
        simp only [List.mem_cons, List.mem_nil_iff, or_false] at hb
        rcases hb with q | q | q | q | q <;> subst q
        · exact ⟨_, hz⟩
        · exact ⟨_, hTO⟩
        · exact ⟨_, ei1⟩
        · exact ⟨_, ei2⟩
        · exact ⟨_, hTI⟩)
        ⟨by show 2 ≤ sizeLine; decide, [u1, u2], .cons ru1 (.cons ru2 .nil), ⟨_, hT3, rfl, _, rfl⟩⟩
    refine ⟨.ref s.heap.objs.size, _, I3, rfl, ⟨_, x, y, hnew, rfl, rfl, fun zs hzs => by rw [I.row_inj hzs hq1]; exact hx, fun zs hzs => by rw [I.row_inj hzs hq2]; exact hy⟩,
      ⟨hz3, (hs3.2 TI d1).trans (g7 TI _ d1 d5 d6 d7 hTI), ⟨_, _, (hs3.2 TO d2).trans g2⟩, g3.at fun o e => (hs3.2 i1 d3).trans e, g4.at fun o e => (hs3.2 i2 d4).trans e⟩, fun b hb => ?_⟩
    have nb : b ≠ s.heap.objs.size := by
      simp only [List.mem_cons, List.mem_nil_iff, or_false] at hb
      rcases hb with q | q | q | q | q <;> subst q
      · exact lt hz
      · exact lt hTO
      · exact lt ei1
      · exact lt ei2
      · exact lt hTI
    rw [upd_ne nb]
    exact (hf b hb).1
  done := by
    intro X hP hw hK hc i pins s σ H E I hf st hg
    subst hP hw hK
    obtain ⟨xs, ys, hq1, hq2, hend⟩ := hg
    obtain ⟨its1, rv1, p1, hz1⟩ := I.row hq1
    obtain ⟨its2, rv2, p2, hz2⟩ := I.row hq2
    obtain ⟨hz, hTI, ⟨a, c, hTO⟩, h1, h2⟩ := st
    obtain ⟨d1, d2, d3, d4, d5, d6, d7, d8, d9, d10⟩ := D
    have D : ZipApart z TI TO i1 i2 a1 a2 := ⟨d1, d2, d3, d4, d5, d6, d7, d8, d9, d10, row_ne I hq1 (hf z (by simp)), row_ne I hq1 (hf TO (by simp)), row_ne I hq1 (hf i1 (by simp)), row_ne I hq1 (hf i2 (by simp)),
      row_ne I hq2 (hf z (by simp)), row_ne I hq2 (hf TO (by simp)), row_ne I hq2 (hf i1 (by simp)), row_ne I hq2 (hf i2 (by simp))⟩
    have l1 := rv1.length
    have l2 := rv2.length
    refine pyNext_zipH_end (I.ok.hd hc) D hz hTI hTO h1 h2 p1 p2 ?_ fun h' k => ⟨rfl, ?_⟩
    · rcases hend with q | q
      · exact .inl (by simp; omega)
      · exact .inr (by simp; omega)
    · exact I.turnedL (t' := s.toks) (ch := [z, TO, i1, i2, TI]) (fun b u hb e => by
        simp only [List.mem_cons, List.mem_nil_iff, or_false, not_or] at hb
        exact k b u hb.1 hb.2.1 hb.2.2.1 hb.2.2.2.1 e) hf
  self := fun _ _ _ _ _ st h => by
    obtain ⟨hz, _⟩ := st
    exact wpAny_pyIter_zip hz h
theorem zapart (n : Nat) : n + 2 ≠ n + 4 ∧ n + 3 ≠ n + 4 ∧ n ≠ n + 4 ∧ n + 1 ≠ n + 4 ∧ n + 2 ≠ n + 3 ∧ n + 2 ≠ n ∧ n + 2 ≠ n + 1 ∧ n + 3 ≠ n ∧ n + 3 ≠ n + 1 ∧ n ≠ n + 1 := by
  refine ⟨?_, ?_, ?_, ?_, ?_, ?_, ?_, ?_, ?_, ?_⟩ <;> omega
def iZip (K : PySem.W.Frag) (tl : TA) : TI := fun σ H R => tl σ H fun vs H1 => ∃ b1 b2 a1 a2, vs = [.ref a1, .ref a2] ∧ (∃ xs, SqB K H1 b1 a1 xs) ∧ (∃ ys, SqB K H1 b2 a2 ys) ∧ R (Itz K b1 b2 a1 a2) H1
theorem pi_zip {elts : List Expr} {x1 : Nat} {tp : Pos} {l1 l2 : Expr} {tl : TA} {p pos : Pos} (hg : Gl X "zip") (hm : X.mg "zip" = none) (hl : PA X [l1, l2] tl) (hs : starEach [l1, l2] X.env = [(false, eval l1 X.env), (false, eval l2 X.env)] := by rfl) (hs2 : starEach [l2] X.env = [(false, eval l2 X.env)] := by rfl) :
    PI X (.Tuple elts x1 tp) (.Call (.Name "zip" p) [l1, l2] [] pos) (iZip X.K tl) := by
  intro pins s σ H R I h
  refine Call_ (ld_blt I hg hm PyProof.Rows.boot_zip (PyProof.Rows.callWith_type1 (thn (hl pos pins s σ H _ I h) fun us s1 ⟨vs, H1, I1, r1, q1⟩ => ?_) (by rw [hs, hs2]) (by rw [hs2]; rfl)))
  obtain ⟨b1, b2, a1, a2, e, ⟨xs, hq1⟩, ⟨ys, hq2⟩, q⟩ := q1
  subst e
  cases r1 with
  | cons r rr =>
    cases rr with
    | cons r' rr =>
      cases rr
      cases (show _ = Value.ref a1 from r)
      cases (show _ = Value.ref a2 from r')
      obtain ⟨its1, rv1, p1, hz1⟩ := I1.row hq1
      obtain ⟨its2, rv2, p2, hz2⟩ := I1.row hq2
      refine call_zipH p1 p2 fun h' g1 g2 g3 g4 g5 g6 g7 => ?_
      have I2 : Inv X pins σ H1 { s1 with heap := h' } := I1.kept (t' := s1.toks) g7
      refine wpAny_pyIter_zip (s := { s1 with heap := h' }) g1 ?_
      refine ⟨s1.heap.objs.size + 4, [s1.heap.objs.size + 4, s1.heap.objs.size + 3, s1.heap.objs.size, s1.heap.objs.size + 1, s1.heap.objs.size + 2], _, _, H1, rfl, I2,
        turn_zip b1 b2 a1 a2 _ _ _ _ _ (zapart s1.heap.objs.size), ⟨g1, g2, ⟨_, _, g3⟩, g4, g5⟩, fun b hb => ?_, q⟩
      have hle : s1.heap.objs.size ≤ b := by
        simp only [List.mem_cons, List.mem_nil_iff, or_false] at hb
        rcases hb with q | q | q | q | q
        · rw [q]; exact Nat.le_add_right _ 4
        · rw [q]; exact Nat.le_add_right _ 3
        · rw [q]; exact Nat.le_refl _
        · rw [q]; exact Nat.le_add_right _ 1
        · rw [q]; exact Nat.le_add_right _ 2
      exact I1.fpOk hle (I1.hok.fresh hle)
end
end L2
namespace L2
open PySem PySem.Spec PyProof.Rows
def Itb (K : PySem.W.Frag) (b : Bool) (a : Addr) : It := match b with
  | true => Itl K a
  | false => Itt K a
section
variable {X : Cx} {tg : Expr}
def iSeq (K : PySem.W.Frag) (tl : TE) : TI := fun σ H R => tl σ H fun x H1 => ∃ b a, x = .ref a ∧ (∃ xs, SqB K H1 b a xs) ∧ R (Itb K b a) H1
theorem pi_seq {l : Expr} {tl : TE} (hl : PE X l tl) : PI X tg l (iSeq X.K tl) := by
  intro pins s σ H R I h
  refine thn (hl pins s σ H _ I h) fun v s1 ⟨x, H1, I1, r1, q1⟩ => ?_
  obtain ⟨b, a, e, ⟨xs, hq⟩, q⟩ := q1
  subst e
  cases r1
  cases b with
  | true =>
    obtain ⟨its, rv, p, hz⟩ := I1.list hq
    refine wpAny_pyIter_list p.isList ?_
    refine ⟨s1.heap.objs.size, [s1.heap.objs.size], _, _, H1, rfl, I1.kept (t' := s1.toks) fun b o e => Heap.get?_push_of_some _ e, turn_list a _, ⟨_, Heap.get?_push_size _ rfl, rfl, rfl⟩, fun b hb => ?_, q⟩
    have e : b = s1.heap.objs.size := by simpa using hb
    subst e
    exact I1.fpOk (Nat.le_refl _) (I1.hok.fresh (Nat.le_refl _))
  | false =>
    obtain ⟨its, rv, p, hz⟩ := I1.tuple hq
    refine wpAny_pyIter_tuple (show s1.heap.IsTuple a its.toArray from p) ?_
    refine ⟨s1.heap.objs.size, [s1.heap.objs.size], _, _, H1, rfl, I1.kept (t' := s1.toks) fun b o e => Heap.get?_push_of_some _ e, turn_tuple a _, ⟨_, Heap.get?_push_size _ rfl, rfl, rfl⟩, fun b hb => ?_, q⟩
    have e : b = s1.heap.objs.size := by simpa using hb
    subst e
    exact I1.fpOk (Nat.le_refl _) (I1.hok.fresh (Nat.le_refl _))
end
section
end
section
variable {X : Cx}
theorem call_sumL (hc : X.calm = true) : CallR X (.builtin "sum") (fun xs H Q => ∃ (a : Addr) (ns : List Int), xs = [.ref a] ∧ SqL X.K H a (ns.map V.int) ∧ Q (.int ns.sum) H) := by
  intro pins s σ H xs us Q I r h
  obtain ⟨a, ns, rfl, hq, q⟩ := h
  cases r with
  | cons r1 r2 =>
    cases r2
    cases (show _ = Value.ref a from r1)
    obtain ⟨its, rv, p, hz⟩ := I.list hq
    have hi := intsAre_of rv
    obtain ⟨xs', e⟩ := hi.allInts.items
    have e3 : numsOf (intItems xs').toList = ns := by rw [← e]; exact hi.numsOf
    rw [nums_intItems] at e3
    refine sum_intListG (I.ok.hd hc) (by rw [← e]; exact p.isList) fun h' tk t' hk => ⟨.int ns.sum, H, I.kept (t' := tk) hk, ⟨t', ?_⟩, q⟩
    rw [preSum_eq, List.take_of_length_le (by simp), e3]
end
end L2
namespace L2
open PySem PySem.Spec PyProof.Rows
structure ECls (K : PySem.W.Frag) (C : Addr) : Prop where
  ga : PySem.W.findIn K (.ref C) "__getattribute__" = some (some (.builtin "BaseException.__getattribute__"))
  gn : PySem.W.findIn K (.ref C) "__getattr__" = some none
  hd : PySem.W.hasDictIn K C = true
  sa : PySem.W.findIn K (.ref C) "__setattr__" = some (some (.builtin "object.__setattr__"))
  mb : PySem.W.mroIn K C (.type "BaseException") = some true
  mo : PySem.W.mroIn K C (.type "object") = some true
  ca : PySem.W.findIn K (.ref C) "__class__" = some (some (.builtin "object.__class__"))
  cg : PySem.W.specialIn K (.builtin "object.__class__") "__get__" = some (some (.builtin "getset_descriptor.__get__"))
  ct : PySem.W.takesIn K (.builtin "object.__class__") = some true
section
variable {prog : Program} {w : World} {A : Around} {E : Value → Shared → Prop} {s : Shared} {K : PySem.W.Frag} {x C : Addr} {ox : Obj} {od : Option Obj} {name : Str}
theorem exc_kind : builtinKind "BaseException.__getattribute__" = some .slot := by decide +kernel
theorem exc_split : splitId "BaseException.__getattribute__" = some ("BaseException", "__getattribute__") := by decide +kernel
theorem exc_by {tk : Tok} {fill expr : Bool} {Q : Value → Shared → Prop} (c : ECls K C) (X : K.In s.heap) (I : PySem.W.InstAt s.heap x ox C od)
    (h : wpAny (model prog w) A.in1 (Builtin.«object.__getattribute__» ⟨[.ref x, .str name tk], []⟩)
      (fun fin s' => match fin with | .done (.ret v) => wpAny (model prog w) A (handedOut v) Q E s' | _ => False) (fun _ _ => False) s) :
    wpAny (model prog w) A (getAttrBy (.ref x) (.str name tk) fill expr) Q E s := by
  have hx2 : (Value.builtin "BaseException.__getattribute__" == Value.builtin "object.__getattribute__") = false := by decide +kernel
  have hx1 : (onTheHeap (Value.ref C) && Value.builtin "BaseException.__getattribute__" == Value.builtin "object.__getattribute__") = false := by rw [hx2]; rfl
  have hx0 : (expr && onTheHeap (Value.builtin "BaseException.__getattribute__")) = false := by cases expr <;> rfl
  have sub : PySem.W.Looks (model prog w) s.heap (isInstance (.ref x) (.type "BaseException")) true := I.type.andThen (PySem.W.looks_mroIn X c.mb)
  unfold getAttrBy
  refine wpAny_holding (wpAny_bind (I.type.here (wpAny_bind ((PySem.W.looks_findIn X c.ga).here ?_))))
  dsimp only
  rw [hx1, if_neg Bool.false_ne_true]
  unfold getAttrByItsOwn hookBefore
  refine wpAny_bind ?_
  show wpAny _ _ (typeLookup (.ref C) "__getattr__") _ _ _
  refine (PySem.W.looks_findIn X c.gn).here ?_
  refine wpAny_bind (wpAny_attempt (wpAny_holding ?_))
  unfold callGetattribute
  rw [hx0, if_neg Bool.false_ne_true]
  unfold boundAndCalled
  refine wpAny_bind (wpAny_of_eq (PySem.F.attr_ValueError.ga.bind _) ?_)
  refine wpAny_call (codeAny_call_builtin PySem.F.attr_ValueError.ga.plain PySem.F.entry_bexc_ga (@PySem.W.check_slot (model prog w) _ _ s "BaseException.__getattribute__" "BaseException" "__getattribute__" (.ref x) [.str name tk] [] _ exc_kind exc_split sub (PySem.F.args_bexc_ga _ _) ?_))
  refine wpAny_mono h (fun fin s' z => ?_) (fun _ _ z => z.elim)
  rcases fin with (v | _ | _ | _) | _ <;> first | exact z | exact z.elim
end
end L2
namespace L2
open PySem PySem.Spec PyProof.Rows
open PySem.Builtin.ObjectAttr (storeInOwnDict storeTaker? setByDescriptor)
abbrev valMro : List Value := [.type "ValueError", .type "Exception", .type "BaseException", .type "object"]
def overVal : List Value → Bool
  | .ref _ :: r => overVal r
  | l => l == valMro
theorem refuse_val (self : Value) : refuseLoop self "__setattr__" valMro = pure () := by kernel_rfl
theorem refuse_over (self : Value) : ∀ {l : List Value}, overVal l = true → refuseLoop self "__setattr__" l = pure ()
  | .ref c :: r, e => by rw [PySem.refuseLoop_ref]; exact refuse_over self e
  | [], e => by cases (show false = true from e)
  | .type n :: r, e => by rw [show Value.type n :: r = valMro from beq_iff_eq.mp e]; exact refuse_val self
  | .none :: r, e => by rw [show Value.none :: r = valMro from beq_iff_eq.mp e]; exact refuse_val self
section
variable {prog : Program} {w : World} {A : Around} {E : Value → Shared → Prop} {s : Shared} {K : PySem.W.Frag} {x C : Addr} {ox : Obj} {od : Option Obj} {name : Str}
theorem findObj_dataO {a g : Value} (hc : (PySem.W.clsIn K C).isSome = true) (ha : PySem.W.findIn K (.ref C) name = some (some a)) (hg : PySem.W.specialIn K a "__get__" = some (some g)) (ht : PySem.W.takesIn K a = some true) : PySem.W.findObj K C od name = some (.bind g a) := by
  obtain ⟨cd, hc⟩ := Option.isSome_iff_exists.mp hc
  unfold PySem.W.findObj
  rw [hc, Option.bind_some, ha, Option.bind_some]
  simp [hg, ht]
theorem exc_class {Q : Option Value → Shared → Prop} (c : ECls K C) (X : K.In s.heap) (I : PySem.W.InstAt s.heap x ox C od) (h : Q (some (.ref C)) { s with toks := s.toks + 1 }) : wpAny (model prog w) A (getAttr? (.ref x) "__class__") Q E s := by
  have hc : (PySem.W.clsIn K C).isSome = true := by obtain ⟨cd, hc, _⟩ := PySem.W.any_some c.hd; rw [hc]; rfl
  have hf : PySem.W.findObj K C od "__class__" = some (.bind (.builtin "getset_descriptor.__get__") (.builtin "object.__class__")) := findObj_dataO hc c.ca c.cg c.ct
  unfold getAttr? getAttrBy?
  refine wpAny_bind (wpAny_mkText (wpAny_bind (wpAny_attempt ?_)))
  refine exc_by (s := { s with toks := s.toks + 1 }) c X I ?_
  unfold Builtin.«object.__getattribute__»
  refine wpAny_bind (wpAny_pure ?_)
  dsimp only
  refine wpAny_bind (wpAny_pure ?_)
  refine wpAny_bind (I.type.here (s := { s with toks := s.toks + 1 }) (wpAny_bind ((PySem.W.looks_find X I hf).here (s := { s with toks := s.toks + 1 }) ?_)))
  show wpAny _ _ (holding [.builtin "object.__class__"] (call (.builtin "getset_descriptor.__get__") [.builtin "object.__class__", .ref x, .ref C]) >>= ret) _ _ _
  refine wpAny_bind (wpAny_holding (wpAny_call (PySem.W.class_get (s := { s with toks := s.toks + 1 }) (ox := ox) (od := od) X I c.mo ?_)))
  refine wpAny_pure ?_
  exact PySem.W.handed_on rfl (wpAny_pure h)
theorem kitx_exc (c : ECls K C) : PySem.W.KitX K (.ref x) (.ref C) (fun h => PySem.W.InstAt h x ox C od) where
  ty := fun _ _ _ I => I.type
  it := fun _ _ X _ => by
    obtain ⟨cdD, hcD, _⟩ := PySem.W.any_some c.hd
    unfold PySem.W.clsIn at hcD
    split at hcD
    · rename_i c' d' cd' sl' ho
      intro A' Q' E' s' k q
      unfold isType loadHead
      exact wpAny_bind (wpAny_loadPart (k _ _ (X _ _ ho)) (wpAny_pure q))
    · cases hcD
  ne := fun h tp dd its n sl X htp => by
    obtain ⟨cdD, hcD, _⟩ := PySem.W.any_some c.hd
    refine Bool.eq_false_iff.mpr fun q => ?_
    have e : C = tp := Value.ref.inj (beq_iff_eq.mp q)
    subst e
    unfold PySem.W.clsIn at hcD
    split at hcD
    · rename_i c' d' cd' sl' ho
      have z := (X _ _ ho).symm.trans htp
      cases z
    · cases hcD
  ca := fun X I k => exc_class c X I k
theorem exc_osa {tk : Tok} {v : Value} {R : Result → Shared → Prop} (po : ((PySem.W.clsIn K C).any fun cd => overVal cd.mro) = true) (c : ECls K C) (X : K.In s.heap) (I : PySem.W.InstAt s.heap x ox C od) (ht : PySem.W.takerIn K C name = some none)
    (h : ∀ b, wpAny (model prog w) A.in1 (storeInOwnDict (.ref x) (.ref C) (.str name tk) name v b)
      (fun fin s' => match fin with | .done f => R (.ok f) s' | .again c' => c'.quiet = true ∧ codeAny (model prog w) A c' R s') (fun e s' => R (.error e) s') s) :
    codeAny (model prog w) A (.call (.builtin "object.__setattr__") ⟨[.ref x, .str name tk, v], []⟩) R s := by
  have SF := PySem.F.store_object
  obtain ⟨cd, hc, ho⟩ := PySem.W.any_some po
  have sub : PySem.W.Looks (model prog w) s.heap (isInstance (.ref x) (.type "object")) true := I.type.andThen (PySem.W.looks_mroIn X c.mo)
  refine codeAny_call_builtin SF.slot.plain SF.entry (@PySem.W.check_slot (model prog w) _ _ s "object.__setattr__" "object" "__setattr__" (.ref x) [.str name tk, v] [] _ SF.kind SF.split sub (SF.args (.ref x) (.str name tk) v) ?_)
  obtain ⟨attr, ha, hr⟩ := Option.bind_eq_some_iff.mp ht
  have hm : PySem.W.Looks (model prog w) s.heap (mroOf (.ref C)) cd.mro := (PySem.W.looks_clsIn X hc).andThen .now
  have L3 : PySem.W.Looks (model prog w) s.heap (storeTaker? attr) none := by
    cases attr with
    | none => cases hr; exact .now
    | some a =>
      obtain ⟨b, hb, e⟩ := Option.map_eq_some_iff.mp hr
      refine (PySem.W.looks_takesIn X hb).andThen ?_
      cases b with
      | true => cases e
      | false => exact .now
  rw [PySem.W.osa_eq, PySem.refuse_eq]
  refine wpAny_bind (wpAny_bind (I.type.here (wpAny_bind (hm.here ?_))))
  rw [refuse_over _ ho]
  refine wpAny_pure (wpAny_bind (I.type.here (wpAny_bind ((PySem.W.looks_findIn X ha).here (wpAny_bind (L3.here ?_))))))
  exact h _
theorem exc_set0 {vs : Array Value} {v : Value} {Q : Unit → Shared → Prop} (po : ((PySem.W.clsIn K C).any fun cd => overVal cd.mro) = true) (c : ECls K C) (X : K.In s.heap) (hx : s.heap.get? x = some ⟨.ref C, none, .fields vs, #[]⟩) (ht : PySem.W.takerIn K C name = some none)
    (h : ∀ h' tk d, h'.get? x = some ⟨.ref C, some d, .fields vs, #[]⟩ → s.heap.get? d = none → h'.Ns1 d (fun y => if y = name then some v else none) → (∀ b o, b ≠ x → s.heap.get? b = some o → h'.get? b = some o) → Q () { s with heap := h', toks := tk }) :
    wpAny (model prog w) A (setAttr (.ref x) name v) Q E s := by
  have I : PySem.W.InstAt s.heap x ⟨.ref C, none, .fields vs, #[]⟩ C none := ⟨hx, rfl, rfl, trivial⟩
  refine PySem.W.set_plain X I c.sa (exc_osa (s := { s with toks := s.toks + 1 }) po c X I ht fun b => ?_)
  obtain ⟨cd, hc, hd'⟩ := PySem.W.any_some c.hd
  have hlt := Heap.lt_size hx
  refine wpAny_bind (wpAny_pure (wpAny_bind (wpAny_bind (wpAny_loadPart hx (wpAny_bind (PySem.W.Looks.here (s := { s with toks := s.toks + 1 }) (PySem.W.looks_clsIn X hc) ?_))))))
  rw [hd']
  refine wpAny_bind (wpAny_alloc ?_)
  have hx1 : (s.heap.push { cls := .type "dict", data := .dict #[] }).get? x = some ⟨.ref C, none, .fields vs, #[]⟩ := Heap.get?_push_of_some _ hx
  refine wpAny_bind (wpAny_update hx1 ?_)
  refine wpAny_pure (a := some s.heap.objs.size) (wpAny_bind (wpAny_pure (wpAny_bind ?_)))
  have hx2 : ((s.heap.push { cls := .type "dict", data := .dict #[] }).update x fun o => { o with dict := some s.heap.objs.size }).get? x = some ⟨.ref C, some s.heap.objs.size, .fields vs, #[]⟩ := Heap.get?_update_self _ hx1 rfl
  have e1 : (s.heap.push { cls := .type "dict", data := .dict #[] }).get? s.heap.objs.size = some { cls := .type "dict", data := .dict #[] } := Heap.get?_push_size s.heap rfl
  have nxd : s.heap.objs.size ≠ x := Nat.ne_of_gt hlt
  have e2 : ((s.heap.push { cls := .type "dict", data := .dict #[] }).update x fun o => { o with dict := some s.heap.objs.size }).get? s.heap.objs.size = some { cls := .type "dict", data := .dict #[] } := by
    rw [Heap.get?_update_other _ _ (Ne.symm nxd)]
    exact e1
  have e3 : ((s.heap.push { cls := .type "dict", data := .dict #[] }).update x fun o => { o with dict := some s.heap.objs.size }).Ns s.heap.objs.size (fun _ => none) := ⟨_, #[], _, e2, rfl, (fun e he => absurd he (by simp)), fun _ => rfl⟩
  refine wpAny_nsSet1 (s := { s with heap := (s.heap.push { cls := .type "dict", data := .dict #[] }).update x fun o => { o with dict := some s.heap.objs.size }, toks := s.toks + 1 }) (Heap.Ns1.of_empty e3) fun h' hn2 hs2 => ?_
  obtain ⟨oD, esD, epD, hoD, hdD, hcD⟩ := hn2.count (PySem.Within.cons (ns := []) name v (fun y hy => absurd rfl hy))
  refine wpAny_bind (wpAny_lookBehind hoD (by rw [hdD]; exact pastItsLine_dict (Nat.le_trans hcD (by show 1 ≤ sizeLine + 1; exact Nat.le_add_left _ _))) ?_)
  refine wpAny_pure (h h' _ s.heap.objs.size ((hs2.2 x (Ne.symm nxd)).trans hx2) (Heap.get?_none_of_le (Nat.le_refl _)) hn2 fun b o hb e => ?_)
  refine (hs2.2 b (Nat.ne_of_lt (Heap.lt_size e))).trans ?_
  rw [Heap.get?_update_other _ _ (Ne.symm hb)]
  exact Heap.get?_push_of_some _ e
end
def excInI (K : PySem.W.Frag) (C : Addr) (newId : String) (f : Addr) : Bool := match K.lookup C with
  | some ⟨.type "type", _, .cls cd, sl⟩ => (match cd.mro, sl.toList with
    | .ref C' :: bm, [_, _, _, _, some (.builtin n), _] => C' == C && n == newId && !cd.hasDel && PySem.W.tailIn K valMro bm && PySem.W.nsOkIn K cd.ns && PySem.W.nsIn K cd.ns "__init__" == some (some (.ref f))
    | _, _ => false)
  | _ => false
section
variable {prog : Program} {w : World} {A : Around} {E : Value → Shared → Prop} {h : Heap} {g : Array GenState} {d : Drawn} {t : Nat} {os : OsState}
variable {nm q : Str} {C N : Addr} {bs bm : List Value} {hdct : Bool} {sn : List Str} {sub : List Value} {ab : Bool} {col : Option Bool} {dd : Option Addr} {k0 k1 k2 k3 k5 : Option Value} {newId initId : String}
theorem type_call_excI (F : ExcBaseFacts "ValueError" newId initId valMro) (T : OwnTail h valMro bm) {mN : Str → Option Value} {rest : List Value} {f : Addr} {Q : Fin → Shared → Prop}
    (hC : h.get? C = some (excClassObj nm q C N bs bm hdct sn sub ab col dd k0 k1 k2 k3 k5 newId)) (hn : h.Ns N mN) (hni : mN "__init__" = some (.ref f))
    (hb : ∀ h' : Heap, (∀ b o, h.get? b = some o → h'.get? b = some o) → ∀ self, PySem.W.Looks (model prog w) h' (bindSpecial (.ref f) self) (.ref f, [self]))
    (hq : ∀ h' : Heap, (∀ b o, h.get? b = some o → h'.get? b = some o) → h'.get? h.objs.size = some { cls := .type "tuple", data := .seq rest.toArray } →
      h'.get? (h.objs.size + 1) = some { cls := .ref C, data := .fields #[.ref h.objs.size, .none, .none, .none, .bool false, .none] } → h'.objs.size = h.objs.size + 2 →
      wpAny (model prog w) A (call (.ref f) (.ref (h.objs.size + 1) :: rest)) (fun v s' => v = .none ∧ Q (.done (.ret (.ref (h.objs.size + 1)))) s') E ⟨h', g, d, t, os⟩) (hrest : rest.length ≤ sizeLine := by size_fits) :
    wpAny (model prog w) A (Builtin.«type.__call__» ⟨.ref C :: rest, []⟩) Q E ⟨h, g, d, t, os⟩ := by
  repeat (first | with_reducible refine wpAny_loadPart_at hC ?_ | with_reducible refine wpAny_madeBy_exc hC ?_ | wp_step)
  refine codeAny_call_builtin_code (Code.quiet_builtin _ F.quiet) (wpAny_check_new_subT F T hC ?_)
  refine codeAny_exc_new_subT F T hC ?_ hrest
  show wpAny _ _ _ _ _ _
  have kp : ∀ b o, h.get? b = some o → ((h.push { cls := .type "tuple", data := .seq rest.toArray }).push { cls := .ref C, data := .fields #[.ref h.objs.size, .none, .none, .none, .bool false, .none] }).get? b = some o := fun b o e => Heap.get?_push_of_some _ (Heap.get?_push_of_some _ e)
  have hC₁ := kp _ _ hC
  have hn₁ : ((h.push { cls := .type "tuple", data := .seq rest.toArray }).push { cls := .ref C, data := .fields #[.ref h.objs.size, .none, .none, .none, .bool false, .none] }).Ns N mN := hn.keeps kp
  have hget : ((h.push { cls := .type "tuple", data := .seq rest.toArray }).push
      { cls := .ref C, data := .fields #[.ref h.objs.size, .none, .none, .none, .bool false, .none] }).get? (h.objs.size + 1) = some
      { cls := .ref C, data := .fields #[.ref h.objs.size, .none, .none, .none, .bool false, .none] } := by heap_get
  have htup : ((h.push { cls := .type "tuple", data := .seq rest.toArray }).push
      { cls := .ref C, data := .fields #[.ref h.objs.size, .none, .none, .none, .bool false, .none] }).get? h.objs.size = some { cls := .type "tuple", data := .seq rest.toArray } := Heap.get?_push_of_some _ (Heap.get?_push_size _ rfl)
  have hsz : ((h.push { cls := .type "tuple", data := .seq rest.toArray }).push { cls := .ref C, data := .fields #[.ref h.objs.size, .none, .none, .none, .bool false, .none] }).objs.size = h.objs.size + 2 := by rw [Heap.size_push, Heap.size_push]
  have hcC : (Value.ref C :: bm).contains (.ref C) = true := by simp
  have T₁ := T.keeps kp
  have hb₁ := hb _ kp (.ref (h.objs.size + 1))
  have fin := hq _ kp htup hget hsz
  generalize ((h.push { cls := .type "tuple", data := .seq rest.toArray }).push { cls := .ref C, data := .fields #[.ref h.objs.size, .none, .none, .none, .bool false, .none] }) = h1 at *
  unfold isInstance
  repeat (first | with_reducible refine wpAny_loadPart_at hget ?_ | (with_reducible refine wpAny_isSubtype_exc hC₁ ?_; rw [hcC]) | wp_step)
  show wpAny _ _ (typeLookup (.ref C) _) _ _ _
  refine wpAny_typeLookup_tail hC₁ hn₁ T₁ F.mroIs F.init.lookup ?_
  rw [hni]
  refine wpAny_holding (wpAny_bind (hb₁.here ?_))
  refine wpAny_bind (wpAny_mono fin (fun v s' z => ?_) fun _ _ z => z)
  obtain ⟨rfl, z⟩ := z
  wp_walk
  exact z
end
end L2
namespace L2
open PySem PySem.Spec PyProof.Rows
def excO (C : Addr) (dd : Option Addr) (e : Addr) : HO := .ext fun h => ∃ vs, h.get? e = some ⟨.ref C, dd, .fields vs, #[]⟩
def ExcAt (H : Hp) (e C : Addr) (fo : Option (List (Str × V))) : Prop := match fo with
  | none => H e = some (excO C none e)
  | some fs => ∃ d, H e = some (excO C (some d) e) ∧ H d = some (.xd fs)
section
variable {X : Cx} {pins : List (Addr × Obj)} {σ : St} {H : Hp} {s : Shared}
theorem Inv.excObj (I : Inv X pins σ H s) {C e : Addr} {dd : Option Addr} (he : H e = some (excO C dd e)) : ∃ vs, s.heap.get? e = some ⟨.ref C, dd, .fields vs, #[]⟩ := (I.hok e _ he).1
theorem Inv.excInst (I : Inv X pins σ H s) {C e : Addr} {fo : Option (List (Str × V))} (h : ExcAt H e C fo) : ∃ ox od, PySem.W.InstAt s.heap e ox C od ∧ (fo = none → od = none) ∧
    ∀ fs, fo = some fs → ∃ (o : Obj) (mA : Str → Option Value), od = some o ∧ (∀ n, PySem.W.lookIn n o = some (mA n)) ∧ ∀ f, RelO (fs.lookup f) (mA f) := by
  cases fo with
  | none =>
    obtain ⟨vs, q⟩ := I.excObj h
    exact ⟨_, none, ⟨q, rfl, rfl, trivial⟩, fun _ => rfl, fun fs z => (by cases z)⟩
  | some fs =>
    obtain ⟨d, h1, h2⟩ := h
    obtain ⟨vs, q⟩ := I.excObj h1
    obtain ⟨mA, n, r⟩ := (show ∃ mA, s.heap.Ns1 d mA ∧ ∀ f, RelO (fs.lookup f) (mA f) from I.hok d _ h2)
    obtain ⟨o, ho, hl⟩ := lookIn_ns n
    refine ⟨_, some o, ⟨q, rfl, rfl, ho⟩, fun z => (by cases z), fun fs' z => ?_⟩
    cases z
    exact ⟨o, mA, rfl, hl, r⟩
theorem Inv.noneOf {a : Addr} (I : Inv X pins σ H s) (hn : s.heap.get? a = none) : H a = none := by
  cases q : H a with
  | none => rfl
  | some u =>
    exfalso
    have : ∀ (u : HO), ObjOk X.prog X.w H s.heap a u → ∃ ob, s.heap.get? a = some ob := by
      intro u
      induction u with
      | lst xs => intro ⟨_, _, _, _, e⟩; exact ⟨_, e⟩
      | tup xs => intro ⟨_, _, _, p⟩; obtain ⟨ob, e, _⟩ := p; exact ⟨ob, e⟩
      | dK kvs => intro ⟨_, _, _, _, p⟩; obtain ⟨ob, _, _, e, _⟩ := p; exact ⟨ob, e⟩
      | dT kvs => intro ⟨_, _, _, _, ob, _, _, e, _⟩; exact ⟨ob, e⟩
      | set S n => intro p; obtain ⟨es, ob, xs, ep, e, _⟩ := p; exact ⟨_, e⟩
      | ins C dx fs => intro ⟨_, _, _, e, _⟩; exact ⟨_, e⟩
      | own x => intro ⟨ob, e⟩; exact ⟨ob, e⟩
      | xd fs => intro ⟨mA, n, _⟩; obtain ⟨ob, e, _⟩ := lookIn_ns n; exact ⟨ob, e⟩
      | met f x => intro e; exact ⟨_, e⟩
      | rng lo hi => intro ⟨_, _, _, e⟩; exact ⟨_, e⟩
      | frz o u _ => intro ⟨e, _⟩; exact ⟨_, e⟩
      | tbl ps => intro e; exact ⟨_, e⟩
      | ext φ => intro ⟨_, ⟨ob, e⟩, _⟩; exact ⟨ob, e⟩
    obtain ⟨ob, e⟩ := this u (I.hok a u q)
    rw [hn] at e; cases e
theorem Inv.laidN {h' : Heap} {t' : Nat} {a : Addr} {o : HO} (I : Inv X pins σ H s) (k : ∀ b u, s.heap.get? b = some u → h'.get? b = some u) (hn : s.heap.get? a = none) (new : ObjOk X.prog X.w (upd H a o) h' a o) :
    Inv X pins σ (upd H a o) { s with heap := h', toks := t' } := by
  have ne : ∀ b u, s.heap.get? b = some u → b ≠ a := fun b u e z => by rw [z, hn] at e; cases e
  have hfr : H a = none := I.noneOf hn
  have nea : ∀ b u, H b = some u → b ≠ a := fun b u e z => by rw [z, hfr] at e; cases e
  refine I.un ⟨fun b u e _ _ _ => k b u e, fun b u e _ _ _ => ⟨u.slots, k b u e⟩, fun b u e n _ => by rw [upd_ne (ne b u e)]; exact n, fun b u e _ => ⟨u, k b u e⟩,
    fun b xs e => by rw [upd_ne (nea b _ e)]; exact e, fun b ob u e => by rw [upd_ne (nea b _ e)]; exact e, fun b ps e => ⟨#[], by rw [upd_ne (nea b _ e), e]; simp⟩⟩ fun b u e => ?_
  by_cases z : b = a
  · subst z
    rw [upd_same] at e
    cases e
    exact new
  · rw [upd_ne z] at e
    refine (I.hok b u e).stay (fun c v _ q => k c v q) (fun c q => ?_) fun c ys q => ?_
    · rw [upd_ne (nea c _ q)]; exact q
    · rw [upd_ne (nea c _ q)]; exact q
end
section
variable {X : Cx} {o : Expr} {ta : TE} {f m : Str} {pos apos : Pos}
def rIsE (K : PySem.W.Frag) : List V → Hp → VK → Prop := fun xs H Q => ∃ e C fo b, ECls K C ∧ ExcAt H e C fo ∧
  ((∃ T, xs = [.ref e, .ty T] ∧ PySem.W.kitOne K (.ref C) (.type T) = some b) ∨ (∃ D, xs = [.ref e, .ref D] ∧ PySem.W.kitOne K (.ref C) (.ref D) = some b)) ∧ Q (.bl b) H
theorem call_isE : CallR X (.builtin "isinstance") (rIsE X.K) := by
  intro pins s σ H xs us Q I r h
  obtain ⟨e, C, fo, b, c, ha, hc, q⟩ := h
  obtain ⟨ox, od, J, _⟩ := I.excInst ha
  rcases hc with ⟨T, rfl, hk⟩ | ⟨D, rfl, hk⟩
  · cases r with
    | cons r1 r2 =>
      cases r2 with
      | cons r3 r4 =>
        cases r4
        cases (show _ = Value.ref e from r1)
        cases (show _ = Value.type T from r3)
        exact PySem.W.kia_one (kitx_exc c) I.kIn J hk (fun z => nomatch z) fun tk => ⟨.bl b, H, I.tok tk, rfl, q⟩
  · cases r with
    | cons r1 r2 =>
      cases r2 with
      | cons r3 r4 =>
        cases r4
        cases (show _ = Value.ref e from r1)
        cases (show _ = Value.ref D from r3)
        exact PySem.W.kia_one (kitx_exc c) I.kIn J hk (fun z => nomatch z) fun tk => ⟨.bl b, H, I.tok tk, rfl, q⟩
end
theorem ns_some_of {K : PySem.W.Frag} {h : Heap} {N : Addr} {mg : Str → Option Value} {n : Str} {v : Value} (X : K.In h) (G : h.Ns N mg) (e : PySem.W.nsIn K N n = some (some v)) : mg n = some v := by
  obtain ⟨o, es, ep, ho, hd, _, hf⟩ := G
  unfold PySem.W.nsIn at e
  split at e
  · rename_i c d es' n' sl q
    have := X _ _ q
    rw [ho] at this
    cases this
    cases hd
    split at e
    · rename_i en he
      cases e
      rw [← hf]
      unfold nsFind findBy
      rw [← Array.find?_toList, he]
      rfl
    · split at e <;> cases e
  · cases e
theorem exc_cls {K : PySem.W.Frag} {h : Heap} {C : Addr} {newId : String} (X : K.In h) (q : PySem.W.excIn K C valMro newId = true) :
    ∃ bm N nm qn bs hdct sn sub ab col dd k0 k1 k2 k3 k5 mN, h.get? C = some (excClassObj nm qn C N bs bm hdct sn sub ab col dd k0 k1 k2 k3 k5 newId) ∧ h.Ns N mN ∧ mN "__init__" = none ∧ OwnTail h valMro bm := by
  unfold PySem.W.excIn at q
  split at q
  · rename_i dd cd sl ho
    split at q
    · rename_i C' bm k0 k1 k2 k3 n k5 hm hs
      simp only [Bool.and_eq_true, beq_iff_eq, Bool.not_eq_true'] at q
      obtain ⟨⟨⟨⟨⟨rfl, rfl⟩, hdel⟩, ht⟩, hok⟩, hni⟩ := q
      obtain ⟨nm, bs, mro, ns, qn, hd, sn, sub, ab, col, del⟩ := cd
      dsimp only at hm hdel hok hni
      subst hm hdel
      have hsl : sl = #[k0, k1, k2, k3, some (.builtin n), k5] := by
        obtain ⟨l⟩ := sl
        simp only at hs
        rw [hs]
      subst hsl
      exact ⟨bm, ns, nm, qn, bs, hd, sn, sub, ab, col, dd, k0, k1, k2, k3, k5, _, X _ _ ho, .of_isNs (PySem.W.isNs_of_in X hok), PySem.W.nsMap_none_of_in X hok hni, PySem.W.tail_of_in X ht⟩
    · cases q
  · cases q
theorem exc_clsI {K : PySem.W.Frag} {h : Heap} {C f : Addr} {newId : String} (X : K.In h) (q : excInI K C newId f = true) :
    ∃ bm N nm qn bs hdct sn sub ab col dd k0 k1 k2 k3 k5 mN, h.get? C = some (excClassObj nm qn C N bs bm hdct sn sub ab col dd k0 k1 k2 k3 k5 newId) ∧ h.Ns N mN ∧ mN "__init__" = some (.ref f) ∧ OwnTail h valMro bm := by
  unfold excInI at q
  split at q
  · rename_i dd cd sl ho
    split at q
    · rename_i C' bm k0 k1 k2 k3 n k5 hm hs
      simp only [Bool.and_eq_true, beq_iff_eq, Bool.not_eq_true'] at q
      obtain ⟨⟨⟨⟨⟨rfl, rfl⟩, hdel⟩, ht⟩, hok⟩, hni⟩ := q
      obtain ⟨nm, bs, mro, ns, qn, hd, sn, sub, ab, col, del⟩ := cd
      dsimp only at hm hdel hok hni
      subst hm hdel
      have hsl : sl = #[k0, k1, k2, k3, some (.builtin n), k5] := by
        obtain ⟨l⟩ := sl
        simp only at hs
        rw [hs]
      subst hsl
      have hN := Heap.Ns.of_isNs (PySem.W.isNs_of_in X hok)
      exact ⟨bm, ns, nm, qn, bs, hd, sn, sub, ab, col, dd, k0, k1, k2, k3, k5, _, X _ _ ho, hN, ns_some_of X hN hni, PySem.W.tail_of_in X ht⟩
    · cases q
  · cases q
section
variable {X : Cx} {C f : Addr} {fd : FuncData} {ps : List Str} {sp : Sp} {x : Str} {p pos : Pos} {e : Expr} {es : List Expr} {t : TA} {k : Nat}
end
end L2
namespace L2
open PySem PySem.Spec PyProof.Rows
open PySem.SeqAt (shaped noMix noMixAll)
section
variable {X : Cx}
end
end L2
namespace L2
open PySem PySem.Spec PyProof.Rows
open PySem.SeqAt (shaped noMix noMixAll)
section
variable {X : Cx} {pins : List (Addr × Obj)} {σ : St} {H : Hp} {s : Shared}
theorem kitx_at {x : V} {u t : Value} (I : Inv X pins σ H s) (rx : RelV x u) (ty : TyOf X.K H x t) : ∃ HH : Heap → Prop, PySem.W.KitX X.K u t HH ∧ HH s.heap ∧ u ≠ .builtin "__main__.__loader__#opaque" := by
  cases ty with
  | non => cases (show u = Value.none from rx); exact ⟨_, PySem.W.kitx_none, True.intro, fun z => nomatch z⟩
  | bl y => cases (show u = Value.bool y from rx); exact ⟨_, PySem.W.kitx_bool, True.intro, fun z => nomatch z⟩
  | int i => obtain ⟨t, q⟩ := (show ∃ t, u = Value.int i t from rx); cases q; exact ⟨_, PySem.W.kitx_int, True.intro, fun z => nomatch z⟩
  | str y => obtain ⟨t, q⟩ := (show ∃ t, u = Value.str y t from rx); cases q; exact ⟨_, PySem.W.kitx_str, True.intro, fun z => nomatch z⟩
  | flt y => obtain ⟨t, q⟩ := (show ∃ t, u = Value.float y t from rx); cases q; exact ⟨_, PySem.W.kitx_float, True.intro, fun z => nomatch z⟩
  | @lst a xs ea =>
    cases (show u = Value.ref a from rx)
    obtain ⟨_, _, n, _, h1⟩ := (show ObjOk X.prog X.w H s.heap a (.lst xs) from I.hok a _ ea)
    exact ⟨_, PySem.W.kitx_list, ⟨_, h1, rfl⟩, fun z => nomatch z⟩
  | @frz a ob xs ea =>
    cases (show u = Value.ref a from rx)
    obtain ⟨_, _, _, n, _, h1⟩ := (show ObjOk X.prog X.w H s.heap a (.frz ob (.lst xs)) from I.hok a _ ea)
    exact ⟨_, PySem.W.kitx_list, ⟨_, h1, rfl⟩, fun z => nomatch z⟩
  | @tup a xs ea =>
    cases (show u = Value.ref a from rx)
    obtain ⟨_, _, _, o, h1, h2, _⟩ := (show ObjOk X.prog X.w H s.heap a (.tup xs) from I.hok a _ ea)
    exact ⟨_, PySem.W.kitx_tuple, ⟨o, h1, h2⟩, fun z => nomatch z⟩
  | @dK a kvs ea =>
    cases (show u = Value.ref a from rx)
    obtain ⟨_, _, vs, _, o, es, ep, h1, h2, _⟩ := (show ObjOk X.prog X.w H s.heap a (.dK kvs) from I.hok a _ ea)
    exact ⟨_, PySem.W.kitx_dict, ⟨o, h1, h2.1⟩, fun z => nomatch z⟩
  | @dT a kvs ea =>
    cases (show u = Value.ref a from rx)
    obtain ⟨_, _, xs, _, o, es, ep, h1, h2, _⟩ := (show ObjOk X.prog X.w H s.heap a (.dT kvs) from I.hok a _ ea)
    exact ⟨_, PySem.W.kitx_dict, ⟨o, h1, h2.1⟩, fun z => nomatch z⟩
  | @ins a C dx fs ea cl ha hn htk hm =>
    cases (show u = Value.ref a from rx)
    obtain ⟨mA, O, _⟩ := ins_get I.hok ea
    obtain ⟨od, J, _⟩ := O.look
    exact ⟨_, PySem.W.kitx_own (cl.get _) cl.hd ha hn htk hm, J, fun z => nomatch z⟩
end
section
variable {X : Cx}
def rIsTT (K : PySem.W.Frag) : List V → Hp → VK → Prop := fun xs H Q => ∃ (x : V) (tp : Addr) (Ts : List String) (t : Value) (b : Bool), xs = [x, .ref tp] ∧ H tp = some (.tup (Ts.map V.ty)) ∧ TyOf K H x t ∧ PySem.W.kitAny K t (Ts.map Value.type) = some b ∧ Q (.bl b) H
theorem vals_ty : ∀ {Ts : List String} {us : List Value}, Vals (Ts.map V.ty) us → us = Ts.map Value.type
  | [], us, r => by rw [List.map_nil] at r; cases r; rfl
  | T :: Ts, us, r => by
    rw [List.map_cons] at r
    cases r with
    | cons r1 r2 =>
      cases (show _ = Value.type T from r1)
      rw [vals_ty r2]
      rfl
theorem call_isTT : CallR X (.builtin "isinstance") (rIsTT X.K) := by
  intro pins s σ H xs us Q I r h
  obtain ⟨x, tp, Ts, t, b, rfl, htp, ty, e, q⟩ := h
  cases r with
  | cons r1 r2 =>
    cases r2 with
    | cons r3 r4 =>
      cases r4
      cases (show _ = Value.ref tp from r3)
      obtain ⟨HH, Z, p, ne⟩ := kitx_at I r1 ty
      obtain ⟨_, its, rv, o, h1, h2, n, h3⟩ := (show ObjOk X.prog X.w H s.heap tp (.tup (Ts.map V.ty)) from I.hok tp _ htp)
      have ei := vals_ty rv
      subst ei
      obtain ⟨cls, dd, data, sl⟩ := o
      dsimp only at h2 h3
      subst h2 h3
      exact PySem.W.kia_tup Z I.kIn p h1 e ne fun tk => ⟨.bl b, H, I.tok tk, rfl, q⟩
theorem vals_bl : ∀ {bs : List Bool} {us : List Value}, Vals (bs.map V.bl) us → us = bs.map Value.bool
  | [], us, r => by rw [List.map_nil] at r; cases r; rfl
  | b :: bs, us, r => by
    rw [List.map_cons] at r
    cases r with
    | cons r1 r2 =>
      cases (show _ = Value.bool b from r1)
      rw [vals_bl r2]
      rfl
theorem bt_all : bootBuiltins "all" = some (.builtin "all") := by decide +kernel
theorem call_allB (hc : X.calm = true) : CallR X (.builtin "all") (fun xs H Q => ∃ (a : Addr) (bs : List Bool), xs = [.ref a] ∧ SqL X.K H a (bs.map V.bl) ∧ Q (.bl (bs.all id)) H) := by
  intro pins s σ H xs us Q I r h
  obtain ⟨a, bs, rfl, hq, q⟩ := h
  cases r with
  | cons r1 r2 =>
    cases r2
    cases (show _ = Value.ref a from r1)
    obtain ⟨its, rv, p, hz⟩ := I.list hq
    have ei := vals_bl rv
    subst ei
    have hl := p.isList
    have hlt : a < s.heap.objs.size := by obtain ⟨_, e, _⟩ := hl; exact Heap.lt_size e
    refine call_all_walk (wpAny_pyIter_list hl ?_)
    refine ⟨s.heap.objs.size, [s.heap.objs.size, a], [s.heap.objs.size], (bs.map Value.bool).toArray.size, _, _, fun i => (bs[i]?).getD true, rfl, Walks.list (A := X.A.in1) (I.ok.hd hc) _ a (Nat.ne_of_lt hlt) (bs.map Value.bool).toArray,
      ⟨⟨_, Heap.get?_push_size _ rfl, rfl, rfl⟩, hl.push _⟩, fun i v s' Q' E' hP hQ => ?_, fun h' tk hk => ?_⟩
    · have hP' : (bs.map Value.bool)[i]? = some v := by simpa using hP
      rw [List.getElem?_map] at hP'
      obtain ⟨b, e1, e2⟩ := Option.map_eq_some_iff.mp hP'
      subst e2
      simp only [e1, Option.getD_some] at hQ
      exact wpAny_truthy_bool hQ
    · have e : ((List.range (bs.map Value.bool).toArray.size).all fun i => (bs[i]?).getD true) = bs.all id := by
        rw [List.size_toArray, List.length_map]
        rw [Bool.eq_iff_iff, List.all_eq_true, List.all_eq_true]
        constructor
        · intro h b hb
          obtain ⟨i, hi, e⟩ := List.getElem_of_mem hb
          have := h i (List.mem_range.mpr hi)
          simp only [List.getElem?_eq_getElem hi, Option.getD_some, e] at this
          exact this
        · intro h i hi
          have hi' := List.mem_range.mp hi
          simp only [List.getElem?_eq_getElem hi', Option.getD_some]
          exact h _ (List.getElem_mem hi')
      rw [e]
      refine ⟨.bl _, H, I.kept (t' := tk) (fun b x e => ?_), rfl, q⟩
      exact hk b x (fun hm => by rw [List.mem_singleton.mp hm] at e; exact Nat.lt_irrefl _ (Heap.lt_size e)) (Heap.get?_push_of_some _ e)
end
end L2
namespace L2
open PySem PySem.Spec PyProof.Rows
open PySem.MeetsSeq PySem.MeetsSeq2 PySem.MeetsSeq3
theorem noFill_tuple_mul : fillsNumberSlot (.type "tuple") "mul" = pure false :=
  PySem.fillsNumberSlot_seq (id := "tuple.__mul__") (r := some (.builtin "tuple.__rmul__")) F.slot_tuple_mul.lookup (by decide +kernel) F.slot_tuple_rmul.lookup (by decide +kernel)
theorem repeat_tuple : seqRepeat? (.type "tuple") = pure (some (.builtin "tuple.__mul__")) := by
  unfold seqRepeat?
  rw [PySem.seqSlot_of (T := "tuple") (name := "__mul__") (id := "tuple.__mul__") F.slot_tuple_mul.lookup (by decide +kernel), PySem.seqSlot_of (T := "tuple") (name := "__rmul__") (id := "tuple.__rmul__") F.slot_tuple_rmul.lookup (by decide +kernel)]
  rfl
theorem rmul_int_tup (a : Int) (t : Tok) (l : Addr) (items : Array Value) (n : Nat) (dd : Option Addr) (sl : Array (Option Value)) :
    Meets (Builtin.«int.__rmul__» ⟨[.int a t, .ref l], []⟩) (fun _ R s => s.heap.get? l = some ⟨.type "tuple", dd, .seq items n, sl⟩ ∧ R (.ok (.ret Value.notImplemented)) s) :=
  .of_wp fun prog w A R s h => by obtain ⟨hp, g, d, tk, os⟩ := s; obtain ⟨hl, h⟩ := h; wp_walk; exact ⟨_, rfl, h⟩
theorem tup_mul_1 (l : Addr) (items : Array Value) (n : Nat) (dd : Option Addr) (sl : Array (Option Value)) (u : Tok) :
    Meets (Builtin.«tuple.__mul__» ⟨[.ref l, .int 1 u], []⟩) (fun _ R s => s.heap.get? l = some ⟨.type "tuple", dd, .seq items n, sl⟩ ∧ R (.ok (.ret (.ref l))) s) :=
  .of_wp fun prog w A R s h => by
    obtain ⟨hp, g, d, tk, os⟩ := s; obtain ⟨hl, h⟩ := h; have f1 := AutoSeq1.idx_int; have f2 := AutoSeq1.sub_tuple_tuple
    wp_walk using AutoSeq1.wpAny_loadPart' hl
    exact ⟨_, rfl, h⟩
theorem tup_mul_n (l : Addr) (items : Array Value) (n : Nat) (dd : Option Addr) (sl : Array (Option Value)) (x : Int) (u : Tok) (c0 : ¬ (decide (x < -2 ^ 63) || decide (x ≥ 2 ^ 63)) = true) (c1 : ¬ (items.isEmpty || x == 1) = true) (c2 : ¬ (decide (x ≤ 0) || items.isEmpty) = true)
    (c3 : ¬ (items.size : Int) * x > (2 ^ 63 - 1) / 8) (c4 : ¬ Builtin.Tuple.tupleTooMany ((items.size : Int) * x) = true) (hsz : (List.foldl (fun x1 x2 => x1 ++ x2) #[] (List.replicate x.toNat items)).size ≤ sizeLine) :
    Meets (Builtin.«tuple.__mul__» ⟨[.ref l, .int x u], []⟩) (fun _ R s => s.heap.get? l = some ⟨.type "tuple", dd, .seq items n, sl⟩ ∧ R (.ok (.ret (.ref s.heap.objs.size))) { s with heap := s.heap.push { cls := .type "tuple", data := .seq (List.foldl (fun x1 x2 => x1 ++ x2) #[] (List.replicate x.toNat items)) }, toks := s.toks }) :=
  .of_wp fun prog w A R s h => by
    obtain ⟨hp, g, d, tk, os⟩ := s; obtain ⟨hl, h⟩ := h; have f1 := AutoSeq1.idx_int; have f2 := AutoSeq1.sub_tuple_tuple
    wp_walk using AutoSeq1.wpAny_loadPart' hl
    refine wpAny_ite_false (decide_eq_false c0) ?_; wp_walk using AutoSeq1.wpAny_loadPart' hl
    refine wpAny_ite_false (decide_eq_false c3) ?_; wp_walk using AutoSeq1.wpAny_loadPart' hl
    exact ⟨_, rfl, h⟩
theorem tup_mul_0 (l : Addr) (items : Array Value) (n : Nat) (dd : Option Addr) (sl : Array (Option Value)) (x : Int) (u : Tok) (c0 : ¬ (decide (x < -2 ^ 63) || decide (x ≥ 2 ^ 63)) = true) (c1 : ¬ (items.isEmpty || x == 1) = true) (c2 : (decide (x ≤ 0) || items.isEmpty) = true) :
    Meets (Builtin.«tuple.__mul__» ⟨[.ref l, .int x u], []⟩) (fun _ R s => s.heap.get? l = some ⟨.type "tuple", dd, .seq items n, sl⟩ ∧ R (.ok (.ret (.ref s.heap.objs.size))) { s with heap := s.heap.push { cls := .type "tuple", data := .seq #[] }, toks := s.toks }) :=
  .of_wp fun prog w A R s h => by
    obtain ⟨hp, g, d, tk, os⟩ := s; obtain ⟨hl, h⟩ := h; have f1 := AutoSeq1.idx_int; have f2 := AutoSeq1.sub_tuple_tuple
    wp_walk using AutoSeq1.wpAny_loadPart' hl
    refine wpAny_ite_false (decide_eq_false c0) ?_; wp_walk using AutoSeq1.wpAny_loadPart' hl
    exact ⟨_, rfl, h⟩
section
variable {X : Cx}
def rRepT (K : PySem.W.Frag) : R2 := fun x y H Q => ∃ a k xs, x = .ref a ∧ y = .int k ∧ SqT K H a xs ∧ xs ≠ [] ∧ -(2 ^ 63) ≤ k ∧ k < 2 ^ 63 ∧ xs.length * k.toNat ≤ sizeLine ∧ (k = 1 → Q (.ref a) H) ∧ (k ≠ 1 → ∀ p, H p = none → Q (.ref p) (upd H p (.tup (List.replicate k.toNat xs).flatten)))
theorem op_repT : OpR X (binaryOp .Mult) (rRepT X.K) := by
  intro pins s σ H x y v u Q I rx ry h
  obtain ⟨a, k, xs, rfl, rfl, hq, hne, h1, h2, hz, q1, q2⟩ := h
  cases rx
  obtain ⟨t, rfl⟩ := ry
  obtain ⟨its, r, ⟨o, e, hc, n, hd⟩, _⟩ := I.tuple hq
  obtain ⟨cls, dd, data, sl⟩ := o
  dsimp only at hc hd
  subst hc hd
  have hl := r.length
  refine wpAny_binaryOp_repeat_ref (T := "tuple") (U := "int") (by decide) ⟨_, e, rfl⟩ (fun s' => typeIs_int s' k t) noFill_tuple_mul F.fills_int_mul F.slot_int_rmul repeat_tuple F.slot_int_index.lookup
    (call_meets F.slot_int_rmul (typeIs_int s k t) F.entry_int_rmul (F.args_int_rmul_2 _ _) (rmul_int_tup k t a its.toArray n dd sl) ⟨e, rfl, ⟨_, e, rfl⟩, ?_⟩)
  by_cases hk1 : k = 1
  · subst hk1
    exact call_meets F.slot_tuple_mul ⟨_, e, rfl⟩ F.entry_tuple_mul (F.args_tuple_mul_2 _ _) (tup_mul_1 a its.toArray n dd sl t) ⟨e, ⟨.ref a, H, I, rfl, q1 rfl⟩⟩
  · have hb1 : (k == 1) = false := by simpa using hk1
    have hni : its ≠ [] := fun z => hne (r.nil_iff.mp z)
    have hie : its.toArray.isEmpty = false := by cases its with | nil => exact absurd rfl hni | cons _ _ => rfl
    have c0 : ¬ (decide (k < -2 ^ 63) || decide (k ≥ 2 ^ 63)) = true := by simp; omega
    have c1 : ¬ (its.toArray.isEmpty || k == 1) = true := by rw [hie, hb1]; simp
    have fin : ∀ ys, ys = (List.replicate k.toNat its).flatten.toArray → EP X pins σ Q (.ref s.heap.objs.size) { s with heap := s.heap.push { cls := .type "tuple", data := .seq ys }, toks := s.toks } := fun ys ey => by
      subst ey
      refine ⟨.ref s.heap.objs.size, _, I.laid (t' := s.toks) (o := .tup (List.replicate k.toNat xs).flatten) (fun b ob q => Heap.get?_push_of_some _ q) (Nat.le_refl _) ?_, rfl, q2 hk1 _ (I.hok.fresh (Nat.le_refl _))⟩
      exact ⟨by rw [len_rep, Nat.mul_comm]; exact hz, _, r.rep k.toNat, IsTup.new _ _⟩
    have hnew : List.foldl (fun x1 x2 => x1 ++ x2) #[] (List.replicate k.toNat its.toArray) = (List.replicate k.toNat its).flatten.toArray := by
      have := foldl_rep its k.toNat []
      rw [List.nil_append] at this
      exact this
    by_cases hk0 : k ≤ 0
    · have c2 : (decide (k ≤ 0) || its.toArray.isEmpty) = true := by rw [decide_eq_true hk0]; rfl
      refine call_meets F.slot_tuple_mul ⟨_, e, rfl⟩ F.entry_tuple_mul (F.args_tuple_mul_2 _ _) (tup_mul_0 a its.toArray n dd sl k t c0 c1 c2) ⟨e, fin _ ?_⟩
      rw [show k.toNat = 0 by omega]
      rfl
    · have c2 : ¬ (decide (k ≤ 0) || its.toArray.isEmpty) = true := by rw [decide_eq_false hk0, hie]; simp
      have em : ((its.toArray.size : Nat) : Int) * k = ((xs.length * k.toNat : Nat) : Int) := by
        rw [List.size_toArray, ← hl, Int.natCast_mul, Int.toNat_of_nonneg (by omega)]
      have hs : (sizeLine : Int) ≤ (2 ^ 63 - 1) / 8 := by decide
      refine call_meets F.slot_tuple_mul ⟨_, e, rfl⟩ F.entry_tuple_mul (F.args_tuple_mul_2 _ _) (tup_mul_n a its.toArray n dd sl k t c0 c1 c2 ?_ ?_ ?_) ⟨e, fin _ hnew⟩
      · rw [em]; omega
      · rw [em]
        unfold Builtin.Tuple.tupleTooMany
        simp only [decide_eq_true_eq]
        omega
      · rw [hnew, List.size_toArray, len_rep, Nat.mul_comm, ← hl]
        exact hz
end
end L2
namespace L2
open PySem PySem.Spec PyProof.Rows
structure FunD (K : PySem.W.Frag) (x qual : Str) (st : Stmt) (dv : Value) (f : Addr) (fd : FuncData) : Prop where
  ex : ∃ (oc : Value) (od : Option Addr) (kV doc pm : Value) (an : Option Addr) (cdv ct : Value) (osl : Array (Option Value)),
    fd = PySem.W.fnOf x qual (defArgs st) (defBody st) (defScope st) dv kV doc pm an cdv ct ∧ K.lookup f = some ⟨oc, od, .func fd, osl⟩ ∧ PySem.W.codeIn K cdv qual = true
  kp : PySem.W.keepIn K (.ref f) = true
section
variable {P : Program} {w : World} {K : PySem.W.Frag} {mg : Str → Option Value} {base : Heap}
theorem FunD.binds {x qual : Str} {st : Stmt} {T : Addr} {o : Obj} {items : Array Value} {n : Nat} {f : Addr} {fd : FuncData} {ps : List Str} {ds : List Value} (F : FunD K x qual st (.ref T) f fd) (ho : K.lookup T = some o) (hs : o.data = .seq items n)
    (h : ∀ (kV doc pm : Value) (an : Option Addr) (cdv ct : Value) (us : List Value), (us ++ ds).length = ps.length → ∃ k, bindArgs (PySem.W.fnOf x qual (defArgs st) (defBody st) (defScope st) (.ref T) kV doc pm an cdv ct) ⟨us, []⟩ = seqItems? (.ref T) >>= k ∧ k (some items) = pure (ps.zip (us ++ ds))) : Binds K fd ps ds := by
  obtain ⟨oc, od, kV, doc, pm, an, cdv, ct, osl, rfl, lk, hcd⟩ := F.ex
  intro s us X hl
  obtain ⟨k, h1, h2⟩ := h kV doc pm an cdv ct us hl
  exact BindsTo.of_defaults rfl (X _ _ ho) hs h1 h2
end
theorem pe_gi {X : Cx} {x : Str} {v : V} {pos : Pos} (hg : Gl X x) (hm : ∃ u, X.mg x = some u ∧ RelV v u) (hd : (x == ("__debug__" : Str)) = false := by decide) : PE X (.Name x pos) (tC v) := by
  obtain ⟨u, h1, h2⟩ := hm
  exact pe_glob hg h1 h2 hd
theorem bt_max : bootBuiltins "max" = some (.builtin "max") := by decide +kernel
end L2
namespace L2
open PySem PySem.Spec PyProof.Rows
theorem comp_gen {X : Cx} {tg elt iter : Expr} {ifs : List Expr} {scope : Scope} {cl : List (Str × Addr)} {pos cpos : Pos} {wi : TI} {g : TG} {tt : Option TT} {te : TE} {ts fs : List Str} {js : List Nat} (hcalm : X.calm = true)
    (hclos : closureFor scope X.env = pure cl) (hk : scope.kind = .function) (nc : noCell scope.names = true) (lo : locOnce scope.names = true) (fh : freeHas cl scope.names = true) (ag : Agrees X cl) (fr : Frees X scope cl fs js)
    (hi : PI X tg iter wi) (hg : ∀ C s₀ H₀ ex pins, PG (cxc X scope cl (ts ++ fs) C s₀ H₀ ex pins) tg g)
    (ht : ∀ C s₀ H₀ ex pins, match ifs, tt with | [], none => True | [c], some t => PT (cxc X scope cl (ts ++ fs) C s₀ H₀ ex pins) c t | _, _ => False)
    (he : ∀ C s₀ H₀ ex pins, PE (cxc X scope cl (ts ++ fs) C s₀ H₀ ex pins) elt te)
    (hs : ∀ x, foldedSetIterable iter X.env x = pure x) {pins : List (Addr × Obj)} {s : Shared} {σ : St} {H : Hp} {Q : VK} (I : Inv X pins σ H s) (h : tComp wi g tt te ts js σ H Q)
    (use : Option (Value → Sem Unit)) (Qv : Value → Shared → Prop)
    (hfin : ∀ (D : Addr) (H' : Hp) (s' : Shared) (C : Addr), Inv X pins σ H' s' → Q (.ref D) H' → (∃ m, s'.heap.Ns C m) → FpOk X pins H' C → compPost (model X.prog X.w) X.A X.xe use Qv (.ref D) C (.ok .next) s') :
    wpAny (model X.prog X.w) X.A (comprehension (.ListComp elt [⟨tg, iter, ifs, 0⟩] scope pos) scope X.env cpos (newList []) false (eval iter X.env) use) Qv X.xe s := by
  have hcell : ∀ y ∈ scope.names, y.2 ≠ .cell := fun y hy => by
    have := List.all_eq_true.mp nc y hy
    simpa using this
  have hnames : ∀ y ∈ scope.names, y.2 = .local → scope.names.lookup y.1 = some .local := fun y hy hl => by
    have := List.all_eq_true.mp lo y hy
    rw [hl] at this
    simpa using this
  refine wpAny_comprehension_free (use := use) rfl hs hclos hk hnames (thn (hi pins s σ H _ I h) fun v s1 h1 => thn h1 fun itv s2 h2 => ?_)
  obtain ⟨it, fp, tn, J, H1, e, I2, T, st2, f2, hJ⟩ := h2
  subst e
  refine wpAny_newObj_type (wpAny_newFunctionEnv hcell (by intro y hy; simp at hy) (fun h₁ hns₁ hsb₁ => ?_) hk)
  dsimp only at hns₁ hsb₁ ⊢
  generalize hH2 : s2.heap.push { cls := .type "list", dict := none, data := .seq ([] : List Value).toArray } = G at hns₁ hsb₁ ⊢
  have hC : G.objs.size = s2.heap.objs.size + 1 := by rw [← hH2, Heap.size_push]
  have old : ∀ b o, s2.heap.get? b = some o → h₁.get? b = some o := fun b o e => by
    have hb := Heap.lt_size e
    refine hsb₁.extBut b o (Nat.ne_of_lt (Nat.lt_of_lt_of_le hb (Nat.le_of_lt (by rw [hC]; exact Nat.lt_succ_self _)))) (Heap.get?_push_of_some _ ?_)
    rw [← hH2]
    exact Heap.get?_push_of_some _ e
  have hacc : h₁.get? s2.heap.objs.size = some { cls := .type "list", dict := none, data := .seq #[] } := by
    refine hsb₁.extBut _ _ (Nat.ne_of_lt (by rw [hC]; exact Nat.lt_succ_self _)) (Heap.get?_push_of_some _ ?_)
    rw [← hH2]
    exact Heap.get?_push_size _ rfl
  have nD : H1 s2.heap.objs.size = none := I2.hok.fresh (Nat.le_refl _)
  have nC : H1 G.objs.size = none := I2.hok.fresh (by omega)
  obtain ⟨W, ⟨m0, w0⟩, turn⟩ := hJ _ nD
  -- the block's state
  have hfpS : ∀ b ∈ fp, b < s2.heap.objs.size := fun b hb => by
    obtain ⟨o, e, _⟩ := T.obj _ _ st2 b hb
    exact Heap.lt_size e
  have ltk : ∀ (x : Str) (c : Addr), cl.lookup x = some c → c < s2.heap.objs.size ∧ H1 c = none ∧ (∃ v, s2.heap.IsCell c v) := fun x c e => by
    have e' := ag.at x c e
    obtain ⟨v, q⟩ := I2.cell x c e'
    exact ⟨q.lt, I2.freeC x c e', v, q⟩
  let X' := cxc X scope cl (ts ++ fs) G.objs.size s2 H1 fp pins
  have okX : X'.Ok := by
    refine ⟨I2.ok.mod, hk, I2.ok.glob, I2.ok.blt, by show s2.heap.objs.size ≤ G.objs.size; omega, fun x y c e1 e2 => I2.ok.inj x y c (ag.at x c e1) (ag.at y c e2), fun x hx => ?_, fun x c hf _ => (nomatch (show (false : Bool) = true from hf)), I2.ok.hd, I2.ok.frames, .inl rfl, fun b hb => ⟨?_, fun x c e z => ?_⟩, fun b o e => I2.bs b o e, Nat.le_trans I2.ok.bsz I2.sz, fun b o e hb => ?_, fun b hb hz => ?_, I2.stack, fun b hb => I2.stkFree b hb⟩
    · have hfree := kindOf_relabel (env := X.env) hx nc
      have hm : ∃ y ∈ scope.names, y.1 = x ∧ y.2 = .free := by
        have : ∀ (l : List (Str × NameKind)), l.lookup x = some .free → ∃ y ∈ l, y.1 = x ∧ y.2 = .free := by
          intro l
          induction l with
          | nil => intro h; simp at h
          | cons p r ih =>
            intro h
            rw [List.lookup_cons] at h
            cases q : x == p.1 with
            | true =>
              rw [q] at h
              exact ⟨p, List.mem_cons_self, (by simpa using q : x = p.1).symm, Option.some.inj h⟩
            | false =>
              rw [q] at h
              obtain ⟨y, hy, r1, r2⟩ := ih h
              exact ⟨y, List.mem_cons_of_mem _ hy, r1, r2⟩
        exact this _ hfree
      obtain ⟨y, hy, r1, r2⟩ := hm
      have := List.all_eq_true.mp fh y hy
      rw [r2] at this
      have h' : (cl.lookup y.1).isSome = true := by simpa using this
      rw [r1] at h'
      exact Option.isSome_iff_exists.mp h'
    · exact Nat.ne_of_lt (Nat.lt_of_lt_of_le (hfpS b hb) (by show s2.heap.objs.size ≤ G.objs.size; omega))
    · exact (f2 b hb).2.2.2.2.1 x c (ag.at x c e) z
    · obtain ⟨_, _, _, f3, _, _⟩ := f2 b hb
      rcases f3 with z | z
      · exact I2.ok.noex b o e z
      · exact absurd (Nat.lt_of_lt_of_le (Heap.lt_size (I2.ok.bs b o e).1) z) (Nat.lt_irrefl _)
    · rcases List.mem_cons.mp (I2.stkSub b hz) with z | z
      · exact (f2 b hb).2.1 z
      · exact (f2 b hb).2.2.1 z
  have keepB : ∀ b o, s2.heap.get? b = some o → h₁.get? b = some o := old
  have I3 : Inv X' [] (blockSt ts js σ) (upd H1 s2.heap.objs.size (.lst [])) { s2 with heap := h₁, toks := s2.toks + ([] : List (Str × Value)).length } := by
    have neD : ∀ b o, s2.heap.get? b = some o → b ≠ s2.heap.objs.size := fun b o e => Nat.ne_of_lt (Heap.lt_size e)
    refine ⟨okX, rfl, I2.bare, ⟨fun b o e n hb hx => old b o e, fun b o e n hb hx => ⟨o.slots, old b o e⟩, fun b o e n hx => by rw [upd_ne (neD b o e)]; exact n, fun b o e hx => ⟨o, old b o e⟩, fun b xs e => ?_, fun b o u e => ?_, fun b ps e => ?_⟩, ⟨_, hns₁, fun i x v e1 e2 e3 => ?_⟩, fun x c e => ?_, ?_, fun x c e => ?_, fun p hp => ?_, ?_, ?_⟩
    · rw [upd_ne (ne_of_none e nD)]; exact e
    · rw [upd_ne (ne_of_none e nD)]; exact e
    · exact ⟨#[], by rw [upd_ne (ne_of_none e nD)]; exact Eq.trans e (by simp)⟩
    · -- the free names
      have hlen : (ts.map (fun _ => (none : Option V))).length = ts.length := List.length_map _
      unfold blockSt at e2
      by_cases hlt : i < ts.length
      · rw [List.getElem?_append_left (by rw [hlen]; exact hlt), List.getElem?_map] at e2
        cases q : ts[i]? <;> rw [q] at e2 <;> cases e2
      · rw [List.getElem?_append_right (by rw [hlen]; omega), hlen] at e2
        have e1' : fs[i - ts.length]? = some x := by
          have e1' : (ts ++ fs)[i]? = some x := e1
          rw [List.getElem?_append_right (by omega)] at e1'
          exact e1'
        have all : ∀ {fs : List Str} {js : List Nat}, Frees X scope cl fs js → ∀ k : Nat, fs[k]? = some x → (js.map fun j => (σ[j]?).join)[k]? = some (some v) →
            ∃ (j : Nat) (c : Addr), X.N[j]? = some x ∧ σ[j]? = some (some v) ∧ (X.env.kindOf x = some .cell ∨ X.env.kindOf x = some .free) ∧ X.env.cells.lookup x = some c ∧ cl.lookup x = some c ∧ scope.names.lookup x = some .free := by
          intro fs js r
          induction r with
          | nil => intro k e; simp at e
          | @cons y j c fs js hN hf hv hc hl r ih =>
            intro k e e'
            cases k with
            | zero =>
              have e0 : y = x := by simpa using e
              subst e0
              have e0' : (σ[j]?).join = some v := by simpa using e'
              refine ⟨j, c, hN, ?_, hv, hc, hl, hf⟩
              cases q : σ[j]? with
              | none => rw [q] at e0'; cases e0'
              | some z => rw [q] at e0'; cases z with
                | none => cases e0'
                | some z => have : z = v := by simpa using e0'
                            rw [this]
            | succ k => exact ih k (by simpa using e) (by simpa using e')
        obtain ⟨j, c, q1, q2, q3, q4, q5, q6⟩ := all fr (i - ts.length) e1' e2
        obtain ⟨m, hn, hl⟩ := I2.loc
        have vis : Vis X.env.scope x := by
          rcases q3 with z | z
          · exact .inr (.inl z)
          · exact .inr (.inr z)
        obtain ⟨u, ru, lk⟩ := hl j x v q1 q2 vis
        refine ⟨u, ru, .inr ⟨?_, c, q5, ?_⟩⟩
        · rcases e3 with z | z | z
          · exfalso
            -- a local of the block has no slot here: it is not free
            have key : ∀ (l : List (Str × NameKind)), (l.map fun (n, k) => if (k == NameKind.free && X.env.scope.kind == .function && X.env.kindOf n == some .cell) then (n, NameKind.cell) else (n, k)).lookup x = some .local → l.lookup x = some .local := by
              intro l
              induction l with
              | nil => intro h; simp at h
              | cons p r ih =>
                obtain ⟨n, k⟩ := p
                intro h
                rw [List.map_cons] at h
                dsimp only at h
                by_cases hc : (k == NameKind.free && X.env.scope.kind == .function && X.env.kindOf n == some .cell) = true
                · rw [if_pos hc] at h
                  rw [List.lookup_cons] at h ⊢
                  cases q : x == n with
                  | true => rw [q] at h; cases h
                  | false => rw [q] at h; exact ih h
                · rw [if_neg hc] at h
                  rw [List.lookup_cons] at h ⊢
                  cases q : x == n with
                  | true => rw [q] at h; exact h
                  | false => rw [q] at h; exact ih h
            have := key _ z
            rw [q6] at this
            cases this
          · exact .inl z
          · exact .inr z
        · rcases lk with ⟨k, _⟩ | ⟨_, c', e4, z⟩
          · rcases q3 with z | z <;> rw [z] at k <;> cases k
          · rw [q4] at e4
            cases e4
            obtain ⟨o, ho, hd⟩ := z
            exact ⟨o, old c o ho, hd⟩
    · obtain ⟨_, _, v, o, ho, hd⟩ := ltk x c e
      exact ⟨v, o, old c o ho, hd⟩
    · show upd H1 s2.heap.objs.size (.lst []) G.objs.size = none
      rw [upd_ne (Nat.ne_of_gt (by rw [hC]; exact Nat.lt_succ_self _))]; exact nC
    · obtain ⟨q1, q2, _⟩ := ltk x c e
      rw [upd_ne (Nat.ne_of_lt q1)]; exact q2
    · have hp' : p ∈ X.pn ++ pins := by
        have : p ∈ (X.pn ++ pins) ++ [] := hp
        rwa [List.append_nil] at this
      obtain ⟨e, n, ne, nf, d⟩ := I2.pin p hp'
      have hlt := Heap.lt_size e
      refine ⟨old _ _ e, by rw [upd_ne (Nat.ne_of_lt hlt)]; exact n, ?_, fun hz => ?_, d⟩
      · show p.1 ≠ G.objs.size
        exact Nat.ne_of_lt (Nat.lt_trans hlt (by rw [hC]; exact Nat.lt_succ_self _))
      · rcases List.mem_cons.mp (I2.stkSub _ hz) with z | z
        · exact ne z
        · exact nf z
    · exact I2.hok.laid old (Nat.le_refl _) ⟨Nat.zero_le _, [], 0, .nil, hacc⟩
    · show (blockSt ts js σ).length = (ts ++ fs).length
      have frl : ∀ {fs : List Str} {js : List Nat}, Frees X scope cl fs js → fs.length = js.length := by
        intro fs js r
        induction r with
        | nil => rfl
        | cons _ _ _ _ _ _ ih => rw [List.length_cons, List.length_cons, ih]
      unfold blockSt
      rw [List.length_append, List.length_append, List.length_map, List.length_map, frl fr]
  have stat : ∀ {H' : Hp}, (∀ b ∈ fp, H' b = none) → ∀ b ∈ fp, FpOk X' [] H' b := fun {H'} hn b hb => by
    obtain ⟨_, f1, f3, _, f4, f5⟩ := f2 b hb
    refine ⟨hn b hb, okX.exf b hb |>.1, okX.exfs b hb, .inl hb, fun x c e => f4 x c (ag.at x c e), fun p hp => f5 p ?_⟩
    have : p ∈ (X.pn ++ pins) ++ [] := hp
    rwa [List.append_nil] at this
  have fin : ∀ {σ' : St} {H' : Hp} {s' : Shared}, Inv X' [] σ' H' s' → Q (.ref s2.heap.objs.size) H' →
      compPost (model X.prog X.w) X.A X.xe use Qv (.ref s2.heap.objs.size) G.objs.size (.ok .next) s' := by
    intro σ' H' s' I4 q
    obtain ⟨m, hn, _⟩ := I4.loc
    have fC : H' G.objs.size = none := I4.free
    have Io : Inv X pins σ H' s' := by
      refine I2.call' (s' := s') (ch := fp) I4.os ⟨fun b o e n hb hx => ?_, fun b o e n hb hx => ?_, fun b o e n hx => I4.base.free b o e n hx, fun b o e hx => ?_, I4.base.tups, I4.base.frzs, I4.base.tbls⟩ I4.hok I4.bare fun b hb => ?_
      · exact I4.base.keep b o e n hb hx
      · exact I4.base.slot b o e n hb hx
      · exact I4.base.there b o e hx
      · obtain ⟨_, f1, _, f3, f4, f5⟩ := f2 b hb
        exact ⟨f3, f1, f4, f5⟩
    have hCl : s2.heap.objs.size ≤ G.objs.size := by rw [hC]; exact Nat.le_succ _
    exact hfin _ H' s' _ Io q ⟨m, hn⟩ (I2.fpOk hCl fC)
  have loop : ∀ s3 : Shared, s3 = { s2 with heap := h₁, toks := s2.toks + ([] : List (Str × Value)).length } →
      codeAny (model X.prog X.w) X.A (.compLoop (.ListComp elt [⟨tg, iter, ifs, 0⟩] scope pos) 0 (.ref it) (.ref s2.heap.objs.size) (compEnvC scope cl G.objs.size X.env))
        (compPost (model X.prog X.w) X.A X.xe use Qv (.ref s2.heap.objs.size) G.objs.size) s3 := by
    rintro s3 rfl
    refine comp_loop (fun n s' => ∃ i σ' H', Inv X' [] σ' H' s' ∧ tn i s'.heap ∧ (∀ b ∈ fp, H' b = none) ∧ W i n σ' H') ?_ m0 ⟨0, _, _, I3, T.keep _ _ _ st2 fun b _ o e => old b o e, fun b hb => ?_, w0⟩
    · rintro n s3 ⟨i, σ3, H3, I3, st3, fr3, w3⟩
      rcases turn i n σ3 H3 w3 with ⟨stop, qn⟩ | ⟨go, N, hN, step⟩
      · refine thn (T.done X' rfl rfl rfl hcalm i [] s3 σ3 H3 _ I3 (stat fr3) st3 stop) fun r s4 ⟨hr, I4⟩ => ?_
        subst hr
        exact fin I4 qn
      · refine thn (T.item X' rfl rfl rfl hcalm i [] s3 σ3 H3 _ I3 (stat fr3) st3 go) fun r s4 ⟨u, hr, h4⟩ => ?_
        subst hr
        refine thn h4 fun _ s5 ⟨x, H5, I5, r5, y5, st5, fr5⟩ => ?_
        have I5' := I5.pinned (stat fr5) (T.obj _ _ st5)
        refine thn (hg _ _ _ _ _ _ s5 σ3 H5 x u _ I5' r5 (step x H5 y5)) fun _ s6 ⟨σ6, H6, I6, q6⟩ => ?_
        have again : ∀ {σ7 : St} {H7 : Hp} {s7 : Shared}, Inv X' ([] ++ pinsAt fp s5.heap) σ7 H7 s7 → N σ7 H7 → ∃ m, m < n ∧ ∃ i σ' H', Inv X' [] σ' H' s7 ∧ tn i s7.heap ∧ (∀ b ∈ fp, H' b = none) ∧ W i m σ' H' := fun {σ7 H7 s7} I7 n7 => by
          obtain ⟨m', hm, w7⟩ := hN σ7 H7 n7
          refine ⟨m', hm, i + 1, σ7, H7, I7.unpinned, T.keep _ _ _ st5 fun b hb o e => (I7.pin (b, o) (List.mem_append_right _ (List.mem_append_right _ (mem_pinsAt hb e)))).1, fun b hb => ?_, w7⟩
          obtain ⟨o, e, d⟩ := T.obj _ _ st5 b hb
          exact (I7.pin (b, o) (List.mem_append_right _ (List.mem_append_right _ (mem_pinsAt hb e)))).2.1
        have tail : ∀ {H7 : Hp} {s7 : Shared}, Inv X' ([] ++ pinsAt fp s5.heap) σ6 H7 s7 → (te σ6 H7 fun y H4 => ∃ ys, H4 s2.heap.objs.size = some (.lst ys) ∧ ys.length < sizeLine ∧ N σ6 (upd H4 s2.heap.objs.size (.lst (ys ++ [y])))) →
            wpAny (model X.prog X.w) X.A (eval elt (compEnvC scope cl G.objs.size X.env)) (fun x s₅ => wpAny (model X.prog X.w) X.A (call (.builtin "list.append") [.ref s2.heap.objs.size, x])
              (fun _ s₆ => ∃ m, m < n ∧ ∃ i σ' H', Inv X' [] σ' H' s₆ ∧ tn i s₆.heap ∧ (∀ b ∈ fp, H' b = none) ∧ W i m σ' H') (fun _ _ => False) s₅) (fun _ _ => False) s7 := by
          intro H7 s7 I7 q7
          refine thn (he _ _ _ _ _ _ s7 σ6 H7 _ I7 q7) fun uy s8 ⟨y, H8, I8, ry, ys, hy, hl, q8⟩ => ?_
          refine thn (mt_append (X := X') _ s8 σ6 H8 (.ref s2.heap.objs.size) [y] (.ref s2.heap.objs.size) [uy] (fun _ H9 => N σ6 H9) I8 rfl (.cons ry .nil) ⟨_, ys, y, rfl, rfl, hy, hl, q8⟩) fun _ s9 ⟨_, H9, I9, _, q9⟩ => ?_
          exact again I9 q9
        cases ifs with
        | nil =>
          cases tt with
          | none => exact wpAny_tests_nil (tail I6 q6)
          | some t => exact (ht 0 s2 H1 [] []).elim
        | cons c r =>
          cases r with
          | nil =>
            cases tt with
            | none => exact (ht 0 s2 H1 [] []).elim
            | some t =>
              refine wpAny_tests_one (thn (ht G.objs.size s2 H1 fp pins _ s6 σ6 H6 _ I6 q6) fun b s7 ⟨H7, I7, q7⟩ => ?_)
              cases b with
              | true =>
                rw [if_pos rfl] at q7 ⊢
                exact tail I7 q7
              | false =>
                rw [if_neg Bool.false_ne_true] at q7 ⊢
                exact again I7 q7
          | cons _ _ => cases tt <;> exact (ht 0 s2 H1 [] []).elim
    · rw [upd_ne (Nat.ne_of_lt (hfpS b hb))]
      exact (f2 b hb).1
  exact codeAny_compStart_list (loop _ rfl) (T.self _ 0 _ _ _ (T.keep _ _ _ st2 fun b _ o e => old b o e) (loop _ rfl))
theorem Inv.other {X : Cx} {pins : List (Addr × Obj)} {σ : St} {H : Hp} {s : Shared} {C : Addr} {h' : Heap} (I : Inv X pins σ H s) (f : FpOk X pins H C) (hs : Heap.SameBut C s.heap h') : Inv X pins σ H { s with heap := h' } := by
  obtain ⟨f0, f1, _, f3, f4, f5⟩ := f
  refine I.call' (s' := { s with heap := h' }) (ch := [C]) rfl ⟨fun b o e n hb hx => ?_, fun b o e n hb hx => ?_, fun b o e n hx => n, fun b o e hx => ?_, fun _ _ q => q, fun _ _ _ q => q, fun b ps q => ⟨#[], by rw [q]; simp⟩⟩ (fun b u e => ?_) I.bare fun b hb => ?_
  · exact (hs.2 b (fun z => hx (by rw [z]; exact List.mem_singleton.mpr rfl))).trans e
  · exact ⟨o.slots, (hs.2 b (fun z => hx (by rw [z]; exact List.mem_singleton.mpr rfl))).trans e⟩
  · exact ⟨o, (hs.2 b (fun z => hx (by rw [z]; exact List.mem_singleton.mpr rfl))).trans e⟩
  · refine (I.hok b u e).stay (fun c v hc q => (hs.2 c ?_).trans q) (fun _ q => q) fun _ _ q => q
    rcases hc with z | z
    · rw [z]; exact ne_of_none e f0
    · exact ne_of_none z f0
  · rw [List.mem_singleton.mp hb]
    exact ⟨f3, f1, f4, f5⟩
theorem ps_setC {X : Cx} {tg elt iter : Expr} {scope : Scope} {cl : List (Str × Addr)} {pos spos py : Pos} {i : Nat} {y : Str} {wi : TI} {g : TG} {te : TE} {ts fs : List Str} {js : List Nat} (hN : X.N.Nodup) (hiy : X.N[i]? = some y) (hy : Loc X.env.scope y) (hcalm : X.calm = true)
    (hclos : closureFor scope X.env = pure cl) (hk : scope.kind = .function) (nc : noCell scope.names = true) (lo : locOnce scope.names = true) (fh : freeHas cl scope.names = true) (ag : Agrees X cl) (fr : Frees X scope cl fs js)
    (hi : PI X tg iter wi) (hg : ∀ C s₀ H₀ ex pins, PG (cxc X scope cl (ts ++ fs) C s₀ H₀ ex pins) tg g) (he : ∀ C s₀ H₀ ex pins, PE (cxc X scope cl (ts ++ fs) C s₀ H₀ ex pins) elt te)
    (hs : ∀ x, foldedSetIterable iter X.env x = pure x := by intro _; rfl) (hsw : swapsWith (.ListComp elt [⟨tg, iter, [], 0⟩] scope pos) (some (.Name y py)) spos.line X.env = pure true := by rfl)
    (hf : X.fn y = true ∨ X.env.scope.names.lookup y = some .local := by first | exact .inl rfl | exact .inr rfl | assumption) :
    PS X (.Assign [.Name y py] (.ListComp elt [⟨tg, iter, [], 0⟩] scope pos) spos) (tAsg (tCompN wi g te ts js) (gName i)) := by
  intro pins s σ H D I h
  rw [exec_Assign_Name_used _ _ _ _ hsw]
  refine wpAny_bind (wpAny_standAt (wpAny_bind ?_))
  show wpAny _ X.A (do let _ ← comprehension (.ListComp elt [⟨tg, iter, [], 0⟩] scope pos) scope X.env _ (newList []) false (eval iter X.env) (some (assign (.Name y py) X.env))) _ _ s
  refine wpAny_bind (wpAny_mono (comp_gen (tt := none) hcalm hclos hk nc lo fh ag fr hi hg (fun _ _ _ _ _ => trivial) he hs I (show tComp wi g none te ts js σ H (fun x H1 => D.nx (σ.set i (some x)) H1) from h) (some (assign (.Name y py) X.env)) (fun _ s' => SP X pins D .next s') fun Dd H' s' C Io q hm f => ?_) (fun _ s' hq => wpAny_pure (wpAny_pure hq)) fun _ _ e => e)
  show wpAny _ X.A (assign (.Name y py) X.env (.ref Dd)) _ _ s'
  refine wpAny_assign_Name (store_ok2 Io hN hiy hy (v := .ref Dd) rfl (fun s'' I'' ⟨a, sb, ha⟩ => ?_) hf)
  obtain ⟨m, hn⟩ := hm
  obtain ⟨f0, f1, f2, f3, f4, f5⟩ := f
  have naC : a ≠ C := by
    rcases ha with z | z
    · rw [z]; exact fun w => f1 w.symm
    · exact f4 y a z
  refine ⟨m, hn.sameBut sb (Ne.symm naC), fun h' hs' => ?_⟩
  exact ⟨_, H', I''.other ⟨f0, f1, f2, f3, f4, f5⟩ hs', q⟩
end L2
namespace L2
open PySem PySem.Spec PyProof.Rows
end L2
namespace L2
open PySem PySem.Spec PyProof.Rows
theorem typeCall_zip_3 (a b c : Value) : checkTypeCall "zip" ⟨[a, b, c], []⟩ = pure () := by kernel_rfl
theorem newCall_zip_3 (a b c : Value) : checkBuiltinCall "zip.__new__" ⟨[.type "zip", a, b, c], []⟩ = pure () := by kernel_rfl
abbrev IsTrip (h : Heap) (T : Addr) (a b c : Value) : Prop := h.get? T = some { cls := .type "tuple", data := .seq #[a, b, c] }
structure Z3 (z TI TO i1 i2 i3 : Addr) : Prop where
  TIz : TI ≠ z
  TOz : TO ≠ z
  i1z : i1 ≠ z
  i2z : i2 ≠ z
  i3z : i3 ≠ z
  TITO : TI ≠ TO
  TIi1 : TI ≠ i1
  TIi2 : TI ≠ i2
  TIi3 : TI ≠ i3
  TOi1 : TO ≠ i1
  TOi2 : TO ≠ i2
  TOi3 : TO ≠ i3
  i12 : i1 ≠ i2
  i13 : i1 ≠ i3
  i23 : i2 ≠ i3
structure L3 (z TO i1 i2 i3 l : Addr) : Prop where
  z : l ≠ z
  o : l ≠ TO
  i1 : l ≠ i1
  i2 : l ≠ i2
  i3 : l ≠ i3
section
variable {prog : Program} {w : World} {A : Around} {E : Value → Shared → Prop} {s : Shared}
theorem updateSeq_trip {T : Addr} {a b c x : Value} {k : Nat} {Q : Unit → Shared → Prop} (hT : IsTrip s.heap T a b c)
    (h : ∀ h', h'.get? T = some { cls := .type "tuple", data := .seq ((#[a, b, c] : Array Value).setIfInBounds k x) } → Heap.SameBut T s.heap h' → Q () { s with heap := h' }) :
    wpAny (model prog w) A (updateSeq T (·.setIfInBounds k x)) Q E s := by
  refine wpAny_updateSeq hT rfl (h _ ?_ (Heap.SameBut.update ..))
  rw [Heap.get?_update_self _ hT rfl]
  simp [Obj.mapSeq]
variable {b1 b2 b3 : Bool} {z TI TO i1 i2 i3 l1 l2 l3 : Addr} {k1 k2 k3 : Nat} {xs ys zs : Array Value} {x y v a b c : Value}
theorem zip3_item {Q : Value → Shared → Prop} (D : Z3 z TI TO i1 i2 i3) (D1 : L3 z TO i1 i2 i3 l1) (D2 : L3 z TO i1 i2 i3 l2) (D3 : L3 z TO i1 i2 i3 l3)
    (hz : IsZip s.heap z TI TO .none) (hTI : IsTrip s.heap TI (.ref i1) (.ref i2) (.ref i3)) (hTO : IsTrip s.heap TO a b c)
    (h1 : ItH s.heap b1 i1 l1 k1) (h2 : ItH s.heap b2 i2 l2 k2) (h3 : ItH s.heap b3 i3 l3 k3) (hl1 : SqH s.heap b1 l1 xs) (hl2 : SqH s.heap b2 l2 ys) (hl3 : SqH s.heap b3 l3 zs) (hx : xs[k1]? = some x) (hy : ys[k2]? = some y) (hv : zs[k3]? = some v)
    (hQ : ∀ h', IsZip h' z TI TO (rawInt s.heap.objs.size) → IsTrip h' TO x y v → ItH h' b1 i1 l1 (k1 + 1) → ItH h' b2 i2 l2 (k2 + 1) → ItH h' b3 i3 l3 (k3 + 1) → IsTrip h' s.heap.objs.size x y v → h'.objs.size = s.heap.objs.size + 1 →
      (∀ c o, c ≠ z → c ≠ TO → c ≠ i1 → c ≠ i2 → c ≠ i3 → s.heap.get? c = some o → h'.get? c = some o) → Q (.ref s.heap.objs.size) { s with heap := h' }) :
    wpAny (model prog w) A (Builtin.«zip.__next__» ⟨[.ref z], []⟩) (fun fin s' => ∃ v, fin = .done (.ret v) ∧ Q v s') E s := by
  show wpAny _ _ (field (.ref z) 2 >>= _) _ _ _
  refine wpAny_bind (wpAny_field hz rfl (x := .bool false) rfl ?_)
  show wpAny _ _ (field (.ref z) 3 >>= _) _ _ _
  refine wpAny_bind (wpAny_field hz rfl (x := .ref TI) rfl ?_)
  refine wpAny_bind (wpAny_seqItems hTI rfl ?_)
  show wpAny _ _ (Builtin.SmallTypes.ownedTupleIsFree (.ref z) >>= _) _ _ _
  refine wpAny_bind ?_
  unfold Builtin.SmallTypes.ownedTupleIsFree
  refine wpAny_bind (wpAny_field hz rfl (x := .none) rfl (wpAny_pure ?_))
  simp only [if_true]
  refine wpAny_bind (wpAny_rule ?_)
  refine wpAny_bind (wpAny_field hz rfl (x := .ref TO) rfl ?_)
  refine wpAny_bind (wpAny_setField_rec hz (by simp) fun h₁ hz₁ hs₁ => ?_)
  replace hz₁ : IsZip h₁ z TI TO .ellipsis := hz₁
  refine wpAny_bind ?_
  simp only [List.zipIdx_cons, List.zipIdx_nil, List.forIn_cons, List.forIn_nil]
  refine wpAny_bind (wpAny_bind (wpAny_onRaise ?_))
  show wpAny _ _ (Builtin.SmallTypes.nextOf (.ref i1) >>= _) _ _ _
  refine wpAny_bind (nextOf_item (h1.at fun o e => hs₁.extBut _ _ D.i1z e) (hl1.at fun o e => hs₁.extBut _ _ D1.z e) hx fun h₂ h1₂ hs₂ => wpAny_pure ?_)
  have hTO₂ : IsTrip h₂ TO a b c := hs₂.extBut _ _ D.TOi1 (hs₁.extBut _ _ D.TOz hTO)
  refine wpAny_bind (wpAny_seqItems hTO₂ rfl ?_)
  refine wpAny_bind (updateSeq_trip hTO₂ fun h₃ hTO₃ hs₃ => ?_)
  replace hTO₃ : IsTrip h₃ TO x b c := hTO₃
  refine wpAny_bind (wpAny_letGo (wpAny_pure ?_))
  have kk3 : ∀ q o, q ≠ z → q ≠ TO → q ≠ i1 → s.heap.get? q = some o → h₃.get? q = some o := fun q o c1 c2 c3 e => hs₃.extBut _ _ c2 (hs₂.extBut _ _ c3 (hs₁.extBut _ _ c1 e))
  refine wpAny_bind (wpAny_bind (wpAny_onRaise ?_))
  show wpAny _ _ (Builtin.SmallTypes.nextOf (.ref i2) >>= _) _ _ _
  refine wpAny_bind (nextOf_item (h2.at fun o e => kk3 _ o D.i2z D.TOi2.symm D.i12.symm e) (hl2.at fun o e => kk3 _ o D2.z D2.o D2.i1 e) hy fun h₄ h2₄ hs₄ => wpAny_pure ?_)
  have hTO₄ : IsTrip h₄ TO x b c := hs₄.extBut _ _ D.TOi2 hTO₃
  refine wpAny_bind (wpAny_seqItems hTO₄ rfl ?_)
  refine wpAny_bind (updateSeq_trip hTO₄ fun h₅ hTO₅ hs₅ => ?_)
  replace hTO₅ : IsTrip h₅ TO x y c := hTO₅
  refine wpAny_bind (wpAny_letGo (wpAny_pure ?_))
  have k5 : ∀ q o, q ≠ z → q ≠ TO → q ≠ i1 → q ≠ i2 → s.heap.get? q = some o → h₅.get? q = some o := fun q o c1 c2 c3 c4 e => hs₅.extBut _ _ c2 (hs₄.extBut _ _ c4 (kk3 q o c1 c2 c3 e))
  refine wpAny_bind (wpAny_bind (wpAny_onRaise ?_))
  show wpAny _ _ (Builtin.SmallTypes.nextOf (.ref i3) >>= _) _ _ _
  refine wpAny_bind (nextOf_item (h3.at fun o e => k5 _ o D.i3z D.TOi3.symm D.i13.symm D.i23.symm e) (hl3.at fun o e => k5 _ o D3.z D3.o D3.i1 D3.i2 e) hv fun h₆ h3₆ hs₆ => wpAny_pure ?_)
  have hTO₆ : IsTrip h₆ TO x y c := hs₆.extBut _ _ D.TOi3 hTO₅
  refine wpAny_bind (wpAny_seqItems hTO₆ rfl ?_)
  refine wpAny_bind (updateSeq_trip hTO₆ fun h₇ hTO₇ hs₇ => ?_)
  replace hTO₇ : IsTrip h₇ TO x y v := hTO₇
  refine wpAny_bind (wpAny_letGo (wpAny_pure (wpAny_pure ?_)))
  refine wpAny_bind (wpAny_seqItems hTO₇ rfl ?_)
  refine wpAny_bind (wpAny_newTuple ?_)
  have hsz : h₇.objs.size = s.heap.objs.size := by rw [hs₇.1, hs₆.1, hs₅.1, hs₄.1, hs₃.1, hs₂.1, hs₁.1]
  have hz₃ : IsZip h₃ z TI TO .ellipsis := hs₃.extBut _ _ D.TOz.symm (hs₂.extBut _ _ D.i1z.symm hz₁)
  have hz₅ : IsZip h₅ z TI TO .ellipsis := hs₅.extBut _ _ D.TOz.symm (hs₄.extBut _ _ D.i2z.symm hz₃)
  have hz₇ : IsZip h₇ z TI TO .ellipsis := hs₇.extBut _ _ D.TOz.symm (hs₆.extBut _ _ D.i3z.symm hz₅)
  have k7 : ∀ q o, q ≠ z → q ≠ TO → q ≠ i1 → q ≠ i2 → q ≠ i3 → s.heap.get? q = some o → h₇.get? q = some o := fun q o c1 c2 c3 c4 c5 e => hs₇.extBut _ _ c2 (hs₆.extBut _ _ c5 (k5 q o c1 c2 c3 c4 e))
  have h1₇ : ItH h₇ b1 i1 l1 (k1 + 1) := h1₂.at fun o e => hs₇.extBut _ _ D.TOi1.symm (hs₆.extBut _ _ D.i13 (hs₅.extBut _ _ D.TOi1.symm (hs₄.extBut _ _ D.i12 (hs₃.extBut _ _ D.TOi1.symm e))))
  have h2₇ : ItH h₇ b2 i2 l2 (k2 + 1) := h2₄.at fun o e => hs₇.extBut _ _ D.TOi2.symm (hs₆.extBut _ _ D.i23 (hs₅.extBut _ _ D.TOi2.symm e))
  have h3₇ : ItH h₇ b3 i3 l3 (k3 + 1) := h3₆.at fun o e => hs₇.extBut _ _ D.TOi3.symm e
  have hzlt : z < h₇.objs.size := Heap.lt_size hz₇
  show wpAny _ _ (Builtin.SmallTypes.ownedTupleHandOut (.ref z) (.ref h₇.objs.size) >>= _) _ _ _
  refine wpAny_bind ?_
  unfold Builtin.SmallTypes.ownedTupleHandOut
  have hz₈ : IsZip (h₇.push { cls := .type "tuple", data := .seq #[x, y, v] }) z TI TO .ellipsis := Heap.get?_push_of_some _ hz₇
  refine wpAny_bind (wpAny_setField_rec hz₈ (by simp) fun h₉ hz₉ hs₉ => ?_)
  replace hz₉ : IsZip h₉ z TI TO (rawInt h₇.objs.size) := hz₉
  refine wpAny_setField_rec hz₉ (by simp) fun hA hzA hsA => ?_
  replace hzA : IsZip hA z TI TO (rawInt h₇.objs.size) := hzA
  have up : ∀ c o, c ≠ z → h₇.get? c = some o → hA.get? c = some o := fun c o c1 e => hsA.extBut _ _ c1 (hs₉.extBut _ _ c1 (Heap.get?_push_of_some _ e))
  have hTA : IsTrip hA h₇.objs.size x y v := hsA.extBut _ _ (Nat.ne_of_gt hzlt) (hs₉.extBut _ _ (Nat.ne_of_gt hzlt) (Heap.get?_push_size _ rfl))
  have hzA8 : hA.objs.size = h₇.objs.size + 1 := by rw [hsA.1, hs₉.1, Heap.size_push]
  rw [hsz] at hzA hTA hzA8
  refine wpAny_pure ⟨_, rfl, ?_⟩
  show Q (.ref h₇.objs.size) _
  rw [hsz]
  exact hQ hA hzA (up _ _ D.TOz hTO₇) (h1₇.at fun o e => up _ o D.i1z e) (h2₇.at fun o e => up _ o D.i2z e) (h3₇.at fun o e => up _ o D.i3z e) hTA hzA8 fun c o c1 c2 c3 c4 c5 e => up c o c1 (k7 c o c1 c2 c3 c4 c5 e)
theorem zip3_end {Q : Fin → Shared → Prop} (hh : A.handled = none) (D : Z3 z TI TO i1 i2 i3) (D1 : L3 z TO i1 i2 i3 l1) (D2 : L3 z TO i1 i2 i3 l2) (D3 : L3 z TO i1 i2 i3 l3)
    (hz : IsZip s.heap z TI TO .none) (hTI : IsTrip s.heap TI (.ref i1) (.ref i2) (.ref i3)) (hTO : IsTrip s.heap TO a b c)
    (h1 : ItH s.heap b1 i1 l1 k1) (h2 : ItH s.heap b2 i2 l2 k2) (h3 : ItH s.heap b3 i3 l3 k3) (hl1 : SqH s.heap b1 l1 xs) (hl2 : SqH s.heap b2 l2 ys) (hl3 : SqH s.heap b3 l3 zs) (hend : xs[k1]? = none ∨ ys[k2]? = none ∨ zs[k3]? = none)
    (hE : ∀ h' e, (∀ c o, c ≠ z → c ≠ TO → c ≠ i1 → c ≠ i2 → c ≠ i3 → s.heap.get? c = some o → h'.get? c = some o) → (∃ o, h'.get? e = some o ∧ o.cls = .type "StopIteration") → E (.ref e) { s with heap := h' }) :
    wpAny (model prog w) A (Builtin.«zip.__next__» ⟨[.ref z], []⟩) Q E s := by
  show wpAny _ _ (field (.ref z) 2 >>= _) _ _ _
  refine wpAny_bind (wpAny_field hz rfl (x := .bool false) rfl ?_)
  show wpAny _ _ (field (.ref z) 3 >>= _) _ _ _
  refine wpAny_bind (wpAny_field hz rfl (x := .ref TI) rfl ?_)
  refine wpAny_bind (wpAny_seqItems hTI rfl ?_)
  show wpAny _ _ (Builtin.SmallTypes.ownedTupleIsFree (.ref z) >>= _) _ _ _
  refine wpAny_bind ?_
  unfold Builtin.SmallTypes.ownedTupleIsFree
  refine wpAny_bind (wpAny_field hz rfl (x := .none) rfl (wpAny_pure ?_))
  simp only [if_true]
  refine wpAny_bind (wpAny_rule ?_)
  refine wpAny_bind (wpAny_field hz rfl (x := .ref TO) rfl ?_)
  refine wpAny_bind (wpAny_setField_rec hz (by simp) fun h₁ hz₁ hs₁ => ?_)
  replace hz₁ : IsZip h₁ z TI TO .ellipsis := hz₁
  refine wpAny_bind ?_
  simp only [List.zipIdx_cons, List.zipIdx_nil, List.forIn_cons, List.forIn_nil]
  refine wpAny_bind (wpAny_bind (wpAny_onRaise ?_))
  show wpAny _ _ (Builtin.SmallTypes.nextOf (.ref i1) >>= _) _ _ _
  cases hx : xs[k1]? with
  | none =>
    refine wpAny_bind (nextOf_end hh (h1.at fun o e => hs₁.extBut _ _ D.i1z e) (hl1.at fun o e => hs₁.extBut _ _ D1.z e) hx fun h₂ e hs₂ he => ?_)
    obtain ⟨oe, hoe, hce⟩ := he
    have hz₂ : IsZip h₂ z TI TO .ellipsis := hs₂ _ _ D.i1z.symm hz₁
    have hez : e ≠ z := fun x => by subst x; rw [hz₂] at hoe; cases hoe; simp at hce
    refine wpAny_setField_rec hz₂ (by simp) fun h₃ _ hs₃ => hE h₃ e (fun c o c1 _ c3 _ _ x => hs₃.extBut _ _ c1 (hs₂ _ _ c3 (hs₁.extBut _ _ c1 x))) ⟨oe, hs₃.extBut _ _ hez hoe, hce⟩
  | some x =>
    refine wpAny_bind (nextOf_item (h1.at fun o e => hs₁.extBut _ _ D.i1z e) (hl1.at fun o e => hs₁.extBut _ _ D1.z e) hx fun h₂ h1₂ hs₂ => wpAny_pure ?_)
    have hTO₂ : IsTrip h₂ TO a b c := hs₂.extBut _ _ D.TOi1 (hs₁.extBut _ _ D.TOz hTO)
    refine wpAny_bind (wpAny_seqItems hTO₂ rfl ?_)
    refine wpAny_bind (updateSeq_trip hTO₂ fun h₃ hTO₃ hs₃ => ?_)
    replace hTO₃ : IsTrip h₃ TO x b c := hTO₃
    refine wpAny_bind (wpAny_letGo (wpAny_pure ?_))
    have kk3 : ∀ q o, q ≠ z → q ≠ TO → q ≠ i1 → s.heap.get? q = some o → h₃.get? q = some o := fun q o c1 c2 c3 e => hs₃.extBut _ _ c2 (hs₂.extBut _ _ c3 (hs₁.extBut _ _ c1 e))
    have hz₃ : IsZip h₃ z TI TO .ellipsis := hs₃.extBut _ _ D.TOz.symm (hs₂.extBut _ _ D.i1z.symm hz₁)
    refine wpAny_bind (wpAny_bind (wpAny_onRaise ?_))
    show wpAny _ _ (Builtin.SmallTypes.nextOf (.ref i2) >>= _) _ _ _
    cases hy : ys[k2]? with
    | none =>
      refine wpAny_bind (nextOf_end hh (h2.at fun o e => kk3 _ o D.i2z D.TOi2.symm D.i12.symm e) (hl2.at fun o e => kk3 _ o D2.z D2.o D2.i1 e) hy fun h₄ e hs₄ he => ?_)
      obtain ⟨oe, hoe, hce⟩ := he
      have hz₄ : IsZip h₄ z TI TO .ellipsis := hs₄ _ _ D.i2z.symm hz₃
      have hez : e ≠ z := fun x => by subst x; rw [hz₄] at hoe; cases hoe; simp at hce
      refine wpAny_setField_rec hz₄ (by simp) fun h₅ _ hs₅ => hE h₅ e (fun c o c1 c2 c3 c4 _ x => hs₅.extBut _ _ c1 (hs₄ _ _ c4 (kk3 c o c1 c2 c3 x))) ⟨oe, hs₅.extBut _ _ hez hoe, hce⟩
    | some y =>
      have hv : zs[k3]? = none := by
        rcases hend with h | h | h
        · rw [hx] at h; cases h
        · rw [hy] at h; cases h
        · exact h
      refine wpAny_bind (nextOf_item (h2.at fun o e => kk3 _ o D.i2z D.TOi2.symm D.i12.symm e) (hl2.at fun o e => kk3 _ o D2.z D2.o D2.i1 e) hy fun h₄ h2₄ hs₄ => wpAny_pure ?_)
      have hTO₄ : IsTrip h₄ TO x b c := hs₄.extBut _ _ D.TOi2 hTO₃
      refine wpAny_bind (wpAny_seqItems hTO₄ rfl ?_)
      refine wpAny_bind (updateSeq_trip hTO₄ fun h₅ hTO₅ hs₅ => ?_)
      refine wpAny_bind (wpAny_letGo (wpAny_pure ?_))
      have k5 : ∀ q o, q ≠ z → q ≠ TO → q ≠ i1 → q ≠ i2 → s.heap.get? q = some o → h₅.get? q = some o := fun q o c1 c2 c3 c4 e => hs₅.extBut _ _ c2 (hs₄.extBut _ _ c4 (kk3 q o c1 c2 c3 e))
      have hz₅ : IsZip h₅ z TI TO .ellipsis := hs₅.extBut _ _ D.TOz.symm (hs₄.extBut _ _ D.i2z.symm hz₃)
      refine wpAny_bind (wpAny_bind (wpAny_onRaise ?_))
      show wpAny _ _ (Builtin.SmallTypes.nextOf (.ref i3) >>= _) _ _ _
      refine wpAny_bind (nextOf_end hh (h3.at fun o e => k5 _ o D.i3z D.TOi3.symm D.i13.symm D.i23.symm e) (hl3.at fun o e => k5 _ o D3.z D3.o D3.i1 D3.i2 e) hv fun h₆ e hs₆ he => ?_)
      obtain ⟨oe, hoe, hce⟩ := he
      have hz₆ : IsZip h₆ z TI TO .ellipsis := hs₆ _ _ D.i3z.symm hz₅
      have hez : e ≠ z := fun x => by subst x; rw [hz₆] at hoe; cases hoe; simp at hce
      refine wpAny_setField_rec hz₆ (by simp) fun h₇ _ hs₇ => hE h₇ e (fun c o c1 c2 c3 c4 c5 x => hs₇.extBut _ _ c1 (hs₆ _ _ c5 (k5 c o c1 c2 c3 c4 x))) ⟨oe, hs₇.extBut _ _ hez hoe, hce⟩
end
end L2
namespace L2
open PySem PySem.Spec PyProof.Rows
section
variable {prog : Program} {w : World} {A : Around} {E : Value → Shared → Prop} {s : Shared}
variable {b1 b2 b3 : Bool} {z TI TO i1 i2 i3 l1 l2 l3 : Addr} {k1 k2 k3 : Nat} {xs ys zs : Array Value} {x y v a b c : Value}
theorem pyNext_zip3_item {Q : Option Value → Shared → Prop} (D : Z3 z TI TO i1 i2 i3) (D1 : L3 z TO i1 i2 i3 l1) (D2 : L3 z TO i1 i2 i3 l2) (D3 : L3 z TO i1 i2 i3 l3)
    (hz : IsZip s.heap z TI TO .none) (hTI : IsTrip s.heap TI (.ref i1) (.ref i2) (.ref i3)) (hTO : IsTrip s.heap TO a b c)
    (h1 : ItH s.heap b1 i1 l1 k1) (h2 : ItH s.heap b2 i2 l2 k2) (h3 : ItH s.heap b3 i3 l3 k3) (hl1 : SqH s.heap b1 l1 xs) (hl2 : SqH s.heap b2 l2 ys) (hl3 : SqH s.heap b3 l3 zs) (hx : xs[k1]? = some x) (hy : ys[k2]? = some y) (hv : zs[k3]? = some v)
    (hQ : ∀ h', IsZip h' z TI TO (rawInt s.heap.objs.size) → IsTrip h' TO x y v → ItH h' b1 i1 l1 (k1 + 1) → ItH h' b2 i2 l2 (k2 + 1) → ItH h' b3 i3 l3 (k3 + 1) → IsTrip h' s.heap.objs.size x y v → h'.objs.size = s.heap.objs.size + 1 →
      (∀ c o, c ≠ z → c ≠ TO → c ≠ i1 → c ≠ i2 → c ≠ i3 → s.heap.get? c = some o → h'.get? c = some o) → Q (some (.ref s.heap.objs.size)) { s with heap := h' }) :
    wpAny (model prog w) A (pyNext (.ref z)) Q E s := by
  have hT : s.TypeIs (.ref z) "zip" := ⟨_, hz, rfl⟩
  unfold pyNext
  exact wpAny_bind (wpAny_attempt (wpAny_callSpecial?_slot (name := Str.ofString "__next__") hT F.slot_zip_next
    (wpAny_call_entry F.slot_zip_next hT F.entry_zip_next
      (zip3_item D D1 D2 D3 hz hTI hTO h1 h2 h3 hl1 hl2 hl3 hx hy hv fun h' a1 a2 a3 a4 a5 a6 a7 a8 => wpAny_pure (hQ h' a1 a2 a3 a4 a5 a6 a7 a8)) (F.args_zip_next_1 _))))
theorem pyNext_zip3_end {Q : Option Value → Shared → Prop} (hh : A.handled = none) (D : Z3 z TI TO i1 i2 i3) (D1 : L3 z TO i1 i2 i3 l1) (D2 : L3 z TO i1 i2 i3 l2) (D3 : L3 z TO i1 i2 i3 l3)
    (hz : IsZip s.heap z TI TO .none) (hTI : IsTrip s.heap TI (.ref i1) (.ref i2) (.ref i3)) (hTO : IsTrip s.heap TO a b c)
    (h1 : ItH s.heap b1 i1 l1 k1) (h2 : ItH s.heap b2 i2 l2 k2) (h3 : ItH s.heap b3 i3 l3 k3) (hl1 : SqH s.heap b1 l1 xs) (hl2 : SqH s.heap b2 l2 ys) (hl3 : SqH s.heap b3 l3 zs) (hend : xs[k1]? = none ∨ ys[k2]? = none ∨ zs[k3]? = none)
    (hQ : ∀ h', (∀ c o, c ≠ z → c ≠ TO → c ≠ i1 → c ≠ i2 → c ≠ i3 → s.heap.get? c = some o → h'.get? c = some o) → Q none { s with heap := h' }) : wpAny (model prog w) A (pyNext (.ref z)) Q E s := by
  have hT : s.TypeIs (.ref z) "zip" := ⟨_, hz, rfl⟩
  unfold pyNext
  refine wpAny_bind (wpAny_attempt (wpAny_callSpecial?_slot (name := Str.ofString "__next__") hT F.slot_zip_next
    (wpAny_call_entry F.slot_zip_next hT F.entry_zip_next (zip3_end hh D D1 D2 D3 hz hTI hTO h1 h2 h3 hl1 hl2 hl3 hend fun h' e hk he => ?_) (F.args_zip_next_1 _))))
  obtain ⟨o, ho, hc⟩ := he
  refine wpAny_bind (wpAny_isInstance (T := "StopIteration") (b := true) ⟨o, ho, hc⟩ isSubtype_stop ?_)
  exact wpAny_pure (hQ _ hk)
end
abbrev yG3 (h : Heap) (b1 b2 b3 : Bool) (l1 l2 l3 : Addr) : Heap := (zG2 h b1 b2 l1 l2).push (itO b3 l3)
abbrev yG4 (h : Heap) (b1 b2 b3 : Bool) (l1 l2 l3 : Addr) : Heap := (yG3 h b1 b2 b3 l1 l2 l3).push { cls := .type "tuple", data := .seq #[.ref h.objs.size, .ref (zG1 h b1 l1).objs.size, .ref (zG2 h b1 b2 l1 l2).objs.size] }
abbrev yG5 (h : Heap) (b1 b2 b3 : Bool) (l1 l2 l3 : Addr) : Heap := (yG4 h b1 b2 b3 l1 l2 l3).push { cls := .type "tuple", data := .seq #[.none, .none, .none] }
abbrev yG6 (h : Heap) (b1 b2 b3 : Bool) (l1 l2 l3 : Addr) : Heap := (yG5 h b1 b2 b3 l1 l2 l3).push { cls := .type "zip", data := .fields #[.none, .bool false, .bool false, .ref (yG3 h b1 b2 b3 l1 l2 l3).objs.size, .ref (yG4 h b1 b2 b3 l1 l2 l3).objs.size] }
theorem meets_zip3_new (b1 b2 b3 : Bool) (l1 l2 l3 : Addr) (xs ys zs : Array Value) :
    Meets (Builtin.«zip.__new__» ⟨[.type "zip", .ref l1, .ref l2, .ref l3], []⟩) (fun _ R s => SqH s.heap b1 l1 xs ∧ SqH s.heap b2 l2 ys ∧ SqH s.heap b3 l3 zs ∧
      R (.ok (.ret (.ref (yG5 s.heap b1 b2 b3 l1 l2 l3).objs.size))) { s with heap := yG6 s.heap b1 b2 b3 l1 l2 l3 }) :=
  .of_wp fun prog w A R s h => by
    obtain ⟨hp, g, d, tk, os⟩ := s; obtain ⟨hl1, hl2, hl3, h⟩ := h
    have hsub := sub_zip
    have hL1 : SqH (Shared.heap ⟨hp, g, d, tk, os⟩) b1 l1 xs := hl1
    have hL2 : SqH (Shared.heap ⟨hp.push (itO b1 l1), g, d, tk, os⟩) b2 l2 ys := SqH.push hl2 _
    have hL3 : SqH (Shared.heap ⟨(hp.push (itO b1 l1)).push (itO b2 l2), g, d, tk, os⟩) b3 l3 zs := SqH.push (SqH.push hl3 _) _
    wp_walk using pyIter_seqG hL1, pyIter_seqG hL2, pyIter_seqG hL3
    exact ⟨_, rfl, h⟩
section
variable {prog : Program} {w : World} {A : Around} {E : Value → Shared → Prop} {s : Shared}
theorem call_zip3 {b1 b2 b3 : Bool} {l1 l2 l3 : Addr} {xs ys zs : Array Value} {Q : Value → Shared → Prop} (hl1 : SqH s.heap b1 l1 xs) (hl2 : SqH s.heap b2 l2 ys) (hl3 : SqH s.heap b3 l3 zs)
    (h : ∀ h', IsZip h' (s.heap.objs.size + 5) (s.heap.objs.size + 3) (s.heap.objs.size + 4) .none → IsTrip h' (s.heap.objs.size + 3) (.ref s.heap.objs.size) (.ref (s.heap.objs.size + 1)) (.ref (s.heap.objs.size + 2)) →
      IsTrip h' (s.heap.objs.size + 4) .none .none .none → ItH h' b1 s.heap.objs.size l1 0 → ItH h' b2 (s.heap.objs.size + 1) l2 0 → ItH h' b3 (s.heap.objs.size + 2) l3 0 →
      (∀ c o, s.heap.get? c = some o → h'.get? c = some o) → Q (.ref (s.heap.objs.size + 5)) { s with heap := h' }) :
    wpAny (model prog w) A (call (.type "zip") [.ref l1, .ref l2, .ref l3]) Q E s := by
  refine callType_new F.called_zip (by decide) (typeCall_zip_3 _ _ _) (newCall_zip_3 _ _ _) (fun obj => F.initArgs_range_3 obj _ _ _) F.entry_zip_new
    (meets_zip3_new b1 b2 b3 l1 l2 l3 xs ys zs) ⟨hl1, hl2, hl3, ?_⟩
  have z1 : (zG1 s.heap b1 l1).objs.size = s.heap.objs.size + 1 := Heap.size_push ..
  have z2 : (zG2 s.heap b1 b2 l1 l2).objs.size = s.heap.objs.size + 2 := by rw [Heap.size_push, z1]
  have z3 : (yG3 s.heap b1 b2 b3 l1 l2 l3).objs.size = s.heap.objs.size + 3 := by rw [Heap.size_push, z2]
  have z4 : (yG4 s.heap b1 b2 b3 l1 l2 l3).objs.size = s.heap.objs.size + 4 := by rw [Heap.size_push, z3]
  have z5 : (yG5 s.heap b1 b2 b3 l1 l2 l3).objs.size = s.heap.objs.size + 5 := by rw [Heap.size_push, z4]
  have g6 : (yG6 s.heap b1 b2 b3 l1 l2 l3).get? (yG5 s.heap b1 b2 b3 l1 l2 l3).objs.size = some _ := Heap.get?_push_size _ rfl
  have g5 : (yG6 s.heap b1 b2 b3 l1 l2 l3).get? (yG4 s.heap b1 b2 b3 l1 l2 l3).objs.size = some _ := Heap.get?_push_of_some _ (Heap.get?_push_size _ rfl)
  have g4 : (yG6 s.heap b1 b2 b3 l1 l2 l3).get? (yG3 s.heap b1 b2 b3 l1 l2 l3).objs.size = some _ := Heap.get?_push_of_some _ (Heap.get?_push_of_some _ (Heap.get?_push_size _ rfl))
  have g3 : (yG6 s.heap b1 b2 b3 l1 l2 l3).get? (zG2 s.heap b1 b2 l1 l2).objs.size = some _ := Heap.get?_push_of_some _ (Heap.get?_push_of_some _ (Heap.get?_push_of_some _ (Heap.get?_push_size _ rfl)))
  have g2 : (yG6 s.heap b1 b2 b3 l1 l2 l3).get? (zG1 s.heap b1 l1).objs.size = some _ := Heap.get?_push_of_some _ (Heap.get?_push_of_some _ (Heap.get?_push_of_some _ (Heap.get?_push_of_some _ (Heap.get?_push_size _ rfl))))
  have g1 : (yG6 s.heap b1 b2 b3 l1 l2 l3).get? s.heap.objs.size = some _ := Heap.get?_push_of_some _ (Heap.get?_push_of_some _ (Heap.get?_push_of_some _ (Heap.get?_push_of_some _ (Heap.get?_push_of_some _ (Heap.get?_push_size _ rfl)))))
  show _ ∧ _
  rw [z3, z4, z5] at g6
  rw [z1, z2, z3] at g4
  rw [z4] at g5
  rw [z2] at g3
  rw [z1] at g2
  rw [z5]
  exact ⟨⟨_, g6, rfl⟩, h _ g6 g4 g5 (ItH.new _ b1 _ _ g1) (ItH.new _ b2 _ _ g2) (ItH.new _ b3 _ _ g3) fun c o x =>
    Heap.get?_push_of_some _ (Heap.get?_push_of_some _ (Heap.get?_push_of_some _ (Heap.get?_push_of_some _ (Heap.get?_push_of_some _ (Heap.get?_push_of_some _ x)))))⟩
end
def Ity (K : PySem.W.Frag) (b1 b2 b3 : Bool) (a1 a2 a3 : Addr) : It :=
  ⟨fun i H => ∃ xs ys zs x y v, SqB K H b1 a1 xs ∧ SqB K H b2 a2 ys ∧ SqB K H b3 a3 zs ∧ xs[i]? = some x ∧ ys[i]? = some y ∧ zs[i]? = some v,
   fun i H r H' => ∃ p x y v, H p = none ∧ r = .ref p ∧ H' = upd H p (.tup [x, y, v]) ∧ (∀ xs, SqB K H b1 a1 xs → xs[i]? = some x) ∧ (∀ ys, SqB K H b2 a2 ys → ys[i]? = some y) ∧ (∀ zs, SqB K H b3 a3 zs → zs[i]? = some v),
   fun i H => ∃ xs ys zs, SqB K H b1 a1 xs ∧ SqB K H b2 a2 ys ∧ SqB K H b3 a3 zs ∧ (xs.length ≤ i ∨ ys.length ≤ i ∨ zs.length ≤ i)⟩
theorem l3_of {X : Cx} {pins : List (Addr × Obj)} {σ : St} {H : Hp} {s : Shared} {b : Bool} {z TI TO i1 i2 i3 a : Addr} {xs : List V} (I : Inv X pins σ H s) (h : SqB X.K H b a xs) (hf : ∀ b ∈ [z, TO, i1, i2, i3, TI], FpOk X pins H b) : L3 z TO i1 i2 i3 a :=
  ⟨row_ne I h (hf z (by simp)), row_ne I h (hf TO (by simp)), row_ne I h (hf i1 (by simp)), row_ne I h (hf i2 (by simp)), row_ne I h (hf i3 (by simp))⟩
theorem turn_zip3 {P : Program} {w : World} {K : PySem.W.Frag} {elts : List Expr} {x1 : Nat} {tp : Pos} (b1 b2 b3 : Bool) (a1 a2 a3 z TI TO i1 i2 i3 : Addr) (D : Z3 z TI TO i1 i2 i3) :
    Turn P w K (.Tuple elts x1 tp) (Ity K b1 b2 b3 a1 a2 a3) [z, TO, i1, i2, i3, TI] z (fun i h => IsZip h z TI TO .none ∧ IsTrip h TI (.ref i1) (.ref i2) (.ref i3) ∧ (∃ a b c, IsTrip h TO a b c) ∧ ItH h b1 i1 a1 i ∧ ItH h b2 i2 a2 i ∧ ItH h b3 i3 a3 i) where
  mem := by simp
  obj := fun i h st b hb => by
    obtain ⟨hz, hTI, ⟨a, c, d, hTO⟩, h1, h2, h3⟩ := st
    simp only [List.mem_cons, List.mem_nil_iff, or_false] at hb
    rcases hb with q | q | q | q | q | q <;> subst q
    · exact ⟨_, hz, fun v z => by cases z⟩
    · exact ⟨_, hTO, fun v z => by cases z⟩
    · obtain ⟨o, vs, e, d⟩ := h1.obj
      exact ⟨o, e, fun v z => by rw [d] at z; cases z⟩
    · obtain ⟨o, vs, e, d⟩ := h2.obj
      exact ⟨o, e, fun v z => by rw [d] at z; cases z⟩
    · obtain ⟨o, vs, e, d⟩ := h3.obj
      exact ⟨o, e, fun v z => by rw [d] at z; cases z⟩
    · exact ⟨_, hTI, fun v z => by cases z⟩
  keep := fun i h h' st k => by
    obtain ⟨hz, hTI, ⟨a, c, d, hTO⟩, h1, h2, h3⟩ := st
    exact ⟨k z (by simp) _ hz, k TI (by simp) _ hTI, ⟨a, c, d, k TO (by simp) _ hTO⟩, h1.at fun o e => k i1 (by simp) o e, h2.at fun o e => k i2 (by simp) o e, h3.at fun o e => k i3 (by simp) o e⟩
  item := by
    intro X hP hw hK hc i pins s σ H E I hf st hg
    subst hP hw hK
    obtain ⟨xs, ys, zs, x, y, v, hq1, hq2, hq3, hx, hy, hv⟩ := hg
    obtain ⟨its1, rv1, p1, hz1⟩ := I.row hq1
    obtain ⟨its2, rv2, p2, hz2⟩ := I.row hq2
    obtain ⟨its3, rv3, p3, hz3'⟩ := I.row hq3
    obtain ⟨u1, hu1, ru1⟩ := rv1.get hx
    obtain ⟨u2, hu2, ru2⟩ := rv2.get hy
    obtain ⟨u3, hu3, ru3⟩ := rv3.get hv
    obtain ⟨hz, hTI, ⟨a, c, d, hTO⟩, h1, h2, h3⟩ := st
    obtain ⟨oi1, vs1, ei1, di1⟩ := h1.obj
    obtain ⟨oi2, vs2, ei2, di2⟩ := h2.obj
    obtain ⟨oi3, vs3, ei3, di3⟩ := h3.obj
    refine pyNext_zip3_item D (l3_of I hq1 hf) (l3_of I hq2 hf) (l3_of I hq3 hf) hz hTI hTO h1 h2 h3 p1 p2 p3 (x := u1) (y := u2) (v := u3) (by simpa using hu1) (by simpa using hu2) (by simpa using hu3) fun h' g1 g2 g3 g4 g4' g5 g6 g7 => ⟨_, rfl, ?_⟩
    refine wpAny_letOwnedTupleGo_zip (s := { s with heap := h' }) g1 fun hN hz3 hs3 => ?_
    have hnew : H s.heap.objs.size = none := I.hok.fresh (Nat.le_refl _)
    have lt : ∀ {c : Addr} {o : Obj}, s.heap.get? c = some o → c ≠ s.heap.objs.size := fun e => Nat.ne_of_lt (Heap.lt_size e)
    have keep3 : ∀ b o, b ∉ [z, TO, i1, i2, i3, TI] → s.heap.get? b = some o → hN.get? b = some o := fun b o hb q => by
      simp only [List.mem_cons, List.mem_nil_iff, or_false, not_or] at hb
      exact (hs3.2 b hb.1).trans (g7 b o hb.1 hb.2.1 hb.2.2.1 hb.2.2.2.1 hb.2.2.2.2.1 q)
    have hT3 : hN.get? s.heap.objs.size = some { cls := .type "tuple", data := .seq #[u1, u2, u3] } := (hs3.2 _ (lt hz).symm).trans g5
    have I3 : Inv X pins σ (upd H s.heap.objs.size (.tup [x, y, v])) { s with heap := hN, toks := s.toks } :=
      I.turnedNew (ch := [z, TO, i1, i2, i3, TI]) keep3 hf (Nat.le_refl _) (fun b hb => by
        simp only [List.mem_cons, List.mem_nil_iff, or_false] at hb
        rcases hb with q | q | q | q | q | q <;> subst q
        · exact ⟨_, hz⟩
        · exact ⟨_, hTO⟩
        · exact ⟨_, ei1⟩
        · exact ⟨_, ei2⟩
        · exact ⟨_, ei3⟩
        · exact ⟨_, hTI⟩)
        ⟨by show 3 ≤ sizeLine; decide, [u1, u2, u3], .cons ru1 (.cons ru2 (.cons ru3 .nil)), ⟨_, hT3, rfl, _, rfl⟩⟩
    refine ⟨.ref s.heap.objs.size, _, I3, rfl, ⟨_, x, y, v, hnew, rfl, rfl, fun zs' hzs => by rw [I.row_inj hzs hq1]; exact hx, fun zs' hzs => by rw [I.row_inj hzs hq2]; exact hy, fun zs' hzs => by rw [I.row_inj hzs hq3]; exact hv⟩,
      ⟨hz3, (hs3.2 TI D.TIz).trans (g7 TI _ D.TIz D.TITO D.TIi1 D.TIi2 D.TIi3 hTI), ⟨_, _, _, (hs3.2 TO D.TOz).trans g2⟩, g3.at fun o e => (hs3.2 i1 D.i1z).trans e, g4.at fun o e => (hs3.2 i2 D.i2z).trans e, g4'.at fun o e => (hs3.2 i3 D.i3z).trans e⟩, fun b hb => ?_⟩
    have nb : b ≠ s.heap.objs.size := by
      simp only [List.mem_cons, List.mem_nil_iff, or_false] at hb
      rcases hb with q | q | q | q | q | q <;> subst q
      · exact lt hz
      · exact lt hTO
      · exact lt ei1
      · exact lt ei2
      · exact lt ei3
      · exact lt hTI
    rw [upd_ne nb]
    exact (hf b hb).1
  done := by
    intro X hP hw hK hc i pins s σ H E I hf st hg
    subst hP hw hK
    obtain ⟨xs, ys, zs, hq1, hq2, hq3, hend⟩ := hg
    obtain ⟨its1, rv1, p1, hz1⟩ := I.row hq1
    obtain ⟨its2, rv2, p2, hz2⟩ := I.row hq2
    obtain ⟨its3, rv3, p3, hz3'⟩ := I.row hq3
    obtain ⟨hz, hTI, ⟨a, c, d, hTO⟩, h1, h2, h3⟩ := st
    have l1 := rv1.length
    have l2 := rv2.length
    have l3 := rv3.length
    refine pyNext_zip3_end (I.ok.hd hc) D (l3_of I hq1 hf) (l3_of I hq2 hf) (l3_of I hq3 hf) hz hTI hTO h1 h2 h3 p1 p2 p3 ?_ fun h' k => ⟨rfl, ?_⟩
    · rcases hend with q | q | q
      · exact .inl (by simp; omega)
      · exact .inr (.inl (by simp; omega))
      · exact .inr (.inr (by simp; omega))
    · exact I.turnedL (t' := s.toks) (ch := [z, TO, i1, i2, i3, TI]) (fun b u hb e => by
        simp only [List.mem_cons, List.mem_nil_iff, or_false, not_or] at hb
        exact k b u hb.1 hb.2.1 hb.2.2.1 hb.2.2.2.1 hb.2.2.2.2.1 e) hf
  self := fun _ _ _ _ _ st h => by
    obtain ⟨hz, _⟩ := st
    exact wpAny_pyIter_zip hz h
theorem z3apart (n : Nat) : Z3 (n + 5) (n + 3) (n + 4) n (n + 1) (n + 2) := by
  refine ⟨?_, ?_, ?_, ?_, ?_, ?_, ?_, ?_, ?_, ?_, ?_, ?_, ?_, ?_, ?_⟩ <;> (show @Ne Nat _ _; omega)
section
variable {X : Cx}
def iZip3 (K : PySem.W.Frag) (tl : TA) : TI := fun σ H R => tl σ H fun vs H1 => ∃ b1 b2 b3 a1 a2 a3, vs = [.ref a1, .ref a2, .ref a3] ∧ (∃ xs, SqB K H1 b1 a1 xs) ∧ (∃ ys, SqB K H1 b2 a2 ys) ∧ (∃ zs, SqB K H1 b3 a3 zs) ∧ R (Ity K b1 b2 b3 a1 a2 a3) H1
theorem pi_zip3 {elts : List Expr} {x1 : Nat} {tp : Pos} {l1 l2 l3 : Expr} {tl : TA} {p pos : Pos} (hg : Gl X "zip") (hm : X.mg "zip" = none) (hl : PA X [l1, l2, l3] tl) (hs : starEach [l1, l2, l3] X.env = [(false, eval l1 X.env), (false, eval l2 X.env), (false, eval l3 X.env)] := by rfl) (hs2 : starEach [l2, l3] X.env = [(false, eval l2 X.env), (false, eval l3 X.env)] := by rfl) :
    PI X (.Tuple elts x1 tp) (.Call (.Name "zip" p) [l1, l2, l3] [] pos) (iZip3 X.K tl) := by
  intro pins s σ H R I h
  refine Call_ (ld_blt I hg hm PyProof.Rows.boot_zip (PyProof.Rows.callWith_type1 (thn (hl pos pins s σ H _ I h) fun us s1 ⟨vs, H1, I1, r1, q1⟩ => ?_) (by rw [hs, hs2]) (by rw [hs2]; rfl)))
  obtain ⟨b1, b2, b3, a1, a2, a3, e, ⟨xs, hq1⟩, ⟨ys, hq2⟩, ⟨zs, hq3⟩, q⟩ := q1
  subst e
  cases r1 with
  | cons r rr =>
    cases rr with
    | cons r' rr =>
      cases rr with
      | cons r'' rr =>
        cases rr
        cases (show _ = Value.ref a1 from r)
        cases (show _ = Value.ref a2 from r')
        cases (show _ = Value.ref a3 from r'')
        obtain ⟨its1, rv1, p1, hz1⟩ := I1.row hq1
        obtain ⟨its2, rv2, p2, hz2⟩ := I1.row hq2
        obtain ⟨its3, rv3, p3, hz3⟩ := I1.row hq3
        refine call_zip3 p1 p2 p3 fun h' g1 g2 g3 g4 g5 g6 g7 => ?_
        have I2 : Inv X pins σ H1 { s1 with heap := h' } := I1.kept (t' := s1.toks) g7
        refine wpAny_pyIter_zip (s := { s1 with heap := h' }) g1 ?_
        refine ⟨s1.heap.objs.size + 5, [s1.heap.objs.size + 5, s1.heap.objs.size + 4, s1.heap.objs.size, s1.heap.objs.size + 1, s1.heap.objs.size + 2, s1.heap.objs.size + 3], _, _, H1, rfl, I2,
          turn_zip3 b1 b2 b3 a1 a2 a3 _ _ _ _ _ _ (z3apart s1.heap.objs.size), ⟨g1, g2, ⟨_, _, _, g3⟩, g4, g5, g6⟩, fun b hb => ?_, q⟩
        have hle : s1.heap.objs.size ≤ b := by
          simp only [List.mem_cons, List.mem_nil_iff, or_false] at hb
          rcases hb with q | q | q | q | q | q
          · rw [q]; exact Nat.le_add_right _ 5
          · rw [q]; exact Nat.le_add_right _ 4
          · rw [q]; exact Nat.le_refl _
          · rw [q]; exact Nat.le_add_right _ 1
          · rw [q]; exact Nat.le_add_right _ 2
          · rw [q]; exact Nat.le_add_right _ 3
        exact I1.fpOk hle (I1.hok.fresh hle)
end
end L2
namespace L2
open PySem PySem.Spec PyProof.Rows
section
variable {M : Model} {A : Around} {E : Value → Shared → Prop} {s : Shared}
theorem entry_new {base : Heap} {env : Env} {outer : List Env} {L e : Addr} {oe : Obj} {vs : Array Value} {head : Value} {hadNext : Bool} {Q : Unit → Shared → Prop}
    (hfr : A.frames = some (env :: outer)) (hl : s.heap.FunFrames base (env :: outer)) (hf : env.frame = some L)
    (he : s.heap.get? e = some oe) (hd : oe.data = .fields vs) (hsz : 1 < vs.size)
    (h : ∀ h' T oT ts, h'.get? e = some (Obj.mapFields (·.setIfInBounds 1 (.ref T)) oe) → s.heap.objs.size ≤ T → T ≠ e → h'.get? T = some oT → oT.data = .fields ts → ts[3]? = some (rawInt L) →
      (∀ b o, b ≠ e → b ∉ frs (env :: outer) → s.heap.get? b = some o → h'.get? b = some o) → (∀ b o, b ≠ e → s.heap.get? b = some o → ∃ sl, h'.get? b = some { o with slots := sl }) → Q () { s with heap := h' }) :
    wpAny M A (do let a ← frameOf env; let pl ← entryPlaceOf L hadNext; let b ← EntryCells.newEntry head a .none (rawInt L) .none pl; setField (.ref e) 1 b) Q E s := by
  have hene : e ∉ (env :: outer).filterMap (·.frame) := fun hm => by
    obtain ⟨_, o, ho, hnf⟩ := hl.mem hm
    rw [he] at ho; injection ho with ho; subst ho; exact hnf vs hd
  refine wpAny_bind (wpAny_frameOf_fun hfr hl hf fun h₁ hs₁ => ?_)
  refine wpAny_bind (wpAny_entryPlaceOf fun pl hpl => ?_)
  unfold EntryCells.newEntry newFields
  refine wpAny_bind (wpAny_newObj_type ?_ (hpl.sizeOk5 _ _ _ _ _))
  have he₁ : h₁.get? e = some oe := (hs₁.2.1 e hene).trans he
  have he₂ := Heap.get?_push_of_some (h := h₁) { cls := .type "traceback", dict := none, data := .fields ([head, .ref L, .none, rawInt L, .none] ++ (if pl.isEmpty then List.replicate 6 Value.none else pl)).toArray } he₁
  have hTe : h₁.objs.size ≠ e := Nat.ne_of_gt (Heap.lt_size he₁)
  have hd₃ := Obj.data_mapFields hd (·.setIfInBounds 1 (Value.ref h₁.objs.size))
  have he₃ := Heap.get?_update_self (Obj.mapFields (·.setIfInBounds 1 (Value.ref h₁.objs.size))) he₂ (Obj.isFreed_of_fields hd₃)
  have hT₃ := (Heap.get?_update_other (h₁.push { cls := .type "traceback", dict := none, data := .fields ([head, .ref L, .none, rawInt L, .none] ++ (if pl.isEmpty then List.replicate 6 Value.none else pl)).toArray })
    (Obj.mapFields (·.setIfInBounds 1 (Value.ref h₁.objs.size))) (Ne.symm hTe)).trans (Heap.get?_push_size h₁ rfl)
  have keep : ∀ b o, b ≠ e → h₁.get? b = some o →
      ((h₁.push { cls := .type "traceback", dict := none, data := .fields ([head, .ref L, .none, rawInt L, .none] ++ (if pl.isEmpty then List.replicate 6 Value.none else pl)).toArray }).update e (Obj.mapFields (·.setIfInBounds 1 (Value.ref h₁.objs.size)))).get? b = some o := fun b o hbe hb => by
    rw [Heap.get?_update_other _ _ (Ne.symm hbe)]
    exact Heap.get?_push_of_some _ hb
  refine wpAny_setField he₂ hd hsz (h _ h₁.objs.size _ _ he₃ ?_ hTe hT₃ rfl (by first | (simp; done) | (rcases hpl with rfl | ⟨_, _, _, _, _, _, _, rfl⟩ <;> simp)) ?_ ?_)
  · exact Nat.le_of_eq hs₁.1.symm
  · intro b o hbe hbf hb
    exact keep b o hbe ((hs₁.2.1 b hbf).trans hb)
  · intro b o hbe hb
    obtain ⟨sl, hs⟩ := hs₁.2.2 b o hb
    exact ⟨sl, keep b _ hbe hs⟩
def Lies (h : Heap) (e : Addr) (vs : Array Value) (to : Option Addr) : Prop := match to with
  | none => vs[1]? = some .none
  | some T => vs[1]? = some (.ref T) ∧ T ≠ e ∧ ∃ oT ts, h.get? T = some oT ∧ oT.data = .fields ts ∧ ts[3]? = some .none
theorem note_only {base : Heap} {env : Env} {outer : List Env} {L e : Addr} {oe : Obj} {vs : Array Value} {to : Option Addr} {Q : Unit → Shared → Prop}
    (hfr : A.frames = some (env :: outer)) (hl : s.heap.FunFrames base (env :: outer)) (hf : env.frame = some L)
    (he : s.heap.get? e = some oe) (hd : oe.data = .fields vs) (hto : Lies s.heap e vs to)
    (h : ∀ h' T oT ts, h'.get? e = some (Obj.mapFields (·.setIfInBounds 1 (.ref T)) oe) → s.heap.objs.size ≤ T → T ≠ e → h'.get? T = some oT → oT.data = .fields ts → ts[3]? = some (rawInt L) →
      (∀ b o, b ≠ e → (∀ T, to = some T → b ≠ T) → b ∉ frs (env :: outer) → s.heap.get? b = some o → h'.get? b = some o) →
      (∀ b o, b ≠ e → (∀ T, to = some T → b ≠ T) → s.heap.get? b = some o → ∃ sl, h'.get? b = some { o with slots := sl }) → (∀ b o, s.heap.get? b = some o → ∃ o', h'.get? b = some o') → Q () { s with heap := h' }) :
    wpAny M A (noteFrame (.ref e) env) Q E s := by
  unfold noteFrame
  simp only [hf]
  cases to with
  | none =>
    have h1 : vs[1]? = some .none := hto
    refine wpAny_bind (wpAny_field he hd h1 ?_)
    rw [if_neg (by decide)]
    refine entry_new hfr hl hf he hd (Array.getElem?_eq_some_iff.mp h1).1 fun h' T oT ts a1 a2 a3 a4 a5 a6 a7 a8 => ?_
    refine h h' T oT ts a1 a2 a3 a4 a5 a6 (fun b o n1 _ n2 q => a7 b o n1 n2 q) (fun b o n1 _ q => a8 b o n1 q) fun b o q => ?_
    by_cases z : b = e
    · subst z; exact ⟨_, a1⟩
    · obtain ⟨sl, r⟩ := a8 b o z q; exact ⟨_, r⟩
  | some T0 =>
    obtain ⟨h1, hTe, oT, ts, hT, hdT, h3⟩ := hto
    refine wpAny_bind (wpAny_field he hd h1 ?_)
    rw [if_pos (show (Value.ref T0 != Value.none) = true from by simp)]
    refine wpAny_bind (wpAny_field hT hdT h3 ?_)
    rw [if_neg (show ¬ ((Value.none == rawInt L) = true) from by simp [rawInt])]
    refine wpAny_bind (wpAny_setField hT hdT (Array.getElem?_eq_some_iff.mp h3).1 ?_)
    have other : ∀ b, b ≠ T0 → (s.heap.update T0 (Obj.mapFields (·.setIfInBounds 3 Value.none))).get? b = s.heap.get? b := fun b hb => Heap.get?_update_other _ _ (Ne.symm hb)
    have noRecord : ∀ b o, s.heap.get? b = some o → (∀ vs, o.data ≠ .fields vs) → b ≠ T0 := fun b o hb hnf q => by
      rw [q, hT] at hb; injection hb with hb; subst hb; exact hnf ts hdT
    have hT2 := Heap.get?_update_self (Obj.mapFields (·.setIfInBounds 3 Value.none)) hT (Obj.isFreed_of_fields (Obj.data_mapFields hdT _))
    refine entry_new hfr (hl.of_keeps fun b o hb hnf => ⟨o, (other b (noRecord b o hb hnf)).trans hb, rfl⟩) hf ((other e (Ne.symm hTe)).trans he) hd (Array.getElem?_eq_some_iff.mp h1).1 fun h' T oT' ts' a1 a2 a3 a4 a5 a6 a7 a8 => ?_
    refine h h' T oT' ts' a1 (by simpa [Heap.update] using a2) a3 a4 a5 a6 (fun b o n1 n2 n3 q => a7 b o n1 n3 ((other b (n2 T0 rfl)).trans q)) (fun b o n1 n2 q => a8 b o n1 ((other b (n2 T0 rfl)).trans q)) fun b o q => ?_
    by_cases z : b = e
    · subst z; exact ⟨_, a1⟩
    · by_cases z2 : b = T0
      · subst z2
        obtain ⟨sl, r⟩ := a8 b _ z hT2; exact ⟨_, r⟩
      · obtain ⟨sl, r⟩ := a8 b o z ((other b z2).trans q); exact ⟨_, r⟩
end
end L2
namespace L2
open PySem PySem.Spec PyProof.Rows
def excN (C : Addr) (dd : Option Addr) (e : Addr) : HO := .ext fun h => ∃ t, h.get? e = some ⟨.ref C, dd, .fields #[.ref t, .none, .none, .none, .bool false, .none], #[]⟩
def excF (C : Addr) (dd : Option Addr) (e T : Addr) : HO := .ext fun h => ∃ vs, h.get? e = some ⟨.ref C, dd, .fields vs, #[]⟩ ∧ vs[1]? = some (.ref T)
def tbF (fl : Value) (T : Addr) : HO := .ext fun h => ∃ oT ts, h.get? T = some oT ∧ oT.data = .fields ts ∧ ts[3]? = some fl
def fly (Hc : Hp) (e T C : Addr) (dd : Option Addr) (fl : Value) : Hp := upd (upd Hc T (tbF fl T)) e (excF C dd e T)
theorem fly_e {Hc : Hp} {e T C : Addr} {dd : Option Addr} {fl : Value} : fly Hc e T C dd fl e = some (excF C dd e T) := upd_same
theorem fly_T {Hc : Hp} {e T C : Addr} {dd : Option Addr} {fl : Value} (n : T ≠ e) : fly Hc e T C dd fl T = some (tbF fl T) := by unfold fly; rw [upd_ne n, upd_same]
theorem fly_ne {Hc : Hp} {e T C b : Addr} {dd : Option Addr} {fl : Value} (n : b ≠ e) (n2 : b ≠ T) : fly Hc e T C dd fl b = Hc b := by unfold fly; rw [upd_ne n, upd_ne n2]
section
variable {X : Cx} {pins : List (Addr × Obj)} {σ : St} {H : Hp} {s : Shared}
theorem Inv.note {Hc : Hp} {e C : Addr} {dd : Option Addr} {to : Option Addr} {vs : Array Value} {φ : Heap → Prop} {Q : Unit → Shared → Prop} {E : Value → Shared → Prop} (I : Inv X pins σ H s) (hst : X.stack = X.env :: X.outer) (hf : X.env.frame = some X.env.locals)
    (he : H e = some (.ext φ)) (hx : s.heap.get? e = some ⟨.ref C, dd, .fields vs, #[]⟩) (lies : Lies s.heap e vs to) (hT : ∀ T, to = some T → (∃ ψ, H T = some (.ext ψ)) ∧ Hc T = none) (hc : ∀ b, b ≠ e → (∀ T, to = some T → b ≠ T) → Hc b = H b)
    (h : ∀ h' T, Hc T = none → T ≠ e → Inv X pins σ (fly Hc e T C dd (rawInt X.env.locals)) { s with heap := h' } → Q () { s with heap := h' }) :
    wpAny (model X.prog X.w) X.A (noteFrame (.ref e) X.env) Q E s := by
  have hl := I.stack
  have hfr := I.ok.frames
  have sf := I.stkFree
  rw [hst] at hl hfr sf
  refine note_only (base := X.base) hfr hl hf hx rfl lies fun h' T oT ts a1 a2 a3 a4 a5 a6 a7 a8 a9 => ?_
  have hTn : H T = none := I.hok.fresh a2
  have nT : ∀ b u, H b = some u → b ≠ T := fun b u q z => by rw [z, hTn] at q; cases q
  have ext_ne : ∀ b u, H b = some u → (∀ ψ, u ≠ .ext ψ) → b ≠ e ∧ ∀ T0, to = some T0 → b ≠ T0 := by
    intro b u q hu
    refine ⟨fun z => ?_, fun T0 z w => ?_⟩
    · rw [z, he] at q; exact hu _ (Option.some.inj q).symm
    · obtain ⟨⟨ψ, q2⟩, _⟩ := hT T0 z
      rw [w, q2] at q; exact hu _ (Option.some.inj q).symm
  have old : ∀ b u, H b = some u → (∀ ψ, u ≠ .ext ψ) → fly Hc e T C dd (rawInt X.env.locals) b = some u := fun b u q hu => by
    obtain ⟨n1, n2⟩ := ext_ne b u q hu
    rw [fly_ne n1 (nT b u q), hc b n1 n2]; exact q
  have hcT : Hc T = none := by
    by_cases z : ∃ T0, to = some T0 ∧ T = T0
    · obtain ⟨T0, z1, z2⟩ := z; rw [z2]; exact (hT T0 z1).2
    · rw [hc T a3 fun T0 z1 z2 => z ⟨T0, z1, z2⟩]; exact hTn
  have un : ∀ b o, s.heap.get? b = some o → H b = none → b ≠ e ∧ (∀ T0, to = some T0 → b ≠ T0) ∧ b ≠ T := by
    intro b o q n
    refine ⟨fun z => ?_, fun T0 z w => ?_, Nat.ne_of_lt (Nat.lt_of_lt_of_le (Heap.lt_size q) a2)⟩
    · rw [z, he] at n; cases n
    · obtain ⟨⟨ψ, q2⟩, _⟩ := hT T0 z
      rw [w, q2] at n; cases n
  refine h h' T hcT a3 ?_
  have U : Un (frs X.stack) [] H (fly Hc e T C dd (rawInt X.env.locals)) s.heap h' := by
    rw [hst]
    refine ⟨fun b o q n nf _ => ?_, fun b o q n _ _ => ?_, fun b o q n _ => ?_, fun b o q _ => a9 b o q, fun b xs q => old b _ q (fun _ z => nomatch z), fun b ob u q => old b _ q (fun _ z => nomatch z), fun b ps q => ⟨#[], ?_⟩⟩
    · obtain ⟨n1, n2, _⟩ := un b o q n; exact a7 b o n1 n2 nf q
    · obtain ⟨n1, n2, _⟩ := un b o q n; exact a8 b o n1 n2 q
    · obtain ⟨n1, n2, n3⟩ := un b o q n
      rw [fly_ne n1 n3, hc b n1 n2]; exact n
    · rw [old b _ q (fun _ z => nomatch z)]; simp
  have ok : HOk X.prog X.w (fly Hc e T C dd (rawInt X.env.locals)) h' := fun b u q => by
    by_cases z : b = e
    · subst z
      rw [fly_e] at q; cases q
      refine ⟨⟨_, a1, ?_⟩, ⟨_, a1⟩, fun h1 h2 ⟨ws, q1, q2⟩ k => ⟨ws, k _ q1, q2⟩⟩
      have hsz : 1 < vs.size := by
        cases to with
        | none => exact (Array.getElem?_eq_some_iff.mp (show vs[1]? = some .none from lies)).1
        | some T0 => exact (Array.getElem?_eq_some_iff.mp lies.1).1
      simp [hsz]
    · by_cases z2 : b = T
      · subst z2
        rw [fly_T a3] at q; cases q
        exact ⟨⟨oT, ts, a4, a5, a6⟩, ⟨_, a4⟩, fun h1 h2 ⟨o1, t1, q1, q2, q3⟩ k => ⟨o1, t1, k _ q1, q2, q3⟩⟩
      · rw [fly_ne z z2] at q
        have z3 : ∀ T0, to = some T0 → b ≠ T0 := fun T0 w w2 => by rw [w2, (hT T0 w).2] at q; cases q
        rw [hc b z z3] at q
        have nf : ∀ c u', H c = some u' → c ∉ frs (X.env :: X.outer) := fun c u' q' hm => by have := sf c hm; rw [q'] at this; cases this
        refine (I.hok b u q).stay (fun c v hc' q' => ?_) (fun c q' => old c _ q' (fun _ z => nomatch z)) fun c xs q' => old c _ q' (fun _ z => nomatch z)
        rcases hc' with rfl | hc'
        · exact a7 c v z z3 (nf c u q) q'
        · obtain ⟨n1, n2⟩ := ext_ne c _ hc' (fun _ z => nomatch z)
          exact a7 c v n1 n2 (nf c _ hc') q'
  exact I.call (ch := []) U ok I.bare (fun b z => absurd z (by simp))
theorem Inv.excf {Hc : Hp} {e T C : Addr} {dd : Option Addr} {fl : Value} (I : Inv X pins σ (fly Hc e T C dd fl) s) (n : T ≠ e) : ∃ vs oT ts, s.heap.get? e = some ⟨.ref C, dd, .fields vs, #[]⟩ ∧ vs[1]? = some (.ref T) ∧ s.heap.get? T = some oT ∧ oT.data = .fields ts ∧ ts[3]? = some fl := by
  obtain ⟨vs, h1, h2⟩ := (I.hok e _ fly_e).1
  obtain ⟨oT, ts, q⟩ := (I.hok T _ (fly_T n)).1
  exact ⟨vs, oT, ts, h1, h2, q⟩
theorem Inv.note2 {Hc : Hp} {e T C : Addr} {dd : Option Addr} {fl : Value} {Q : Unit → Shared → Prop} {E : Value → Shared → Prop} (I : Inv X pins σ (fly Hc e T C dd fl) s) (hfl : fl = .none ∨ fl = rawInt X.env.locals) (n : T ≠ e) (hcT : Hc T = none) (hst : X.stack = X.env :: X.outer) (hf : X.env.frame = some X.env.locals)
    (h : ∀ h' T, Hc T = none → T ≠ e → Inv X pins σ (fly Hc e T C dd (rawInt X.env.locals)) { s with heap := h' } → Q () { s with heap := h' }) :
    wpAny (model X.prog X.w) X.A (noteFrame (.ref e) X.env) Q E s := by
  obtain ⟨vs, oT, ts, hx, h1, hT, hd, h3⟩ := I.excf n
  rcases hfl with rfl | rfl
  · refine I.note (Hc := Hc) (to := some T) hst hf fly_e hx ⟨h1, n, oT, ts, hT, hd, h3⟩ (fun T0 z => ?_) (fun b n1 n2 => (fly_ne n1 (n2 T rfl)).symm) h
    cases z
    exact ⟨⟨_, fly_T n⟩, hcT⟩
  · unfold noteFrame
    simp only [hf]
    refine wpAny_bind (wpAny_field hx rfl h1 ?_)
    rw [if_pos (show (Value.ref T != Value.none) = true from by simp)]
    refine wpAny_bind (wpAny_field hT hd h3 ?_)
    rw [if_pos (show (rawInt X.env.locals == rawInt X.env.locals) = true from by simp)]
    exact wpAny_pure (h s.heap T hcT n I)
theorem Inv.note1 {e C : Addr} {dd : Option Addr} {Q : Unit → Shared → Prop} {E : Value → Shared → Prop} (I : Inv X pins σ H s) (he : H e = some (excN C dd e)) (hst : X.stack = X.env :: X.outer) (hf : X.env.frame = some X.env.locals)
    (h : ∀ h' T, upd H e (excO C dd e) T = none → T ≠ e → Inv X pins σ (fly (upd H e (excO C dd e)) e T C dd (rawInt X.env.locals)) { s with heap := h' } → Q () { s with heap := h' }) :
    wpAny (model X.prog X.w) X.A (noteFrame (.ref e) X.env) Q E s := by
  obtain ⟨t, hx⟩ := (I.hok e _ he).1
  exact I.note (Hc := upd H e (excO C dd e)) (to := none) hst hf he hx rfl (fun _ z => by cases z) (fun b n1 _ => upd_ne n1) h
theorem Inv.flight {Hc : Hp} {e T C : Addr} {dd : Option Addr} {fl : Value} {fr : Option Addr} {Q : Unit → Shared → Prop} {E : Value → Shared → Prop} (I : Inv X pins σ (fly Hc e T C dd fl) s) (n : T ≠ e)
    (h : ∀ h', Inv X pins σ (fly Hc e T C dd (fr.elim .none fun f => rawInt f)) { s with heap := h' } → Q () { s with heap := h' }) :
    wpAny (model X.prog X.w) X.A (setFlight (.ref e) fr) Q E s := by
  obtain ⟨vs, oT, ts, hx, h1, hT, hd, h3⟩ := I.excf n
  unfold setFlight
  refine wpAny_bind (wpAny_field hx rfl h1 ?_)
  rw [if_pos (show (Value.ref T != Value.none) = true from by simp)]
  have hsz : 3 < ts.size := (Array.getElem?_eq_some_iff.mp h3).1
  refine wpAny_setField hT hd hsz (h _ ?_)
  have other : ∀ b, b ≠ T → (s.heap.update T (Obj.mapFields (·.setIfInBounds 3 (fr.elim Value.none fun f => rawInt f)))).get? b = s.heap.get? b := fun b hb => Heap.get?_update_other _ _ (Ne.symm hb)
  have hT2 := Heap.get?_update_self (Obj.mapFields (·.setIfInBounds 3 (fr.elim Value.none fun f => rawInt f))) hT (Obj.isFreed_of_fields (Obj.data_mapFields hd _))
  have nT : ∀ b, fly Hc e T C dd fl b = none → b ≠ T := fun b q z => by rw [z, fly_T n] at q; cases q
  have same : ∀ b, b ≠ T → fly Hc e T C dd (fr.elim .none fun f => rawInt f) b = fly Hc e T C dd fl b := fun b z => by
    by_cases w : b = e
    · subst w; rw [fly_e, fly_e]
    · rw [fly_ne w z, fly_ne w z]
  have ne : ∀ b u, fly Hc e T C dd fl b = some u → (∀ ψ, u ≠ .ext ψ) → b ≠ T := fun b u q hu z => by rw [z, fly_T n] at q; exact hu _ (Option.some.inj q).symm
  refine I.un (t' := s.toks) ⟨fun b o q z _ _ => (other b (nT b z)).trans q, fun b o q z _ _ => ⟨o.slots, (other b (nT b z)).trans q⟩, fun b o q z _ => by rw [same b (nT b z)]; exact z, fun b o q _ => ?_, fun b xs q => ?_, fun b ob u q => ?_, fun b ps q => ⟨#[], ?_⟩⟩ fun b u q => ?_
  · by_cases z : b = T
    · subst z; exact ⟨_, hT2⟩
    · exact ⟨o, (other b z).trans q⟩
  · rw [same b (ne b _ q fun _ z => nomatch z)]; exact q
  · rw [same b (ne b _ q fun _ z => nomatch z)]; exact q
  · rw [same b (ne b _ q fun _ z => nomatch z), q]; simp
  · by_cases z : b = T
    · subst z
      rw [fly_T n] at q; cases q
      refine ⟨⟨_, _, hT2, Obj.data_mapFields hd _, ?_⟩, ⟨_, hT2⟩, fun h1 h2 ⟨o1, t1, q1, q2, q3⟩ k => ⟨o1, t1, k _ q1, q2, q3⟩⟩
      simp [hsz]
    · rw [same b z] at q
      refine (I.hok b u q).stay (fun c v hc q' => (other c ?_).trans q') (fun c q' => ?_) fun c xs q' => ?_
      · rcases hc with rfl | hc
        · exact z
        · exact ne c _ hc fun _ z => nomatch z
      · rw [same c (ne c _ q' fun _ z => nomatch z)]; exact q'
      · rw [same c (ne c _ q' fun _ z => nomatch z)]; exact q'
end
def CXV (P : Program) (w : World) : CXT := fun outer H s E e s' => ∃ (ea T C : Addr) (dd : Option Addr) (Hc : Hp), e = .ref ea ∧ s'.os = s.os ∧ AllBare s'.gens ∧ Un (frs outer) [] H (fly Hc ea T C dd .none) s.heap s'.heap ∧ HOk P w (fly Hc ea T C dd .none) s'.heap ∧
  Hc ea = some (excO C dd ea) ∧ Hc T = none ∧ T ≠ ea ∧ E (.ref ea) none Hc
def Zx (X : Cx) (E : St → XK) (e : Value) (s : Shared) : Prop := ∃ (ea C : Addr) (dd : Option Addr) (pins : List (Addr × Obj)) (σ : St), e = .ref ea ∧
  ((∃ H, Inv X pins σ H s ∧ H ea = some (excN C dd ea) ∧ E σ (.ref ea) none (upd H ea (excO C dd ea))) ∨
   (∃ Hc T fl, Inv X pins σ (fly Hc ea T C dd fl) s ∧ (fl = .none ∨ fl = rawInt X.env.locals) ∧ Hc ea = some (excO C dd ea) ∧ Hc T = none ∧ T ≠ ea ∧ E σ (.ref ea) none Hc))
theorem Zx.note {X : Cx} {E : St → XK} {e : Value} {s : Shared} {Q : Unit → Shared → Prop} {F : Value → Shared → Prop} (z : Zx X E e s) (hst : X.stack = X.env :: X.outer) (hf : X.env.frame = some X.env.locals)
    (h : ∀ s' ea C dd pins σ Hc T, e = .ref ea → Inv X pins σ (fly Hc ea T C dd (rawInt X.env.locals)) s' → Hc ea = some (excO C dd ea) → Hc T = none → T ≠ ea → E σ (.ref ea) none Hc → Q () s') :
    wpAny (model X.prog X.w) X.A (noteFrame e X.env) Q F s := by
  obtain ⟨ea, C, dd, pins, σ, rfl, ⟨H, I, h1, h2⟩ | ⟨Hc, T, fl, I, h1, h2, h3, h4, h5⟩⟩ := z
  · exact I.note1 h1 hst hf fun h' T q1 q2 I2 => h _ ea C dd pins σ _ T rfl I2 upd_same q1 q2 h2
  · exact I.note2 h1 h4 h3 hst hf fun h' T q1 q2 I2 => h _ ea C dd pins σ _ T rfl I2 h2 q1 q2 h5
theorem Zx.leaves {X : Cx} {E : XK} {e : Value} {s : Shared} {F : Value → Shared → Prop} (z : Zx X (fun _ => E) e s) (hst : X.stack = X.env :: X.outer) (hf : X.env.frame = some X.env.locals) (hex : X.ex = []) :
    wpAny (model X.prog X.w) X.A (leaving X.env e) (fun _ s' => CXV X.prog X.w X.outer X.H₀ X.s₀ E e s') F s := by
  unfold leaving
  refine wpAny_bind (z.note hst hf fun s' ea C dd pins σ Hc T he I h1 h2 h3 h4 => ?_)
  subst he
  refine I.flight h3 fun h' I2 => ⟨ea, T, C, dd, Hc, rfl, I2.os, I2.bare, ?_, I2.hok, h1, h2, h3, h4⟩
  have := I2.base
  rw [hex] at this
  exact this
theorem Zx.own {X : Cx} {E : St → XK} (hst : X.stack = X.env :: X.outer) (hf : X.env.frame = some X.env.locals) : PassesOwn (model X.prog X.w) X.A X.env (Zx X E) := by
  intro e s z
  refine z.note hst hf fun s' ea C dd pins σ Hc T he I h1 h2 h3 h4 => ?_
  subst he
  obtain ⟨vs, oT, ts, hx, q1, _⟩ := I.excf h3
  show wpAny _ _ _ _ _ _
  refine wpAny_bind (wpAny_field hx rfl q1 ?_)
  rw [if_neg (show ¬ ((Value.ref T == Value.none) = true) from by simp)]
  rw [hf]
  refine I.flight h3 fun h' I2 => ⟨ea, C, dd, pins, σ, rfl, .inr ⟨Hc, T, _, I2, .inr rfl, h1, h2, h3, h4⟩⟩
structure Outs (X : Cx) (E : St → XK) : Prop where
  pass : ∀ (pins : List (Addr × Obj)) (σ : St) (H : Hp) (s : Shared) (e : Value) (s' : Shared), Inv X pins σ H s → CXV X.prog X.w X.stack H s (E σ) e s' → X.xe e s'
  new : ∀ (pins : List (Addr × Obj)) (σ : St) (H : Hp) (s : Shared) (e C : Addr) (dd : Option Addr), Inv X pins σ H s → H e = some (excN C dd e) → E σ (.ref e) none (upd H e (excO C dd e)) → X.xe (.ref e) s
  own : PassesOwn (model X.prog X.w) X.A X.env X.xe
abbrev Cx.out (X : Cx) (E : St → XK) : Cx := X.wish (Zx X E)
theorem outsZ {X : Cx} {E : St → XK} (hst : X.stack = X.env :: X.outer) (hf : X.env.frame = some X.env.locals) : Outs (X.out E) E where
  pass := by
    intro pins σ H s e s' I h
    obtain ⟨ea, T, C, dd, Hc, rfl, os, bare, un, hok, h1, h2, h3, hE⟩ := h
    have I' := I.unwish.call' (ch := []) os un hok bare (fun b z => absurd z (by simp))
    exact ⟨ea, C, dd, pins, σ, rfl, .inr ⟨Hc, T, .none, I', .inl rfl, h1, h2, h3, hE⟩⟩
  new := fun pins σ H s e C dd I he hE => ⟨e, C, dd, pins, σ, rfl, .inl ⟨H, I.unwish, he, hE⟩⟩
  own := Zx.own hst hf
theorem fn_ofV {P : Program} {w : World} {K : PySem.W.Frag} {mg : Str → Option Value} {base : Heap} {k : Nat} {f : Addr} {name qual : Str} {params : Arguments} {body : List Stmt} {scope : Scope} {dV kV doc pm cdv ct oc : Value} {an od : Option Addr}
    {osl : Array (Option Value)} {N ps : List Str} {sp : Sp} (lk : K.lookup f = some ⟨oc, od, .func (PySem.W.fnOf name qual params body scope dV kV doc pm an cdv ct), osl⟩) (hcd : PySem.W.codeIn K cdv qual = true) (S : FnScope N ps scope)
    (len : ∀ vs H Q E, sp vs H Q E → vs.length = ps.length)
    (hbody : ∀ (A : Around) (outer : List Env) (s : Shared) (H : Hp) (vs : List V) (Q : VK) (E : XK), Room k (A.deeper (envOfC qual scope s.heap.objs.size f cdv)) → sp vs H Q E →
      ∃ t, PSs ((cxOf (CXV P w) P w K mg base N qual scope f cdv A outer s H E).out fun _ => E) body t ∧ t { nx := fun _ H' => Q .non H', rt := Q } (start N vs) H) :
    FnOk P w K mg base (CXV P w) (k + 1) f (PySem.W.fnOf name qual params body scope dV kV doc pm an cdv ct) ps sp := by
  refine fn_of lk hcd S len fun A outer s H vs Q E hr hs => ?_
  obtain ⟨t, h1, h2⟩ := hbody A outer s H vs Q E hr hs
  refine ⟨t, fun pins s1 σ H1 D I q => ?_, h2⟩
  refine wpAny_mono (h1 pins s1 σ H1 D (I.wish _) q) (fun f s' z => z.unwish) fun e s' z => ?_
  exact z.leaves rfl rfl rfl
end L2
namespace L2
open PySem PySem.Spec PyProof.Rows
open PySem.Builtin.ObjectAttr (storeInOwnDict storeTaker? setByDescriptor)
theorem excN_ok {P : Program} {w : World} {H : Hp} {h : Heap} {C e t : Addr} {dd : Option Addr} (he : h.get? e = some ⟨.ref C, dd, .fields #[.ref t, .none, .none, .none, .bool false, .none], #[]⟩) : ObjOk P w H h e (excN C dd e) :=
  ⟨⟨t, he⟩, ⟨_, he⟩, fun _ _ ⟨t, q⟩ k => ⟨t, k _ q⟩⟩
section
variable {X : Cx} {C f : Addr} {fd : FuncData} {ps : List Str} {sp : Sp} {x : Str} {p pos : Pos} {e : Expr} {es : List Expr} {t : TA} {k : Nat}
def tEMkN (C : Addr) (t : TA) : TE := fun σ H Q => t σ H fun vs H1 => vs.length ≤ sizeLine ∧ ∀ a, H1 a = none → Q (.ref a) (upd H1 a (excN C none a))
theorem pe_emkN (hc : PySem.W.excIn X.K C valMro "ValueError.__new__" = true) (kp : PySem.W.keepIn X.K (.ref C) = true) (hg : Gl X x) (hm : X.mg x = some (.ref C))
    (ha : PA X (e :: es) t) (hdb : (x == ("__debug__" : Str)) = false := by decide) (he : starEach (e :: es) X.env = (false, eval e X.env) :: starEach es X.env := by rfl) (hpl : (backTo pos (starEach es X.env)).any (·.1) = false := by rfl) :
    PE X (.Call (.Name x p) (e :: es) [] pos) (tEMkN C t) := by
  intro pins s σ H Q I h
  refine wpAny_Call_Name_kw (ld_glob I hg hm ?_ hdb)
  refine PySem.W.callWith_K (h₀ := X.base) I.ok.mod.kin kp (thn (ha pos pins s σ H _ I h) fun us s1 ⟨vs, H1, I1, r, hl, q⟩ => ⟨I1.kIn, ?_⟩) he hpl
  obtain ⟨bm, N, nm, qn, bs, hdct, sn, sub, ab, col, dd, k0, k1, k2, k3, k5, mN, hC, hN, hni, T⟩ := exc_cls I1.kIn hc
  obtain ⟨hp, g, d, tk, os⟩ := s1
  refine wpAny_call_exc_subT PySem.F.excBase_ValueError T hC hN hni (fun h' a M => ?_) (by show us.length ≤ sizeLine; rw [← r.length]; exact hl)
  obtain ⟨t', e1, _, _⟩ := M.there
  have I2 : Inv X pins σ (upd H1 a (excN C none a)) ⟨h', g, d, tk, os⟩ := I1.laidN (t' := tk) M.keeps M.new (excN_ok e1)
  have hn : H1 a = none := I1.noneOf M.new
  exact ⟨.ref a, _, I2, rfl, q a hn⟩
def tEMkIN (C : Addr) (sp : Sp) (t : TA) : TE := fun σ H Q => t σ H fun vs H1 => vs.length ≤ sizeLine ∧ ∀ a, H1 a = none → sp (.ref a :: vs) (upd H1 a (excN C none a)) (fun v H2 => v = .non ∧ Q (.ref a) H2) E0
theorem pe_emkIN (hc : excInI X.K C "ValueError.__new__" f = true) (hf : PySem.W.isFn X.K (.ref f) = true) (kp : PySem.W.keepIn X.K (.ref C) = true) (F : FnOk X.prog X.w X.K X.mg X.base (CXV X.prog X.w) k f fd ps sp) (hr : Room (k + 1) X.A) (hb : Binds X.K fd ps []) (hg : Gl X x) (hm : X.mg x = some (.ref C))
    (ha : PA X (e :: es) t) (hdb : (x == ("__debug__" : Str)) = false := by decide) (he : starEach (e :: es) X.env = (false, eval e X.env) :: starEach es X.env := by rfl) (hpl : (backTo pos (starEach es X.env)).any (·.1) = false := by rfl) :
    PE X (.Call (.Name x p) (e :: es) [] pos) (tEMkIN C sp t) := by
  intro pins s σ H Q I h
  refine wpAny_Call_Name_kw (ld_glob I hg hm ?_ hdb)
  refine PySem.W.callWith_K (h₀ := X.base) I.ok.mod.kin kp (thn (ha pos pins s σ H _ I h) fun us s1 ⟨vs, H1, I1, r, hl, q⟩ => ⟨I1.kIn, ?_⟩) he hpl
  have X1 := I1.kIn
  obtain ⟨bm, N, nm, qn, bs, hdct, sn, sub, ab, col, dd, k0, k1, k2, k3, k5, mN, hC, hN, hni, T⟩ := exc_clsI X1 hc
  obtain ⟨hp, g, d, tk, os⟩ := s1
  have f1 := tc_lookup
  have f2 := tc_bind (.ref C)
  have hT : (⟨hp, g, d, tk, os⟩ : Shared).TypeIs (.ref C) "type" := ⟨_, hC, rfl⟩
  refine wpAny_call (codeAny_of_tree ?_)
  show wpAny _ _ (callAny (.ref C) _) _ _ _
  repeat (any_goals (first | assumption | with_reducible refine wpAny_loadPart_at hC ?_ | wp_step))
  refine ⟨rfl, ?_⟩
  refine codeAny_call_builtin_at (Code.quiet_builtin _ (by decide +kernel)) entry_typeCall (wpAny_check_type_call_sub hC (type_call_excI PySem.F.excBase_ValueError T hC hN hni
    (fun h' kk self => PySem.W.bind_fn (fun b o z => kk b o (X1 b o z)) self (beq_iff_eq.mp hf)) (fun h' kk ht hx hz => ?_) (by show us.length ≤ sizeLine; rw [← r.length]; exact hl)))
  have I2 : Inv X pins σ (upd H1 (hp.objs.size + 1) (excN C none (hp.objs.size + 1))) ⟨h', g, d, tk, os⟩ := I1.laidN (t' := tk) kk (Heap.get?_none_of_le (Nat.le_succ _)) (excN_ok hx)
  have hq := q (hp.objs.size + 1) (I1.noneOf (Heap.get?_none_of_le (Nat.le_succ _)))
  have r2 : Vals (V.ref (hp.objs.size + 1) :: vs) (Value.ref (hp.objs.size + 1) :: us) := .cons rfl r
  have hlen : (Value.ref (hp.objs.size + 1) :: us ++ []).length = ps.length := by
    rw [List.append_nil, ← r2.length]
    exact F.len _ _ _ _ hq
  refine wpAny_call (codeAny_mono (F.run _ X.stack _ _ ⟨Value.ref (hp.objs.size + 1) :: us, []⟩ (Value.ref (hp.objs.size + 1) :: us) _ _ E0 (hr.make C us []) (I2.env0.make C us []) (by have := hb _ (Value.ref (hp.objs.size + 1) :: us) I2.kIn hlen; rwa [List.append_nil] at this) r2 hq) fun r s' hq' => ?_)
  cases r with
  | error e =>
    obtain ⟨_, _, _, _, _, _, _, _, _, _, _, _, _, z⟩ := hq'
    exact z.elim
  | ok fl =>
    cases fl with
    | ret u =>
      obtain ⟨v, H', I3, rv, ev, q3⟩ := I2.after hq'
      subst ev
      exact ⟨rv, ⟨V.ref (hp.objs.size + 1), H', I3, rfl, q3⟩⟩
    | next => exact False.elim hq'
    | brk => exact False.elim hq'
    | cont => exact False.elim hq'
def sEFldN (K : PySem.W.Frag) (ta tv : TE) (f : Str) : TS := fun D σ H => tv σ H fun y H1 => ta σ H1 fun x H2 => ∃ a C, x = .ref a ∧ H2 a = some (excN C none a) ∧ ECls K C ∧ ((PySem.W.clsIn K C).any fun cd => overVal cd.mro) = true ∧ NoAttr K C f ∧
  ∀ d, H2 d = none → d ≠ a → D.nx σ (upd (upd H2 d (.xd [(f, y)])) a (excN C (some d) a))
theorem ps_efldN {o value : Expr} {ta tv : TE} {n : Str} {pos' : Pos} (ha : PE X o ta) (hv : PE X value tv) (hs : swapsWith value (some (.Attribute o n pos')) pos.line X.env = pure false) : PS X (.Assign [.Attribute o n pos'] value pos) (sEFldN X.K ta tv n) := by
  intro pins s σ H D I h
  refine plainObj_wpAny_Assign_Attribute (thn (hv pins s σ H _ I h) fun u s1 ⟨y, H1, I1, ry, q⟩ => thn (ha pins s1 σ H1 _ I1 q) fun ov s2 ⟨x, H2, I2, rx, a, C, ex, ea, c, po, na, q2⟩ => ?_) hs
  subst ex
  obtain rfl : ov = Value.ref a := rx
  obtain ⟨tt, hx⟩ := (I2.hok a _ ea).1
  refine exc_set0 po c I2.kIn hx na.taker fun h' tk d e1 e2 e3 e4 => ?_
  have hd : H2 d = none := I2.noneOf e2
  have nda : d ≠ a := fun z => by rw [z, ea] at hd; cases hd
  refine ⟨σ, _, ?_, q2 d hd nda⟩
  have up : ∀ b, b ≠ a → b ≠ d → upd (upd H2 d (.xd [(n, y)])) a (excN C (some d) a) b = H2 b := fun b h1 h2 => by rw [upd_ne h1, upd_ne h2]
  have nd : ∀ b u, s2.heap.get? b = some u → b ≠ d := fun b u e z => by rw [z, e2] at e; cases e
  have nH : ∀ b u, H2 b = some u → b ≠ d := fun b u e z => by rw [z, hd] at e; cases e
  have nE : ∀ b u, H2 b = some u → (∀ C dd, u ≠ excN C dd a) → b ≠ a := fun b u e hu z => by
    rw [z, ea] at e
    exact hu C none (Option.some.inj e).symm
  refine I2.un (t' := tk) ⟨fun b u e z _ _ => e4 b u (fun w => by rw [w, ea] at z; cases z) e, fun b u e z _ _ => ⟨u.slots, e4 b u (fun w => by rw [w, ea] at z; cases z) e⟩, fun b u e z _ => ?_, fun b u e _ => ?_, fun b xs e => ?_, fun b ob u e => ?_, fun b ps e => ?_⟩ fun b u e => ?_
  · rw [up b (fun w => by rw [w, ea] at z; cases z) (nd b u e)]; exact z
  · by_cases w : b = a
    · rw [w]; exact ⟨_, e1⟩
    · exact ⟨u, e4 b u w e⟩
  · rw [up b (nE b _ e fun _ _ z => by cases z) (nH b _ e)]; exact e
  · rw [up b (nE b _ e fun _ _ z => by cases z) (nH b _ e)]; exact e
  · exact ⟨#[], by rw [up b (nE b _ e fun _ _ z => by cases z) (nH b _ e), e]; simp⟩
  · by_cases w : b = a
    · subst w
      rw [upd_same] at e
      cases e
      exact excN_ok e1
    · rw [upd_ne w] at e
      by_cases w2 : b = d
      · subst w2
        rw [upd_same] at e
        cases e
        refine ⟨_, e3, fun g => ?_⟩
        show RelO (List.lookup g [(n, y)]) (if g = n then some _ else none)
        rw [List.lookup_cons]
        by_cases z : g = n
        · rw [if_pos z, show (g == n) = true from by simp [z]]; exact ry
        · rw [if_neg z, show (g == n) = false from by simp [z]]; exact True.intro
      · rw [upd_ne w2] at e
        refine (I2.hok b u e).stay (fun c v hc z => e4 c v ?_ z) (fun c z => ?_) fun c ys z => ?_
        · rcases hc with z' | z'
          · rw [z']; exact w
          · exact nE c _ z' fun _ _ z => by cases z
        · rw [up c (nE c _ z fun _ _ z => by cases z) (nH c _ z)]; exact z
        · rw [up c (nE c _ z fun _ _ z => by cases z) (nH c _ z)]; exact z
end
end L2
namespace L2
open PySem PySem.Spec PyProof.Rows
section
variable {M : Model} {A : Around} {E : Value → Shared → Prop} {s : Shared}
theorem ty_of {e : Addr} {o : Obj} {Q : Value → Shared → Prop} (hx : s.heap.get? e = some o) (h : Q o.cls s) : wpAny M A (typeOf (.ref e)) Q E s := by
  unfold typeOf
  exact wpAny_bind (wpAny_loadPart hx (wpAny_pure h))
theorem isty_of {e : Addr} {o : Obj} {vs : Array Value} {Q : Bool → Shared → Prop} (hx : s.heap.get? e = some o) (hd : o.data = .fields vs) (h : Q false s) : wpAny M A (isType (.ref e)) Q E s := by
  unfold isType loadHead
  refine wpAny_bind (wpAny_loadPart hx (wpAny_pure ?_))
  rw [hd]; exact h
end
section
variable {X : Cx} {pins : List (Addr × Obj)} {σ : St} {H : Hp} {s : Shared}
def tRaise (K : PySem.W.Frag) (E : St → XK) (te : TE) : TS := fun D σ H => te σ H fun v H1 => ∃ e C dd, v = .ref e ∧ H1 e = some (excN C dd e) ∧ ECls K C ∧ PySem.W.typeIn K (.ref C) = some (.type "type") ∧ E σ (.ref e) none (upd H1 e (excO C dd e))
theorem ps_raise {exc : Expr} {te : TE} {pos : Pos} {E : St → XK} (O : Outs X E) (hcalm : X.calm = true) (he : PE X exc te) : PS X (.Raise (some exc) none pos) (tRaise X.K E te) := by
  intro pins s σ H D I h
  rw [arm_exec_Raise]
  refine wpAny_bind (wpAny_standAt ?_)
  unfold raiseStmt
  dsimp only [evalOpt, Option.map]
  refine wpAny_bind (wpAny_bind (thn (he pins s σ H _ I h) fun u s1 hq => wpAny_bind (wpAny_standAt (wpAny_pure ?_))))
  obtain ⟨v, H1, I1, rv, e, C, dd, ev, hN, c, ht, hE⟩ := hq
  subst ev
  obtain rfl : u = Value.ref e := rv
  obtain ⟨t, hx⟩ := (I1.hok e _ hN).1
  have X1 := I1.kIn
  refine wpAny_bind (wpAny_pure ?_)
  refine wpAny_bind (wpAny_holding ?_)
  unfold excFromValue isExcClass
  refine wpAny_bind (wpAny_bind (isty_of hx rfl ?_))
  refine wpAny_pure ?_
  refine wpAny_bind ?_
  unfold isInstance
  refine wpAny_bind (ty_of hx ((PySem.W.looks_mroIn X1 c.mb).here ?_))
  refine wpAny_pure ?_
  dsimp only
  refine wpAny_bind (isty_of hx rfl ?_)
  unfold raisedInstance
  refine wpAny_bind (wpAny_bind (ty_of hx (wpAny_bind ((PySem.W.looks_typeIn X1 ht).here ?_))))
  refine wpAny_pure ?_
  unfold setFlight
  refine wpAny_bind (wpAny_bind (wpAny_field hx rfl (x := .none) rfl ?_))
  refine wpAny_pure ?_
  exact wpAny_raiseNew_none (I1.ok.hd hcalm) (O.new pins σ H1 s1 e C dd I1 hN hE)
end
end L2
namespace L2
open PySem PySem.Spec PyProof.Rows
inductive PV where
  | non | bl (b : Bool) | int (i : Int) | str (x : Str)
  | tup (xs : List PV) | lst (xs : List PV)
  /-- the script: a list that is only read -/
  | scr (xs : List PV)
  | obj (C : Addr) (fs : List (Str × PV))
  | exc (C : Addr) (fo : Option (List (Str × PV)))
  /-- the dict without keys, which is only handed on -/
  | emp
  deriving Inhabited
mutual
inductive Rep (H : Hp) : PV → V → Prop where
  | non : Rep H .non .non
  | bl (b : Bool) : Rep H (.bl b) (.bl b)
  | int (i : Int) : Rep H (.int i) (.int i)
  | str (x : Str) : Rep H (.str x) (.str x)
  | tup {a : Addr} {xs : List PV} {vs : List V} : H a = some (.tup vs) → RepL H xs vs → Rep H (.tup xs) (.ref a)
  | lst {a : Addr} {xs : List PV} {vs : List V} : H a = some (.lst vs) → RepL H xs vs → Rep H (.lst xs) (.ref a)
  | scr {a : Addr} {o : Obj} {xs : List PV} {vs : List V} : H a = some (.frz o (.lst vs)) → RepL H xs vs → Rep H (.scr xs) (.ref a)
  | obj {a C dx : Addr} {fs : List (Str × PV)} {vs : List (Str × V)} : H a = some (.ins C dx vs) → RepF H fs vs → Rep H (.obj C fs) (.ref a)
  | exc0 {a C : Addr} : H a = some (excO C none a) → Rep H (.exc C none) (.ref a)
  | exc1 {a C d : Addr} {fs : List (Str × PV)} {vs : List (Str × V)} : H a = some (excO C (some d) a) → H d = some (.xd vs) → RepF H fs vs → Rep H (.exc C (some fs)) (.ref a)
  | emp {a : Addr} : H a = some (.dK []) → Rep H .emp (.ref a)
inductive RepL (H : Hp) : List PV → List V → Prop where
  | nil : RepL H [] []
  | cons {p : PV} {v : V} {ps : List PV} {vs : List V} : Rep H p v → RepL H ps vs → RepL H (p :: ps) (v :: vs)
inductive RepF (H : Hp) : List (Str × PV) → List (Str × V) → Prop where
  | nil : RepF H [] []
  | cons {n : Str} {p : PV} {v : V} {ps : List (Str × PV)} {vs : List (Str × V)} : Rep H p v → RepF H ps vs → RepF H ((n, p) :: ps) ((n, v) :: vs)
end
mutual
theorem Rep.mono {H H' : Hp} (s : Same H H') : ∀ {p : PV} {v : V}, Rep H p v → Rep H' p v
  | _, _, .non => .non
  | _, _, .bl b => .bl b
  | _, _, .int i => .int i
  | _, _, .str x => .str x
  | _, _, .tup h r => .tup (s _ _ h) (r.mono s)
  | _, _, .lst h r => .lst (s _ _ h) (r.mono s)
  | _, _, .scr h r => .scr (s _ _ h) (r.mono s)
  | _, _, .obj h r => .obj (s _ _ h) (r.mono s)
  | _, _, .exc0 h => .exc0 (s _ _ h)
  | _, _, .exc1 h h2 r => .exc1 (s _ _ h) (s _ _ h2) (r.mono s)
  | _, _, .emp h => .emp (s _ _ h)
theorem RepL.mono {H H' : Hp} (s : Same H H') : ∀ {p : List PV} {v : List V}, RepL H p v → RepL H' p v
  | _, _, .nil => .nil
  | _, _, .cons h r => .cons (h.mono s) (r.mono s)
theorem RepF.mono {H H' : Hp} (s : Same H H') : ∀ {p : List (Str × PV)} {v : List (Str × V)}, RepF H p v → RepF H' p v
  | _, _, .nil => .nil
  | _, _, .cons h r => .cons (h.mono s) (r.mono s)
end
theorem RepL.length {H : Hp} : ∀ {p : List PV} {v : List V}, RepL H p v → p.length = v.length
  | _, _, .nil => rfl
  | _, _, .cons _ r => by simp [r.length]
theorem RepL.get {H : Hp} : ∀ {p : List PV} {v : List V} {i : Nat} {x : PV}, RepL H p v → p[i]? = some x → ∃ u, v[i]? = some u ∧ Rep H x u
  | _, _, _, _, .nil, e => by simp at e
  | _, _, 0, _, .cons h _, e => by simp at e; subst e; exact ⟨_, rfl, h⟩
  | _, _, i + 1, x, .cons _ r, e => by
    obtain ⟨u, h1, h2⟩ := RepL.get (i := i) (x := x) r (by simpa using e)
    exact ⟨u, by simpa using h1, h2⟩
theorem RepL.append {H : Hp} : ∀ {p q : List PV} {v u : List V}, RepL H p v → RepL H q u → RepL H (p ++ q) (v ++ u)
  | _, _, _, _, .nil, s => s
  | _, _, _, _, .cons h r, s => .cons h (r.append s)
theorem RepL.take {H : Hp} : ∀ {p : List PV} {v : List V} (n : Nat), RepL H p v → RepL H (p.take n) (v.take n)
  | _, _, 0, _ => .nil
  | _, _, _ + 1, .nil => .nil
  | _, _, n + 1, .cons h r => .cons h (r.take n)
theorem RepL.drop {H : Hp} : ∀ {p : List PV} {v : List V} (n : Nat), RepL H p v → RepL H (p.drop n) (v.drop n)
  | _, _, 0, r => r
  | _, _, _ + 1, .nil => .nil
  | _, _, n + 1, .cons _ r => r.drop n
theorem RepL.set {H : Hp} {x : PV} {u : V} (h : Rep H x u) : ∀ {p : List PV} {v : List V} (i : Nat), RepL H p v → RepL H (p.set i x) (v.set i u)
  | _, _, _, .nil => .nil
  | _, _, 0, .cons _ r => .cons h r
  | _, _, i + 1, .cons q r => .cons q (r.set h i)
theorem RepL.snoc {H : Hp} {p : List PV} {v : List V} {x : PV} {u : V} (r : RepL H p v) (h : Rep H x u) : RepL H (p ++ [x]) (v ++ [u]) := r.append (.cons h .nil)
theorem RepF.look {H : Hp} {f : Str} : ∀ {p : List (Str × PV)} {v : List (Str × V)} {x : PV}, RepF H p v → p.lookup f = some x → ∃ u, v.lookup f = some u ∧ Rep H x u
  | _, _, _, .nil, e => by simp at e
  | (n, _) :: _, _, x, .cons h r, e => by
    rw [List.lookup_cons] at e ⊢
    cases q : f == n with
    | true => rw [q] at e; cases e; exact ⟨_, rfl, h⟩
    | false => rw [q] at e; exact r.look e
theorem RepF.none {H : Hp} {f : Str} : ∀ {p : List (Str × PV)} {v : List (Str × V)}, RepF H p v → p.lookup f = none → v.lookup f = none
  | _, _, .nil, _ => rfl
  | (n, _) :: _, _, .cons h r, e => by
    rw [List.lookup_cons] at e ⊢
    cases q : f == n with
    | true => rw [q] at e; cases e
    | false => rw [q] at e; exact r.none e
theorem RepL.ints {H : Hp} : ∀ {ns : List Int} {v : List V}, RepL H (ns.map PV.int) v → v = ns.map V.int
  | [], _, .nil => rfl
  | _ :: _, _, .cons (.int i) r => by rw [r.ints]; rfl
theorem RepL.bls {H : Hp} : ∀ {ns : List Bool} {v : List V}, RepL H (ns.map PV.bl) v → v = ns.map V.bl
  | [], _, .nil => rfl
  | _ :: _, _, .cons (.bl i) r => by rw [r.bls]; rfl
structure Grow (Hs H Hs' H' : Hp) : Prop where
  st : Same Hs Hs'
  al : Same H H'
  sub : Same Hs' H'
  nw : ∀ a o, Hs a = none → H a = some o → Hs' a = none
theorem Grow.refl {Hs H : Hp} (s : Same Hs H) : Grow Hs H Hs H := ⟨fun _ _ e => e, fun _ _ e => e, s, fun _ _ e _ => e⟩
theorem Grow.trans {Hs H Hs1 H1 Hs2 H2 : Hp} (a : Grow Hs H Hs1 H1) (b : Grow Hs1 H1 Hs2 H2) : Grow Hs H Hs2 H2 :=
  ⟨fun c o e => b.st c o (a.st c o e), fun c o e => b.al c o (a.al c o e), b.sub, fun c o e q => b.nw c o (a.nw c o e q) (a.al c o q)⟩
theorem Grow.new {Hs H : Hp} {p : Addr} {o : HO} (s : Same Hs H) (n : H p = none) : Grow Hs H (upd Hs p o) (upd H p o) := by
  have ne : ∀ c u, H c = some u → c ≠ p := fun c u e z => by rw [z, n] at e; cases e
  refine ⟨fun c u e => ?_, fun c u e => ?_, fun c u e => ?_, fun c u e q => ?_⟩
  · rw [upd_ne (ne c u (s c u e))]; exact e
  · rw [upd_ne (ne c u e)]; exact e
  · by_cases z : c = p
    · subst z; rw [upd_same] at e ⊢; exact e
    · rw [upd_ne z] at e ⊢; exact s c u e
  · rw [upd_ne (ne c u q)]; exact e
inductive SV where
  | sh (p : PV)
  | ow (xs : List PV)
  /-- an object that is being made -/
  | bd (a C : Addr) (fs : List (Str × PV))
abbrev PEnv := List (Option SV)
structure SR (B H₀ Hs H : Hp) (σ : St) (env : PEnv) : Prop where
  gr : Grow B H₀ Hs H
  len : σ.length = env.length
  sh : ∀ (i : Nat) (p : PV), env[i]? = some (some (.sh p)) → ∃ v, σ[i]? = some (some v) ∧ Rep Hs p v
  ow : ∀ (i : Nat) (xs : List PV), env[i]? = some (some (.ow xs)) → ∃ a vs, σ[i]? = some (some (.ref a)) ∧ H a = some (.lst vs) ∧ Hs a = none ∧ H₀ a = none ∧ RepL Hs xs vs
  sep : ∀ (i j : Nat) (xs ys : List PV) (a : Addr), i ≠ j → env[i]? = some (some (.ow xs)) → env[j]? = some (some (.ow ys)) → σ[i]? = some (some (.ref a)) → σ[j]? ≠ some (some (.ref a))
  bd : ∀ (i : Nat) (a C : Addr) (fs : List (Str × PV)), env[i]? = some (some (.bd a C fs)) → ∃ dx vs, σ[i]? = some (some (.ref a)) ∧ H a = some (.ins C dx vs) ∧ Hs a = none ∧ H₀ a = none ∧ RepF Hs fs vs
  one : ∀ (i j : Nat) (a b C D : Addr) (fs gs : List (Str × PV)), env[i]? = some (some (.bd a C fs)) → env[j]? = some (some (.bd b D gs)) → i = j
theorem SR.grow {B H₀ Hs H Hs' H' : Hp} {σ : St} {env : PEnv} (r : SR B H₀ Hs H σ env) (g : Grow Hs H Hs' H') : SR B H₀ Hs' H' σ env where
  gr := r.gr.trans g
  len := r.len
  sh := fun i p e => let ⟨v, h1, h2⟩ := r.sh i p e; ⟨v, h1, h2.mono g.st⟩
  ow := fun i xs e => let ⟨a, vs, h1, h2, h3, h4, h5⟩ := r.ow i xs e; ⟨a, vs, h1, g.al _ _ h2, g.nw _ _ h3 h2, h4, h5.mono g.st⟩
  sep := r.sep
  bd := fun i a C fs e => let ⟨dx, vs, h1, h2, h3, h4, h5⟩ := r.bd i a C fs e; ⟨dx, vs, h1, g.al _ _ h2, g.nw _ _ h3 h2, h4, h5.mono g.st⟩
  one := r.one
abbrev EX := Addr × Option (List (Str × PV))
abbrev M (α : Type) := Option (Except EX α)
def M.ok {α : Type} (a : α) : M α := some (.ok a)
def M.bind {α β : Type} (x : M α) (f : α → M β) : M β := match x with
  | some (.ok a) => f a
  | some (.error e) => some (.error e)
  | none => none
instance : Monad M where
  pure := M.ok
  bind := M.bind
def Post {α : Type} (r : M α) (Q : α → Prop) (E : EX → Prop) : Prop := match r with
  | some (.ok a) => Q a
  | some (.error e) => E e
  | none => False
theorem Post.imp {α : Type} {r : M α} {Q Q' : α → Prop} {E E' : EX → Prop} (h : Post r Q E) (hq : ∀ a, Q a → Q' a) (he : ∀ e, E e → E' e) : Post r Q' E' := by
  cases r with
  | none => exact h
  | some x => cases x with
    | ok a => exact hq a h
    | error e => exact he e h
theorem Post.bind {α β : Type} {x : M α} {f : α → M β} {Q : β → Prop} {E : EX → Prop} (h : Post (x.bind f) Q E) : Post x (fun a => Post (f a) Q E) E := by
  cases x with
  | none => exact h
  | some x => cases x with
    | ok a => exact h
    | error e => exact h
def XW (E : XK) (Hs H : Hp) (x : EX) : Prop := ∀ ea Hs' H', Grow Hs H Hs' H' → Rep Hs' (.exc x.1 x.2) (.ref ea) → E (.ref ea) none H'
theorem XW.grow {E : XK} {Hs H Hs' H' : Hp} {x : EX} (h : XW E Hs H x) (g : Grow Hs H Hs' H') : XW E Hs' H' x := fun ea Hs2 H2 g2 r => h ea Hs2 H2 (g.trans g2) r
def tE (E : St → XK) (f : PEnv → M PV) : TE := fun σ H Q => ∃ B H₀ Hs env, SR B H₀ Hs H σ env ∧ Post (f env) (fun p => ∀ v Hs' H', Grow Hs H Hs' H' → Rep Hs' p v → Q v H') (XW (E σ) Hs H)
theorem PE.imp {X : Cx} {e : Expr} {t t' : TE} (h : PE X e t) (i : ∀ σ H Q, t' σ H Q → t σ H Q) : PE X e t' := fun pins s σ H Q I q => h pins s σ H Q I (i σ H Q q)
theorem tE_bind {E : St → XK} {f : PEnv → M PV} {g : PEnv → PV → M PV} {σ : St} {H : Hp} {Q R : VK} (h : tE E (fun env => (f env).bind (g env)) σ H Q)
    (k : ∀ B H₀ Hs H1 env p v, SR B H₀ Hs H1 σ env → Rep Hs p v → Post (g env p) (fun q => ∀ u Hs' H', Grow Hs H1 Hs' H' → Rep Hs' q u → Q u H') (XW (E σ) Hs H1) → R v H1) : tE E f σ H R := by
  obtain ⟨B, H₀, Hs, env, sr, h⟩ := h
  refine ⟨B, H₀, Hs, env, sr, (Post.bind h).imp (fun p hp v Hs' H' g r => ?_) fun e he => he⟩
  exact k B H₀ Hs' H' env p v (sr.grow g) r (hp.imp (fun q hq u Hs2 H2 g2 r2 => hq u Hs2 H2 (g.trans g2) r2) fun e he => he.grow g)
theorem tE_op {E : St → XK} {f g : PEnv → M PV} {op : PV → PV → M PV} {r : R2} {σ : St} {H : Hp} {Q : VK} (h : tE E (fun env => (f env).bind fun p => (g env).bind fun q => op p q) σ H Q)
    (k : ∀ Hs H1 p q v u, Same Hs H1 → Rep Hs p v → Rep Hs q u → Post (op p q) (fun z => ∀ w Hs' H', Grow Hs H1 Hs' H' → Rep Hs' z w → Q w H') (XW (E σ) Hs H1) → r v u H1 Q) : tOp r (tE E f) (tE E g) σ H Q := by
  refine tE_bind h fun B H₀ Hs H1 env p v sr rp hp => ?_
  refine ⟨B, H₀, Hs, env, sr, (Post.bind hp).imp (fun q hq u Hs' H' g ru => ?_) fun e he => he⟩
  exact k Hs' H' p q v u (sr.grow g).gr.sub (rp.mono g.st) ru (hq.imp (fun z hz w Hs2 H2 g2 r2 => hz w Hs2 H2 (g.trans g2) r2) fun e he => he.grow g)
theorem tE_un {E : St → XK} {f : PEnv → M PV} {op : PV → M PV} {r : V → Hp → VK → Prop} {σ : St} {H : Hp} {Q : VK} (h : tE E (fun env => (f env).bind op) σ H Q)
    (k : ∀ Hs H1 p v, Same Hs H1 → Rep Hs p v → Post (op p) (fun z => ∀ w Hs' H', Grow Hs H1 Hs' H' → Rep Hs' z w → Q w H') (XW (E σ) Hs H1) → r v H1 Q) : tUn r (tE E f) σ H Q :=
  tE_bind h fun B H₀ Hs H1 env p v sr rp hp => k Hs H1 p v sr.gr.sub rp hp
end L2
namespace L2
open PySem PySem.Spec PyProof.Rows
def tCallV (sp : Sp) (dvs : List V) (E : St → XK) (t : TA) : TE := fun σ H Q => t σ H fun vs H1 => sp (vs ++ dvs) H1 Q (E σ)
def tMethV (C : Addr) (m : Str) (sp : Sp) (dvs : List V) (E : St → XK) (ta : TE) (t : TA) : TE := fun σ H Q => ta σ H fun x H1 => ∃ a dx fs, x = .ref a ∧ H1 a = some (.ins C dx fs) ∧ fs.lookup m = none ∧
  t σ H1 fun vs H2 => sp (x :: (vs ++ dvs)) H2 Q (E σ)
def tMakeV (C : Addr) (sp : Sp) (dvs : List V) (E : St → XK) (t : TA) : TE := fun σ H Q => t σ H fun vs H1 => ∀ x dx, H1 x = none → H1 dx = none → dx ≠ x →
  sp (.ref x :: (vs ++ dvs)) (upd (upd H1 dx (.own x)) x (.ins C dx [])) (fun v H2 => v = .non ∧ Q (.ref x) H2) (E σ)
section
variable {X : Cx} {k : Nat} {f C : Addr} {fd : FuncData} {ps : List Str} {sp : Sp} {dvs : List V} {ds : List Value} {E : St → XK} {x m : Str} {p pos apos : Pos} {e o : Expr} {es : List Expr} {ta : TE} {t : TA}
theorem run_fnV {pins : List (Addr × Obj)} {σ : St} {H : Hp} {s : Shared} {Q : VK} {us : List Value} {vs : List V} (F : FnOk X.prog X.w X.K X.mg X.base (CXV X.prog X.w) k f fd ps sp) (hr : Room k X.A) (hb : Binds X.K fd ps ds) (hd : Vals dvs ds) (hx : Outs X E)
    (I : Inv X pins σ H s) (r : Vals vs us) (h : sp (vs ++ dvs) H Q (E σ)) : wpAny (model X.prog X.w) X.A (call (.ref f) us) (EP X pins σ Q) X.xe s := by
  have r2 : Vals (vs ++ dvs) (us ++ ds) := r.append hd
  have hl : (us ++ ds).length = ps.length := by rw [← r2.length]; exact F.len _ _ _ _ h
  refine wpAny_call (codeAny_mono (F.run X.A X.stack s H ⟨us, []⟩ (us ++ ds) (vs ++ dvs) Q (E σ) hr I.env0 (hb s us I.kIn hl) r2 h) fun r s' hq => ?_)
  cases r with
  | error e => exact hx.pass pins σ H s e s' I hq
  | ok fl =>
    cases fl with
    | ret u => exact I.after hq
    | next => exact False.elim hq
    | brk => exact False.elim hq
    | cont => exact False.elim hq
theorem pe_callV (F : FnOk X.prog X.w X.K X.mg X.base (CXV X.prog X.w) k f fd ps sp) (hr : Room k X.A) (hg : Gl X x) (hm : X.mg x = some (.ref f)) (hk : PySem.W.keepIn X.K (.ref f) = true) (hb : Binds X.K fd ps ds) (hd : Vals dvs ds) (hx : Outs X E)
    (ha : PA X (e :: es) t) (hdb : (x == ("__debug__" : Str)) = false := by decide) (he : starEach (e :: es) X.env = (false, eval e X.env) :: starEach es X.env := by rfl) (hpl : (backTo pos (starEach es X.env)).any (·.1) = false := by rfl) :
    PE X (.Call (.Name x p) (e :: es) [] pos) (tCallV sp dvs E t) := by
  intro pins s σ H Q I h
  refine wpAny_Call_Name_kw (ld_glob I hg hm ?_ hdb)
  refine PySem.W.callWith_K (h₀ := X.base) I.ok.mod.kin hk (thn (ha pos pins s σ H _ I h) fun us s1 ⟨vs, H1, I1, r, q⟩ => ⟨I1.kIn, ?_⟩) he hpl
  exact run_fnV F hr hb hd hx I1 r q
theorem pe_meth0V {pl : Sem Bool} (he : PE X o ta) (c : Cls X.K C) (hm : Meth X.K C m f) (F : FnOk X.prog X.w X.K X.mg X.base (CXV X.prog X.w) k f fd ps sp) (hr : Room k X.A) (hb : Binds X.K fd ps ds) (hd : Vals dvs ds) (hx : Outs X E)
    (ht : eval (.Call (.Attribute o m apos) [] [] pos) X.env = (do
      let ov ← eval o X.env
      standAt apos.atName
      let (f, first) ← holding [ov] (getMethod ov m pl)
      callWith pos f first (backTo pos (starEach [] X.env)) (backToKw pos (keywordEach [] X.env))) := by rfl) :
    PE X (.Call (.Attribute o m apos) [] [] pos) (tMethV C m sp dvs E ta tNil) := by
  intro pins s σ H Q I h
  refine PySem.W.methodCall_KW (pl := pl) (thn (he pins s σ H _ I h) fun u s1 ⟨x, H1, I1, rx, a, dx, fs, ex, ea, l, q⟩ => ?_) ht
  subst ex
  obtain rfl : u = Value.ref a := rx
  refine getmeth_ok I1 ea c hm l ?_
  exact PySem.W.callWith_K0 (first := [.ref a]) I1.kIn hm.kp (run_fnV (us := [.ref a]) (vs := [.ref a]) F hr hb hd hx I1 (.cons rfl .nil) q)
theorem run_makeV {pins : List (Addr × Obj)} {σ : St} {H : Hp} {s : Shared} {Q : VK} {us : List Value} {vs : List V} (M : Mk X.K C f) (F : FnOk X.prog X.w X.K X.mg X.base (CXV X.prog X.w) k f fd ps sp) (hr : Room (k + 1) X.A) (hb : Binds X.K fd ps ds) (hd : Vals dvs ds)
    (hx : Outs X E) (I : Inv X pins σ H s) (r : Vals vs us)
    (h : ∀ x dx, H x = none → H dx = none → dx ≠ x → sp (.ref x :: (vs ++ dvs)) (upd (upd H dx (.own x)) x (.ins C dx [])) (fun v H2 => v = .non ∧ Q (.ref x) H2) (E σ)) :
    wpAny (model X.prog X.w) X.A (call (.ref C) us) (EP X pins σ Q) X.xe s := by
  have hq := h (s.heap.objs.size + 1) s.heap.objs.size (I.hok.fresh (Nat.le_succ _)) (I.hok.fresh (Nat.le_refl _)) (Nat.ne_of_lt (Nat.lt_succ_self _))
  have I2 := Inv.made (C := C) I
  have r2 : Vals (V.ref (s.heap.objs.size + 1) :: (vs ++ dvs)) (Value.ref (s.heap.objs.size + 1) :: (us ++ ds)) := .cons rfl (r.append hd)
  have hl : (Value.ref (s.heap.objs.size + 1) :: us ++ ds).length = ps.length := by
    have e := r2.length
    rw [F.len _ _ _ _ hq] at e
    exact e.symm
  refine wpAny_call (make_map (f := f) I.kIn M.makes M.init (beq_iff_eq.mp M.fn) (codeAny_mono (F.run _ X.stack _ _ ⟨Value.ref (s.heap.objs.size + 1) :: us, []⟩ (Value.ref (s.heap.objs.size + 1) :: (us ++ ds)) _ _ (E σ) (hr.make C us [])
    (I2.env0.make C us []) (hb _ (Value.ref (s.heap.objs.size + 1) :: us) I2.kIn hl) r2 hq) fun r s' hq' => ?_))
  cases r with
  | error e => exact hx.pass pins σ _ _ e s' I2 hq'
  | ok fl =>
    cases fl with
    | ret u =>
      obtain ⟨v, H', I3, rv, ev, q3⟩ := I2.after hq'
      subst ev
      exact ⟨rv, ⟨V.ref (s.heap.objs.size + 1), H', I3, rfl, q3⟩⟩
    | next => exact False.elim hq'
    | brk => exact False.elim hq'
    | cont => exact False.elim hq'
theorem pe_makeV (M : Mk X.K C f) (F : FnOk X.prog X.w X.K X.mg X.base (CXV X.prog X.w) k f fd ps sp) (hr : Room (k + 1) X.A) (hg : Gl X x) (hm : X.mg x = some (.ref C)) (hb : Binds X.K fd ps ds) (hd : Vals dvs ds) (hx : Outs X E)
    (ha : PA X (e :: es) t) (hdb : (x == ("__debug__" : Str)) = false := by decide) (he : starEach (e :: es) X.env = (false, eval e X.env) :: starEach es X.env := by rfl) (hpl : (backTo pos (starEach es X.env)).any (·.1) = false := by rfl) :
    PE X (.Call (.Name x p) (e :: es) [] pos) (tMakeV C sp dvs E t) := by
  intro pins s σ H Q I h
  refine wpAny_Call_Name_kw (ld_glob I hg hm ?_ hdb)
  refine PySem.W.callWith_K (h₀ := X.base) I.ok.mod.kin M.kp (thn (ha pos pins s σ H _ I h) fun us s1 ⟨vs, H1, I1, r, q⟩ => ⟨I1.kIn, ?_⟩) he hpl
  exact run_makeV M F hr hb hd hx I1 r q
end
end L2
namespace L2
open PySem PySem.Spec PyProof.Rows
abbrev PVK (Hs H : Hp) (Q : VK) : PV → Prop := fun z => ∀ w Hs' H', Grow Hs H Hs' H' → Rep Hs' z w → Q w H'
theorem PVK.flat {Hs H : Hp} {Q : VK} {p : PV} {v : V} (h : PVK Hs H Q p) (s : Same Hs H) (r : Rep Hs p v) : Q v H := h v Hs H (.refl s) r
theorem PVK.tup {Hs H : Hp} {Q : VK} {xs : List PV} {vs : List V} (h : PVK Hs H Q (.tup xs)) (s : Same Hs H) (r : RepL Hs xs vs) : ∀ p, H p = none → Q (.ref p) (upd H p (.tup vs)) :=
  fun p n => h _ (upd Hs p (.tup vs)) _ (Grow.new s n) (.tup upd_same (r.mono (Grow.new s n).st))
theorem PVK.lst {Hs H : Hp} {Q : VK} {xs : List PV} {vs : List V} (h : PVK Hs H Q (.lst xs)) (s : Same Hs H) (r : RepL Hs xs vs) : ∀ p, H p = none → Q (.ref p) (upd H p (.lst vs)) :=
  fun p n => h _ (upd Hs p (.lst vs)) _ (Grow.new s n) (.lst upd_same (r.mono (Grow.new s n).st))
namespace HT
theorem cat_tup0 {prog : Program} {w : World} {A : Around} {E : Value → Shared → Prop} {s : Shared} {t b : Addr} {ws : List Value} {Q : Value → Shared → Prop} (ht : IsTup s.heap t #[]) (hb : IsTup s.heap b ws.toArray)
    (h1 : Q (.ref b) s) : wpAny (model prog w) A (binaryOp .Add (.ref t) (.ref b)) Q E s := by
  obtain ⟨⟨cls, dd, data, sl⟩, ho, hc, n, hd⟩ := id ht
  obtain ⟨⟨cls2, dd2, data2, sl2⟩, ho2, hc2, n2, hd2⟩ := id hb
  simp only at hc hd hc2 hd2
  subst hc hd hc2 hd2
  exact concat_meets ⟨_, ho, rfl⟩ ⟨_, ho2, rfl⟩ noFill_tuple_add seq_tuple_add PySem.F.slot_tuple_add PySem.F.entry_tuple_add (PySem.F.args_tuple_add_2 _ _)
      (tuple_addW0 t b #[] ws.toArray n n2 dd dd2 sl sl2 rfl) ⟨ho, ho2, h1⟩
end HT
def rCatT0 (K : PySem.W.Frag) : R2 := fun x y H Q => ∃ a b ys, x = .ref a ∧ y = .ref b ∧ SqT K H a [] ∧ SqT K H b ys ∧ Q (.ref b) H
theorem op_catT0 {X : Cx} : OpR X (binaryOp .Add) (rCatT0 X.K) := by
  intro pins s σ H x y v u Q I rx ry h
  obtain ⟨a, b, ys, rfl, rfl, ha, hb, q1⟩ := h
  cases rx
  cases ry
  obtain ⟨its, r1, p1, _⟩ := I.tuple ha
  obtain ⟨its2, r2, p2, _⟩ := I.tuple hb
  have e : its = [] := r1.nil_iff.mpr rfl
  subst e
  exact HT.cat_tup0 p1 p2 ⟨.ref b, H, I, rfl, q1⟩
def grd {α : Type} (c : Prop) [Decidable c] (x : M α) : M α := if c then x else none
theorem Post.grd {α : Type} {c : Prop} [Decidable c] {x : M α} {Q : α → Prop} {E : EX → Prop} (h : Post (L2.grd c x) Q E) : c ∧ Post x Q E := by
  unfold L2.grd at h
  by_cases hc : c
  · rw [if_pos hc] at h; exact ⟨hc, h⟩
  · rw [if_neg hc] at h; exact h.elim
def optM (o : Option PV) : M PV := match o with
  | some x => M.ok x
  | none => none
theorem Post.opt {o : Option PV} {Q : PV → Prop} {E : EX → Prop} (h : Post (optM o) Q E) : ∃ x, o = some x ∧ Q x := by
  cases o with
  | none => exact h.elim
  | some x => exact ⟨x, rfl, h⟩
section
variable {X : Cx} {E : St → XK} {a b c e : Expr} {pos : Pos} {f g h : PEnv → M PV}
def getV (i : Nat) (env : PEnv) : M PV := match env[i]? with
  | some (some (.sh p)) => M.ok p
  | _ => none
theorem pv_var {i : Nat} {x : Str} (hN : X.N[i]? = some x) (hv : Vis X.env.scope x) (hd : (x == ("__debug__" : Str)) = false := by decide) (hcd : (x == ("__classdict__" : Str)) = false := by decide) : PE X (.Name x pos) (tE E (getV i)) := by
  refine (pe_var hN hv hd hcd).imp fun σ H Q q => ?_
  obtain ⟨B, H₀, Hs, env, sr, q⟩ := q
  unfold getV at q
  split at q
  · rename_i p e
    obtain ⟨v, h1, h2⟩ := sr.sh i p e
    exact ⟨v, h1, PVK.flat q sr.gr.sub h2⟩
  · exact q.elim
theorem pv_flat {p : PV} {v : V} (he : PE X e (tC v)) (r : ∀ H, Rep H p v) : PE X e (tE E fun _ => M.ok p) := by
  refine he.imp fun σ H Q q => ?_
  obtain ⟨B, H₀, Hs, env, sr, q⟩ := q
  exact PVK.flat q sr.gr.sub (r Hs)
theorem pv_int {i : Int} {j : Nat} : PE X (.Constant (.int i) j pos) (tE E fun _ => M.ok (.int i)) := pv_flat pe_int fun _ => .int i
theorem pv_bl {i : Bool} {j : Nat} : PE X (.Constant (.bool i) j pos) (tE E fun _ => M.ok (.bl i)) := pv_flat pe_bl fun _ => .bl i
theorem pv_non {j : Nat} : PE X (.Constant .none j pos) (tE E fun _ => M.ok .non) := pv_flat pe_non fun _ => .non
theorem pv_str {i : Str} {j : Nat} : PE X (.Constant (.str i) j pos) (tE E fun _ => M.ok (.str i)) := pv_flat pe_str fun _ => .str i
def bin2 (op : PV → PV → M PV) (f g : PEnv → M PV) : PEnv → M PV := fun env => (f env).bind fun p => (g env).bind fun q => op p q
def OpV (E : St → XK) (r : R2) (op : PV → PV → M PV) : Prop := ∀ (σ : St) (Hs H : Hp) (p q : PV) (v u : V) (Q : VK), Same Hs H → Rep Hs p v → Rep Hs q u → Post (op p q) (PVK Hs H Q) (XW (E σ) Hs H) → r v u H Q
theorem pv_bin {op : Operator} {r : R2} {o : PV → PV → M PV} (ho : OpR X (binaryOp op) r) (hv : OpV E r o) (ha : PE X a (tE E f)) (hb : PE X b (tE E g)) : PE X (.BinOp a op b pos) (tE E (bin2 o f g)) :=
  (pe_op ho ha hb).imp fun σ H Q q => tE_op q fun Hs H1 p q v u s rp rq h => hv σ Hs H1 p q v u Q s rp rq h
theorem pv_cmp {op : CmpOp} {r : R2} {o : PV → PV → M PV} (ho : OpR X (compareOp op) r) (hv : OpV E r o) (ha : PE X a (tE E f)) (hb : PE X b (tE E g)) (hm : behindInMarks op b = false) : PE X (.Compare a [op] [b] pos) (tE E (bin2 o f g)) :=
  (pe_cmpR ho ha hb hm).imp fun σ H Q q => tE_op q fun Hs H1 p q v u s rp rq h => hv σ Hs H1 p q v u Q s rp rq h
def addP : PV → PV → M PV
  | .int i, .int j => M.ok (.int (i + j))
  | .str x, .str y => grd (x.length + y.length ≤ sizeLine) (M.ok (.str (x ++ y)))
  | .tup xs, .tup ys => grd (xs.length + ys.length ≤ sizeLine) (M.ok (.tup (xs ++ ys)))
  | .lst xs, .lst ys => grd (xs.length + ys.length ≤ sizeLine) (M.ok (.lst (xs ++ ys)))
  | _, _ => none
def rAddV (K : PySem.W.Frag) : R2 := fun x y H Q => (∃ i j, x = .int i ∧ y = .int j ∧ Q (.int (i + j)) H) ∨ (∃ i j, x = .str i ∧ y = .str j ∧ i.length + j.length ≤ sizeLine ∧ Q (.str (i ++ j)) H) ∨ rCatT K x y H Q ∨ rCat x y H Q ∨ rCatT0 K x y H Q
theorem op_addV : OpR X (binaryOp .Add) (rAddV X.K) := OpR.or op_add (OpR.or op_add_str (OpR.or op_catT (OpR.or op_cat op_catT0)))
theorem ov_add {K : PySem.W.Frag} : OpV E (rAddV K) addP := by
  intro σ Hs H p q v u Q s rp rq h
  cases rp with
  | int i => cases rq with
    | int j => exact .inl ⟨i, j, rfl, rfl, PVK.flat h s (.int _)⟩
    | _ => exact h.elim
  | str i => cases rq with
    | str j =>
      obtain ⟨hz, h⟩ := Post.grd h
      exact .inr (.inl ⟨i, j, rfl, rfl, hz, PVK.flat h s (.str _)⟩)
    | _ => exact h.elim
  | @tup a xs vs ha hx => cases rq with
    | @tup b ys us hb hy =>
      obtain ⟨hz, h⟩ := Post.grd h
      cases hx with
      | nil => exact .inr (.inr (.inr (.inr ⟨a, b, us, rfl, rfl, SqT.of (s _ _ ha), SqT.of (s _ _ hb), PVK.flat h s (.tup hb hy)⟩)))
      | cons hx1 hx2 =>
        have hx := RepL.cons hx1 hx2
        refine .inr (.inr (.inl ⟨a, b, _, us, rfl, rfl, SqT.of (s _ _ ha), SqT.of (s _ _ hb), (fun z => nomatch z), by rw [← hx.length, ← hy.length]; exact hz, fun z => ?_, fun z => PVK.tup h s (hx.append hy)⟩))
        have e : ys = [] := by cases hy with | nil => rfl | cons _ _ => cases z
        subst e
        rw [List.append_nil] at h
        exact PVK.flat h s (.tup ha hx)
    | _ => exact h.elim
  | @lst a xs vs ha hx => cases rq with
    | @lst b ys us hb hy =>
      obtain ⟨hz, h⟩ := Post.grd h
      exact .inr (.inr (.inr (.inl ⟨a, b, vs, us, rfl, rfl, s _ _ ha, s _ _ hb, by rw [← hx.length, ← hy.length]; exact hz, PVK.lst h s (hx.append hy)⟩)))
    | _ => exact h.elim
  | _ => exact h.elim
def intP (c : Int → Int → Bool) (o : Int → Int → Int) : PV → PV → M PV
  | .int i, .int j => grd (c i j = true) (M.ok (.int (o i j)))
  | _, _ => none
theorem ov_int {C : Int → Int → Prop} {c : Int → Int → Bool} {o : Int → Int → Int} (hc : ∀ i j, c i j = true → C i j) : OpV E (rI C fun i j => .int (o i j)) (intP c o) := by
  intro σ Hs H p q v u Q s rp rq h
  cases rp with
  | int i => cases rq with
    | int j =>
      obtain ⟨hz, h⟩ := Post.grd h
      exact ⟨i, j, rfl, rfl, hc i j hz, PVK.flat h s (.int _)⟩
    | _ => exact h.elim
  | _ => exact h.elim
def subP : PV → PV → M PV
  | .int i, .int j => M.ok (.int (i - j))
  | _, _ => none
theorem ov_sub : OpV E (rI0 fun i j => .int (i - j)) subP := by
  intro σ Hs H p q v u Q s rp rq h
  cases rp with
  | int i => cases rq with
    | int j => exact ⟨i, j, rfl, rfl, PVK.flat h s (.int _)⟩
    | _ => exact h.elim
  | _ => exact h.elim
def cmpP (o : Int → Int → Bool) : PV → PV → M PV
  | .int i, .int j => M.ok (.bl (o i j))
  | _, _ => none
theorem ov_cmp {o : Int → Int → Bool} : OpV E (rI0 fun i j => .bl (o i j)) (cmpP o) := by
  intro σ Hs H p q v u Q s rp rq h
  cases rp with
  | int i => cases rq with
    | int j => exact ⟨i, j, rfl, rfl, PVK.flat h s (.bl _)⟩
    | _ => exact h.elim
  | _ => exact h.elim
def idxP : PV → PV → M PV
  | .tup xs, .int i => optM (atI xs i)
  | .lst xs, .int i => optM (atI xs i)
  | .scr xs, .int i => optM (atI xs i)
  | .str z, .int i => grd (z.length ≤ sizeLine) (optM ((atI z.cps.toList i).map fun c => .str ⟨#[c]⟩))
  | _, _ => none
theorem RepL.atI {H : Hp} {xs : List PV} {vs : List V} {i : Int} {x : PV} (r : RepL H xs vs) (e : L2.atI xs i = some x) : ∃ v, L2.atI vs i = some v ∧ Rep H x v := by
  unfold L2.atI at e ⊢
  rw [← r.length]
  obtain ⟨j, h1, h2⟩ := Option.bind_eq_some_iff.mp e
  obtain ⟨v, h3, h4⟩ := r.get h2
  exact ⟨v, by rw [h1]; exact h3, h4⟩
theorem ov_idx {K : PySem.W.Frag} : OpV E (rIx K) idxP := by
  intro σ Hs H p q v u Q s rp rq h
  cases rp with
  | @tup a xs vs ha hx => cases rq with
    | int i =>
      obtain ⟨x, ex, h⟩ := Post.opt h
      obtain ⟨v, h1, h2⟩ := hx.atI ex
      exact .inr (.inl ⟨a, vs, i, v, rfl, rfl, SqT.of (s _ _ ha), h1, PVK.flat h s h2⟩)
    | _ => exact h.elim
  | @lst a xs vs ha hx => cases rq with
    | int i =>
      obtain ⟨x, ex, h⟩ := Post.opt h
      obtain ⟨v, h1, h2⟩ := hx.atI ex
      exact .inl ⟨a, vs, i, v, rfl, rfl, SqL.of (s _ _ ha), h1, PVK.flat h s h2⟩
    | _ => exact h.elim
  | @scr a o xs vs ha hx => cases rq with
    | int i =>
      obtain ⟨x, ex, h⟩ := Post.opt h
      obtain ⟨v, h1, h2⟩ := hx.atI ex
      exact .inl ⟨a, vs, i, v, rfl, rfl, .inl (.inr ⟨o, s _ _ ha⟩), h1, PVK.flat h s h2⟩
    | _ => exact h.elim
  | str z => cases rq with
    | int i =>
      obtain ⟨hz, h⟩ := Post.grd h
      obtain ⟨x, ex, h⟩ := Post.opt h
      obtain ⟨c, ec, rfl⟩ := Option.map_eq_some_iff.mp ex
      exact .inr (.inr ⟨z, i, c, rfl, rfl, hz, ec, PVK.flat h s (.str _)⟩)
    | _ => exact h.elim
  | _ => exact h.elim
theorem pv_idx (ha : PE X a (tE E f)) (hb : PE X b (tE E g)) (hs : PlainIx b) : PE X (.Subscript a b pos) (tE E (bin2 idxP f g)) :=
  (pe_ix ix_seq ha hb hs).imp fun σ H Q q => tE_op q fun Hs H1 p q v u s rp rq h => ov_idx σ Hs H1 p q v u Q s rp rq h
end
end L2
namespace L2
open PySem PySem.Spec PyProof.Rows
def tG {α : Type} (E : St → XK) (f : PEnv → M α) (K : Hp → Hp → α → Prop) : St → Hp → Prop := fun σ H => ∃ B H₀ Hs env, SR B H₀ Hs H σ env ∧ Post (f env) (K Hs H) (XW (E σ) Hs H)
def KG {α : Type} (K : Hp → Hp → α → Prop) : Prop := ∀ Hs H Hs' H' b, K Hs H b → Grow Hs H Hs' H' → K Hs' H' b
abbrev KB (Q : Bool → Hp → Prop) : Hp → Hp → Bool → Prop := fun Hs H k => ∀ Hs' H', Grow Hs H Hs' H' → Q k H'
abbrev KV' (Q : VK) : Hp → Hp → PV → Prop := fun Hs H p => PVK Hs H Q p
abbrev KL (Q : List V → Hp → Prop) : Hp → Hp → List PV → Prop := fun Hs H ps => ∀ vs Hs' H', Grow Hs H Hs' H' → RepL Hs' ps vs → Q vs H'
theorem KB.g {Q : Bool → Hp → Prop} : KG (KB Q) := fun Hs H Hs' H' b k g Hs2 H2 g2 => k Hs2 H2 (g.trans g2)
theorem KV'.g {Q : VK} : KG (KV' Q) := fun Hs H Hs' H' b k g w Hs2 H2 g2 r => k w Hs2 H2 (g.trans g2) r
theorem KL.g {Q : List V → Hp → Prop} : KG (KL Q) := fun Hs H Hs' H' b k g w Hs2 H2 g2 r => k w Hs2 H2 (g.trans g2) r
def tT (E : St → XK) (f : PEnv → M Bool) : TT := fun σ H Q => tG E f (KB Q) σ H
def tL (E : St → XK) (f : PEnv → M (List PV)) : TA := fun σ H Q => tG E f (KL Q) σ H
theorem PT.imp {X : Cx} {e : Expr} {t t' : TT} (h : PT X e t) (i : ∀ σ H Q, t' σ H Q → t σ H Q) : PT X e t' := fun pins s σ H Q I q => h pins s σ H Q I (i σ H Q q)
theorem PW.imp {X : Cx} {e : Expr} {t t' : TT} (h : PW X e t) (i : ∀ σ H Q, t' σ H Q → t σ H Q) : PW X e t' := fun w pins s σ H Q I q => h w pins s σ H Q I (i σ H Q q)
theorem PA.imp {X : Cx} {e : List Expr} {t t' : TA} (h : PA X e t) (i : ∀ σ H Q, t' σ H Q → t σ H Q) : PA X e t' := fun w pins s σ H Q I q => h w pins s σ H Q I (i σ H Q q)
section
variable {β : Type} {E : St → XK} {K : Hp → Hp → β → Prop} {σ : St} {H : Hp}
theorem tG_bindV {f : PEnv → M PV} {g : PEnv → PV → M β} {R : VK} (kg : KG K) (h : tG E (fun env => (f env).bind (g env)) K σ H)
    (k : ∀ B H₀ Hs H1 env p v, SR B H₀ Hs H1 σ env → Rep Hs p v → Post (g env p) (K Hs H1) (XW (E σ) Hs H1) → R v H1) : tE E f σ H R := by
  obtain ⟨B, H₀, Hs, env, sr, h⟩ := h
  refine ⟨B, H₀, Hs, env, sr, (Post.bind h).imp (fun p hp v Hs' H' g r => ?_) fun e he => he⟩
  exact k B H₀ Hs' H' env p v (sr.grow g) r (hp.imp (fun q hq => kg _ _ _ _ q hq g) fun e he => he.grow g)
theorem tG_bindB {f : PEnv → M Bool} {g : PEnv → Bool → M β} {R : Bool → Hp → Prop} (kg : KG K) (h : tG E (fun env => (f env).bind (g env)) K σ H)
    (k : ∀ B H₀ Hs H1 env p, SR B H₀ Hs H1 σ env → Post (g env p) (K Hs H1) (XW (E σ) Hs H1) → R p H1) : tT E f σ H R := by
  obtain ⟨B, H₀, Hs, env, sr, h⟩ := h
  refine ⟨B, H₀, Hs, env, sr, (Post.bind h).imp (fun p hp Hs' H' g => ?_) fun e he => he⟩
  exact k B H₀ Hs' H' env p (sr.grow g) (hp.imp (fun q hq => kg _ _ _ _ q hq g) fun e he => he.grow g)
theorem tG_bindL {f : PEnv → M (List PV)} {g : PEnv → List PV → M β} {R : List V → Hp → Prop} (kg : KG K) (h : tG E (fun env => (f env).bind (g env)) K σ H)
    (k : ∀ B H₀ Hs H1 env p v, SR B H₀ Hs H1 σ env → RepL Hs p v → Post (g env p) (K Hs H1) (XW (E σ) Hs H1) → R v H1) : tL E f σ H R := by
  obtain ⟨B, H₀, Hs, env, sr, h⟩ := h
  refine ⟨B, H₀, Hs, env, sr, (Post.bind h).imp (fun p hp v Hs' H' g r => ?_) fun e he => he⟩
  exact k B H₀ Hs' H' env p v (sr.grow g) r (hp.imp (fun q hq => kg _ _ _ _ q hq g) fun e he => he.grow g)
end
def truB : PV → M Bool
  | .bl b => M.ok b
  | _ => none
def tst (f : PEnv → M PV) : PEnv → M Bool := fun env => (f env).bind truB
theorem Post.tru {p : PV} {Q : Bool → Prop} {E : EX → Prop} (h : Post (truB p) Q E) : ∃ b, p = .bl b ∧ Q b := by
  cases p with
  | bl b => exact ⟨b, rfl, h⟩
  | _ => exact h.elim
section
variable {X : Cx} {E : St → XK} {a b c e : Expr} {pos : Pos} {f g h : PEnv → M PV} {u v : PEnv → M Bool} {rest : List Expr}
theorem tst_test {σ : St} {H : Hp} {Q : Bool → Hp → Prop} (q : tT E (tst f) σ H Q) : tB (tE E f) σ H Q := by
  refine tG_bindV KB.g q fun B H₀ Hs H1 env p v sr rp hp => ?_
  obtain ⟨k, rfl, hp⟩ := Post.tru hp
  cases rp
  exact ⟨k, rfl, hp Hs H1 (.refl sr.gr.sub)⟩
theorem pT_val (he : PE X e (tE E f)) (hw : ∀ whole, isTrue e X.env whole = (do let v ← whole; standAt e.pos; holding [v] (truthy v)) := by intro _; rfl) : PT X e (tT E (tst f)) :=
  (pt_val he hw).imp fun σ H Q q => tst_test q
theorem pT_cmp {op : CmpOp} {r : R2} {o : PV → PV → M PV} (ho : OpR X (compareOp op) r) (hv : OpV E r o) (ha : PE X a (tE E f)) (hb : PE X b (tE E g)) (hm : behindInMarks op b = false) : PT X (.Compare a [op] [b] pos) (tT E (tst (bin2 o f g))) := by
  refine (pt_cmpR ho ha hb hm).imp fun σ H Q q => ?_
  have q' := tst_test q
  exact tE_op q' fun Hs H1 p q v u s rp rq h => hv σ Hs H1 p q v u _ s rp rq h
def notB (u : PEnv → M Bool) : PEnv → M Bool := fun env => (u env).bind fun b => M.ok (!b)
def andB (u v : PEnv → M Bool) : PEnv → M Bool := fun env => (u env).bind fun b => if b = true then v env else M.ok false
def orB (u v : PEnv → M Bool) : PEnv → M Bool := fun env => (u env).bind fun b => if b = true then M.ok true else v env
theorem pT_not (ha : PT X a (tT E u)) : PT X (.UnaryOp .Not a pos) (tT E (notB u)) :=
  (pt_not ha).imp fun σ H Q q => tG_bindB KB.g q fun B H₀ Hs H1 env p sr hp => hp Hs H1 (.refl sr.gr.sub)
theorem pW_or1 (ha : PT X a (tT E u)) : PW X (.BoolOp .Or [a] pos) (tT E u) := pw_or1 ha
theorem pW_or (ha : PT X a (tT E u)) (hb : PW X (.BoolOp .Or (b :: rest) pos) (tT E v)) : PW X (.BoolOp .Or (a :: b :: rest) pos) (tT E (orB u v)) := by
  refine (pw_or ha hb).imp fun σ H Q q => tG_bindB KB.g q fun B H₀ Hs H1 env p sr hp => ?_
  cases p with
  | true => exact hp Hs H1 (.refl sr.gr.sub)
  | false => exact ⟨B, H₀, Hs, env, sr, hp⟩
def notV (f : PEnv → M PV) : PEnv → M PV := fun env => (f env).bind fun p => (truB p).bind fun b => M.ok (.bl (!b))
def andV (f g : PEnv → M PV) : PEnv → M PV := fun env => (f env).bind fun p => (truB p).bind fun b => if b = true then g env else M.ok (.bl false)
def orV (f g : PEnv → M PV) : PEnv → M PV := fun env => (f env).bind fun p => (truB p).bind fun b => if b = true then M.ok (.bl true) else g env
theorem pv_not (ha : PE X a (tE E f)) : PE X (.UnaryOp .Not a pos) (tE E (notV f)) := by
  refine (pe_not ha).imp fun σ H Q q => tG_bindV (K := KV' Q) KV'.g q fun B H₀ Hs H1 env p v sr rp hp => ?_
  obtain ⟨k, rfl, hp⟩ := Post.tru (Post.bind hp)
  cases rp
  exact ⟨k, rfl, PVK.flat hp sr.gr.sub (.bl _)⟩
theorem pv_and (ha : PE X a (tE E f)) (hb : PE X (.BoolOp .And (b :: rest) pos) (tE E g)) : PE X (.BoolOp .And (a :: b :: rest) pos) (tE E (andV f g)) := by
  refine (pe_and ha hb).imp fun σ H Q q => tG_bindV (K := KV' Q) KV'.g q fun B H₀ Hs H1 env p v sr rp hp => ?_
  obtain ⟨k, rfl, hp⟩ := Post.tru (Post.bind hp)
  cases rp
  refine ⟨k, rfl, ?_⟩
  cases k with
  | true => exact ⟨B, H₀, Hs, env, sr, hp⟩
  | false => exact PVK.flat hp sr.gr.sub (.bl _)
def iteV (u : PEnv → M Bool) (f g : PEnv → M PV) : PEnv → M PV := fun env => (u env).bind fun b => if b = true then f env else g env
def nilL : PEnv → M (List PV) := fun _ => M.ok []
def consL (f : PEnv → M PV) (fs : PEnv → M (List PV)) : PEnv → M (List PV) := fun env => (f env).bind fun p => (fs env).bind fun ps => M.ok (p :: ps)
variable {fs : PEnv → M (List PV)} {es : List Expr}
theorem pL_nil : PA X [] (tL E nilL) := by
  refine pa_nil.imp fun σ H Q q => ?_
  obtain ⟨B, H₀, Hs, env, sr, q⟩ := q
  exact q [] Hs H (.refl sr.gr.sub) .nil
theorem pL_cons (ha : PE X e (tE E f)) (hr : PA X es (tL E fs)) (hs : starEach (e :: es) X.env = (false, eval e X.env) :: starEach es X.env := by rfl) : PA X (e :: es) (tL E (consL f fs)) := by
  refine (pa_cons ha hr hs).imp fun σ H Q q => tG_bindV (K := KL Q) KL.g q fun B H₀ Hs H1 env p v sr rp hp => ?_
  refine ⟨B, H₀, Hs, env, sr, (Post.bind hp).imp (fun ps hps vs Hs' H' g r => ?_) fun e he => he⟩
  exact hps (v :: vs) Hs' H' g (.cons (rp.mono g.st) r)
def tupV (fs : PEnv → M (List PV)) : PEnv → M PV := fun env => (fs env).bind fun ps => grd (ps.length ≤ sizeLine) (M.ok (.tup ps))
def lstV (fs : PEnv → M (List PV)) : PEnv → M PV := fun env => (fs env).bind fun ps => grd (ps.length ≤ sizeLine) (M.ok (.lst ps))
theorem pv_tup {x1 : Nat} (hr : PA X es (tL E fs)) : PE X (.Tuple es x1 pos) (tE E (tupV fs)) := by
  refine (pe_tup hr).imp fun σ H Q q => tG_bindL (K := KV' Q) KV'.g q fun B H₀ Hs H1 env p v sr rp hp => ?_
  obtain ⟨hz, hp⟩ := Post.grd hp
  exact ⟨by rw [← rp.length]; exact hz, PVK.tup hp sr.gr.sub rp⟩
theorem pv_lst (hr : PA X es (tL E fs)) : PE X (.List es pos) (tE E (lstV fs)) := by
  refine (pe_lst hr).imp fun σ H Q q => tG_bindL (K := KV' Q) KV'.g q fun B H₀ Hs H1 env p v sr rp hp => ?_
  obtain ⟨hz, hp⟩ := Post.grd hp
  exact ⟨by rw [← rp.length]; exact hz, PVK.lst hp sr.gr.sub rp⟩
def callV' (o : List PV → M PV) (fs : PEnv → M (List PV)) : PEnv → M PV := fun env => (fs env).bind o
def CallV (E : St → XK) (r : List V → Hp → VK → Prop) (o : List PV → M PV) : Prop := ∀ (σ : St) (Hs H : Hp) (ps : List PV) (vs : List V) (Q : VK), Same Hs H → RepL Hs ps vs → Post (o ps) (PVK Hs H Q) (XW (E σ) Hs H) → r vs H Q
theorem tCB_of {r : List V → Hp → VK → Prop} {o : List PV → M PV} {σ : St} {H : Hp} {Q : VK} (hv : CallV E r o) (q : tE E (callV' o fs) σ H Q) : tCB r (tL E fs) σ H Q :=
  tG_bindL (K := KV' Q) KV'.g q fun B H₀ Hs H1 env p v sr rp hp => hv σ Hs H1 p v Q sr.gr.sub rp hp
variable {x : Str} {p : Pos} {id T : String}
theorem pv_callB {r : List V → Hp → VK → Prop} {o : List PV → M PV} (hc : CallR X (.builtin id) r) (hv : CallV E r o) (hg : Gl X x) (hm : X.mg x = none) (hx : bootBuiltins x = some (.builtin id)) (ha : PA X (e :: es) (tL E fs)) (hn : x ≠ "__name__" := by decide) (hdb : (x == ("__debug__" : Str)) = false := by decide)
    (he : starEach (e :: es) X.env = (false, eval e X.env) :: starEach es X.env := by rfl) (hpl : (backTo pos (starEach es X.env)).any (·.1) = false := by rfl) : PE X (.Call (.Name x p) (e :: es) [] pos) (tE E (callV' o fs)) :=
  (pe_callB hc hg hm hx ha hn hdb he hpl).imp fun σ H Q q => tCB_of hv q
theorem pv_callTy {r : List V → Hp → VK → Prop} {o : List PV → M PV} (hc : CallR X (.type T) r) (hv : CallV E r o) (hg : Gl X x) (hm : X.mg x = none) (hx : bootBuiltins x = some (.type T)) (ha : PA X (e :: es) (tL E fs)) (hn : x ≠ "__name__" := by decide) (hdb : (x == ("__debug__" : Str)) = false := by decide)
    (he : starEach (e :: es) X.env = (false, eval e X.env) :: starEach es X.env := by rfl) (hpl : (backTo pos (starEach es X.env)).any (·.1) = false := by rfl) : PE X (.Call (.Name x p) (e :: es) [] pos) (tE E (callV' o fs)) :=
  (pe_callTy hc hg hm hx ha hn hdb he hpl).imp fun σ H Q q => tCB_of hv q
end
end L2
namespace L2
open PySem PySem.Spec PyProof.Rows
section
variable {E : St → XK}
def seqP : PV → Option (List PV)
  | .tup xs => some xs
  | .lst xs => some xs
  | .scr xs => some xs
  | _ => none
theorem seq_of {K : PySem.W.Frag} {Hs H : Hp} {p : PV} {v : V} {xs : List PV} (s : Same Hs H) (r : Rep Hs p v) (e : seqP p = some xs) : ∃ a vs, v = .ref a ∧ (SqL K H a vs ∨ SqT K H a vs) ∧ RepL Hs xs vs := by
  cases r with
  | tup h r => cases e; exact ⟨_, _, rfl, .inr (SqT.of (s _ _ h)), r⟩
  | lst h r => cases e; exact ⟨_, _, rfl, .inl (SqL.of (s _ _ h)), r⟩
  | scr h r => cases e; exact ⟨_, _, rfl, .inl (.inl (.inr ⟨_, s _ _ h⟩)), r⟩
  | _ => cases e
def len1 : PV → M PV
  | .str z => grd (z.length ≤ sizeLine) (M.ok (.int z.length))
  | p => optM ((seqP p).map fun xs => .int xs.length)
def lenP : List PV → M PV
  | [p] => len1 p
  | _ => none
theorem RepL.one {H : Hp} {p : PV} {vs : List V} (r : RepL H [p] vs) : ∃ v, vs = [v] ∧ Rep H p v := by
  cases r with
  | cons h r => cases r; exact ⟨_, rfl, h⟩
theorem RepL.two {H : Hp} {p q : PV} {vs : List V} (r : RepL H [p, q] vs) : ∃ v u, vs = [v, u] ∧ Rep H p v ∧ Rep H q u := by
  cases r with
  | cons h r => obtain ⟨u, rfl, h2⟩ := r.one; exact ⟨_, _, rfl, h, h2⟩
def rLenV (K : PySem.W.Frag) : List V → Hp → VK → Prop := fun xs H Q => (∃ p ys, xs = [.ref p] ∧ (SqL K H p ys ∨ SqT K H p ys) ∧ Q (.int ys.length) H) ∨ ∃ z, xs = [.str z] ∧ z.length ≤ sizeLine ∧ Q (.int z.length) H
theorem call_lenV {X : Cx} : CallR X (.builtin "len") (rLenV X.K) := CallR.or call_len_seq call_len_str
theorem cv_len {K : PySem.W.Frag} : CallV E (rLenV K) lenP := by
  intro σ Hs H ps vs Q s r h
  match ps, r with
  | [], _ => exact h.elim
  | _ :: _ :: _, _ => exact h.elim
  | [p], r =>
    obtain ⟨v, rfl, rp⟩ := r.one
    cases hp : seqP p with
    | none =>
      cases p with
      | str z =>
        cases rp
        obtain ⟨hz, h⟩ := Post.grd h
        exact .inr ⟨z, rfl, hz, PVK.flat h s (.int _)⟩
      | tup _ => cases hp
      | lst _ => cases hp
      | scr _ => cases hp
      | _ => exact h.elim
    | some xs =>
      obtain ⟨a, us, rfl, hq, hx⟩ := seq_of (K := K) s rp hp
      have h' : Post (optM ((seqP p).map fun xs => PV.int xs.length)) (PVK Hs H Q) (XW (E σ) Hs H) := by
        cases p with
        | str z => cases hp
        | _ => exact h
      rw [hp] at h'
      refine .inl ⟨a, us, rfl, hq, ?_⟩
      rw [← hx.length]
      exact PVK.flat h' s (.int _)
def listP : List PV → M PV
  | [p] => optM ((seqP p).map .lst)
  | _ => none
theorem cv_list {K : PySem.W.Frag} : CallV E (fun xs H Q => ∃ p ys, xs = [.ref p] ∧ (SqL K H p ys ∨ SqT K H p ys) ∧ ∀ l, H l = none → Q (.ref l) (upd H l (.lst ys))) listP := by
  intro σ Hs H ps vs Q s r h
  match ps, r with
  | [], _ => exact h.elim
  | _ :: _ :: _, _ => exact h.elim
  | [p], r =>
    obtain ⟨v, rfl, rp⟩ := r.one
    obtain ⟨x, ex, h⟩ := Post.opt h
    obtain ⟨xs, hp, rfl⟩ := Option.map_eq_some_iff.mp ex
    obtain ⟨a, us, rfl, hq, hx⟩ := seq_of (K := K) s rp hp
    exact ⟨a, us, rfl, hq, PVK.lst h s hx⟩
def tupleP : List PV → M PV
  | [p] => optM ((seqP p).map .tup)
  | _ => none
theorem cv_tuple {K : PySem.W.Frag} : CallV E (fun xs H Q => ∃ p ys, xs = [.ref p] ∧ ((SqL K H p ys ∧ ∀ l, H l = none → Q (.ref l) (upd H l (.tup ys))) ∨ (SqT K H p ys ∧ Q (.ref p) H))) tupleP := by
  intro σ Hs H ps vs Q s r h
  match ps, r with
  | [], _ => exact h.elim
  | _ :: _ :: _, _ => exact h.elim
  | [p], r =>
    obtain ⟨v, rfl, rp⟩ := r.one
    obtain ⟨x, ex, h⟩ := Post.opt h
    obtain ⟨xs, hp, rfl⟩ := Option.map_eq_some_iff.mp ex
    cases rp with
    | tup ha hx => cases hp; exact ⟨_, _, rfl, .inr ⟨SqT.of (s _ _ ha), PVK.flat h s (.tup ha hx)⟩⟩
    | lst ha hx => cases hp; exact ⟨_, _, rfl, .inl ⟨SqL.of (s _ _ ha), PVK.tup h s hx⟩⟩
    | scr ha hx => cases hp; exact ⟨_, _, rfl, .inl ⟨.inl (.inr ⟨_, s _ _ ha⟩), PVK.tup h s hx⟩⟩
    | _ => cases hp
def intsP : List PV → Option (List Int)
  | [] => some []
  | .int i :: r => (intsP r).map (i :: ·)
  | _ => none
def blsP : List PV → Option (List Bool)
  | [] => some []
  | .bl i :: r => (blsP r).map (i :: ·)
  | _ => none
theorem ints_eq : ∀ {ps : List PV} {ns : List Int}, intsP ps = some ns → ps = ns.map PV.int
  | [], _, e => by cases e; rfl
  | .int i :: r, _, e => by
    obtain ⟨ms, h1, rfl⟩ := Option.map_eq_some_iff.mp e
    rw [ints_eq h1]; rfl
theorem bls_eq : ∀ {ps : List PV} {ns : List Bool}, blsP ps = some ns → ps = ns.map PV.bl
  | [], _, e => by cases e; rfl
  | .bl i :: r, _, e => by
    obtain ⟨ms, h1, rfl⟩ := Option.map_eq_some_iff.mp e
    rw [bls_eq h1]; rfl
theorem intsP_map : ∀ (ns : List Int), intsP (ns.map PV.int) = some ns
  | [] => rfl
  | n :: r => by show (intsP (r.map PV.int)).map (n :: ·) = _; rw [intsP_map r]; rfl
theorem blsP_map : ∀ (ns : List Bool), blsP (ns.map PV.bl) = some ns
  | [] => rfl
  | n :: r => by show (blsP (r.map PV.bl)).map (n :: ·) = _; rw [blsP_map r]; rfl
def sum1 : PV → M PV
  | .lst xs => optM ((intsP xs).map fun ns => .int ns.sum)
  | _ => none
def sumP : List PV → M PV
  | [p] => sum1 p
  | _ => none
theorem cv_sum {K : PySem.W.Frag} : CallV E (fun xs H Q => ∃ (a : Addr) (ns : List Int), xs = [.ref a] ∧ SqL K H a (ns.map V.int) ∧ Q (.int ns.sum) H) sumP := by
  intro σ Hs H ps vs Q s r h
  match ps, r with
  | [], _ => exact h.elim
  | _ :: _ :: _, _ => exact h.elim
  | [p], r =>
    obtain ⟨v, rfl, rp⟩ := r.one
    cases rp with
    | lst ha hx =>
      obtain ⟨x, ex, h⟩ := Post.opt h
      obtain ⟨ns, hn, rfl⟩ := Option.map_eq_some_iff.mp ex
      rw [ints_eq hn] at hx
      exact ⟨_, ns, rfl, hx.ints ▸ SqL.of (s _ _ ha), PVK.flat h s (.int _)⟩
    | _ => exact h.elim
def all1 : PV → M PV
  | .lst xs => optM ((blsP xs).map fun ns => .bl (ns.all id))
  | _ => none
def allP : List PV → M PV
  | [p] => all1 p
  | _ => none
theorem cv_all {K : PySem.W.Frag} : CallV E (fun xs H Q => ∃ (a : Addr) (bs : List Bool), xs = [.ref a] ∧ SqL K H a (bs.map V.bl) ∧ Q (.bl (bs.all id)) H) allP := by
  intro σ Hs H ps vs Q s r h
  match ps, r with
  | [], _ => exact h.elim
  | _ :: _ :: _, _ => exact h.elim
  | [p], r =>
    obtain ⟨v, rfl, rp⟩ := r.one
    cases rp with
    | lst ha hx =>
      obtain ⟨x, ex, h⟩ := Post.opt h
      obtain ⟨ns, hn, rfl⟩ := Option.map_eq_some_iff.mp ex
      rw [bls_eq hn] at hx
      exact ⟨_, ns, rfl, hx.bls ▸ SqL.of (s _ _ ha), PVK.flat h s (.bl _)⟩
    | _ => exact h.elim
def int2 (o : Int → Int → Int) : PV → PV → M PV
  | .int i, .int j => M.ok (.int (o i j))
  | _, _ => none
def int2P (o : Int → Int → Int) : List PV → M PV
  | [p, q] => int2 o p q
  | _ => none
theorem cv_int2 {o : Int → Int → Int} : CallV E (fun xs H Q => ∃ i j, xs = [.int i, .int j] ∧ Q (.int (o i j)) H) (int2P o) := by
  intro σ Hs H ps vs Q s r h
  match ps, r with
  | [], _ => exact h.elim
  | [_], _ => exact h.elim
  | _ :: _ :: _ :: _, _ => exact h.elim
  | [p, q], r =>
    obtain ⟨v, u, rfl, rp, rq⟩ := r.two
    cases rp with
    | int i => cases rq with
      | int j => exact ⟨i, j, rfl, PVK.flat h s (.int _)⟩
      | _ => exact h.elim
    | _ => exact h.elim
end
def spV (n : Nat) (sem : List PV → M PV) : Sp := fun vs H Q E => vs.length = n ∧ ∃ Hs ps, Same Hs H ∧ RepL Hs ps vs ∧ Post (sem ps) (PVK Hs H Q) (XW E Hs H)
section
variable {X : Cx} {E : St → XK} {k n : Nat} {f C : Addr} {fd : FuncData} {ps : List Str} {sem : List PV → M PV} {x m : Str} {p pos apos : Pos} {e o : Expr} {es : List Expr} {fs : PEnv → M (List PV)} {g : PEnv → M PV}
theorem pv_call {ds : List Value} {dvs : List V} {dps : List PV} (F : FnOk X.prog X.w X.K X.mg X.base (CXV X.prog X.w) k f fd ps (spV n sem)) (hr : Room k X.A) (hg : Gl X x) (hm : X.mg x = some (.ref f)) (hk : PySem.W.keepIn X.K (.ref f) = true) (hb : Binds X.K fd ps ds) (hd : Vals dvs ds) (hdp : ∀ H, RepL H dps dvs) (O : Outs X E)
    (hl : ∀ ps, sem (ps ++ dps) ≠ none → ps.length + dps.length = n)
    (ha : PA X (e :: es) (tL E fs)) (hdb : (x == ("__debug__" : Str)) = false := by decide) (he : starEach (e :: es) X.env = (false, eval e X.env) :: starEach es X.env := by rfl) (hpl : (backTo pos (starEach es X.env)).any (·.1) = false := by rfl) :
    PE X (.Call (.Name x p) (e :: es) [] pos) (tE E (callV' (fun ps => sem (ps ++ dps)) fs)) := by
  refine (pe_callV F hr hg hm hk hb hd O ha hdb he hpl).imp fun σ H Q q => tG_bindL (K := KV' Q) KV'.g q fun B H₀ Hs H1 env ps' v sr rp hp => ?_
  have r2 : RepL Hs (ps' ++ dps) (v ++ dvs) := rp.append (hdp Hs)
  have hn : sem (ps' ++ dps) ≠ none := fun z => by rw [z] at hp; exact hp
  refine ⟨?_, Hs, ps' ++ dps, sr.gr.sub, r2, hp⟩
  rw [← r2.length, List.length_append]
  exact hl ps' hn
def fldV (ok : Addr → Bool) (f : Str) (g : PEnv → M PV) : PEnv → M PV := fun env => (g env).bind fun p => match p with
  | .obj C fs => grd (ok C = true) (optM (fs.lookup f))
  | _ => none
theorem pv_fld {ok : Addr → Bool} {fl : Str} (he : PE X e (tE E g)) (hok : ∀ C, ok C = true → Cls X.K C ∧ NoAttr X.K C fl) (hb : attributeBase e fl X.env (eval e X.env) = eval e X.env) : PE X (.Attribute e fl pos) (tE E (fldV ok fl g)) := by
  refine (pe_fld he hb).imp fun σ H Q q => tG_bindV (K := KV' Q) KV'.g q fun B H₀ Hs H1 env p v sr rp hp => ?_
  cases rp with
  | obj ha hx =>
    obtain ⟨hc, hp⟩ := Post.grd hp
    obtain ⟨x, ex, hp⟩ := Post.opt hp
    obtain ⟨u, h1, h2⟩ := hx.look ex
    exact ⟨_, _, _, _, u, rfl, sr.gr.sub _ _ ha, (hok _ hc).1, (hok _ hc).2, h1, PVK.flat hp sr.gr.sub h2⟩
  | _ => exact hp.elim
def methV (C : Addr) (m : Str) (sem : List PV → M PV) (g : PEnv → M PV) (fs : PEnv → M (List PV)) : PEnv → M PV := fun env => (g env).bind fun p => match p with
  | .obj C' fl => grd (C' = C ∧ fl.lookup m = none) ((fs env).bind fun ps => sem (.obj C' fl :: ps))
  | _ => none
theorem pv_meth0 {pl : Sem Bool} (he : PE X o (tE E g)) (c : Cls X.K C) (hm : Meth X.K C m f) (F : FnOk X.prog X.w X.K X.mg X.base (CXV X.prog X.w) k f fd ps (spV n sem)) (hr : Room k X.A) (hb : Binds X.K fd ps []) (O : Outs X E) (hl : ∀ ps, sem ps ≠ none → ps.length = n)
    (ht : eval (.Call (.Attribute o m apos) [] [] pos) X.env = (do
      let ov ← eval o X.env
      standAt apos.atName
      let (f, first) ← holding [ov] (getMethod ov m pl)
      callWith pos f first (backTo pos (starEach [] X.env)) (backToKw pos (keywordEach [] X.env))) := by rfl) :
    PE X (.Call (.Attribute o m apos) [] [] pos) (tE E (methV C m sem g nilL)) := by
  refine (pe_meth0V he c hm F hr hb .nil O ht).imp fun σ H Q q => tG_bindV (K := KV' Q) KV'.g q fun B H₀ Hs H1 env p v sr rp hp => ?_
  cases rp with
  | @obj a C' dx fl fvs ho hx =>
    obtain ⟨⟨e1, hn⟩, hp2⟩ := Post.grd hp
    subst e1
    have r2 : RepL Hs [.obj C' fl] [V.ref a] := .cons (Rep.obj ho hx) .nil
    have hn' : sem [.obj C' fl] ≠ none := fun z => by
      have hp' : Post (sem [.obj C' fl]) (PVK Hs H1 Q) (XW (E σ) Hs H1) := hp2
      rw [z] at hp'; exact hp'
    exact ⟨a, dx, fvs, rfl, sr.gr.sub _ _ ho, hx.none hn, by rw [show ([] : List V) ++ [] = [] from rfl]; exact r2.length ▸ hl _ hn', Hs, _, sr.gr.sub, r2, hp2⟩
  | _ => exact hp.elim
end
end L2
namespace L2
open PySem PySem.Spec PyProof.Rows
inductive Out where
  | nx (env : PEnv) | rt (p : PV) | bk (env : PEnv) | ct (env : PEnv)
def KS (D : Ends) (B H₀ : Hp) : Out → Prop
  | .nx env => ∀ σ Hs H, SR B H₀ Hs H σ env → D.nx σ H
  | .rt p => ∀ v Hs H, Grow B H₀ Hs H → Rep Hs p v → D.rt v H
  | .bk env => ∀ σ Hs H, SR B H₀ Hs H σ env → D.bk σ H
  | .ct env => ∀ σ Hs H, SR B H₀ Hs H σ env → D.ct σ H
def tS (E : XK) (f : PEnv → M Out) : TS := fun D σ H => ∃ B H₀ Hs env, SR B H₀ Hs H σ env ∧ Post (f env) (KS D B H₀) (XW E B H₀)
theorem PS.imp {X : Cx} {st : Stmt} {t t' : TS} (h : PS X st t) (i : ∀ D σ H, t' D σ H → t D σ H) : PS X st t' := fun pins s σ H D I q => h pins s σ H D I (i D σ H q)
theorem PSs.imp {X : Cx} {st : List Stmt} {t t' : TS} (h : PSs X st t) (i : ∀ D σ H, t' D σ H → t D σ H) : PSs X st t' := fun pins s σ H D I q => h pins s σ H D I (i D σ H q)
def nextS : PEnv → M Out := fun env => M.ok (.nx env)
def thenS (g : PEnv → M Out) : Out → M Out
  | .nx env => g env
  | o => M.ok o
def seqS (f g : PEnv → M Out) : PEnv → M Out := fun env => (f env).bind (thenS g)
theorem tS_bindV {E : XK} {f : PEnv → M PV} {g : PEnv → PV → M Out} {D : Ends} {σ : St} {H : Hp} {R : VK} (h : tS E (fun env => (f env).bind (g env)) D σ H)
    (k : ∀ B H₀ Hs H1 env p v, SR B H₀ Hs H1 σ env → Rep Hs p v → Post (g env p) (KS D B H₀) (XW E B H₀) → R v H1) : tE (fun _ => E) f σ H R := by
  obtain ⟨B, H₀, Hs, env, sr, h⟩ := h
  refine ⟨B, H₀, Hs, env, sr, (Post.bind h).imp (fun p hp v Hs' H' g r => ?_) fun e he => he.grow sr.gr⟩
  exact k B H₀ Hs' H' env p v (sr.grow g) r hp
theorem tS_bindB {E : XK} {f : PEnv → M Bool} {g : PEnv → Bool → M Out} {D : Ends} {σ : St} {H : Hp} {R : Bool → Hp → Prop} (h : tS E (fun env => (f env).bind (g env)) D σ H)
    (k : ∀ B H₀ Hs H1 env p, SR B H₀ Hs H1 σ env → Post (g env p) (KS D B H₀) (XW E B H₀) → R p H1) : tT (fun _ => E) f σ H R := by
  obtain ⟨B, H₀, Hs, env, sr, h⟩ := h
  refine ⟨B, H₀, Hs, env, sr, (Post.bind h).imp (fun p hp Hs' H' g => ?_) fun e he => he.grow sr.gr⟩
  exact k B H₀ Hs' H' env p (sr.grow g) hp
theorem tS_bindL {E : XK} {f : PEnv → M (List PV)} {g : PEnv → List PV → M Out} {D : Ends} {σ : St} {H : Hp} {R : List V → Hp → Prop} (h : tS E (fun env => (f env).bind (g env)) D σ H)
    (k : ∀ B H₀ Hs H1 env p v, SR B H₀ Hs H1 σ env → RepL Hs p v → Post (g env p) (KS D B H₀) (XW E B H₀) → R v H1) : tL (fun _ => E) f σ H R := by
  obtain ⟨B, H₀, Hs, env, sr, h⟩ := h
  refine ⟨B, H₀, Hs, env, sr, (Post.bind h).imp (fun p hp v Hs' H' g r => ?_) fun e he => he.grow sr.gr⟩
  exact k B H₀ Hs' H' env p v (sr.grow g) r hp
theorem SR.set {B H₀ Hs H : Hp} {σ : St} {env : PEnv} {p : PV} {v : V} {i : Nat} (r : SR B H₀ Hs H σ env) (h : Rep Hs p v) : SR B H₀ Hs H (σ.set i (some v)) (env.set i (some (.sh p))) where
  gr := r.gr
  len := by rw [List.length_set, List.length_set]; exact r.len
  sh := fun j q e => by
    rw [List.getElem?_set] at e ⊢
    by_cases z : i = j
    · subst z
      rw [if_pos rfl] at e ⊢
      split at e
      · cases e
        rw [if_pos (by rw [r.len]; assumption)]
        exact ⟨v, rfl, h⟩
      · cases e
    · rw [if_neg z] at e ⊢
      exact r.sh j q e
  ow := fun j xs e => by
    rw [List.getElem?_set] at e ⊢
    by_cases z : i = j
    · subst z
      rw [if_pos rfl] at e
      split at e <;> cases e
    · rw [if_neg z] at e ⊢
      exact r.ow j xs e
  sep := fun j k xs ys a n e1 e2 e3 e4 => by
    rw [List.getElem?_set] at e1 e2 e3 e4
    by_cases z : i = j
    · subst z
      rw [if_pos rfl] at e1
      split at e1 <;> cases e1
    · by_cases z2 : i = k
      · subst z2
        rw [if_pos rfl] at e2
        split at e2 <;> cases e2
      · rw [if_neg z] at e1 e3
        rw [if_neg z2] at e2 e4
        exact r.sep j k xs ys a n e1 e2 e3 e4
  bd := fun j a C fs e => by
    rw [List.getElem?_set] at e ⊢
    by_cases z : i = j
    · subst z
      rw [if_pos rfl] at e
      split at e <;> cases e
    · rw [if_neg z] at e ⊢
      exact r.bd j a C fs e
  one := fun j k a b C D fs gs e1 e2 => by
    rw [List.getElem?_set] at e1 e2
    by_cases z : i = j
    · subst z
      rw [if_pos rfl] at e1
      split at e1 <;> cases e1
    · by_cases z2 : i = k
      · subst z2
        rw [if_pos rfl] at e2
        split at e2 <;> cases e2
      · rw [if_neg z] at e1
        rw [if_neg z2] at e2
        exact r.one j k _ _ C D fs gs e1 e2
theorem SR.own {B H₀ Hs H : Hp} {σ : St} {env : PEnv} {xs : List PV} {vs : List V} {i : Nat} {p : Addr} (r : SR B H₀ Hs H σ env) (h : RepL Hs xs vs) (n : H p = none) : SR B H₀ Hs (upd H p (.lst vs)) (σ.set i (some (.ref p))) (env.set i (some (.ow xs))) := by
  have ne : ∀ c u, H c = some u → c ≠ p := fun c u e z => by rw [z, n] at e; cases e
  have hs : Hs p = none := by
    cases q : Hs p with
    | none => rfl
    | some o => have := r.gr.sub _ _ q; rw [n] at this; cases this
  have h0 : H₀ p = none := by
    cases q : H₀ p with
    | none => rfl
    | some o => have := r.gr.al _ _ q; rw [n] at this; cases this
  refine ⟨⟨r.gr.st, fun c u e => by rw [upd_ne (ne c u (r.gr.al c u e))]; exact r.gr.al c u e, fun c u e => by rw [upd_ne (ne c u (r.gr.sub c u e))]; exact r.gr.sub c u e, r.gr.nw⟩, by rw [List.length_set, List.length_set]; exact r.len, fun j q e => ?_, fun j ys e => ?_, fun j k ys zs a nj e1 e2 e3 e4 => ?_, fun j ba C fs e => ?_, fun j k _ _ C D fs gs e1 e2 => ?_⟩
  · rw [List.getElem?_set] at e ⊢
    by_cases z : i = j
    · subst z
      rw [if_pos rfl] at e
      split at e <;> cases e
    · rw [if_neg z] at e ⊢
      exact r.sh j q e
  · rw [List.getElem?_set] at e ⊢
    by_cases z : i = j
    · subst z
      rw [if_pos rfl] at e ⊢
      split at e
      · cases e
        rw [if_pos (by rw [r.len]; assumption)]
        exact ⟨p, vs, rfl, upd_same, hs, h0, h⟩
      · cases e
    · rw [if_neg z] at e ⊢
      obtain ⟨a, us, h1, h2, h3, h4, h5⟩ := r.ow j ys e
      exact ⟨a, us, h1, by rw [upd_ne (ne a _ h2)]; exact h2, h3, h4, h5⟩
  · rw [List.getElem?_set] at e1 e2 e3 e4
    by_cases z : i = j
    · subst z
      rw [if_pos rfl] at e3
      split at e3
      · cases e3
        rw [if_neg nj] at e2 e4
        obtain ⟨a', us, h1, h2, _⟩ := r.ow k zs e2
        rw [e4] at h1; cases h1
        rw [n] at h2; cases h2
      · cases e3
    · rw [if_neg z] at e1 e3
      by_cases z2 : i = k
      · subst z2
        rw [if_pos rfl] at e4
        split at e4
        · cases e4
          obtain ⟨a', us, h1, h2, _⟩ := r.ow j ys e1
          rw [e3] at h1; cases h1
          rw [n] at h2; cases h2
        · cases e4
      · rw [if_neg z2] at e2 e4
        exact r.sep j k ys zs a nj e1 e2 e3 e4
  · rw [List.getElem?_set] at e ⊢
    by_cases z : i = j
    · subst z
      rw [if_pos rfl] at e
      split at e <;> cases e
    · rw [if_neg z] at e ⊢
      obtain ⟨dx, us, h1, h2, h3, h4, h5⟩ := r.bd j ba C fs e
      exact ⟨dx, us, h1, by rw [upd_ne (ne ba _ h2)]; exact h2, h3, h4, h5⟩
  · rw [List.getElem?_set] at e1 e2
    by_cases z : i = j
    · subst z
      rw [if_pos rfl] at e1
      split at e1 <;> cases e1
    · by_cases z2 : i = k
      · subst z2
        rw [if_pos rfl] at e2
        split at e2 <;> cases e2
      · rw [if_neg z] at e1
        rw [if_neg z2] at e2
        exact r.one j k _ _ C D fs gs e1 e2
def frzE (i : Nat) (env : PEnv) : PEnv := match env[i]? with
  | some (some (.ow xs)) => env.set i (some (.sh (.lst xs)))
  | _ => env
theorem SR.frz {B H₀ Hs H : Hp} {σ : St} {env : PEnv} (i : Nat) (r : SR B H₀ Hs H σ env) : ∃ Hs', SR B H₀ Hs' H σ (frzE i env) ∧ Same Hs Hs' := by
  unfold frzE
  split
  · rename_i xs e
    obtain ⟨a, vs, h1, h2, h3, h4, h5⟩ := r.ow i xs e
    have ne : ∀ c u, Hs c = some u → c ≠ a := fun c u q z => by rw [z, h3] at q; cases q
    have hst : Same Hs (upd Hs a (.lst vs)) := fun c u q => by rw [upd_ne (ne c u q)]; exact q
    refine ⟨upd Hs a (.lst vs), ⟨⟨fun c u q => hst c u (r.gr.st c u q), r.gr.al, fun c u q => ?_, fun c u q1 q2 => ?_⟩, by rw [List.length_set]; exact r.len, fun j q ej => ?_, fun j ys ej => ?_, fun j k ys zs b nj e1 e2 e3 e4 => ?_, fun j ba C fs ej => ?_, fun j k _ _ C D fs gs e1 e2 => ?_⟩, hst⟩
    · by_cases z : c = a
      · subst z; rw [upd_same] at q; cases q; exact h2
      · rw [upd_ne z] at q; exact r.gr.sub c u q
    · have z : c ≠ a := fun z => by rw [z, h4] at q2; cases q2
      rw [upd_ne z]; exact r.gr.nw c u q1 q2
    · rw [List.getElem?_set] at ej
      by_cases z : i = j
      · subst z
        rw [if_pos rfl] at ej
        split at ej
        · cases ej
          exact ⟨.ref a, h1, .lst upd_same (h5.mono hst)⟩
        · cases ej
      · rw [if_neg z] at ej
        obtain ⟨v, q1, q2⟩ := r.sh j q ej
        exact ⟨v, q1, q2.mono hst⟩
    · rw [List.getElem?_set] at ej
      by_cases z : i = j
      · subst z
        rw [if_pos rfl] at ej
        split at ej <;> cases ej
      · rw [if_neg z] at ej
        obtain ⟨b, us, q1, q2, q3, q4, q5⟩ := r.ow j ys ej
        have nb : b ≠ a := fun w => by subst w; exact r.sep i j xs ys b z e ej h1 q1
        exact ⟨b, us, q1, q2, by rw [upd_ne nb]; exact q3, q4, q5.mono hst⟩
    · rw [List.getElem?_set] at e1 e2
      by_cases z : i = j
      · subst z
        rw [if_pos rfl] at e1
        split at e1 <;> cases e1
      · by_cases z2 : i = k
        · subst z2
          rw [if_pos rfl] at e2
          split at e2 <;> cases e2
        · rw [if_neg z] at e1
          rw [if_neg z2] at e2
          exact r.sep j k ys zs b nj e1 e2 e3 e4
    · rw [List.getElem?_set] at ej
      by_cases z : i = j
      · subst z
        rw [if_pos rfl] at ej
        split at ej <;> cases ej
      · rw [if_neg z] at ej
        obtain ⟨dx, us, q1, q2, q3, q4, q5⟩ := r.bd j ba C fs ej
        have nb : ba ≠ a := fun w => by subst w; rw [h2] at q2; cases q2
        exact ⟨dx, us, q1, q2, by rw [upd_ne nb]; exact q3, q4, q5.mono hst⟩
    · rw [List.getElem?_set] at e1 e2
      by_cases z : i = j
      · subst z
        rw [if_pos rfl] at e1
        split at e1 <;> cases e1
      · by_cases z2 : i = k
        · subst z2
          rw [if_pos rfl] at e2
          split at e2 <;> cases e2
        · rw [if_neg z] at e1
          rw [if_neg z2] at e2
          exact r.one j k _ _ C D fs gs e1 e2
  · exact ⟨Hs, r, fun _ _ q => q⟩
def frzS (is : List Nat) (f : PEnv → M Out) : PEnv → M Out := fun env => f (is.foldl (fun e i => frzE i e) env)
theorem SR.frzs {B H₀ H : Hp} {σ : St} : ∀ {is : List Nat} {Hs : Hp} {env : PEnv}, SR B H₀ Hs H σ env → ∃ Hs', SR B H₀ Hs' H σ (is.foldl (fun e i => frzE i e) env) ∧ Same Hs Hs'
  | [], Hs, _, r => ⟨Hs, r, fun _ _ q => q⟩
  | i :: is, _, _, r => by
    obtain ⟨Hs1, r1, s1⟩ := r.frz i
    obtain ⟨Hs2, r2, s2⟩ := SR.frzs (is := is) r1
    exact ⟨Hs2, r2, fun c u q => s2 c u (s1 c u q)⟩
section
variable {X : Cx} {E : XK} {e : Expr} {pos pos' : Pos} {f : PEnv → M PV} {st : Stmt} {sts rest : List Stmt} {u : PEnv → M Bool} {g h : PEnv → M Out} {i : Nat} {x : Str}
theorem pS_frz (is : List Nat) (hs : PS X st (tS E g)) : PS X st (tS E (frzS is g)) := hs.imp fun D σ H q => by
  obtain ⟨B, H₀, Hs, env, sr, q⟩ := q
  obtain ⟨Hs', r, _⟩ := sr.frzs (is := is)
  exact ⟨B, H₀, Hs', _, r, q⟩
theorem pSs_nil : PSs X [] (tS E nextS) := pss_nil.imp fun D σ H q => by
  obtain ⟨B, H₀, Hs, env, sr, q⟩ := q
  exact q σ Hs H sr
theorem pSs_cons (h1 : PS X st (tS E g)) (h2 : PSs X rest (tS E h)) : PSs X (st :: rest) (tS E (seqS g h)) := by
  refine (pss_cons h1 h2).imp fun D σ H q => ?_
  obtain ⟨B, H₀, Hs, env, sr, q⟩ := q
  refine ⟨B, H₀, Hs, env, sr, (Post.bind q).imp (fun o ho => ?_) fun e he => he⟩
  cases o with
  | nx env' => exact fun σ' Hs' H' sr' => ⟨B, H₀, Hs', env', sr', ho⟩
  | rt p => exact ho
  | bk env' => exact ho
  | ct env' => exact ho
def setS (i : Nat) (f : PEnv → M PV) : PEnv → M Out := fun env => (f env).bind fun p => M.ok (.nx (env.set i (some (.sh p))))
theorem pS_set {pos' : Pos} (hN : X.N.Nodup) (hi : X.N[i]? = some x) (hx : Loc X.env.scope x) (he : PE X e (tE (fun _ => E) f)) (hs : swapsWith e (some (.Name x pos')) pos.line X.env = pure false := by rfl) (hf : X.fn x = true ∨ X.env.scope.names.lookup x = some .local := by first | exact .inl rfl | exact .inr rfl | assumption) :
    PS X (.Assign [.Name x pos'] e pos) (tS E (setS i f)) :=
  (ps_set hN hi hx he hs hf).imp fun D σ H q => tS_bindV q fun B H₀ Hs H1 env p v sr rp hp => hp _ Hs H1 (sr.set rp)
def retS (f : PEnv → M PV) : PEnv → M Out := fun env => (f env).bind fun p => M.ok (.rt p)
theorem pS_ret (he : PE X e (tE (fun _ => E) f)) : PS X (.Return (some e) pos) (tS E (retS f)) :=
  (ps_ret he).imp fun D σ H q => tS_bindV q fun B H₀ Hs H1 env p v sr rp hp => hp v Hs H1 sr.gr rp
def dropS (f : PEnv → M PV) : PEnv → M Out := fun env => (f env).bind fun _ => M.ok (.nx env)
theorem pS_expr (he : PE X e (tE (fun _ => E) f)) (hs : swapsWith e none pos.line X.env = pure false := by rfl) : PS X (.Expr e pos) (tS E (dropS f)) :=
  (ps_expr he hs).imp fun D σ H q => tS_bindV q fun B H₀ Hs H1 env p v sr rp hp => hp σ Hs H1 sr
def ifS (u : PEnv → M Bool) (g h : PEnv → M Out) : PEnv → M Out := fun env => (u env).bind fun b => if b = true then g env else h env
theorem pS_if {c : Expr} {a b : List Stmt} (hc : PT X c (tT (fun _ => E) u)) (ha : PSs X a (tS E g)) (hb : PSs X b (tS E h)) : PS X (.If c a b pos) (tS E (ifS u g h)) := by
  refine (ps_if hc ha hb).imp fun D σ H q => tS_bindB q fun B H₀ Hs H1 env p sr hp => ?_
  cases p with
  | true => exact ⟨B, H₀, Hs, env, sr, hp⟩
  | false => exact ⟨B, H₀, Hs, env, sr, hp⟩
end
end L2
namespace L2
open PySem PySem.Spec PyProof.Rows
def ov (Hs H₀ : Hp) : Hp := fun a => match Hs a with
  | some o => some o
  | none => H₀ a
theorem ov_some {Hs H₀ : Hp} {a : Addr} {o : HO} (h : Hs a = some o) : ov Hs H₀ a = some o := by unfold ov; rw [h]
theorem ov_none {Hs H₀ : Hp} {a : Addr} (h : Hs a = none) : ov Hs H₀ a = H₀ a := by unfold ov; rw [h]
theorem ov_same {Hs H₀ H : Hp} (s : Same Hs H) (t : Same H₀ H) : Same (ov Hs H₀) H := fun a o e => by
  cases q : Hs a with
  | some o' => rw [ov_some q] at e; cases e; exact s _ _ q
  | none => rw [ov_none q] at e; exact t _ _ e
theorem SR.rebase {B H₀ Hs H : Hp} {σ : St} {env : PEnv} (r : SR B H₀ Hs H σ env) : SR Hs (ov Hs H₀) Hs H σ env where
  gr := ⟨fun _ _ e => e, ov_same r.gr.sub r.gr.al, r.gr.sub, fun _ _ e _ => e⟩
  len := r.len
  sh := r.sh
  ow := fun i xs e => let ⟨a, vs, h1, h2, h3, h4, h5⟩ := r.ow i xs e; ⟨a, vs, h1, h2, h3, by rw [ov_none h3]; exact h4, h5⟩
  sep := r.sep
  bd := fun i a C fs e => let ⟨dx, vs, h1, h2, h3, h4, h5⟩ := r.bd i a C fs e; ⟨dx, vs, h1, h2, h3, by rw [ov_none h3]; exact h4, h5⟩
  one := r.one
theorem Grow.unbase {B H₀ Hs H Hs2 H2 : Hp} (g : Grow B H₀ Hs H) (g2 : Grow Hs (ov Hs H₀) Hs2 H2) : Grow B H₀ Hs2 H2 where
  st := fun a o e => g2.st a o (g.st a o e)
  al := fun a o e => by
    cases q : Hs a with
    | some o' =>
      have h1 := g.sub a o' q
      have h2 := g.al a o e
      rw [h1] at h2; cases h2
      exact g2.al a _ (ov_some q)
    | none => exact g2.al a o (by rw [ov_none q]; exact e)
  sub := g2.sub
  nw := fun a o e q => by
    have h1 := g.nw a o e q
    exact g2.nw a o h1 (by rw [ov_none h1]; exact q)
theorem SR.unbase {B H₀ Hs H Hs2 H2 : Hp} {σ : St} {env : PEnv} (g : Grow B H₀ Hs H) (r : SR Hs (ov Hs H₀) Hs2 H2 σ env) : SR B H₀ Hs2 H2 σ env where
  gr := g.unbase r.gr
  len := r.len
  sh := r.sh
  ow := fun i xs e => by
    obtain ⟨a, vs, h1, h2, h3, h4, h5⟩ := r.ow i xs e
    refine ⟨a, vs, h1, h2, h3, ?_, h5⟩
    cases q : Hs a with
    | some o => rw [ov_some q] at h4; cases h4
    | none => rw [ov_none q] at h4; exact h4
  sep := r.sep
  bd := fun i a C fs e => by
    obtain ⟨dx, vs, h1, h2, h3, h4, h5⟩ := r.bd i a C fs e
    refine ⟨dx, vs, h1, h2, h3, ?_, h5⟩
    cases q : Hs a with
    | some o => rw [ov_some q] at h4; cases h4
    | none => rw [ov_none q] at h4; exact h4
  one := r.one
theorem XW.rebase {E : XK} {B H₀ Hs H : Hp} (g : Grow B H₀ Hs H) {x : EX} (h : XW E B H₀ x) : XW E Hs (ov Hs H₀) x := fun ea Hs2 H2 r q => h ea Hs2 H2 (g.unbase r) q
def turnS (k : PEnv → M Out) : Out → M Out
  | .nx env => k env
  | .ct env => k env
  | .bk env => M.ok (.nx env)
  | .rt p => M.ok (.rt p)
def loopS (set : PV → PEnv → M PEnv) (body : PEnv → M Out) : List PV → PEnv → M Out
  | [], env => M.ok (.nx env)
  | x :: xs, env => (set x env).bind fun env' => (body env').bind (turnS (loopS set body xs))
def TGV (E : XK) (g : TG) (set : PV → PEnv → M PEnv) : Prop := ∀ (B H₀ Hs H : Hp) (σ : St) (env : PEnv) (p : PV) (v : V) (Q : St → Hp → Prop) (Z : EX → Prop), SR B H₀ Hs H σ env → Rep Hs p v → Post (set p env) (fun env' => ∀ σ', SR B H₀ Hs H σ' env' → Q σ' H) Z → g v σ H Q
def setN (i : Nat) (p : PV) (env : PEnv) : M PEnv := M.ok (env.set i (some (.sh p)))
theorem tg_name {E : XK} {i : Nat} : TGV E (gName i) (setN i) := fun B H₀ Hs H σ env p v Q Z sr r h => h _ (sr.set r)
def setT2 (i j : Nat) : PV → PEnv → M PEnv
  | .tup [p, q], env => M.ok ((env.set i (some (.sh p))).set j (some (.sh q)))
  | _, _ => none
theorem tg_tup2 {E : XK} {K : PySem.W.Frag} {i j : Nat} : TGV E (gTup K 2 (gCons (gName i) (gCons (gName j) gNil))) (setT2 i j) := by
  intro B H₀ Hs H σ env p v Q Z sr r h
  cases r with
  | @tup a xs vs ha hx =>
    match xs, hx with
    | [p, q], hx =>
      obtain ⟨v, u, rfl, rp, rq⟩ := hx.two
      exact ⟨a, [v, u], rfl, SqT.of (sr.gr.sub _ _ ha), rfl, v, [u], rfl, u, [], rfl, rfl, h _ ((sr.set rp).set rq)⟩
    | [], _ => exact h.elim
    | [_], _ => exact h.elim
    | _ :: _ :: _ :: _, _ => exact h.elim
  | _ => exact h.elim
section
variable {E : XK} {g : TG} {set : PV → PEnv → M PEnv} {body : PEnv → M Out} {D : Ends} {B H₀ Hs1 : Hp} {xs : List PV}
def Jv (E : XK) (set : PV → PEnv → M PEnv) (body : PEnv → M Out) (D : Ends) (B H₀ Hs1 : Hp) (xs : List PV) (i : Nat) (σ : St) (H : Hp) : Prop := ∃ Hs env, SR B H₀ Hs H σ env ∧ Same Hs1 Hs ∧ Post (loopS set body (xs.drop i) env) (KS D B H₀) (XW E B H₀)
theorem Jv.done {n : Nat} {σ : St} {H : Hp} (j : Jv E set body D B H₀ Hs1 xs n σ H) (hn : xs.length ≤ n) : D.nx σ H := by
  obtain ⟨Hs, env, sr, _, h⟩ := j
  rw [List.drop_eq_nil_of_le hn] at h
  exact h σ Hs H sr
theorem Jv.turn {i : Nat} {σ : St} {H H1 Hx : Hp} {x : PV} {v : V} (tg : TGV E g set) (hx : xs[i]? = some x) {Hs : Hp} {env : PEnv} (sr : SR B H₀ Hs H σ env) (s1 : Same Hs1 Hs) (h : Post (loopS set body (xs.drop i) env) (KS D B H₀) (XW E B H₀)) {Hs2 H2 : Hp} (gr : Grow Hs H Hs2 H2) (rv : Rep Hs2 x v) :
    g v σ H2 fun σ2 H3 => tS E body { D with nx := Jv E set body D B H₀ Hs1 xs (i + 1), ct := Jv E set body D B H₀ Hs1 xs (i + 1), bk := D.nx } σ2 H3 := by
  have hlt : i < xs.length := (List.getElem?_eq_some_iff.mp hx).1
  have hd : xs.drop i = x :: xs.drop (i + 1) := by
    rw [List.drop_eq_getElem_cons hlt]
    rw [List.getElem?_eq_getElem hlt] at hx
    rw [Option.some.inj hx]
  rw [hd] at h
  have sr2 := sr.grow gr
  refine tg B H₀ Hs2 H2 σ env x v _ _ sr2 rv ((Post.bind h).imp (fun env' h' σ' sr' => ?_) fun _ z => z)
  refine ⟨Hs2, ov Hs2 H₀, Hs2, env', sr'.rebase, (Post.bind h').imp (fun o ho => ?_) fun e he => he.rebase sr'.gr⟩
  cases o with
  | nx e2 => exact fun σ3 Hs3 H3 r => ⟨Hs3, e2, r.unbase sr'.gr, fun a o z => r.gr.st a o (gr.st a o (s1 a o z)), ho⟩
  | ct e2 => exact fun σ3 Hs3 H3 r => ⟨Hs3, e2, r.unbase sr'.gr, fun a o z => r.gr.st a o (gr.st a o (s1 a o z)), ho⟩
  | bk e2 => exact fun σ3 Hs3 H3 r => ho σ3 Hs3 H3 (r.unbase sr'.gr)
  | rt p => exact fun v3 Hs3 H3 r q => ho v3 Hs3 H3 (sr'.gr.unbase r) q
end
def forS (it : PEnv → M (List PV)) (set : PV → PEnv → M PEnv) (body : PEnv → M Out) : PEnv → M Out := fun env => (it env).bind fun xs => loopS set body xs env
def itemsOf (f : PEnv → M PV) : PEnv → M (List PV) := fun env => (f env).bind fun p => match seqP p with | some xs => M.ok xs | none => none
theorem seq_ofB {K : PySem.W.Frag} {Hs H : Hp} {p : PV} {v : V} {xs : List PV} (s : Same Hs H) (r : Rep Hs p v) (e : seqP p = some xs) : ∃ b a vs, v = .ref a ∧ (∀ Hs' H', Same Hs Hs' → Same Hs' H' → SqB K H' b a vs) ∧ RepL Hs xs vs := by
  cases r with
  | tup h r => cases e; exact ⟨false, _, _, rfl, fun Hs' H' s1 s2 => SqT.of (s2 _ _ (s1 _ _ h)), r⟩
  | lst h r => cases e; exact ⟨true, _, _, rfl, fun Hs' H' s1 s2 => SqL.of (s2 _ _ (s1 _ _ h)), r⟩
  | scr h r => cases e; exact ⟨true, _, _, rfl, fun Hs' H' s1 s2 => .inl (.inr ⟨_, s2 _ _ (s1 _ _ h)⟩), r⟩
  | _ => cases e
section
variable {X : Cx} {E : XK} {tg iter : Expr} {pos p : Pos} {f f2 : PEnv → M PV} {g : TG} {set : PV → PEnv → M PEnv} {body : PEnv → M Out} {bd : List Stmt}
end
end L2
namespace L2
open PySem PySem.Spec PyProof.Rows
def rngA : PV → M (List PV)
  | .int n => grd (-(2 ^ 62) ≤ n ∧ n < 2 ^ 62) (M.ok ((List.range n.toNat).map fun (i : Nat) => .int (0 + (i : Int))))
  | _ => none
def rng1 : List PV → M (List PV)
  | [p] => rngA p
  | _ => none
theorem rng1_some {ps : List PV} {α : Type} {k : List PV → M α} {Q : α → Prop} {Z : EX → Prop} (h : Post ((rng1 ps).bind k) Q Z) : ∃ n : Int, ps = [.int n] ∧ -(2 ^ 62) ≤ n ∧ n < 2 ^ 62 ∧ Post (k ((List.range n.toNat).map fun (i : Nat) => .int (0 + (i : Int)))) Q Z := by
  match ps with
  | [] => exact h.elim
  | _ :: _ :: _ => exact h.elim
  | [p] =>
    cases p with
    | int n =>
      obtain ⟨hc, h⟩ := Post.grd (Post.bind h)
      exact ⟨n, rfl, hc.1, hc.2, h⟩
    | _ => exact h.elim
def zip2 : List PV → M (List PV)
  | [p, q] => match seqP p, seqP q with
    | some xs, some ys => M.ok (List.zipWith (fun a b => .tup [a, b]) xs ys)
    | _, _ => none
  | _ => none
theorem zip2_some {ps : List PV} {α : Type} {k : List PV → M α} {Q : α → Prop} {Z : EX → Prop} (h : Post ((zip2 ps).bind k) Q Z) : ∃ p q xs ys, ps = [p, q] ∧ seqP p = some xs ∧ seqP q = some ys ∧ Post (k (List.zipWith (fun a b => .tup [a, b]) xs ys)) Q Z := by
  match ps with
  | [] => exact h.elim
  | [_] => exact h.elim
  | _ :: _ :: _ :: _ => exact h.elim
  | [p, q] =>
    unfold zip2 at h
    dsimp only at h
    cases e1 : seqP p with
    | none => rw [e1] at h; exact h.elim
    | some xs =>
      cases e2 : seqP q with
      | none => rw [e1, e2] at h; exact h.elim
      | some ys => rw [e1, e2] at h; exact ⟨p, q, xs, ys, rfl, e1, e2, h⟩
theorem range_get {n i : Nat} {f : Nat → PV} (h : i < n) : ((List.range n).map f)[i]? = some (f i) := by
  rw [List.getElem?_map, List.getElem?_range h]; rfl
section
variable {X : Cx} {E : XK} {tg a b l l1 l2 : Expr} {pos p tp : Pos} {fs : PEnv → M (List PV)} {g : TG} {set : PV → PEnv → M PEnv} {body : PEnv → M Out} {bd : List Stmt}
end
def KO (Q : VK) : Hp → Hp → List PV → Prop := fun Hs H ps => ∀ vs p Hs' H', Grow Hs H Hs' H' → RepL Hs' ps vs → H' p = none → Q (.ref p) (upd H' p (.lst vs))
def tO (E : St → XK) (f : PEnv → M (List PV)) : TE := fun σ H Q => tG E f (KO Q) σ H
section
variable {X : Cx} {E : XK} {e : Expr} {es : List Expr} {pos pos' : Pos} {fs : PEnv → M (List PV)} {f : PEnv → M PV} {i : Nat} {x : Str}
def setO (i : Nat) (f : PEnv → M (List PV)) : PEnv → M Out := fun env => (f env).bind fun ps => M.ok (.nx (env.set i (some (.ow ps))))
theorem pS_setO {pos' : Pos} (hN : X.N.Nodup) (hi : X.N[i]? = some x) (hx : Loc X.env.scope x) (he : PE X e (tO (fun _ => E) fs)) (hs : swapsWith e (some (.Name x pos')) pos.line X.env = pure false := by rfl) (hf : X.fn x = true ∨ X.env.scope.names.lookup x = some .local := by first | exact .inl rfl | exact .inr rfl | assumption) :
    PS X (.Assign [.Name x pos'] e pos) (tS E (setO i fs)) := by
  refine (ps_set hN hi hx he hs hf).imp fun D σ H q => ?_
  obtain ⟨B, H₀, Hs, env, sr, q⟩ := q
  refine ⟨B, H₀, Hs, env, sr, (Post.bind q).imp (fun ps hp vs p Hs' H' g r n => ?_) fun e he => he.grow sr.gr⟩
  exact hp _ Hs' _ ((sr.grow g).own r n)
def dispO (fs : PEnv → M (List PV)) : PEnv → M (List PV) := fun env => (fs env).bind fun ps => if ps.length ≤ sizeLine then M.ok ps else none
theorem pO_lst {E : St → XK} (hr : PA X es (tL E fs)) : PE X (.List es pos) (tO E (dispO fs)) := by
  refine (pe_lst hr).imp fun σ H Q q => ?_
  obtain ⟨B, H₀, Hs, env, sr, q⟩ := q
  refine ⟨B, H₀, Hs, env, sr, (Post.bind q).imp (fun ps hp vs Hs' H' g r => ?_) fun e he => he⟩
  by_cases hz : ps.length ≤ sizeLine
  · rw [if_pos hz] at hp
    exact ⟨by rw [← r.length]; exact hz, fun p n => hp vs p Hs' H' g r n⟩
  · rw [if_neg hz] at hp; exact hp.elim
def appS (i : Nat) (f : PEnv → M PV) : PEnv → M Out := fun env => match env[i]? with
  | some (some (.ow xs)) => (f env).bind fun p => if xs.length < sizeLine then M.ok (.nx (env.set i (some (.ow (xs ++ [p]))))) else none
  | _ => none
theorem SR.put {B H₀ Hs H : Hp} {σ : St} {env : PEnv} {i : Nat} {a : Addr} {xs ys : List PV} {us : List V} (r : SR B H₀ Hs H σ env) (e : env[i]? = some (some (.ow xs))) (hi : σ[i]? = some (some (.ref a))) (h : RepL Hs ys us) : SR B H₀ Hs (upd H a (.lst us)) σ (env.set i (some (.ow ys))) := by
  obtain ⟨a', vs, h1, h2, h3, h4, h5⟩ := r.ow i xs e
  rw [hi] at h1; cases h1
  have nS : ∀ c u, Hs c = some u → c ≠ a := fun c u q z => by rw [z, h3] at q; cases q
  have n0 : ∀ c u, H₀ c = some u → c ≠ a := fun c u q z => by rw [z, h4] at q; cases q
  refine ⟨⟨r.gr.st, fun c u q => by rw [upd_ne (n0 c u q)]; exact r.gr.al c u q, fun c u q => by rw [upd_ne (nS c u q)]; exact r.gr.sub c u q, r.gr.nw⟩, by rw [List.length_set]; exact r.len, fun j q ej => ?_, fun j zs ej => ?_, fun j k y1 y2 b nj e1 e2 e3 e4 => ?_, fun j ba C fs ej => ?_, fun j k _ _ C D fs gs e1 e2 => ?_⟩
  · rw [List.getElem?_set] at ej
    by_cases z : i = j
    · subst z
      rw [if_pos rfl] at ej
      split at ej <;> cases ej
    · rw [if_neg z] at ej; exact r.sh j q ej
  · rw [List.getElem?_set] at ej
    by_cases z : i = j
    · subst z
      rw [if_pos rfl] at ej
      split at ej
      · cases ej; exact ⟨a, us, hi, upd_same, h3, h4, h⟩
      · cases ej
    · rw [if_neg z] at ej
      obtain ⟨b, ws, q1, q2, q3, q4, q5⟩ := r.ow j zs ej
      have nb : b ≠ a := fun w => by subst w; exact r.sep i j xs zs b z e ej hi q1
      exact ⟨b, ws, q1, by rw [upd_ne nb]; exact q2, q3, q4, q5⟩
  · have o1 : ∃ w, env[j]? = some (some (.ow w)) := by
      rw [List.getElem?_set] at e1
      by_cases z : i = j
      · subst z; exact ⟨xs, e⟩
      · rw [if_neg z] at e1; exact ⟨_, e1⟩
    have o2 : ∃ w, env[k]? = some (some (.ow w)) := by
      rw [List.getElem?_set] at e2
      by_cases z : i = k
      · subst z; exact ⟨xs, e⟩
      · rw [if_neg z] at e2; exact ⟨_, e2⟩
    obtain ⟨w1, o1⟩ := o1
    obtain ⟨w2, o2⟩ := o2
    exact r.sep j k w1 w2 b nj o1 o2 e3 e4
  · rw [List.getElem?_set] at ej
    by_cases z : i = j
    · subst z
      rw [if_pos rfl] at ej
      split at ej <;> cases ej
    · rw [if_neg z] at ej
      obtain ⟨dx, ws, q1, q2, q3, q4, q5⟩ := r.bd j ba C fs ej
      have nb : ba ≠ a := fun w => by subst w; rw [h2] at q2; cases q2
      exact ⟨dx, ws, q1, by rw [upd_ne nb]; exact q2, q3, q4, q5⟩
  · rw [List.getElem?_set] at e1 e2
    by_cases z : i = j
    · subst z
      rw [if_pos rfl] at e1
      split at e1 <;> cases e1
    · by_cases z2 : i = k
      · subst z2
        rw [if_pos rfl] at e2
        split at e2 <;> cases e2
      · rw [if_neg z] at e1
        rw [if_neg z2] at e2
        exact r.one j k _ _ C D fs gs e1 e2
theorem pS_append {apos cpos px : Pos} (hi : X.N[i]? = some x) (hv : Vis X.env.scope x) (he : PE X e (tE (fun _ => E) f)) (hd : (x == ("__debug__" : Str)) = false := by decide) (hcd : (x == ("__classdict__" : Str)) = false := by decide)
    (hbase : attributeBase (.Name x px) "append" X.env (eval (.Name x px) X.env) = eval (.Name x px) X.env := by rfl)
    (hfew : ((backTo cpos (starEach [e] X.env)).all (fun x => !x.1) && (backToKw cpos (keywordEach [] X.env)).all (fun x => x.1.isSome)
      && decide (([e] : List Expr).length + ([] : List Keyword).length + (if ([] : List Keyword).isEmpty then 0 else 1) < 30)) = true := by rfl)
    (hline : (apos.endLine == cpos.line) = true := by rfl) (hst : starEach [e] X.env = (false, eval e X.env) :: starEach [] X.env := by rfl) (hplain : (backTo cpos (starEach [] X.env)).any (·.1) = false := by rfl)
    (hs : swapsWith (.Call (.Attribute (.Name x px) "append" apos) [e] [] cpos) none pos.line X.env = pure false := by rfl) :
    PS X (.Expr (.Call (.Attribute (.Name x px) "append" apos) [e] [] cpos) pos) (tS E (appS i f)) := by
  refine (ps_expr (pe_bm PySem.F.plainAttrs_list PySem.F.slot_list_append PySem.F.type_list_append mt_append (pe_var hi hv hd hcd) (pa_cons he pa_nil hst) hbase hfew hline hst hplain) hs).imp fun D σ H q => ?_
  obtain ⟨B, H₀, Hs, env, sr, q⟩ := q
  unfold appS at q
  split at q
  · rename_i xs ex
    obtain ⟨a, vs, h1, h2, h3, h4, h5⟩ := sr.ow i xs ex
    refine ⟨.ref a, h1, .inl ⟨rfl, vs, SqL.of h2⟩, B, H₀, Hs, env, sr, (Post.bind q).imp (fun p hp v Hs' H' g r => ?_) fun e he => he.grow sr.gr⟩
    by_cases hz : xs.length < sizeLine
    · rw [if_pos hz] at hp
      have sr' := sr.grow g
      have r5 : RepL Hs' (xs ++ [p]) (vs ++ [v]) := (h5.mono g.st).snoc r
      exact ⟨a, vs, v, rfl, rfl, g.al _ _ h2, by rw [← h5.length]; exact hz, hp σ Hs' _ (sr'.put ex h1 r5)⟩
    · rw [if_neg hz] at hp; exact hp.elim
  · exact q.elim
end
end L2
namespace L2
open PySem PySem.Spec PyProof.Rows
def outP : Out → M PV
  | .rt p => M.ok p
  | .nx _ => M.ok .non
  | _ => none
def env0 (m : Nat) (ps : List PV) : PEnv := ps.map (fun p => some (.sh p)) ++ List.replicate (m - ps.length) none
def runD (m : Nat) (g : PEnv → M Out) (ps : List PV) : M PV := (g (env0 m ps)).bind outP
theorem SR.start {Hs H : Hp} {N : List Str} {ps : List PV} {vs : List V} (s : Same Hs H) (r : RepL Hs ps vs) : SR Hs H Hs H (start N vs) (env0 N.length ps) where
  gr := .refl s
  len := by unfold L2.start env0; simp [r.length]
  sh := fun i p e => by
    unfold env0 at e
    unfold L2.start
    by_cases hi : i < ps.length
    · rw [List.getElem?_append_left (by simpa using hi), List.getElem?_map, List.getElem?_eq_getElem hi] at e
      cases e
      obtain ⟨v, h1, h2⟩ := r.get (List.getElem?_eq_getElem hi)
      exact ⟨v, by rw [List.getElem?_append_left (by simpa using (r.length ▸ hi)), List.getElem?_map, h1]; rfl, h2⟩
    · rw [List.getElem?_append_right (by simpa using hi), List.getElem?_replicate] at e
      split at e <;> cases e
  ow := fun i xs e => by
    unfold env0 at e
    by_cases hi : i < ps.length
    · rw [List.getElem?_append_left (by simpa using hi), List.getElem?_map, List.getElem?_eq_getElem hi] at e
      cases e
    · rw [List.getElem?_append_right (by simpa using hi), List.getElem?_replicate] at e
      split at e <;> cases e
  sep := fun i j xs ys a _ e => by
    unfold env0 at e
    by_cases hi : i < ps.length
    · rw [List.getElem?_append_left (by simpa using hi), List.getElem?_map, List.getElem?_eq_getElem hi] at e
      cases e
    · rw [List.getElem?_append_right (by simpa using hi), List.getElem?_replicate] at e
      split at e <;> cases e
  bd := fun i a C fs e => by
    unfold env0 at e
    by_cases hi : i < ps.length
    · rw [List.getElem?_append_left (by simpa using hi), List.getElem?_map, List.getElem?_eq_getElem hi] at e
      cases e
    · rw [List.getElem?_append_right (by simpa using hi), List.getElem?_replicate] at e
      split at e <;> cases e
  one := fun i j a b C D fs gs e => by
    unfold env0 at e
    by_cases hi : i < ps.length
    · rw [List.getElem?_append_left (by simpa using hi), List.getElem?_map, List.getElem?_eq_getElem hi] at e
      cases e
    · rw [List.getElem?_append_right (by simpa using hi), List.getElem?_replicate] at e
      split at e <;> cases e
theorem def_ok {P : Program} {w : World} {K : PySem.W.Frag} {mg : Str → Option Value} {base : Heap} {k : Nat} {f : Addr} {name qual : Str} {params : Arguments} {body : List Stmt} {scope : Scope} {dV kV doc pm cdv ct oc : Value} {an od : Option Addr}
    {osl : Array (Option Value)} {N ps : List Str} {g : PEnv → M Out} (lk : K.lookup f = some ⟨oc, od, .func (PySem.W.fnOf name qual params body scope dV kV doc pm an cdv ct), osl⟩) (hcd : PySem.W.codeIn K cdv qual = true) (S : FnScope N ps scope)
    (hb : ∀ (A : Around) (outer : List Env) (s : Shared) (H : Hp) (E : XK), Room k (A.deeper (envOfC qual scope s.heap.objs.size f cdv)) → PSs ((cxOf (CXV P w) P w K mg base N qual scope f cdv A outer s H E).out fun _ => E) body (tS E g)) :
    FnOk P w K mg base (CXV P w) (k + 1) f (PySem.W.fnOf name qual params body scope dV kV doc pm an cdv ct) ps (spV ps.length (runD N.length g)) := by
  refine fn_ofV lk hcd S (fun vs H Q E h => h.1) fun A outer s H vs Q E hr hs => ⟨_, hb A outer s H E hr, ?_⟩
  obtain ⟨_, Hs, ps', sm, r, h⟩ := hs
  refine ⟨Hs, H, Hs, _, SR.start sm r, (Post.bind h).imp (fun o ho => ?_) fun e he => he⟩
  cases o with
  | rt p => exact fun v Hs' H' gr rv => ho v Hs' H' gr rv
  | nx env => exact fun σ Hs' H' sr => ho .non Hs' H' sr.gr .non
  | bk env => exact ho.elim
  | ct env => exact ho.elim
section
variable {X : Cx} {E : XK} {e : Expr} {es : List Expr} {pos p cpos : Pos} {x : Str} {C f : Addr} {k : Nat} {fd : FuncData} {ps : List Str} {fs : PEnv → M (List PV)}
def raise0 (C : Addr) (fs : PEnv → M (List PV)) : PEnv → M Out := fun env => (fs env).bind fun ps => grd (ps.length ≤ sizeLine) (some (.error (C, none)))
theorem pS_raise0 (O : Outs X fun _ => E) (hcalm : X.calm = true) (hc : PySem.W.excIn X.K C valMro "ValueError.__new__" = true) (c : ECls X.K C) (ht : PySem.W.typeIn X.K (.ref C) = some (.type "type")) (kp : PySem.W.keepIn X.K (.ref C) = true) (hg : Gl X x) (hm : X.mg x = some (.ref C)) (ha : PA X (e :: es) (tL (fun _ => E) fs))
    (hdb : (x == ("__debug__" : Str)) = false := by decide) (he : starEach (e :: es) X.env = (false, eval e X.env) :: starEach es X.env := by rfl) (hpl : (backTo cpos (starEach es X.env)).any (·.1) = false := by rfl) :
    PS X (.Raise (some (.Call (.Name x p) (e :: es) [] cpos)) none pos) (tS E (raise0 C fs)) := by
  refine (ps_raise O hcalm (pe_emkN hc kp hg hm ha hdb he hpl)).imp fun D σ H q => tS_bindL q fun B H₀ Hs H1 env ps' v sr rp hp => ?_
  obtain ⟨hz, hp⟩ := Post.grd hp
  refine ⟨by rw [← rp.length]; exact hz, fun a n => ⟨a, C, none, rfl, upd_same, c, ht, ?_⟩⟩
  rw [upd_upd]
  exact hp a (upd Hs a (excO C none a)) _ (sr.gr.trans (Grow.new sr.gr.sub n)) (.exc0 upd_same)
def spX1 (K : PySem.W.Frag) (C : Addr) (fl : Str) : Sp := fun vs H Q _ => ∃ a y, vs = [.ref a, y] ∧ H a = some (excN C none a) ∧ ∀ d, H d = none → d ≠ a → Q .non (upd (upd H d (.xd [(fl, y)])) a (excN C (some d) a))
def raise1 (C : Addr) (fl : Str) (fs : PEnv → M (List PV)) : PEnv → M Out := fun env => (fs env).bind fun ps => match ps with
  | [p] => some (.error (C, some [(fl, p)]))
  | _ => none
theorem pS_raise1 {fl : Str} (O : Outs X fun _ => E) (hcalm : X.calm = true) (hc : excInI X.K C "ValueError.__new__" f = true) (hf : PySem.W.isFn X.K (.ref f) = true) (c : ECls X.K C) (ht : PySem.W.typeIn X.K (.ref C) = some (.type "type")) (kp : PySem.W.keepIn X.K (.ref C) = true) (F : FnOk X.prog X.w X.K X.mg X.base (CXV X.prog X.w) k f fd ps (spX1 X.K C fl)) (hr : Room (k + 1) X.A) (hb : Binds X.K fd ps [])
    (hg : Gl X x) (hm : X.mg x = some (.ref C)) (ha : PA X [e] (tL (fun _ => E) fs))
    (hdb : (x == ("__debug__" : Str)) = false := by decide) (he : starEach [e] X.env = (false, eval e X.env) :: starEach [] X.env := by rfl) (hpl : (backTo cpos (starEach [] X.env)).any (·.1) = false := by rfl) :
    PS X (.Raise (some (.Call (.Name x p) [e] [] cpos)) none pos) (tS E (raise1 C fl fs)) := by
  refine (ps_raise O hcalm (pe_emkIN hc hf kp F hr hb hg hm ha hdb he hpl)).imp fun D σ H q => tS_bindL q fun B H₀ Hs H1 env ps' v sr rp hp => ?_
  match ps', rp, hp with
  | [], _, hp => exact hp.elim
  | _ :: _ :: _, _, hp => exact hp.elim
  | [y], rp, hp =>
    obtain ⟨v, rfl, ry⟩ := rp.one
    refine ⟨by show 1 ≤ sizeLine; decide, fun a n => ⟨a, v, rfl, upd_same, fun d hd hda => ⟨rfl, a, C, some d, rfl, upd_same, c, ht, ?_⟩⟩⟩
    rw [upd_upd]
    have hd1 : H1 d = none := by rw [upd_ne hda] at hd; exact hd
    have g1 := Grow.new (o := .xd [(fl, v)]) sr.gr.sub hd1
    have hn2 : upd H1 d (.xd [(fl, v)]) a = none := by rw [upd_ne (Ne.symm hda)]; exact n
    have g2 := Grow.new (o := excO C (some d) a) g1.sub hn2
    have hH : upd (upd (upd H1 a (excN C none a)) d (.xd [(fl, v)])) a (excO C (some d) a) = upd (upd H1 d (.xd [(fl, v)])) a (excO C (some d) a) := by
      funext b
      by_cases z : b = a
      · subst z; rw [upd_same, upd_same]
      · rw [upd_ne z, upd_ne z]
        by_cases z2 : b = d
        · subst z2; rw [upd_same, upd_same]
        · rw [upd_ne z2, upd_ne z2, upd_ne z]
    rw [hH]
    refine hp a (upd (upd Hs d (.xd [(fl, v)])) a (excO C (some d) a)) _ ((sr.gr.trans g1).trans g2) ?_
    exact .exc1 upd_same (by rw [upd_ne hda]; exact upd_same) (.cons ((ry.mono g1.st).mono g2.st) .nil)
theorem init1_ok {P : Program} {w : World} {K : PySem.W.Frag} {mg : Str → Option Value} {base : Heap} {f : Addr} {name qual : Str} {params : Arguments} {scope : Scope} {dV kV doc pm cdv ct oc : Value} {an od : Option Addr}
    {osl : Array (Option Value)} {n0 n1 fl : Str} {p0 p1 p2 p3 : Pos} (lk : K.lookup f = some ⟨oc, od, .func (PySem.W.fnOf name qual params [.Assign [.Attribute (.Name n0 p0) fl p1] (.Name n1 p2) p3] scope dV kV doc pm an cdv ct), osl⟩) (hcd : PySem.W.codeIn K cdv qual = true) (S : FnScope [n0, n1] [n0, n1] scope)
    (c : ECls K C) (ho : ((PySem.W.clsIn K C).any fun cd => overVal cd.mro) = true) (na : NoAttr K C fl) (v0 : Vis scope n0) (v1 : Vis scope n1) (d0 : (n0 == ("__debug__" : Str)) = false) (d1 : (n1 == ("__debug__" : Str)) = false) (c0 : (n0 == ("__classdict__" : Str)) = false) (c1 : (n1 == ("__classdict__" : Str)) = false)
    (hs : ∀ env, swapsWith (.Name n1 p2) (some (.Attribute (.Name n0 p0) fl p1)) p3.line env = pure false) :
    FnOk P w K mg base (CXV P w) 1 f (PySem.W.fnOf name qual params [.Assign [.Attribute (.Name n0 p0) fl p1] (.Name n1 p2) p3] scope dV kV doc pm an cdv ct) [n0, n1] (spX1 K C fl) := by
  refine fn_ofV (k := 0) lk hcd S (fun vs H Q E h => by obtain ⟨a, y, rfl, _⟩ := h; rfl) fun A outer s H vs Q E hr h => ?_
  obtain ⟨a, y, rfl, ha, hq⟩ := h
  refine ⟨_, pss_one (ps_efldN (pe_var (i := 0) rfl v0 d0 c0) (pe_var (i := 1) rfl v1 d1 c1) (hs _)), ?_⟩
  exact ⟨y, rfl, .ref a, rfl, a, C, rfl, ha, c, ho, na, hq⟩
end
end L2
namespace L2
open PySem PySem.Spec PyProof.Rows
structure IterOk (J : It) (Hs1 : Hp) (xs : List PV) : Prop where
  stop : ∀ (i : Nat) (Hs H : Hp), Same Hs1 Hs → Same Hs H → xs.length ≤ i → J.stop i H
  go : ∀ (i : Nat) (Hs H : Hp), Same Hs1 Hs → Same Hs H → i < xs.length → J.go i H
  yld : ∀ (i : Nat) (Hs H : Hp) (x : V) (H2 : Hp), Same Hs1 Hs → Same Hs H → i < xs.length → J.yld i H x H2 → ∃ p Hs2, xs[i]? = some p ∧ Grow Hs H Hs2 H2 ∧ Rep Hs2 p x
def KI (R : It → Hp → Prop) : Hp → Hp → List PV → Prop := fun Hs H xs => ∀ J Hs' H', Grow Hs H Hs' H' → IterOk J Hs' xs → R J H'
def TIV (E : St → XK) (wi : TI) (it : PEnv → M (List PV)) : Prop := ∀ (σ : St) (H : Hp) (R : It → Hp → Prop), tG E it (KI R) σ H → wi σ H R
theorem KI.g {R : It → Hp → Prop} : KG (KI R) := fun Hs H Hs' H' b k g J Hs2 H2 g2 o => k J Hs2 H2 (g.trans g2) o
section
variable {E : St → XK} {K : PySem.W.Frag} {f : PEnv → M PV} {fs : PEnv → M (List PV)}
theorem iter_seq {b : Bool} {a : Addr} {Hs1 : Hp} {xs : List PV} {vs : List V} (hq : ∀ Hs' H', Same Hs1 Hs' → Same Hs' H' → SqB K H' b a vs) (hr : RepL Hs1 xs vs) : IterOk (Itb K b a) Hs1 xs where
  stop := fun i Hs H s1 s2 hi => by
    have q := hq Hs H s1 s2
    cases b with
    | true => exact ⟨vs, q, by rw [← hr.length]; exact hi⟩
    | false => exact ⟨vs, q, by rw [← hr.length]; exact hi⟩
  go := fun i Hs H s1 s2 hi => by
    have q := hq Hs H s1 s2
    obtain ⟨v, e, _⟩ := hr.get (List.getElem?_eq_getElem hi)
    cases b with
    | true => exact ⟨vs, v, q, e⟩
    | false => exact ⟨vs, v, q, e⟩
  yld := fun i Hs H x H2 s1 s2 hi y => by
    have q := hq Hs H s1 s2
    obtain ⟨v, e, r⟩ := hr.get (List.getElem?_eq_getElem hi)
    have z : H2 = H ∧ vs[i]? = some x := by
      cases b with
      | true => exact ⟨y.1, y.2 vs q⟩
      | false => exact ⟨y.1, y.2 vs q⟩
    obtain ⟨rfl, z⟩ := z
    rw [e] at z; cases z
    exact ⟨xs[i], Hs, List.getElem?_eq_getElem hi, .refl s2, r.mono s1⟩
theorem tiv_seq : TIV E (iSeq K (tE E f)) (itemsOf f) := by
  intro σ H R q
  refine tG_bindV (K := KI R) KI.g q fun B H₀ Hs H1 env p v sr rp hp => ?_
  cases e : seqP p with
  | none => rw [e] at hp; exact hp.elim
  | some xs =>
    rw [e] at hp
    obtain ⟨b, a, vs, rfl, hq, hr⟩ := seq_ofB (K := K) sr.gr.sub rp e
    exact ⟨b, a, rfl, ⟨vs, hq Hs H1 (fun _ _ z => z) sr.gr.sub⟩, hp (Itb K b a) Hs H1 (.refl sr.gr.sub) (iter_seq hq hr)⟩
def itL (o : List PV → M (List PV)) (fs : PEnv → M (List PV)) : PEnv → M (List PV) := fun env => (fs env).bind o
theorem iter_rng {lo : Int} {n : Nat} {Hs1 : Hp} : IterOk (Itr lo n) Hs1 ((List.range n).map fun (i : Nat) => PV.int (lo + (i : Int))) where
  stop := fun i Hs H s1 s2 hi => show n ≤ i by simpa using hi
  go := fun i Hs H s1 s2 hi => show i < n by simpa using hi
  yld := fun i Hs H x H2 s1 s2 hi y => by
    obtain ⟨rfl, rfl⟩ := y
    exact ⟨_, Hs, range_get (by simpa using hi), .refl s2, .int _⟩
theorem bind_ok {α : Type} (x : M α) : x.bind M.ok = x := by
  cases x with
  | none => rfl
  | some x => cases x <;> rfl
theorem tiv_rng1 : TIV E (iRng1 (tL E fs)) (itL rng1 fs) := by
  intro σ H R q
  refine tG_bindL (K := KI R) KI.g q fun B H₀ Hs H1 env ps v sr rp hp => ?_
  rw [← bind_ok (rng1 ps)] at hp
  obtain ⟨n, rfl, h1, h2, hp⟩ := rng1_some hp
  obtain ⟨w, rfl, rw'⟩ := rp.one
  cases rw'
  exact ⟨n, rfl, h1, h2, hp _ Hs H1 (.refl sr.gr.sub) iter_rng⟩
theorem zipW_get {xs ys : List PV} {i : Nat} (h1 : i < xs.length) (h2 : i < ys.length) : (List.zipWith (fun a b => PV.tup [a, b]) xs ys)[i]? = some (.tup [xs[i], ys[i]]) := by
  rw [List.getElem?_zipWith, List.getElem?_eq_getElem h1, List.getElem?_eq_getElem h2]
theorem iter_zip {b1 b2 : Bool} {a1 a2 : Addr} {Hs1 : Hp} {xs ys : List PV} {vs us : List V} (hq1 : ∀ Hs' H', Same Hs1 Hs' → Same Hs' H' → SqB K H' b1 a1 vs) (hr1 : RepL Hs1 xs vs) (hq2 : ∀ Hs' H', Same Hs1 Hs' → Same Hs' H' → SqB K H' b2 a2 us) (hr2 : RepL Hs1 ys us) :
    IterOk (Itz K b1 b2 a1 a2) Hs1 (List.zipWith (fun a b => PV.tup [a, b]) xs ys) where
  stop := fun i Hs H s1 s2 hi => by
    rw [List.length_zipWith, hr1.length, hr2.length] at hi
    exact ⟨vs, us, hq1 Hs H s1 s2, hq2 Hs H s1 s2, by omega⟩
  go := fun i Hs H s1 s2 hi => by
    rw [List.length_zipWith] at hi
    obtain ⟨v, e, _⟩ := hr1.get (List.getElem?_eq_getElem (show i < xs.length by omega))
    obtain ⟨u, e', _⟩ := hr2.get (List.getElem?_eq_getElem (show i < ys.length by omega))
    exact ⟨vs, us, v, u, hq1 Hs H s1 s2, hq2 Hs H s1 s2, e, e'⟩
  yld := fun i Hs H x H2 s1 s2 hi y => by
    rw [List.length_zipWith] at hi
    have l1 : i < xs.length := by omega
    have l2 : i < ys.length := by omega
    obtain ⟨v, e, r⟩ := hr1.get (List.getElem?_eq_getElem l1)
    obtain ⟨u, e', r'⟩ := hr2.get (List.getElem?_eq_getElem l2)
    obtain ⟨pa, v', u', hn, rfl, rfl, y1, y2⟩ := y
    have z1 := y1 vs (hq1 Hs H s1 s2)
    have z2 := y2 us (hq2 Hs H s1 s2)
    rw [e] at z1; cases z1
    rw [e'] at z2; cases z2
    have gr := Grow.new (o := .tup [v, u]) s2 hn
    exact ⟨_, _, zipW_get l1 l2, gr, .tup upd_same (.cons ((r.mono s1).mono gr.st) (.cons ((r'.mono s1).mono gr.st) .nil))⟩
theorem tiv_zip : TIV E (iZip K (tL E fs)) (itL zip2 fs) := by
  intro σ H R q
  refine tG_bindL (K := KI R) KI.g q fun B H₀ Hs H1 env ps v sr rp hp => ?_
  rw [← bind_ok (zip2 ps)] at hp
  obtain ⟨p, q, xs, ys, rfl, e1, e2, hp⟩ := zip2_some hp
  obtain ⟨w, u, rfl, rw', ru⟩ := rp.two
  obtain ⟨b1, a1, vs, rfl, hq1, hr1⟩ := seq_ofB (K := K) sr.gr.sub rw' e1
  obtain ⟨b2, a2, us, rfl, hq2, hr2⟩ := seq_ofB (K := K) sr.gr.sub ru e2
  exact ⟨b1, b2, a1, a2, rfl, ⟨vs, hq1 Hs H1 (fun _ _ z => z) sr.gr.sub⟩, ⟨us, hq2 Hs H1 (fun _ _ z => z) sr.gr.sub⟩, hp _ Hs H1 (.refl sr.gr.sub) (iter_zip hq1 hr1 hq2 hr2)⟩
end
theorem pS_forI {X : Cx} {E : XK} {tg iter : Expr} {pos : Pos} {g : TG} {set : PV → PEnv → M PEnv} {body : PEnv → M Out} {bd : List Stmt} {wi : TI} {it : PEnv → M (List PV)} (O : Outs X fun _ => E) (hc : X.calm = true) (hi : PI X tg iter wi) (hv : TIV (fun _ => E) wi it) (hg : PG X tg g) (tgv : TGV E g set) (hb : PSs X bd (tS E body)) (hs : ∀ x, foldedSetIterable iter X.env x = pure x := by intro _; rfl) :
    PS X (.For tg iter bd [] pos) (tS E (forS it set body)) := by
  refine (ps_for O.own hc hi hg hb hs).imp fun D σ H q => hv σ H _ ?_
  obtain ⟨B, H₀, Hs, env, sr, q⟩ := q
  refine ⟨B, H₀, Hs, env, sr, (Post.bind q).imp (fun xs hp J Hs' H' gr ok => ?_) fun e he => he.grow sr.gr⟩
  have sr' := sr.grow gr
  refine ⟨fun i m σ H => m = xs.length - i ∧ i ≤ xs.length ∧ Jv E set body D B H₀ Hs' xs i σ H, ⟨xs.length, by simp, Nat.zero_le _, Hs', env, sr', fun _ _ z => z, hp⟩, ?_⟩
  rintro i m σ' H2 ⟨rfl, hi, Hs2, env2, sr2, s2, h2⟩
  by_cases hlt : i < xs.length
  · refine .inr ⟨ok.go i Hs2 H2 s2 sr2.gr.sub hlt, Jv E set body D B H₀ Hs' xs (i + 1), fun σ3 H3 j => ⟨xs.length - (i + 1), by omega, rfl, hlt, j⟩, fun x H3 y => ?_⟩
    obtain ⟨p, Hs3, ep, g3, r3⟩ := ok.yld i Hs2 H2 x H3 s2 sr2.gr.sub hlt y
    exact Jv.turn (Hx := H2) (H1 := H2) tgv ep sr2 s2 h2 g3 r3
  · have e : i = xs.length := by omega
    refine .inl ⟨ok.stop i Hs2 H2 s2 sr2.gr.sub (by omega), ?_⟩
    exact Jv.done (E := E) (set := set) (body := body) (xs := xs) (B := B) (H₀ := H₀) (Hs1 := Hs') (n := i) ⟨Hs2, env2, sr2, s2, h2⟩ (by omega)
end L2
namespace L2
open PySem PySem.Spec PyProof.Rows
abbrev EF : St → XK := fun _ _ _ _ => False
def NoOw (env : PEnv) : Prop := ∀ (i : Nat) (x : SV), env[i]? = some (some x) → ∃ p, x = .sh p
theorem NoOw.ow {env : PEnv} (n : NoOw env) {i : Nat} {xs : List PV} (e : env[i]? = some (some (.ow xs))) : False := by obtain ⟨p, z⟩ := n i _ e; cases z
theorem NoOw.bd {env : PEnv} (n : NoOw env) {i : Nat} {a C : Addr} {fs : List (Str × PV)} (e : env[i]? = some (some (.bd a C fs))) : False := by obtain ⟨p, z⟩ := n i _ e; cases z
def noX {α : Type} : M α → M α
  | some (.ok a) => some (.ok a)
  | _ => none
theorem Post.noX {α : Type} {x : M α} {Q : α → Prop} {E : EX → Prop} (h : Post (L2.noX x) Q E) : Post x Q (fun _ => False) := by
  cases x with
  | none => exact h
  | some x => cases x with
    | ok a => exact h
    | error e => exact h
def blockE (n : Nat) (js : List Nat) (env : PEnv) : PEnv := List.replicate n none ++ js.map fun j => match env[j]? with
  | some (some (.sh p)) => some (.sh p)
  | _ => none
theorem blockE_at {n : Nat} {js : List Nat} {env : PEnv} {i : Nat} {x : SV} (h : (blockE n js env)[i]? = some (some x)) : ∃ j p, n ≤ i ∧ js[i - n]? = some j ∧ env[j]? = some (some (.sh p)) ∧ x = .sh p := by
  unfold blockE at h
  by_cases hi : i < n
  · rw [List.getElem?_append_left (by simpa using hi), List.getElem?_replicate] at h
    split at h <;> cases h
  · rw [List.getElem?_append_right (by simpa using hi), List.getElem?_map, List.length_replicate] at h
    cases hj : js[i - n]? with
    | none => rw [hj] at h; cases h
    | some j =>
      rw [hj] at h
      have h' : (match env[j]? with | some (some (.sh p)) => some (SV.sh p) | _ => none) = some x := Option.some.inj h
      split at h'
      · rename_i p e
        cases h'
        exact ⟨j, p, by omega, rfl, e, rfl⟩
      · cases h'
theorem blockE_now {n : Nat} {js : List Nat} {env : PEnv} : NoOw (blockE n js env) := fun i xs e => by
  obtain ⟨_, p, _, _, _, z⟩ := blockE_at e
  exact ⟨p, z⟩
theorem SR.block {B H₀ Hs H : Hp} {σ : St} {env : PEnv} {ts : List Str} {js : List Nat} {D : Addr} (r : SR B H₀ Hs H σ env) (hD : H D = none) : SR Hs H Hs (upd H D (.lst [])) (blockSt ts js σ) (blockE ts.length js env) where
  gr := by
    have ne : ∀ c u, H c = some u → c ≠ D := fun c u q z => by rw [z, hD] at q; cases q
    exact ⟨fun _ _ e => e, fun c u e => by rw [upd_ne (ne c u e)]; exact e, fun c u e => by rw [upd_ne (ne c u (r.gr.sub c u e))]; exact r.gr.sub c u e, fun _ _ e _ => e⟩
  len := by unfold blockSt blockE; simp
  sh := fun i p e => by
    obtain ⟨j, q, hn, hj, he, z⟩ := blockE_at e
    cases z
    obtain ⟨v, h1, h2⟩ := r.sh j p he
    refine ⟨v, ?_, h2⟩
    unfold blockSt
    rw [List.getElem?_append_right (by simpa using hn), List.getElem?_map, List.length_map, hj]
    show some (σ[j]?).join = _
    rw [h1]; rfl
  ow := fun i xs e => (blockE_now.ow e).elim
  sep := fun i j xs ys a _ e => (blockE_now.ow e).elim
  bd := fun i a C fs e => (blockE_now.bd e).elim
  one := fun i j a b C D fs gs e => (blockE_now.bd e).elim
theorem SR.beside {B H₀ Hs H : Hp} {σ : St} {env : PEnv} {D : Addr} {o : HO} (r : SR B H₀ Hs H σ env) (n : NoOw env) (h1 : Hs D = none) (h2 : H₀ D = none) : SR B H₀ Hs (upd H D o) σ env where
  gr := ⟨r.gr.st, fun c u q => by rw [upd_ne (fun z => by rw [z, h2] at q; cases q)]; exact r.gr.al c u q, fun c u q => by rw [upd_ne (fun z => by rw [z, h1] at q; cases q)]; exact r.gr.sub c u q, r.gr.nw⟩
  len := r.len
  sh := r.sh
  ow := fun i xs e => (n.ow e).elim
  sep := fun i j xs ys a _ e => (n.ow e).elim
  bd := fun i a C fs e => (n.bd e).elim
  one := fun i j a b C D fs gs e => (n.bd e).elim
def compL (set : PV → PEnv → M PEnv) (t : Option (PEnv → M Bool)) (f : PEnv → M PV) : List PV → PEnv → M (List PV)
  | [], _ => M.ok []
  | x :: xs, env => (set x env).bind fun e => match t with
    | none => (f e).bind fun y => (compL set t f xs e).bind fun ys => M.ok (y :: ys)
    | some t' => (t' e).bind fun b => if b = true then (f e).bind fun y => (compL set t f xs e).bind fun ys => M.ok (y :: ys) else compL set t f xs e
def compF (it : PEnv → M (List PV)) (set : PV → PEnv → M PEnv) (t : Option (PEnv → M Bool)) (f : PEnv → M PV) (n : Nat) (js : List Nat) : PEnv → M (List PV) := fun env => (it env).bind fun xs => grd (xs.length ≤ sizeLine) (noX (compL set t f xs (blockE n js env)))
def SetOk (set : PV → PEnv → M PEnv) : Prop := ∀ p env e, set p env = some (.ok e) → NoOw env → NoOw e
theorem now_set {i : Nat} {env : PEnv} {p : PV} (n : NoOw env) : NoOw (env.set i (some (.sh p))) := fun j xs e => by
  rw [List.getElem?_set] at e
  by_cases z : i = j
  · rw [if_pos z] at e
    split at e
    · cases e; exact ⟨p, rfl⟩
    · cases e
  · rw [if_neg z] at e; exact n j xs e
theorem setok_name {i : Nat} : SetOk (setN i) := fun p env e h n => by
  cases h
  exact now_set n
theorem setok_tup2 {i j : Nat} : SetOk (setT2 i j) := fun p env e h n => by
  unfold setT2 at h
  split at h
  · cases h; exact now_set (now_set n)
  · cases h
section
variable {set : PV → PEnv → M PEnv} {t : Option (PEnv → M Bool)} {f : PEnv → M PV} {Q : VK} {Hs1 H1 : Hp} {D : Addr} {xs : List PV}
def Jc (set : PV → PEnv → M PEnv) (t : Option (PEnv → M Bool)) (f : PEnv → M PV) (Q : VK) (Hs1 H1 : Hp) (D : Addr) (xs : List PV) (i : Nat) (σ : St) (H : Hp) : Prop := ∃ Hs env ys vs, SR Hs1 H1 Hs H σ env ∧ NoOw env ∧ H D = some (.lst vs) ∧ Hs D = none ∧ RepL Hs ys vs ∧ ys.length ≤ i ∧
  Post (compL set t f (xs.drop i) env) (fun zs => KO Q Hs1 H1 (ys ++ zs)) (fun _ => False)
def rem (H : Hp) (D : Addr) : Hp := fun a => if a = D then none else H a
theorem rem_same {H : Hp} {D : Addr} : rem H D D = none := by unfold rem; rw [if_pos rfl]
theorem rem_ne {H : Hp} {D a : Addr} (n : a ≠ D) : rem H D a = H a := by unfold rem; rw [if_neg n]
theorem rem_upd {H : Hp} {D : Addr} {o : HO} (h : H D = some o) : upd (rem H D) D o = H := by
  funext a
  by_cases z : a = D
  · subst z; rw [upd_same, h]
  · rw [upd_ne z, rem_ne z]
theorem Jc.done {i : Nat} {σ : St} {H : Hp} (hD : H1 D = none) (j : Jc set t f Q Hs1 H1 D xs i σ H) (hi : xs.length ≤ i) : Q (.ref D) H := by
  obtain ⟨Hs, env, ys, vs, sr, n, h1, h2, r, _, h⟩ := j
  rw [List.drop_eq_nil_of_le hi] at h
  have h' : KO Q Hs1 H1 (ys ++ []) := h
  rw [List.append_nil] at h'
  have gr : Grow Hs1 H1 Hs (rem H D) := by
    refine ⟨sr.gr.st, fun c u q => ?_, fun c u q => ?_, sr.gr.nw⟩
    · rw [rem_ne (fun z => by rw [z, hD] at q; cases q)]; exact sr.gr.al c u q
    · rw [rem_ne (fun z => by rw [z, h2] at q; cases q)]; exact sr.gr.sub c u q
  have := h' vs D Hs (rem H D) gr r rem_same
  rw [rem_upd h1] at this
  exact this
theorem Jc.put {i : Nat} {σ : St} {Hs H : Hp} {env : PEnv} {ys : List PV} {vs : List V} {y : PV} {v : V} (hD : H1 D = none) (sr : SR Hs1 H1 Hs H σ env) (n : NoOw env) (h1 : H D = some (.lst vs)) (h2 : Hs D = none) (r : RepL Hs ys vs) (hy : ys.length ≤ i) (hi : i < sizeLine) (rv : Rep Hs y v)
    (h : Post ((compL set t f (xs.drop (i + 1)) env).bind fun zs => M.ok (y :: zs)) (fun zs => KO Q Hs1 H1 (ys ++ zs)) (fun _ => False)) :
    ∃ us, H D = some (.lst us) ∧ us.length < sizeLine ∧ Jc set t f Q Hs1 H1 D xs (i + 1) σ (upd H D (.lst (us ++ [v]))) := by
  refine ⟨vs, h1, by rw [← r.length]; omega, Hs, env, ys ++ [y], vs ++ [v], sr.beside n h2 hD, n, upd_same, h2, r.snoc rv, by rw [List.length_append]; show ys.length + 1 ≤ i + 1; omega, (Post.bind h).imp (fun zs hz => ?_) fun _ z => z⟩
  have hz' : KO Q Hs1 H1 (ys ++ (y :: zs)) := hz
  rw [List.append_assoc]
  exact hz'
end
section
variable {X : Cx} {E : St → XK} {tg elt iter c : Expr} {scope : Scope} {cl : List (Str × Addr)} {pos : Pos} {wi : TI} {it : PEnv → M (List PV)} {g : TG} {set : PV → PEnv → M PEnv} {f : PEnv → M PV} {u : PEnv → M Bool} {ts fs : List Str} {js : List Nat}
theorem outsC {C : Addr} {s₀ : Shared} {H₀ : Hp} {ex : List Addr} {pins : List (Addr × Obj)} {N : List Str} : Outs (cxc X scope cl N C s₀ H₀ ex pins) EF where
  pass := fun _ _ _ _ _ _ _ h => by
    obtain ⟨_, _, _, _, _, _, _, _, _, _, _, _, _, z⟩ := h
    exact z.elim
  new := fun _ _ _ _ _ _ _ _ _ z => z.elim
  own := PassesOwn.never
theorem pO_compN (hcalm : X.calm = true)
    (hclos : closureFor scope X.env = pure cl) (hk : scope.kind = .function) (nc : noCell scope.names = true) (lo : locOnce scope.names = true) (fh : freeHas cl scope.names = true) (ag : Agrees X cl) (fr : Frees X scope cl fs js)
    (hi : PI X tg iter wi) (hv : TIV E wi it) (hg : ∀ C s₀ H₀ ex pins, PG (cxc X scope cl (ts ++ fs) C s₀ H₀ ex pins) tg g) (tgv : ∀ E, TGV E g set) (so : SetOk set) (he : ∀ C s₀ H₀ ex pins, PE (cxc X scope cl (ts ++ fs) C s₀ H₀ ex pins) elt (tE EF f))
    (hs : ∀ x, foldedSetIterable iter X.env x = pure x := by intro _; rfl) : PE X (.ListComp elt [⟨tg, iter, [], 0⟩] scope pos) (tO E (compF it set none f ts.length js)) := by
  refine (pe_compN hcalm hclos hk nc lo fh ag fr hi hg he hs).imp fun σ H Q q => hv σ H _ ?_
  obtain ⟨B, H₀, Hs, env, sr, q⟩ := q
  refine ⟨B, H₀, Hs, env, sr, (Post.bind q).imp (fun xs hp J Hs1 H1 gr ok D hD => ?_) fun e he => he⟩
  obtain ⟨hz, hp⟩ := Post.grd hp
  have hp := Post.noX hp
  have sr1 := sr.grow gr
  refine ⟨fun i m σ H => m = xs.length - i ∧ i ≤ xs.length ∧ Jc set none f Q Hs1 H1 D xs i σ H, ⟨xs.length, by simp, Nat.zero_le _, Hs1, _, [], [], sr1.block hD, blockE_now, upd_same, ?_, .nil, Nat.le_refl _, hp.imp (fun zs hz vs p Hs2 H2 g2 r n => hz vs p Hs2 H2 (gr.trans g2) r n) fun _ z => z⟩, ?_⟩
  · cases z : Hs1 D with
    | none => rfl
    | some o => have := gr.sub _ _ z; rw [hD] at this; cases this
  rintro i m σ' H2 ⟨rfl, hi, Hs2, env2, ys, vs, sr2, n2, d1, d2, r2, l2, h2⟩
  by_cases hlt : i < xs.length
  · refine .inr ⟨ok.go i Hs2 H2 sr2.gr.st sr2.gr.sub hlt, Jc set none f Q Hs1 H1 D xs (i + 1), fun σ3 H3 j => ⟨xs.length - (i + 1), by omega, rfl, hlt, j⟩, fun x H3 y => ?_⟩
    obtain ⟨p, Hs3, ep, g3, r3⟩ := ok.yld i Hs2 H2 x H3 sr2.gr.st sr2.gr.sub hlt y
    have hd : xs.drop i = p :: xs.drop (i + 1) := by
      rw [List.drop_eq_getElem_cons hlt]
      rw [List.getElem?_eq_getElem hlt] at ep
      rw [Option.some.inj ep]
    rw [hd] at h2
    have h3 := Post.bind h2
    have sr3 := sr2.grow g3
    refine tgv (fun _ _ _ => False) Hs1 H1 Hs3 H3 σ' env2 p x _ (fun _ => False) sr3 r3 ?_
    cases hset : set p env2 with
    | none => rw [hset] at h3; exact h3
    | some z => cases z with
      | error e => rw [hset] at h3; exact h3
      | ok e3 =>
        rw [hset] at h3
        intro σ4 sr4
        have n4 := so p env2 e3 hset n2
        refine ⟨Hs1, H1, Hs3, e3, sr4, (Post.bind h3).imp (fun y hy v Hs5 H5 g5 r5 => ?_) fun _ z => z.elim⟩
        exact Jc.put (set := set) (t := none) (f := f) hD (sr4.grow g5) n4 (g5.al _ _ (g3.al _ _ d1)) (g5.nw _ _ (g3.nw _ _ d2 d1) (g3.al _ _ d1)) ((r2.mono g3.st).mono g5.st) l2 (by omega) r5 hy
  · refine .inl ⟨ok.stop i Hs2 H2 sr2.gr.st sr2.gr.sub (by omega), ?_⟩
    exact Jc.done (set := set) (t := none) (f := f) (xs := xs) (Hs1 := Hs1) (H1 := H1) (i := i) hD ⟨Hs2, env2, ys, vs, sr2, n2, d1, d2, r2, l2, h2⟩ (by omega)
def lstOf (fo : PEnv → M (List PV)) : PEnv → M PV := fun env => (fo env).bind fun ps => M.ok (.lst ps)
theorem pv_ofO {fo : PEnv → M (List PV)} {e : Expr} (he : PE X e (tO E fo)) : PE X e (tE E (lstOf fo)) := he.imp fun σ H Q q => by
  obtain ⟨B, H₀, Hs, env, sr, q⟩ := q
  refine ⟨B, H₀, Hs, env, sr, (Post.bind q).imp (fun ps hp vs p Hs' H' g r n => ?_) fun e he => he⟩
  have gn := Grow.new (o := .lst vs) g.sub n
  exact hp _ _ _ (g.trans gn) (.lst upd_same (r.mono gn.st))
end
end L2
namespace L2
open PySem PySem.Spec PyProof.Rows
def putP (f : Str) (v : PV) : List (Str × PV) → List (Str × PV)
  | [] => [(f, v)]
  | (g, x) :: r => if g = f then (g, v) :: r else (g, x) :: putP f v r
theorem RepF.put {H : Hp} {f : Str} {p : PV} {v : V} (h : Rep H p v) : ∀ {fs : List (Str × PV)} {vs : List (Str × V)}, RepF H fs vs → RepF H (putP f p fs) (putF f v vs)
  | _, _, .nil => .cons h .nil
  | (g, x) :: r, _, .cons hx hr => by
    unfold putP putF
    by_cases z : g = f
    · rw [if_pos z, if_pos z]; exact .cons h hr
    · rw [if_neg z, if_neg z]; exact .cons hx (hr.put h)
theorem RepF.length {H : Hp} : ∀ {fs : List (Str × PV)} {vs : List (Str × V)}, RepF H fs vs → fs.length = vs.length
  | _, _, .nil => rfl
  | _, _, .cons _ r => by simp [r.length]
theorem SR.putB {B H₀ Hs H : Hp} {σ : St} {env : PEnv} {i : Nat} {a C dx : Addr} {fs gs : List (Str × PV)} {us : List (Str × V)} (r : SR B H₀ Hs H σ env) (e : env[i]? = some (some (.bd a C fs))) (h : RepF Hs gs us) : SR B H₀ Hs (upd H a (.ins C dx us)) σ (env.set i (some (.bd a C gs))) := by
  obtain ⟨dx0, vs, h1, h2, h3, h4, h5⟩ := r.bd i a C fs e
  have nS : ∀ c u, Hs c = some u → c ≠ a := fun c u q z => by rw [z, h3] at q; cases q
  have n0 : ∀ c u, H₀ c = some u → c ≠ a := fun c u q z => by rw [z, h4] at q; cases q
  refine ⟨⟨r.gr.st, fun c u q => by rw [upd_ne (n0 c u q)]; exact r.gr.al c u q, fun c u q => by rw [upd_ne (nS c u q)]; exact r.gr.sub c u q, r.gr.nw⟩, by rw [List.length_set]; exact r.len, fun j q ej => ?_, fun j zs ej => ?_, fun j k y1 y2 b nj e1 e2 e3 e4 => ?_, fun j ba D fs' ej => ?_, fun j k _ _ C' D fs' gs' e1 e2 => ?_⟩
  · rw [List.getElem?_set] at ej
    by_cases z : i = j
    · subst z
      rw [if_pos rfl] at ej
      split at ej <;> cases ej
    · rw [if_neg z] at ej; exact r.sh j q ej
  · rw [List.getElem?_set] at ej
    by_cases z : i = j
    · subst z
      rw [if_pos rfl] at ej
      split at ej <;> cases ej
    · rw [if_neg z] at ej
      obtain ⟨b, ws, q1, q2, q3, q4, q5⟩ := r.ow j zs ej
      have nb : b ≠ a := fun w => by subst w; rw [h2] at q2; cases q2
      exact ⟨b, ws, q1, by rw [upd_ne nb]; exact q2, q3, q4, q5⟩
  · rw [List.getElem?_set] at e1 e2
    by_cases z : i = j
    · subst z
      rw [if_pos rfl] at e1
      split at e1 <;> cases e1
    · by_cases z2 : i = k
      · subst z2
        rw [if_pos rfl] at e2
        split at e2 <;> cases e2
      · rw [if_neg z] at e1
        rw [if_neg z2] at e2
        exact r.sep j k y1 y2 b nj e1 e2 e3 e4
  · rw [List.getElem?_set] at ej
    by_cases z : i = j
    · subst z
      rw [if_pos rfl] at ej
      split at ej
      · cases ej; exact ⟨dx, us, h1, upd_same, h3, h4, h⟩
      · cases ej
    · rw [if_neg z] at ej
      exact absurd (r.one i j _ _ _ _ _ _ e ej) z
  · have o1 : ∃ b D w, env[j]? = some (some (.bd b D w)) := by
      rw [List.getElem?_set] at e1
      by_cases z : i = j
      · subst z; exact ⟨_, _, _, e⟩
      · rw [if_neg z] at e1; exact ⟨_, _, _, e1⟩
    have o2 : ∃ b D w, env[k]? = some (some (.bd b D w)) := by
      rw [List.getElem?_set] at e2
      by_cases z : i = k
      · subst z; exact ⟨_, _, _, e⟩
      · rw [if_neg z] at e2; exact ⟨_, _, _, e2⟩
    obtain ⟨_, _, w1, o1⟩ := o1
    obtain ⟨_, _, w2, o2⟩ := o2
    exact r.one j k _ _ _ _ _ _ o1 o2
def bdPut (i : Nat) (C : Addr) (f : Str) (p : PV) (env : PEnv) : M Out := match env[i]? with
  | some (some (.bd a C' fs)) => grd (C' = C ∧ fs.length < 1000) (M.ok (.nx (env.set i (some (.bd a C (putP f p fs))))))
  | _ => none
def fldS (i : Nat) (C : Addr) (fl : Str) (f : PEnv → M PV) : PEnv → M Out := fun env => (f env).bind fun p => bdPut i C fl p env
section
variable {X : Cx} {E : XK} {e : Expr} {pos pos' px : Pos} {f : PEnv → M PV} {i : Nat} {x fl : Str} {C : Addr}
theorem pS_fld (hi : X.N[i]? = some x) (hv : Vis X.env.scope x) (c : Cls X.K C) (na : NoAttr X.K C fl) (he : PE X e (tE (fun _ => E) f)) (hd : (x == ("__debug__" : Str)) = false := by decide) (hcd : (x == ("__classdict__" : Str)) = false := by decide)
    (hs : swapsWith e (some (.Attribute (.Name x px) fl pos')) pos.line X.env = pure false := by rfl) : PS X (.Assign [.Attribute (.Name x px) fl pos'] e pos) (tS E (fldS i C fl f)) := by
  refine (ps_fld (pe_var hi hv hd hcd) he hs).imp fun D σ H q => tS_bindV q fun B H₀ Hs H1 env p v sr rp hp => ?_
  unfold bdPut at hp
  split at hp
  · rename_i a C' fs ex
    obtain ⟨⟨rfl, hz⟩, hp⟩ := Post.grd hp
    obtain ⟨dx, vs, h1, h2, h3, h4, h5⟩ := sr.bd i a _ fs ex
    exact ⟨.ref a, h1, a, _, dx, vs, rfl, h2, c, na, by rw [← h5.length]; exact hz, hp σ Hs _ (sr.putB ex (h5.put rp))⟩
  · exact hp.elim
end
def envI (m : Nat) (a C : Addr) (ps : List PV) : PEnv := some (.bd a C []) :: env0 (m - 1) ps
def outIs (a C : Addr) (env : PEnv) : M (List (Str × PV)) := match (env[0]? : Option (Option SV)) with
  | some (some (.bd b D fs)) => grd (b = a ∧ D = C) (M.ok fs)
  | _ => none
def outI (a C : Addr) : Out → M (List (Str × PV))
  | .nx env => outIs a C env
  | _ => none
def runI (m : Nat) (g : PEnv → M Out) (C a : Addr) (ps : List PV) : M (List (Str × PV)) := (g (envI m a C ps)).bind (outI a C)
noncomputable def uni {α : Type} (s : Addr → M α) : M α := open Classical in if h : ∃ r, ∀ a, s a = r then h.choose else none
theorem uni_eq {α : Type} {s : Addr → M α} {r : M α} (h : ∀ a, s a = r) : uni s = r := by
  have hx : ∃ r, ∀ a, s a = r := ⟨r, h⟩
  unfold uni
  rw [dif_pos hx, ← hx.choose_spec 0, h 0]
theorem Post.uni {α : Type} {s : Addr → M α} {Q : α → Prop} {E : EX → Prop} (h : Post (L2.uni s) Q E) (a : Addr) : Post (s a) Q E := by
  unfold L2.uni at h
  split at h
  · rename_i hx
    rw [hx.choose_spec a]; exact h
  · exact h.elim
def spI (n : Nat) (C : Addr) (sem : Addr → List PV → M (List (Str × PV))) : Sp := fun vs H Q E => vs.length = n ∧ ∃ a dx us Hs H1 ps, vs = .ref a :: us ∧ H1 a = none ∧ H1 dx = none ∧ dx ≠ a ∧ H = upd (upd H1 dx (.own a)) a (.ins C dx []) ∧ Same Hs H1 ∧ RepL Hs ps us ∧
  Post (sem a ps) (fun fs => ∀ dx' ws Hs' H', Grow Hs H1 Hs' H' → H' a = some (.ins C dx' ws) → Hs' a = none → RepF Hs' fs ws → Q .non H') (XW E Hs H1)
theorem SR.startI {Hs H₀ H : Hp} {N : List Str} {a C dx : Addr} {ps : List PV} {vs : List V} (s : Same Hs H₀) (hN : 0 < N.length) (ha : H₀ a = none) (r : RepL Hs ps vs) (hH : H = upd H₀ a (.ins C dx [])) : SR Hs H₀ Hs H (L2.start N (.ref a :: vs)) (envI N.length a C ps) := by
  have hs : Hs a = none := by
    cases q : Hs a with
    | none => rfl
    | some o => have := s _ _ q; rw [ha] at this; cases this
  have ne : ∀ c u, H₀ c = some u → c ≠ a := fun c u e z => by rw [z, ha] at e; cases e
  have s0 := SR.start (N := N.tail) s r
  have e1 : L2.start N (.ref a :: vs) = some (.ref a) :: L2.start N.tail vs := by
    unfold L2.start
    simp only [List.map_cons, List.cons_append, List.length_cons, List.length_tail]
    rw [Nat.sub_sub, Nat.add_comm]
  have e2 : envI N.length a C ps = some (.bd a C []) :: env0 N.tail.length ps := by unfold envI; rw [List.length_tail]
  have al : Same H₀ H := fun c u q => by rw [hH, upd_ne (ne c u q)]; exact q
  rw [e1, e2]
  refine ⟨⟨fun _ _ e => e, al, fun c u q => al c u (s c u q), fun c u q _ => q⟩, by simp [s0.len], fun j q ej => ?_, fun j zs ej => ?_, fun j k y1 y2 b nj e1 e2 e3 e4 => ?_, fun j ba D fs' ej => ?_, fun j k a1 a2 C' D fs' gs' e1 e2 => ?_⟩
  · cases j with
    | zero => cases ej
    | succ j => exact s0.sh j q (by simpa using ej)
  · cases j with
    | zero => cases ej
    | succ j => exact absurd (s0.ow j zs (by simpa using ej)) (fun ⟨b, ws, q1, q2, q3, q4, q5⟩ => by rw [q4] at q2; cases q2)
  · cases j with
    | zero => cases e1
    | succ j => exact absurd (s0.ow j y1 (by simpa using e1)) (fun ⟨b, ws, q1, q2, q3, q4, q5⟩ => by rw [q4] at q2; cases q2)
  · cases j with
    | zero => cases ej; exact ⟨dx, [], rfl, by rw [hH]; exact upd_same, hs, ha, .nil⟩
    | succ j => exact absurd (s0.bd j ba D fs' (by simpa using ej)) (fun ⟨b, ws, q1, q2, q3, q4, q5⟩ => by rw [q4] at q2; cases q2)
  · cases j with
    | zero => cases k with
      | zero => rfl
      | succ k => exact absurd (s0.bd k a2 D gs' (by simpa using e2)) (fun ⟨b, ws, q1, q2, q3, q4, q5⟩ => by rw [q4] at q2; cases q2)
    | succ j => exact absurd (s0.bd j a1 C' fs' (by simpa using e1)) (fun ⟨b, ws, q1, q2, q3, q4, q5⟩ => by rw [q4] at q2; cases q2)
theorem init_ok {P : Program} {w : World} {K : PySem.W.Frag} {mg : Str → Option Value} {base : Heap} {k : Nat} {f C : Addr} {name qual : Str} {params : Arguments} {body : List Stmt} {scope : Scope} {dV kV doc pm cdv ct oc : Value} {an od : Option Addr}
    {osl : Array (Option Value)} {N ps : List Str} {g : PEnv → M Out} (lk : K.lookup f = some ⟨oc, od, .func (PySem.W.fnOf name qual params body scope dV kV doc pm an cdv ct), osl⟩) (hcd : PySem.W.codeIn K cdv qual = true) (S : FnScope N ps scope) (hN : 0 < N.length)
    (hb : ∀ (A : Around) (outer : List Env) (s : Shared) (H : Hp) (E : XK), Room k (A.deeper (envOfC qual scope s.heap.objs.size f cdv)) → PSs ((cxOf (CXV P w) P w K mg base N qual scope f cdv A outer s H E).out fun _ => E) body (tS E g)) :
    FnOk P w K mg base (CXV P w) (k + 1) f (PySem.W.fnOf name qual params body scope dV kV doc pm an cdv ct) ps (spI ps.length C (runI N.length g C)) := by
  refine fn_ofV lk hcd S (fun vs H Q E h => h.1) fun A outer s H vs Q E hr hs => ⟨_, hb A outer s H E hr, ?_⟩
  obtain ⟨_, a, dx, us, Hs, H1, ps', rfl, ha, hdx, hne, hH, sm, r, h⟩ := hs
  have ne : ∀ c u, H1 c = some u → c ≠ dx := fun c u e z => by rw [z, hdx] at e; cases e
  have s0 : Same H1 (upd H1 dx (.own a)) := fun c u q => by rw [upd_ne (ne c u q)]; exact q
  have g0 : Grow Hs H1 Hs (upd H1 dx (.own a)) := ⟨fun _ _ e => e, s0, fun c u q => s0 c u (sm c u q), fun _ _ e _ => e⟩
  refine ⟨Hs, _, Hs, _, SR.startI (dx := dx) g0.sub hN (by rw [upd_ne (Ne.symm hne)]; exact ha) r hH, (Post.bind h).imp (fun o ho => ?_) fun e he => he.grow g0⟩
  cases o with
  | rt p => exact ho.elim
  | bk env => exact ho.elim
  | ct env => exact ho.elim
  | nx env =>
    intro σ Hs' H' sr
    have ho' : Post (outIs a C env) _ _ := ho
    unfold outIs at ho'
    split at ho'
    · rename_i b D fs ex
      obtain ⟨⟨rfl, rfl⟩, hp⟩ := Post.grd ho'
      obtain ⟨dx', ws, h1, h2, h3, h4, h5⟩ := sr.bd 0 _ _ fs ex
      exact hp dx' ws Hs' H' (g0.trans sr.gr) h2 h3 h5
    · exact ho'.elim
noncomputable def makeP (C : Addr) (sem : Addr → List PV → M (List (Str × PV))) (dps : List PV) (ps : List PV) : M PV := (uni fun a => sem a (ps ++ dps)).bind fun fs => M.ok (.obj C fs)
section
variable {X : Cx} {E : St → XK} {k n : Nat} {f C : Addr} {fd : FuncData} {ns : List Str} {sem : Addr → List PV → M (List (Str × PV))} {x : Str} {p pos : Pos} {e : Expr} {es : List Expr} {fs : PEnv → M (List PV)}
theorem pv_make {ds : List Value} {dvs : List V} {dps : List PV} (Mk : Mk X.K C f) (F : FnOk X.prog X.w X.K X.mg X.base (CXV X.prog X.w) k f fd ns (spI n C sem)) (hr : Room (k + 1) X.A) (hg : Gl X x) (hm : X.mg x = some (.ref C)) (hb : Binds X.K fd ns ds) (hd : Vals dvs ds) (hdp : ∀ H, RepL H dps dvs) (O : Outs X E)
    (hl : ∀ a ps, sem a (ps ++ dps) ≠ none → ps.length + dps.length + 1 = n)
    (ha : PA X (e :: es) (tL E fs)) (hdb : (x == ("__debug__" : Str)) = false := by decide) (he : starEach (e :: es) X.env = (false, eval e X.env) :: starEach es X.env := by rfl) (hpl : (backTo pos (starEach es X.env)).any (·.1) = false := by rfl) :
    PE X (.Call (.Name x p) (e :: es) [] pos) (tE E (callV' (makeP C sem dps) fs)) := by
  refine (pe_makeV Mk F hr hg hm hb hd O ha hdb he hpl).imp fun σ H Q q => tG_bindL (K := KV' Q) KV'.g q fun B H₀ Hs H1 env ps' v sr rp hp => ?_
  intro a dx ha hdx hne
  have r2 : RepL Hs (ps' ++ dps) (v ++ dvs) := rp.append (hdp Hs)
  have hp' := (Post.bind hp).uni a
  have hn : sem a (ps' ++ dps) ≠ none := fun z => by
    rw [z] at hp'; exact hp'
  refine ⟨?_, a, dx, v ++ dvs, Hs, H1, ps' ++ dps, rfl, ha, hdx, hne, rfl, sr.gr.sub, r2, hp'.imp (fun fl hfl dx' ws Hs' H' g hw hsw rw' => ⟨rfl, ?_⟩) fun e he => he⟩
  · show (v ++ dvs).length + 1 = n
    rw [← r2.length, List.length_append]
    exact hl a ps' hn
  · have ne : ∀ c u, Hs' c = some u → c ≠ a := fun c u q z => by rw [z, hsw] at q; cases q
    have hst : Same Hs' (upd Hs' a (.ins C dx' ws)) := fun c u q => by rw [upd_ne (ne c u q)]; exact q
    refine hfl (.ref a) (upd Hs' a (.ins C dx' ws)) H' ⟨fun c u q => hst c u (g.st c u q), g.al, fun c u q => ?_, fun c u q1 q2 => ?_⟩ (.obj upd_same (rw'.mono hst))
    · by_cases z : c = a
      · subst z; rw [upd_same] at q; cases q; exact hw
      · rw [upd_ne z] at q; exact g.sub c u q
    · have z : c ≠ a := fun z => by rw [z, ha] at q2; cases q2
      rw [upd_ne z]; exact g.nw c u q1 q2
end
end L2
namespace L2
open PySem PySem.Spec PyProof.Rows
section
variable {X : Cx} {E : St → XK} {a b c e : Expr} {pos : Pos} {f g h : PEnv → M PV}
theorem nat_log2_lt {n m : Nat} (h : n.log2 < m) : n < 2 ^ m := by
  by_cases z : n = 0
  · subst z; exact Nat.two_pow_pos m
  · exact (Nat.log2_lt z).mp h
theorem RepL.rep {H : Hp} {xs : List PV} {vs : List V} (r : RepL H xs vs) : ∀ k : Nat, RepL H (List.replicate k xs).flatten (List.replicate k vs).flatten
  | 0 => .nil
  | k + 1 => by rw [List.replicate_succ, List.replicate_succ, List.flatten_cons, List.flatten_cons]; exact r.append (r.rep k)
def mulP : PV → PV → M PV
  | .int i, .int j => grd (i.natAbs.log2 < 67108864 ∧ j.natAbs.log2 < 67108864) (M.ok (.int (i * j)))
  | .tup xs, .int k => grd (xs.isEmpty = false ∧ -(2 ^ 63) ≤ k ∧ k < 2 ^ 63 ∧ xs.length * k.toNat ≤ sizeLine) (M.ok (.tup (List.replicate k.toNat xs).flatten))
  | .lst xs, .int k => grd (-(2 ^ 63) ≤ k ∧ k < 2 ^ 63 ∧ xs.length * k.toNat ≤ sizeLine) (M.ok (.lst (List.replicate k.toNat xs).flatten))
  | _, _ => none
def rMulV (K : PySem.W.Frag) : R2 := fun x y H Q => (rI (fun i j => IntMulOk i j) fun i j => .int (i * j)) x y H Q ∨ rRepT K x y H Q ∨ rRep x y H Q
theorem op_mulV : OpR X (binaryOp .Mult) (rMulV X.K) := OpR.or op_mulB (OpR.or op_repT op_rep)
theorem ov_mul {K : PySem.W.Frag} : OpV E (rMulV K) mulP := by
  intro σ Hs H p q v u Q s rp rq h
  cases rp with
  | int i => cases rq with
    | int j =>
      obtain ⟨hz, h⟩ := Post.grd h
      exact .inl ⟨i, j, rfl, rfl, mulOk_lt (nat_log2_lt hz.1) (nat_log2_lt hz.2) (Nat.le_refl _), PVK.flat h s (.int _)⟩
    | _ => exact h.elim
  | @tup a xs vs ha hx => cases rq with
    | int k =>
      obtain ⟨⟨h0, h1, h2, h3⟩, h⟩ := Post.grd h
      have n1 : vs ≠ [] := fun z => by
        have := hx.length
        rw [z] at this
        cases xs with
        | nil => cases h0
        | cons _ _ => cases this
      refine .inr (.inl ⟨a, k, vs, rfl, rfl, SqT.of (s _ _ ha), n1, h1, h2, by rw [← hx.length]; exact h3, fun z => ?_, fun z => PVK.tup h s (hx.rep _)⟩)
      subst z
      rw [show (1 : Int).toNat = 1 from rfl, List.replicate_succ, List.replicate_zero, List.flatten_cons, List.flatten_nil, List.append_nil] at h
      exact PVK.flat h s (.tup ha hx)
    | _ => exact h.elim
  | @lst a xs vs ha hx => cases rq with
    | int k =>
      obtain ⟨⟨h1, h2, h3⟩, h⟩ := Post.grd h
      exact .inr (.inr ⟨a, k, vs, rfl, rfl, s _ _ ha, h1, h2, by rw [← hx.length]; exact h3, PVK.lst h s (hx.rep _)⟩)
    | _ => exact h.elim
  | _ => exact h.elim
theorem ov_fdiv : OpV E (rI CDivB fun i j => .int (i.fdiv j)) (intP (fun _ j => decide (j ≠ 0 ∧ j.natAbs.log2 < 9000)) fun i j => i.fdiv j) := ov_int fun i j z => (of_decide_eq_true z : j ≠ 0 ∧ j.natAbs.log2 < 9000)
theorem ov_mod : OpV E (rI (fun _ j => j ≠ 0) fun i j => .int (i.fmod j)) (intP (fun _ j => decide (j ≠ 0)) fun i j => i.fmod j) := ov_int fun i j z => of_decide_eq_true z
theorem ov_pow : OpV E (rI CPow fun i j => .int (i ^ j.toNat)) (intP (fun i j => decide (0 ≤ j ∧ j ≤ 1000000 ∧ i.natAbs < 2 ^ 64)) fun i j => i ^ j.toNat) := ov_int fun i j z => (of_decide_eq_true z : 0 ≤ j ∧ j ≤ 1000000 ∧ i.natAbs < 2 ^ 64)
def neg1 : PV → M PV
  | .int i => M.ok (.int (-i))
  | _ => none
def negV (f : PEnv → M PV) : PEnv → M PV := fun env => (f env).bind neg1
theorem pv_neg (ha : PE X a (tE E f)) : PE X (.UnaryOp .USub a pos) (tE E (negV f)) :=
  (pe_un un_neg ha).imp fun σ H Q q => tE_un q fun Hs H1 p v s rp h => by
    cases rp with
    | int i => exact ⟨i, rfl, PVK.flat h s (.int _)⟩
    | _ => exact h.elim
def isNon : PV → Bool
  | .non => true
  | _ => false
theorem isNon_of {H : Hp} {p : PV} {v : V} (r : Rep H p v) : decide (v = .non) = isNon p := by
  cases r <;> rfl
def isNP : PV → PV → M PV
  | p, .non => M.ok (.bl (isNon p))
  | _, _ => none
theorem ov_isN : OpV E (fun x y H Q => y = .non ∧ Q (.bl (decide (x = .non))) H) isNP := by
  intro σ Hs H p q v u Q s rp rq h
  cases rq with
  | non =>
    have h' : Post (M.ok (PV.bl (isNon p))) (PVK Hs H Q) (XW (E σ) Hs H) := by cases p <;> exact h
    exact ⟨rfl, by rw [isNon_of rp]; exact PVK.flat h' s (.bl _)⟩
  | _ => cases p <;> exact h.elim
def chainV (o o' : PV → PV → M PV) (f g h : PEnv → M PV) : PEnv → M PV := fun env => (f env).bind fun p => (g env).bind fun q => (o p q).bind fun z => (truB z).bind fun k => if k = true then (h env).bind fun r => o' q r else M.ok (.bl false)
theorem chain_tr {r r' : R2} {o o' : PV → PV → M PV} (hv : OpV E r o) (hv' : OpV E r' o') {σ : St} {H : Hp} {Q : VK} (q : tE E (chainV o o' f g h) σ H Q) : tChain r r' (tE E f) (tE E g) (tE E h) σ H Q := by
  refine tG_bindV (K := KV' Q) KV'.g q fun B H₀ Hs H1 env p v sr rp hp => ?_
  refine ⟨B, H₀, Hs, env, sr, (Post.bind hp).imp (fun q hq u Hs2 H2 g2 ru => ?_) fun e he => he⟩
  have sr2 := sr.grow g2
  refine hv σ Hs2 H2 p q v u _ sr2.gr.sub (rp.mono g2.st) ru ((Post.bind hq).imp (fun z hz w Hs3 H3 g3 rw' => ?_) fun e he => he.grow g2)
  obtain ⟨k, ek, hk⟩ := Post.tru (Post.bind hz)
  subst ek
  cases rw'
  refine ⟨k, rfl, ?_⟩
  have sr3 := sr2.grow g3
  cases k with
  | false => exact hk _ _ _ (g2.trans g3) (.bl _)
  | true =>
    have hk' : Post ((h env).bind fun r => o' q r) (KV' Q Hs H1) (XW (E σ) Hs H1) := hk
    refine ⟨B, H₀, Hs3, env, sr3, (Post.bind hk').imp (fun r hr w Hs4 H4 g4 rw4 => ?_) fun e he => he.grow (g2.trans g3)⟩
    exact hv' σ Hs4 H4 q r u w Q (sr3.grow g4).gr.sub ((ru.mono g3.st).mono g4.st) rw4 (hr.imp (fun z hz w' Hs5 H5 g5 r5 => hz w' Hs5 H5 ((g2.trans g3).trans (g4.trans g5)) r5) fun e he => he.grow ((g2.trans g3).trans g4))
theorem pv_chain {op op' : CmpOp} {r r' : R2} {o o' : PV → PV → M PV} (ho : OpR X (compareOp op) r) (hv : OpV E r o) (ho' : OpR X (compareOp op') r') (hv' : OpV E r' o') (ha : PE X a (tE E f)) (hb : PE X b (tE E g)) (hc : PE X c (tE E h))
    (hm : lastMarks [op, op'] [b, c] = false := by with_unfolding_all rfl) : PE X (.Compare a [op, op'] [b, c] pos) (tE E (chainV o o' f g h)) :=
  (pe_chain ho ho' ha hb hc hm).imp fun σ H Q q => chain_tr hv hv' q
def whileS (u : PEnv → M Bool) (b : PEnv → M Out) : Nat → PEnv → M Out
  | 0, _ => none
  | n + 1, env => (u env).bind fun t => if t = true then (b env).bind fun o => match o with
      | .nx env' => whileS u b n env'
      | .ct env' => whileS u b n env'
      | .bk env' => M.ok (.nx env')
      | .rt p => M.ok (.rt p)
    else M.ok (.nx env)
theorem pS_whileN {E : XK} {u : PEnv → M Bool} {g : PEnv → M Out} {body : List Stmt} (n : PEnv → Nat) (O : Outs X fun _ => E) (hc : PT X c (tT (fun _ => E) u)) (hb : PSs X body (tS E g)) : PS X (.While c body [] pos) (tS E fun env => whileS u g (n env) env) := by
  refine (ps_while O.own hc hb).imp fun D σ H q => ?_
  obtain ⟨B, H₀, Hs, env, sr, q⟩ := q
  refine ⟨fun m σ H => ∃ Hs env, SR B H₀ Hs H σ env ∧ Post (whileS u g m env) (KS D B H₀) (XW E B H₀), ⟨n env, Hs, env, sr, q⟩, ?_⟩
  rintro m σ1 H1 ⟨Hs1, env1, sr1, q1⟩
  cases m with
  | zero => exact q1.elim
  | succ m =>
    refine ⟨B, H₀, Hs1, env1, sr1, (Post.bind q1).imp (fun t ht Hs2 H2 g2 => ?_) fun e he => he.grow sr1.gr⟩
    have sr2 := sr1.grow g2
    cases t with
    | false => exact ht σ1 Hs2 H2 sr2
    | true =>
      refine ⟨fun σ' H' => ∃ Hs' env', SR B H₀ Hs' H' σ' env' ∧ Post (whileS u g m env') (KS D B H₀) (XW E B H₀), fun σ' H' z => ⟨m, Nat.lt_succ_self m, z⟩, B, H₀, Hs2, env1, sr2, (Post.bind ht).imp (fun o ho => ?_) fun e he => he⟩
      cases o with
      | nx env' => exact fun σ' Hs' H' sr' => ⟨Hs', env', sr', ho⟩
      | ct env' => exact fun σ' Hs' H' sr' => ⟨Hs', env', sr', ho⟩
      | bk env' => exact ho
      | rt p => exact ho
theorem while_mono {u : PEnv → M Bool} {g : PEnv → M Out} : ∀ (n k : Nat) (env : PEnv), whileS u g n env ≠ none → whileS u g (n + k) env = whileS u g n env
  | 0, _, _, h => (h rfl).elim
  | n + 1, k, env, h => by
    rw [show n + 1 + k = (n + k) + 1 by omega]
    unfold whileS at h ⊢
    cases hu : u env with
    | none => rfl
    | some z =>
      cases z with
      | error e => rfl
      | ok t =>
        rw [hu] at h
        cases t with
        | false => rfl
        | true =>
          show M.bind (g env) _ = M.bind (g env) _
          have h' : M.bind (g env) (fun o => match o with
            | .nx env' => whileS u g n env'
            | .ct env' => whileS u g n env'
            | .bk env' => M.ok (.nx env')
            | .rt p => M.ok (.rt p)) ≠ none := h
          cases hg : g env with
          | none => rfl
          | some z =>
            cases z with
            | error e => rfl
            | ok o =>
              rw [hg] at h'
              cases o with
              | nx env' => exact while_mono n k env' h'
              | ct env' => exact while_mono n k env' h'
              | bk env' => rfl
              | rt p => rfl
noncomputable def whileW (u : PEnv → M Bool) (b : PEnv → M Out) (env : PEnv) : M Out := open Classical in whileS u b (if h : ∃ n, whileS u b n env ≠ none then h.choose else 0) env
theorem whileW_eq {u : PEnv → M Bool} {b : PEnv → M Out} {n : Nat} {env : PEnv} (h : whileS u b n env ≠ none) : whileW u b env = whileS u b n env := by
  have hx : ∃ n, whileS u b n env ≠ none := ⟨n, h⟩
  unfold whileW
  rw [dif_pos hx]
  have h1 := hx.choose_spec
  rw [← while_mono _ n env h1, ← while_mono n hx.choose env h, Nat.add_comm]
theorem pS_while {E : XK} {u : PEnv → M Bool} {g : PEnv → M Out} {body : List Stmt} (O : Outs X fun _ => E) (hc : PT X c (tT (fun _ => E) u)) (hb : PSs X body (tS E g)) : PS X (.While c body [] pos) (tS E (whileW u g)) :=
  pS_whileN (fun env => open Classical in if h : ∃ n, whileS u g n env ≠ none then h.choose else 0) O hc hb
end
end L2
namespace L2
open PySem PySem.Spec PyProof.Rows
def tyN : PV → Option String
  | .non => some "NoneType"
  | .bl _ => some "bool"
  | .int _ => some "int"
  | .str _ => some "str"
  | .lst _ => some "list"
  | .scr _ => some "list"
  | .tup _ => some "tuple"
  | .emp => some "dict"
  | _ => none
def subN (a t : String) : Bool := a == t || (a == "bool" && t == "int")
theorem kt_NoneType_int (K : PySem.W.Frag) : PySem.W.kitOne K (.type "NoneType") (.type "int") = some false := by with_unfolding_all kernel_rfl
theorem kt_bool_int (K : PySem.W.Frag) : PySem.W.kitOne K (.type "bool") (.type "int") = some true := by with_unfolding_all kernel_rfl
def tys : List String := ["int", "bool", "str", "list", "tuple"]
theorem kitN (K : PySem.W.Frag) {p : PV} {a t : String} (ha : tyN p = some a) (ht : t ∈ tys) : PySem.W.kitOne K (.type a) (.type t) = some (subN a t) := by
  have ht2 : t = "int" ∨ t = "bool" ∨ t = "str" ∨ t = "list" ∨ t = "tuple" := by simpa [tys] using ht
  cases p <;> cases ha <;> rcases ht2 with rfl | rfl | rfl | rfl | rfl <;> first
    | exact kt_NoneType_int K
    | exact kt_NoneType_bool K
    | exact kt_NoneType_str K
    | exact kt_NoneType_list K
    | exact kt_NoneType_tuple K
    | exact kt_bool_int K
    | exact kt_bool_bool K
    | exact kt_bool_str K
    | exact kt_bool_list K
    | exact kt_bool_tuple K
    | exact kt_int_int K
    | exact kt_int_bool K
    | exact kt_int_str K
    | exact kt_int_list K
    | exact kt_int_tuple K
    | exact kt_str_int K
    | exact kt_str_bool K
    | exact kt_str_str K
    | exact kt_str_list K
    | exact kt_str_tuple K
    | exact kt_list_int K
    | exact kt_list_bool K
    | exact kt_list_str K
    | exact kt_list_list K
    | exact kt_list_tuple K
    | exact kt_tuple_int K
    | exact kt_tuple_bool K
    | exact kt_tuple_str K
    | exact kt_tuple_list K
    | exact kt_tuple_tuple K
    | exact kt_dict_int K
    | exact kt_dict_bool K
    | exact kt_dict_str K
    | exact kt_dict_list K
    | exact kt_dict_tuple K
theorem tyP_of {K : PySem.W.Frag} {Hs H : Hp} {p : PV} {v : V} {a : String} (s : Same Hs H) (r : Rep Hs p v) (ha : tyN p = some a) : TyOf K H v (.type a) := by
  cases r with
  | non => cases ha; exact .non
  | bl b => cases ha; exact .bl b
  | int i => cases ha; exact .int i
  | str x => cases ha; exact .str x
  | tup h _ => cases ha; exact .tup (s _ _ h)
  | lst h _ => cases ha; exact .lst (s _ _ h)
  | scr h _ => cases ha; exact .frz (s _ _ h)
  | emp h => cases ha; exact .dK (s _ _ h)
  | _ => cases ha
theorem kitAnyN (K : PySem.W.Frag) {p : PV} {a : String} (ha : tyN p = some a) : ∀ {Ts : List String}, (∀ t ∈ Ts, t ∈ tys) → PySem.W.kitAny K (.type a) (Ts.map Value.type) = some (Ts.any fun t => subN a t)
  | [], _ => rfl
  | t :: r, h => by
    have h1 := kitN K ha (h t List.mem_cons_self)
    have h2 := kitAnyN K ha (Ts := r) fun t q => h t (List.mem_cons_of_mem _ q)
    simp only [List.map_cons, PySem.W.kitAny, h1, List.any_cons]
    cases subN a t with
    | true => rfl
    | false => exact h2
structure OCls (K : PySem.W.Frag) (C : Addr) : Prop where
  cls : Cls K C
  ha : PySem.W.findIn K (.ref C) "__class__" = some (some (.builtin "object.__class__"))
  hn : PySem.W.specialIn K (.builtin "object.__class__") "__get__" = some (some (.builtin "getset_descriptor.__get__"))
  htk : PySem.W.takesIn K (.builtin "object.__class__") = some true
  hm : PySem.W.mroIn K C (.type "object") = some true
def isW (b : String → Bool) (ob oe : Addr → Option Bool) : PV → M PV
  | .obj C _ => optM ((ob C).map .bl)
  | .exc C _ => optM ((oe C).map .bl)
  | p => optM ((tyN p).map fun a => .bl (b a))
section
variable {X : Cx} {E : St → XK} {e : Expr} {pos p px pt : Pos} {f : PEnv → M PV} {T : String} {x : Str} {C : Addr} {ob oe : Addr → Option Bool}
theorem exc_at {H : Hp} {C : Addr} {fo : Option (List (Str × PV))} {Hs : Hp} {v : V} (s : Same Hs H) (r : Rep Hs (.exc C fo) v) : ∃ a fo', v = .ref a ∧ ExcAt H a C fo' := by
  cases r with
  | @exc0 a _ h => exact ⟨a, none, rfl, s _ _ h⟩
  | @exc1 a _ d _ vs h h2 _ => exact ⟨a, some vs, rfl, d, s _ _ h, s _ _ h2⟩
def isV (b : String → Bool) (ob oe : Addr → Option Bool) (f : PEnv → M PV) : PEnv → M PV := fun env => (f env).bind (isW b ob oe)
theorem isW_some {b : String → Bool} {p : PV} {Q : PV → Prop} {F : EX → Prop} (h : Post (isW b ob oe p) Q F) : (∃ a, tyN p = some a ∧ Q (.bl (b a))) ∨ (∃ C fs k, p = .obj C fs ∧ ob C = some k ∧ Q (.bl k)) ∨ ∃ C fo k, p = .exc C fo ∧ oe C = some k ∧ Q (.bl k) := by
  cases p with
  | obj C fs =>
    obtain ⟨z, e, q⟩ := Post.opt h
    obtain ⟨k, e2, rfl⟩ := Option.map_eq_some_iff.mp e
    exact .inr (.inl ⟨C, fs, k, rfl, e2, q⟩)
  | exc C fo =>
    obtain ⟨z, e, q⟩ := Post.opt h
    obtain ⟨k, e2, rfl⟩ := Option.map_eq_some_iff.mp e
    exact .inr (.inr ⟨C, fo, k, rfl, e2, q⟩)
  | non => exact .inl ⟨_, rfl, h⟩
  | bl _ => exact .inl ⟨_, rfl, h⟩
  | int _ => exact .inl ⟨_, rfl, h⟩
  | str _ => exact .inl ⟨_, rfl, h⟩
  | tup _ => exact .inl ⟨_, rfl, h⟩
  | lst _ => exact .inl ⟨_, rfl, h⟩
  | scr _ => exact .inl ⟨_, rfl, h⟩
  | emp => exact .inl ⟨_, rfl, h⟩
theorem obj_at {K : PySem.W.Frag} {Hs H : Hp} {C : Addr} {fs : List (Str × PV)} {v : V} (s : Same Hs H) (r : Rep Hs (.obj C fs) v) (c : OCls K C) : TyOf K H v (.ref C) := by
  cases r with
  | obj h _ => exact .ins (s _ _ h) c.cls c.ha c.hn c.htk c.hm
theorem pv_isT (hg : Gl X "isinstance") (hm : X.mg "isinstance" = none) (hT : PE X (.Name x pt) (tC (.ty T))) (ht : T ∈ tys) (hob : ∀ C b, ob C = some b → OCls X.K C ∧ PySem.W.kitOne X.K (.ref C) (.type T) = some b) (hoe : ∀ C b, oe C = some b → ECls X.K C ∧ PySem.W.kitOne X.K (.ref C) (.type T) = some b) (he : PE X e (tE E f))
    (h1 : starEach [e, .Name x pt] X.env = (false, eval e X.env) :: starEach [.Name x pt] X.env := by rfl) (h2 : starEach [.Name x pt] X.env = (false, eval (.Name x pt) X.env) :: starEach [] X.env := by rfl) (hpl : (backTo pos (starEach [.Name x pt] X.env)).any (·.1) = false := by rfl) :
    PE X (.Call (.Name "isinstance" p) [e, .Name x pt] [] pos) (tE E (isV (fun a => subN a T) ob oe f)) := by
  refine (pe_callB (CallR.or call_isT call_isE) hg hm bt_isi (pa_cons he (pa_cons hT pa_nil h2) h1) (by decide) (by decide) h1 hpl).imp fun σ H Q q => tG_bindV (K := KV' Q) KV'.g q fun B H₀ Hs H1 env p v sr rp hp => ?_
  rcases isW_some hp with ⟨a, ha, q⟩ | ⟨C, fs, k, rfl, e, q⟩ | ⟨C, fo, k, rfl, e, q⟩
  · exact .inl ⟨v, T, _, _, rfl, tyP_of sr.gr.sub rp ha, kitN X.K ha ht, PVK.flat q sr.gr.sub (.bl _)⟩
  · exact .inl ⟨v, T, _, _, rfl, obj_at sr.gr.sub rp (hob C k e).1, (hob C k e).2, PVK.flat q sr.gr.sub (.bl _)⟩
  · obtain ⟨a, fo', rfl, hx⟩ := exc_at sr.gr.sub rp
    exact .inr ⟨a, C, fo', k, (hoe C k e).1, hx, .inl ⟨T, rfl, (hoe C k e).2⟩, PVK.flat q sr.gr.sub (.bl _)⟩
theorem pv_isTT {e2 : Expr} {t2 : TE} {Ts : List String} (hg : Gl X "isinstance") (hm : X.mg "isinstance" = none) (hT : PE X e2 t2) (ht2 : ∀ σ H R, (∀ p, H p = none → R (.ref p) (upd H p (.tup (Ts.map V.ty)))) → t2 σ H R) (ht : ∀ t ∈ Ts, t ∈ tys) (hob : ∀ C b, ob C = some b → OCls X.K C ∧ PySem.W.kitAny X.K (.ref C) (Ts.map Value.type) = some b) (he : PE X e (tE E f))
    (h1 : starEach [e, e2] X.env = (false, eval e X.env) :: starEach [e2] X.env := by rfl) (h2 : starEach [e2] X.env = (false, eval e2 X.env) :: starEach [] X.env := by rfl) (hpl : (backTo pos (starEach [e2] X.env)).any (·.1) = false := by rfl) :
    PE X (.Call (.Name "isinstance" p) [e, e2] [] pos) (tE E (isV (fun a => Ts.any fun t => subN a t) ob (fun _ => none) f)) := by
  refine (pe_callB call_isTT hg hm bt_isi (pa_cons he (pa_cons hT pa_nil h2) h1) (by decide) (by decide) h1 hpl).imp fun σ H Q q => tG_bindV (K := KV' Q) KV'.g q fun B H₀ Hs H1 env p v sr rp hp => ?_
  refine ht2 σ H1 _ fun tp hn => ?_
  have g := Grow.new (o := .tup (Ts.map V.ty)) sr.gr.sub hn
  rcases isW_some hp with ⟨a, ha, q⟩ | ⟨C, fs, k, rfl, e, q⟩ | ⟨C, fo, k, rfl, e, q⟩
  · exact ⟨v, tp, Ts, _, _, rfl, upd_same, tyP_of g.sub (rp.mono g.st) ha, kitAnyN X.K ha ht, q _ _ _ g (.bl _)⟩
  · exact ⟨v, tp, Ts, _, _, rfl, upd_same, obj_at g.sub (rp.mono g.st) (hob C k e).1, (hob C k e).2, q _ _ _ g (.bl _)⟩
  · cases e
end
end L2
namespace L2
open PySem PySem.Spec PyProof.Rows
open PySem.SeqAt (shaped noMix noMixAll)
mutual
def dat : PV → Option PyData
  | .non => some .none
  | .bl b => some (.bool b)
  | .int i => some (.int i)
  | .str x => some (.str x)
  | .tup xs => (datL xs).map .tuple
  | .lst xs => (datL xs).map .list
  | .scr xs => (datL xs).map .list
  | .obj _ _ => none
  | .exc _ _ => none
  | .emp => none
def datL : List PV → Option (List PyData)
  | [] => some []
  | p :: r => (dat p).bind fun d => (datL r).map (d :: ·)
end
section
variable {X : Cx} {pins : List (Addr × Obj)} {σ : St} {H : Hp} {s : Shared}
mutual
theorem Rep.reads {Hs : Hp} (I : Inv X pins σ H s) (sm : Same Hs H) : ∀ {p : PV} {v : V} {u : Value} {d : PyData}, Rep Hs p v → RelV v u → dat p = some d → ∃ as, Reads s.heap u d as
  | _, _, u, d, .non, r, e => by
    cases e; cases (show u = Value.none from r); exact ⟨_, .none⟩
  | _, _, u, d, .bl b, r, e => by
    cases e; cases (show u = Value.bool b from r); exact ⟨_, .bool b⟩
  | _, _, u, d, .int i, r, e => by
    cases e; obtain ⟨t, rfl⟩ := (show ∃ t, u = Value.int i t from r); exact ⟨_, .int i t⟩
  | _, _, u, d, .str i, r, e => by
    cases e; obtain ⟨t, rfl⟩ := (show ∃ t, u = Value.str i t from r); exact ⟨_, .str i t⟩
  | _, _, u, d, .tup (a := a) ha hx, r, e => by
    obtain ⟨ds, e2, rfl⟩ := Option.map_eq_some_iff.mp (show (datL _).map PyData.tuple = some d from e)
    cases (show u = Value.ref a from r)
    obtain ⟨its, r1, ⟨o, ho, hc, n, hd⟩, _⟩ := I.tuple (SqT.of (sm _ _ ha))
    obtain ⟨as, ra⟩ := RepL.reads I sm hx r1 e2
    exact ⟨_, .tuple ho hc hd (by simpa using ra)⟩
  | _, _, u, d, .lst (a := a) ha hx, r, e => by
    obtain ⟨ds, e2, rfl⟩ := Option.map_eq_some_iff.mp (show (datL _).map PyData.list = some d from e)
    cases (show u = Value.ref a from r)
    obtain ⟨its, r1, ⟨o, n, ho, hc, _, hd⟩, _⟩ := I.list (SqL.of (sm _ _ ha))
    obtain ⟨as, ra⟩ := RepL.reads I sm hx r1 e2
    exact ⟨_, .list ho hc hd (by simpa using ra)⟩
  | _, _, u, d, .scr (a := a) (o := ob) ha hx, r, e => by
    obtain ⟨ds, e2, rfl⟩ := Option.map_eq_some_iff.mp (show (datL _).map PyData.list = some d from e)
    cases (show u = Value.ref a from r)
    obtain ⟨its, r1, ⟨o, n, ho, hc, _, hd⟩, _⟩ := I.list (.inl (.inr ⟨ob, sm _ _ ha⟩))
    obtain ⟨as, ra⟩ := RepL.reads I sm hx r1 e2
    exact ⟨_, .list ho hc hd (by simpa using ra)⟩
  | _, _, u, d, .obj _ _, r, e => by cases e
  | _, _, u, d, .exc0 _, r, e => by cases e
  | _, _, u, d, .exc1 _ _ _, r, e => by cases e
  | _, _, u, d, .emp _, r, e => by cases e
theorem RepL.reads {Hs : Hp} (I : Inv X pins σ H s) (sm : Same Hs H) : ∀ {p : List PV} {v : List V} {u : List Value} {d : List PyData}, RepL Hs p v → Vals v u → datL p = some d → ∃ as, ReadsAll s.heap u d as
  | _, _, _, _, .nil, .nil, e => by cases e; exact ⟨_, .nil⟩
  | _, _, _, d, .cons (p := p) (ps := ps) h hr, .cons r rr, e => by
    obtain ⟨d1, e1, e2⟩ := Option.bind_eq_some_iff.mp (show (dat p).bind (fun d => (datL ps).map (d :: ·)) = some d from e)
    obtain ⟨ds, e3, rfl⟩ := Option.map_eq_some_iff.mp e2
    obtain ⟨as, ra⟩ := Rep.reads I sm h r e1
    obtain ⟨bs, rb⟩ := RepL.reads I sm hr rr e3
    exact ⟨_, .cons ra rb⟩
end
end
def eqD (d e : PyData) : M Bool := grd (shaped d = true ∧ shaped e = true ∧ noMix d e = true) (M.ok (same d e))
def dat2 (o : Bool → PV) (p q : PV) : M PV := match dat p, dat q with
  | some d, some e => (eqD d e).bind fun b => M.ok (o b)
  | _, _ => none
def eqP : PV → PV → M PV := dat2 fun b => .bl b
def neP : PV → PV → M PV := dat2 fun b => .bl (!b)
def rEqD (o : Bool → Bool) : R2 := fun x y H Q => ∃ Hs p q d e, Same Hs H ∧ Rep Hs p x ∧ Rep Hs q y ∧ dat p = some d ∧ dat q = some e ∧ shaped d = true ∧ shaped e = true ∧ noMix d e = true ∧ Q (.bl (o (same d e))) H
section
variable {X : Cx} {E : St → XK}
theorem op_eqD (hu : X.A.units + 64 < cLine) : OpR X (compareOp .Eq) (rEqD id) := by
  intro pins s σ H x y v u Q I rx ry h
  obtain ⟨Hs, p, q, d, e, sm, rp, rq, hd, he, h1, h2, h3, hq⟩ := h
  obtain ⟨as, ra⟩ := Rep.reads I sm rp rx hd
  obtain ⟨bs, rb⟩ := Rep.reads I sm rq ry he
  exact eq_dataH_same ra rb h1 h2 hu h3 (fin_bl I hq rfl)
theorem op_neD (hu : X.A.units + 64 < cLine) : OpR X (compareOp .NotEq) (rEqD not) := by
  intro pins s σ H x y v u Q I rx ry h
  obtain ⟨Hs, p, q, d, e, sm, rp, rq, hd, he, h1, h2, h3, hq⟩ := h
  obtain ⟨as, ra⟩ := Rep.reads I sm rp rx hd
  obtain ⟨bs, rb⟩ := Rep.reads I sm rq ry he
  exact ne_dataH_same ra rb h1 h2 hu h3 (fin_bl I hq rfl)
theorem ov_dat {o : Bool → Bool} : OpV E (rEqD o) (dat2 fun b => .bl (o b)) := by
  intro σ Hs H p q v u Q s rp rq h
  unfold dat2 at h
  split at h
  · rename_i d e hd he
    have h' := Post.bind h
    obtain ⟨⟨h1, h2, h3⟩, h⟩ := Post.grd h'
    exact ⟨Hs, p, q, d, e, s, rp, rq, hd, he, h1, h2, h3, PVK.flat h s (.bl _)⟩
  · exact h.elim
theorem ov_eq : OpV E (rEqD id) eqP := ov_dat
theorem ov_ne : OpV E (rEqD not) neP := ov_dat
end
def cutP (xs : List PV) (lo hi : Option Int) : List PV := (xs.drop (HT.sIx xs.length 0 lo)).take (HT.sIx xs.length xs.length hi - HT.sIx xs.length 0 lo)
theorem RepL.cut {H : Hp} {xs : List PV} {vs : List V} (r : RepL H xs vs) (lo hi : Option Int) : RepL H (cutP xs lo hi) (cutV vs lo hi) := by
  unfold cutP cutV
  rw [r.length]
  exact (r.drop _).take _
def sliceP (p : PV) (lo hi : Option Int) : M PV := match p with
  | .tup xs => grd (¬ (HT.sIx xs.length 0 lo = 0 ∧ HT.sIx xs.length xs.length hi = xs.length)) (M.ok (.tup (cutP xs lo hi)))
  | .lst xs => M.ok (.lst (cutP xs lo hi))
  | .scr xs => M.ok (.lst (cutP xs lo hi))
  | _ => none
abbrev KO' (Q : Option Int → Hp → Prop) : Hp → Hp → Option Int → Prop := fun Hs H k => ∀ Hs' H', Grow Hs H Hs' H' → Q k H'
def tPt (E : St → XK) (g : PEnv → M (Option Int)) : TO := fun σ H Q => tG E g (KO' Q) σ H
theorem PO.imp {X : Cx} {e : Option Expr} {t t' : TO} (h : PO X e t) (i : ∀ σ H Q, t' σ H Q → t σ H Q) : PO X e t' := fun pins s σ H Q I q => h pins s σ H Q I (i σ H Q q)
def int1 : PV → M (Option Int)
  | .int i => M.ok (some i)
  | _ => none
def noPt : PEnv → M (Option Int) := fun _ => M.ok none
def somePt (f : PEnv → M PV) : PEnv → M (Option Int) := fun env => (f env).bind int1
def sliceV (f : PEnv → M PV) (lo hi : PEnv → M (Option Int)) : PEnv → M PV := fun env => (f env).bind fun p => (lo env).bind fun l => (hi env).bind fun h => sliceP p l h
section
variable {X : Cx} {E : St → XK} {e : Expr} {lo hi : Option Expr} {pos p2 : Pos} {f : PEnv → M PV} {gl gh : PEnv → M (Option Int)}
theorem KO'.g {Q : Option Int → Hp → Prop} : KG (KO' Q) := fun Hs H Hs' H' b k g Hs2 H2 g2 => k Hs2 H2 (g.trans g2)
theorem pP_none : PO X none (tPt E noPt) := po_none.imp fun σ H Q q => by
  obtain ⟨B, H₀, Hs, env, sr, q⟩ := q
  exact q Hs H (.refl sr.gr.sub)
theorem pP_some (he : PE X e (tE E f)) : PO X (some e) (tPt E (somePt f)) := (po_some he).imp fun σ H Q q => tG_bindV (K := KO' Q) KO'.g q fun B H₀ Hs H1 env p v sr rp hp => by
  cases rp with
  | int i => exact ⟨i, rfl, hp Hs H1 (.refl sr.gr.sub)⟩
  | _ => exact hp.elim
theorem pv_slice (he : PE X e (tE E f)) (hl : PO X lo (tPt E gl)) (hh : PO X hi (tPt E gh)) : PE X (.Subscript e (.Slice lo hi none p2) pos) (tE E (sliceV f gl gh)) := by
  refine (pe_slice (SlR.or sl_tup sl_list) he hl hh).imp fun σ H Q q => tG_bindV (K := KV' Q) KV'.g q fun B H₀ Hs H1 env p v sr rp hp => ?_
  refine ⟨B, H₀, Hs, env, sr, (Post.bind hp).imp (fun l hl Hs2 H2 g2 => ?_) fun e he => he⟩
  have sr2 := sr.grow g2
  refine ⟨B, H₀, Hs2, env, sr2, (Post.bind hl).imp (fun h hh Hs3 H3 g3 => ?_) fun e he => he.grow g2⟩
  have sr3 := sr2.grow g3
  have hz : Post (sliceP p l h) (PVK Hs3 H3 Q) (fun _ => True) := hh.imp (fun z hz w Hs4 H4 g4 r => hz w Hs4 H4 ((g2.trans g3).trans g4) r) fun _ _ => trivial
  have rp3 := (rp.mono g2.st).mono g3.st
  cases rp3 with
  | tup ha hx =>
    obtain ⟨hn, hz⟩ := Post.grd hz
    refine .inl ⟨_, _, rfl, SqT.of (sr3.gr.sub _ _ ha), by rw [← hx.length]; exact hn, PVK.tup hz sr3.gr.sub (hx.cut l h)⟩
  | lst ha hx => exact .inr ⟨_, _, rfl, SqL.of (sr3.gr.sub _ _ ha), PVK.lst hz sr3.gr.sub (hx.cut l h)⟩
  | scr ha hx => exact .inr ⟨_, _, rfl, .inl (.inr ⟨_, sr3.gr.sub _ _ ha⟩), PVK.lst hz sr3.gr.sub (hx.cut l h)⟩
  | _ => exact hz.elim
end
def enumI (xs : List PV) : List PV := xs.mapIdx fun i x => .tup [.int (i : Nat), x]
def enumP : List PV → M (List PV)
  | [.lst xs] => M.ok (enumI xs)
  | [.scr xs] => M.ok (enumI xs)
  | _ => none
section
variable {E : St → XK} {K : PySem.W.Frag} {fs : PEnv → M (List PV)}
theorem iter_enum {a : Addr} {Hs1 : Hp} {xs : List PV} {vs : List V} (hq : ∀ Hs' H', Same Hs1 Hs' → Same Hs' H' → SqL K H' a vs) (hr : RepL Hs1 xs vs) : IterOk (Iten K a) Hs1 (enumI xs) where
  stop := fun i Hs H s1 s2 hi => by
    unfold enumI at hi
    rw [List.length_mapIdx, hr.length] at hi
    exact ⟨vs, hq Hs H s1 s2, hi⟩
  go := fun i Hs H s1 s2 hi => by
    unfold enumI at hi
    rw [List.length_mapIdx] at hi
    obtain ⟨v, e, _⟩ := hr.get (List.getElem?_eq_getElem hi)
    exact ⟨vs, v, hq Hs H s1 s2, e⟩
  yld := fun i Hs H x H2 s1 s2 hi y => by
    unfold enumI at hi
    rw [List.length_mapIdx] at hi
    obtain ⟨v, e, r⟩ := hr.get (List.getElem?_eq_getElem hi)
    obtain ⟨pa, v', hn, rfl, rfl, y1⟩ := y
    have z1 := y1 vs (hq Hs H s1 s2)
    rw [e] at z1; cases z1
    have gr := Grow.new (o := .tup [.int (i : Nat), v]) s2 hn
    refine ⟨.tup [.int (i : Nat), xs[i]], _, ?_, gr, .tup upd_same (.cons (.int _) (.cons ((r.mono s1).mono gr.st) .nil))⟩
    unfold enumI
    rw [List.getElem?_mapIdx, List.getElem?_eq_getElem hi]
    rfl
theorem tiv_enum : TIV E (iEnum K (tL E fs)) (itL enumP fs) := by
  intro σ H R q
  refine tG_bindL (K := KI R) KI.g q fun B H₀ Hs H1 env ps v sr rp hp => ?_
  match ps, rp, hp with
  | [.lst xs], rp, hp =>
    obtain ⟨w, rfl, rw'⟩ := rp.one
    cases rw' with
    | lst ha hx => exact ⟨_, rfl, ⟨_, SqL.of (sr.gr.sub _ _ ha)⟩, hp _ Hs H1 (.refl sr.gr.sub) (iter_enum (fun Hs' H' s1 s2 => SqL.of (s2 _ _ (s1 _ _ ha))) hx)⟩
  | [.scr xs], rp, hp =>
    obtain ⟨w, rfl, rw'⟩ := rp.one
    cases rw' with
    | scr ha hx => exact ⟨_, rfl, ⟨_, .inl (.inr ⟨_, sr.gr.sub _ _ ha⟩)⟩, hp _ Hs H1 (.refl sr.gr.sub) (iter_enum (fun Hs' H' s1 s2 => .inl (.inr ⟨_, s2 _ _ (s1 _ _ ha)⟩)) hx)⟩
  | [], _, hp => exact hp.elim
  | [.non], _, hp => exact hp.elim
  | [.bl _], _, hp => exact hp.elim
  | [.int _], _, hp => exact hp.elim
  | [.str _], _, hp => exact hp.elim
  | [.tup _], _, hp => exact hp.elim
  | [.obj _ _], _, hp => exact hp.elim
  | [.exc _ _], _, hp => exact hp.elim
  | _ :: _ :: _, _, hp =>
    have hp' : Post (none : M (List PV)) (KI R Hs H1) (XW (E σ) Hs H1) := by
      unfold enumP at hp
      split at hp <;> first | exact hp | simp at *
    exact hp'.elim
end
end L2
namespace L2
open PySem PySem.Spec PyProof.Rows
section
variable {X : Cx} {tg : Expr}
end
section
variable {E : St → XK} {K : PySem.W.Frag} {fs : PEnv → M (List PV)}
theorem RepL.three {H : Hp} {p q r : PV} {vs : List V} (h : RepL H [p, q, r] vs) : ∃ v u w, vs = [v, u, w] ∧ Rep H p v ∧ Rep H q u ∧ Rep H r w := by
  cases h with
  | cons h r => obtain ⟨u, w, rfl, h2, h3⟩ := r.two; exact ⟨_, _, _, rfl, h, h2, h3⟩
end
end L2
namespace L2
open PySem PySem.Spec PyProof.Rows
def zipL3 : List PV → List PV → List PV → List PV
  | x :: xs, y :: ys, z :: zs => .tup [x, y, z] :: zipL3 xs ys zs
  | _, _, _ => []
theorem zipL3_get : ∀ {xs ys zs : List PV} {i : Nat} (h1 : i < xs.length) (h2 : i < ys.length) (h3 : i < zs.length), (zipL3 xs ys zs)[i]? = some (.tup [xs[i], ys[i], zs[i]])
  | x :: xs, y :: ys, z :: zs, 0, _, _, _ => rfl
  | x :: xs, y :: ys, z :: zs, i + 1, h1, h2, h3 => by
    show (zipL3 xs ys zs)[i]? = _
    exact zipL3_get (xs := xs) (ys := ys) (zs := zs) (i := i) (by simpa using h1) (by simpa using h2) (by simpa using h3)
  | [], _, _, _, h1, _, _ => by simp at h1
  | _ :: _, [], _, _, _, h2, _ => by simp at h2
  | _ :: _, _ :: _, [], _, _, _, h3 => by simp at h3
theorem zipL3_len : ∀ {xs ys zs : List PV}, (zipL3 xs ys zs).length = min xs.length (min ys.length zs.length)
  | x :: xs, y :: ys, z :: zs => by
    show (zipL3 xs ys zs).length + 1 = _
    rw [zipL3_len]
    simp only [List.length_cons]
    omega
  | [], _, _ => by simp [zipL3]
  | _ :: _, [], _ => by simp [zipL3]
  | _ :: _, _ :: _, [] => by simp [zipL3]
def zip3 : List PV → M (List PV)
  | [p, q, r] => match seqP p, seqP q, seqP r with
    | some xs, some ys, some zs => M.ok (zipL3 xs ys zs)
    | _, _, _ => none
  | _ => none
section
variable {E : St → XK} {K : PySem.W.Frag} {fs : PEnv → M (List PV)}
theorem iter_zip3 {b1 b2 b3 : Bool} {a1 a2 a3 : Addr} {Hs1 : Hp} {xs ys zs : List PV} {vs us ws : List V} (hq1 : ∀ Hs' H', Same Hs1 Hs' → Same Hs' H' → SqB K H' b1 a1 vs) (hr1 : RepL Hs1 xs vs) (hq2 : ∀ Hs' H', Same Hs1 Hs' → Same Hs' H' → SqB K H' b2 a2 us) (hr2 : RepL Hs1 ys us)
    (hq3 : ∀ Hs' H', Same Hs1 Hs' → Same Hs' H' → SqB K H' b3 a3 ws) (hr3 : RepL Hs1 zs ws) : IterOk (Ity K b1 b2 b3 a1 a2 a3) Hs1 (zipL3 xs ys zs) where
  stop := fun i Hs H s1 s2 hi => by
    rw [zipL3_len, hr1.length, hr2.length, hr3.length] at hi
    exact ⟨vs, us, ws, hq1 Hs H s1 s2, hq2 Hs H s1 s2, hq3 Hs H s1 s2, by omega⟩
  go := fun i Hs H s1 s2 hi => by
    rw [zipL3_len] at hi
    obtain ⟨v, e, _⟩ := hr1.get (List.getElem?_eq_getElem (show i < xs.length by omega))
    obtain ⟨u, e', _⟩ := hr2.get (List.getElem?_eq_getElem (show i < ys.length by omega))
    obtain ⟨w, e'', _⟩ := hr3.get (List.getElem?_eq_getElem (show i < zs.length by omega))
    exact ⟨vs, us, ws, v, u, w, hq1 Hs H s1 s2, hq2 Hs H s1 s2, hq3 Hs H s1 s2, e, e', e''⟩
  yld := fun i Hs H x H2 s1 s2 hi y => by
    rw [zipL3_len] at hi
    have l1 : i < xs.length := by omega
    have l2 : i < ys.length := by omega
    have l3 : i < zs.length := by omega
    obtain ⟨v, e, r⟩ := hr1.get (List.getElem?_eq_getElem l1)
    obtain ⟨u, e', r'⟩ := hr2.get (List.getElem?_eq_getElem l2)
    obtain ⟨w, e'', r''⟩ := hr3.get (List.getElem?_eq_getElem l3)
    obtain ⟨pa, v', u', w', hn, rfl, rfl, y1, y2, y3⟩ := y
    have z1 := y1 vs (hq1 Hs H s1 s2)
    have z2 := y2 us (hq2 Hs H s1 s2)
    have z3 := y3 ws (hq3 Hs H s1 s2)
    rw [e] at z1; cases z1
    rw [e'] at z2; cases z2
    rw [e''] at z3; cases z3
    have gr := Grow.new (o := .tup [v, u, w]) s2 hn
    exact ⟨_, _, zipL3_get l1 l2 l3, gr, .tup upd_same (.cons ((r.mono s1).mono gr.st) (.cons ((r'.mono s1).mono gr.st) (.cons ((r''.mono s1).mono gr.st) .nil)))⟩
theorem zip3_some {ps : List PV} {Q : List PV → Prop} {F : EX → Prop} (h : Post (zip3 ps) Q F) : ∃ p q r xs ys zs, ps = [p, q, r] ∧ seqP p = some xs ∧ seqP q = some ys ∧ seqP r = some zs ∧ Q (zipL3 xs ys zs) := by
  unfold zip3 at h
  split at h
  · split at h
    · exact ⟨_, _, _, _, _, _, rfl, by assumption, by assumption, by assumption, h⟩
    · exact h.elim
  · exact h.elim
theorem tiv_zip3 : TIV E (iZip3 K (tL E fs)) (itL zip3 fs) := by
  intro σ H R q
  refine tG_bindL (K := KI R) KI.g q fun B H₀ Hs H1 env ps v sr rp hp => ?_
  obtain ⟨p, q, r, xs, ys, zs, rfl, e1, e2, e3, hp⟩ := zip3_some hp
  obtain ⟨w, u, z, rfl, rw', ru, rz⟩ := rp.three
  obtain ⟨b1, a1, vs, rfl, hq1, hr1⟩ := seq_ofB (K := K) sr.gr.sub rw' e1
  obtain ⟨b2, a2, us, rfl, hq2, hr2⟩ := seq_ofB (K := K) sr.gr.sub ru e2
  obtain ⟨b3, a3, ws, rfl, hq3, hr3⟩ := seq_ofB (K := K) sr.gr.sub rz e3
  exact ⟨b1, b2, b3, a1, a2, a3, rfl, ⟨vs, hq1 Hs H1 (fun _ _ z => z) sr.gr.sub⟩, ⟨us, hq2 Hs H1 (fun _ _ z => z) sr.gr.sub⟩, ⟨ws, hq3 Hs H1 (fun _ _ z => z) sr.gr.sub⟩, hp _ Hs H1 (.refl sr.gr.sub) (iter_zip3 hq1 hr1 hq2 hr2 hq3 hr3)⟩
end
end L2
namespace L2
open PySem PySem.Spec PyProof.Rows
def setT3 (i j k : Nat) : PV → PEnv → M PEnv
  | .tup [p, q, r], env => M.ok (((env.set i (some (.sh p))).set j (some (.sh q))).set k (some (.sh r)))
  | _, _ => none
theorem tg_tup3 {E : XK} {K : PySem.W.Frag} {i j k : Nat} : TGV E (gTup K 3 (gCons (gName i) (gCons (gName j) (gCons (gName k) gNil)))) (setT3 i j k) := by
  intro B H₀ Hs H σ env p v Q Z sr r h
  cases r with
  | @tup a xs vs ha hx =>
    match xs, hx with
    | [p, q, r], hx =>
      obtain ⟨v, u, w, rfl, rp, rq, rr⟩ := hx.three
      exact ⟨a, [v, u, w], rfl, SqT.of (sr.gr.sub _ _ ha), rfl, v, [u, w], rfl, u, [w], rfl, w, [], rfl, rfl, h _ (((sr.set rp).set rq).set rr)⟩
    | [], _ => exact h.elim
    | [_], _ => exact h.elim
    | [_, _], _ => exact h.elim
    | _ :: _ :: _ :: _ :: _, _ => exact h.elim
  | _ => exact h.elim
theorem setok_tup3 {i j k : Nat} : SetOk (setT3 i j k) := fun p env e h n => by
  unfold setT3 at h
  split at h
  · cases h; exact now_set (now_set (now_set n))
  · cases h
section
variable {X : Cx} {E : XK} {e : Expr} {es : List Expr} {pos pos' px : Pos} {fs : PEnv → M (List PV)} {f h : PEnv → M PV} {i : Nat} {x : Str}
def ownAt (i : Nat) (env : PEnv) : M (List PV) := match env[i]? with
  | some (some (.ow xs)) => M.ok xs
  | _ => none
theorem Post.own {i : Nat} {env : PEnv} {Q : List PV → Prop} {F : EX → Prop} (h : Post (ownAt i env) Q F) : ∃ xs, env[i]? = some (some (.ow xs)) ∧ Q xs := by
  unfold ownAt at h
  split at h
  · exact ⟨_, by assumption, h⟩
  · exact h.elim
def putIx (i : Nat) (xs : List PV) (p : PV) (env : PEnv) : PV → M Out
  | .int n => match ixN xs.length n with
    | some j => M.ok (.nx (env.set i (some (.ow (xs.set j p)))))
    | none => none
  | _ => none
def ixS (i : Nat) (g f : PEnv → M PV) : PEnv → M Out := fun env => (f env).bind fun p => (ownAt i env).bind fun xs => (g env).bind (putIx i xs p env)
theorem pS_ix {ie : Expr} (hi : X.N[i]? = some x) (hv : Vis X.env.scope x) (hk : PE X ie (tE (fun _ => E) h)) (he : PE X e (tE (fun _ => E) f)) (hd : (x == ("__debug__" : Str)) = false := by decide) (hcd : (x == ("__classdict__" : Str)) = false := by decide)
    (ha : ∀ v, assign (.Subscript (.Name x px) ie pos') X.env v = (do
      let ov ← holding [v] (eval (.Name x px) X.env)
      let iv ← holding [v, ov] (eval ie X.env)
      standAt pos'
      holding [v, ov, iv] (setItem ov iv v)
      release [v, ov, iv] []) := by intro _; rfl)
    (hs : swapsWithSole [.Subscript (.Name x px) ie pos'] e pos.line X.env = pure false := by rfl) (hw : swappedStores [.Subscript (.Name x px) ie pos'] e X.env = pure none := by rfl)
    (h1 : (assignEach [.Subscript (.Name x px) ie pos'] X.env).map (·.2) = [assign (.Subscript (.Name x px) ie pos') X.env] := by rfl) : PS X (.Assign [.Subscript (.Name x px) ie pos'] e pos) (tS E (ixS i h f)) := by
  refine (ps_asg he (pg_sub (pe_var hi hv hd hcd) hk set_list ha) hs hw h1).imp fun D σ H q => tS_bindV q fun B H₀ Hs H1 env p v sr rp hp => ?_
  obtain ⟨xs, ex, hp⟩ := Post.own (Post.bind hp)
  obtain ⟨a, vs, h1, h2, h3, h4, h5⟩ := sr.ow i xs ex
  refine ⟨.ref a, h1, B, H₀, Hs, env, sr, (Post.bind hp).imp (fun k hk w Hs2 H2 g2 rk => ?_) fun e he => he.grow sr.gr⟩
  have sr2 := sr.grow g2
  cases rk with
  | int n =>
    have hk' : Post (match ixN xs.length n with | some j => M.ok (Out.nx (env.set i (some (.ow (xs.set j p))))) | none => none) (KS D B H₀) (XW E B H₀) := hk
    split at hk'
    · rename_i j ej
      exact ⟨a, vs, n, j, rfl, rfl, g2.al _ _ h2, by rw [← h5.length]; exact ej, hk' σ Hs2 _ (sr2.put ex h1 ((h5.mono g2.st).set (rp.mono g2.st) j))⟩
    · exact hk'.elim
  | _ => exact hk.elim
end
section
variable {X : Cx} {E : St → XK} {k n : Nat} {f C : Addr} {fd : FuncData} {ps : List Str} {sem : List PV → M (List PV)} {m : Str} {p pos apos cpos : Pos} {e o : Expr} {es : List Expr} {fs : PEnv → M (List PV)} {g : PEnv → M PV}
end
end L2
namespace L2
open PySem PySem.Spec PyProof.Rows
mutual
def noLst : PV → Bool
  | .non => true
  | .bl _ => true
  | .int _ => true
  | .str _ => true
  | .tup xs => noLstL xs
  | _ => false
def noLstL : List PV → Bool
  | [] => true
  | p :: r => noLst p && noLstL r
end
mutual
theorem Rep.away {Hs : Hp} {a : Addr} {ws : List V} (ha : Hs a = some (.lst ws)) : ∀ {p : PV} {v : V}, Rep Hs p v → noLst p = true → Rep (rem Hs a) p v
  | _, _, .non, _ => .non
  | _, _, .bl b, _ => .bl b
  | _, _, .int b, _ => .int b
  | _, _, .str b, _ => .str b
  | _, _, .tup (a := c) h r, n => by
    have nc : c ≠ a := fun z => by subst z; rw [ha] at h; cases h
    exact .tup (by unfold rem; rw [if_neg nc]; exact h) (r.away ha n)
  | _, _, .lst _ _, n => by cases n
  | _, _, .scr _ _, n => by cases n
  | _, _, .obj _ _, n => by cases n
  | _, _, .exc0 _, n => by cases n
  | _, _, .exc1 _ _ _, n => by cases n
theorem RepL.away {Hs : Hp} {a : Addr} {ws : List V} (ha : Hs a = some (.lst ws)) : ∀ {p : List PV} {v : List V}, RepL Hs p v → noLstL p = true → RepL (rem Hs a) p v
  | _, _, .nil, _ => .nil
  | _, _, .cons h r, n => by
    have n' := Bool.and_eq_true_iff.mp (show (noLst _ && noLstL _) = true from n)
    exact .cons (h.away ha n'.1) (r.away ha n'.2)
end
def borV : M PV → M PV
  | some (.ok p) => grd (noLst p = true) (M.ok p)
  | _ => none
theorem Post.borV {r : M PV} {Q : PV → Prop} {E : EX → Prop} (h : Post (L2.borV r) Q E) : Post r (fun p => noLst p = true ∧ Q p) (fun _ => False) := by
  cases r with
  | none => exact h
  | some r => cases r with
    | error e => exact h
    | ok p =>
      obtain ⟨n, h⟩ := Post.grd h
      exact ⟨n, h⟩
theorem Grow.back {Hs H Hs' H' : Hp} {a : Addr} {ws : List V} (h1 : Hs a = none) (hH : H a = some (.lst ws)) (s : Same Hs H) (g : Grow (upd Hs a (.lst ws)) H Hs' H') : Grow Hs H (rem Hs' a) H' ∧ Hs' a = some (.lst ws) := by
  have e : Hs' a = some (.lst ws) := g.st _ _ upd_same
  refine ⟨⟨fun c u q => ?_, g.al, fun c u q => ?_, fun c u q1 q2 => ?_⟩, e⟩
  · have nc : c ≠ a := fun z => by subst z; rw [h1] at q; cases q
    unfold rem; rw [if_neg nc]
    exact g.st c u (by rw [upd_ne nc]; exact q)
  · unfold rem at q
    split at q
    · cases q
    · exact g.sub c u q
  · unfold rem
    by_cases nc : c = a
    · rw [if_pos nc]
    · rw [if_neg nc]
      exact g.nw c u (by rw [upd_ne nc]; exact q1) q2
theorem SR.lend {B H₀ Hs H : Hp} {σ : St} {env : PEnv} {i : Nat} {xs : List PV} (r : SR B H₀ Hs H σ env) (e : env[i]? = some (some (.ow xs))) : ∃ a vs, Hs a = none ∧ H a = some (.lst vs) ∧ SR B H₀ (upd Hs a (.lst vs)) H σ (frzE i env) := by
  obtain ⟨a, vs, h1, h2, h3, h4, h5⟩ := r.ow i xs e
  refine ⟨a, vs, h3, h2, ?_⟩
  have ne : ∀ c u, Hs c = some u → c ≠ a := fun c u q z => by rw [z, h3] at q; cases q
  have hst : Same Hs (upd Hs a (.lst vs)) := fun c u q => by rw [upd_ne (ne c u q)]; exact q
  unfold frzE
  rw [e]
  refine ⟨⟨fun c u q => hst c u (r.gr.st c u q), r.gr.al, fun c u q => ?_, fun c u q1 q2 => ?_⟩, by rw [List.length_set]; exact r.len, fun j q ej => ?_, fun j ys ej => ?_, fun j k ys zs b nj e1 e2 e3 e4 => ?_, fun j ba C fs ej => ?_, fun j k _ _ C D fs gs e1 e2 => ?_⟩
  · by_cases z : c = a
    · subst z; rw [upd_same] at q; cases q; exact h2
    · rw [upd_ne z] at q; exact r.gr.sub c u q
  · have z : c ≠ a := fun z => by rw [z, h4] at q2; cases q2
    rw [upd_ne z]; exact r.gr.nw c u q1 q2
  · rw [List.getElem?_set] at ej
    by_cases z : i = j
    · subst z
      rw [if_pos rfl] at ej
      split at ej
      · cases ej
        exact ⟨.ref a, h1, .lst upd_same (h5.mono hst)⟩
      · cases ej
    · rw [if_neg z] at ej
      obtain ⟨v, q1, q2⟩ := r.sh j q ej
      exact ⟨v, q1, q2.mono hst⟩
  · rw [List.getElem?_set] at ej
    by_cases z : i = j
    · subst z
      rw [if_pos rfl] at ej
      split at ej <;> cases ej
    · rw [if_neg z] at ej
      obtain ⟨b, us, q1, q2, q3, q4, q5⟩ := r.ow j ys ej
      have nb : b ≠ a := fun w => by subst w; exact r.sep i j xs ys b z e ej h1 q1
      exact ⟨b, us, q1, q2, by rw [upd_ne nb]; exact q3, q4, q5.mono hst⟩
  · rw [List.getElem?_set] at e1 e2
    by_cases z : i = j
    · subst z
      rw [if_pos rfl] at e1
      split at e1 <;> cases e1
    · by_cases z2 : i = k
      · subst z2
        rw [if_pos rfl] at e2
        split at e2 <;> cases e2
      · rw [if_neg z] at e1
        rw [if_neg z2] at e2
        exact r.sep j k ys zs b nj e1 e2 e3 e4
  · rw [List.getElem?_set] at ej
    by_cases z : i = j
    · subst z
      rw [if_pos rfl] at ej
      split at ej <;> cases ej
    · rw [if_neg z] at ej
      obtain ⟨dx, us, q1, q2, q3, q4, q5⟩ := r.bd j ba C fs ej
      have nb : ba ≠ a := fun w => by subst w; rw [h2] at q2; cases q2
      exact ⟨dx, us, q1, q2, by rw [upd_ne nb]; exact q3, q4, q5.mono hst⟩
  · rw [List.getElem?_set] at e1 e2
    by_cases z : i = j
    · subst z
      rw [if_pos rfl] at e1
      split at e1 <;> cases e1
    · by_cases z2 : i = k
      · subst z2
        rw [if_pos rfl] at e2
        split at e2 <;> cases e2
      · rw [if_neg z] at e1
        rw [if_neg z2] at e2
        exact r.one j k _ _ C D fs gs e1 e2
def lendV (i : Nat) (f : PEnv → M PV) : PEnv → M PV := fun env => (ownAt i env).bind fun _ => borV (f (frzE i env))
section
variable {X : Cx} {E : St → XK} {e : Expr} {f : PEnv → M PV} {u : PEnv → M Bool}
theorem pv_lend (i : Nat) (he : PE X e (tE E f)) : PE X e (tE E (lendV i f)) := he.imp fun σ H Q q => by
  obtain ⟨B, H₀, Hs, env, sr, q⟩ := q
  obtain ⟨xs, ex, q⟩ := Post.own (Post.bind q)
  obtain ⟨a, vs, h3, h2, sr2⟩ := sr.lend ex
  refine ⟨B, H₀, _, _, sr2, (Post.borV q).imp (fun p hp v Hs' H' g r => ?_) fun _ z => z.elim⟩
  obtain ⟨g2, ea⟩ := Grow.back h3 h2 sr.gr.sub g
  exact hp.2 v _ _ g2 (r.away ea hp.1)
end
end L2
namespace L2
open PySem PySem.Spec PyProof.Rows
def fdivP : PV → PV → M PV := intP (fun _ j => decide (j ≠ 0 ∧ j.natAbs.log2 < 9000)) fun i j => i.fdiv j
def modP : PV → PV → M PV := intP (fun _ j => decide (j ≠ 0)) fun i j => i.fmod j
def powP : PV → PV → M PV := intP (fun i j => decide (0 ≤ j ∧ j ≤ 1000000 ∧ i.natAbs < 2 ^ 64)) fun i j => i ^ j.toNat
def ltP : PV → PV → M PV := cmpP fun i j => decide (i < j)
def leP : PV → PV → M PV := cmpP fun i j => decide (i ≤ j)
def gtP : PV → PV → M PV := cmpP fun i j => decide (j < i)
def geP : PV → PV → M PV := cmpP fun i j => decide (j ≤ i)
section
variable {E : St → XK}
theorem ov_fdivP : OpV E (rI CDivB fun i j => .int (i.fdiv j)) fdivP := ov_fdiv
theorem ov_modP : OpV E (rI (fun _ j => j ≠ 0) fun i j => .int (i.fmod j)) modP := ov_mod
theorem ov_powP : OpV E (rI CPow fun i j => .int (i ^ j.toNat)) powP := ov_pow
theorem ov_ltP : OpV E (rI0 fun i j => .bl (decide (i < j))) ltP := ov_cmp
theorem ov_leP : OpV E (rI0 fun i j => .bl (decide (i ≤ j))) leP := ov_cmp
theorem ov_gtP : OpV E (rI0 fun i j => .bl (decide (j < i))) gtP := ov_cmp
theorem ov_geP : OpV E (rI0 fun i j => .bl (decide (j ≤ i))) geP := ov_cmp
end
def lenG (n : Nat) (s : List PV → M PV) : List PV → M PV := fun ps => grd (ps.length = n) (s ps)
theorem lenG_len {n : Nat} {s : List PV → M PV} {ps : List PV} (h : lenG n s ps ≠ none) : ps.length = n := by
  unfold lenG grd at h
  split at h
  · assumption
  · exact (h rfl).elim
section
variable {P : Program} {w : World} {K : PySem.W.Frag} {mg : Str → Option Value} {base : Heap}
theorem fnok_len {k n : Nat} {f : Addr} {fd : FuncData} {ps : List Str} {s : List PV → M PV} (F : FnOk P w K mg base (CXV P w) k f fd ps (spV n s)) : FnOk P w K mg base (CXV P w) k f fd ps (spV n (lenG n s)) where
  len := fun vs H Q E h => by
    obtain ⟨h0, Hs, qs, sm, r, h⟩ := h
    exact F.len vs H Q E ⟨h0, Hs, qs, sm, r, (Post.grd h).2⟩
  run := fun A outer s H args us vs Q E hr e hb rv h => by
    obtain ⟨h0, Hs, qs, sm, r, h⟩ := h
    exact F.run A outer s H args us vs Q E hr e hb rv ⟨h0, Hs, qs, sm, r, (Post.grd h).2⟩
structure OkF (P : Program) (w : World) (K : PySem.W.Frag) (mg : Str → Option Value) (base : Heap) (n : Nat) (x : Str) (m : Nat) (sem : List PV → M PV) : Prop where
  ex : ∃ (f : Addr) (fd : FuncData) (ps : List Str), mg x = some (.ref f) ∧ PySem.W.keepIn K (.ref f) = true ∧ ps.length = m ∧ Binds K fd ps [] ∧ FnOk P w K mg base (CXV P w) n f fd ps (spV m (lenG m sem))
theorem FunD.okV {x qual : Str} {st : Stmt} {dv : Value} {f : Addr} {fd : FuncData} {N ps : List Str} {k : Nat} {g : PEnv → M Out} (F : FunD K x qual st dv f fd) (S : FnScope N ps (defScope st))
    (hb : ∀ (cdv : Value) (A : Around) (outer : List Env) (s : Shared) (H : Hp) (E : XK), Room k (A.deeper (envOfC qual (defScope st) s.heap.objs.size f cdv)) → Outs ((cxOf (CXV P w) P w K mg base N qual (defScope st) f cdv A outer s H E).out fun _ => E) (fun _ => E) → PSs ((cxOf (CXV P w) P w K mg base N qual (defScope st) f cdv A outer s H E).out fun _ => E) (defBody st) (tS E g)) :
    FnOk P w K mg base (CXV P w) (k + 1) f fd ps (spV ps.length (lenG ps.length (runD N.length g))) := by
  obtain ⟨oc, od, kV, doc, pm, an, cdv, ct, osl, rfl, lk, hcd⟩ := F.ex
  exact fnok_len (def_ok lk hcd S fun A outer s H E hr => hb cdv A outer s H E hr (outsZ rfl rfl))
end
section
variable {X : Cx} {E : St → XK} {n m k : Nat} {x : Str} {sem : List PV → M PV} {e : Expr} {es : List Expr} {fs : PEnv → M (List PV)} {p pos : Pos}
theorem OkF.call (F : OkF X.prog X.w X.K X.mg X.base n x m sem) (hr : Room k X.A) (hn : n ≤ k) (hg : Gl X x) (O : Outs X E) (ha : PA X (e :: es) (tL E fs)) (hdb : (x == ("__debug__" : Str)) = false := by decide) (he : starEach (e :: es) X.env = (false, eval e X.env) :: starEach es X.env := by rfl) (hpl : (backTo pos (starEach es X.env)).any (·.1) = false := by rfl) :
    PE X (.Call (.Name x p) (e :: es) [] pos) (tE E (callV' (lenG m sem) fs)) := by
  obtain ⟨f, fd, ps, h1, h2, h3, h4, h5⟩ := F.ex
  have := pv_call (p := p) (dps := []) h5 (hr.mono hn) hg h1 h2 h4 .nil (fun _ => .nil) O (fun ps' hp => by rw [List.append_nil] at hp; exact lenG_len hp) ha hdb he hpl
  refine this.imp fun σ H Q q => ?_
  have e : (fun ps => lenG m sem (ps ++ [])) = lenG m sem := by funext ps; rw [List.append_nil]
  rw [e]; exact q
structure OkM (P : Program) (w : World) (K : PySem.W.Frag) (mg : Str → Option Value) (base : Heap) (C : Addr) (n : Nat) (x : Str) (m : Nat) (sem : List PV → M PV) : Prop where
  ex : ∃ (f : Addr) (fd : FuncData) (ps : List Str), Cls K C ∧ Meth K C x f ∧ Binds K fd ps [] ∧ FnOk P w K mg base (CXV P w) n f fd ps (spV m (lenG m sem))
theorem OkM.call0 {C : Addr} {o : Expr} {g : PEnv → M PV} {apos : Pos} {pl : Sem Bool} (F : OkM X.prog X.w X.K X.mg X.base C n x m sem) (hr : Room k X.A) (hn : n ≤ k) (O : Outs X E) (ho : PE X o (tE E g))
    (ht : eval (.Call (.Attribute o x apos) [] [] pos) X.env = (do
      let ov ← eval o X.env
      standAt apos.atName
      let (f, first) ← holding [ov] (getMethod ov x pl)
      callWith pos f first (backTo pos (starEach [] X.env)) (backToKw pos (keywordEach [] X.env))) := by rfl) :
    PE X (.Call (.Attribute o x apos) [] [] pos) (tE E (methV C x (lenG m sem) g nilL)) := by
  obtain ⟨f, fd, ps, h1, h2, h3, h4⟩ := F.ex
  exact pv_meth0 ho h1 h2 h4 (hr.mono hn) h3 O (fun ps' hp => lenG_len hp) ht
end
structure OkI (P : Program) (w : World) (K : PySem.W.Frag) (mg : Str → Option Value) (base : Heap) (C : Addr) (n : Nat) (x : Str) (m : Nat) (dps : List PV) (sem : Addr → List PV → M (List (Str × PV))) : Prop where
  ex : ∃ (f : Addr) (fd : FuncData) (ps : List Str) (ds : List Value) (dvs : List V), mg x = some (.ref C) ∧ Mk K C f ∧ Binds K fd ps ds ∧ Vals dvs ds ∧ (∀ H, RepL H dps dvs) ∧ FnOk P w K mg base (CXV P w) n f fd ps (spI m C sem)
def lenI (m : Nat) (sem : Addr → List PV → M (List (Str × PV))) : Addr → List PV → M (List (Str × PV)) := fun a ps => grd (ps.length + 1 = m) (sem a ps)
theorem fnok_lenI {P : Program} {w : World} {K : PySem.W.Frag} {mg : Str → Option Value} {base : Heap} {k n : Nat} {f C : Addr} {fd : FuncData} {ps : List Str} {s : Addr → List PV → M (List (Str × PV))} (F : FnOk P w K mg base (CXV P w) k f fd ps (spI n C s)) : FnOk P w K mg base (CXV P w) k f fd ps (spI n C (lenI n s)) where
  len := fun vs H Q E h => by
    obtain ⟨h0, a, dx, us, Hs, H1, qs, e1, e2, e3, e4, e5, sm, r, h⟩ := h
    exact F.len vs H Q E ⟨h0, a, dx, us, Hs, H1, qs, e1, e2, e3, e4, e5, sm, r, (Post.grd h).2⟩
  run := fun A outer s H args us vs Q E hr e hb rv h => by
    obtain ⟨h0, a, dx, us', Hs, H1, qs, e1, e2, e3, e4, e5, sm, r, h⟩ := h
    exact F.run A outer s H args us vs Q E hr e hb rv ⟨h0, a, dx, us', Hs, H1, qs, e1, e2, e3, e4, e5, sm, r, (Post.grd h).2⟩
theorem FunD.okI {P : Program} {w : World} {K : PySem.W.Frag} {mg : Str → Option Value} {base : Heap} {x qual : Str} {st : Stmt} {dv : Value} {f C : Addr} {fd : FuncData} {N ps : List Str} {k : Nat} {g : PEnv → M Out} (F : FunD K x qual st dv f fd) (S : FnScope N ps (defScope st)) (hN : 0 < N.length)
    (hb : ∀ (cdv : Value) (A : Around) (outer : List Env) (s : Shared) (H : Hp) (E : XK), Room k (A.deeper (envOfC qual (defScope st) s.heap.objs.size f cdv)) → Outs ((cxOf (CXV P w) P w K mg base N qual (defScope st) f cdv A outer s H E).out fun _ => E) (fun _ => E) → PSs ((cxOf (CXV P w) P w K mg base N qual (defScope st) f cdv A outer s H E).out fun _ => E) (defBody st) (tS E g)) :
    FnOk P w K mg base (CXV P w) (k + 1) f fd ps (spI ps.length C (lenI ps.length (runI N.length g C))) := by
  obtain ⟨oc, od, kV, doc, pm, an, cdv, ct, osl, rfl, lk, hcd⟩ := F.ex
  exact fnok_lenI <| init_ok lk hcd S hN fun A outer s H E hr => hb cdv A outer s H E hr (outsZ rfl rfl)
section
variable {X : Cx} {E : St → XK} {n m k : Nat} {x : Str} {e : Expr} {es : List Expr} {fs : PEnv → M (List PV)} {p pos : Pos}
theorem OkI.make {C : Addr} {dps : List PV} {sem : Addr → List PV → M (List (Str × PV))} (F : OkI X.prog X.w X.K X.mg X.base C n x m dps (lenI m sem)) (hr : Room k X.A) (hn : n + 1 ≤ k) (hg : Gl X x) (O : Outs X E) (ha : PA X (e :: es) (tL E fs)) (hdb : (x == ("__debug__" : Str)) = false := by decide) (he : starEach (e :: es) X.env = (false, eval e X.env) :: starEach es X.env := by rfl) (hpl : (backTo pos (starEach es X.env)).any (·.1) = false := by rfl) :
    PE X (.Call (.Name x p) (e :: es) [] pos) (tE E (callV' (makeP C (lenI m sem) dps) fs)) := by
  obtain ⟨f, fd, ps, ds, dvs, h1, h2, h4, h5, h6, h7⟩ := F.ex
  refine pv_make (p := p) h2 h7 (hr.mono hn) hg h1 h4 h5 h6 O (fun a ps' hp => ?_) ha hdb he hpl
  unfold lenI grd at hp
  split at hp
  · rename_i h; rwa [List.length_append] at h
  · exact (hp rfl).elim
end
def noA : Addr → Option Bool := fun _ => none
theorem noA_ {P : Addr → Bool → Prop} : ∀ C b, noA C = some b → P C b := fun _ _ h => by cases h
theorem vr {X : Cx} {E : St → XK} {x : Str} {pos : Pos} (i : Nat) (hN : X.N[i]? = some x := by rfl) (hv : Vis X.env.scope x := by first | exact .inl rfl | exact .inr (.inl rfl) | exact .inr (.inr rfl)) (hd : (x == ("__debug__" : Str)) = false := by decide) (hcd : (x == ("__classdict__" : Str)) = false := by decide) : PE X (.Name x pos) (tE E (getV i)) := pv_var hN hv hd hcd
end L2
namespace L2
open PySem PySem.Spec PyProof.Rows
theorem starE {env : Env} {e : Expr} {es : List Expr} (h : (match e with | .Starred .. => true | _ => false) = false) : starEach (e :: es) env = (false, eval e env) :: starEach es env := by
  cases e <;> first | rfl | cases h
section
variable {X : Cx} {E : St → XK} {pos : Pos}
end
end L2
namespace L2
open PySem PySem.Spec PyProof.Rows
section
variable {X : Cx} {E : St → XK} {a b : Expr} {pos : Pos} {f g : PEnv → M PV}
end
end L2
namespace L2
open PySem PySem.Spec PyProof.Rows
structure OkE0 (K : PySem.W.Frag) (mg : Str → Option Value) (C : Addr) (x : Str) : Prop where
  hc : PySem.W.excIn K C valMro "ValueError.__new__" = true
  c : ECls K C
  ht : PySem.W.typeIn K (.ref C) = some (.type "type")
  kp : PySem.W.keepIn K (.ref C) = true
  m : mg x = some (.ref C)
structure OkE1 (P : Program) (w : World) (K : PySem.W.Frag) (mg : Str → Option Value) (base : Heap) (C : Addr) (x fl : Str) : Prop where
  ex : ∃ (f : Addr) (fd : FuncData) (ps : List Str), excInI K C "ValueError.__new__" f = true ∧ PySem.W.isFn K (.ref f) = true ∧ FnOk P w K mg base (CXV P w) 1 f fd ps (spX1 K C fl) ∧ Binds K fd ps []
  c : ECls K C
  ht : PySem.W.typeIn K (.ref C) = some (.type "type")
  kp : PySem.W.keepIn K (.ref C) = true
  m : mg x = some (.ref C)
section
variable {X : Cx} {E : XK} {e : Expr} {es : List Expr} {pos p cpos : Pos} {x fl : Str} {C : Addr} {k : Nat} {fs : PEnv → M (List PV)}
theorem OkE0.raise (F : OkE0 X.K X.mg C x) (O : Outs X fun _ => E) (hcalm : X.calm = true) (hg : Gl X x) (ha : PA X (e :: es) (tL (fun _ => E) fs))
    (hdb : (x == ("__debug__" : Str)) = false := by decide) (he : starEach (e :: es) X.env = (false, eval e X.env) :: starEach es X.env := by rfl) (hpl : (backTo cpos (starEach es X.env)).any (·.1) = false := by rfl) :
    PS X (.Raise (some (.Call (.Name x p) (e :: es) [] cpos)) none pos) (tS E (raise0 C fs)) := pS_raise0 O hcalm F.hc F.c F.ht F.kp hg F.m ha hdb he hpl
theorem OkE1.raise (F : OkE1 X.prog X.w X.K X.mg X.base C x fl) (hr : Room k X.A) (hn : 2 ≤ k) (O : Outs X fun _ => E) (hcalm : X.calm = true) (hg : Gl X x) (ha : PA X [e] (tL (fun _ => E) fs))
    (hdb : (x == ("__debug__" : Str)) = false := by decide) (he : starEach [e] X.env = (false, eval e X.env) :: starEach [] X.env := by rfl) (hpl : (backTo cpos (starEach [] X.env)).any (·.1) = false := by rfl) :
    PS X (.Raise (some (.Call (.Name x p) [e] [] cpos)) none pos) (tS E (raise1 C fl fs)) := by
  obtain ⟨f, fd, ps, h1, h2, h3, h4⟩ := F.ex
  exact pS_raise1 O hcalm h1 h2 F.c F.ht F.kp h3 (hr.mono hn) h4 hg F.m ha hdb he hpl
end
end L2
namespace L2
open PySem PySem.Spec PyProof.Rows
section
variable {X : Cx} {E : St → XK}
end
end L2
namespace L2
open PySem PySem.Spec PyProof.Rows
end L2
namespace L2
open PySem PySem.Spec PyProof.Rows
def par2 (i j : Nat) (env : PEnv) : List PV → M Out
  | [p, q] => M.ok (.nx ((env.set i (some (.sh p))).set j (some (.sh q))))
  | _ => none
def parS (i j : Nat) (fs : PEnv → M (List PV)) : PEnv → M Out := fun env => (fs env).bind (par2 i j env)
theorem pS_par {X : Cx} {E : XK} {i j : Nat} {x y : Str} {a b : Expr} {fs : PEnv → M (List PV)} {px py pt pos : Pos} {kt k2 : Nat} {pt2 : Pos} (hc : X.calm = true) (hN : X.N.Nodup) (hi : X.N[i]? = some x) (hj : X.N[j]? = some y) (hij : i ≠ j)
    (hx : X.env.scope.names.lookup x = some .local) (hy : X.env.scope.names.lookup y = some .local) (ha : PA X [a, b] (tL (fun _ => E) fs))
    (hw : swappedStores [.Tuple [.Name x px, .Name y py] kt pt] (.Tuple [a, b] k2 pt2) X.env = pure (some [x, y]))
    (hs : swapsWithSole [.Tuple [.Name x px, .Name y py] kt pt] (.Tuple [a, b] k2 pt2) pos.line X.env = pure false := by rfl) :
    PS X (.Assign [.Tuple [.Name x px, .Name y py] kt pt] (.Tuple [a, b] k2 pt2) pos) (tS E (parS i j fs)) := by
  refine (ps_par hc hN hi hj hij hx hy ha hw hs).imp fun D σ H q => tS_bindL q fun B H₀ Hs H1 env ps v sr rp hp => ?_
  match ps, rp, hp with
  | [], _, hp => exact hp.elim
  | [_], _, hp => exact hp.elim
  | _ :: _ :: _ :: _, _, hp => exact hp.elim
  | [p, q], rp, hp =>
    obtain ⟨v, u, rfl, r1, r2⟩ := rp.two
    exact ⟨v, u, rfl, hp _ Hs H1 ((sr.set r1).set r2)⟩
end L2
namespace L2
open PySem PySem.Spec PyProof.Rows
section
variable {X : Cx} {E : St → XK} {pos : Pos}
theorem PVK.emp {Hs H : Hp} {Q : VK} (h : PVK Hs H Q .emp) (s : Same Hs H) : ∀ p, H p = none → Q (.ref p) (upd H p (.dK [])) :=
  fun p n => h _ (upd Hs p (.dK [])) _ (Grow.new s n) (.emp upd_same)
theorem pv_emp : PE X (.Dict [] [] pos) (tE E fun _ => M.ok .emp) := by
  refine pe_dnewK.imp fun σ H Q q => ?_
  obtain ⟨B, H₀, Hs, env, sr, q⟩ := q
  exact PVK.emp q sr.gr.sub
end
end L2
namespace L2
open PySem PySem.Spec PyProof.Rows
section
variable {X : Cx} {tg elt iter c : Expr} {scope : Scope} {cl : List (Str × Addr)} {pos : Pos} {wi : TI} {it : PEnv → M (List PV)} {g : TG} {set : PV → PEnv → M PEnv} {f : PEnv → M PV} {ts fs : List Str} {js : List Nat}
theorem compN_tr {E : St → XK} {σ : St} {H : Hp} {Q : VK} (hv : TIV E wi it) (tgv : ∀ E, TGV E g set) (so : SetOk set) (q : tO E (compF it set none f ts.length js) σ H Q) : tCompN wi g (tE EF f) ts js σ H Q := by
  refine hv σ H _ ?_
  obtain ⟨B, H₀, Hs, env, sr, q⟩ := q
  refine ⟨B, H₀, Hs, env, sr, (Post.bind q).imp (fun xs hp J Hs1 H1 gr ok D hD => ?_) fun e he => he⟩
  obtain ⟨hz, hp⟩ := Post.grd hp
  have hp := Post.noX hp
  have sr1 := sr.grow gr
  refine ⟨fun i m σ H => m = xs.length - i ∧ i ≤ xs.length ∧ Jc set none f Q Hs1 H1 D xs i σ H, ⟨xs.length, by simp, Nat.zero_le _, Hs1, _, [], [], sr1.block hD, blockE_now, upd_same, ?_, .nil, Nat.le_refl _, hp.imp (fun zs hz vs p Hs2 H2 g2 r n => hz vs p Hs2 H2 (gr.trans g2) r n) fun _ z => z⟩, ?_⟩
  · cases z : Hs1 D with
    | none => rfl
    | some o => have := gr.sub _ _ z; rw [hD] at this; cases this
  rintro i m σ' H2 ⟨rfl, hi, Hs2, env2, ys, vs, sr2, n2, d1, d2, r2, l2, h2⟩
  by_cases hlt : i < xs.length
  · refine .inr ⟨ok.go i Hs2 H2 sr2.gr.st sr2.gr.sub hlt, Jc set none f Q Hs1 H1 D xs (i + 1), fun σ3 H3 j => ⟨xs.length - (i + 1), by omega, rfl, hlt, j⟩, fun x H3 y => ?_⟩
    obtain ⟨p, Hs3, ep, g3, r3⟩ := ok.yld i Hs2 H2 x H3 sr2.gr.st sr2.gr.sub hlt y
    have hd : xs.drop i = p :: xs.drop (i + 1) := by
      rw [List.drop_eq_getElem_cons hlt]
      rw [List.getElem?_eq_getElem hlt] at ep
      rw [Option.some.inj ep]
    rw [hd] at h2
    have h3 := Post.bind h2
    have sr3 := sr2.grow g3
    refine tgv (fun _ _ _ => False) Hs1 H1 Hs3 H3 σ' env2 p x _ (fun _ => False) sr3 r3 ?_
    cases hset : set p env2 with
    | none => rw [hset] at h3; exact h3
    | some z => cases z with
      | error e => rw [hset] at h3; exact h3
      | ok e3 =>
        rw [hset] at h3
        intro σ4 sr4
        have n4 := so p env2 e3 hset n2
        refine ⟨Hs1, H1, Hs3, e3, sr4, (Post.bind h3).imp (fun y hy v Hs5 H5 g5 r5 => ?_) fun _ z => z.elim⟩
        exact Jc.put (set := set) (t := none) (f := f) hD (sr4.grow g5) n4 (g5.al _ _ (g3.al _ _ d1)) (g5.nw _ _ (g3.nw _ _ d2 d1) (g3.al _ _ d1)) ((r2.mono g3.st).mono g5.st) l2 (by omega) r5 hy
  · refine .inl ⟨ok.stop i Hs2 H2 sr2.gr.st sr2.gr.sub (by omega), ?_⟩
    exact Jc.done (set := set) (t := none) (f := f) (xs := xs) (Hs1 := Hs1) (H1 := H1) (i := i) hD ⟨Hs2, env2, ys, vs, sr2, n2, d1, d2, r2, l2, h2⟩ (by omega)
variable {E : XK} {i : Nat} {y : Str} {py spos : Pos}
theorem pS_setOC (hcalm : X.calm = true)
    (hclos : closureFor scope X.env = pure cl) (hk : scope.kind = .function) (nc : noCell scope.names = true) (lo : locOnce scope.names = true) (fh : freeHas cl scope.names = true) (ag : Agrees X cl) (fr : Frees X scope cl fs js)
    (hi : PI X tg iter wi) (hv : TIV (fun _ => E) wi it) (hg : ∀ C s₀ H₀ ex pins, PG (cxc X scope cl (ts ++ fs) C s₀ H₀ ex pins) tg g) (tgv : ∀ E, TGV E g set) (so : SetOk set) (he : ∀ C s₀ H₀ ex pins, PE (cxc X scope cl (ts ++ fs) C s₀ H₀ ex pins) elt (tE EF f))
    (hN : X.N.Nodup) (hiy : X.N[i]? = some y) (hy : Loc X.env.scope y)
    (hs : ∀ x, foldedSetIterable iter X.env x = pure x := by intro _; rfl) (hsw : swapsWith (.ListComp elt [⟨tg, iter, [], 0⟩] scope pos) (some (.Name y py)) spos.line X.env = pure true := by rfl)
    (hf : X.fn y = true ∨ X.env.scope.names.lookup y = some .local := by first | exact .inl rfl | exact .inr rfl | assumption) :
    PS X (.Assign [.Name y py] (.ListComp elt [⟨tg, iter, [], 0⟩] scope pos) spos) (tS E (setO i (compF it set none f ts.length js))) := by
  refine (ps_setC hN hiy hy hcalm hclos hk nc lo fh ag fr hi hg he hs hsw hf).imp fun D σ H q => ?_
  refine compN_tr hv tgv so ?_
  obtain ⟨B, H₀, Hs, env, sr, q⟩ := q
  refine ⟨B, H₀, Hs, env, sr, (Post.bind q).imp (fun ps hp vs p Hs' H' g r n => ?_) fun e he => he.grow sr.gr⟩
  exact hp _ Hs' _ ((sr.grow g).own r n)
theorem pS_setC (hcalm : X.calm = true)
    (hclos : closureFor scope X.env = pure cl) (hk : scope.kind = .function) (nc : noCell scope.names = true) (lo : locOnce scope.names = true) (fh : freeHas cl scope.names = true) (ag : Agrees X cl) (fr : Frees X scope cl fs js)
    (hi : PI X tg iter wi) (hv : TIV (fun _ => E) wi it) (hg : ∀ C s₀ H₀ ex pins, PG (cxc X scope cl (ts ++ fs) C s₀ H₀ ex pins) tg g) (tgv : ∀ E, TGV E g set) (so : SetOk set) (he : ∀ C s₀ H₀ ex pins, PE (cxc X scope cl (ts ++ fs) C s₀ H₀ ex pins) elt (tE EF f))
    (hN : X.N.Nodup) (hiy : X.N[i]? = some y) (hy : Loc X.env.scope y)
    (hs : ∀ x, foldedSetIterable iter X.env x = pure x := by intro _; rfl) (hsw : swapsWith (.ListComp elt [⟨tg, iter, [], 0⟩] scope pos) (some (.Name y py)) spos.line X.env = pure true := by rfl)
    (hf : X.fn y = true ∨ X.env.scope.names.lookup y = some .local := by first | exact .inl rfl | exact .inr rfl | assumption) :
    PS X (.Assign [.Name y py] (.ListComp elt [⟨tg, iter, [], 0⟩] scope pos) spos) (tS E (setS i (lstOf (compF it set none f ts.length js)))) := by
  refine (ps_setC hN hiy hy hcalm hclos hk nc lo fh ag fr hi hg he hs hsw hf).imp fun D σ H q => ?_
  refine compN_tr hv tgv so ?_
  obtain ⟨B, H₀, Hs, env, sr, q⟩ := q
  refine ⟨B, H₀, Hs, env, sr, (Post.bind (Post.bind q)).imp (fun ps hp vs p Hs' H' g r n => ?_) fun e he => he.grow sr.gr⟩
  have gn := Grow.new (o := .lst vs) g.sub n
  exact hp _ _ _ ((sr.grow (g.trans gn)).set (.lst upd_same (r.mono gn.st)))
end
end L2
namespace L2
open PySem PySem.Spec PyProof.Rows
open PySem.SeqAt (shaped noMix noMixAll)
section
variable {α β : Type}
theorem M.bind_ok (a : α) (f : α → M β) : M.bind (M.ok a) f = f a := Eq.trans rfl rfl
theorem M.bind_err (e : EX) (f : α → M β) : M.bind (some (Except.error e)) f = some (.error e) := Eq.trans rfl rfl
theorem M.bind_none (f : α → M β) : M.bind none f = none := Eq.trans rfl rfl
theorem M.bind_some (a : α) (f : α → M β) : M.bind (some (Except.ok a)) f = f a := Eq.trans rfl rfl
theorem M.bind_assoc {γ : Type} (x : M α) (f : α → M β) (g : β → M γ) : M.bind (M.bind x f) g = M.bind x fun a => M.bind (f a) g := by
  cases x with
  | none => rfl
  | some x => cases x <;> rfl
theorem grd_pos {c : Prop} [Decidable c] {x : M α} (h : c) : grd c x = x := if_pos h
theorem noX_ok (a : α) : noX (M.ok a) = M.ok a := Eq.trans rfl rfl
end
theorem optM_some (x : PV) : optM (some x) = M.ok x := Eq.trans rfl rfl
theorem thenS_nx (g : PEnv → M Out) (env : PEnv) : thenS g (.nx env) = g env := Eq.trans rfl rfl
theorem thenS_rt (g : PEnv → M Out) (p : PV) : thenS g (.rt p) = M.ok (.rt p) := Eq.trans rfl rfl
theorem truB_bl (b : Bool) : truB (.bl b) = M.ok b := Eq.trans rfl rfl
theorem outP_rt (p : PV) : outP (.rt p) = M.ok p := Eq.trans rfl rfl
theorem outP_nx (e : PEnv) : outP (.nx e) = M.ok .non := Eq.trans rfl rfl
def tI (xs : List Int) : PV := .tup (xs.map PV.int)
def lI (xs : List Int) : PV := .lst (xs.map PV.int)
theorem seqP_tI (xs : List Int) : seqP (tI xs) = some (xs.map PV.int) := Eq.trans rfl rfl
theorem seqP_lI (xs : List Int) : seqP (lI xs) = some (xs.map PV.int) := Eq.trans rfl rfl
theorem seqP_tup (xs : List PV) : seqP (.tup xs) = some xs := Eq.trans rfl rfl
theorem seqP_lst (xs : List PV) : seqP (.lst xs) = some xs := Eq.trans rfl rfl
theorem seqP_scr (xs : List PV) : seqP (.scr xs) = some xs := Eq.trans rfl rfl
theorem len1_tI (xs : List Int) : len1 (tI xs) = M.ok (.int xs.length) := by simp [len1, tI, seqP, optM]
theorem len1_lI (xs : List Int) : len1 (lI xs) = M.ok (.int xs.length) := by simp [len1, lI, seqP, optM]
theorem len1_tup (xs : List PV) : len1 (.tup xs) = M.ok (.int xs.length) := Eq.trans rfl rfl
theorem len1_lst (xs : List PV) : len1 (.lst xs) = M.ok (.int xs.length) := Eq.trans rfl rfl
theorem len1_scr (xs : List PV) : len1 (.scr xs) = M.ok (.int xs.length) := Eq.trans rfl rfl
theorem sumP_map (xs : List Int) : sumP [.lst (xs.map PV.int)] = M.ok (.int xs.sum) := by simp [sumP, sum1, intsP_map, optM]
theorem allP_map (xs : List Bool) : allP [.lst (xs.map PV.bl)] = M.ok (.bl (xs.all id)) := by simp [allP, all1, blsP_map, optM]
theorem comp_1 {α : Type} {f : PEnv → M PV} {inj h : α → PV} {rest : PEnv} {x0 : Option SV} (xs : List α) (H : ∀ a ∈ xs, f (some (.sh (inj a)) :: rest) = M.ok (h a)) : compL (setN 0) none f (xs.map inj) (x0 :: rest) = M.ok (xs.map h) := by
  induction xs generalizing x0 with
  | nil => rfl
  | cons a r ih =>
    rw [List.map_cons, compL]
    show M.bind (M.ok ((x0 :: rest).set 0 (some (.sh (inj a))))) _ = _
    rw [M.bind_ok, List.set_cons_zero]
    show M.bind (f _) _ = _
    rw [H a List.mem_cons_self, M.bind_ok, ih fun b hb => H b (List.mem_cons_of_mem _ hb)]
    rfl
theorem comp_2 {α : Type} {f : PEnv → M PV} {p q h : α → PV} {rest : PEnv} {x0 x1 : Option SV} (xs : List α) (H : ∀ a ∈ xs, f (some (.sh (p a)) :: some (.sh (q a)) :: rest) = M.ok (h a)) : compL (setT2 0 1) none f (xs.map fun a => .tup [p a, q a]) (x0 :: x1 :: rest) = M.ok (xs.map h) := by
  induction xs generalizing x0 x1 with
  | nil => rfl
  | cons a r ih =>
    rw [List.map_cons, compL]
    show M.bind (M.ok (((x0 :: x1 :: rest).set 0 (some (.sh (p a)))).set 1 (some (.sh (q a))))) _ = _
    rw [M.bind_ok, List.set_cons_zero, List.set_cons_succ, List.set_cons_zero]
    show M.bind (f _) _ = _
    rw [H a List.mem_cons_self, M.bind_ok, ih fun b hb => H b (List.mem_cons_of_mem _ hb)]
    rfl
theorem comp_3 {α : Type} {f : PEnv → M PV} {p q s h : α → PV} {rest : PEnv} {x0 x1 x2 : Option SV} (xs : List α) (H : ∀ a ∈ xs, f (some (.sh (p a)) :: some (.sh (q a)) :: some (.sh (s a)) :: rest) = M.ok (h a)) : compL (setT3 0 1 2) none f (xs.map fun a => .tup [p a, q a, s a]) (x0 :: x1 :: x2 :: rest) = M.ok (xs.map h) := by
  induction xs generalizing x0 x1 x2 with
  | nil => rfl
  | cons a r ih =>
    rw [List.map_cons, compL]
    show M.bind (M.ok ((((x0 :: x1 :: x2 :: rest).set 0 (some (.sh (p a)))).set 1 (some (.sh (q a)))).set 2 (some (.sh (s a))))) _ = _
    rw [M.bind_ok, List.set_cons_zero, List.set_cons_succ, List.set_cons_zero, List.set_cons_succ, List.set_cons_succ, List.set_cons_zero]
    show M.bind (f _) _ = _
    rw [H a List.mem_cons_self, M.bind_ok, ih fun b hb => H b (List.mem_cons_of_mem _ hb)]
    rfl
theorem zip2_map {α β : Type} {f : α → PV} {g : β → PV} {p q : PV} (xs : List α) (ys : List β) (hp : seqP p = some (xs.map f)) (hq : seqP q = some (ys.map g)) : zip2 [p, q] = M.ok ((xs.zip ys).map fun z => .tup [f z.1, g z.2]) := by
  simp only [zip2, hp, hq]
  congr 2
  rw [List.zipWith_map, List.zip_eq_zipWith, List.map_zipWith]
theorem zip3_map {α β γ : Type} {f : α → PV} {g : β → PV} {h : γ → PV} {p q r : PV} (xs : List α) (ys : List β) (zs : List γ) (hp : seqP p = some (xs.map f)) (hq : seqP q = some (ys.map g)) (hr : seqP r = some (zs.map h)) : zip3 [p, q, r] = M.ok ((xs.zip (ys.zip zs)).map fun z => .tup [f z.1, g z.2.1, h z.2.2]) := by
  simp only [zip3, hp, hq, hr]
  congr 2
  clear hp hq hr
  induction xs generalizing ys zs with
  | nil => cases ys <;> cases zs <;> rfl
  | cons a r ih =>
    cases ys with
    | nil => rfl
    | cons b s =>
      cases zs with
      | nil => rfl
      | cons c t => simp only [List.map_cons, zipL3, List.zip_cons_cons, ih]
theorem enumI_map {α : Type} {f : α → PV} (xs : List α) : enumI (xs.map f) = (xs.zipIdx).map fun z => .tup [.int (z.2 : Int), f z.1] := by
  unfold enumI
  rw [List.mapIdx_eq_zipIdx_map, List.zipIdx_map, List.map_map]
  rfl
theorem loop_inv {set : PV → PEnv → M PEnv} {body : PEnv → M Out} {α : Type} {inj : α → PV} (J : List α → PEnv → Prop)
    (H : ∀ a r env, J (a :: r) env → ∃ e' env', set (inj a) env = M.ok e' ∧ body e' = M.ok (.nx env') ∧ J r env') : ∀ (xs : List α) (env : PEnv), J xs env → ∃ env', loopS set body (xs.map inj) env = M.ok (.nx env') ∧ J [] env'
  | [], env, h => ⟨env, rfl, h⟩
  | a :: r, env, h => by
    obtain ⟨e', env', h1, h2, h3⟩ := H a r env h
    obtain ⟨env'', h4, h5⟩ := loop_inv J H r env' h3
    refine ⟨env'', ?_, h5⟩
    rw [List.map_cons, loopS, h1, M.bind_ok, h2, M.bind_ok]
    exact h4
theorem while_inv {u : PEnv → M Bool} {b : PEnv → M Out} (J : PEnv → Prop) (m : PEnv → Nat)
    (H : ∀ env, J env → (u env = M.ok false) ∨ (u env = M.ok true ∧ ∃ env', b env = M.ok (.nx env') ∧ J env' ∧ m env' < m env)) (env : PEnv) (h : J env) : ∃ env', whileW u b env = M.ok (.nx env') ∧ J env' ∧ u env' = M.ok false := by
  have key : ∀ (n : Nat) (env : PEnv), J env → m env < n → ∃ env', whileS u b n env = M.ok (.nx env') ∧ J env' ∧ u env' = M.ok false := by
    intro n
    induction n with
    | zero => intro env _ hn; omega
    | succ n ih =>
      intro env h hn
      rcases H env h with hu | ⟨hu, env', hb, hj, hm⟩
      · exact ⟨env, by rw [whileS, hu, M.bind_ok]; rfl, h, hu⟩
      · obtain ⟨env'', h1, h2, h3⟩ := ih env' hj (by omega)
        exact ⟨env'', by rw [whileS, hu, M.bind_ok, if_pos rfl, hb, M.bind_ok]; exact h1, h2, h3⟩
  obtain ⟨env', h1, h2, h3⟩ := key (m env + 1) env h (Nat.lt_succ_self _)
  refine ⟨env', ?_, h2, h3⟩
  rw [whileW_eq (n := m env + 1) (by rw [h1]; exact fun z => nomatch z), h1]
theorem log2_small {i : Int} {k : Nat} (h : i.natAbs < 2 ^ k) (hk : k ≤ 9000) : i.natAbs.log2 < 67108864 := by
  by_cases z : i.natAbs = 0
  · rw [z]; decide
  · have := (Nat.log2_lt z).mpr h
    omega
theorem mulP_int {i j : Int} {k l : Nat} (hi : i.natAbs < 2 ^ k) (hj : j.natAbs < 2 ^ l) (hk : k ≤ 9000 := by decide) (hl : l ≤ 9000 := by decide) : mulP (.int i) (.int j) = M.ok (.int (i * j)) := by
  rw [mulP, grd_pos ⟨log2_small hi hk, log2_small hj hl⟩]
theorem fdivP_int {i j : Int} (h0 : j ≠ 0) (h : j.natAbs < 2 ^ 9000) : fdivP (.int i) (.int j) = M.ok (.int (i.fdiv j)) := by
  show grd _ _ = _
  refine grd_pos (decide_eq_true ⟨h0, (Nat.log2_lt (by omega)).mpr h⟩)
theorem modP_int {i j : Int} (h0 : j ≠ 0) : modP (.int i) (.int j) = M.ok (.int (i.fmod j)) := by
  show grd _ _ = _
  exact grd_pos (decide_eq_true h0)
theorem fdivP_pos {i j : Int} (h0 : 0 < j) (h : j < 2 ^ 64) : fdivP (.int i) (.int j) = M.ok (.int (i / j)) := by
  rw [fdivP_int (by omega) (Nat.lt_of_lt_of_le (show j.natAbs < 2 ^ 64 by omega) (Nat.pow_le_pow_right (by decide) (by decide))), Int.fdiv_eq_ediv_of_nonneg _ (by omega)]
theorem modP_pos {i j : Int} (h0 : 0 < j) : modP (.int i) (.int j) = M.ok (.int (i % j)) := by
  rw [modP_int (by omega), Int.fmod_eq_emod_of_nonneg _ (by omega)]
theorem idxP_nat {xs : List PV} {p : PV} {j : Nat} {x : PV} (hs : seqP p = some xs) (h : xs[j]? = some x) : idxP p (.int (j : Int)) = M.ok x := by
  cases p with
  | tup ys => cases hs; simp only [idxP, atI_nat h, optM]
  | lst ys => cases hs; simp only [idxP, atI_nat h, optM]
  | scr ys => cases hs; simp only [idxP, atI_nat h, optM]
  | _ => cases hs
section
variable {b : String → Bool} {ob oe : Addr → Option Bool}
theorem isW_tI (xs : List Int) : isW b ob oe (tI xs) = M.ok (.bl (b "tuple")) := Eq.trans rfl rfl
theorem isW_lI (xs : List Int) : isW b ob oe (lI xs) = M.ok (.bl (b "list")) := Eq.trans rfl rfl
theorem isW_tup (xs : List PV) : isW b ob oe (.tup xs) = M.ok (.bl (b "tuple")) := Eq.trans rfl rfl
theorem isW_lst (xs : List PV) : isW b ob oe (.lst xs) = M.ok (.bl (b "list")) := Eq.trans rfl rfl
theorem isW_int (i : Int) : isW b ob oe (.int i) = M.ok (.bl (b "int")) := Eq.trans rfl rfl
theorem isW_bl (i : Bool) : isW b ob oe (.bl i) = M.ok (.bl (b "bool")) := Eq.trans rfl rfl
theorem isW_non : isW b ob oe .non = M.ok (.bl (b "NoneType")) := Eq.trans rfl rfl
theorem isW_str (x : Str) : isW b ob oe (.str x) = M.ok (.bl (b "str")) := Eq.trans rfl rfl
theorem isW_emp : isW b ob oe .emp = M.ok (.bl (b "dict")) := Eq.trans rfl rfl
end
theorem neP_int (i j : Int) : neP (.int i) (.int j) = M.ok (.bl (!decide (i = j))) := by
  simp only [neP, dat2, dat, eqD, shaped, PyData.canLay0, PyData.depth, noMix]
  rw [grd_pos ⟨rfl, rfl, trivial⟩]
  unfold same
  rw [M.bind_ok]; congr
theorem eqP_int (i j : Int) : eqP (.int i) (.int j) = M.ok (.bl (decide (i = j))) := by
  simp only [eqP, dat2, dat, eqD, shaped, PyData.canLay0, PyData.depth, noMix]
  rw [grd_pos ⟨rfl, rfl, trivial⟩]
  unfold same
  rw [M.bind_ok]; congr
theorem neP_bl (i j : Bool) : neP (.bl i) (.bl j) = M.ok (.bl (!decide (i = j))) := by
  simp only [neP, dat2, dat, eqD, shaped, PyData.canLay0, PyData.depth, noMix]
  rw [grd_pos ⟨rfl, rfl, trivial⟩]
  unfold same
  rw [M.bind_ok]; congr
theorem eqP_bl (i j : Bool) : eqP (.bl i) (.bl j) = M.ok (.bl (decide (i = j))) := by
  simp only [eqP, dat2, dat, eqD, shaped, PyData.canLay0, PyData.depth, noMix]
  rw [grd_pos ⟨rfl, rfl, trivial⟩]
  unfold same
  rw [M.bind_ok]; congr
theorem datL_ints (xs : List Int) : datL (xs.map PV.int) = some (xs.map PyData.int) := by
  induction xs with
  | nil => rfl
  | cons a r ih => simp [datL, dat, ih]
theorem canLay_ints (xs : List Int) : PyData.canLayAll0 (xs.map PyData.int) = true := by
  induction xs with
  | nil => rfl
  | cons a r ih => simp [PyData.canLayAll0, PyData.canLay0, ih]
theorem depth_ints (xs : List Int) : PyData.depthAll (xs.map PyData.int) = 0 := by
  induction xs with
  | nil => rfl
  | cons a r ih => simp [PyData.depthAll, PyData.depth, ih]
theorem noMix_ints : ∀ (xs ys : List Int), noMixAll (xs.map PyData.int) (ys.map PyData.int) = true
  | [], [] => by simp [noMixAll]
  | [], _ :: _ => by simp [noMixAll]
  | _ :: _, [] => by simp [noMixAll]
  | a :: r, b :: s => by simp [noMixAll, noMix, noMix_ints r s]
theorem same_ints : ∀ (xs ys : List Int), sameAll (xs.map PyData.int) (ys.map PyData.int) = decide (xs = ys)
  | [], [] => by simp [sameAll]
  | [], _ :: _ => by simp [sameAll]
  | _ :: _, [] => by simp [sameAll]
  | a :: r, b :: s => by
    simp only [List.map_cons, sameAll, same_ints r s]
    unfold same
    rw [Bool.eq_iff_iff]; simp
theorem datL_rows (xs : List (List Int)) : datL (xs.map tI) = some (xs.map fun r => .tuple (r.map PyData.int)) := by
  induction xs with
  | nil => rfl
  | cons a r ih => simp [datL, dat, tI, datL_ints] at ih ⊢; simp [ih]
theorem canLay_rows (xs : List (List Int)) : PyData.canLayAll0 (xs.map fun r => .tuple (r.map PyData.int)) = true := by
  induction xs with
  | nil => rfl
  | cons a r ih => simp [PyData.canLayAll0, PyData.canLay0, ih, canLay_ints]
theorem depth_rows (xs : List (List Int)) : PyData.depthAll (xs.map fun r => .tuple (r.map PyData.int)) ≤ 1 := by
  induction xs with
  | nil => exact Nat.zero_le _
  | cons a r ih => simp [PyData.depthAll, PyData.depth, depth_ints, ih]
theorem noMix_rows : ∀ (xs ys : List (List Int)), noMixAll (xs.map fun r => .tuple (r.map PyData.int)) (ys.map fun r => .tuple (r.map PyData.int)) = true
  | [], [] => by simp [noMixAll]
  | [], _ :: _ => by simp [noMixAll]
  | _ :: _, [] => by simp [noMixAll]
  | a :: r, b :: s => by simp [noMixAll, noMix, noMix_ints, noMix_rows r s]
theorem same_rows : ∀ (xs ys : List (List Int)), sameAll (xs.map fun r => .tuple (r.map PyData.int)) (ys.map fun r => .tuple (r.map PyData.int)) = decide (xs = ys)
  | [], [] => by simp [sameAll]
  | [], _ :: _ => by simp [sameAll]
  | _ :: _, [] => by simp [sameAll]
  | a :: r, b :: s => by
    simp only [List.map_cons, sameAll, same_rows r s]
    unfold same
    rw [same_ints, Bool.eq_iff_iff]; simp
theorem eqP_tI (xs ys : List Int) : eqP (tI xs) (tI ys) = M.ok (.bl (decide (xs = ys))) := by
  simp only [eqP, dat2, dat, tI, datL_ints, Option.map_some, eqD]
  rw [grd_pos (by simp [shaped, PyData.canLay0, PyData.depth, canLay_ints, depth_ints, noMix, noMix_ints])]
  unfold same
  rw [same_ints]; rfl
theorem neP_tI (xs ys : List Int) : neP (tI xs) (tI ys) = M.ok (.bl (!decide (xs = ys))) := by
  simp only [neP, dat2, dat, tI, datL_ints, Option.map_some, eqD]
  rw [grd_pos (by simp [shaped, PyData.canLay0, PyData.depth, canLay_ints, depth_ints, noMix, noMix_ints])]
  unfold same
  rw [same_ints]; rfl
theorem eqP_rows (xs ys : List (List Int)) : eqP (.tup (xs.map tI)) (.tup (ys.map tI)) = M.ok (.bl (decide (xs = ys))) := by
  simp only [eqP, dat2, dat, datL_rows, Option.map_some, eqD]
  have h1 := depth_rows xs
  have h2 := depth_rows ys
  rw [grd_pos (by simp [shaped, PyData.canLay0, PyData.depth, canLay_rows, noMix, noMix_rows]; omega)]
  unfold same
  rw [same_rows]; rfl
theorem ltP_int (i j : Int) : ltP (.int i) (.int j) = M.ok (.bl (decide (i < j))) := Eq.trans rfl rfl
theorem leP_int (i j : Int) : leP (.int i) (.int j) = M.ok (.bl (decide (i ≤ j))) := Eq.trans rfl rfl
theorem gtP_int (i j : Int) : gtP (.int i) (.int j) = M.ok (.bl (decide (j < i))) := Eq.trans rfl rfl
theorem geP_int (i j : Int) : geP (.int i) (.int j) = M.ok (.bl (decide (j ≤ i))) := Eq.trans rfl rfl
theorem addP_int (i j : Int) : addP (.int i) (.int j) = M.ok (.int (i + j)) := Eq.trans rfl rfl
theorem subP_int (i j : Int) : subP (.int i) (.int j) = M.ok (.int (i - j)) := Eq.trans rfl rfl
theorem rng1_int {n : Int} (h : 0 ≤ n) (h2 : n < 2 ^ 62) : rng1 [.int n] = M.ok ((List.range n.toNat).map fun (i : Nat) => .int (i : Int)) := by
  show grd (-(2 ^ 62) ≤ n ∧ n < 2 ^ 62) _ = _
  rw [grd_pos (by omega)]
  simp
theorem numb_lt {i : Int} {n : Nat} (h : -(n : Int) < i) (h2 : i < n) : i.natAbs < n := by omega
theorem loop_bind {β : Type} {set : PV → PEnv → M PEnv} {body : PEnv → M Out} {α : Type} {inj : α → PV} {k : Out → M β} {r : M β} (xs : List α) (J : List α → PEnv → Prop) {env : PEnv} (h : J xs env)
    (H : ∀ a r env, J (a :: r) env → ∃ e' env', set (inj a) env = M.ok e' ∧ body e' = M.ok (.nx env') ∧ J r env') (hk : ∀ env', J [] env' → k (.nx env') = r) : M.bind (loopS set body (xs.map inj) env) k = r := by
  obtain ⟨env', e, h'⟩ := loop_inv J H xs env h
  rw [e, M.bind_ok]; exact hk env' h'
theorem while_bind {β : Type} {u : PEnv → M Bool} {b : PEnv → M Out} {k : Out → M β} {r : M β} (J : PEnv → Prop) (m : PEnv → Nat) {env : PEnv} (h : J env)
    (H : ∀ env, J env → (u env = M.ok false) ∨ (u env = M.ok true ∧ ∃ env', b env = M.ok (.nx env') ∧ J env' ∧ m env' < m env)) (hk : ∀ env', J env' → u env' = M.ok false → k (.nx env') = r) : M.bind (whileW u b env) k = r := by
  obtain ⟨env', e, h', h2⟩ := while_inv J m H env h
  rw [e, M.bind_ok]; exact hk env' h' h2
theorem enumP_lI (xs : List Int) : enumP [lI xs] = M.ok (xs.zipIdx.map fun z => .tup [.int (z.2 : Int), .int z.1]) := by
  show M.ok (enumI _) = _
  rw [enumI_map]
theorem enumP_lst {α : Type} {f : α → PV} (xs : List α) : enumP [.lst (xs.map f)] = M.ok (xs.zipIdx.map fun z => .tup [.int (z.2 : Int), f z.1]) := by
  show M.ok (enumI _) = _
  rw [enumI_map]
theorem sz1000 {n : Nat} (h : n ≤ 1000) : n ≤ sizeLine := Nat.le_of_lt (small1000 h)
def tupK (ps : List PV) : M PV := grd (ps.length ≤ sizeLine) (M.ok (.tup ps))
def lstK (ps : List PV) : M PV := grd (ps.length ≤ sizeLine) (M.ok (.lst ps))
theorem tupV_eq (fs : PEnv → M (List PV)) (env : PEnv) : tupV fs env = (fs env).bind tupK := rfl
theorem lstV_eq (fs : PEnv → M (List PV)) (env : PEnv) : lstV fs env = (fs env).bind lstK := rfl
theorem tupK_0 : tupK [] = M.ok (.tup []) := grd_pos (sz1000 (show 0 ≤ 1000 by decide))
theorem lstK_0 : lstK [] = M.ok (.lst []) := grd_pos (sz1000 (show 0 ≤ 1000 by decide))
theorem tupK_1 (a : PV) : tupK [a] = M.ok (.tup [a]) := grd_pos (sz1000 (show 1 ≤ 1000 by decide))
theorem lstK_1 (a : PV) : lstK [a] = M.ok (.lst [a]) := grd_pos (sz1000 (show 1 ≤ 1000 by decide))
theorem tupK_2 (a b : PV) : tupK [a, b] = M.ok (.tup [a, b]) := grd_pos (sz1000 (show 2 ≤ 1000 by decide))
theorem lstK_2 (a b : PV) : lstK [a, b] = M.ok (.lst [a, b]) := grd_pos (sz1000 (show 2 ≤ 1000 by decide))
theorem tupK_3 (a b c : PV) : tupK [a, b, c] = M.ok (.tup [a, b, c]) := grd_pos (sz1000 (show 3 ≤ 1000 by decide))
theorem lstK_3 (a b c : PV) : lstK [a, b, c] = M.ok (.lst [a, b, c]) := grd_pos (sz1000 (show 3 ≤ 1000 by decide))
theorem tupK_4 (a b c d : PV) : tupK [a, b, c, d] = M.ok (.tup [a, b, c, d]) := grd_pos (sz1000 (show 4 ≤ 1000 by decide))
theorem lstK_4 (a b c d : PV) : lstK [a, b, c, d] = M.ok (.lst [a, b, c, d]) := grd_pos (sz1000 (show 4 ≤ 1000 by decide))
theorem tupK_5 (a b c d e : PV) : tupK [a, b, c, d, e] = M.ok (.tup [a, b, c, d, e]) := grd_pos (sz1000 (show 5 ≤ 1000 by decide))
theorem lstK_5 (a b c d e : PV) : lstK [a, b, c, d, e] = M.ok (.lst [a, b, c, d, e]) := grd_pos (sz1000 (show 5 ≤ 1000 by decide))
theorem tupK_6 (a b c d e f : PV) : tupK [a, b, c, d, e, f] = M.ok (.tup [a, b, c, d, e, f]) := grd_pos (sz1000 (show 6 ≤ 1000 by decide))
theorem lstK_6 (a b c d e f : PV) : lstK [a, b, c, d, e, f] = M.ok (.lst [a, b, c, d, e, f]) := grd_pos (sz1000 (show 6 ≤ 1000 by decide))
end L2
namespace L2
open PySem PySem.Spec PyProof.Rows
theorem ln1 {α : Type} {us : List α} (h : us.length = 1) : ∃ a, us = [a] := by
  cases us with
  | nil => cases h
  | cons a t => cases t with
    | nil => exact ⟨a, rfl⟩
    | cons b t => cases h
theorem ln2 {α : Type} {us : List α} (h : us.length = 2) : ∃ a b, us = [a, b] := by
  cases us with
  | nil => cases h
  | cons a t => obtain ⟨b, rfl⟩ := ln1 (Nat.succ.inj h); exact ⟨a, b, rfl⟩
theorem ln3 {α : Type} {us : List α} (h : us.length = 3) : ∃ a b c, us = [a, b, c] := by
  cases us with
  | nil => cases h
  | cons a t => obtain ⟨b, c, rfl⟩ := ln2 (Nat.succ.inj h); exact ⟨a, b, c, rfl⟩
def freeL (K : PySem.W.Frag) : Bool := K.all fun p => match p.2.cls with
  | .type t => t != "list"
  | _ => true
theorem freeL_of {K : PySem.W.Frag} (h : freeL K = true) {a : Addr} {o : Obj} (e : K.lookup a = some o) : o.cls ≠ .type "list" := by
  induction K with
  | nil => cases e
  | cons p r ih =>
    obtain ⟨b, u⟩ := p
    rw [freeL, List.all_cons, Bool.and_eq_true] at h
    rw [List.lookup_cons] at e
    cases q : a == b with
    | true =>
      rw [q] at e; cases e
      intro z
      have h1 := h.1
      simp only [z] at h1
      exact absurd h1 (by decide)
    | false => rw [q] at e; exact ih h.2 e
theorem repl_ints {H : Hp} : ∀ ns : List Int, RepL H (ns.map PV.int) (ns.map V.int)
  | [] => .nil
  | i :: r => .cons (.int i) (repl_ints r)
theorem walk_bitsV {l : PySem.W.OpenLaw} {n k : Nat} {q : Program} {loose : List Str} {XP : (Str → Option Value) → Heap → Prop} {YP : World → Heap → Prop} {d : DefRec} {K : Params → PySem.W.Frag} {sem : List PV → M PV} {x : Str}
    (hn : l.most = some n) (hn2 : n ≤ sizeLine) (hdf : d.params.defaults = []) (hr : Room k callerA)
    (hY : ∀ (w : World) (h : Heap), YP w h → (K w.params).In h)
    (hK : ∀ w : World, freeL (K w.params) = true)
    (F : ∀ (w : World) (mg : Str → Option Value) (fa : Addr) (h : Heap), (K w.params).In h → h.Ns mainGlobals mg → mg d.name = some (.ref fa) →
      ∃ fd : FuncData, (∀ (s : Shared) (u : Value), BindsTo s fd ⟨[u], []⟩ [(x, u)]) ∧
        ∀ base : Heap, (K w.params).In base → base.Ns mainGlobals mg → FnOk l.prog w (K w.params) mg base (CXV l.prog w) k fa fd [x] (spV 1 sem))
    (hsem : ∀ ns : List Int, ns.length ≤ n → (∀ i ∈ ns, Builtin.Int.intBits i ≤ 1048576) → sem [.scr (ns.map PV.int)] = M.ok (.bl true)) :
    PySem.W.WalkO q loose XP YP l.row.toRowW d [] (fun f vs => PySem.call f vs) := by
  intro w s₀ s₁ mg mb G Y fa o pm cd doc dV kV ho hd hcd hD hmg hg args vals as hpre hlay hrd hwl hlo
  obtain rfl : dV = .none := PySem.W.Dflts.none hD hdf
  obtain rfl : kV = .none := PySem.W.Dflts.noKw hD
  obtain ⟨a, vs, ns, rfl, rfl, hobj, hints, hlen⟩ := Att.script_of hn hpre hwl
  have hbits : ∀ i ∈ ns, Builtin.Int.intBits i ≤ 1048576 := fun i hi => by
    have h1 := PySem.W.layableW_arg hlay _ (List.mem_singleton.mpr rfl)
    have h2 := PySem.W.layableW_item h1 (.int i) (List.mem_map.mpr ⟨i, hi, rfl⟩)
    exact intBits_le_of_layable h2
  have KX := hY w _ Y
  obtain ⟨fd, hb, hF⟩ := F w mg fa _ KX G.T.g hmg
  have hs := hsem ns hlen hbits
  refine PySem.W.enter_call (codeAny_mono (law_call KX G.T.g G.T.b G.T.builtins G.T.nolimit hg hobj hints (Nat.le_trans hlen hn2) hr hF hb (fun H hO hS => ⟨rfl, H, [.scr (ns.map PV.int)], fun _ _ e => e, ?_, ?_⟩) fun H e s' z => ?_) fun r s' hq => ?_)
  · rcases hS with (hS | ⟨ob, hS⟩) | ⟨ob, its, m, e1, e2, _⟩
    · rcases hO a with z | ⟨ob, xs, z⟩
      · rw [z] at hS; cases hS
      · rw [z] at hS; cases hS
    · exact .cons (.scr hS (repl_ints ns)) .nil
    · exact absurd e2 (freeL_of (hK w) e1)
  · rw [hs]
    intro v Hs' H' g r
    cases r; rfl
  · obtain ⟨ea, T, C, dd, Hc, _, _, _, _, _, _, _, _, z⟩ := z; exact z
  · obtain ⟨rfl, h2, h3, h4⟩ := hq
    exact ⟨.inl ⟨.bool true, .bool true, [], rfl, fun _ => rfl, .bool true, Att.post_true l _, fun _ => ⟨List.Pairwise.nil, fun _ hm => (nomatch hm)⟩⟩, h2, h3, h4⟩
end L2
set_option maxHeartbeats 0
namespace HD
open PySem PySem.W L2
abbrev pw : Program := PySem.Challenge.pw_dialvault_k41_still_or_not
noncomputable section
def st (s : String) (t : Nat) : Value := .str (Str.ofString s) t
def en (P : Params) (s : String) (t : Nat) (v : Value) : DictEntry := ⟨PyData.keyHash P (Str.ofString s), st s t, v⟩
def tu (xs : List Value) : Obj := ⟨.type "tuple", none, .seq ⟨xs⟩ 0, ⟨[]⟩⟩
def di (n : Nat) (es : List DictEntry) : Obj := ⟨.type "dict", none, .dict ⟨es⟩ n, ⟨[]⟩⟩
def tp (i : Nat) : Stmt := pw.main.body.getD i (.Pass ⟨0, 0, 0, 0⟩)
def mp (i j : Nat) : Stmt := inClass (tp i) j
def co (a b : String) (t : Nat) (l n : Int) (x1 x2 x3 x4 x5 : Nat) (u : Nat) : Obj := ⟨.type "code", none, .fields ⟨[st a t, st b (t + 1), st "/claim/cut.py" (t + 2), .int l 0, .int n 0, .int 0 0, .int 0 0, .int 3 0, .ref x1, .bool true, .int 181 0, .ref x2, .none, .ref x3, .ref x4, .ref x5, .int u 0, .int l 0, st "/claim/cut.py" (u + 1)]⟩, ⟨[]⟩⟩
def ft (a b : String) (s : Stmt) : Obj := ⟨.none, none, .func ⟨Str.ofString a, Str.ofString b, defArgs s, .stmts (defBody s), defScope s, 0, [], .none, .none, .none, .none, none, .none, .none, 0⟩, ⟨[]⟩⟩
def fo (a b : String) (s : Stmt) (df pm : Value) (cd : Nat) : Obj := ⟨.type "function", none, .func ⟨Str.ofString a, Str.ofString b, defArgs s, .stmts (defBody s), defScope s, 3, [], df, .none, .none, pm, none, .ref cd, .none, 0⟩, ⟨[]⟩⟩
def odd1 : List Obj → List Obj
  | [] => []
  | [a] => [a]
  | a :: _ :: r => a :: odd1 r
def bt : Nat → List Obj → BT
  | 0, _ => .nil
  | _ + 1, [] => .nil
  | n + 1, a :: r => .node a (bt n (odd1 r)) (bt n (odd1 (r.drop 1)))
def S (L : Params → List Obj) (n k : Nat) (w : World) (os : OsState) : SharedT := ⟨bt 14 (L w.params), n, {}, ⟨[]⟩, ⟨0, 0, 0, 0⟩, k, os⟩
def F (L : Params → List Obj) (k : Nat) (w : World) (os : OsState) : Shared := ⟨⟨⟨L w.params⟩, {}⟩, ⟨[]⟩, ⟨0, 0, 0, 0⟩, k, os⟩
def o0 (P : Params) : Obj := ⟨.type "code", none, (.fields ⟨[st "<module>" 182, st "<module>" 183, st "/claim/cut.py" 184, .int 1 0, .int 0 0, .int 0 0, .int 0 0, .int 0 0, .ref 11, .bool false, .int 181 0, .ref 12, .none, .none, .none, .none, .int 185 0, .int 1 0, st "/claim/cut.py" 186]⟩), ⟨[]⟩⟩
def o1 (P : Params) : Obj := ⟨.type "frame", none, .plain, ⟨[some (.ref 13), some (.ref 3), some (.ref 3), none, some (st "__main__" 164), none, some (.ref 0)]⟩⟩
def LA (P : Params) : List Obj := [boot_o_0 P, boot_o_1 P, boot_o_2 P, boot_o_3 P, boot_o_4 P, boot_o_5 P, boot_o_6 P, boot_o_7 P, boot_o_8 P, boot_o_9 P, boot_o_10 P, boot_o_7 P, boot_o_8 P, o0 P, o1 P]
def o2 (P : Params) : Obj := di 11 [en P "__name__" 165 (st "dialvault.errors" 194), en P "__doc__" 166 .none, en P "__package__" 167 .none, en P "__loader__" 168 (.builtin "__main__.__loader__#opaque"), en P "__spec__" 169 .none, en P "__annotations__" 170 (.ref 6), en P "__builtins__" 171 (.ref 4), en P "__file__" 173 (st "/claim/cut.py" 172), en P "__cached__" 174 .none, en P "_wall" 193 (.ref 21), en P "VaultError" 220 (.ref 38)]
def o3 (P : Params) : Obj := ⟨.none, none, (.fields ⟨[.int 1 0, .int 0 0, .ref 20, .int 5 0, .int 0 0, .ref 27]⟩), ⟨[]⟩⟩
def o4 (P : Params) : Obj := tu [st "k" 190]
def o5 (P : Params) : Obj := ft "_wall" "_wall" (tp 0)
def o6 (P : Params) : Obj := co "_wall" "_wall" 187 1 1 15 16 17 18 19 191
def o7 (P : Params) : Obj := fo "_wall" "_wall" (tp 0) .none (st "__main__" 164) 20
def o8 (P : Params) : Obj := tu [.type "ValueError"]
def o9 (P : Params) : Obj := ⟨.type "builtin_function_or_method", none, (.fields ⟨[.builtin "type.__prepare__", .type "type"]⟩), ⟨[]⟩⟩
def o10 (P : Params) : Obj := di 5 [en P "__module__" 203 (st "dialvault.errors" 194), en P "__qualname__" 205 (st "VaultError" 204), en P "__firstlineno__" 207 (.int 5 206), en P "word" 214 (.ref 35), en P "__static_attributes__" 215 (.ref 36)]
def o11 (P : Params) : Obj := ⟨.none, none, (.fields ⟨[.int 7 0, .int 4 0, .ref 34]⟩), ⟨[]⟩⟩
def o12 (P : Params) : Obj := ⟨.type "code", none, (.fields ⟨[st "VaultError" 198, st "VaultError" 199, st "/claim/cut.py" 200, .int 5 0, .int 0 0, .int 0 0, .int 0 0, .int 0 0, .ref 25, .bool false, .int 181 0, .ref 26, .none, .none, .none, .none, .int 201 0, .int 5 0, st "/claim/cut.py" 202]⟩), ⟨[]⟩⟩
def o13 (P : Params) : Obj := ⟨.type "frame", none, .plain, ⟨[some (.ref 27), some (.ref 3), some (.ref 24), none, some (st "dialvault.errors" 194), none, some (.ref 0)]⟩⟩
def o14 (P : Params) : Obj := tu [st "self" 211]
def o15 (P : Params) : Obj := ft "word" "VaultError.word" (mp 2 0)
def o16 (P : Params) : Obj := co "word" "VaultError.word" 208 7 1 29 30 31 32 33 212
def o17 (P : Params) : Obj := fo "word" "VaultError.word" (mp 2 0) .none (st "dialvault.errors" 194) 34
def o18 (P : Params) : Obj := di 3 [en P "__module__" 203 (st "dialvault.errors" 194), en P "__firstlineno__" 207 (.int 5 206), en P "word" 214 (.ref 35), en P "__static_attributes__" 215 (.ref 36), en P "__weakref__" 217 (.ref 39), en P "__doc__" 218 .none]
def o19 (P : Params) : Obj := ⟨.type "type", none, (.cls ⟨"VaultError", [.type "ValueError"], [.ref 38, .type "ValueError", .type "Exception", .type "BaseException", .type "object"], 37, "VaultError", true, [], [], false, none, false⟩), ⟨[some (.ref 22), none, some (st "VaultError" 196), some (st "VaultError" 204), some (.builtin "ValueError.__new__"), some (.bool true)]⟩⟩
def o20 (P : Params) : Obj := ⟨.type "getset_descriptor", none, (.fields ⟨[st "__weakref__" 216, .ref 38, .builtin "ExceptionGroup.__weakref__", .none]⟩), ⟨[]⟩⟩
def o21 (P : Params) : Obj := ⟨.type "super", none, (.fields ⟨[.ref 38, .ref 38, .ref 38]⟩), ⟨[]⟩⟩
def o22 (P : Params) : Obj := ⟨.type "builtin_function_or_method", none, (.fields ⟨[.builtin "object.__init_subclass__", .ref 38]⟩), ⟨[]⟩⟩
def L0 (P : Params) : List Obj := [boot_o_0 P, boot_o_1 P, boot_o_2 P, o2 P, boot_o_4 P, boot_o_5 P, boot_o_6 P, boot_o_7 P, boot_o_8 P, boot_o_9 P, boot_o_10 P, boot_o_7 P, o3 P, o0 P, o1 P, boot_o_7 P, boot_o_8 P, o4 P, boot_o_7 P, o5 P, o6 P, o7 P, o8 P, o9 P, o10 P, boot_o_7 P, o11 P, o12 P, o13 P, boot_o_7 P, boot_o_8 P, o14 P, boot_o_7 P, o15 P, o16 P, o17 P, boot_o_7 P, o18 P, o19 P, o20 P, o21 P, o22 P]
def o23 (P : Params) : Obj := di 12 [en P "__name__" 165 (st "dialvault.errors" 194), en P "__doc__" 166 .none, en P "__package__" 167 .none, en P "__loader__" 168 (.builtin "__main__.__loader__#opaque"), en P "__spec__" 169 .none, en P "__annotations__" 170 (.ref 6), en P "__builtins__" 171 (.ref 4), en P "__file__" 173 (st "/claim/cut.py" 172), en P "__cached__" 174 .none, en P "_wall" 193 (.ref 21), en P "VaultError" 220 (.ref 38), en P "NoDial" 252 (.ref 65)]
def o24 (P : Params) : Obj := ⟨.none, none, (.fields ⟨[.int 1 0, .int 0 0, .ref 20, .int 5 0, .int 0 0, .ref 27, .int 9 0, .int 0 0, .ref 47]⟩), ⟨[]⟩⟩
def o25 (P : Params) : Obj := ⟨.type "type", none, (.cls ⟨"VaultError", [.type "ValueError"], [.ref 38, .type "ValueError", .type "Exception", .type "BaseException", .type "object"], 37, "VaultError", true, [], [.ref 65], false, none, false⟩), ⟨[some (.ref 22), none, some (st "VaultError" 196), some (st "VaultError" 204), some (.builtin "ValueError.__new__"), some (.bool true)]⟩⟩
def o26 (P : Params) : Obj := tu [.ref 38]
def o27 (P : Params) : Obj := di 6 [en P "__module__" 228 (st "dialvault.errors" 194), en P "__qualname__" 230 (st "NoDial" 229), en P "__firstlineno__" 232 (.int 9 231), en P "__init__" 240 (.ref 55), en P "word" 247 (.ref 62), en P "__static_attributes__" 249 (.ref 63)]
def o28 (P : Params) : Obj := ⟨.none, none, (.fields ⟨[.int 11 0, .int 4 0, .ref 54, .int 14 0, .int 4 0, .ref 61]⟩), ⟨[]⟩⟩
def o29 (P : Params) : Obj := ⟨.type "code", none, (.fields ⟨[st "NoDial" 223, st "NoDial" 224, st "/claim/cut.py" 225, .int 9 0, .int 0 0, .int 0 0, .int 0 0, .int 0 0, .ref 45, .bool false, .int 181 0, .ref 46, .none, .none, .none, .none, .int 226 0, .int 9 0, st "/claim/cut.py" 227]⟩), ⟨[]⟩⟩
def o30 (P : Params) : Obj := ⟨.type "frame", none, .plain, ⟨[some (.ref 47), some (.ref 3), some (.ref 44), none, some (st "dialvault.errors" 194), none, some (.ref 0)]⟩⟩
def o31 (P : Params) : Obj := tu [st "self" 236, st "dial" 237]
def o32 (P : Params) : Obj := ft "__init__" "NoDial.__init__" (mp 3 0)
def o33 (P : Params) : Obj := co "__init__" "NoDial.__init__" 233 11 2 49 50 51 52 53 238
def o34 (P : Params) : Obj := fo "__init__" "NoDial.__init__" (mp 3 0) .none (st "dialvault.errors" 194) 54
def o35 (P : Params) : Obj := tu [st "self" 244]
def o36 (P : Params) : Obj := ft "word" "NoDial.word" (mp 3 1)
def o37 (P : Params) : Obj := co "word" "NoDial.word" 241 14 1 56 57 58 59 60 245
def o38 (P : Params) : Obj := fo "word" "NoDial.word" (mp 3 1) .none (st "dialvault.errors" 194) 61
def o39 (P : Params) : Obj := tu [st "dial" 248]
def o40 (P : Params) : Obj := di 2 [en P "__module__" 228 (st "dialvault.errors" 194), en P "__firstlineno__" 232 (.int 9 231), en P "__init__" 240 (.ref 55), en P "word" 247 (.ref 62), en P "__static_attributes__" 249 (.ref 63), en P "__doc__" 250 .none]
def o41 (P : Params) : Obj := ⟨.type "type", none, (.cls ⟨"NoDial", [.ref 38], [.ref 65, .ref 38, .type "ValueError", .type "Exception", .type "BaseException", .type "object"], 64, "NoDial", true, [], [], false, none, false⟩), ⟨[some (.ref 42), none, some (st "NoDial" 221), some (st "NoDial" 229), some (.builtin "ValueError.__new__"), some (.bool true)]⟩⟩
def o42 (P : Params) : Obj := ⟨.type "super", none, (.fields ⟨[.ref 65, .ref 65, .ref 65]⟩), ⟨[]⟩⟩
def o43 (P : Params) : Obj := ⟨.type "builtin_function_or_method", none, (.fields ⟨[.builtin "object.__init_subclass__", .ref 65]⟩), ⟨[]⟩⟩
def L1 (P : Params) : List Obj := [boot_o_0 P, boot_o_1 P, boot_o_2 P, o23 P, boot_o_4 P, boot_o_5 P, boot_o_6 P, boot_o_7 P, boot_o_8 P, boot_o_9 P, boot_o_10 P, boot_o_7 P, o24 P, o0 P, o1 P, boot_o_7 P, boot_o_8 P, o4 P, boot_o_7 P, o5 P, o6 P, o7 P, o8 P, o9 P, o10 P, boot_o_7 P, o11 P, o12 P, o13 P, boot_o_7 P, boot_o_8 P, o14 P, boot_o_7 P, o15 P, o16 P, o17 P, boot_o_7 P, o18 P, o25 P, o20 P, o21 P, o22 P, o26 P, o9 P, o27 P, boot_o_7 P, o28 P, o29 P, o30 P, boot_o_7 P, boot_o_8 P, o31 P, boot_o_7 P, o32 P, o33 P, o34 P, boot_o_7 P, boot_o_8 P, o35 P, boot_o_7 P, o36 P, o37 P, o38 P, o39 P, o40 P, o41 P, o42 P, o43 P]
def o44 (P : Params) : Obj := di 13 [en P "__name__" 165 (st "dialvault.errors" 194), en P "__doc__" 166 .none, en P "__package__" 167 .none, en P "__loader__" 168 (.builtin "__main__.__loader__#opaque"), en P "__spec__" 169 .none, en P "__annotations__" 170 (.ref 6), en P "__builtins__" 171 (.ref 4), en P "__file__" 173 (st "/claim/cut.py" 172), en P "__cached__" 174 .none, en P "_wall" 193 (.ref 21), en P "VaultError" 220 (.ref 38), en P "NoDial" 252 (.ref 65), en P "NoLever" 284 (.ref 91)]
def o45 (P : Params) : Obj := ⟨.none, none, (.fields ⟨[.int 1 0, .int 0 0, .ref 20, .int 5 0, .int 0 0, .ref 27, .int 9 0, .int 0 0, .ref 47, .int 16 0, .int 0 0, .ref 73]⟩), ⟨[]⟩⟩
def o46 (P : Params) : Obj := ⟨.type "type", none, (.cls ⟨"VaultError", [.type "ValueError"], [.ref 38, .type "ValueError", .type "Exception", .type "BaseException", .type "object"], 37, "VaultError", true, [], [.ref 65, .ref 91], false, none, false⟩), ⟨[some (.ref 22), none, some (st "VaultError" 196), some (st "VaultError" 204), some (.builtin "ValueError.__new__"), some (.bool true)]⟩⟩
def o47 (P : Params) : Obj := di 6 [en P "__module__" 260 (st "dialvault.errors" 194), en P "__qualname__" 262 (st "NoLever" 261), en P "__firstlineno__" 264 (.int 16 263), en P "__init__" 272 (.ref 81), en P "word" 279 (.ref 88), en P "__static_attributes__" 281 (.ref 89)]
def o48 (P : Params) : Obj := ⟨.none, none, (.fields ⟨[.int 18 0, .int 4 0, .ref 80, .int 21 0, .int 4 0, .ref 87]⟩), ⟨[]⟩⟩
def o49 (P : Params) : Obj := ⟨.type "code", none, (.fields ⟨[st "NoLever" 255, st "NoLever" 256, st "/claim/cut.py" 257, .int 16 0, .int 0 0, .int 0 0, .int 0 0, .int 0 0, .ref 71, .bool false, .int 181 0, .ref 72, .none, .none, .none, .none, .int 258 0, .int 16 0, st "/claim/cut.py" 259]⟩), ⟨[]⟩⟩
def o50 (P : Params) : Obj := ⟨.type "frame", none, .plain, ⟨[some (.ref 73), some (.ref 3), some (.ref 70), none, some (st "dialvault.errors" 194), none, some (.ref 0)]⟩⟩
def o51 (P : Params) : Obj := tu [st "self" 268, st "lever" 269]
def o52 (P : Params) : Obj := ft "__init__" "NoLever.__init__" (mp 4 0)
def o53 (P : Params) : Obj := co "__init__" "NoLever.__init__" 265 18 2 75 76 77 78 79 270
def o54 (P : Params) : Obj := fo "__init__" "NoLever.__init__" (mp 4 0) .none (st "dialvault.errors" 194) 80
def o55 (P : Params) : Obj := tu [st "self" 276]
def o56 (P : Params) : Obj := ft "word" "NoLever.word" (mp 4 1)
def o57 (P : Params) : Obj := co "word" "NoLever.word" 273 21 1 82 83 84 85 86 277
def o58 (P : Params) : Obj := fo "word" "NoLever.word" (mp 4 1) .none (st "dialvault.errors" 194) 87
def o59 (P : Params) : Obj := tu [st "lever" 280]
def o60 (P : Params) : Obj := di 2 [en P "__module__" 260 (st "dialvault.errors" 194), en P "__firstlineno__" 264 (.int 16 263), en P "__init__" 272 (.ref 81), en P "word" 279 (.ref 88), en P "__static_attributes__" 281 (.ref 89), en P "__doc__" 282 .none]
def o61 (P : Params) : Obj := ⟨.type "type", none, (.cls ⟨"NoLever", [.ref 38], [.ref 91, .ref 38, .type "ValueError", .type "Exception", .type "BaseException", .type "object"], 90, "NoLever", true, [], [], false, none, false⟩), ⟨[some (.ref 68), none, some (st "NoLever" 253), some (st "NoLever" 261), some (.builtin "ValueError.__new__"), some (.bool true)]⟩⟩
def o62 (P : Params) : Obj := ⟨.type "super", none, (.fields ⟨[.ref 91, .ref 91, .ref 91]⟩), ⟨[]⟩⟩
def o63 (P : Params) : Obj := ⟨.type "builtin_function_or_method", none, (.fields ⟨[.builtin "object.__init_subclass__", .ref 91]⟩), ⟨[]⟩⟩
def L2 (P : Params) : List Obj := [boot_o_0 P, boot_o_1 P, boot_o_2 P, o44 P, boot_o_4 P, boot_o_5 P, boot_o_6 P, boot_o_7 P, boot_o_8 P, boot_o_9 P, boot_o_10 P, boot_o_7 P, o45 P, o0 P, o1 P, boot_o_7 P, boot_o_8 P, o4 P, boot_o_7 P, o5 P, o6 P, o7 P, o8 P, o9 P, o10 P, boot_o_7 P, o11 P, o12 P, o13 P, boot_o_7 P, boot_o_8 P, o14 P, boot_o_7 P, o15 P, o16 P, o17 P, boot_o_7 P, o18 P, o46 P, o20 P, o21 P, o22 P, o26 P, o9 P, o27 P, boot_o_7 P, o28 P, o29 P, o30 P, boot_o_7 P, boot_o_8 P, o31 P, boot_o_7 P, o32 P, o33 P, o34 P, boot_o_7 P, boot_o_8 P, o35 P, boot_o_7 P, o36 P, o37 P, o38 P, o39 P, o40 P, o41 P, o42 P, o43 P, o26 P, o9 P, o47 P, boot_o_7 P, o48 P, o49 P, o50 P, boot_o_7 P, boot_o_8 P, o51 P, boot_o_7 P, o52 P, o53 P, o54 P, boot_o_7 P, boot_o_8 P, o55 P, boot_o_7 P, o56 P, o57 P, o58 P, o59 P, o60 P, o61 P, o62 P, o63 P]
def o64 (P : Params) : Obj := di 14 [en P "__name__" 165 (st "dialvault.errors" 194), en P "__doc__" 166 .none, en P "__package__" 167 .none, en P "__loader__" 168 (.builtin "__main__.__loader__#opaque"), en P "__spec__" 169 .none, en P "__annotations__" 170 (.ref 6), en P "__builtins__" 171 (.ref 4), en P "__file__" 173 (st "/claim/cut.py" 172), en P "__cached__" 174 .none, en P "_wall" 193 (.ref 21), en P "VaultError" 220 (.ref 38), en P "NoDial" 252 (.ref 65), en P "NoLever" 284 (.ref 91), en P "NoPrice" 316 (.ref 117)]
def o65 (P : Params) : Obj := ⟨.none, none, (.fields ⟨[.int 1 0, .int 0 0, .ref 20, .int 5 0, .int 0 0, .ref 27, .int 9 0, .int 0 0, .ref 47, .int 16 0, .int 0 0, .ref 73, .int 23 0, .int 0 0, .ref 99]⟩), ⟨[]⟩⟩
def o66 (P : Params) : Obj := ⟨.type "type", none, (.cls ⟨"VaultError", [.type "ValueError"], [.ref 38, .type "ValueError", .type "Exception", .type "BaseException", .type "object"], 37, "VaultError", true, [], [.ref 65, .ref 91, .ref 117], false, none, false⟩), ⟨[some (.ref 22), none, some (st "VaultError" 196), some (st "VaultError" 204), some (.builtin "ValueError.__new__"), some (.bool true)]⟩⟩
def o67 (P : Params) : Obj := di 6 [en P "__module__" 292 (st "dialvault.errors" 194), en P "__qualname__" 294 (st "NoPrice" 293), en P "__firstlineno__" 296 (.int 23 295), en P "__init__" 304 (.ref 107), en P "word" 311 (.ref 114), en P "__static_attributes__" 313 (.ref 115)]
def o68 (P : Params) : Obj := ⟨.none, none, (.fields ⟨[.int 25 0, .int 4 0, .ref 106, .int 28 0, .int 4 0, .ref 113]⟩), ⟨[]⟩⟩
def o69 (P : Params) : Obj := ⟨.type "code", none, (.fields ⟨[st "NoPrice" 287, st "NoPrice" 288, st "/claim/cut.py" 289, .int 23 0, .int 0 0, .int 0 0, .int 0 0, .int 0 0, .ref 97, .bool false, .int 181 0, .ref 98, .none, .none, .none, .none, .int 290 0, .int 23 0, st "/claim/cut.py" 291]⟩), ⟨[]⟩⟩
def o70 (P : Params) : Obj := ⟨.type "frame", none, .plain, ⟨[some (.ref 99), some (.ref 3), some (.ref 96), none, some (st "dialvault.errors" 194), none, some (.ref 0)]⟩⟩
def o71 (P : Params) : Obj := tu [st "self" 300, st "lever" 301]
def o72 (P : Params) : Obj := ft "__init__" "NoPrice.__init__" (mp 5 0)
def o73 (P : Params) : Obj := co "__init__" "NoPrice.__init__" 297 25 2 101 102 103 104 105 302
def o74 (P : Params) : Obj := fo "__init__" "NoPrice.__init__" (mp 5 0) .none (st "dialvault.errors" 194) 106
def o75 (P : Params) : Obj := tu [st "self" 308]
def o76 (P : Params) : Obj := ft "word" "NoPrice.word" (mp 5 1)
def o77 (P : Params) : Obj := co "word" "NoPrice.word" 305 28 1 108 109 110 111 112 309
def o78 (P : Params) : Obj := fo "word" "NoPrice.word" (mp 5 1) .none (st "dialvault.errors" 194) 113
def o79 (P : Params) : Obj := tu [st "lever" 312]
def o80 (P : Params) : Obj := di 2 [en P "__module__" 292 (st "dialvault.errors" 194), en P "__firstlineno__" 296 (.int 23 295), en P "__init__" 304 (.ref 107), en P "word" 311 (.ref 114), en P "__static_attributes__" 313 (.ref 115), en P "__doc__" 314 .none]
def o81 (P : Params) : Obj := ⟨.type "type", none, (.cls ⟨"NoPrice", [.ref 38], [.ref 117, .ref 38, .type "ValueError", .type "Exception", .type "BaseException", .type "object"], 116, "NoPrice", true, [], [], false, none, false⟩), ⟨[some (.ref 94), none, some (st "NoPrice" 285), some (st "NoPrice" 293), some (.builtin "ValueError.__new__"), some (.bool true)]⟩⟩
def o82 (P : Params) : Obj := ⟨.type "super", none, (.fields ⟨[.ref 117, .ref 117, .ref 117]⟩), ⟨[]⟩⟩
def o83 (P : Params) : Obj := ⟨.type "builtin_function_or_method", none, (.fields ⟨[.builtin "object.__init_subclass__", .ref 117]⟩), ⟨[]⟩⟩
def L3 (P : Params) : List Obj := [boot_o_0 P, boot_o_1 P, boot_o_2 P, o64 P, boot_o_4 P, boot_o_5 P, boot_o_6 P, boot_o_7 P, boot_o_8 P, boot_o_9 P, boot_o_10 P, boot_o_7 P, o65 P, o0 P, o1 P, boot_o_7 P, boot_o_8 P, o4 P, boot_o_7 P, o5 P, o6 P, o7 P, o8 P, o9 P, o10 P, boot_o_7 P, o11 P, o12 P, o13 P, boot_o_7 P, boot_o_8 P, o14 P, boot_o_7 P, o15 P, o16 P, o17 P, boot_o_7 P, o18 P, o66 P, o20 P, o21 P, o22 P, o26 P, o9 P, o27 P, boot_o_7 P, o28 P, o29 P, o30 P, boot_o_7 P, boot_o_8 P, o31 P, boot_o_7 P, o32 P, o33 P, o34 P, boot_o_7 P, boot_o_8 P, o35 P, boot_o_7 P, o36 P, o37 P, o38 P, o39 P, o40 P, o41 P, o42 P, o43 P, o26 P, o9 P, o47 P, boot_o_7 P, o48 P, o49 P, o50 P, boot_o_7 P, boot_o_8 P, o51 P, boot_o_7 P, o52 P, o53 P, o54 P, boot_o_7 P, boot_o_8 P, o55 P, boot_o_7 P, o56 P, o57 P, o58 P, o59 P, o60 P, o61 P, o62 P, o63 P, o26 P, o9 P, o67 P, boot_o_7 P, o68 P, o69 P, o70 P, boot_o_7 P, boot_o_8 P, o71 P, boot_o_7 P, o72 P, o73 P, o74 P, boot_o_7 P, boot_o_8 P, o75 P, boot_o_7 P, o76 P, o77 P, o78 P, o79 P, o80 P, o81 P, o82 P, o83 P]
def o84 (P : Params) : Obj := di 15 [en P "__name__" 165 (st "dialvault.errors" 194), en P "__doc__" 166 .none, en P "__package__" 167 .none, en P "__loader__" 168 (.builtin "__main__.__loader__#opaque"), en P "__spec__" 169 .none, en P "__annotations__" 170 (.ref 6), en P "__builtins__" 171 (.ref 4), en P "__file__" 173 (st "/claim/cut.py" 172), en P "__cached__" 174 .none, en P "_wall" 193 (.ref 21), en P "VaultError" 220 (.ref 38), en P "NoDial" 252 (.ref 65), en P "NoLever" 284 (.ref 91), en P "NoPrice" 316 (.ref 117), en P "NoSetting" 339 (.ref 136)]
def o85 (P : Params) : Obj := ⟨.none, none, (.fields ⟨[.int 1 0, .int 0 0, .ref 20, .int 5 0, .int 0 0, .ref 27, .int 9 0, .int 0 0, .ref 47, .int 16 0, .int 0 0, .ref 73, .int 23 0, .int 0 0, .ref 99, .int 30 0, .int 0 0, .ref 125]⟩), ⟨[]⟩⟩
def o86 (P : Params) : Obj := ⟨.type "type", none, (.cls ⟨"VaultError", [.type "ValueError"], [.ref 38, .type "ValueError", .type "Exception", .type "BaseException", .type "object"], 37, "VaultError", true, [], [.ref 65, .ref 91, .ref 117, .ref 136], false, none, false⟩), ⟨[some (.ref 22), none, some (st "VaultError" 196), some (st "VaultError" 204), some (.builtin "ValueError.__new__"), some (.bool true)]⟩⟩
def o87 (P : Params) : Obj := di 5 [en P "__module__" 324 (st "dialvault.errors" 194), en P "__qualname__" 326 (st "NoSetting" 325), en P "__firstlineno__" 328 (.int 30 327), en P "word" 335 (.ref 133), en P "__static_attributes__" 336 (.ref 134)]
def o88 (P : Params) : Obj := ⟨.none, none, (.fields ⟨[.int 32 0, .int 4 0, .ref 132]⟩), ⟨[]⟩⟩
def o89 (P : Params) : Obj := ⟨.type "code", none, (.fields ⟨[st "NoSetting" 319, st "NoSetting" 320, st "/claim/cut.py" 321, .int 30 0, .int 0 0, .int 0 0, .int 0 0, .int 0 0, .ref 123, .bool false, .int 181 0, .ref 124, .none, .none, .none, .none, .int 322 0, .int 30 0, st "/claim/cut.py" 323]⟩), ⟨[]⟩⟩
def o90 (P : Params) : Obj := ⟨.type "frame", none, .plain, ⟨[some (.ref 125), some (.ref 3), some (.ref 122), none, some (st "dialvault.errors" 194), none, some (.ref 0)]⟩⟩
def o91 (P : Params) : Obj := tu [st "self" 332]
def o92 (P : Params) : Obj := ft "word" "NoSetting.word" (mp 6 0)
def o93 (P : Params) : Obj := co "word" "NoSetting.word" 329 32 1 127 128 129 130 131 333
def o94 (P : Params) : Obj := fo "word" "NoSetting.word" (mp 6 0) .none (st "dialvault.errors" 194) 132
def o95 (P : Params) : Obj := di 2 [en P "__module__" 324 (st "dialvault.errors" 194), en P "__firstlineno__" 328 (.int 30 327), en P "word" 335 (.ref 133), en P "__static_attributes__" 336 (.ref 134), en P "__doc__" 337 .none]
def o96 (P : Params) : Obj := ⟨.type "type", none, (.cls ⟨"NoSetting", [.ref 38], [.ref 136, .ref 38, .type "ValueError", .type "Exception", .type "BaseException", .type "object"], 135, "NoSetting", true, [], [], false, none, false⟩), ⟨[some (.ref 120), none, some (st "NoSetting" 317), some (st "NoSetting" 325), some (.builtin "ValueError.__new__"), some (.bool true)]⟩⟩
def o97 (P : Params) : Obj := ⟨.type "super", none, (.fields ⟨[.ref 136, .ref 136, .ref 136]⟩), ⟨[]⟩⟩
def o98 (P : Params) : Obj := ⟨.type "builtin_function_or_method", none, (.fields ⟨[.builtin "object.__init_subclass__", .ref 136]⟩), ⟨[]⟩⟩
def L4 (P : Params) : List Obj := [boot_o_0 P, boot_o_1 P, boot_o_2 P, o84 P, boot_o_4 P, boot_o_5 P, boot_o_6 P, boot_o_7 P, boot_o_8 P, boot_o_9 P, boot_o_10 P, boot_o_7 P, o85 P, o0 P, o1 P, boot_o_7 P, boot_o_8 P, o4 P, boot_o_7 P, o5 P, o6 P, o7 P, o8 P, o9 P, o10 P, boot_o_7 P, o11 P, o12 P, o13 P, boot_o_7 P, boot_o_8 P, o14 P, boot_o_7 P, o15 P, o16 P, o17 P, boot_o_7 P, o18 P, o86 P, o20 P, o21 P, o22 P, o26 P, o9 P, o27 P, boot_o_7 P, o28 P, o29 P, o30 P, boot_o_7 P, boot_o_8 P, o31 P, boot_o_7 P, o32 P, o33 P, o34 P, boot_o_7 P, boot_o_8 P, o35 P, boot_o_7 P, o36 P, o37 P, o38 P, o39 P, o40 P, o41 P, o42 P, o43 P, o26 P, o9 P, o47 P, boot_o_7 P, o48 P, o49 P, o50 P, boot_o_7 P, boot_o_8 P, o51 P, boot_o_7 P, o52 P, o53 P, o54 P, boot_o_7 P, boot_o_8 P, o55 P, boot_o_7 P, o56 P, o57 P, o58 P, o59 P, o60 P, o61 P, o62 P, o63 P, o26 P, o9 P, o67 P, boot_o_7 P, o68 P, o69 P, o70 P, boot_o_7 P, boot_o_8 P, o71 P, boot_o_7 P, o72 P, o73 P, o74 P, boot_o_7 P, boot_o_8 P, o75 P, boot_o_7 P, o76 P, o77 P, o78 P, o79 P, o80 P, o81 P, o82 P, o83 P, o26 P, o9 P, o87 P, boot_o_7 P, o88 P, o89 P, o90 P, boot_o_7 P, boot_o_8 P, o91 P, boot_o_7 P, o92 P, o93 P, o94 P, boot_o_7 P, o95 P, o96 P, o97 P, o98 P]
def o99 (P : Params) : Obj := di 21 [en P "__name__" 165 (st "dialvault.wholes" 363), en P "__doc__" 166 .none, en P "__package__" 167 .none, en P "__loader__" 168 (.builtin "__main__.__loader__#opaque"), en P "__spec__" 169 .none, en P "__annotations__" 170 (.ref 6), en P "__builtins__" 171 (.ref 4), en P "__file__" 173 (st "/claim/cut.py" 172), en P "__cached__" 174 .none, en P "_wall" 193 (.ref 21), en P "VaultError" 220 (.ref 38), en P "NoDial" 252 (.ref 65), en P "NoLever" 284 (.ref 91), en P "NoPrice" 316 (.ref 117), en P "NoSetting" 339 (.ref 136), en P "TooMany" 362 (.ref 155), en P "is_whole" 371 (.ref 164), en P "is_row" 377 (.ref 169), en P "common" 389 (.ref 176), en P "multiple_of" 398 (.ref 183), en P "rest_sum" 404 (.ref 188)]
def o100 (P : Params) : Obj := ⟨.none, none, (.fields ⟨[.int 1 0, .int 0 0, .ref 20, .int 5 0, .int 0 0, .ref 27, .int 9 0, .int 0 0, .ref 47, .int 16 0, .int 0 0, .ref 73, .int 23 0, .int 0 0, .ref 99, .int 30 0, .int 0 0, .ref 125, .int 34 0, .int 0 0, .ref 144, .int 39 0, .int 0 0, .ref 163, .int 41 0, .int 0 0, .ref 168, .int 45 0, .int 0 0, .ref 175, .int 56 0, .int 0 0, .ref 182, .int 61 0, .int 0 0, .ref 187]⟩), ⟨[]⟩⟩
def o101 (P : Params) : Obj := ⟨.type "type", none, (.cls ⟨"VaultError", [.type "ValueError"], [.ref 38, .type "ValueError", .type "Exception", .type "BaseException", .type "object"], 37, "VaultError", true, [], [.ref 65, .ref 91, .ref 117, .ref 136, .ref 155], false, none, false⟩), ⟨[some (.ref 22), none, some (st "VaultError" 196), some (st "VaultError" 204), some (.builtin "ValueError.__new__"), some (.bool true)]⟩⟩
def o102 (P : Params) : Obj := di 5 [en P "__module__" 347 (st "dialvault.errors" 194), en P "__qualname__" 349 (st "TooMany" 348), en P "__firstlineno__" 351 (.int 34 350), en P "word" 358 (.ref 152), en P "__static_attributes__" 359 (.ref 153)]
def o103 (P : Params) : Obj := ⟨.none, none, (.fields ⟨[.int 36 0, .int 4 0, .ref 151]⟩), ⟨[]⟩⟩
def o104 (P : Params) : Obj := ⟨.type "code", none, (.fields ⟨[st "TooMany" 342, st "TooMany" 343, st "/claim/cut.py" 344, .int 34 0, .int 0 0, .int 0 0, .int 0 0, .int 0 0, .ref 142, .bool false, .int 181 0, .ref 143, .none, .none, .none, .none, .int 345 0, .int 34 0, st "/claim/cut.py" 346]⟩), ⟨[]⟩⟩
def o105 (P : Params) : Obj := ⟨.type "frame", none, .plain, ⟨[some (.ref 144), some (.ref 3), some (.ref 141), none, some (st "dialvault.errors" 194), none, some (.ref 0)]⟩⟩
def o106 (P : Params) : Obj := tu [st "self" 355]
def o107 (P : Params) : Obj := ft "word" "TooMany.word" (mp 7 0)
def o108 (P : Params) : Obj := co "word" "TooMany.word" 352 36 1 146 147 148 149 150 356
def o109 (P : Params) : Obj := fo "word" "TooMany.word" (mp 7 0) .none (st "dialvault.errors" 194) 151
def o110 (P : Params) : Obj := di 2 [en P "__module__" 347 (st "dialvault.errors" 194), en P "__firstlineno__" 351 (.int 34 350), en P "word" 358 (.ref 152), en P "__static_attributes__" 359 (.ref 153), en P "__doc__" 360 .none]
def o111 (P : Params) : Obj := ⟨.type "type", none, (.cls ⟨"TooMany", [.ref 38], [.ref 155, .ref 38, .type "ValueError", .type "Exception", .type "BaseException", .type "object"], 154, "TooMany", true, [], [], false, none, false⟩), ⟨[some (.ref 139), none, some (st "TooMany" 340), some (st "TooMany" 348), some (.builtin "ValueError.__new__"), some (.bool true)]⟩⟩
def o112 (P : Params) : Obj := ⟨.type "super", none, (.fields ⟨[.ref 155, .ref 155, .ref 155]⟩), ⟨[]⟩⟩
def o113 (P : Params) : Obj := ⟨.type "builtin_function_or_method", none, (.fields ⟨[.builtin "object.__init_subclass__", .ref 155]⟩), ⟨[]⟩⟩
def o114 (P : Params) : Obj := tu [st "thing" 368]
def o115 (P : Params) : Obj := ft "is_whole" "is_whole" (tp 9)
def o116 (P : Params) : Obj := co "is_whole" "is_whole" 365 39 1 158 159 160 161 162 369
def o117 (P : Params) : Obj := fo "is_whole" "is_whole" (tp 9) .none (st "dialvault.wholes" 363) 163
def o118 (P : Params) : Obj := ft "is_row" "is_row" (tp 10)
def o119 (P : Params) : Obj := ⟨.type "code", none, (.fields ⟨[st "is_row" 372, st "is_row" 373, st "/claim/cut.py" 374, .int 41 0, .int 2 0, .int 0 0, .int 0 0, .int 3 0, .ref 165, .bool true, .int 181 0, .ref 166, .none, .none, .none, .ref 167, .int 375 0, .int 41 0, st "/claim/cut.py" 376]⟩), ⟨[]⟩⟩
def o120 (P : Params) : Obj := fo "is_row" "is_row" (tp 10) .none (st "dialvault.wholes" 363) 168
def o121 (P : Params) : Obj := tu [st "one" 381, st "other" 382, st "row" 383, st "behind" 384, st "times" 385, st "rest" 386]
def o122 (P : Params) : Obj := ft "common" "common" (tp 11)
def o123 (P : Params) : Obj := co "common" "common" 378 45 2 170 171 172 173 174 387
def o124 (P : Params) : Obj := fo "common" "common" (tp 11) .none (st "dialvault.wholes" 363) 175
def o125 (P : Params) : Obj := tu [st "numbers" 393, st "multiple" 394, st "number" 395]
def o126 (P : Params) : Obj := ft "multiple_of" "multiple_of" (tp 12)
def o127 (P : Params) : Obj := co "multiple_of" "multiple_of" 390 56 1 177 178 179 180 181 396
def o128 (P : Params) : Obj := fo "multiple_of" "multiple_of" (tp 12) .none (st "dialvault.wholes" 363) 182
def o129 (P : Params) : Obj := ft "rest_sum" "rest_sum" (tp 13)
def o130 (P : Params) : Obj := ⟨.type "code", none, (.fields ⟨[st "rest_sum" 399, st "rest_sum" 400, st "/claim/cut.py" 401, .int 61 0, .int 3 0, .int 0 0, .int 0 0, .int 3 0, .ref 184, .bool true, .int 181 0, .ref 185, .none, .none, .none, .ref 186, .int 402 0, .int 61 0, st "/claim/cut.py" 403]⟩), ⟨[]⟩⟩
def o131 (P : Params) : Obj := fo "rest_sum" "rest_sum" (tp 13) .none (st "dialvault.wholes" 363) 187
def L5 (P : Params) : List Obj := [boot_o_0 P, boot_o_1 P, boot_o_2 P, o99 P, boot_o_4 P, boot_o_5 P, boot_o_6 P, boot_o_7 P, boot_o_8 P, boot_o_9 P, boot_o_10 P, boot_o_7 P, o100 P, o0 P, o1 P, boot_o_7 P, boot_o_8 P, o4 P, boot_o_7 P, o5 P, o6 P, o7 P, o8 P, o9 P, o10 P, boot_o_7 P, o11 P, o12 P, o13 P, boot_o_7 P, boot_o_8 P, o14 P, boot_o_7 P, o15 P, o16 P, o17 P, boot_o_7 P, o18 P, o101 P, o20 P, o21 P, o22 P, o26 P, o9 P, o27 P, boot_o_7 P, o28 P, o29 P, o30 P, boot_o_7 P, boot_o_8 P, o31 P, boot_o_7 P, o32 P, o33 P, o34 P, boot_o_7 P, boot_o_8 P, o35 P, boot_o_7 P, o36 P, o37 P, o38 P, o39 P, o40 P, o41 P, o42 P, o43 P, o26 P, o9 P, o47 P, boot_o_7 P, o48 P, o49 P, o50 P, boot_o_7 P, boot_o_8 P, o51 P, boot_o_7 P, o52 P, o53 P, o54 P, boot_o_7 P, boot_o_8 P, o55 P, boot_o_7 P, o56 P, o57 P, o58 P, o59 P, o60 P, o61 P, o62 P, o63 P, o26 P, o9 P, o67 P, boot_o_7 P, o68 P, o69 P, o70 P, boot_o_7 P, boot_o_8 P, o71 P, boot_o_7 P, o72 P, o73 P, o74 P, boot_o_7 P, boot_o_8 P, o75 P, boot_o_7 P, o76 P, o77 P, o78 P, o79 P, o80 P, o81 P, o82 P, o83 P, o26 P, o9 P, o87 P, boot_o_7 P, o88 P, o89 P, o90 P, boot_o_7 P, boot_o_8 P, o91 P, boot_o_7 P, o92 P, o93 P, o94 P, boot_o_7 P, o95 P, o96 P, o97 P, o98 P, o26 P, o9 P, o102 P, boot_o_7 P, o103 P, o104 P, o105 P, boot_o_7 P, boot_o_8 P, o106 P, boot_o_7 P, o107 P, o108 P, o109 P, boot_o_7 P, o110 P, o111 P, o112 P, o113 P, boot_o_7 P, boot_o_8 P, o114 P, boot_o_7 P, o115 P, o116 P, o117 P, boot_o_7 P, boot_o_8 P, o118 P, o119 P, o120 P, boot_o_7 P, boot_o_8 P, o121 P, boot_o_7 P, o122 P, o123 P, o124 P, boot_o_7 P, boot_o_8 P, o125 P, boot_o_7 P, o126 P, o127 P, o128 P, boot_o_7 P, boot_o_8 P, o129 P, o130 P, o131 P]
def o132 (P : Params) : Obj := di 27 [en P "__name__" 165 (st "dialvault.vault" 405), en P "__doc__" 166 .none, en P "__package__" 167 .none, en P "__loader__" 168 (.builtin "__main__.__loader__#opaque"), en P "__spec__" 169 .none, en P "__annotations__" 170 (.ref 6), en P "__builtins__" 171 (.ref 4), en P "__file__" 173 (st "/claim/cut.py" 172), en P "__cached__" 174 .none, en P "_wall" 193 (.ref 21), en P "VaultError" 220 (.ref 38), en P "NoDial" 252 (.ref 65), en P "NoLever" 284 (.ref 91), en P "NoPrice" 316 (.ref 117), en P "NoSetting" 339 (.ref 136), en P "TooMany" 362 (.ref 155), en P "is_whole" 371 (.ref 164), en P "is_row" 377 (.ref 169), en P "common" 389 (.ref 176), en P "multiple_of" 398 (.ref 183), en P "rest_sum" 404 (.ref 188), en P "MOST_DIALS" 408 (.int 6 407), en P "LEAST_SIZE" 410 (.int 2 409), en P "MOST_SIZE" 412 (.int 360 411), en P "MOST_LEVERS" 414 (.int 8 413), en P "LEAST_PRICE" 416 (.int 1 415), en P "MOST_PRICE" 418 (.int 1000 417)]
def L6 (P : Params) : List Obj := [boot_o_0 P, boot_o_1 P, boot_o_2 P, o132 P, boot_o_4 P, boot_o_5 P, boot_o_6 P, boot_o_7 P, boot_o_8 P, boot_o_9 P, boot_o_10 P, boot_o_7 P, o100 P, o0 P, o1 P, boot_o_7 P, boot_o_8 P, o4 P, boot_o_7 P, o5 P, o6 P, o7 P, o8 P, o9 P, o10 P, boot_o_7 P, o11 P, o12 P, o13 P, boot_o_7 P, boot_o_8 P, o14 P, boot_o_7 P, o15 P, o16 P, o17 P, boot_o_7 P, o18 P, o101 P, o20 P, o21 P, o22 P, o26 P, o9 P, o27 P, boot_o_7 P, o28 P, o29 P, o30 P, boot_o_7 P, boot_o_8 P, o31 P, boot_o_7 P, o32 P, o33 P, o34 P, boot_o_7 P, boot_o_8 P, o35 P, boot_o_7 P, o36 P, o37 P, o38 P, o39 P, o40 P, o41 P, o42 P, o43 P, o26 P, o9 P, o47 P, boot_o_7 P, o48 P, o49 P, o50 P, boot_o_7 P, boot_o_8 P, o51 P, boot_o_7 P, o52 P, o53 P, o54 P, boot_o_7 P, boot_o_8 P, o55 P, boot_o_7 P, o56 P, o57 P, o58 P, o59 P, o60 P, o61 P, o62 P, o63 P, o26 P, o9 P, o67 P, boot_o_7 P, o68 P, o69 P, o70 P, boot_o_7 P, boot_o_8 P, o71 P, boot_o_7 P, o72 P, o73 P, o74 P, boot_o_7 P, boot_o_8 P, o75 P, boot_o_7 P, o76 P, o77 P, o78 P, o79 P, o80 P, o81 P, o82 P, o83 P, o26 P, o9 P, o87 P, boot_o_7 P, o88 P, o89 P, o90 P, boot_o_7 P, boot_o_8 P, o91 P, boot_o_7 P, o92 P, o93 P, o94 P, boot_o_7 P, o95 P, o96 P, o97 P, o98 P, o26 P, o9 P, o102 P, boot_o_7 P, o103 P, o104 P, o105 P, boot_o_7 P, boot_o_8 P, o106 P, boot_o_7 P, o107 P, o108 P, o109 P, boot_o_7 P, o110 P, o111 P, o112 P, o113 P, boot_o_7 P, boot_o_8 P, o114 P, boot_o_7 P, o115 P, o116 P, o117 P, boot_o_7 P, boot_o_8 P, o118 P, o119 P, o120 P, boot_o_7 P, boot_o_8 P, o121 P, boot_o_7 P, o122 P, o123 P, o124 P, boot_o_7 P, boot_o_8 P, o125 P, boot_o_7 P, o126 P, o127 P, o128 P, boot_o_7 P, boot_o_8 P, o129 P, o130 P, o131 P]
def o133 (P : Params) : Obj := di 29 [en P "__name__" 165 (st "dialvault.vault" 405), en P "__doc__" 166 .none, en P "__package__" 167 .none, en P "__loader__" 168 (.builtin "__main__.__loader__#opaque"), en P "__spec__" 169 .none, en P "__annotations__" 170 (.ref 6), en P "__builtins__" 171 (.ref 4), en P "__file__" 173 (st "/claim/cut.py" 172), en P "__cached__" 174 .none, en P "_wall" 193 (.ref 21), en P "VaultError" 220 (.ref 38), en P "NoDial" 252 (.ref 65), en P "NoLever" 284 (.ref 91), en P "NoPrice" 316 (.ref 117), en P "NoSetting" 339 (.ref 136), en P "TooMany" 362 (.ref 155), en P "is_whole" 371 (.ref 164), en P "is_row" 377 (.ref 169), en P "common" 389 (.ref 176), en P "multiple_of" 398 (.ref 183), en P "rest_sum" 404 (.ref 188), en P "MOST_DIALS" 408 (.int 6 407), en P "LEAST_SIZE" 410 (.int 2 409), en P "MOST_SIZE" 412 (.int 360 411), en P "MOST_LEVERS" 414 (.int 8 413), en P "LEAST_PRICE" 416 (.int 1 415), en P "MOST_PRICE" 418 (.int 1000 417), en P "Vault" 476 (.ref 232), en P "is_within" 485 (.ref 243)]
def o134 (P : Params) : Obj := ⟨.none, none, (.fields ⟨[.int 1 0, .int 0 0, .ref 20, .int 5 0, .int 0 0, .ref 27, .int 9 0, .int 0 0, .ref 47, .int 16 0, .int 0 0, .ref 73, .int 23 0, .int 0 0, .ref 99, .int 30 0, .int 0 0, .ref 125, .int 34 0, .int 0 0, .ref 144, .int 39 0, .int 0 0, .ref 163, .int 41 0, .int 0 0, .ref 168, .int 45 0, .int 0 0, .ref 175, .int 56 0, .int 0 0, .ref 182, .int 61 0, .int 0 0, .ref 187, .int 70 0, .int 0 0, .ref 194, .int 91 0, .int 0 0, .ref 242]⟩), ⟨[]⟩⟩
def o135 (P : Params) : Obj := di 9 [en P "__module__" 426 (st "dialvault.vault" 405), en P "__qualname__" 428 (st "Vault" 427), en P "__firstlineno__" 430 (.int 70 429), en P "__init__" 436 (.ref 201), en P "sizes" 443 (.ref 208), en P "levers" 450 (.ref 215), en P "prices" 457 (.ref 222), en P "around" 464 (.ref 229), en P "__static_attributes__" 469 (.ref 230)]
def o136 (P : Params) : Obj := ⟨.none, none, (.fields ⟨[.int 72 0, .int 4 0, .ref 200, .int 80 0, .int 4 0, .ref 207, .int 83 0, .int 4 0, .ref 214, .int 86 0, .int 4 0, .ref 221, .int 89 0, .int 4 0, .ref 228]⟩), ⟨[]⟩⟩
def o137 (P : Params) : Obj := ⟨.type "code", none, (.fields ⟨[st "Vault" 421, st "Vault" 422, st "/claim/cut.py" 423, .int 70 0, .int 0 0, .int 0 0, .int 0 0, .int 0 0, .ref 192, .bool false, .int 181 0, .ref 193, .none, .none, .none, .none, .int 424 0, .int 70 0, st "/claim/cut.py" 425]⟩), ⟨[]⟩⟩
def o138 (P : Params) : Obj := ⟨.type "frame", none, .plain, ⟨[some (.ref 194), some (.ref 3), some (.ref 191), none, some (st "dialvault.vault" 405), none, some (.ref 0)]⟩⟩
def o139 (P : Params) : Obj := tu [.none]
def o140 (P : Params) : Obj := ft "__init__" "Vault.__init__" (mp 21 0)
def o141 (P : Params) : Obj := ⟨.type "code", none, (.fields ⟨[st "__init__" 431, st "Vault.__init__" 432, st "/claim/cut.py" 433, .int 72 0, .int 4 0, .int 0 0, .int 0 0, .int 3 0, .ref 197, .bool true, .int 181 0, .ref 198, .none, .none, .none, .ref 199, .int 434 0, .int 72 0, st "/claim/cut.py" 435]⟩), ⟨[]⟩⟩
def o142 (P : Params) : Obj := fo "__init__" "Vault.__init__" (mp 21 0) (.ref 196) (st "dialvault.vault" 405) 200
def o143 (P : Params) : Obj := tu [st "self" 440]
def o144 (P : Params) : Obj := ft "sizes" "Vault.sizes" (mp 21 1)
def o145 (P : Params) : Obj := co "sizes" "Vault.sizes" 437 80 1 202 203 204 205 206 441
def o146 (P : Params) : Obj := fo "sizes" "Vault.sizes" (mp 21 1) .none (st "dialvault.vault" 405) 207
def o147 (P : Params) : Obj := tu [st "self" 447]
def o148 (P : Params) : Obj := ft "levers" "Vault.levers" (mp 21 2)
def o149 (P : Params) : Obj := co "levers" "Vault.levers" 444 83 1 209 210 211 212 213 448
def o150 (P : Params) : Obj := fo "levers" "Vault.levers" (mp 21 2) .none (st "dialvault.vault" 405) 214
def o151 (P : Params) : Obj := tu [st "self" 454]
def o152 (P : Params) : Obj := ft "prices" "Vault.prices" (mp 21 3)
def o153 (P : Params) : Obj := co "prices" "Vault.prices" 451 86 1 216 217 218 219 220 455
def o154 (P : Params) : Obj := fo "prices" "Vault.prices" (mp 21 3) .none (st "dialvault.vault" 405) 221
def o155 (P : Params) : Obj := tu [st "self" 461]
def o156 (P : Params) : Obj := ft "around" "Vault.around" (mp 21 4)
def o157 (P : Params) : Obj := co "around" "Vault.around" 458 89 1 223 224 225 226 227 462
def o158 (P : Params) : Obj := fo "around" "Vault.around" (mp 21 4) .none (st "dialvault.vault" 405) 228
def o159 (P : Params) : Obj := tu [st "dial_sizes" 465, st "least_round" 466, st "lever_prices" 467, st "lever_settings" 468]
def o160 (P : Params) : Obj := di 4 [en P "__module__" 426 (st "dialvault.vault" 405), en P "__firstlineno__" 430 (.int 70 429), en P "__init__" 436 (.ref 201), en P "sizes" 443 (.ref 208), en P "levers" 450 (.ref 215), en P "prices" 457 (.ref 222), en P "around" 464 (.ref 229), en P "__static_attributes__" 469 (.ref 230), en P "__dict__" 471 (.ref 233), en P "__weakref__" 473 (.ref 234), en P "__doc__" 474 .none]
def o161 (P : Params) : Obj := ⟨.type "type", none, (.cls ⟨"Vault", [.type "object"], [.ref 232, .type "object"], 231, "Vault", true, [], [], false, none, false⟩), ⟨[none, none, some (st "Vault" 419), some (st "Vault" 427), some (.builtin "object.__new__"), some (.bool true)]⟩⟩
def o162 (P : Params) : Obj := ⟨.type "getset_descriptor", none, (.fields ⟨[st "__dict__" 470, .ref 232, .builtin "function.__dict__", .builtin "function.__dict__#set"]⟩), ⟨[]⟩⟩
def o163 (P : Params) : Obj := ⟨.type "getset_descriptor", none, (.fields ⟨[st "__weakref__" 472, .ref 232, .builtin "ExceptionGroup.__weakref__", .none]⟩), ⟨[]⟩⟩
def o164 (P : Params) : Obj := ⟨.type "super", none, (.fields ⟨[.ref 232, .ref 232, .ref 232]⟩), ⟨[]⟩⟩
def o165 (P : Params) : Obj := ⟨.type "builtin_function_or_method", none, (.fields ⟨[.builtin "object.__init_subclass__", .ref 232]⟩), ⟨[]⟩⟩
def o166 (P : Params) : Obj := tu [st "thing" 480, st "least" 481, st "most" 482]
def o167 (P : Params) : Obj := ft "is_within" "is_within" (tp 22)
def o168 (P : Params) : Obj := co "is_within" "is_within" 477 91 3 237 238 239 240 241 483
def o169 (P : Params) : Obj := fo "is_within" "is_within" (tp 22) .none (st "dialvault.vault" 405) 242
def L7 (P : Params) : List Obj := [boot_o_0 P, boot_o_1 P, boot_o_2 P, o133 P, boot_o_4 P, boot_o_5 P, boot_o_6 P, boot_o_7 P, boot_o_8 P, boot_o_9 P, boot_o_10 P, boot_o_7 P, o134 P, o0 P, o1 P, boot_o_7 P, boot_o_8 P, o4 P, boot_o_7 P, o5 P, o6 P, o7 P, o8 P, o9 P, o10 P, boot_o_7 P, o11 P, o12 P, o13 P, boot_o_7 P, boot_o_8 P, o14 P, boot_o_7 P, o15 P, o16 P, o17 P, boot_o_7 P, o18 P, o101 P, o20 P, o21 P, o22 P, o26 P, o9 P, o27 P, boot_o_7 P, o28 P, o29 P, o30 P, boot_o_7 P, boot_o_8 P, o31 P, boot_o_7 P, o32 P, o33 P, o34 P, boot_o_7 P, boot_o_8 P, o35 P, boot_o_7 P, o36 P, o37 P, o38 P, o39 P, o40 P, o41 P, o42 P, o43 P, o26 P, o9 P, o47 P, boot_o_7 P, o48 P, o49 P, o50 P, boot_o_7 P, boot_o_8 P, o51 P, boot_o_7 P, o52 P, o53 P, o54 P, boot_o_7 P, boot_o_8 P, o55 P, boot_o_7 P, o56 P, o57 P, o58 P, o59 P, o60 P, o61 P, o62 P, o63 P, o26 P, o9 P, o67 P, boot_o_7 P, o68 P, o69 P, o70 P, boot_o_7 P, boot_o_8 P, o71 P, boot_o_7 P, o72 P, o73 P, o74 P, boot_o_7 P, boot_o_8 P, o75 P, boot_o_7 P, o76 P, o77 P, o78 P, o79 P, o80 P, o81 P, o82 P, o83 P, o26 P, o9 P, o87 P, boot_o_7 P, o88 P, o89 P, o90 P, boot_o_7 P, boot_o_8 P, o91 P, boot_o_7 P, o92 P, o93 P, o94 P, boot_o_7 P, o95 P, o96 P, o97 P, o98 P, o26 P, o9 P, o102 P, boot_o_7 P, o103 P, o104 P, o105 P, boot_o_7 P, boot_o_8 P, o106 P, boot_o_7 P, o107 P, o108 P, o109 P, boot_o_7 P, o110 P, o111 P, o112 P, o113 P, boot_o_7 P, boot_o_8 P, o114 P, boot_o_7 P, o115 P, o116 P, o117 P, boot_o_7 P, boot_o_8 P, o118 P, o119 P, o120 P, boot_o_7 P, boot_o_8 P, o121 P, boot_o_7 P, o122 P, o123 P, o124 P, boot_o_7 P, boot_o_8 P, o125 P, boot_o_7 P, o126 P, o127 P, o128 P, boot_o_7 P, boot_o_8 P, o129 P, o130 P, o131 P, boot_o_7 P, o9 P, o135 P, boot_o_7 P, o136 P, o137 P, o138 P, o139 P, boot_o_7 P, boot_o_8 P, o140 P, o141 P, o142 P, boot_o_7 P, boot_o_8 P, o143 P, boot_o_7 P, o144 P, o145 P, o146 P, boot_o_7 P, boot_o_8 P, o147 P, boot_o_7 P, o148 P, o149 P, o150 P, boot_o_7 P, boot_o_8 P, o151 P, boot_o_7 P, o152 P, o153 P, o154 P, boot_o_7 P, boot_o_8 P, o155 P, boot_o_7 P, o156 P, o157 P, o158 P, o159 P, o160 P, o161 P, o162 P, o163 P, o164 P, o165 P, boot_o_7 P, boot_o_8 P, o166 P, boot_o_7 P, o167 P, o168 P, o169 P]
def o170 (P : Params) : Obj := di 41 [en P "__name__" 165 (st "law_dialvault_k41_still_or_not" 558), en P "__doc__" 166 .none, en P "__package__" 167 .none, en P "__loader__" 168 (.builtin "__main__.__loader__#opaque"), en P "__spec__" 169 .none, en P "__annotations__" 170 (.ref 6), en P "__builtins__" 171 (.ref 4), en P "__file__" 173 (st "/claim/cut.py" 172), en P "__cached__" 174 .none, en P "_wall" 193 (.ref 21), en P "VaultError" 220 (.ref 38), en P "NoDial" 252 (.ref 65), en P "NoLever" 284 (.ref 91), en P "NoPrice" 316 (.ref 117), en P "NoSetting" 339 (.ref 136), en P "TooMany" 362 (.ref 155), en P "is_whole" 371 (.ref 164), en P "is_row" 377 (.ref 169), en P "common" 389 (.ref 176), en P "multiple_of" 398 (.ref 183), en P "rest_sum" 404 (.ref 188), en P "MOST_DIALS" 408 (.int 6 407), en P "LEAST_SIZE" 410 (.int 2 409), en P "MOST_SIZE" 412 (.int 360 411), en P "MOST_LEVERS" 414 (.int 8 413), en P "LEAST_PRICE" 416 (.int 1 415), en P "MOST_PRICE" 418 (.int 1000 417), en P "Vault" 476 (.ref 232), en P "is_within" 485 (.ref 243), en P "need_sizes" 494 (.ref 250), en P "need_levers" 504 (.ref 257), en P "prices_for" 513 (.ref 264), en P "rests" 519 (.ref 269), en P "is_setting" 525 (.ref 274), en P "need_setting" 533 (.ref 281), en P "weigh" 541 (.ref 286), en P "weighs_no_lever" 547 (.ref 291), en P "is_still" 557 (.ref 298), en P "_law_cell" 567 (.ref 305), en P "_law_mix" 576 (.ref 312), en P "_law_sizes" 582 (.ref 317)]
def o171 (P : Params) : Obj := ⟨.none, none, (.fields ⟨[.int 1 0, .int 0 0, .ref 20, .int 5 0, .int 0 0, .ref 27, .int 9 0, .int 0 0, .ref 47, .int 16 0, .int 0 0, .ref 73, .int 23 0, .int 0 0, .ref 99, .int 30 0, .int 0 0, .ref 125, .int 34 0, .int 0 0, .ref 144, .int 39 0, .int 0 0, .ref 163, .int 41 0, .int 0 0, .ref 168, .int 45 0, .int 0 0, .ref 175, .int 56 0, .int 0 0, .ref 182, .int 61 0, .int 0 0, .ref 187, .int 70 0, .int 0 0, .ref 194, .int 91 0, .int 0 0, .ref 242, .int 93 0, .int 0 0, .ref 249, .int 101 0, .int 0 0, .ref 256, .int 107 0, .int 0 0, .ref 263, .int 116 0, .int 0 0, .ref 268, .int 118 0, .int 0 0, .ref 273, .int 123 0, .int 0 0, .ref 280, .int 127 0, .int 0 0, .ref 285, .int 133 0, .int 0 0, .ref 290, .int 136 0, .int 0 0, .ref 297, .int 139 0, .int 0 0, .ref 304, .int 143 0, .int 0 0, .ref 311, .int 147 0, .int 0 0, .ref 316]⟩), ⟨[]⟩⟩
def o172 (P : Params) : Obj := tu [st "sizes" 489, st "dial" 490, st "size" 491]
def o173 (P : Params) : Obj := ft "need_sizes" "need_sizes" (tp 23)
def o174 (P : Params) : Obj := co "need_sizes" "need_sizes" 486 93 1 244 245 246 247 248 492
def o175 (P : Params) : Obj := fo "need_sizes" "need_sizes" (tp 23) .none (st "dialvault.vault" 405) 249
def o176 (P : Params) : Obj := tu [st "levers" 498, st "dials" 499, st "place" 500, st "lever" 501]
def o177 (P : Params) : Obj := ft "need_levers" "need_levers" (tp 24)
def o178 (P : Params) : Obj := co "need_levers" "need_levers" 495 101 2 251 252 253 254 255 502
def o179 (P : Params) : Obj := fo "need_levers" "need_levers" (tp 24) .none (st "dialvault.vault" 405) 256
def o180 (P : Params) : Obj := tu [st "levers" 508, st "prices" 509, st "place" 510]
def o181 (P : Params) : Obj := ft "prices_for" "prices_for" (tp 25)
def o182 (P : Params) : Obj := co "prices_for" "prices_for" 505 107 2 258 259 260 261 262 511
def o183 (P : Params) : Obj := fo "prices_for" "prices_for" (tp 25) .none (st "dialvault.vault" 405) 263
def o184 (P : Params) : Obj := ft "rests" "rests" (tp 26)
def o185 (P : Params) : Obj := ⟨.type "code", none, (.fields ⟨[st "rests" 514, st "rests" 515, st "/claim/cut.py" 516, .int 116 0, .int 2 0, .int 0 0, .int 0 0, .int 3 0, .ref 265, .bool true, .int 181 0, .ref 266, .none, .none, .none, .ref 267, .int 517 0, .int 116 0, st "/claim/cut.py" 518]⟩), ⟨[]⟩⟩
def o186 (P : Params) : Obj := fo "rests" "rests" (tp 26) .none (st "dialvault.vault" 405) 268
def o187 (P : Params) : Obj := ft "is_setting" "is_setting" (tp 27)
def o188 (P : Params) : Obj := ⟨.type "code", none, (.fields ⟨[st "is_setting" 520, st "is_setting" 521, st "/claim/cut.py" 522, .int 118 0, .int 2 0, .int 0 0, .int 0 0, .int 3 0, .ref 270, .bool true, .int 181 0, .ref 271, .none, .none, .none, .ref 272, .int 523 0, .int 118 0, st "/claim/cut.py" 524]⟩), ⟨[]⟩⟩
def o189 (P : Params) : Obj := fo "is_setting" "is_setting" (tp 27) .none (st "dialvault.vault" 405) 273
def o190 (P : Params) : Obj := tu [st "vault" 529, st "thing" 530]
def o191 (P : Params) : Obj := ft "need_setting" "need_setting" (tp 28)
def o192 (P : Params) : Obj := co "need_setting" "need_setting" 526 123 2 275 276 277 278 279 531
def o193 (P : Params) : Obj := fo "need_setting" "need_setting" (tp 28) .none (st "dialvault.vault" 405) 280
def o194 (P : Params) : Obj := ft "weigh" "weigh" (tp 30)
def o195 (P : Params) : Obj := ⟨.type "code", none, (.fields ⟨[st "weigh" 536, st "weigh" 537, st "/claim/cut.py" 538, .int 127 0, .int 3 0, .int 0 0, .int 0 0, .int 3 0, .ref 282, .bool true, .int 181 0, .ref 283, .none, .none, .none, .ref 284, .int 539 0, .int 127 0, st "/claim/cut.py" 540]⟩), ⟨[]⟩⟩
def o196 (P : Params) : Obj := fo "weigh" "weigh" (tp 30) .none (st "dialvault.papers" 534) 285
def o197 (P : Params) : Obj := ft "weighs_no_lever" "weighs_no_lever" (tp 31)
def o198 (P : Params) : Obj := ⟨.type "code", none, (.fields ⟨[st "weighs_no_lever" 542, st "weighs_no_lever" 543, st "/claim/cut.py" 544, .int 133 0, .int 2 0, .int 0 0, .int 0 0, .int 3 0, .ref 287, .bool true, .int 181 0, .ref 288, .none, .none, .none, .ref 289, .int 545 0, .int 133 0, st "/claim/cut.py" 546]⟩), ⟨[]⟩⟩
def o199 (P : Params) : Obj := fo "weighs_no_lever" "weighs_no_lever" (tp 31) .none (st "dialvault.papers" 534) 290
def o200 (P : Params) : Obj := tu [st "vault" 553, st "thing" 554]
def o201 (P : Params) : Obj := ft "is_still" "is_still" (tp 33)
def o202 (P : Params) : Obj := co "is_still" "is_still" 550 136 2 292 293 294 295 296 555
def o203 (P : Params) : Obj := fo "is_still" "is_still" (tp 33) .none (st "dialvault.stills" 548) 297
def o204 (P : Params) : Obj := tu [st "_law_script" 563, st "_law_k" 564]
def o205 (P : Params) : Obj := ft "_law_cell" "_law_cell" (tp 35)
def o206 (P : Params) : Obj := co "_law_cell" "_law_cell" 560 139 2 299 300 301 302 303 565
def o207 (P : Params) : Obj := fo "_law_cell" "_law_cell" (tp 35) .none (st "law_dialvault_k41_still_or_not" 558) 304
def o208 (P : Params) : Obj := tu [st "_law_cell_here" 571, st "_law_k" 572, st "_law_number" 573]
def o209 (P : Params) : Obj := ft "_law_mix" "_law_mix" (tp 36)
def o210 (P : Params) : Obj := co "_law_mix" "_law_mix" 568 143 2 306 307 308 309 310 574
def o211 (P : Params) : Obj := fo "_law_mix" "_law_mix" (tp 36) .none (st "law_dialvault_k41_still_or_not" 558) 311
def o212 (P : Params) : Obj := ft "_law_sizes" "_law_sizes" (tp 37)
def o213 (P : Params) : Obj := ⟨.type "code", none, (.fields ⟨[st "_law_sizes" 577, st "_law_sizes" 578, st "/claim/cut.py" 579, .int 147 0, .int 1 0, .int 0 0, .int 0 0, .int 3 0, .ref 313, .bool true, .int 181 0, .ref 314, .none, .none, .none, .ref 315, .int 580 0, .int 147 0, st "/claim/cut.py" 581]⟩), ⟨[]⟩⟩
def o214 (P : Params) : Obj := fo "_law_sizes" "_law_sizes" (tp 37) .none (st "law_dialvault_k41_still_or_not" 558) 316
def L8 (P : Params) : List Obj := [boot_o_0 P, boot_o_1 P, boot_o_2 P, o170 P, boot_o_4 P, boot_o_5 P, boot_o_6 P, boot_o_7 P, boot_o_8 P, boot_o_9 P, boot_o_10 P, boot_o_7 P, o171 P, o0 P, o1 P, boot_o_7 P, boot_o_8 P, o4 P, boot_o_7 P, o5 P, o6 P, o7 P, o8 P, o9 P, o10 P, boot_o_7 P, o11 P, o12 P, o13 P, boot_o_7 P, boot_o_8 P, o14 P, boot_o_7 P, o15 P, o16 P, o17 P, boot_o_7 P, o18 P, o101 P, o20 P, o21 P, o22 P, o26 P, o9 P, o27 P, boot_o_7 P, o28 P, o29 P, o30 P, boot_o_7 P, boot_o_8 P, o31 P, boot_o_7 P, o32 P, o33 P, o34 P, boot_o_7 P, boot_o_8 P, o35 P, boot_o_7 P, o36 P, o37 P, o38 P, o39 P, o40 P, o41 P, o42 P, o43 P, o26 P, o9 P, o47 P, boot_o_7 P, o48 P, o49 P, o50 P, boot_o_7 P, boot_o_8 P, o51 P, boot_o_7 P, o52 P, o53 P, o54 P, boot_o_7 P, boot_o_8 P, o55 P, boot_o_7 P, o56 P, o57 P, o58 P, o59 P, o60 P, o61 P, o62 P, o63 P, o26 P, o9 P, o67 P, boot_o_7 P, o68 P, o69 P, o70 P, boot_o_7 P, boot_o_8 P, o71 P, boot_o_7 P, o72 P, o73 P, o74 P, boot_o_7 P, boot_o_8 P, o75 P, boot_o_7 P, o76 P, o77 P, o78 P, o79 P, o80 P, o81 P, o82 P, o83 P, o26 P, o9 P, o87 P, boot_o_7 P, o88 P, o89 P, o90 P, boot_o_7 P, boot_o_8 P, o91 P, boot_o_7 P, o92 P, o93 P, o94 P, boot_o_7 P, o95 P, o96 P, o97 P, o98 P, o26 P, o9 P, o102 P, boot_o_7 P, o103 P, o104 P, o105 P, boot_o_7 P, boot_o_8 P, o106 P, boot_o_7 P, o107 P, o108 P, o109 P, boot_o_7 P, o110 P, o111 P, o112 P, o113 P, boot_o_7 P, boot_o_8 P, o114 P, boot_o_7 P, o115 P, o116 P, o117 P, boot_o_7 P, boot_o_8 P, o118 P, o119 P, o120 P, boot_o_7 P, boot_o_8 P, o121 P, boot_o_7 P, o122 P, o123 P, o124 P, boot_o_7 P, boot_o_8 P, o125 P, boot_o_7 P, o126 P, o127 P, o128 P, boot_o_7 P, boot_o_8 P, o129 P, o130 P, o131 P, boot_o_7 P, o9 P, o135 P, boot_o_7 P, o136 P, o137 P, o138 P, o139 P, boot_o_7 P, boot_o_8 P, o140 P, o141 P, o142 P, boot_o_7 P, boot_o_8 P, o143 P, boot_o_7 P, o144 P, o145 P, o146 P, boot_o_7 P, boot_o_8 P, o147 P, boot_o_7 P, o148 P, o149 P, o150 P, boot_o_7 P, boot_o_8 P, o151 P, boot_o_7 P, o152 P, o153 P, o154 P, boot_o_7 P, boot_o_8 P, o155 P, boot_o_7 P, o156 P, o157 P, o158 P, o159 P, o160 P, o161 P, o162 P, o163 P, o164 P, o165 P, boot_o_7 P, boot_o_8 P, o166 P, boot_o_7 P, o167 P, o168 P, o169 P, boot_o_7 P, boot_o_8 P, o172 P, boot_o_7 P, o173 P, o174 P, o175 P, boot_o_7 P, boot_o_8 P, o176 P, boot_o_7 P, o177 P, o178 P, o179 P, boot_o_7 P, boot_o_8 P, o180 P, boot_o_7 P, o181 P, o182 P, o183 P, boot_o_7 P, boot_o_8 P, o184 P, o185 P, o186 P, boot_o_7 P, boot_o_8 P, o187 P, o188 P, o189 P, boot_o_7 P, boot_o_8 P, o190 P, boot_o_7 P, o191 P, o192 P, o193 P, boot_o_7 P, boot_o_8 P, o194 P, o195 P, o196 P, boot_o_7 P, boot_o_8 P, o197 P, o198 P, o199 P, boot_o_7 P, boot_o_8 P, o200 P, boot_o_7 P, o201 P, o202 P, o203 P, boot_o_7 P, boot_o_8 P, o204 P, boot_o_7 P, o205 P, o206 P, o207 P, boot_o_7 P, boot_o_8 P, o208 P, boot_o_7 P, o209 P, o210 P, o211 P, boot_o_7 P, boot_o_8 P, o212 P, o213 P, o214 P]
def o215 (P : Params) : Obj := di 46 [en P "__name__" 165 (st "law_dialvault_k41_still_or_not" 558), en P "__doc__" 166 .none, en P "__package__" 167 .none, en P "__loader__" 168 (.builtin "__main__.__loader__#opaque"), en P "__spec__" 169 .none, en P "__annotations__" 170 (.ref 6), en P "__builtins__" 171 (.ref 4), en P "__file__" 173 (st "/claim/cut.py" 172), en P "__cached__" 174 .none, en P "_wall" 193 (.ref 21), en P "VaultError" 220 (.ref 38), en P "NoDial" 252 (.ref 65), en P "NoLever" 284 (.ref 91), en P "NoPrice" 316 (.ref 117), en P "NoSetting" 339 (.ref 136), en P "TooMany" 362 (.ref 155), en P "is_whole" 371 (.ref 164), en P "is_row" 377 (.ref 169), en P "common" 389 (.ref 176), en P "multiple_of" 398 (.ref 183), en P "rest_sum" 404 (.ref 188), en P "MOST_DIALS" 408 (.int 6 407), en P "LEAST_SIZE" 410 (.int 2 409), en P "MOST_SIZE" 412 (.int 360 411), en P "MOST_LEVERS" 414 (.int 8 413), en P "LEAST_PRICE" 416 (.int 1 415), en P "MOST_PRICE" 418 (.int 1000 417), en P "Vault" 476 (.ref 232), en P "is_within" 485 (.ref 243), en P "need_sizes" 494 (.ref 250), en P "need_levers" 504 (.ref 257), en P "prices_for" 513 (.ref 264), en P "rests" 519 (.ref 269), en P "is_setting" 525 (.ref 274), en P "need_setting" 533 (.ref 281), en P "weigh" 541 (.ref 286), en P "weighs_no_lever" 547 (.ref 291), en P "is_still" 557 (.ref 298), en P "_law_cell" 567 (.ref 305), en P "_law_mix" 576 (.ref 312), en P "_law_sizes" 582 (.ref 317), en P "_law_round" 593 (.ref 324), en P "_law_weigh" 599 (.ref 329), en P "_law_weights" 605 (.ref 334), en P "_law_other" 616 (.ref 341), en P "law" 638 (.ref 348)]
def o216 (P : Params) : Obj := ⟨.none, none, (.fields ⟨[.int 1 0, .int 0 0, .ref 20, .int 5 0, .int 0 0, .ref 27, .int 9 0, .int 0 0, .ref 47, .int 16 0, .int 0 0, .ref 73, .int 23 0, .int 0 0, .ref 99, .int 30 0, .int 0 0, .ref 125, .int 34 0, .int 0 0, .ref 144, .int 39 0, .int 0 0, .ref 163, .int 41 0, .int 0 0, .ref 168, .int 45 0, .int 0 0, .ref 175, .int 56 0, .int 0 0, .ref 182, .int 61 0, .int 0 0, .ref 187, .int 70 0, .int 0 0, .ref 194, .int 91 0, .int 0 0, .ref 242, .int 93 0, .int 0 0, .ref 249, .int 101 0, .int 0 0, .ref 256, .int 107 0, .int 0 0, .ref 263, .int 116 0, .int 0 0, .ref 268, .int 118 0, .int 0 0, .ref 273, .int 123 0, .int 0 0, .ref 280, .int 127 0, .int 0 0, .ref 285, .int 133 0, .int 0 0, .ref 290, .int 136 0, .int 0 0, .ref 297, .int 139 0, .int 0 0, .ref 304, .int 143 0, .int 0 0, .ref 311, .int 147 0, .int 0 0, .ref 316, .int 150 0, .int 0 0, .ref 323, .int 159 0, .int 0 0, .ref 328, .int 162 0, .int 0 0, .ref 333, .int 170 0, .int 0 0, .ref 340, .int 176 0, .int 0 0, .ref 347]⟩), ⟨[]⟩⟩
def o217 (P : Params) : Obj := tu [st "_law_sizes_here" 586, st "_law_found" 587, st "_law_size" 588, st "_law_one" 589, st "_law_other_here" 590]
def o218 (P : Params) : Obj := ft "_law_round" "_law_round" (tp 38)
def o219 (P : Params) : Obj := co "_law_round" "_law_round" 583 150 1 318 319 320 321 322 591
def o220 (P : Params) : Obj := fo "_law_round" "_law_round" (tp 38) .none (st "law_dialvault_k41_still_or_not" 558) 323
def o221 (P : Params) : Obj := ft "_law_weigh" "_law_weigh" (tp 39)
def o222 (P : Params) : Obj := ⟨.type "code", none, (.fields ⟨[st "_law_weigh" 594, st "_law_weigh" 595, st "/claim/cut.py" 596, .int 159 0, .int 3 0, .int 0 0, .int 0 0, .int 3 0, .ref 325, .bool true, .int 181 0, .ref 326, .none, .none, .none, .ref 327, .int 597 0, .int 159 0, st "/claim/cut.py" 598]⟩), ⟨[]⟩⟩
def o223 (P : Params) : Obj := fo "_law_weigh" "_law_weigh" (tp 39) .none (st "law_dialvault_k41_still_or_not" 558) 328
def o224 (P : Params) : Obj := ft "_law_weights" "_law_weights" (tp 40)
def o225 (P : Params) : Obj := ⟨.type "code", none, (.fields ⟨[st "_law_weights" 600, st "_law_weights" 601, st "/claim/cut.py" 602, .int 162 0, .int 3 0, .int 0 0, .int 0 0, .int 3 0, .ref 330, .bool true, .int 181 0, .ref 331, .none, .none, .none, .ref 332, .int 603 0, .int 162 0, st "/claim/cut.py" 604]⟩), ⟨[]⟩⟩
def o226 (P : Params) : Obj := fo "_law_weights" "_law_weights" (tp 40) .none (st "law_dialvault_k41_still_or_not" 558) 333
def o227 (P : Params) : Obj := tu [st "_law_cell_here" 609, st "_law_weights_here" 610, st "_law_sizes_here" 611, st "_law_at" 612, st "_law_some" 613]
def o228 (P : Params) : Obj := ft "_law_other" "_law_other" (tp 41)
def o229 (P : Params) : Obj := co "_law_other" "_law_other" 606 170 3 335 336 337 338 339 614
def o230 (P : Params) : Obj := fo "_law_other" "_law_other" (tp 41) .none (st "law_dialvault_k41_still_or_not" 558) 340
def o231 (P : Params) : Obj := tu [st "_law_script" 620, st "_law_first" 621, st "_law_share" 622, st "_law_sizes_here" 623, st "_law_levers" 624, st "_law_cell_here" 625, st "_law_row" 626, st "_law_left" 627, st "_law_k" 628, st "_law_size" 629, st "_law_notch" 630, st "_law_vault" 631, st "_law_weights_here" 632, st "_law_due" 633, st "_law_lever" 634, st "_law_found" 635]
def o232 (P : Params) : Obj := ft "law" "law" (tp 42)
def o233 (P : Params) : Obj := co "law" "law" 617 176 1 342 343 344 345 346 636
def o234 (P : Params) : Obj := fo "law" "law" (tp 42) .none (st "law_dialvault_k41_still_or_not" 558) 347
def L9 (P : Params) : List Obj := [boot_o_0 P, boot_o_1 P, boot_o_2 P, o215 P, boot_o_4 P, boot_o_5 P, boot_o_6 P, boot_o_7 P, boot_o_8 P, boot_o_9 P, boot_o_10 P, boot_o_7 P, o216 P, o0 P, o1 P, boot_o_7 P, boot_o_8 P, o4 P, boot_o_7 P, o5 P, o6 P, o7 P, o8 P, o9 P, o10 P, boot_o_7 P, o11 P, o12 P, o13 P, boot_o_7 P, boot_o_8 P, o14 P, boot_o_7 P, o15 P, o16 P, o17 P, boot_o_7 P, o18 P, o101 P, o20 P, o21 P, o22 P, o26 P, o9 P, o27 P, boot_o_7 P, o28 P, o29 P, o30 P, boot_o_7 P, boot_o_8 P, o31 P, boot_o_7 P, o32 P, o33 P, o34 P, boot_o_7 P, boot_o_8 P, o35 P, boot_o_7 P, o36 P, o37 P, o38 P, o39 P, o40 P, o41 P, o42 P, o43 P, o26 P, o9 P, o47 P, boot_o_7 P, o48 P, o49 P, o50 P, boot_o_7 P, boot_o_8 P, o51 P, boot_o_7 P, o52 P, o53 P, o54 P, boot_o_7 P, boot_o_8 P, o55 P, boot_o_7 P, o56 P, o57 P, o58 P, o59 P, o60 P, o61 P, o62 P, o63 P, o26 P, o9 P, o67 P, boot_o_7 P, o68 P, o69 P, o70 P, boot_o_7 P, boot_o_8 P, o71 P, boot_o_7 P, o72 P, o73 P, o74 P, boot_o_7 P, boot_o_8 P, o75 P, boot_o_7 P, o76 P, o77 P, o78 P, o79 P, o80 P, o81 P, o82 P, o83 P, o26 P, o9 P, o87 P, boot_o_7 P, o88 P, o89 P, o90 P, boot_o_7 P, boot_o_8 P, o91 P, boot_o_7 P, o92 P, o93 P, o94 P, boot_o_7 P, o95 P, o96 P, o97 P, o98 P, o26 P, o9 P, o102 P, boot_o_7 P, o103 P, o104 P, o105 P, boot_o_7 P, boot_o_8 P, o106 P, boot_o_7 P, o107 P, o108 P, o109 P, boot_o_7 P, o110 P, o111 P, o112 P, o113 P, boot_o_7 P, boot_o_8 P, o114 P, boot_o_7 P, o115 P, o116 P, o117 P, boot_o_7 P, boot_o_8 P, o118 P, o119 P, o120 P, boot_o_7 P, boot_o_8 P, o121 P, boot_o_7 P, o122 P, o123 P, o124 P, boot_o_7 P, boot_o_8 P, o125 P, boot_o_7 P, o126 P, o127 P, o128 P, boot_o_7 P, boot_o_8 P, o129 P, o130 P, o131 P, boot_o_7 P, o9 P, o135 P, boot_o_7 P, o136 P, o137 P, o138 P, o139 P, boot_o_7 P, boot_o_8 P, o140 P, o141 P, o142 P, boot_o_7 P, boot_o_8 P, o143 P, boot_o_7 P, o144 P, o145 P, o146 P, boot_o_7 P, boot_o_8 P, o147 P, boot_o_7 P, o148 P, o149 P, o150 P, boot_o_7 P, boot_o_8 P, o151 P, boot_o_7 P, o152 P, o153 P, o154 P, boot_o_7 P, boot_o_8 P, o155 P, boot_o_7 P, o156 P, o157 P, o158 P, o159 P, o160 P, o161 P, o162 P, o163 P, o164 P, o165 P, boot_o_7 P, boot_o_8 P, o166 P, boot_o_7 P, o167 P, o168 P, o169 P, boot_o_7 P, boot_o_8 P, o172 P, boot_o_7 P, o173 P, o174 P, o175 P, boot_o_7 P, boot_o_8 P, o176 P, boot_o_7 P, o177 P, o178 P, o179 P, boot_o_7 P, boot_o_8 P, o180 P, boot_o_7 P, o181 P, o182 P, o183 P, boot_o_7 P, boot_o_8 P, o184 P, o185 P, o186 P, boot_o_7 P, boot_o_8 P, o187 P, o188 P, o189 P, boot_o_7 P, boot_o_8 P, o190 P, boot_o_7 P, o191 P, o192 P, o193 P, boot_o_7 P, boot_o_8 P, o194 P, o195 P, o196 P, boot_o_7 P, boot_o_8 P, o197 P, o198 P, o199 P, boot_o_7 P, boot_o_8 P, o200 P, boot_o_7 P, o201 P, o202 P, o203 P, boot_o_7 P, boot_o_8 P, o204 P, boot_o_7 P, o205 P, o206 P, o207 P, boot_o_7 P, boot_o_8 P, o208 P, boot_o_7 P, o209 P, o210 P, o211 P, boot_o_7 P, boot_o_8 P, o212 P, o213 P, o214 P, boot_o_7 P, boot_o_8 P, o217 P, boot_o_7 P, o218 P, o219 P, o220 P, boot_o_7 P, boot_o_8 P, o221 P, o222 P, o223 P, boot_o_7 P, boot_o_8 P, o224 P, o225 P, o226 P, boot_o_7 P, boot_o_8 P, o227 P, boot_o_7 P, o228 P, o229 P, o230 P, boot_o_7 P, boot_o_8 P, o231 P, boot_o_7 P, o232 P, o233 P, o234 P]
def LF (P : Params) : List Obj := [boot_o_0 P, boot_o_1 P, boot_o_2 P, o215 P, boot_o_4 P, boot_o_5 P, boot_o_6 P, boot_o_7 P, boot_o_8 P, boot_o_9 P, boot_o_10 P, boot_o_7 P, o216 P, o0 P, o1 P, boot_o_7 P, boot_o_8 P, o4 P, boot_o_7 P, o5 P, o6 P, o7 P, o8 P, o9 P, o10 P, boot_o_7 P, o11 P, o12 P, o13 P, boot_o_7 P, boot_o_8 P, o14 P, boot_o_7 P, o15 P, o16 P, o17 P, boot_o_7 P, o18 P, o101 P, o20 P, o21 P, o22 P, o26 P, o9 P, o27 P, boot_o_7 P, o28 P, o29 P, o30 P, boot_o_7 P, boot_o_8 P, o31 P, boot_o_7 P, o32 P, o33 P, o34 P, boot_o_7 P, boot_o_8 P, o35 P, boot_o_7 P, o36 P, o37 P, o38 P, o39 P, o40 P, o41 P, o42 P, o43 P, o26 P, o9 P, o47 P, boot_o_7 P, o48 P, o49 P, o50 P, boot_o_7 P, boot_o_8 P, o51 P, boot_o_7 P, o52 P, o53 P, o54 P, boot_o_7 P, boot_o_8 P, o55 P, boot_o_7 P, o56 P, o57 P, o58 P, o59 P, o60 P, o61 P, o62 P, o63 P, o26 P, o9 P, o67 P, boot_o_7 P, o68 P, o69 P, o70 P, boot_o_7 P, boot_o_8 P, o71 P, boot_o_7 P, o72 P, o73 P, o74 P, boot_o_7 P, boot_o_8 P, o75 P, boot_o_7 P, o76 P, o77 P, o78 P, o79 P, o80 P, o81 P, o82 P, o83 P, o26 P, o9 P, o87 P, boot_o_7 P, o88 P, o89 P, o90 P, boot_o_7 P, boot_o_8 P, o91 P, boot_o_7 P, o92 P, o93 P, o94 P, boot_o_7 P, o95 P, o96 P, o97 P, o98 P, o26 P, o9 P, o102 P, boot_o_7 P, o103 P, o104 P, o105 P, boot_o_7 P, boot_o_8 P, o106 P, boot_o_7 P, o107 P, o108 P, o109 P, boot_o_7 P, o110 P, o111 P, o112 P, o113 P, boot_o_7 P, boot_o_8 P, o114 P, boot_o_7 P, o115 P, o116 P, o117 P, boot_o_7 P, boot_o_8 P, o118 P, o119 P, o120 P, boot_o_7 P, boot_o_8 P, o121 P, boot_o_7 P, o122 P, o123 P, o124 P, boot_o_7 P, boot_o_8 P, o125 P, boot_o_7 P, o126 P, o127 P, o128 P, boot_o_7 P, boot_o_8 P, o129 P, o130 P, o131 P, boot_o_7 P, o9 P, o135 P, boot_o_7 P, o136 P, o137 P, o138 P, o139 P, boot_o_7 P, boot_o_8 P, o140 P, o141 P, o142 P, boot_o_7 P, boot_o_8 P, o143 P, boot_o_7 P, o144 P, o145 P, o146 P, boot_o_7 P, boot_o_8 P, o147 P, boot_o_7 P, o148 P, o149 P, o150 P, boot_o_7 P, boot_o_8 P, o151 P, boot_o_7 P, o152 P, o153 P, o154 P, boot_o_7 P, boot_o_8 P, o155 P, boot_o_7 P, o156 P, o157 P, o158 P, o159 P, o160 P, o161 P, o162 P, o163 P, o164 P, o165 P, boot_o_7 P, boot_o_8 P, o166 P, boot_o_7 P, o167 P, o168 P, o169 P, boot_o_7 P, boot_o_8 P, o172 P, boot_o_7 P, o173 P, o174 P, o175 P, boot_o_7 P, boot_o_8 P, o176 P, boot_o_7 P, o177 P, o178 P, o179 P, boot_o_7 P, boot_o_8 P, o180 P, boot_o_7 P, o181 P, o182 P, o183 P, boot_o_7 P, boot_o_8 P, o184 P, o185 P, o186 P, boot_o_7 P, boot_o_8 P, o187 P, o188 P, o189 P, boot_o_7 P, boot_o_8 P, o190 P, boot_o_7 P, o191 P, o192 P, o193 P, boot_o_7 P, boot_o_8 P, o194 P, o195 P, o196 P, boot_o_7 P, boot_o_8 P, o197 P, o198 P, o199 P, boot_o_7 P, boot_o_8 P, o200 P, boot_o_7 P, o201 P, o202 P, o203 P, boot_o_7 P, boot_o_8 P, o204 P, boot_o_7 P, o205 P, o206 P, o207 P, boot_o_7 P, boot_o_8 P, o208 P, boot_o_7 P, o209 P, o210 P, o211 P, boot_o_7 P, boot_o_8 P, o212 P, o213 P, o214 P, boot_o_7 P, boot_o_8 P, o217 P, boot_o_7 P, o218 P, o219 P, o220 P, boot_o_7 P, boot_o_8 P, o221 P, o222 P, o223 P, boot_o_7 P, boot_o_8 P, o224 P, o225 P, o226 P, boot_o_7 P, boot_o_8 P, o227 P, boot_o_7 P, o228 P, o229 P, o230 P, boot_o_7 P, boot_o_8 P, o231 P, boot_o_7 P, o232 P, o233 P, o234 P]
def bE : List Stmt := behindTheImports pw
def env : Env := { scope := pw.main.scope, locals := mainNs, globals := mainNs, cells := [], code := .ref 13, frame := some 14 }
def cE : Code := .body bE env
abbrev B : List Frame := [topFrame ⟨0, 0, 0, 0⟩]
abbrev ann : Option Value := (some (.ref 6))
def sts0 : List Stmt := (bE.drop 0).take 3
def sts1 : List Stmt := (bE.drop 3).take 1
def sts2 : List Stmt := (bE.drop 4).take 1
def sts3 : List Stmt := (bE.drop 5).take 1
def sts4 : List Stmt := (bE.drop 6).take 1
def sts5 : List Stmt := (bE.drop 7).take 7
def sts6 : List Stmt := (bE.drop 14).take 7
def sts7 : List Stmt := (bE.drop 21).take 2
def sts8 : List Stmt := (bE.drop 23).take 15
def sts9 : List Stmt := (bE.drop 38).take 5
end
theorem hpre : ∀ w : World, (fun os => topGo treeTable pw w 11 ann 12 ⟨boot_heap w.params, ⟨[]⟩, boot_drawn, boot_toks, os⟩ (topStub pw)) = fun os => some (F LA 187 w os, ⟨denote treeTable cE, cE, ⟨0, 0, 0, 0⟩, B⟩) := fun w => by
  rw [PySem.W.Fast.te15667345088766844465, PySem.W.Fast.te14364793385576792824, PySem.W.Fast.te11892475500146522536]
  kernel_rfl
theorem hblk : ∀ w : World, (fun os => segRun treeTable pw w 11 ann 1 1 (F LA 187 w os) (blockOf bE env cE ⟨0, 0, 0, 0⟩ B)) = fun os => some (Flow.next, (S LA 15 187 w os).abs, cE, ⟨0, 0, 0, 0⟩) := fun w => by
  rw [PySem.W.Fast.te14374325043358763698, PySem.W.Fast.te14364793385576792824]
  kernel_rfl
theorem hp0 : ∀ w : World, (fun os => segRunT treeTable pw w 11 ann 1 255 (S LA 15 187 w os) (piecesOf sts0 env cE ⟨0, 0, 0, 0⟩ B)) = fun os => some (Flow.next, S L0 42 221 w os, cE, ⟨5, 0, 8, 16⟩) := fun w => by
  rw [PySem.W.Fast.te10110043849684766642, PySem.W.Fast.te14364793385576792824]
  kernel_rfl
theorem hp1 : ∀ w : World, (fun os => segRunT treeTable pw w 11 ann 1 277 (S L0 42 221 w os) (piecesOf sts1 env cE ⟨5, 0, 8, 16⟩ B)) = fun os => some (Flow.next, S L1 68 253 w os, cE, ⟨9, 0, 15, 16⟩) := fun w => by
  rw [PySem.W.Fast.te10110043849684766642, PySem.W.Fast.te14364793385576792824]
  kernel_rfl
theorem hp2 : ∀ w : World, (fun os => segRunT treeTable pw w 11 ann 1 277 (S L1 68 253 w os) (piecesOf sts2 env cE ⟨9, 0, 15, 16⟩ B)) = fun os => some (Flow.next, S L2 94 285 w os, cE, ⟨16, 0, 22, 16⟩) := fun w => by
  rw [PySem.W.Fast.te10110043849684766642, PySem.W.Fast.te14364793385576792824]
  kernel_rfl
theorem hp3 : ∀ w : World, (fun os => segRunT treeTable pw w 11 ann 1 277 (S L2 94 285 w os) (piecesOf sts3 env cE ⟨16, 0, 22, 16⟩ B)) = fun os => some (Flow.next, S L3 120 317 w os, cE, ⟨23, 0, 29, 16⟩) := fun w => by
  rw [PySem.W.Fast.te10110043849684766642, PySem.W.Fast.te14364793385576792824]
  kernel_rfl
theorem hp4 : ∀ w : World, (fun os => segRunT treeTable pw w 11 ann 1 244 (S L3 120 317 w os) (piecesOf sts4 env cE ⟨23, 0, 29, 16⟩ B)) = fun os => some (Flow.next, S L4 139 340 w os, cE, ⟨30, 0, 33, 16⟩) := fun w => by
  rw [PySem.W.Fast.te10110043849684766642, PySem.W.Fast.te14364793385576792824]
  kernel_rfl
theorem hp5 : ∀ w : World, (fun os => segRunT treeTable pw w 11 ann 1 399 (S L4 139 340 w os) (piecesOf sts5 env cE ⟨30, 0, 33, 16⟩ B)) = fun os => some (Flow.next, S L5 189 405 w os, cE, ⟨61, 0, 62, 79⟩) := fun w => by
  rw [PySem.W.Fast.te10110043849684766642, PySem.W.Fast.te14364793385576792824]
  kernel_rfl
theorem hp6 : ∀ w : World, (fun os => segRunT treeTable pw w 11 ann 1 64 (S L5 189 405 w os) (piecesOf sts6 env cE ⟨61, 0, 62, 79⟩ B)) = fun os => some (Flow.next, S L6 189 419 w os, cE, ⟨69, 0, 69, 10⟩) := fun w => by
  rw [PySem.W.Fast.te10110043849684766642, PySem.W.Fast.te14364793385576792824]
  kernel_rfl
theorem hp7 : ∀ w : World, (fun os => segRunT treeTable pw w 11 ann 1 378 (S L6 189 419 w os) (piecesOf sts7 env cE ⟨69, 0, 69, 10⟩ B)) = fun os => some (Flow.next, S L7 244 486 w os, cE, ⟨91, 0, 92, 53⟩) := fun w => by
  rw [PySem.W.Fast.te10110043849684766642, PySem.W.Fast.te14364793385576792824]
  kernel_rfl
theorem hp8 : ∀ w : World, (fun os => segRunT treeTable pw w 11 ann 1 373 (S L7 244 486 w os) (piecesOf sts8 env cE ⟨91, 0, 92, 53⟩ B)) = fun os => some (Flow.next, S L8 318 583 w os, cE, ⟨147, 0, 149, 131⟩) := fun w => by
  rw [PySem.W.Fast.te10110043849684766642, PySem.W.Fast.te14364793385576792824]
  kernel_rfl
theorem hp9 : ∀ w : World, (fun os => segRunT treeTable pw w 11 ann 1 163 (S L8 318 583 w os) (piecesOf sts9 env cE ⟨147, 0, 149, 131⟩ B)) = fun os => some (Flow.next, S L9 349 639 w os, cE, ⟨176, 0, 203, 106⟩) := fun w => by
  rw [PySem.W.Fast.te10110043849684766642, PySem.W.Fast.te14364793385576792824]
  kernel_rfl
theorem hfin : ∀ w : World, (fun os => topRun treeTable pw w 11 ann 2 (S L9 349 639 w os).abs ⟨doneF .next, cE, ⟨176, 0, 203, 106⟩, B⟩) = fun os => some (F LF 639 w os) := fun w => by
  rw [PySem.W.Fast.te14082659384304107361, PySem.W.Fast.te14364793385576792824]
  kernel_rfl
theorem bEq : bE = (sts0 ++ (sts1 ++ (sts2 ++ (sts3 ++ (sts4 ++ (sts5 ++ (sts6 ++ (sts7 ++ (sts8 ++ (sts9 ++ [])))))))))) := by kernel_rfl
theorem hrest (w : World) (os : OsState) : topRun treeTable pw w 11 ann (255 + (277 + (277 + (277 + (244 + (399 + (64 + (378 + (373 + (163 + 2)))))))))) (S LA 15 187 w os).abs (restOf bE env cE ⟨0, 0, 0, 0⟩ B) = some (F LF 639 w os) := by
  rw [show restOf bE env cE ⟨0, 0, 0, 0⟩ B = restOf (sts0 ++ (sts1 ++ (sts2 ++ (sts3 ++ (sts4 ++ (sts5 ++ (sts6 ++ (sts7 ++ (sts8 ++ (sts9 ++ [])))))))))) env cE ⟨0, 0, 0, 0⟩ B from congrArg (fun b => restOf b env cE ⟨0, 0, 0, 0⟩ B) bEq]
  exact piece_app (segRun_of (congrFun (hp0 w) os)) (piece_app (segRun_of (congrFun (hp1 w) os)) (piece_app (segRun_of (congrFun (hp2 w) os)) (piece_app (segRun_of (congrFun (hp3 w) os)) (piece_app (segRun_of (congrFun (hp4 w) os)) (piece_app (segRun_of (congrFun (hp5 w) os)) (piece_app (segRun_of (congrFun (hp6 w) os)) (piece_app (segRun_of (congrFun (hp7 w) os)) (piece_app (segRun_of (congrFun (hp8 w) os)) (piece_app (segRun_of (congrFun (hp9 w) os)) (piece_nil (congrFun (hfin w) os)))))))))))
theorem hrun (w : World) (os : OsState) : topRun treeTable pw w 11 ann (12 + (1 + (255 + (277 + (277 + (277 + (244 + (399 + (64 + (378 + (373 + (163 + 2)))))))))))) ⟨boot_heap w.params, ⟨[]⟩, boot_drawn, boot_toks, os⟩ (topStub pw) = some (F LF 639 w os) :=
  go_top (congrFun (hpre w) os) (piece_block (congrFun (hblk w) os) (hrest w os))
end HD
namespace HD
open PySem PySem.W L2
noncomputable section
def vw : Program := PySem.W.view pw [0, 2, 3, 4, 5, 6, 7, 9, 10, 11, 12, 13, 15, 16, 17, 18, 19, 20, 21, 22, 23, 24, 25, 26, 27, 28, 30, 31, 33, 35, 36, 37, 38, 39, 40, 41, 42]
def loose : List Str := []
def K (P : Params) : Frag := [((2 : Nat), boot_o_2 P), ((3 : Nat), o215 P), ((15 : Nat), boot_o_7 P), ((17 : Nat), o4 P), ((18 : Nat), boot_o_7 P), ((20 : Nat), o6 P), ((21 : Nat), o7 P), ((22 : Nat), o8 P), ((29 : Nat), boot_o_7 P), ((31 : Nat), o14 P), ((32 : Nat), boot_o_7 P), ((34 : Nat), o16 P), ((35 : Nat), o17 P), ((36 : Nat), boot_o_7 P), ((37 : Nat), o18 P), ((38 : Nat), o101 P), ((39 : Nat), o20 P), ((42 : Nat), o26 P), ((49 : Nat), boot_o_7 P), ((51 : Nat), o31 P), ((52 : Nat), boot_o_7 P), ((54 : Nat), o33 P), ((55 : Nat), o34 P), ((56 : Nat), boot_o_7 P), ((58 : Nat), o35 P), ((59 : Nat), boot_o_7 P), ((61 : Nat), o37 P), ((62 : Nat), o38 P), ((63 : Nat), o39 P), ((64 : Nat), o40 P), ((65 : Nat), o41 P), ((68 : Nat), o26 P), ((75 : Nat), boot_o_7 P), ((77 : Nat), o51 P), ((78 : Nat), boot_o_7 P), ((80 : Nat), o53 P), ((81 : Nat), o54 P), ((82 : Nat), boot_o_7 P), ((84 : Nat), o55 P), ((85 : Nat), boot_o_7 P), ((87 : Nat), o57 P), ((88 : Nat), o58 P), ((89 : Nat), o59 P), ((90 : Nat), o60 P), ((91 : Nat), o61 P), ((94 : Nat), o26 P), ((101 : Nat), boot_o_7 P), ((103 : Nat), o71 P), ((104 : Nat), boot_o_7 P), ((106 : Nat), o73 P), ((107 : Nat), o74 P), ((108 : Nat), boot_o_7 P), ((110 : Nat), o75 P), ((111 : Nat), boot_o_7 P), ((113 : Nat), o77 P), ((114 : Nat), o78 P), ((115 : Nat), o79 P), ((116 : Nat), o80 P), ((117 : Nat), o81 P), ((120 : Nat), o26 P), ((127 : Nat), boot_o_7 P), ((129 : Nat), o91 P), ((130 : Nat), boot_o_7 P), ((132 : Nat), o93 P), ((133 : Nat), o94 P), ((134 : Nat), boot_o_7 P), ((135 : Nat), o95 P), ((136 : Nat), o96 P), ((139 : Nat), o26 P), ((146 : Nat), boot_o_7 P), ((148 : Nat), o106 P), ((149 : Nat), boot_o_7 P), ((151 : Nat), o108 P), ((152 : Nat), o109 P), ((153 : Nat), boot_o_7 P), ((154 : Nat), o110 P), ((155 : Nat), o111 P), ((158 : Nat), boot_o_7 P), ((160 : Nat), o114 P), ((161 : Nat), boot_o_7 P), ((163 : Nat), o116 P), ((164 : Nat), o117 P), ((165 : Nat), boot_o_7 P), ((168 : Nat), o119 P), ((169 : Nat), o120 P), ((170 : Nat), boot_o_7 P), ((172 : Nat), o121 P), ((173 : Nat), boot_o_7 P), ((175 : Nat), o123 P), ((176 : Nat), o124 P), ((177 : Nat), boot_o_7 P), ((179 : Nat), o125 P), ((180 : Nat), boot_o_7 P), ((182 : Nat), o127 P), ((183 : Nat), o128 P), ((184 : Nat), boot_o_7 P), ((187 : Nat), o130 P), ((188 : Nat), o131 P), ((196 : Nat), o139 P), ((197 : Nat), boot_o_7 P), ((200 : Nat), o141 P), ((201 : Nat), o142 P), ((202 : Nat), boot_o_7 P), ((204 : Nat), o143 P), ((205 : Nat), boot_o_7 P), ((207 : Nat), o145 P), ((208 : Nat), o146 P), ((209 : Nat), boot_o_7 P), ((211 : Nat), o147 P), ((212 : Nat), boot_o_7 P), ((214 : Nat), o149 P), ((215 : Nat), o150 P), ((216 : Nat), boot_o_7 P), ((218 : Nat), o151 P), ((219 : Nat), boot_o_7 P), ((221 : Nat), o153 P), ((222 : Nat), o154 P), ((223 : Nat), boot_o_7 P), ((225 : Nat), o155 P), ((226 : Nat), boot_o_7 P), ((228 : Nat), o157 P), ((229 : Nat), o158 P), ((230 : Nat), o159 P), ((231 : Nat), o160 P), ((232 : Nat), o161 P), ((233 : Nat), o162 P), ((234 : Nat), o163 P), ((237 : Nat), boot_o_7 P), ((239 : Nat), o166 P), ((240 : Nat), boot_o_7 P), ((242 : Nat), o168 P), ((243 : Nat), o169 P), ((244 : Nat), boot_o_7 P), ((246 : Nat), o172 P), ((247 : Nat), boot_o_7 P), ((249 : Nat), o174 P), ((250 : Nat), o175 P), ((251 : Nat), boot_o_7 P), ((253 : Nat), o176 P), ((254 : Nat), boot_o_7 P), ((256 : Nat), o178 P), ((257 : Nat), o179 P), ((258 : Nat), boot_o_7 P), ((260 : Nat), o180 P), ((261 : Nat), boot_o_7 P), ((263 : Nat), o182 P), ((264 : Nat), o183 P), ((265 : Nat), boot_o_7 P), ((268 : Nat), o185 P), ((269 : Nat), o186 P), ((270 : Nat), boot_o_7 P), ((273 : Nat), o188 P), ((274 : Nat), o189 P), ((275 : Nat), boot_o_7 P), ((277 : Nat), o190 P), ((278 : Nat), boot_o_7 P), ((280 : Nat), o192 P), ((281 : Nat), o193 P), ((282 : Nat), boot_o_7 P), ((285 : Nat), o195 P), ((286 : Nat), o196 P), ((287 : Nat), boot_o_7 P), ((290 : Nat), o198 P), ((291 : Nat), o199 P), ((292 : Nat), boot_o_7 P), ((294 : Nat), o200 P), ((295 : Nat), boot_o_7 P), ((297 : Nat), o202 P), ((298 : Nat), o203 P), ((299 : Nat), boot_o_7 P), ((301 : Nat), o204 P), ((302 : Nat), boot_o_7 P), ((304 : Nat), o206 P), ((305 : Nat), o207 P), ((306 : Nat), boot_o_7 P), ((308 : Nat), o208 P), ((309 : Nat), boot_o_7 P), ((311 : Nat), o210 P), ((312 : Nat), o211 P), ((313 : Nat), boot_o_7 P), ((316 : Nat), o213 P), ((317 : Nat), o214 P), ((318 : Nat), boot_o_7 P), ((320 : Nat), o217 P), ((321 : Nat), boot_o_7 P), ((323 : Nat), o219 P), ((324 : Nat), o220 P), ((325 : Nat), boot_o_7 P), ((328 : Nat), o222 P), ((329 : Nat), o223 P), ((330 : Nat), boot_o_7 P), ((333 : Nat), o225 P), ((334 : Nat), o226 P), ((335 : Nat), boot_o_7 P), ((337 : Nat), o227 P), ((338 : Nat), boot_o_7 P), ((340 : Nat), o229 P), ((341 : Nat), o230 P), ((342 : Nat), boot_o_7 P), ((344 : Nat), o231 P), ((345 : Nat), boot_o_7 P), ((347 : Nat), o233 P), ((348 : Nat), o234 P)]
def as : List Addr := [2, 3, 15, 17, 18, 20, 21, 22, 29, 31, 32, 34, 35, 36, 37, 38, 39, 42, 49, 51, 52, 54, 55, 56, 58, 59, 61, 62, 63, 64, 65, 68, 75, 77, 78, 80, 81, 82, 84, 85, 87, 88, 89, 90, 91, 94, 101, 103, 104, 106, 107, 108, 110, 111, 113, 114, 115, 116, 117, 120, 127, 129, 130, 132, 133, 134, 135, 136, 139, 146, 148, 149, 151, 152, 153, 154, 155, 158, 160, 161, 163, 164, 165, 168, 169, 170, 172, 173, 175, 176, 177, 179, 180, 182, 183, 184, 187, 188, 196, 197, 200, 201, 202, 204, 205, 207, 208, 209, 211, 212, 214, 215, 216, 218, 219, 221, 222, 223, 225, 226, 228, 229, 230, 231, 232, 233, 234, 237, 239, 240, 242, 243, 244, 246, 247, 249, 250, 251, 253, 254, 256, 257, 258, 260, 261, 263, 264, 265, 268, 269, 270, 273, 274, 275, 277, 278, 280, 281, 282, 285, 286, 287, 290, 291, 292, 294, 295, 297, 298, 299, 301, 302, 304, 305, 306, 308, 309, 311, 312, 313, 316, 317, 318, 320, 321, 323, 324, 325, 328, 329, 330, 333, 334, 335, 337, 338, 340, 341, 342, 344, 345, 347, 348]
def hook : Hook := kHook K as (fun _ => by kernel_rfl)
abbrev rr : RowW := (PySem.Challenge.rw_dialvault_k41_still_or_not.row).toRowW
def Xt : Shared → Bool := fun s => xlAt vw [] s && recOk (RowW.records rr) s
def H1 (P : Params) : Heap := ⟨⟨LF P⟩, {}⟩
end
theorem hsize : ∀ w : World, ((boot_heap w.params).isNs mainGlobals && (Array.mk [] : Array GenState).size == 0, (boot_heap w.params).objs.size, (boot_heap w.params).nsMap mainGlobals "__annotations__") = (true, 11, ann) := fun w => by
  rw [PySem.W.Fast.te8920871248978507458]
  kernel_rfl
theorem hlooks : ∀ w : World, (fun os => ((staticsOk (importedModules pw.main.body) (boot_heap w.params) (H1 w.params) && namesBound pw (H1 w.params) && gensDone ⟨H1 w.params, ⟨[]⟩, ⟨0, 0, 0, 0⟩, 639, os⟩ && laidKept (boot_heap w.params) (H1 w.params)),
    openSeen vw loose (importedModules pw.main.body) Xt true ⟨H1 w.params, ⟨[]⟩, ⟨0, 0, 0, 0⟩, 639, os⟩, Hook.obs hook ⟨H1 w.params, ⟨[]⟩, ⟨0, 0, 0, 0⟩, 639, os⟩)) = fun _ => (true, openGood vw loose, Hook.val hook w) := fun w => by
  rw [PySem.W.Fast.te4187177175401517315, PySem.W.Fast.te5923862056798008813]
  kernel_rfl
theorem hleft : LeftO pw vw loose Xt (Hook.obs hook) (Hook.val hook) 5520 :=
  LeftO.of_pieces (H₀ := boot_heap) (H₁ := H1) (gs₀ := ⟨[]⟩) (gs₁ := ⟨[]⟩) (d₀ := boot_drawn) (d₁ := ⟨0, 0, 0, 0⟩) (k₀ := boot_toks) (k₁ := 639) (m₀ := 11) (ann := ann) (M := (12 + (1 + (255 + (277 + (277 + (277 + (244 + (399 + (64 + (378 + (373 + (163 + 2)))))))))))))
    (boot_open (by kernel_rfl) (by kernel_rfl) (fun s => by kernel_rfl)) hsize hrun (by kernel_rfl) hlooks
end HD
open PySem PySem.W
theorem HD.said : PySem.Challenge.rw_dialvault_k41_still_or_not.wellSaid = true := by
  decide +kernel
namespace K41
open PySem L2 PyProof.Rows
def top (i : Nat) : Stmt := PySem.Challenge.pw_dialvault_k41_still_or_not.main.body.getD i (.Pass ⟨0, 0, 0, 0⟩)
def C_NoDial : Addr := 65
def C_NoLever : Addr := 91
def C_NoPrice : Addr := 117
def C_NoSetting : Addr := 136
def C_TooMany : Addr := 155
def C_Vault : Addr := 232
structure Txt (K : PySem.W.Frag) (mg : Str → Option Value) : Prop where
  z_all : mg "all" = none
  z_bool : mg "bool" = none
  z_enumerate : mg "enumerate" = none
  z_int : mg "int" = none
  z_isinstance : mg "isinstance" = none
  z_len : mg "len" = none
  z_list : mg "list" = none
  z_max : mg "max" = none
  z_range : mg "range" = none
  z_sum : mg "sum" = none
  z_tuple : mg "tuple" = none
  z_zip : mg "zip" = none
  g_LEAST_PRICE : ∃ u, mg "LEAST_PRICE" = some u ∧ RelV (.int 1) u
  g_LEAST_SIZE : ∃ u, mg "LEAST_SIZE" = some u ∧ RelV (.int 2) u
  g_MOST_DIALS : ∃ u, mg "MOST_DIALS" = some u ∧ RelV (.int 6) u
  g_MOST_LEVERS : ∃ u, mg "MOST_LEVERS" = some u ∧ RelV (.int 8) u
  g_MOST_PRICE : ∃ u, mg "MOST_PRICE" = some u ∧ RelV (.int 1000) u
  g_MOST_SIZE : ∃ u, mg "MOST_SIZE" = some u ∧ RelV (.int 360) u
  c_Vault : Cls K C_Vault
  e_NoSetting : OkE0 K mg C_NoSetting "NoSetting"
  e_TooMany : OkE0 K mg C_TooMany "TooMany"
  n_Vault_dial_sizes : NoAttr K C_Vault "dial_sizes"
  n_Vault_least_round : NoAttr K C_Vault "least_round"
  n_Vault_lever_prices : NoAttr K C_Vault "lever_prices"
  n_Vault_lever_settings : NoAttr K C_Vault "lever_settings"
  f_dial_sizes : ∀ C, (C == C_Vault) = true → Cls K C ∧ NoAttr K C "dial_sizes"
  f_least_round : ∀ C, (C == C_Vault) = true → Cls K C ∧ NoAttr K C "least_round"
  f_lever_prices : ∀ C, (C == C_Vault) = true → Cls K C ∧ NoAttr K C "lever_prices"
  f_lever_settings : ∀ C, (C == C_Vault) = true → Cls K C ∧ NoAttr K C "lever_settings"
variable {P : Program} {w : World} {K : PySem.W.Frag} {mg : Str → Option Value} {base : Heap}
noncomputable def g_is_whole : PEnv → M Out :=
  (seqS (retS (andV (isV (fun a => subN a "int") noA noA (getV 0)) (notV (isV (fun a => subN a "bool") noA noA (getV 0)))))
  nextS)
noncomputable def s_is_whole : List PV → M PV := lenG 1 (runD 1 g_is_whole)
theorem sc_is_whole : FnScope ["thing"] ["thing"] (defScope (top 9)) := ⟨rfl, rfl, rfl, by decide +kernel, rfl, by decide +kernel, by decide +kernel⟩
theorem ok_is_whole {f : Addr} {fd : FuncData} {dv : Value} (F : FunD K "is_whole" "is_whole" (top 9) dv f fd) (T : Txt K mg)  : FnOk P w K mg base (CXV P w) 1 f fd ["thing"] (spV 1 s_is_whole) :=
  F.okV sc_is_whole fun cdv A outer s H E hr O =>
  by
 refine (pSs_cons ?_   pSs_nil)
 refine (pS_ret ?_)
 refine (pv_and ?_ (pe_one ?_))
 refine (pv_isT (T := "int") (by rfl) T.z_isinstance (pe_bltn (v := .ty "int") (by rfl) T.z_int bt_int rfl) (by decide) noA_ noA_ ?_)
 exact (vr 0)
 refine (pv_not ?_)
 refine (pv_isT (T := "bool") (by rfl) T.z_isinstance (pe_bltn (v := .ty "bool") (by rfl) T.z_bool bt_bool rfl) (by decide) noA_ noA_ ?_)
 exact (vr 0)
noncomputable def g_is_row : PEnv → M Out :=
  (seqS (ifS (orB (notB (tst (isV (fun a => ["list", "tuple"].any fun t => subN a t) noA noA (getV 0)))) (tst (bin2 neP (callV' lenP (consL (getV 0) nilL)) (getV 1)))) (seqS (retS (fun _ => M.ok (.bl false)))
  nextS) nextS)
  (seqS (retS (callV' allP (consL (lstOf (compF (itemsOf (getV 0)) (setN 0) none (callV' s_is_whole (consL (getV 0) nilL)) 1 [])) nilL)))
  nextS))
noncomputable def s_is_row : List PV → M PV := lenG 2 (runD 2 g_is_row)
theorem sc_is_row : FnScope ["thing", "length"] ["thing", "length"] (defScope (top 10)) := ⟨rfl, rfl, rfl, by decide +kernel, rfl, by decide +kernel, by decide +kernel⟩
theorem nd_is_row_0 : ((["number"] : List Str) ++ ([] : List Str)).Nodup := by decide +kernel
theorem ok_is_row {f : Addr} {fd : FuncData} {dv : Value} (F : FunD K "is_row" "is_row" (top 10) dv f fd) (T : Txt K mg) (o_is_whole : OkF P w K mg base 1 "is_whole" 1 (runD 1 g_is_whole)) : FnOk P w K mg base (CXV P w) 2 f fd ["thing", "length"] (spV 2 s_is_row) :=
  F.okV sc_is_row fun cdv A outer s H E hr O =>
  by
 refine (pSs_cons ?_   (pSs_cons ?_   pSs_nil))
 refine (pS_if ?_ ?_ ?_)
 refine (pW_or ?_ (pW_or1 ?_)).pt
 refine (pT_not ?_)
 refine (pT_val ?_)
 refine (pv_isTT (Ts := ["list", "tuple"]) (by rfl) T.z_isinstance (pe_tup (pa_cons (pe_bltn (v := .ty "list") (by rfl) T.z_list bt_list rfl) (pa_cons (pe_bltn (v := .ty "tuple") (by rfl) T.z_tuple bt_tuple rfl) pa_nil))) (fun σ H R h => ⟨by show 2 ≤ sizeLine; decide, h⟩) (by decide) noA_ ?_)
 exact (vr 0)
 refine (pT_cmp (op_neD hr.units) ov_ne ?_ ?_ (nomark _))
 refine (pv_callB call_lenV cv_len (by rfl) T.z_len PySem.boot_len ?_)
 refine (pL_cons ?_ pL_nil (starE rfl))
 exact (vr 0)
 exact (vr 1)
 refine (pSs_cons ?_   pSs_nil)
 refine (pS_ret ?_)
 exact pv_bl
 exact pSs_nil
 refine (pS_ret ?_)
 refine (pv_callB (call_allB rfl) cv_all (by rfl) T.z_all bt_all ?_)
 refine (pL_cons ?_ pL_nil (starE rfl))
 refine (pv_ofO (pO_compN (g := (gName 0)) (ts := ["number"]) (fs := []) (js := []) (cl := []) rfl rfl rfl rfl rfl rfl .nil .nil (pi_seq ?_) tiv_seq (fun C s₀ H₀ ex pins => (pg_name (i := 0) nd_is_row_0 rfl (by first|exact .inl rfl|exact .inr rfl) (.inr rfl))) (fun _ => tg_name) setok_name (fun C s₀ H₀ ex pins => ?_)))
 exact (vr 0)
 refine (o_is_whole.call hr (by omega) (by rfl) outsC ?_)
 refine (pL_cons ?_ pL_nil (starE rfl))
 exact (vr 0)
noncomputable def g_common : PEnv → M Out :=
  (seqS (setS 2 (tupV (consL (getV 0) (consL (fun _ => M.ok (.int 1)) (consL (fun _ => M.ok (.int 0)) nilL)))))
  (seqS (setS 3 (tupV (consL (getV 1) (consL (fun _ => M.ok (.int 0)) (consL (fun _ => M.ok (.int 1)) nilL)))))
  (seqS (whileW (tst (bin2 neP (bin2 idxP (getV 3) (fun _ => M.ok (.int 0))) (fun _ => M.ok (.int 0)))) (seqS (setS 4 (bin2 fdivP (bin2 idxP (getV 2) (fun _ => M.ok (.int 0))) (bin2 idxP (getV 3) (fun _ => M.ok (.int 0)))))
  (seqS (setS 5 (tupV (consL (bin2 subP (bin2 idxP (getV 2) (fun _ => M.ok (.int 0))) (bin2 mulP (getV 4) (bin2 idxP (getV 3) (fun _ => M.ok (.int 0))))) (consL (bin2 subP (bin2 idxP (getV 2) (fun _ => M.ok (.int 1))) (bin2 mulP (getV 4) (bin2 idxP (getV 3) (fun _ => M.ok (.int 1))))) (consL (bin2 subP (bin2 idxP (getV 2) (fun _ => M.ok (.int 2))) (bin2 mulP (getV 4) (bin2 idxP (getV 3) (fun _ => M.ok (.int 2))))) nilL)))))
  (seqS (setS 2 (getV 3))
  (seqS (setS 3 (getV 5))
  nextS)))))
  (seqS (ifS (tst (bin2 ltP (bin2 idxP (getV 2) (fun _ => M.ok (.int 0))) (fun _ => M.ok (.int 0)))) (seqS (retS (tupV (consL (negV (bin2 idxP (getV 2) (fun _ => M.ok (.int 0)))) (consL (negV (bin2 idxP (getV 2) (fun _ => M.ok (.int 1)))) (consL (negV (bin2 idxP (getV 2) (fun _ => M.ok (.int 2)))) nilL)))))
  nextS) nextS)
  (seqS (retS (getV 2))
  nextS)))))
noncomputable def s_common : List PV → M PV := lenG 2 (runD 6 g_common)
theorem sc_common : FnScope ["one", "other", "row", "behind", "times", "rest"] ["one", "other"] (defScope (top 11)) := ⟨rfl, rfl, rfl, by decide +kernel, rfl, by decide +kernel, by decide +kernel⟩
theorem ok_common {f : Addr} {fd : FuncData} {dv : Value} (F : FunD K "common" "common" (top 11) dv f fd) (T : Txt K mg)  : FnOk P w K mg base (CXV P w) 1 f fd ["one", "other"] (spV 2 s_common) :=
  F.okV sc_common fun cdv A outer s H E hr O =>
  by
 refine (pSs_cons ?_   (pSs_cons ?_   (pSs_cons ?_   (pSs_cons ?_   (pSs_cons ?_   pSs_nil)))))
 refine (pS_set (i := 2) sc_common.nd rfl (by first|exact .inl rfl|exact .inr rfl) ?_)
 refine (pv_tup ?_)
 refine (pL_cons ?_ (pL_cons ?_ (pL_cons ?_ pL_nil (starE rfl)) (starE rfl)) (starE rfl))
 exact (vr 0)
 exact pv_int
 exact pv_int
 refine (pS_set (i := 3) sc_common.nd rfl (by first|exact .inl rfl|exact .inr rfl) ?_)
 refine (pv_tup ?_)
 refine (pL_cons ?_ (pL_cons ?_ (pL_cons ?_ pL_nil (starE rfl)) (starE rfl)) (starE rfl))
 exact (vr 1)
 exact pv_int
 exact pv_int
 refine (pS_while O ?_ ?_)
 refine (pT_cmp (op_neD hr.units) ov_ne ?_ ?_ (nomark _))
 refine (pv_idx ?_ ?_ ?_)
 exact (vr 3)
 exact pv_int
 exact fun _ _ => rfl
 exact pv_int
 refine (pSs_cons ?_   (pSs_cons ?_   (pSs_cons ?_   (pSs_cons ?_   pSs_nil))))
 refine (pS_set (i := 4) sc_common.nd rfl (by first|exact .inl rfl|exact .inr rfl) ?_)
 refine (pv_bin op_fdivB ov_fdivP ?_ ?_)
 refine (pv_idx ?_ ?_ ?_)
 exact (vr 2)
 exact pv_int
 exact fun _ _ => rfl
 refine (pv_idx ?_ ?_ ?_)
 exact (vr 3)
 exact pv_int
 exact fun _ _ => rfl
 refine (pS_set (i := 5) sc_common.nd rfl (by first|exact .inl rfl|exact .inr rfl) ?_)
 refine (pv_tup ?_)
 refine (pL_cons ?_ (pL_cons ?_ (pL_cons ?_ pL_nil (starE rfl)) (starE rfl)) (starE rfl))
 refine (pv_bin op_sub ov_sub ?_ ?_)
 refine (pv_idx ?_ ?_ ?_)
 exact (vr 2)
 exact pv_int
 exact fun _ _ => rfl
 refine (pv_bin op_mulV ov_mul ?_ ?_)
 exact (vr 4)
 refine (pv_idx ?_ ?_ ?_)
 exact (vr 3)
 exact pv_int
 exact fun _ _ => rfl
 refine (pv_bin op_sub ov_sub ?_ ?_)
 refine (pv_idx ?_ ?_ ?_)
 exact (vr 2)
 exact pv_int
 exact fun _ _ => rfl
 refine (pv_bin op_mulV ov_mul ?_ ?_)
 exact (vr 4)
 refine (pv_idx ?_ ?_ ?_)
 exact (vr 3)
 exact pv_int
 exact fun _ _ => rfl
 refine (pv_bin op_sub ov_sub ?_ ?_)
 refine (pv_idx ?_ ?_ ?_)
 exact (vr 2)
 exact pv_int
 exact fun _ _ => rfl
 refine (pv_bin op_mulV ov_mul ?_ ?_)
 exact (vr 4)
 refine (pv_idx ?_ ?_ ?_)
 exact (vr 3)
 exact pv_int
 exact fun _ _ => rfl
 refine (pS_set (i := 2) sc_common.nd rfl (by first|exact .inl rfl|exact .inr rfl) ?_)
 exact (vr 3)
 refine (pS_set (i := 3) sc_common.nd rfl (by first|exact .inl rfl|exact .inr rfl) ?_)
 exact (vr 5)
 refine (pS_if ?_ ?_ ?_)
 refine (pT_cmp op_lt ov_ltP ?_ ?_ (nomark _))
 refine (pv_idx ?_ ?_ ?_)
 exact (vr 2)
 exact pv_int
 exact fun _ _ => rfl
 exact pv_int
 refine (pSs_cons ?_   pSs_nil)
 refine (pS_ret ?_)
 refine (pv_tup ?_)
 refine (pL_cons ?_ (pL_cons ?_ (pL_cons ?_ pL_nil (starE rfl)) (starE rfl)) (starE rfl))
 refine (pv_neg ?_)
 refine (pv_idx ?_ ?_ ?_)
 exact (vr 2)
 exact pv_int
 exact fun _ _ => rfl
 refine (pv_neg ?_)
 refine (pv_idx ?_ ?_ ?_)
 exact (vr 2)
 exact pv_int
 exact fun _ _ => rfl
 refine (pv_neg ?_)
 refine (pv_idx ?_ ?_ ?_)
 exact (vr 2)
 exact pv_int
 exact fun _ _ => rfl
 exact pSs_nil
 refine (pS_ret ?_)
 exact (vr 2)
noncomputable def g_multiple_of : PEnv → M Out :=
  (seqS (setS 1 (fun _ => M.ok (.int 1)))
  (seqS (forS (itemsOf (getV 0)) (setN 2) (seqS (setS 1 (bin2 mulP (bin2 fdivP (getV 1) (bin2 idxP (callV' s_common (consL (getV 1) (consL (getV 2) nilL))) (fun _ => M.ok (.int 0)))) (getV 2)))
  nextS))
  (seqS (retS (getV 1))
  nextS)))
noncomputable def s_multiple_of : List PV → M PV := lenG 1 (runD 3 g_multiple_of)
theorem sc_multiple_of : FnScope ["numbers", "multiple", "number"] ["numbers"] (defScope (top 12)) := ⟨rfl, rfl, rfl, by decide +kernel, rfl, by decide +kernel, by decide +kernel⟩
theorem ok_multiple_of {f : Addr} {fd : FuncData} {dv : Value} (F : FunD K "multiple_of" "multiple_of" (top 12) dv f fd) (T : Txt K mg) (o_common : OkF P w K mg base 1 "common" 2 (runD 6 g_common)) : FnOk P w K mg base (CXV P w) 2 f fd ["numbers"] (spV 1 s_multiple_of) :=
  F.okV sc_multiple_of fun cdv A outer s H E hr O =>
  by
 refine (pSs_cons ?_   (pSs_cons ?_   (pSs_cons ?_   pSs_nil)))
 refine (pS_set (i := 1) sc_multiple_of.nd rfl (by first|exact .inl rfl|exact .inr rfl) ?_)
 exact pv_int
 refine (pS_forI (g := (gName 2)) O rfl (pi_seq ?_) tiv_seq (pg_name (i := 2) sc_multiple_of.nd rfl (by first|exact .inl rfl|exact .inr rfl)) tg_name ?_)
 exact (vr 0)
 refine (pSs_cons ?_   pSs_nil)
 refine (pS_set (i := 1) sc_multiple_of.nd rfl (by first|exact .inl rfl|exact .inr rfl) ?_)
 refine (pv_bin op_mulV ov_mul ?_ ?_)
 refine (pv_bin op_fdivB ov_fdivP ?_ ?_)
 exact (vr 1)
 refine (pv_idx ?_ ?_ ?_)
 refine (o_common.call hr (by omega) (by rfl) O ?_)
 refine (pL_cons ?_ (pL_cons ?_ pL_nil (starE rfl)) (starE rfl))
 exact (vr 1)
 exact (vr 2)
 exact pv_int
 exact fun _ _ => rfl
 exact (vr 2)
 refine (pS_ret ?_)
 exact (vr 1)
noncomputable def g_rest_sum : PEnv → M Out :=
  (seqS (retS (bin2 modP (callV' sumP (consL (lstOf (compF (itL zip2 (consL (getV 0) (consL (getV 1) nilL))) (setT2 0 1) none (bin2 mulP (getV 0) (getV 1)) 2 [])) nilL)) (getV 2)))
  nextS)
noncomputable def s_rest_sum : List PV → M PV := lenG 3 (runD 3 g_rest_sum)
theorem sc_rest_sum : FnScope ["numbers", "others", "by"] ["numbers", "others", "by"] (defScope (top 13)) := ⟨rfl, rfl, rfl, by decide +kernel, rfl, by decide +kernel, by decide +kernel⟩
theorem nd_rest_sum_0 : ((["number", "other"] : List Str) ++ ([] : List Str)).Nodup := by decide +kernel
theorem ok_rest_sum {f : Addr} {fd : FuncData} {dv : Value} (F : FunD K "rest_sum" "rest_sum" (top 13) dv f fd) (T : Txt K mg)  : FnOk P w K mg base (CXV P w) 1 f fd ["numbers", "others", "by"] (spV 3 s_rest_sum) :=
  F.okV sc_rest_sum fun cdv A outer s H E hr O =>
  by
 refine (pSs_cons ?_   pSs_nil)
 refine (pS_ret ?_)
 refine (pv_bin op_modN ov_modP ?_ ?_)
 refine (pv_callB (call_sumL rfl) cv_sum (by rfl) T.z_sum bt_sum ?_)
 refine (pL_cons ?_ pL_nil (starE rfl))
 refine (pv_ofO (pO_compN (g := (gTup K 2 (gCons (gName 0) (gCons (gName 1) gNil)))) (ts := ["number", "other"]) (fs := []) (js := []) (cl := []) rfl rfl rfl rfl rfl rfl .nil .nil (pi_zip (by rfl) T.z_zip ?_) tiv_zip (fun C s₀ H₀ ex pins => (pg_tup (n := 2) rfl (pgs_cons (pg_name (i := 0) nd_rest_sum_0 rfl (by first|exact .inl rfl|exact .inr rfl) (.inr rfl)) (pgs_cons (pg_name (i := 1) nd_rest_sum_0 rfl (by first|exact .inl rfl|exact .inr rfl) (.inr rfl)) pgs_nil)))) (fun _ => tg_tup2) setok_tup2 (fun C s₀ H₀ ex pins => ?_)))
 refine (pL_cons ?_ (pL_cons ?_ pL_nil (starE rfl)) (starE rfl))
 exact (vr 0)
 exact (vr 1)
 refine (pv_bin op_mulV ov_mul ?_ ?_)
 exact (vr 0)
 exact (vr 1)
 exact (vr 2)
noncomputable def g_is_within : PEnv → M Out :=
  (seqS (retS (andV (callV' s_is_whole (consL (getV 0) nilL)) (chainV leP leP (getV 1) (getV 0) (getV 2))))
  nextS)
noncomputable def s_is_within : List PV → M PV := lenG 3 (runD 3 g_is_within)
theorem sc_is_within : FnScope ["thing", "least", "most"] ["thing", "least", "most"] (defScope (top 22)) := ⟨rfl, rfl, rfl, by decide +kernel, rfl, by decide +kernel, by decide +kernel⟩
theorem ok_is_within {f : Addr} {fd : FuncData} {dv : Value} (F : FunD K "is_within" "is_within" (top 22) dv f fd) (T : Txt K mg) (o_is_whole : OkF P w K mg base 1 "is_whole" 1 (runD 1 g_is_whole)) : FnOk P w K mg base (CXV P w) 2 f fd ["thing", "least", "most"] (spV 3 s_is_within) :=
  F.okV sc_is_within fun cdv A outer s H E hr O =>
  by
 refine (pSs_cons ?_   pSs_nil)
 refine (pS_ret ?_)
 refine (pv_and ?_ (pe_one ?_))
 refine (o_is_whole.call hr (by omega) (by rfl) O ?_)
 refine (pL_cons ?_ pL_nil (starE rfl))
 exact (vr 0)
 refine (pv_chain op_le ov_leP op_le ov_leP ?_ ?_ ?_)
 exact (vr 1)
 exact (vr 0)
 exact (vr 2)
noncomputable def g_need_sizes : PEnv → M Out :=
  (seqS (ifS (tst (bin2 gtP (callV' lenP (consL (getV 0) nilL)) (fun _ => M.ok (.int 6)))) (seqS (raise0 C_TooMany (consL (fun _ => M.ok (.str "a vault has at most six dials")) nilL))
  nextS) nextS)
  (seqS (ifS (tst (bin2 eqP (callV' lenP (consL (getV 0) nilL)) (fun _ => M.ok (.int 0)))) (seqS (raise1 C_NoDial "dial" (consL (fun _ => M.ok (.int 0)) nilL))
  nextS) nextS)
  (seqS (forS (itL enumP (consL (getV 0) nilL)) (setT2 1 2) (seqS (ifS (notB (tst (callV' s_is_within (consL (getV 2) (consL (fun _ => M.ok (.int 2)) (consL (fun _ => M.ok (.int 360)) nilL)))))) (seqS (raise1 C_NoDial "dial" (consL (getV 1) nilL))
  nextS) nextS)
  nextS))
  nextS)))
noncomputable def s_need_sizes : List PV → M PV := lenG 1 (runD 3 g_need_sizes)
theorem sc_need_sizes : FnScope ["sizes", "dial", "size"] ["sizes"] (defScope (top 23)) := ⟨rfl, rfl, rfl, by decide +kernel, rfl, by decide +kernel, by decide +kernel⟩
theorem ok_need_sizes {f : Addr} {fd : FuncData} {dv : Value} (F : FunD K "need_sizes" "need_sizes" (top 23) dv f fd) (T : Txt K mg) (x_NoDial : OkE1 P w K mg base C_NoDial "NoDial" "dial") (o_is_within : OkF P w K mg base 2 "is_within" 3 (runD 3 g_is_within)) : FnOk P w K mg base (CXV P w) 3 f fd ["sizes"] (spV 1 s_need_sizes) :=
  F.okV sc_need_sizes fun cdv A outer s H E hr O =>
  by
 refine (pSs_cons ?_   (pSs_cons ?_   (pSs_cons ?_   pSs_nil)))
 refine (pS_if ?_ ?_ ?_)
 refine (pT_cmp op_gt ov_gtP ?_ ?_ (nomark _))
 refine (pv_callB call_lenV cv_len (by rfl) T.z_len PySem.boot_len ?_)
 refine (pL_cons ?_ pL_nil (starE rfl))
 exact (vr 0)
 exact (pv_flat (pe_gi (by rfl) T.g_MOST_DIALS) fun _ => .int _)
 refine (pSs_cons ?_   pSs_nil)
 refine (T.e_TooMany.raise O rfl (by rfl) ?_)
 refine (pL_cons ?_ pL_nil (starE rfl))
 exact pv_str
 exact pSs_nil
 refine (pS_if ?_ ?_ ?_)
 refine (pT_cmp (op_eqD hr.units) ov_eq ?_ ?_ (nomark _))
 refine (pv_callB call_lenV cv_len (by rfl) T.z_len PySem.boot_len ?_)
 refine (pL_cons ?_ pL_nil (starE rfl))
 exact (vr 0)
 exact pv_int
 refine (pSs_cons ?_   pSs_nil)
 refine (x_NoDial.raise hr (by omega) O rfl (by rfl) ?_)
 refine (pL_cons ?_ pL_nil (starE rfl))
 exact pv_int
 exact pSs_nil
 refine (pS_forI (g := (gTup K 2 (gCons (gName 1) (gCons (gName 2) gNil)))) O rfl (pi_enum (by rfl) T.z_enumerate ?_) tiv_enum (pg_tup (n := 2) rfl (pgs_cons (pg_name (i := 1) sc_need_sizes.nd rfl (by first|exact .inl rfl|exact .inr rfl)) (pgs_cons (pg_name (i := 2) sc_need_sizes.nd rfl (by first|exact .inl rfl|exact .inr rfl)) pgs_nil))) tg_tup2 ?_)
 refine (pL_cons ?_ pL_nil (starE rfl))
 exact (vr 0)
 refine (pSs_cons ?_   pSs_nil)
 refine (pS_if ?_ ?_ ?_)
 refine (pT_not ?_)
 refine (pT_val ?_)
 refine (o_is_within.call hr (by omega) (by rfl) O ?_)
 refine (pL_cons ?_ (pL_cons ?_ (pL_cons ?_ pL_nil (starE rfl)) (starE rfl)) (starE rfl))
 exact (vr 2)
 exact (pv_flat (pe_gi (by rfl) T.g_LEAST_SIZE) fun _ => .int _)
 exact (pv_flat (pe_gi (by rfl) T.g_MOST_SIZE) fun _ => .int _)
 refine (pSs_cons ?_   pSs_nil)
 refine (x_NoDial.raise hr (by omega) O rfl (by rfl) ?_)
 refine (pL_cons ?_ pL_nil (starE rfl))
 exact (vr 1)
 exact pSs_nil
noncomputable def g_need_levers : PEnv → M Out :=
  (seqS (ifS (tst (bin2 gtP (callV' lenP (consL (getV 0) nilL)) (fun _ => M.ok (.int 8)))) (seqS (raise0 C_TooMany (consL (fun _ => M.ok (.str "a vault has at most eight levers")) nilL))
  nextS) nextS)
  (seqS (forS (itL enumP (consL (getV 0) nilL)) (setT2 2 3) (seqS (ifS (notB (tst (callV' s_is_row (consL (getV 3) (consL (getV 1) nilL))))) (seqS (raise1 C_NoLever "lever" (consL (getV 2) nilL))
  nextS) nextS)
  nextS))
  nextS))
noncomputable def s_need_levers : List PV → M PV := lenG 2 (runD 4 g_need_levers)
theorem sc_need_levers : FnScope ["levers", "dials", "place", "lever"] ["levers", "dials"] (defScope (top 24)) := ⟨rfl, rfl, rfl, by decide +kernel, rfl, by decide +kernel, by decide +kernel⟩
theorem ok_need_levers {f : Addr} {fd : FuncData} {dv : Value} (F : FunD K "need_levers" "need_levers" (top 24) dv f fd) (T : Txt K mg) (o_is_row : OkF P w K mg base 2 "is_row" 2 (runD 2 g_is_row)) (x_NoLever : OkE1 P w K mg base C_NoLever "NoLever" "lever") : FnOk P w K mg base (CXV P w) 3 f fd ["levers", "dials"] (spV 2 s_need_levers) :=
  F.okV sc_need_levers fun cdv A outer s H E hr O =>
  by
 refine (pSs_cons ?_   (pSs_cons ?_   pSs_nil))
 refine (pS_if ?_ ?_ ?_)
 refine (pT_cmp op_gt ov_gtP ?_ ?_ (nomark _))
 refine (pv_callB call_lenV cv_len (by rfl) T.z_len PySem.boot_len ?_)
 refine (pL_cons ?_ pL_nil (starE rfl))
 exact (vr 0)
 exact (pv_flat (pe_gi (by rfl) T.g_MOST_LEVERS) fun _ => .int _)
 refine (pSs_cons ?_   pSs_nil)
 refine (T.e_TooMany.raise O rfl (by rfl) ?_)
 refine (pL_cons ?_ pL_nil (starE rfl))
 exact pv_str
 exact pSs_nil
 refine (pS_forI (g := (gTup K 2 (gCons (gName 2) (gCons (gName 3) gNil)))) O rfl (pi_enum (by rfl) T.z_enumerate ?_) tiv_enum (pg_tup (n := 2) rfl (pgs_cons (pg_name (i := 2) sc_need_levers.nd rfl (by first|exact .inl rfl|exact .inr rfl)) (pgs_cons (pg_name (i := 3) sc_need_levers.nd rfl (by first|exact .inl rfl|exact .inr rfl)) pgs_nil))) tg_tup2 ?_)
 refine (pL_cons ?_ pL_nil (starE rfl))
 exact (vr 0)
 refine (pSs_cons ?_   pSs_nil)
 refine (pS_if ?_ ?_ ?_)
 refine (pT_not ?_)
 refine (pT_val ?_)
 refine (o_is_row.call hr (by omega) (by rfl) O ?_)
 refine (pL_cons ?_ (pL_cons ?_ pL_nil (starE rfl)) (starE rfl))
 exact (vr 3)
 exact (vr 1)
 refine (pSs_cons ?_   pSs_nil)
 refine (x_NoLever.raise hr (by omega) O rfl (by rfl) ?_)
 refine (pL_cons ?_ pL_nil (starE rfl))
 exact (vr 2)
 exact pSs_nil
noncomputable def g_prices_for : PEnv → M Out :=
  (seqS (ifS (tst (bin2 isNP (getV 1) (fun _ => M.ok .non))) (seqS (retS (bin2 mulP (tupV (consL (fun _ => M.ok (.int 1)) nilL)) (callV' lenP (consL (getV 0) nilL))))
  nextS) nextS)
  (seqS (forS (itL rng1 (consL (callV' (int2P fun i j => if j > i then j else i) (consL (callV' lenP (consL (getV 0) nilL)) (consL (callV' lenP (consL (getV 1) nilL)) nilL))) nilL)) (setN 2) (seqS (ifS (orB (tst (bin2 geP (getV 2) (callV' lenP (consL (getV 0) nilL)))) (tst (bin2 geP (getV 2) (callV' lenP (consL (getV 1) nilL))))) (seqS (raise1 C_NoPrice "lever" (consL (getV 2) nilL))
  nextS) nextS)
  (seqS (ifS (notB (tst (callV' s_is_within (consL (bin2 idxP (getV 1) (getV 2)) (consL (fun _ => M.ok (.int 1)) (consL (fun _ => M.ok (.int 1000)) nilL)))))) (seqS (raise1 C_NoPrice "lever" (consL (getV 2) nilL))
  nextS) nextS)
  nextS)))
  (seqS (retS (callV' tupleP (consL (getV 1) nilL)))
  nextS)))
noncomputable def s_prices_for : List PV → M PV := lenG 2 (runD 3 g_prices_for)
theorem sc_prices_for : FnScope ["levers", "prices", "place"] ["levers", "prices"] (defScope (top 25)) := ⟨rfl, rfl, rfl, by decide +kernel, rfl, by decide +kernel, by decide +kernel⟩
theorem ok_prices_for {f : Addr} {fd : FuncData} {dv : Value} (F : FunD K "prices_for" "prices_for" (top 25) dv f fd) (T : Txt K mg) (x_NoPrice : OkE1 P w K mg base C_NoPrice "NoPrice" "lever") (o_is_within : OkF P w K mg base 2 "is_within" 3 (runD 3 g_is_within)) : FnOk P w K mg base (CXV P w) 3 f fd ["levers", "prices"] (spV 2 s_prices_for) :=
  F.okV sc_prices_for fun cdv A outer s H E hr O =>
  by
 refine (pSs_cons ?_   (pSs_cons ?_   (pSs_cons ?_   pSs_nil)))
 refine (pS_if ?_ ?_ ?_)
 refine (pT_cmp op_isN ov_isN ?_ ?_ (nomark _))
 exact (vr 1)
 exact pv_non
 refine (pSs_cons ?_   pSs_nil)
 refine (pS_ret ?_)
 refine (pv_bin op_mulV ov_mul ?_ ?_)
 refine (pv_tup ?_)
 refine (pL_cons ?_ pL_nil (starE rfl))
 exact (pv_flat (pe_gi (by rfl) T.g_LEAST_PRICE) fun _ => .int _)
 refine (pv_callB call_lenV cv_len (by rfl) T.z_len PySem.boot_len ?_)
 refine (pL_cons ?_ pL_nil (starE rfl))
 exact (vr 0)
 exact pSs_nil
 refine (pS_forI (g := (gName 2)) O rfl (pi_range1 (by rfl) T.z_range ?_) tiv_rng1 (pg_name (i := 2) sc_prices_for.nd rfl (by first|exact .inl rfl|exact .inr rfl)) tg_name ?_)
 refine (pL_cons ?_ pL_nil (starE rfl))
 refine (pv_callB (call_max2 rfl) cv_int2 (by rfl) T.z_max bt_max ?_)
 refine (pL_cons ?_ (pL_cons ?_ pL_nil (starE rfl)) (starE rfl))
 refine (pv_callB call_lenV cv_len (by rfl) T.z_len PySem.boot_len ?_)
 refine (pL_cons ?_ pL_nil (starE rfl))
 exact (vr 0)
 refine (pv_callB call_lenV cv_len (by rfl) T.z_len PySem.boot_len ?_)
 refine (pL_cons ?_ pL_nil (starE rfl))
 exact (vr 1)
 refine (pSs_cons ?_   (pSs_cons ?_   pSs_nil))
 refine (pS_if ?_ ?_ ?_)
 refine (pW_or ?_ (pW_or1 ?_)).pt
 refine (pT_cmp op_ge ov_geP ?_ ?_ (nomark _))
 exact (vr 2)
 refine (pv_callB call_lenV cv_len (by rfl) T.z_len PySem.boot_len ?_)
 refine (pL_cons ?_ pL_nil (starE rfl))
 exact (vr 0)
 refine (pT_cmp op_ge ov_geP ?_ ?_ (nomark _))
 exact (vr 2)
 refine (pv_callB call_lenV cv_len (by rfl) T.z_len PySem.boot_len ?_)
 refine (pL_cons ?_ pL_nil (starE rfl))
 exact (vr 1)
 refine (pSs_cons ?_   pSs_nil)
 refine (x_NoPrice.raise hr (by omega) O rfl (by rfl) ?_)
 refine (pL_cons ?_ pL_nil (starE rfl))
 exact (vr 2)
 exact pSs_nil
 refine (pS_if ?_ ?_ ?_)
 refine (pT_not ?_)
 refine (pT_val ?_)
 refine (o_is_within.call hr (by omega) (by rfl) O ?_)
 refine (pL_cons ?_ (pL_cons ?_ (pL_cons ?_ pL_nil (starE rfl)) (starE rfl)) (starE rfl))
 refine (pv_idx ?_ ?_ ?_)
 exact (vr 1)
 exact (vr 2)
 exact fun _ _ => rfl
 exact (pv_flat (pe_gi (by rfl) T.g_LEAST_PRICE) fun _ => .int _)
 exact (pv_flat (pe_gi (by rfl) T.g_MOST_PRICE) fun _ => .int _)
 refine (pSs_cons ?_   pSs_nil)
 refine (x_NoPrice.raise hr (by omega) O rfl (by rfl) ?_)
 refine (pL_cons ?_ pL_nil (starE rfl))
 exact (vr 2)
 exact pSs_nil
 refine (pS_ret ?_)
 refine (pv_callTy call_tuple_of cv_tuple (by rfl) T.z_tuple bt_tuple ?_)
 refine (pL_cons ?_ pL_nil (starE rfl))
 exact (vr 1)
noncomputable def g_rests : PEnv → M Out :=
  (seqS (retS (callV' tupleP (consL (lstOf (compF (itL zip2 (consL (getV 0) (consL (getV 1) nilL))) (setT2 0 1) none (bin2 modP (getV 0) (getV 1)) 2 [])) nilL)))
  nextS)
noncomputable def s_rests : List PV → M PV := lenG 2 (runD 2 g_rests)
theorem sc_rests : FnScope ["numbers", "sizes"] ["numbers", "sizes"] (defScope (top 26)) := ⟨rfl, rfl, rfl, by decide +kernel, rfl, by decide +kernel, by decide +kernel⟩
theorem nd_rests_0 : ((["number", "size"] : List Str) ++ ([] : List Str)).Nodup := by decide +kernel
theorem ok_rests {f : Addr} {fd : FuncData} {dv : Value} (F : FunD K "rests" "rests" (top 26) dv f fd) (T : Txt K mg)  : FnOk P w K mg base (CXV P w) 1 f fd ["numbers", "sizes"] (spV 2 s_rests) :=
  F.okV sc_rests fun cdv A outer s H E hr O =>
  by
 refine (pSs_cons ?_   pSs_nil)
 refine (pS_ret ?_)
 refine (pv_callTy call_tuple_of cv_tuple (by rfl) T.z_tuple bt_tuple ?_)
 refine (pL_cons ?_ pL_nil (starE rfl))
 refine (pv_ofO (pO_compN (g := (gTup K 2 (gCons (gName 0) (gCons (gName 1) gNil)))) (ts := ["number", "size"]) (fs := []) (js := []) (cl := []) rfl rfl rfl rfl rfl rfl .nil .nil (pi_zip (by rfl) T.z_zip ?_) tiv_zip (fun C s₀ H₀ ex pins => (pg_tup (n := 2) rfl (pgs_cons (pg_name (i := 0) nd_rests_0 rfl (by first|exact .inl rfl|exact .inr rfl) (.inr rfl)) (pgs_cons (pg_name (i := 1) nd_rests_0 rfl (by first|exact .inl rfl|exact .inr rfl) (.inr rfl)) pgs_nil)))) (fun _ => tg_tup2) setok_tup2 (fun C s₀ H₀ ex pins => ?_)))
 refine (pL_cons ?_ (pL_cons ?_ pL_nil (starE rfl)) (starE rfl))
 exact (vr 0)
 exact (vr 1)
 refine (pv_bin op_modN ov_modP ?_ ?_)
 exact (vr 0)
 exact (vr 1)
noncomputable def g__law_cell : PEnv → M Out :=
  (seqS (ifS (tst (bin2 ltP (getV 1) (callV' lenP (consL (getV 0) nilL)))) (seqS (retS (bin2 idxP (getV 0) (getV 1)))
  nextS) nextS)
  (seqS (retS (bin2 modP (bin2 mulP (bin2 addP (getV 1) (fun _ => M.ok (.int 2))) (fun _ => M.ok (.int 104729))) (fun _ => M.ok (.int 65537))))
  nextS))
noncomputable def s__law_cell : List PV → M PV := lenG 2 (runD 2 g__law_cell)
theorem sc__law_cell : FnScope ["_law_script", "_law_k"] ["_law_script", "_law_k"] (defScope (top 35)) := ⟨rfl, rfl, rfl, by decide +kernel, rfl, by decide +kernel, by decide +kernel⟩
theorem ok__law_cell {f : Addr} {fd : FuncData} {dv : Value} (F : FunD K "_law_cell" "_law_cell" (top 35) dv f fd) (T : Txt K mg)  : FnOk P w K mg base (CXV P w) 1 f fd ["_law_script", "_law_k"] (spV 2 s__law_cell) :=
  F.okV sc__law_cell fun cdv A outer s H E hr O =>
  by
 refine (pSs_cons ?_   (pSs_cons ?_   pSs_nil))
 refine (pS_if ?_ ?_ ?_)
 refine (pT_cmp op_lt ov_ltP ?_ ?_ (nomark _))
 exact (vr 1)
 refine (pv_callB call_lenV cv_len (by rfl) T.z_len PySem.boot_len ?_)
 refine (pL_cons ?_ pL_nil (starE rfl))
 exact (vr 0)
 refine (pSs_cons ?_   pSs_nil)
 refine (pS_ret ?_)
 refine (pv_idx ?_ ?_ ?_)
 exact (vr 0)
 exact (vr 1)
 exact fun _ _ => rfl
 exact pSs_nil
 refine (pS_ret ?_)
 refine (pv_bin op_modN ov_modP ?_ ?_)
 refine (pv_bin op_mulV ov_mul ?_ ?_)
 refine (pv_bin op_addV ov_add ?_ ?_)
 exact (vr 1)
 exact pv_int
 exact pv_int
 exact pv_int
noncomputable def g__law_mix : PEnv → M Out :=
  (seqS (setS 2 (bin2 modP (bin2 addP (bin2 addP (bin2 mulP (bin2 modP (getV 0) (fun _ => M.ok (.int 2147483647))) (fun _ => M.ok (.int 48271))) (bin2 mulP (fun _ => M.ok (.int 7919)) (getV 1))) (fun _ => M.ok (.int 13))) (fun _ => M.ok (.int 2147483629))))
  (seqS (setS 2 (bin2 modP (bin2 addP (bin2 addP (bin2 mulP (getV 2) (getV 2)) (bin2 mulP (fun _ => M.ok (.int 104729)) (getV 1))) (fun _ => M.ok (.int 7))) (fun _ => M.ok (.int 2147483587))))
  (seqS (retS (bin2 modP (bin2 mulP (getV 2) (getV 2)) (fun _ => M.ok (.int 2147483579))))
  nextS)))
noncomputable def s__law_mix : List PV → M PV := lenG 2 (runD 3 g__law_mix)
theorem sc__law_mix : FnScope ["_law_cell_here", "_law_k", "_law_number"] ["_law_cell_here", "_law_k"] (defScope (top 36)) := ⟨rfl, rfl, rfl, by decide +kernel, rfl, by decide +kernel, by decide +kernel⟩
theorem ok__law_mix {f : Addr} {fd : FuncData} {dv : Value} (F : FunD K "_law_mix" "_law_mix" (top 36) dv f fd) (T : Txt K mg)  : FnOk P w K mg base (CXV P w) 1 f fd ["_law_cell_here", "_law_k"] (spV 2 s__law_mix) :=
  F.okV sc__law_mix fun cdv A outer s H E hr O =>
  by
 refine (pSs_cons ?_   (pSs_cons ?_   (pSs_cons ?_   pSs_nil)))
 refine (pS_set (i := 2) sc__law_mix.nd rfl (by first|exact .inl rfl|exact .inr rfl) ?_)
 refine (pv_bin op_modN ov_modP ?_ ?_)
 refine (pv_bin op_addV ov_add ?_ ?_)
 refine (pv_bin op_addV ov_add ?_ ?_)
 refine (pv_bin op_mulV ov_mul ?_ ?_)
 refine (pv_bin op_modN ov_modP ?_ ?_)
 exact (vr 0)
 exact pv_int
 exact pv_int
 refine (pv_bin op_mulV ov_mul ?_ ?_)
 exact pv_int
 exact (vr 1)
 exact pv_int
 exact pv_int
 refine (pS_set (i := 2) sc__law_mix.nd rfl (by first|exact .inl rfl|exact .inr rfl) ?_)
 refine (pv_bin op_modN ov_modP ?_ ?_)
 refine (pv_bin op_addV ov_add ?_ ?_)
 refine (pv_bin op_addV ov_add ?_ ?_)
 refine (pv_bin op_mulV ov_mul ?_ ?_)
 exact (vr 2)
 exact (vr 2)
 refine (pv_bin op_mulV ov_mul ?_ ?_)
 exact pv_int
 exact (vr 1)
 exact pv_int
 exact pv_int
 refine (pS_ret ?_)
 refine (pv_bin op_modN ov_modP ?_ ?_)
 refine (pv_bin op_mulV ov_mul ?_ ?_)
 exact (vr 2)
 exact (vr 2)
 exact pv_int
noncomputable def g__law_sizes : PEnv → M Out :=
  (seqS (setS 1 (bin2 addP (fun _ => M.ok (.int 1)) (bin2 modP (getV 0) (fun _ => M.ok (.int 6)))))
  (seqS (retS (lstOf (compF (itL rng1 (consL (bin2 addP (fun _ => M.ok (.int 1)) (bin2 modP (bin2 fdivP (getV 0) (fun _ => M.ok (.int 6))) (fun _ => M.ok (.int 6)))) nilL)) (setN 0) none (callV' (int2P fun i j => if j > i then j else i) (consL (fun _ => M.ok (.int 2)) (consL (bin2 mulP (getV 2) (bin2 addP (fun _ => M.ok (.int 1)) (bin2 modP (callV' s__law_mix (consL (bin2 fdivP (getV 1) (fun _ => M.ok (.int 6))) (consL (getV 0) nilL))) (fun _ => M.ok (.int 60))))) nilL))) 1 [0, 1])))
  nextS))
noncomputable def s__law_sizes : List PV → M PV := lenG 1 (runD 2 g__law_sizes)
theorem sc__law_sizes : FnScope ["_law_cell_here", "_law_share"] ["_law_cell_here"] (defScope (top 37)) := ⟨rfl, rfl, rfl, by decide +kernel, rfl, by decide +kernel, by decide +kernel⟩
theorem nd__law_sizes_0 : ((["_law_k"] : List Str) ++ (["_law_cell_here", "_law_share"] : List Str)).Nodup := by decide +kernel
theorem ok__law_sizes {f : Addr} {fd : FuncData} {dv : Value} (F : FunD K "_law_sizes" "_law_sizes" (top 37) dv f fd) (T : Txt K mg) (o__law_mix : OkF P w K mg base 1 "_law_mix" 2 (runD 3 g__law_mix)) : FnOk P w K mg base (CXV P w) 2 f fd ["_law_cell_here"] (spV 1 s__law_sizes) :=
  F.okV sc__law_sizes fun cdv A outer s H E hr O =>
  by
 refine (pSs_cons ?_   (pSs_cons ?_   pSs_nil))
 refine (pS_set (i := 1) sc__law_sizes.nd rfl (by first|exact .inl rfl|exact .inr rfl) ?_)
 refine (pv_bin op_addV ov_add ?_ ?_)
 exact pv_int
 refine (pv_bin op_modN ov_modP ?_ ?_)
 exact (vr 0)
 exact pv_int
 refine (pS_ret ?_)
 refine (pv_ofO (pO_compN (g := (gName 0)) (ts := ["_law_k"]) (fs := ["_law_cell_here", "_law_share"]) (js := [0, 1]) rfl rfl rfl rfl rfl rfl (.cons rfl (.cons rfl .nil)) (.cons rfl rfl (by first|exact .inl rfl|exact .inr rfl) rfl rfl (.cons rfl rfl (by first|exact .inl rfl|exact .inr rfl) rfl rfl .nil)) (pi_range1 (by rfl) T.z_range ?_) tiv_rng1 (fun C s₀ H₀ ex pins => (pg_name (i := 0) nd__law_sizes_0 rfl (by first|exact .inl rfl|exact .inr rfl) (.inr rfl))) (fun _ => tg_name) setok_name (fun C s₀ H₀ ex pins => ?_)))
 refine (pL_cons ?_ pL_nil (starE rfl))
 refine (pv_bin op_addV ov_add ?_ ?_)
 exact pv_int
 refine (pv_bin op_modN ov_modP ?_ ?_)
 refine (pv_bin op_fdivB ov_fdivP ?_ ?_)
 exact (vr 0)
 exact pv_int
 exact pv_int
 refine (pv_callB (call_max2 rfl) cv_int2 (by rfl) T.z_max bt_max ?_)
 refine (pL_cons ?_ (pL_cons ?_ pL_nil (starE rfl)) (starE rfl))
 exact pv_int
 refine (pv_bin op_mulV ov_mul ?_ ?_)
 exact (vr 2)
 refine (pv_bin op_addV ov_add ?_ ?_)
 exact pv_int
 refine (pv_bin op_modN ov_modP ?_ ?_)
 refine (o__law_mix.call hr (by omega) (by rfl) outsC ?_)
 refine (pL_cons ?_ (pL_cons ?_ pL_nil (starE rfl)) (starE rfl))
 refine (pv_bin op_fdivB ov_fdivP ?_ ?_)
 exact (vr 1)
 exact pv_int
 exact (vr 0)
 exact pv_int
noncomputable def g__law_round : PEnv → M Out :=
  (seqS (setS 1 (fun _ => M.ok (.int 1)))
  (seqS (forS (itemsOf (getV 0)) (setN 2) (seqS (setS 3 (getV 1))
  (seqS (setS 4 (getV 2))
  (seqS (whileW (tst (bin2 gtP (getV 4) (fun _ => M.ok (.int 0)))) (seqS (parS 3 4 (consL (getV 4) (consL (bin2 modP (getV 3) (getV 4)) nilL)))
  nextS))
  (seqS (setS 1 (bin2 mulP (bin2 fdivP (getV 1) (getV 3)) (getV 2)))
  nextS)))))
  (seqS (retS (getV 1))
  nextS)))
noncomputable def s__law_round : List PV → M PV := lenG 1 (runD 5 g__law_round)
theorem sc__law_round : FnScope ["_law_sizes_here", "_law_found", "_law_size", "_law_one", "_law_other_here"] ["_law_sizes_here"] (defScope (top 38)) := ⟨rfl, rfl, rfl, by decide +kernel, rfl, by decide +kernel, by decide +kernel⟩
theorem ok__law_round {f : Addr} {fd : FuncData} {dv : Value} (F : FunD K "_law_round" "_law_round" (top 38) dv f fd) (T : Txt K mg)  : FnOk P w K mg base (CXV P w) 1 f fd ["_law_sizes_here"] (spV 1 s__law_round) :=
  F.okV sc__law_round fun cdv A outer s H E hr O =>
  by
 refine (pSs_cons ?_   (pSs_cons ?_   (pSs_cons ?_   pSs_nil)))
 refine (pS_set (i := 1) sc__law_round.nd rfl (by first|exact .inl rfl|exact .inr rfl) ?_)
 exact pv_int
 refine (pS_forI (g := (gName 2)) O rfl (pi_seq ?_) tiv_seq (pg_name (i := 2) sc__law_round.nd rfl (by first|exact .inl rfl|exact .inr rfl)) tg_name ?_)
 exact (vr 0)
 refine (pSs_cons ?_   (pSs_cons ?_   (pSs_cons ?_   (pSs_cons ?_   pSs_nil))))
 refine (pS_set (i := 3) sc__law_round.nd rfl (by first|exact .inl rfl|exact .inr rfl) ?_)
 exact (vr 1)
 refine (pS_set (i := 4) sc__law_round.nd rfl (by first|exact .inl rfl|exact .inr rfl) ?_)
 exact (vr 2)
 refine (pS_while O ?_ ?_)
 refine (pT_cmp op_gt ov_gtP ?_ ?_ (nomark _))
 exact (vr 4)
 exact pv_int
 refine (pSs_cons ?_   pSs_nil)
 refine (pS_par (i := 3) (j := 4) rfl sc__law_round.nd rfl rfl (by decide) rfl rfl ?_ ?_)
 refine (pL_cons ?_ (pL_cons ?_ pL_nil (starE rfl)) (starE rfl))
 exact (vr 4)
 refine (pv_bin op_modN ov_modP ?_ ?_)
 exact (vr 3)
 exact (vr 4)
 exact rfl
 refine (pS_set (i := 1) sc__law_round.nd rfl (by first|exact .inl rfl|exact .inr rfl) ?_)
 refine (pv_bin op_mulV ov_mul ?_ ?_)
 refine (pv_bin op_fdivB ov_fdivP ?_ ?_)
 exact (vr 1)
 exact (vr 3)
 exact (vr 2)
 refine (pS_ret ?_)
 exact (vr 1)
noncomputable def g__law_weigh : PEnv → M Out :=
  (seqS (setS 3 (callV' s__law_round (consL (getV 2) nilL)))
  (seqS (retS (bin2 modP (callV' sumP (consL (lstOf (compF (itL zip3 (consL (getV 0) (consL (getV 1) (consL (getV 2) nilL)))) (setT3 0 1 2) none (bin2 mulP (bin2 mulP (getV 0) (getV 1)) (bin2 fdivP (getV 3) (getV 2))) 3 [3])) nilL)) (getV 3)))
  nextS))
noncomputable def s__law_weigh : List PV → M PV := lenG 3 (runD 4 g__law_weigh)
theorem sc__law_weigh : FnScope ["_law_weights_here", "_law_setting", "_law_sizes_here", "_law_around"] ["_law_weights_here", "_law_setting", "_law_sizes_here"] (defScope (top 39)) := ⟨rfl, rfl, rfl, by decide +kernel, rfl, by decide +kernel, by decide +kernel⟩
theorem nd__law_weigh_0 : ((["_law_weight", "_law_notch", "_law_size"] : List Str) ++ (["_law_around"] : List Str)).Nodup := by decide +kernel
theorem ok__law_weigh {f : Addr} {fd : FuncData} {dv : Value} (F : FunD K "_law_weigh" "_law_weigh" (top 39) dv f fd) (T : Txt K mg) (o__law_round : OkF P w K mg base 1 "_law_round" 1 (runD 5 g__law_round)) : FnOk P w K mg base (CXV P w) 2 f fd ["_law_weights_here", "_law_setting", "_law_sizes_here"] (spV 3 s__law_weigh) :=
  F.okV sc__law_weigh fun cdv A outer s H E hr O =>
  by
 refine (pSs_cons ?_   (pSs_cons ?_   pSs_nil))
 refine (pS_set (i := 3) sc__law_weigh.nd rfl (by first|exact .inl rfl|exact .inr rfl) ?_)
 refine (o__law_round.call hr (by omega) (by rfl) O ?_)
 refine (pL_cons ?_ pL_nil (starE rfl))
 exact (vr 2)
 refine (pS_ret ?_)
 refine (pv_bin op_modN ov_modP ?_ ?_)
 refine (pv_callB (call_sumL rfl) cv_sum (by rfl) T.z_sum bt_sum ?_)
 refine (pL_cons ?_ pL_nil (starE rfl))
 refine (pv_ofO (pO_compN (g := (gTup K 3 (gCons (gName 0) (gCons (gName 1) (gCons (gName 2) gNil))))) (ts := ["_law_weight", "_law_notch", "_law_size"]) (fs := ["_law_around"]) (js := [3]) rfl rfl rfl rfl rfl rfl (.cons rfl .nil) (.cons rfl rfl (by first|exact .inl rfl|exact .inr rfl) rfl rfl .nil) (pi_zip3 (by rfl) T.z_zip ?_) tiv_zip3 (fun C s₀ H₀ ex pins => (pg_tup (n := 3) rfl (pgs_cons (pg_name (i := 0) nd__law_weigh_0 rfl (by first|exact .inl rfl|exact .inr rfl) (.inr rfl)) (pgs_cons (pg_name (i := 1) nd__law_weigh_0 rfl (by first|exact .inl rfl|exact .inr rfl) (.inr rfl)) (pgs_cons (pg_name (i := 2) nd__law_weigh_0 rfl (by first|exact .inl rfl|exact .inr rfl) (.inr rfl)) pgs_nil))))) (fun _ => tg_tup3) setok_tup3 (fun C s₀ H₀ ex pins => ?_)))
 refine (pL_cons ?_ (pL_cons ?_ (pL_cons ?_ pL_nil (starE rfl)) (starE rfl)) (starE rfl))
 exact (vr 0)
 exact (vr 1)
 exact (vr 2)
 refine (pv_bin op_mulV ov_mul ?_ ?_)
 refine (pv_bin op_mulV ov_mul ?_ ?_)
 exact (vr 0)
 exact (vr 1)
 refine (pv_bin op_fdivB ov_fdivP ?_ ?_)
 exact (vr 3)
 exact (vr 2)
 exact (vr 3)
noncomputable def g__law_weights : PEnv → M Out :=
  (seqS (setO 3 (compF (itL enumP (consL (getV 1) nilL)) (setT2 0 1) none (bin2 mulP (bin2 fdivP (getV 1) (getV 3)) (bin2 modP (callV' s__law_mix (consL (getV 2) (consL (getV 0) nilL))) (getV 3))) 2 [0, 2]))
  (seqS (ifS (tst (bin2 eqP (bin2 modP (getV 0) (fun _ => M.ok (.int 4))) (fun _ => M.ok (.int 2)))) (seqS (setO 3 (compF (itL enumP (consL (getV 1) nilL)) (setT2 0 1) none (bin2 modP (callV' s__law_mix (consL (getV 2) (consL (bin2 addP (fun _ => M.ok (.int 9)) (getV 0)) nilL))) (getV 1)) 2 [0]))
  nextS) nextS)
  (seqS (ifS (tst (bin2 eqP (bin2 modP (getV 0) (fun _ => M.ok (.int 4))) (fun _ => M.ok (.int 3)))) (seqS (setS 4 (bin2 modP (bin2 fdivP (getV 0) (fun _ => M.ok (.int 4))) (callV' lenP (consL (getV 1) nilL))))
  (seqS (ixS 3 (getV 4) (lendV 3 (bin2 modP (bin2 addP (bin2 addP (bin2 idxP (getV 3) (getV 4)) (fun _ => M.ok (.int 1))) (bin2 modP (bin2 fdivP (getV 0) (fun _ => M.ok (.int 4))) (fun _ => M.ok (.int 2)))) (bin2 idxP (getV 1) (getV 4)))))
  nextS)) nextS)
  (seqS (frzS [3] (retS (callV' tupleP (consL (getV 3) nilL))))
  nextS))))
noncomputable def s__law_weights : List PV → M PV := lenG 3 (runD 5 g__law_weights)
theorem sc__law_weights : FnScope ["_law_cell_here", "_law_sizes_here", "_law_share", "_law_some", "_law_at"] ["_law_cell_here", "_law_sizes_here", "_law_share"] (defScope (top 40)) := ⟨rfl, rfl, rfl, by decide +kernel, rfl, by decide +kernel, by decide +kernel⟩
theorem nd__law_weights_0 : ((["_law_k", "_law_size"] : List Str) ++ (["_law_cell_here", "_law_share"] : List Str)).Nodup := by decide +kernel
theorem nd__law_weights_1 : ((["_law_k", "_law_size"] : List Str) ++ (["_law_cell_here"] : List Str)).Nodup := by decide +kernel
theorem ok__law_weights {f : Addr} {fd : FuncData} {dv : Value} (F : FunD K "_law_weights" "_law_weights" (top 40) dv f fd) (T : Txt K mg) (o__law_mix : OkF P w K mg base 1 "_law_mix" 2 (runD 3 g__law_mix)) : FnOk P w K mg base (CXV P w) 2 f fd ["_law_cell_here", "_law_sizes_here", "_law_share"] (spV 3 s__law_weights) :=
  F.okV sc__law_weights fun cdv A outer s H E hr O =>
  by
 refine (pSs_cons ?_   (pSs_cons ?_   (pSs_cons ?_   (pSs_cons ?_   pSs_nil))))
 refine (pS_setOC (i := 3) (g := (gTup K 2 (gCons (gName 0) (gCons (gName 1) gNil)))) (ts := ["_law_k", "_law_size"]) (fs := ["_law_cell_here", "_law_share"]) (js := [0, 2]) rfl rfl rfl rfl rfl rfl (.cons rfl (.cons rfl .nil)) (.cons rfl rfl (by first|exact .inl rfl|exact .inr rfl) rfl rfl (.cons rfl rfl (by first|exact .inl rfl|exact .inr rfl) rfl rfl .nil)) (pi_enum (by rfl) T.z_enumerate ?_) tiv_enum (fun C s₀ H₀ ex pins => (pg_tup (n := 2) rfl (pgs_cons (pg_name (i := 0) nd__law_weights_0 rfl (by first|exact .inl rfl|exact .inr rfl) (.inr rfl)) (pgs_cons (pg_name (i := 1) nd__law_weights_0 rfl (by first|exact .inl rfl|exact .inr rfl) (.inr rfl)) pgs_nil)))) (fun _ => tg_tup2) setok_tup2 (fun C s₀ H₀ ex pins => ?_) sc__law_weights.nd rfl (by first|exact .inl rfl|exact .inr rfl))
 refine (pL_cons ?_ pL_nil (starE rfl))
 exact (vr 1)
 refine (pv_bin op_mulV ov_mul ?_ ?_)
 refine (pv_bin op_fdivB ov_fdivP ?_ ?_)
 exact (vr 1)
 exact (vr 3)
 refine (pv_bin op_modN ov_modP ?_ ?_)
 refine (o__law_mix.call hr (by omega) (by rfl) outsC ?_)
 refine (pL_cons ?_ (pL_cons ?_ pL_nil (starE rfl)) (starE rfl))
 exact (vr 2)
 exact (vr 0)
 exact (vr 3)
 refine (pS_if ?_ ?_ ?_)
 refine (pT_cmp (op_eqD hr.units) ov_eq ?_ ?_ (nomark _))
 refine (pv_bin op_modN ov_modP ?_ ?_)
 exact (vr 0)
 exact pv_int
 exact pv_int
 refine (pSs_cons ?_   pSs_nil)
 refine (pS_setOC (i := 3) (g := (gTup K 2 (gCons (gName 0) (gCons (gName 1) gNil)))) (ts := ["_law_k", "_law_size"]) (fs := ["_law_cell_here"]) (js := [0]) rfl rfl rfl rfl rfl rfl (.cons rfl .nil) (.cons rfl rfl (by first|exact .inl rfl|exact .inr rfl) rfl rfl .nil) (pi_enum (by rfl) T.z_enumerate ?_) tiv_enum (fun C s₀ H₀ ex pins => (pg_tup (n := 2) rfl (pgs_cons (pg_name (i := 0) nd__law_weights_1 rfl (by first|exact .inl rfl|exact .inr rfl) (.inr rfl)) (pgs_cons (pg_name (i := 1) nd__law_weights_1 rfl (by first|exact .inl rfl|exact .inr rfl) (.inr rfl)) pgs_nil)))) (fun _ => tg_tup2) setok_tup2 (fun C s₀ H₀ ex pins => ?_) sc__law_weights.nd rfl (by first|exact .inl rfl|exact .inr rfl))
 refine (pL_cons ?_ pL_nil (starE rfl))
 exact (vr 1)
 refine (pv_bin op_modN ov_modP ?_ ?_)
 refine (o__law_mix.call hr (by omega) (by rfl) outsC ?_)
 refine (pL_cons ?_ (pL_cons ?_ pL_nil (starE rfl)) (starE rfl))
 exact (vr 2)
 refine (pv_bin op_addV ov_add ?_ ?_)
 exact pv_int
 exact (vr 0)
 exact (vr 1)
 exact pSs_nil
 refine (pS_if ?_ ?_ ?_)
 refine (pT_cmp (op_eqD hr.units) ov_eq ?_ ?_ (nomark _))
 refine (pv_bin op_modN ov_modP ?_ ?_)
 exact (vr 0)
 exact pv_int
 exact pv_int
 refine (pSs_cons ?_   (pSs_cons ?_   pSs_nil))
 refine (pS_set (i := 4) sc__law_weights.nd rfl (by first|exact .inl rfl|exact .inr rfl) ?_)
 refine (pv_bin op_modN ov_modP ?_ ?_)
 refine (pv_bin op_fdivB ov_fdivP ?_ ?_)
 exact (vr 0)
 exact pv_int
 refine (pv_callB call_lenV cv_len (by rfl) T.z_len PySem.boot_len ?_)
 refine (pL_cons ?_ pL_nil (starE rfl))
 exact (vr 1)
 refine (pS_ix (i := 3) rfl (by first | exact .inl rfl | exact .inr (.inl rfl)) ?_ ?_)
 exact (vr 4)
 refine (pv_lend 3 ?_)
 refine (pv_bin op_modN ov_modP ?_ ?_)
 refine (pv_bin op_addV ov_add ?_ ?_)
 refine (pv_bin op_addV ov_add ?_ ?_)
 refine (pv_idx ?_ ?_ ?_)
 exact (vr 3)
 exact (vr 4)
 exact fun _ _ => rfl
 exact pv_int
 refine (pv_bin op_modN ov_modP ?_ ?_)
 refine (pv_bin op_fdivB ov_fdivP ?_ ?_)
 exact (vr 0)
 exact pv_int
 exact pv_int
 refine (pv_idx ?_ ?_ ?_)
 exact (vr 1)
 exact (vr 4)
 exact fun _ _ => rfl
 exact pSs_nil
 refine (pS_frz [3] (pS_ret ?_))
 refine (pv_callTy call_tuple_of cv_tuple (by rfl) T.z_tuple bt_tuple ?_)
 refine (pL_cons ?_ pL_nil (starE rfl))
 exact (vr 3)
noncomputable def g__law_other : PEnv → M Out :=
  (seqS (setS 3 (bin2 modP (bin2 fdivP (getV 0) (fun _ => M.ok (.int 10))) (callV' lenP (consL (getV 2) nilL))))
  (seqS (setS 4 (lstV (consL (callV' listP (consL (getV 1) nilL)) (consL (sliceV (getV 1) (somePt (fun _ => M.ok (.int 1))) noPt) (consL (bin2 addP (getV 1) (tupV (consL (fun _ => M.ok (.int 0)) nilL))) (consL (bin2 addP (bin2 addP (sliceV (getV 1) noPt (somePt (getV 3))) (tupV (consL (bin2 idxP (getV 2) (getV 3)) nilL))) (sliceV (getV 1) (somePt (bin2 addP (getV 3) (fun _ => M.ok (.int 1)))) noPt)) nilL))))))
  (seqS (setS 4 (bin2 addP (getV 4) (lstV (consL (bin2 addP (bin2 addP (sliceV (getV 1) noPt (somePt (getV 3))) (tupV (consL (bin2 subP (negV (fun _ => M.ok (.int 1))) (bin2 modP (bin2 fdivP (getV 0) (fun _ => M.ok (.int 10))) (bin2 powP (fun _ => M.ok (.int 10)) (fun _ => M.ok (.int 9))))) nilL))) (sliceV (getV 1) (somePt (bin2 addP (getV 3) (fun _ => M.ok (.int 1)))) noPt)) (consL (bin2 mulP (tupV (consL (fun _ => M.ok (.bl true)) nilL)) (callV' lenP (consL (getV 2) nilL))) nilL)))))
  (seqS (setS 4 (bin2 addP (getV 4) (lstV (consL (bin2 mulP (tupV (consL (fun _ => M.ok .non) nilL)) (callV' lenP (consL (getV 2) nilL))) (consL (fun _ => M.ok (.str "0")) (consL (fun _ => M.ok .emp) (consL (fun _ => M.ok (.int 0)) nilL)))))))
  (seqS (retS (bin2 idxP (getV 4) (bin2 modP (getV 0) (fun _ => M.ok (.int 10)))))
  nextS)))))
noncomputable def s__law_other : List PV → M PV := lenG 3 (runD 5 g__law_other)
theorem sc__law_other : FnScope ["_law_cell_here", "_law_weights_here", "_law_sizes_here", "_law_at", "_law_some"] ["_law_cell_here", "_law_weights_here", "_law_sizes_here"] (defScope (top 41)) := ⟨rfl, rfl, rfl, by decide +kernel, rfl, by decide +kernel, by decide +kernel⟩
theorem ok__law_other {f : Addr} {fd : FuncData} {dv : Value} (F : FunD K "_law_other" "_law_other" (top 41) dv f fd) (T : Txt K mg)  : FnOk P w K mg base (CXV P w) 1 f fd ["_law_cell_here", "_law_weights_here", "_law_sizes_here"] (spV 3 s__law_other) :=
  F.okV sc__law_other fun cdv A outer s H E hr O =>
  by
 refine (pSs_cons ?_   (pSs_cons ?_   (pSs_cons ?_   (pSs_cons ?_   (pSs_cons ?_   pSs_nil)))))
 refine (pS_set (i := 3) sc__law_other.nd rfl (by first|exact .inl rfl|exact .inr rfl) ?_)
 refine (pv_bin op_modN ov_modP ?_ ?_)
 refine (pv_bin op_fdivB ov_fdivP ?_ ?_)
 exact (vr 0)
 exact pv_int
 refine (pv_callB call_lenV cv_len (by rfl) T.z_len PySem.boot_len ?_)
 refine (pL_cons ?_ pL_nil (starE rfl))
 exact (vr 2)
 refine (pS_set (i := 4) sc__law_other.nd rfl (by first|exact .inl rfl|exact .inr rfl) ?_)
 refine (pv_lst ?_)
 refine (pL_cons ?_ (pL_cons ?_ (pL_cons ?_ (pL_cons ?_ pL_nil (starE rfl)) (starE rfl)) (starE rfl)) (starE rfl))
 refine (pv_callTy call_list_of cv_list (by rfl) T.z_list bt_list ?_)
 refine (pL_cons ?_ pL_nil (starE rfl))
 exact (vr 1)
 refine (pv_slice ?_ (pP_some ?_) pP_none)
 exact (vr 1)
 exact pv_int
 refine (pv_bin op_addV ov_add ?_ ?_)
 exact (vr 1)
 refine (pv_tup ?_)
 refine (pL_cons ?_ pL_nil (starE rfl))
 exact pv_int
 refine (pv_bin op_addV ov_add ?_ ?_)
 refine (pv_bin op_addV ov_add ?_ ?_)
 refine (pv_slice ?_ pP_none (pP_some ?_))
 exact (vr 1)
 exact (vr 3)
 refine (pv_tup ?_)
 refine (pL_cons ?_ pL_nil (starE rfl))
 refine (pv_idx ?_ ?_ ?_)
 exact (vr 2)
 exact (vr 3)
 exact fun _ _ => rfl
 refine (pv_slice ?_ (pP_some ?_) pP_none)
 exact (vr 1)
 refine (pv_bin op_addV ov_add ?_ ?_)
 exact (vr 3)
 exact pv_int
 refine (pS_set (i := 4) sc__law_other.nd rfl (by first|exact .inl rfl|exact .inr rfl) ?_)
 refine (pv_bin op_addV ov_add ?_ ?_)
 exact (vr 4)
 refine (pv_lst ?_)
 refine (pL_cons ?_ (pL_cons ?_ pL_nil (starE rfl)) (starE rfl))
 refine (pv_bin op_addV ov_add ?_ ?_)
 refine (pv_bin op_addV ov_add ?_ ?_)
 refine (pv_slice ?_ pP_none (pP_some ?_))
 exact (vr 1)
 exact (vr 3)
 refine (pv_tup ?_)
 refine (pL_cons ?_ pL_nil (starE rfl))
 refine (pv_bin op_sub ov_sub ?_ ?_)
 refine (pv_neg ?_)
 exact pv_int
 refine (pv_bin op_modN ov_modP ?_ ?_)
 refine (pv_bin op_fdivB ov_fdivP ?_ ?_)
 exact (vr 0)
 exact pv_int
 refine (pv_bin op_pow ov_powP ?_ ?_)
 exact pv_int
 exact pv_int
 refine (pv_slice ?_ (pP_some ?_) pP_none)
 exact (vr 1)
 refine (pv_bin op_addV ov_add ?_ ?_)
 exact (vr 3)
 exact pv_int
 refine (pv_bin op_mulV ov_mul ?_ ?_)
 refine (pv_tup ?_)
 refine (pL_cons ?_ pL_nil (starE rfl))
 exact pv_bl
 refine (pv_callB call_lenV cv_len (by rfl) T.z_len PySem.boot_len ?_)
 refine (pL_cons ?_ pL_nil (starE rfl))
 exact (vr 2)
 refine (pS_set (i := 4) sc__law_other.nd rfl (by first|exact .inl rfl|exact .inr rfl) ?_)
 refine (pv_bin op_addV ov_add ?_ ?_)
 exact (vr 4)
 refine (pv_lst ?_)
 refine (pL_cons ?_ (pL_cons ?_ (pL_cons ?_ (pL_cons ?_ pL_nil (starE rfl)) (starE rfl)) (starE rfl)) (starE rfl))
 refine (pv_bin op_mulV ov_mul ?_ ?_)
 refine (pv_tup ?_)
 refine (pL_cons ?_ pL_nil (starE rfl))
 exact pv_non
 refine (pv_callB call_lenV cv_len (by rfl) T.z_len PySem.boot_len ?_)
 refine (pL_cons ?_ pL_nil (starE rfl))
 exact (vr 2)
 exact pv_str
 exact pv_emp
 exact pv_int
 refine (pS_ret ?_)
 refine (pv_idx ?_ ?_ ?_)
 exact (vr 4)
 refine (pv_bin op_modN ov_modP ?_ ?_)
 exact (vr 0)
 exact pv_int
 exact fun _ _ => rfl
noncomputable def g_Vault_init : PEnv → M Out :=
  (seqS (dropS (callV' s_need_sizes (consL (getV 1) nilL)))
  (seqS (dropS (callV' s_need_levers (consL (getV 2) (consL (callV' lenP (consL (getV 1) nilL)) nilL))))
  (seqS (fldS 0 C_Vault "dial_sizes" (callV' tupleP (consL (getV 1) nilL)))
  (seqS (fldS 0 C_Vault "lever_settings" (callV' tupleP (consL (lstOf (compF (itemsOf (getV 2)) (setN 0) none (callV' s_rests (consL (getV 0) (consL (getV 1) nilL))) 1 [1])) nilL)))
  (seqS (fldS 0 C_Vault "lever_prices" (callV' s_prices_for (consL (getV 2) (consL (getV 3) nilL))))
  (seqS (fldS 0 C_Vault "least_round" (callV' s_multiple_of (consL (getV 1) nilL)))
  nextS))))))
noncomputable def i_Vault : Addr → List PV → M (List (Str × PV)) := lenI 4 (runI 4 g_Vault_init C_Vault)
theorem sc_Vault_init : FnScope ["self", "sizes", "levers", "prices"] ["self", "sizes", "levers", "prices"] (defScope (inClass (top 21) 0)) := ⟨rfl, rfl, rfl, by decide +kernel, rfl, by decide +kernel, by decide +kernel⟩
theorem nd_Vault_init_0 : ((["lever"] : List Str) ++ (["sizes"] : List Str)).Nodup := by decide +kernel
theorem ok_Vault_init {f : Addr} {fd : FuncData} {dv : Value} (F : FunD K "__init__" "Vault.__init__" (inClass (top 21) 0) dv f fd) (T : Txt K mg) (o_need_sizes : OkF P w K mg base 3 "need_sizes" 1 (runD 3 g_need_sizes)) (o_need_levers : OkF P w K mg base 3 "need_levers" 2 (runD 4 g_need_levers)) (o_rests : OkF P w K mg base 1 "rests" 2 (runD 2 g_rests)) (o_prices_for : OkF P w K mg base 3 "prices_for" 2 (runD 3 g_prices_for)) (o_multiple_of : OkF P w K mg base 2 "multiple_of" 1 (runD 3 g_multiple_of)) : FnOk P w K mg base (CXV P w) 4 f fd ["self", "sizes", "levers", "prices"] (spI 4 C_Vault i_Vault) :=
  F.okI sc_Vault_init (by decide) fun cdv A outer s H E hr O =>
  by
 refine (pSs_cons ?_   (pSs_cons ?_   (pSs_cons ?_   (pSs_cons ?_   (pSs_cons ?_   (pSs_cons ?_   pSs_nil))))))
 refine (pS_expr ?_)
 refine (o_need_sizes.call hr (by omega) (by rfl) O ?_)
 refine (pL_cons ?_ pL_nil (starE rfl))
 exact (vr 1)
 refine (pS_expr ?_)
 refine (o_need_levers.call hr (by omega) (by rfl) O ?_)
 refine (pL_cons ?_ (pL_cons ?_ pL_nil (starE rfl)) (starE rfl))
 exact (vr 2)
 refine (pv_callB call_lenV cv_len (by rfl) T.z_len PySem.boot_len ?_)
 refine (pL_cons ?_ pL_nil (starE rfl))
 exact (vr 1)
 refine (pS_fld (i := 0) rfl (by first | exact .inl rfl | exact .inr (.inl rfl)) T.c_Vault T.n_Vault_dial_sizes ?_)
 refine (pv_callTy call_tuple_of cv_tuple (by rfl) T.z_tuple bt_tuple ?_)
 refine (pL_cons ?_ pL_nil (starE rfl))
 exact (vr 1)
 refine (pS_fld (i := 0) rfl (by first | exact .inl rfl | exact .inr (.inl rfl)) T.c_Vault T.n_Vault_lever_settings ?_)
 refine (pv_callTy call_tuple_of cv_tuple (by rfl) T.z_tuple bt_tuple ?_)
 refine (pL_cons ?_ pL_nil (starE rfl))
 refine (pv_ofO (pO_compN (g := (gName 0)) (ts := ["lever"]) (fs := ["sizes"]) (js := [1]) rfl rfl rfl rfl rfl rfl (.cons rfl .nil) (.cons rfl rfl (by first|exact .inl rfl|exact .inr rfl) rfl rfl .nil) (pi_seq ?_) tiv_seq (fun C s₀ H₀ ex pins => (pg_name (i := 0) nd_Vault_init_0 rfl (by first|exact .inl rfl|exact .inr rfl) (.inr rfl))) (fun _ => tg_name) setok_name (fun C s₀ H₀ ex pins => ?_)))
 exact (vr 2)
 refine (o_rests.call hr (by omega) (by rfl) outsC ?_)
 refine (pL_cons ?_ (pL_cons ?_ pL_nil (starE rfl)) (starE rfl))
 exact (vr 0)
 exact (vr 1)
 refine (pS_fld (i := 0) rfl (by first | exact .inl rfl | exact .inr (.inl rfl)) T.c_Vault T.n_Vault_lever_prices ?_)
 refine (o_prices_for.call hr (by omega) (by rfl) O ?_)
 refine (pL_cons ?_ (pL_cons ?_ pL_nil (starE rfl)) (starE rfl))
 exact (vr 2)
 exact (vr 3)
 refine (pS_fld (i := 0) rfl (by first | exact .inl rfl | exact .inr (.inl rfl)) T.c_Vault T.n_Vault_least_round ?_)
 refine (o_multiple_of.call hr (by omega) (by rfl) O ?_)
 refine (pL_cons ?_ pL_nil (starE rfl))
 exact (vr 1)
noncomputable def g_Vault_sizes : PEnv → M Out :=
  (seqS (retS (fldV (fun c => c == C_Vault) "dial_sizes" (getV 0)))
  nextS)
noncomputable def s_Vault_sizes : List PV → M PV := lenG 1 (runD 1 g_Vault_sizes)
theorem sc_Vault_sizes : FnScope ["self"] ["self"] (defScope (inClass (top 21) 1)) := ⟨rfl, rfl, rfl, by decide +kernel, rfl, by decide +kernel, by decide +kernel⟩
theorem ok_Vault_sizes {f : Addr} {fd : FuncData} {dv : Value} (F : FunD K "sizes" "Vault.sizes" (inClass (top 21) 1) dv f fd) (T : Txt K mg)  : FnOk P w K mg base (CXV P w) 1 f fd ["self"] (spV 1 s_Vault_sizes) :=
  F.okV sc_Vault_sizes fun cdv A outer s H E hr O =>
  by
 refine (pSs_cons ?_   pSs_nil)
 refine (pS_ret ?_)
 refine (pv_fld ?_ T.f_dial_sizes rfl)
 exact (vr 0)
noncomputable def g_Vault_levers : PEnv → M Out :=
  (seqS (retS (fldV (fun c => c == C_Vault) "lever_settings" (getV 0)))
  nextS)
noncomputable def s_Vault_levers : List PV → M PV := lenG 1 (runD 1 g_Vault_levers)
theorem sc_Vault_levers : FnScope ["self"] ["self"] (defScope (inClass (top 21) 2)) := ⟨rfl, rfl, rfl, by decide +kernel, rfl, by decide +kernel, by decide +kernel⟩
theorem ok_Vault_levers {f : Addr} {fd : FuncData} {dv : Value} (F : FunD K "levers" "Vault.levers" (inClass (top 21) 2) dv f fd) (T : Txt K mg)  : FnOk P w K mg base (CXV P w) 1 f fd ["self"] (spV 1 s_Vault_levers) :=
  F.okV sc_Vault_levers fun cdv A outer s H E hr O =>
  by
 refine (pSs_cons ?_   pSs_nil)
 refine (pS_ret ?_)
 refine (pv_fld ?_ T.f_lever_settings rfl)
 exact (vr 0)
noncomputable def g_Vault_prices : PEnv → M Out :=
  (seqS (retS (fldV (fun c => c == C_Vault) "lever_prices" (getV 0)))
  nextS)
noncomputable def s_Vault_prices : List PV → M PV := lenG 1 (runD 1 g_Vault_prices)
theorem sc_Vault_prices : FnScope ["self"] ["self"] (defScope (inClass (top 21) 3)) := ⟨rfl, rfl, rfl, by decide +kernel, rfl, by decide +kernel, by decide +kernel⟩
theorem ok_Vault_prices {f : Addr} {fd : FuncData} {dv : Value} (F : FunD K "prices" "Vault.prices" (inClass (top 21) 3) dv f fd) (T : Txt K mg)  : FnOk P w K mg base (CXV P w) 1 f fd ["self"] (spV 1 s_Vault_prices) :=
  F.okV sc_Vault_prices fun cdv A outer s H E hr O =>
  by
 refine (pSs_cons ?_   pSs_nil)
 refine (pS_ret ?_)
 refine (pv_fld ?_ T.f_lever_prices rfl)
 exact (vr 0)
noncomputable def g_Vault_around : PEnv → M Out :=
  (seqS (retS (fldV (fun c => c == C_Vault) "least_round" (getV 0)))
  nextS)
noncomputable def s_Vault_around : List PV → M PV := lenG 1 (runD 1 g_Vault_around)
theorem sc_Vault_around : FnScope ["self"] ["self"] (defScope (inClass (top 21) 4)) := ⟨rfl, rfl, rfl, by decide +kernel, rfl, by decide +kernel, by decide +kernel⟩
theorem ok_Vault_around {f : Addr} {fd : FuncData} {dv : Value} (F : FunD K "around" "Vault.around" (inClass (top 21) 4) dv f fd) (T : Txt K mg)  : FnOk P w K mg base (CXV P w) 1 f fd ["self"] (spV 1 s_Vault_around) :=
  F.okV sc_Vault_around fun cdv A outer s H E hr O =>
  by
 refine (pSs_cons ?_   pSs_nil)
 refine (pS_ret ?_)
 refine (pv_fld ?_ T.f_least_round rfl)
 exact (vr 0)
noncomputable def g_is_setting : PEnv → M Out :=
  (seqS (setS 2 (methV C_Vault "sizes" s_Vault_sizes (getV 0) nilL))
  (seqS (ifS (orB (notB (tst (isV (fun a => subN a "tuple") noA noA (getV 1)))) (notB (tst (callV' s_is_row (consL (getV 1) (consL (callV' lenP (consL (getV 2) nilL)) nilL)))))) (seqS (retS (fun _ => M.ok (.bl false)))
  nextS) nextS)
  (seqS (retS (callV' allP (consL (lstOf (compF (itL zip2 (consL (getV 1) (consL (getV 2) nilL))) (setT2 0 1) none (chainV leP ltP (fun _ => M.ok (.int 0)) (getV 0) (getV 1)) 2 [])) nilL)))
  nextS)))
noncomputable def s_is_setting : List PV → M PV := lenG 2 (runD 3 g_is_setting)
theorem sc_is_setting : FnScope ["vault", "thing", "sizes"] ["vault", "thing"] (defScope (top 27)) := ⟨rfl, rfl, rfl, by decide +kernel, rfl, by decide +kernel, by decide +kernel⟩
theorem nd_is_setting_0 : ((["notch", "size"] : List Str) ++ ([] : List Str)).Nodup := by decide +kernel
theorem ok_is_setting {f : Addr} {fd : FuncData} {dv : Value} (F : FunD K "is_setting" "is_setting" (top 27) dv f fd) (T : Txt K mg) (o_Vault_sizes : OkM P w K mg base C_Vault 1 "sizes" 1 (runD 1 g_Vault_sizes)) (o_is_row : OkF P w K mg base 2 "is_row" 2 (runD 2 g_is_row)) : FnOk P w K mg base (CXV P w) 3 f fd ["vault", "thing"] (spV 2 s_is_setting) :=
  F.okV sc_is_setting fun cdv A outer s H E hr O =>
  by
 refine (pSs_cons ?_   (pSs_cons ?_   (pSs_cons ?_   pSs_nil)))
 refine (pS_set (i := 2) sc_is_setting.nd rfl (by first|exact .inl rfl|exact .inr rfl) ?_)
 refine (o_Vault_sizes.call0 hr (by omega) O ?_)
 exact (vr 0)
 refine (pS_if ?_ ?_ ?_)
 refine (pW_or ?_ (pW_or1 ?_)).pt
 refine (pT_not ?_)
 refine (pT_val ?_)
 refine (pv_isT (T := "tuple") (by rfl) T.z_isinstance (pe_bltn (v := .ty "tuple") (by rfl) T.z_tuple bt_tuple rfl) (by decide) noA_ noA_ ?_)
 exact (vr 1)
 refine (pT_not ?_)
 refine (pT_val ?_)
 refine (o_is_row.call hr (by omega) (by rfl) O ?_)
 refine (pL_cons ?_ (pL_cons ?_ pL_nil (starE rfl)) (starE rfl))
 exact (vr 1)
 refine (pv_callB call_lenV cv_len (by rfl) T.z_len PySem.boot_len ?_)
 refine (pL_cons ?_ pL_nil (starE rfl))
 exact (vr 2)
 refine (pSs_cons ?_   pSs_nil)
 refine (pS_ret ?_)
 exact pv_bl
 exact pSs_nil
 refine (pS_ret ?_)
 refine (pv_callB (call_allB rfl) cv_all (by rfl) T.z_all bt_all ?_)
 refine (pL_cons ?_ pL_nil (starE rfl))
 refine (pv_ofO (pO_compN (g := (gTup K 2 (gCons (gName 0) (gCons (gName 1) gNil)))) (ts := ["notch", "size"]) (fs := []) (js := []) (cl := []) rfl rfl rfl rfl rfl rfl .nil .nil (pi_zip (by rfl) T.z_zip ?_) tiv_zip (fun C s₀ H₀ ex pins => (pg_tup (n := 2) rfl (pgs_cons (pg_name (i := 0) nd_is_setting_0 rfl (by first|exact .inl rfl|exact .inr rfl) (.inr rfl)) (pgs_cons (pg_name (i := 1) nd_is_setting_0 rfl (by first|exact .inl rfl|exact .inr rfl) (.inr rfl)) pgs_nil)))) (fun _ => tg_tup2) setok_tup2 (fun C s₀ H₀ ex pins => ?_)))
 refine (pL_cons ?_ (pL_cons ?_ pL_nil (starE rfl)) (starE rfl))
 exact (vr 1)
 exact (vr 2)
 refine (pv_chain op_le ov_leP op_lt ov_ltP ?_ ?_ ?_)
 exact pv_int
 exact (vr 0)
 exact (vr 1)
noncomputable def g_need_setting : PEnv → M Out :=
  (seqS (ifS (notB (tst (callV' s_is_setting (consL (getV 0) (consL (getV 1) nilL))))) (seqS (raise0 C_NoSetting (consL (fun _ => M.ok (.str "this is no setting of the vault")) nilL))
  nextS) nextS)
  nextS)
noncomputable def s_need_setting : List PV → M PV := lenG 2 (runD 2 g_need_setting)
theorem sc_need_setting : FnScope ["vault", "thing"] ["vault", "thing"] (defScope (top 28)) := ⟨rfl, rfl, rfl, by decide +kernel, rfl, by decide +kernel, by decide +kernel⟩
theorem ok_need_setting {f : Addr} {fd : FuncData} {dv : Value} (F : FunD K "need_setting" "need_setting" (top 28) dv f fd) (T : Txt K mg) (o_is_setting : OkF P w K mg base 3 "is_setting" 2 (runD 3 g_is_setting)) : FnOk P w K mg base (CXV P w) 4 f fd ["vault", "thing"] (spV 2 s_need_setting) :=
  F.okV sc_need_setting fun cdv A outer s H E hr O =>
  by
 refine (pSs_cons ?_   pSs_nil)
 refine (pS_if ?_ ?_ ?_)
 refine (pT_not ?_)
 refine (pT_val ?_)
 refine (o_is_setting.call hr (by omega) (by rfl) O ?_)
 refine (pL_cons ?_ (pL_cons ?_ pL_nil (starE rfl)) (starE rfl))
 exact (vr 0)
 exact (vr 1)
 refine (pSs_cons ?_   pSs_nil)
 refine (T.e_NoSetting.raise O rfl (by rfl) ?_)
 refine (pL_cons ?_ pL_nil (starE rfl))
 exact pv_str
 exact pSs_nil
noncomputable def g_weigh : PEnv → M Out :=
  (seqS (dropS (callV' s_need_setting (consL (getV 0) (consL (getV 1) nilL))))
  (seqS (dropS (callV' s_need_setting (consL (getV 0) (consL (getV 2) nilL))))
  (seqS (setS 3 (methV C_Vault "around" s_Vault_around (getV 0) nilL))
  (seqS (setS 4 (lstOf (compF (itL zip2 (consL (getV 1) (consL (methV C_Vault "sizes" s_Vault_sizes (getV 0) nilL) nilL))) (setT2 0 1) none (bin2 mulP (getV 0) (bin2 fdivP (getV 2) (getV 1))) 2 [3])))
  (seqS (retS (callV' s_rest_sum (consL (getV 4) (consL (getV 2) (consL (getV 3) nilL)))))
  nextS)))))
noncomputable def s_weigh : List PV → M PV := lenG 3 (runD 5 g_weigh)
theorem sc_weigh : FnScope ["vault", "weights", "setting", "around", "worths"] ["vault", "weights", "setting"] (defScope (top 30)) := ⟨rfl, rfl, rfl, by decide +kernel, rfl, by decide +kernel, by decide +kernel⟩
theorem nd_weigh_0 : ((["weight", "size"] : List Str) ++ (["around"] : List Str)).Nodup := by decide +kernel
theorem ok_weigh {f : Addr} {fd : FuncData} {dv : Value} (F : FunD K "weigh" "weigh" (top 30) dv f fd) (T : Txt K mg) (o_need_setting : OkF P w K mg base 4 "need_setting" 2 (runD 2 g_need_setting)) (o_Vault_around : OkM P w K mg base C_Vault 1 "around" 1 (runD 1 g_Vault_around)) (o_Vault_sizes : OkM P w K mg base C_Vault 1 "sizes" 1 (runD 1 g_Vault_sizes)) (o_rest_sum : OkF P w K mg base 1 "rest_sum" 3 (runD 3 g_rest_sum)) : FnOk P w K mg base (CXV P w) 5 f fd ["vault", "weights", "setting"] (spV 3 s_weigh) :=
  F.okV sc_weigh fun cdv A outer s H E hr O =>
  by
 refine (pSs_cons ?_   (pSs_cons ?_   (pSs_cons ?_   (pSs_cons ?_   (pSs_cons ?_   pSs_nil)))))
 refine (pS_expr ?_)
 refine (o_need_setting.call hr (by omega) (by rfl) O ?_)
 refine (pL_cons ?_ (pL_cons ?_ pL_nil (starE rfl)) (starE rfl))
 exact (vr 0)
 exact (vr 1)
 refine (pS_expr ?_)
 refine (o_need_setting.call hr (by omega) (by rfl) O ?_)
 refine (pL_cons ?_ (pL_cons ?_ pL_nil (starE rfl)) (starE rfl))
 exact (vr 0)
 exact (vr 2)
 refine (pS_set (i := 3) sc_weigh.nd rfl (by first|exact .inl rfl|exact .inr rfl) ?_)
 refine (o_Vault_around.call0 hr (by omega) O ?_)
 exact (vr 0)
 refine (pS_setC (i := 4) (g := (gTup K 2 (gCons (gName 0) (gCons (gName 1) gNil)))) (ts := ["weight", "size"]) (fs := ["around"]) (js := [3]) rfl rfl rfl rfl rfl rfl (.cons rfl .nil) (.cons rfl rfl (by first|exact .inl rfl|exact .inr rfl) rfl rfl .nil) (pi_zip (by rfl) T.z_zip ?_) tiv_zip (fun C s₀ H₀ ex pins => (pg_tup (n := 2) rfl (pgs_cons (pg_name (i := 0) nd_weigh_0 rfl (by first|exact .inl rfl|exact .inr rfl) (.inr rfl)) (pgs_cons (pg_name (i := 1) nd_weigh_0 rfl (by first|exact .inl rfl|exact .inr rfl) (.inr rfl)) pgs_nil)))) (fun _ => tg_tup2) setok_tup2 (fun C s₀ H₀ ex pins => ?_) sc_weigh.nd rfl (by first|exact .inl rfl|exact .inr rfl))
 refine (pL_cons ?_ (pL_cons ?_ pL_nil (starE rfl)) (starE rfl))
 exact (vr 1)
 refine (o_Vault_sizes.call0 hr (by omega) O ?_)
 exact (vr 0)
 refine (pv_bin op_mulV ov_mul ?_ ?_)
 exact (vr 0)
 refine (pv_bin op_fdivB ov_fdivP ?_ ?_)
 exact (vr 2)
 exact (vr 1)
 refine (pS_ret ?_)
 refine (o_rest_sum.call hr (by omega) (by rfl) O ?_)
 refine (pL_cons ?_ (pL_cons ?_ (pL_cons ?_ pL_nil (starE rfl)) (starE rfl)) (starE rfl))
 exact (vr 4)
 exact (vr 2)
 exact (vr 3)
noncomputable def g_weighs_no_lever : PEnv → M Out :=
  (seqS (retS (callV' allP (consL (lstOf (compF (itemsOf (methV C_Vault "levers" s_Vault_levers (getV 0) nilL)) (setN 0) none (bin2 eqP (callV' s_weigh (consL (getV 1) (consL (getV 2) (consL (getV 0) nilL)))) (fun _ => M.ok (.int 0))) 1 [0, 1])) nilL)))
  nextS)
noncomputable def s_weighs_no_lever : List PV → M PV := lenG 2 (runD 2 g_weighs_no_lever)
theorem sc_weighs_no_lever : FnScope ["vault", "weights"] ["vault", "weights"] (defScope (top 31)) := ⟨rfl, rfl, rfl, by decide +kernel, rfl, by decide +kernel, by decide +kernel⟩
theorem nd_weighs_no_lever_0 : ((["lever"] : List Str) ++ (["vault", "weights"] : List Str)).Nodup := by decide +kernel
theorem ok_weighs_no_lever {f : Addr} {fd : FuncData} {dv : Value} (F : FunD K "weighs_no_lever" "weighs_no_lever" (top 31) dv f fd) (T : Txt K mg) (o_Vault_levers : OkM P w K mg base C_Vault 1 "levers" 1 (runD 1 g_Vault_levers)) (o_weigh : OkF P w K mg base 5 "weigh" 3 (runD 5 g_weigh)) : FnOk P w K mg base (CXV P w) 6 f fd ["vault", "weights"] (spV 2 s_weighs_no_lever) :=
  F.okV sc_weighs_no_lever fun cdv A outer s H E hr O =>
  by
 refine (pSs_cons ?_   pSs_nil)
 refine (pS_ret ?_)
 refine (pv_callB (call_allB rfl) cv_all (by rfl) T.z_all bt_all ?_)
 refine (pL_cons ?_ pL_nil (starE rfl))
 refine (pv_ofO (pO_compN (g := (gName 0)) (ts := ["lever"]) (fs := ["vault", "weights"]) (js := [0, 1]) rfl rfl rfl rfl rfl rfl (.cons rfl (.cons rfl .nil)) (.cons rfl rfl (by first|exact .inl rfl|exact .inr rfl) rfl rfl (.cons rfl rfl (by first|exact .inl rfl|exact .inr rfl) rfl rfl .nil)) (pi_seq ?_) tiv_seq (fun C s₀ H₀ ex pins => (pg_name (i := 0) nd_weighs_no_lever_0 rfl (by first|exact .inl rfl|exact .inr rfl) (.inr rfl))) (fun _ => tg_name) setok_name (fun C s₀ H₀ ex pins => ?_)))
 refine (o_Vault_levers.call0 hr (by omega) O ?_)
 exact (vr 0)
 refine (pv_cmp (op_eqD hr.units) ov_eq ?_ ?_ (nomark _))
 refine (o_weigh.call hr (by omega) (by rfl) outsC ?_)
 refine (pL_cons ?_ (pL_cons ?_ (pL_cons ?_ pL_nil (starE rfl)) (starE rfl)) (starE rfl))
 exact (vr 1)
 exact (vr 2)
 exact (vr 0)
 exact pv_int
noncomputable def g_is_still : PEnv → M Out :=
  (seqS (retS (andV (callV' s_is_setting (consL (getV 0) (consL (getV 1) nilL))) (callV' s_weighs_no_lever (consL (getV 0) (consL (getV 1) nilL)))))
  nextS)
noncomputable def s_is_still : List PV → M PV := lenG 2 (runD 2 g_is_still)
theorem sc_is_still : FnScope ["vault", "thing"] ["vault", "thing"] (defScope (top 33)) := ⟨rfl, rfl, rfl, by decide +kernel, rfl, by decide +kernel, by decide +kernel⟩
theorem ok_is_still {f : Addr} {fd : FuncData} {dv : Value} (F : FunD K "is_still" "is_still" (top 33) dv f fd) (T : Txt K mg) (o_is_setting : OkF P w K mg base 3 "is_setting" 2 (runD 3 g_is_setting)) (o_weighs_no_lever : OkF P w K mg base 6 "weighs_no_lever" 2 (runD 2 g_weighs_no_lever)) : FnOk P w K mg base (CXV P w) 7 f fd ["vault", "thing"] (spV 2 s_is_still) :=
  F.okV sc_is_still fun cdv A outer s H E hr O =>
  by
 refine (pSs_cons ?_   pSs_nil)
 refine (pS_ret ?_)
 refine (pv_and ?_ (pe_one ?_))
 refine (o_is_setting.call hr (by omega) (by rfl) O ?_)
 refine (pL_cons ?_ (pL_cons ?_ pL_nil (starE rfl)) (starE rfl))
 exact (vr 0)
 exact (vr 1)
 refine (o_weighs_no_lever.call hr (by omega) (by rfl) O ?_)
 refine (pL_cons ?_ (pL_cons ?_ pL_nil (starE rfl)) (starE rfl))
 exact (vr 0)
 exact (vr 1)
noncomputable def g_law : PEnv → M Out :=
  (seqS (setS 1 (callV' s__law_cell (consL (getV 0) (consL (fun _ => M.ok (.int 0)) nilL))))
  (seqS (setS 2 (bin2 addP (fun _ => M.ok (.int 1)) (bin2 modP (getV 1) (fun _ => M.ok (.int 6)))))
  (seqS (setS 3 (callV' s__law_sizes (consL (getV 1) nilL)))
  (seqS (setO 4 (dispO nilL))
  (seqS (forS (itemsOf (sliceV (getV 0) (somePt (fun _ => M.ok (.int 1))) (somePt (fun _ => M.ok (.int 7))))) (setN 5) (seqS (setO 6 (dispO nilL))
  (seqS (setS 7 (bin2 fdivP (getV 5) (fun _ => M.ok (.int 2))))
  (seqS (forS (itL enumP (consL (getV 3) nilL)) (setT2 8 9) (seqS (setS 10 (bin2 modP (getV 7) (getV 9)))
  (seqS (setS 7 (bin2 fdivP (getV 7) (getV 9)))
  (seqS (ifS (tst (bin2 eqP (bin2 modP (getV 5) (fun _ => M.ok (.int 2))) (fun _ => M.ok (.int 1)))) (seqS (setS 10 (bin2 modP (bin2 fdivP (callV' s__law_mix (consL (getV 5) (consL (getV 8) nilL))) (fun _ => M.ok (.int 3))) (getV 9)))
  nextS) nextS)
  (seqS (appS 6 (bin2 modP (bin2 mulP (getV 10) (getV 2)) (getV 9)))
  nextS)))))
  (seqS (frzS [6] (appS 4 (callV' tupleP (consL (getV 6) nilL))))
  nextS)))))
  (seqS (frzS [4] (setS 11 (callV' (makeP C_Vault i_Vault [.non]) (consL (getV 3) (consL (getV 4) nilL)))))
  (seqS (forS (itemsOf (bin2 addP (lstV (consL (fun _ => M.ok (.int 0)) nilL)) (sliceV (getV 0) (somePt (fun _ => M.ok (.int 1))) (somePt (fun _ => M.ok (.int 63)))))) (setN 5) (seqS (setS 12 (callV' s__law_weights (consL (getV 5) (consL (getV 3) (consL (getV 2) nilL)))))
  (seqS (setS 13 (fun _ => M.ok (.bl true)))
  (seqS (frzS [4] (forS (itemsOf (getV 4)) (setN 14) (seqS (setS 13 (andV (getV 13) (bin2 eqP (callV' s__law_weigh (consL (getV 12) (consL (getV 14) (consL (getV 3) nilL)))) (fun _ => M.ok (.int 0)))))
  nextS)))
  (seqS (setS 15 (callV' s_is_still (consL (getV 11) (consL (getV 12) nilL))))
  (seqS (ifS (orB (notB (tst (isV (fun a => subN a "bool") noA noA (getV 15)))) (tst (bin2 neP (getV 15) (getV 13)))) (seqS (retS (fun _ => M.ok (.bl false)))
  nextS) nextS)
  (seqS (setS 15 (callV' s_is_still (consL (getV 11) (consL (callV' s__law_other (consL (getV 5) (consL (getV 12) (consL (getV 3) nilL)))) nilL))))
  (seqS (ifS (orB (notB (tst (isV (fun a => subN a "bool") noA noA (getV 15)))) (tst (getV 15))) (seqS (retS (fun _ => M.ok (.bl false)))
  nextS) nextS)
  nextS))))))))
  (seqS (frzS [4] (retS (andV (callV' s_is_still (consL (getV 11) (consL (bin2 mulP (tupV (consL (fun _ => M.ok (.int 0)) nilL)) (callV' lenP (consL (getV 3) nilL))) nilL))) (bin2 eqP (methV C_Vault "levers" s_Vault_levers (getV 11) nilL) (callV' tupleP (consL (getV 4) nilL))))))
  nextS))))))))
noncomputable def s_law : List PV → M PV := lenG 1 (runD 16 g_law)
theorem sc_law : FnScope ["_law_script", "_law_first", "_law_share", "_law_sizes_here", "_law_levers", "_law_cell_here", "_law_row", "_law_left", "_law_k", "_law_size", "_law_notch", "_law_vault", "_law_weights_here", "_law_due", "_law_lever", "_law_found"] ["_law_script"] (defScope (top 42)) := ⟨rfl, rfl, rfl, by decide +kernel, rfl, by decide +kernel, by decide +kernel⟩
theorem ok_law {f : Addr} {fd : FuncData} {dv : Value} (F : FunD K "law" "law" (top 42) dv f fd) (T : Txt K mg) (o__law_cell : OkF P w K mg base 1 "_law_cell" 2 (runD 2 g__law_cell)) (o__law_sizes : OkF P w K mg base 2 "_law_sizes" 1 (runD 2 g__law_sizes)) (o__law_mix : OkF P w K mg base 1 "_law_mix" 2 (runD 3 g__law_mix)) (o_Vault_init : OkI P w K mg base C_Vault 4 "Vault" 4 [.non] i_Vault) (o__law_weights : OkF P w K mg base 2 "_law_weights" 3 (runD 5 g__law_weights)) (o__law_weigh : OkF P w K mg base 2 "_law_weigh" 3 (runD 4 g__law_weigh)) (o_is_still : OkF P w K mg base 7 "is_still" 2 (runD 2 g_is_still)) (o__law_other : OkF P w K mg base 1 "_law_other" 3 (runD 5 g__law_other)) (o_Vault_levers : OkM P w K mg base C_Vault 1 "levers" 1 (runD 1 g_Vault_levers)) : FnOk P w K mg base (CXV P w) 8 f fd ["_law_script"] (spV 1 s_law) :=
  F.okV sc_law fun cdv A outer s H E hr O =>
  by
 refine (pSs_cons ?_   (pSs_cons ?_   (pSs_cons ?_   (pSs_cons ?_   (pSs_cons ?_   (pSs_cons ?_   (pSs_cons ?_   (pSs_cons ?_   pSs_nil))))))))
 refine (pS_set (i := 1) sc_law.nd rfl (by first|exact .inl rfl|exact .inr rfl) ?_)
 refine (o__law_cell.call hr (by omega) (by rfl) O ?_)
 refine (pL_cons ?_ (pL_cons ?_ pL_nil (starE rfl)) (starE rfl))
 exact (vr 0)
 exact pv_int
 refine (pS_set (i := 2) sc_law.nd rfl (by first|exact .inl rfl|exact .inr rfl) ?_)
 refine (pv_bin op_addV ov_add ?_ ?_)
 exact pv_int
 refine (pv_bin op_modN ov_modP ?_ ?_)
 exact (vr 1)
 exact pv_int
 refine (pS_set (i := 3) sc_law.nd rfl (by first|exact .inl rfl|exact .inr rfl) ?_)
 refine (o__law_sizes.call hr (by omega) (by rfl) O ?_)
 refine (pL_cons ?_ pL_nil (starE rfl))
 exact (vr 1)
 refine (pS_setO (i := 4) sc_law.nd rfl (by first|exact .inl rfl|exact .inr rfl) ?_)
 refine (pO_lst ?_)
 exact pL_nil
 refine (pS_forI (g := (gName 5)) O rfl (pi_seq ?_) tiv_seq (pg_name (i := 5) sc_law.nd rfl (by first|exact .inl rfl|exact .inr rfl)) tg_name ?_)
 refine (pv_slice ?_ (pP_some ?_) (pP_some ?_))
 exact (vr 0)
 exact pv_int
 exact pv_int
 refine (pSs_cons ?_   (pSs_cons ?_   (pSs_cons ?_   (pSs_cons ?_   pSs_nil))))
 refine (pS_setO (i := 6) sc_law.nd rfl (by first|exact .inl rfl|exact .inr rfl) ?_)
 refine (pO_lst ?_)
 exact pL_nil
 refine (pS_set (i := 7) sc_law.nd rfl (by first|exact .inl rfl|exact .inr rfl) ?_)
 refine (pv_bin op_fdivB ov_fdivP ?_ ?_)
 exact (vr 5)
 exact pv_int
 refine (pS_forI (g := (gTup K 2 (gCons (gName 8) (gCons (gName 9) gNil)))) O rfl (pi_enum (by rfl) T.z_enumerate ?_) tiv_enum (pg_tup (n := 2) rfl (pgs_cons (pg_name (i := 8) sc_law.nd rfl (by first|exact .inl rfl|exact .inr rfl)) (pgs_cons (pg_name (i := 9) sc_law.nd rfl (by first|exact .inl rfl|exact .inr rfl)) pgs_nil))) tg_tup2 ?_)
 refine (pL_cons ?_ pL_nil (starE rfl))
 exact (vr 3)
 refine (pSs_cons ?_   (pSs_cons ?_   (pSs_cons ?_   (pSs_cons ?_   pSs_nil))))
 refine (pS_set (i := 10) sc_law.nd rfl (by first|exact .inl rfl|exact .inr rfl) ?_)
 refine (pv_bin op_modN ov_modP ?_ ?_)
 exact (vr 7)
 exact (vr 9)
 refine (pS_set (i := 7) sc_law.nd rfl (by first|exact .inl rfl|exact .inr rfl) ?_)
 refine (pv_bin op_fdivB ov_fdivP ?_ ?_)
 exact (vr 7)
 exact (vr 9)
 refine (pS_if ?_ ?_ ?_)
 refine (pT_cmp (op_eqD hr.units) ov_eq ?_ ?_ (nomark _))
 refine (pv_bin op_modN ov_modP ?_ ?_)
 exact (vr 5)
 exact pv_int
 exact pv_int
 refine (pSs_cons ?_   pSs_nil)
 refine (pS_set (i := 10) sc_law.nd rfl (by first|exact .inl rfl|exact .inr rfl) ?_)
 refine (pv_bin op_modN ov_modP ?_ ?_)
 refine (pv_bin op_fdivB ov_fdivP ?_ ?_)
 refine (o__law_mix.call hr (by omega) (by rfl) O ?_)
 refine (pL_cons ?_ (pL_cons ?_ pL_nil (starE rfl)) (starE rfl))
 exact (vr 5)
 exact (vr 8)
 exact pv_int
 exact (vr 9)
 exact pSs_nil
 refine (pS_append (i := 6) rfl (by first | exact .inl rfl | exact .inr (.inl rfl)) ?_)
 refine (pv_bin op_modN ov_modP ?_ ?_)
 refine (pv_bin op_mulV ov_mul ?_ ?_)
 exact (vr 10)
 exact (vr 2)
 exact (vr 9)
 refine (pS_frz [6] (pS_append (i := 4) rfl (by first | exact .inl rfl | exact .inr (.inl rfl)) ?_))
 refine (pv_callTy call_tuple_of cv_tuple (by rfl) T.z_tuple bt_tuple ?_)
 refine (pL_cons ?_ pL_nil (starE rfl))
 exact (vr 6)
 refine (pS_frz [4] (pS_set (i := 11) sc_law.nd rfl (by first|exact .inl rfl|exact .inr rfl) ?_))
 refine (o_Vault_init.make hr (by omega) (by rfl) O ?_)
 refine (pL_cons ?_ (pL_cons ?_ pL_nil (starE rfl)) (starE rfl))
 exact (vr 3)
 exact (vr 4)
 refine (pS_forI (g := (gName 5)) O rfl (pi_seq ?_) tiv_seq (pg_name (i := 5) sc_law.nd rfl (by first|exact .inl rfl|exact .inr rfl)) tg_name ?_)
 refine (pv_bin op_addV ov_add ?_ ?_)
 refine (pv_lst ?_)
 refine (pL_cons ?_ pL_nil (starE rfl))
 exact pv_int
 refine (pv_slice ?_ (pP_some ?_) (pP_some ?_))
 exact (vr 0)
 exact pv_int
 exact pv_int
 refine (pSs_cons ?_   (pSs_cons ?_   (pSs_cons ?_   (pSs_cons ?_   (pSs_cons ?_   (pSs_cons ?_   (pSs_cons ?_   pSs_nil)))))))
 refine (pS_set (i := 12) sc_law.nd rfl (by first|exact .inl rfl|exact .inr rfl) ?_)
 refine (o__law_weights.call hr (by omega) (by rfl) O ?_)
 refine (pL_cons ?_ (pL_cons ?_ (pL_cons ?_ pL_nil (starE rfl)) (starE rfl)) (starE rfl))
 exact (vr 5)
 exact (vr 3)
 exact (vr 2)
 refine (pS_set (i := 13) sc_law.nd rfl (by first|exact .inl rfl|exact .inr rfl) ?_)
 exact pv_bl
 refine (pS_frz [4] (pS_forI (g := (gName 14)) O rfl (pi_seq ?_) tiv_seq (pg_name (i := 14) sc_law.nd rfl (by first|exact .inl rfl|exact .inr rfl)) tg_name ?_))
 exact (vr 4)
 refine (pSs_cons ?_   pSs_nil)
 refine (pS_set (i := 13) sc_law.nd rfl (by first|exact .inl rfl|exact .inr rfl) ?_)
 refine (pv_and ?_ (pe_one ?_))
 exact (vr 13)
 refine (pv_cmp (op_eqD hr.units) ov_eq ?_ ?_ (nomark _))
 refine (o__law_weigh.call hr (by omega) (by rfl) O ?_)
 refine (pL_cons ?_ (pL_cons ?_ (pL_cons ?_ pL_nil (starE rfl)) (starE rfl)) (starE rfl))
 exact (vr 12)
 exact (vr 14)
 exact (vr 3)
 exact pv_int
 refine (pS_set (i := 15) sc_law.nd rfl (by first|exact .inl rfl|exact .inr rfl) ?_)
 refine (o_is_still.call hr (by omega) (by rfl) O ?_)
 refine (pL_cons ?_ (pL_cons ?_ pL_nil (starE rfl)) (starE rfl))
 exact (vr 11)
 exact (vr 12)
 refine (pS_if ?_ ?_ ?_)
 refine (pW_or ?_ (pW_or1 ?_)).pt
 refine (pT_not ?_)
 refine (pT_val ?_)
 refine (pv_isT (T := "bool") (by rfl) T.z_isinstance (pe_bltn (v := .ty "bool") (by rfl) T.z_bool bt_bool rfl) (by decide) noA_ noA_ ?_)
 exact (vr 15)
 refine (pT_cmp (op_neD hr.units) ov_ne ?_ ?_ (nomark _))
 exact (vr 15)
 exact (vr 13)
 refine (pSs_cons ?_   pSs_nil)
 refine (pS_ret ?_)
 exact pv_bl
 exact pSs_nil
 refine (pS_set (i := 15) sc_law.nd rfl (by first|exact .inl rfl|exact .inr rfl) ?_)
 refine (o_is_still.call hr (by omega) (by rfl) O ?_)
 refine (pL_cons ?_ (pL_cons ?_ pL_nil (starE rfl)) (starE rfl))
 exact (vr 11)
 refine (o__law_other.call hr (by omega) (by rfl) O ?_)
 refine (pL_cons ?_ (pL_cons ?_ (pL_cons ?_ pL_nil (starE rfl)) (starE rfl)) (starE rfl))
 exact (vr 5)
 exact (vr 12)
 exact (vr 3)
 refine (pS_if ?_ ?_ ?_)
 refine (pW_or ?_ (pW_or1 ?_)).pt
 refine (pT_not ?_)
 refine (pT_val ?_)
 refine (pv_isT (T := "bool") (by rfl) T.z_isinstance (pe_bltn (v := .ty "bool") (by rfl) T.z_bool bt_bool rfl) (by decide) noA_ noA_ ?_)
 exact (vr 15)
 refine (pT_val ?_)
 exact (vr 15)
 refine (pSs_cons ?_   pSs_nil)
 refine (pS_ret ?_)
 exact pv_bl
 exact pSs_nil
 refine (pS_frz [4] (pS_ret ?_))
 refine (pv_and ?_ (pe_one ?_))
 refine (o_is_still.call hr (by omega) (by rfl) O ?_)
 refine (pL_cons ?_ (pL_cons ?_ pL_nil (starE rfl)) (starE rfl))
 exact (vr 11)
 refine (pv_bin op_mulV ov_mul ?_ ?_)
 refine (pv_tup ?_)
 refine (pL_cons ?_ pL_nil (starE rfl))
 exact pv_int
 refine (pv_callB call_lenV cv_len (by rfl) T.z_len PySem.boot_len ?_)
 refine (pL_cons ?_ pL_nil (starE rfl))
 exact (vr 3)
 refine (pv_cmp (op_eqD hr.units) ov_eq ?_ ?_ (nomark _))
 refine (o_Vault_levers.call0 hr (by omega) O ?_)
 exact (vr 11)
 refine (pv_callTy call_tuple_of cv_tuple (by rfl) T.z_tuple bt_tuple ?_)
 refine (pL_cons ?_ pL_nil (starE rfl))
 exact (vr 4)
end K41
namespace K41
open PySem L2 PyProof.Rows
open PySem.W (nsIn findIn codeIn keepIn isFn mroIn specialIn takesIn hasDictIn typeIn plainGet plainOver makesIn mg_of mg_none_of fnOf excIn clsIn)
noncomputable abbrev κ (w : World) : PySem.W.Frag := HD.K w.params
def fd_is_whole : FuncData := fnOf "is_whole" "is_whole" (defArgs (top 9)) (defBody (top 9)) (defScope (top 9)) .none .none .none (HD.st "dialvault.wholes" 363) none (.ref 163) .none
theorem u1 (w : World) : (κ w).lookup 164 = some ⟨.type "function", none, .func fd_is_whole, ⟨[]⟩⟩ := by kernel_rfl
theorem u2 (w : World) : codeIn (κ w) (.ref 163) "is_whole" = true := by kernel_rfl
theorem u3 (w : World) : keepIn (κ w) (.ref 164) = true := by kernel_rfl
theorem D_is_whole (w : World) : FunD (κ w) "is_whole" "is_whole" (top 9) .none 164 fd_is_whole := ⟨⟨_, _, _, _, _, _, _, _, _, rfl, (u1 w), (u2 w)⟩, (u3 w)⟩
theorem b_is_whole (w : World) : Binds (κ w) fd_is_whole ["thing"] [] := Binds.all fun us hl => by obtain ⟨a, rfl⟩ := ln1 hl; rfl
def fd_is_row : FuncData := fnOf "is_row" "is_row" (defArgs (top 10)) (defBody (top 10)) (defScope (top 10)) .none .none .none (HD.st "dialvault.wholes" 363) none (.ref 168) .none
theorem u4 (w : World) : (κ w).lookup 169 = some ⟨.type "function", none, .func fd_is_row, ⟨[]⟩⟩ := by kernel_rfl
theorem u5 (w : World) : codeIn (κ w) (.ref 168) "is_row" = true := by kernel_rfl
theorem u6 (w : World) : keepIn (κ w) (.ref 169) = true := by kernel_rfl
theorem D_is_row (w : World) : FunD (κ w) "is_row" "is_row" (top 10) .none 169 fd_is_row := ⟨⟨_, _, _, _, _, _, _, _, _, rfl, (u4 w), (u5 w)⟩, (u6 w)⟩
theorem b_is_row (w : World) : Binds (κ w) fd_is_row ["thing", "length"] [] := Binds.all fun us hl => by obtain ⟨a, b, rfl⟩ := ln2 hl; rfl
def fd_common : FuncData := fnOf "common" "common" (defArgs (top 11)) (defBody (top 11)) (defScope (top 11)) .none .none .none (HD.st "dialvault.wholes" 363) none (.ref 175) .none
theorem u7 (w : World) : (κ w).lookup 176 = some ⟨.type "function", none, .func fd_common, ⟨[]⟩⟩ := by kernel_rfl
theorem u8 (w : World) : codeIn (κ w) (.ref 175) "common" = true := by kernel_rfl
theorem u9 (w : World) : keepIn (κ w) (.ref 176) = true := by kernel_rfl
theorem D_common (w : World) : FunD (κ w) "common" "common" (top 11) .none 176 fd_common := ⟨⟨_, _, _, _, _, _, _, _, _, rfl, (u7 w), (u8 w)⟩, (u9 w)⟩
theorem b_common (w : World) : Binds (κ w) fd_common ["one", "other"] [] := Binds.all fun us hl => by obtain ⟨a, b, rfl⟩ := ln2 hl; rfl
def fd_multiple_of : FuncData := fnOf "multiple_of" "multiple_of" (defArgs (top 12)) (defBody (top 12)) (defScope (top 12)) .none .none .none (HD.st "dialvault.wholes" 363) none (.ref 182) .none
theorem u10 (w : World) : (κ w).lookup 183 = some ⟨.type "function", none, .func fd_multiple_of, ⟨[]⟩⟩ := by kernel_rfl
theorem u11 (w : World) : codeIn (κ w) (.ref 182) "multiple_of" = true := by kernel_rfl
theorem u12 (w : World) : keepIn (κ w) (.ref 183) = true := by kernel_rfl
theorem D_multiple_of (w : World) : FunD (κ w) "multiple_of" "multiple_of" (top 12) .none 183 fd_multiple_of := ⟨⟨_, _, _, _, _, _, _, _, _, rfl, (u10 w), (u11 w)⟩, (u12 w)⟩
theorem b_multiple_of (w : World) : Binds (κ w) fd_multiple_of ["numbers"] [] := Binds.all fun us hl => by obtain ⟨a, rfl⟩ := ln1 hl; rfl
def fd_rest_sum : FuncData := fnOf "rest_sum" "rest_sum" (defArgs (top 13)) (defBody (top 13)) (defScope (top 13)) .none .none .none (HD.st "dialvault.wholes" 363) none (.ref 187) .none
theorem u13 (w : World) : (κ w).lookup 188 = some ⟨.type "function", none, .func fd_rest_sum, ⟨[]⟩⟩ := by kernel_rfl
theorem u14 (w : World) : codeIn (κ w) (.ref 187) "rest_sum" = true := by kernel_rfl
theorem u15 (w : World) : keepIn (κ w) (.ref 188) = true := by kernel_rfl
theorem D_rest_sum (w : World) : FunD (κ w) "rest_sum" "rest_sum" (top 13) .none 188 fd_rest_sum := ⟨⟨_, _, _, _, _, _, _, _, _, rfl, (u13 w), (u14 w)⟩, (u15 w)⟩
theorem b_rest_sum (w : World) : Binds (κ w) fd_rest_sum ["numbers", "others", "by"] [] := Binds.all fun us hl => by obtain ⟨a, b, c, rfl⟩ := ln3 hl; rfl
def fd_is_within : FuncData := fnOf "is_within" "is_within" (defArgs (top 22)) (defBody (top 22)) (defScope (top 22)) .none .none .none (HD.st "dialvault.vault" 405) none (.ref 242) .none
theorem u16 (w : World) : (κ w).lookup 243 = some ⟨.type "function", none, .func fd_is_within, ⟨[]⟩⟩ := by kernel_rfl
theorem u17 (w : World) : codeIn (κ w) (.ref 242) "is_within" = true := by kernel_rfl
theorem u18 (w : World) : keepIn (κ w) (.ref 243) = true := by kernel_rfl
theorem D_is_within (w : World) : FunD (κ w) "is_within" "is_within" (top 22) .none 243 fd_is_within := ⟨⟨_, _, _, _, _, _, _, _, _, rfl, (u16 w), (u17 w)⟩, (u18 w)⟩
theorem b_is_within (w : World) : Binds (κ w) fd_is_within ["thing", "least", "most"] [] := Binds.all fun us hl => by obtain ⟨a, b, c, rfl⟩ := ln3 hl; rfl
def fd_need_sizes : FuncData := fnOf "need_sizes" "need_sizes" (defArgs (top 23)) (defBody (top 23)) (defScope (top 23)) .none .none .none (HD.st "dialvault.vault" 405) none (.ref 249) .none
theorem u19 (w : World) : (κ w).lookup 250 = some ⟨.type "function", none, .func fd_need_sizes, ⟨[]⟩⟩ := by kernel_rfl
theorem u20 (w : World) : codeIn (κ w) (.ref 249) "need_sizes" = true := by kernel_rfl
theorem u21 (w : World) : keepIn (κ w) (.ref 250) = true := by kernel_rfl
theorem D_need_sizes (w : World) : FunD (κ w) "need_sizes" "need_sizes" (top 23) .none 250 fd_need_sizes := ⟨⟨_, _, _, _, _, _, _, _, _, rfl, (u19 w), (u20 w)⟩, (u21 w)⟩
theorem b_need_sizes (w : World) : Binds (κ w) fd_need_sizes ["sizes"] [] := Binds.all fun us hl => by obtain ⟨a, rfl⟩ := ln1 hl; rfl
def fd_need_levers : FuncData := fnOf "need_levers" "need_levers" (defArgs (top 24)) (defBody (top 24)) (defScope (top 24)) .none .none .none (HD.st "dialvault.vault" 405) none (.ref 256) .none
theorem u22 (w : World) : (κ w).lookup 257 = some ⟨.type "function", none, .func fd_need_levers, ⟨[]⟩⟩ := by kernel_rfl
theorem u23 (w : World) : codeIn (κ w) (.ref 256) "need_levers" = true := by kernel_rfl
theorem u24 (w : World) : keepIn (κ w) (.ref 257) = true := by kernel_rfl
theorem D_need_levers (w : World) : FunD (κ w) "need_levers" "need_levers" (top 24) .none 257 fd_need_levers := ⟨⟨_, _, _, _, _, _, _, _, _, rfl, (u22 w), (u23 w)⟩, (u24 w)⟩
theorem b_need_levers (w : World) : Binds (κ w) fd_need_levers ["levers", "dials"] [] := Binds.all fun us hl => by obtain ⟨a, b, rfl⟩ := ln2 hl; rfl
def fd_prices_for : FuncData := fnOf "prices_for" "prices_for" (defArgs (top 25)) (defBody (top 25)) (defScope (top 25)) .none .none .none (HD.st "dialvault.vault" 405) none (.ref 263) .none
theorem u25 (w : World) : (κ w).lookup 264 = some ⟨.type "function", none, .func fd_prices_for, ⟨[]⟩⟩ := by kernel_rfl
theorem u26 (w : World) : codeIn (κ w) (.ref 263) "prices_for" = true := by kernel_rfl
theorem u27 (w : World) : keepIn (κ w) (.ref 264) = true := by kernel_rfl
theorem D_prices_for (w : World) : FunD (κ w) "prices_for" "prices_for" (top 25) .none 264 fd_prices_for := ⟨⟨_, _, _, _, _, _, _, _, _, rfl, (u25 w), (u26 w)⟩, (u27 w)⟩
theorem b_prices_for (w : World) : Binds (κ w) fd_prices_for ["levers", "prices"] [] := Binds.all fun us hl => by obtain ⟨a, b, rfl⟩ := ln2 hl; rfl
def fd_rests : FuncData := fnOf "rests" "rests" (defArgs (top 26)) (defBody (top 26)) (defScope (top 26)) .none .none .none (HD.st "dialvault.vault" 405) none (.ref 268) .none
theorem u28 (w : World) : (κ w).lookup 269 = some ⟨.type "function", none, .func fd_rests, ⟨[]⟩⟩ := by kernel_rfl
theorem u29 (w : World) : codeIn (κ w) (.ref 268) "rests" = true := by kernel_rfl
theorem u30 (w : World) : keepIn (κ w) (.ref 269) = true := by kernel_rfl
theorem D_rests (w : World) : FunD (κ w) "rests" "rests" (top 26) .none 269 fd_rests := ⟨⟨_, _, _, _, _, _, _, _, _, rfl, (u28 w), (u29 w)⟩, (u30 w)⟩
theorem b_rests (w : World) : Binds (κ w) fd_rests ["numbers", "sizes"] [] := Binds.all fun us hl => by obtain ⟨a, b, rfl⟩ := ln2 hl; rfl
def fd__law_cell : FuncData := fnOf "_law_cell" "_law_cell" (defArgs (top 35)) (defBody (top 35)) (defScope (top 35)) .none .none .none (HD.st "law_dialvault_k41_still_or_not" 558) none (.ref 304) .none
theorem u31 (w : World) : (κ w).lookup 305 = some ⟨.type "function", none, .func fd__law_cell, ⟨[]⟩⟩ := by kernel_rfl
theorem u32 (w : World) : codeIn (κ w) (.ref 304) "_law_cell" = true := by kernel_rfl
theorem u33 (w : World) : keepIn (κ w) (.ref 305) = true := by kernel_rfl
theorem D__law_cell (w : World) : FunD (κ w) "_law_cell" "_law_cell" (top 35) .none 305 fd__law_cell := ⟨⟨_, _, _, _, _, _, _, _, _, rfl, (u31 w), (u32 w)⟩, (u33 w)⟩
theorem b__law_cell (w : World) : Binds (κ w) fd__law_cell ["_law_script", "_law_k"] [] := Binds.all fun us hl => by obtain ⟨a, b, rfl⟩ := ln2 hl; rfl
def fd__law_mix : FuncData := fnOf "_law_mix" "_law_mix" (defArgs (top 36)) (defBody (top 36)) (defScope (top 36)) .none .none .none (HD.st "law_dialvault_k41_still_or_not" 558) none (.ref 311) .none
theorem u34 (w : World) : (κ w).lookup 312 = some ⟨.type "function", none, .func fd__law_mix, ⟨[]⟩⟩ := by kernel_rfl
theorem u35 (w : World) : codeIn (κ w) (.ref 311) "_law_mix" = true := by kernel_rfl
theorem u36 (w : World) : keepIn (κ w) (.ref 312) = true := by kernel_rfl
theorem D__law_mix (w : World) : FunD (κ w) "_law_mix" "_law_mix" (top 36) .none 312 fd__law_mix := ⟨⟨_, _, _, _, _, _, _, _, _, rfl, (u34 w), (u35 w)⟩, (u36 w)⟩
theorem b__law_mix (w : World) : Binds (κ w) fd__law_mix ["_law_cell_here", "_law_k"] [] := Binds.all fun us hl => by obtain ⟨a, b, rfl⟩ := ln2 hl; rfl
def fd__law_sizes : FuncData := fnOf "_law_sizes" "_law_sizes" (defArgs (top 37)) (defBody (top 37)) (defScope (top 37)) .none .none .none (HD.st "law_dialvault_k41_still_or_not" 558) none (.ref 316) .none
theorem u37 (w : World) : (κ w).lookup 317 = some ⟨.type "function", none, .func fd__law_sizes, ⟨[]⟩⟩ := by kernel_rfl
theorem u38 (w : World) : codeIn (κ w) (.ref 316) "_law_sizes" = true := by kernel_rfl
theorem u39 (w : World) : keepIn (κ w) (.ref 317) = true := by kernel_rfl
theorem D__law_sizes (w : World) : FunD (κ w) "_law_sizes" "_law_sizes" (top 37) .none 317 fd__law_sizes := ⟨⟨_, _, _, _, _, _, _, _, _, rfl, (u37 w), (u38 w)⟩, (u39 w)⟩
theorem b__law_sizes (w : World) : Binds (κ w) fd__law_sizes ["_law_cell_here"] [] := Binds.all fun us hl => by obtain ⟨a, rfl⟩ := ln1 hl; rfl
def fd__law_round : FuncData := fnOf "_law_round" "_law_round" (defArgs (top 38)) (defBody (top 38)) (defScope (top 38)) .none .none .none (HD.st "law_dialvault_k41_still_or_not" 558) none (.ref 323) .none
theorem u40 (w : World) : (κ w).lookup 324 = some ⟨.type "function", none, .func fd__law_round, ⟨[]⟩⟩ := by kernel_rfl
theorem u41 (w : World) : codeIn (κ w) (.ref 323) "_law_round" = true := by kernel_rfl
theorem u42 (w : World) : keepIn (κ w) (.ref 324) = true := by kernel_rfl
theorem D__law_round (w : World) : FunD (κ w) "_law_round" "_law_round" (top 38) .none 324 fd__law_round := ⟨⟨_, _, _, _, _, _, _, _, _, rfl, (u40 w), (u41 w)⟩, (u42 w)⟩
theorem b__law_round (w : World) : Binds (κ w) fd__law_round ["_law_sizes_here"] [] := Binds.all fun us hl => by obtain ⟨a, rfl⟩ := ln1 hl; rfl
def fd__law_weigh : FuncData := fnOf "_law_weigh" "_law_weigh" (defArgs (top 39)) (defBody (top 39)) (defScope (top 39)) .none .none .none (HD.st "law_dialvault_k41_still_or_not" 558) none (.ref 328) .none
theorem u43 (w : World) : (κ w).lookup 329 = some ⟨.type "function", none, .func fd__law_weigh, ⟨[]⟩⟩ := by kernel_rfl
theorem u44 (w : World) : codeIn (κ w) (.ref 328) "_law_weigh" = true := by kernel_rfl
theorem u45 (w : World) : keepIn (κ w) (.ref 329) = true := by kernel_rfl
theorem D__law_weigh (w : World) : FunD (κ w) "_law_weigh" "_law_weigh" (top 39) .none 329 fd__law_weigh := ⟨⟨_, _, _, _, _, _, _, _, _, rfl, (u43 w), (u44 w)⟩, (u45 w)⟩
theorem b__law_weigh (w : World) : Binds (κ w) fd__law_weigh ["_law_weights_here", "_law_setting", "_law_sizes_here"] [] := Binds.all fun us hl => by obtain ⟨a, b, c, rfl⟩ := ln3 hl; rfl
def fd__law_weights : FuncData := fnOf "_law_weights" "_law_weights" (defArgs (top 40)) (defBody (top 40)) (defScope (top 40)) .none .none .none (HD.st "law_dialvault_k41_still_or_not" 558) none (.ref 333) .none
theorem u46 (w : World) : (κ w).lookup 334 = some ⟨.type "function", none, .func fd__law_weights, ⟨[]⟩⟩ := by kernel_rfl
theorem u47 (w : World) : codeIn (κ w) (.ref 333) "_law_weights" = true := by kernel_rfl
theorem u48 (w : World) : keepIn (κ w) (.ref 334) = true := by kernel_rfl
theorem D__law_weights (w : World) : FunD (κ w) "_law_weights" "_law_weights" (top 40) .none 334 fd__law_weights := ⟨⟨_, _, _, _, _, _, _, _, _, rfl, (u46 w), (u47 w)⟩, (u48 w)⟩
theorem b__law_weights (w : World) : Binds (κ w) fd__law_weights ["_law_cell_here", "_law_sizes_here", "_law_share"] [] := Binds.all fun us hl => by obtain ⟨a, b, c, rfl⟩ := ln3 hl; rfl
def fd__law_other : FuncData := fnOf "_law_other" "_law_other" (defArgs (top 41)) (defBody (top 41)) (defScope (top 41)) .none .none .none (HD.st "law_dialvault_k41_still_or_not" 558) none (.ref 340) .none
theorem u49 (w : World) : (κ w).lookup 341 = some ⟨.type "function", none, .func fd__law_other, ⟨[]⟩⟩ := by kernel_rfl
theorem u50 (w : World) : codeIn (κ w) (.ref 340) "_law_other" = true := by kernel_rfl
theorem u51 (w : World) : keepIn (κ w) (.ref 341) = true := by kernel_rfl
theorem D__law_other (w : World) : FunD (κ w) "_law_other" "_law_other" (top 41) .none 341 fd__law_other := ⟨⟨_, _, _, _, _, _, _, _, _, rfl, (u49 w), (u50 w)⟩, (u51 w)⟩
theorem b__law_other (w : World) : Binds (κ w) fd__law_other ["_law_cell_here", "_law_weights_here", "_law_sizes_here"] [] := Binds.all fun us hl => by obtain ⟨a, b, c, rfl⟩ := ln3 hl; rfl
def fd_Vault_init : FuncData := fnOf "__init__" "Vault.__init__" (defArgs (inClass (top 21) 0)) (defBody (inClass (top 21) 0)) (defScope (inClass (top 21) 0)) (.ref 196) .none .none (HD.st "dialvault.vault" 405) none (.ref 200) .none
theorem u52 (w : World) : (κ w).lookup 201 = some ⟨.type "function", none, .func fd_Vault_init, ⟨[]⟩⟩ := by kernel_rfl
theorem u53 (w : World) : codeIn (κ w) (.ref 200) "Vault.__init__" = true := by kernel_rfl
theorem u54 (w : World) : keepIn (κ w) (.ref 201) = true := by kernel_rfl
theorem D_Vault_init (w : World) : FunD (κ w) "__init__" "Vault.__init__" (inClass (top 21) 0) (.ref 196) 201 fd_Vault_init := ⟨⟨_, _, _, _, _, _, _, _, _, rfl, (u52 w), (u53 w)⟩, (u54 w)⟩
def fd_Vault_sizes : FuncData := fnOf "sizes" "Vault.sizes" (defArgs (inClass (top 21) 1)) (defBody (inClass (top 21) 1)) (defScope (inClass (top 21) 1)) .none .none .none (HD.st "dialvault.vault" 405) none (.ref 207) .none
theorem u55 (w : World) : (κ w).lookup 208 = some ⟨.type "function", none, .func fd_Vault_sizes, ⟨[]⟩⟩ := by kernel_rfl
theorem u56 (w : World) : codeIn (κ w) (.ref 207) "Vault.sizes" = true := by kernel_rfl
theorem u57 (w : World) : keepIn (κ w) (.ref 208) = true := by kernel_rfl
theorem D_Vault_sizes (w : World) : FunD (κ w) "sizes" "Vault.sizes" (inClass (top 21) 1) .none 208 fd_Vault_sizes := ⟨⟨_, _, _, _, _, _, _, _, _, rfl, (u55 w), (u56 w)⟩, (u57 w)⟩
theorem b_Vault_sizes (w : World) : Binds (κ w) fd_Vault_sizes ["self"] [] := Binds.all fun us hl => by obtain ⟨a, rfl⟩ := ln1 hl; rfl
def fd_Vault_levers : FuncData := fnOf "levers" "Vault.levers" (defArgs (inClass (top 21) 2)) (defBody (inClass (top 21) 2)) (defScope (inClass (top 21) 2)) .none .none .none (HD.st "dialvault.vault" 405) none (.ref 214) .none
theorem u58 (w : World) : (κ w).lookup 215 = some ⟨.type "function", none, .func fd_Vault_levers, ⟨[]⟩⟩ := by kernel_rfl
theorem u59 (w : World) : codeIn (κ w) (.ref 214) "Vault.levers" = true := by kernel_rfl
theorem u60 (w : World) : keepIn (κ w) (.ref 215) = true := by kernel_rfl
theorem D_Vault_levers (w : World) : FunD (κ w) "levers" "Vault.levers" (inClass (top 21) 2) .none 215 fd_Vault_levers := ⟨⟨_, _, _, _, _, _, _, _, _, rfl, (u58 w), (u59 w)⟩, (u60 w)⟩
theorem b_Vault_levers (w : World) : Binds (κ w) fd_Vault_levers ["self"] [] := Binds.all fun us hl => by obtain ⟨a, rfl⟩ := ln1 hl; rfl
def fd_Vault_prices : FuncData := fnOf "prices" "Vault.prices" (defArgs (inClass (top 21) 3)) (defBody (inClass (top 21) 3)) (defScope (inClass (top 21) 3)) .none .none .none (HD.st "dialvault.vault" 405) none (.ref 221) .none
theorem u61 (w : World) : (κ w).lookup 222 = some ⟨.type "function", none, .func fd_Vault_prices, ⟨[]⟩⟩ := by kernel_rfl
theorem u62 (w : World) : codeIn (κ w) (.ref 221) "Vault.prices" = true := by kernel_rfl
theorem u63 (w : World) : keepIn (κ w) (.ref 222) = true := by kernel_rfl
theorem D_Vault_prices (w : World) : FunD (κ w) "prices" "Vault.prices" (inClass (top 21) 3) .none 222 fd_Vault_prices := ⟨⟨_, _, _, _, _, _, _, _, _, rfl, (u61 w), (u62 w)⟩, (u63 w)⟩
theorem b_Vault_prices (w : World) : Binds (κ w) fd_Vault_prices ["self"] [] := Binds.all fun us hl => by obtain ⟨a, rfl⟩ := ln1 hl; rfl
def fd_Vault_around : FuncData := fnOf "around" "Vault.around" (defArgs (inClass (top 21) 4)) (defBody (inClass (top 21) 4)) (defScope (inClass (top 21) 4)) .none .none .none (HD.st "dialvault.vault" 405) none (.ref 228) .none
theorem u64 (w : World) : (κ w).lookup 229 = some ⟨.type "function", none, .func fd_Vault_around, ⟨[]⟩⟩ := by kernel_rfl
theorem u65 (w : World) : codeIn (κ w) (.ref 228) "Vault.around" = true := by kernel_rfl
theorem u66 (w : World) : keepIn (κ w) (.ref 229) = true := by kernel_rfl
theorem D_Vault_around (w : World) : FunD (κ w) "around" "Vault.around" (inClass (top 21) 4) .none 229 fd_Vault_around := ⟨⟨_, _, _, _, _, _, _, _, _, rfl, (u64 w), (u65 w)⟩, (u66 w)⟩
theorem b_Vault_around (w : World) : Binds (κ w) fd_Vault_around ["self"] [] := Binds.all fun us hl => by obtain ⟨a, rfl⟩ := ln1 hl; rfl
def fd_is_setting : FuncData := fnOf "is_setting" "is_setting" (defArgs (top 27)) (defBody (top 27)) (defScope (top 27)) .none .none .none (HD.st "dialvault.vault" 405) none (.ref 273) .none
theorem u67 (w : World) : (κ w).lookup 274 = some ⟨.type "function", none, .func fd_is_setting, ⟨[]⟩⟩ := by kernel_rfl
theorem u68 (w : World) : codeIn (κ w) (.ref 273) "is_setting" = true := by kernel_rfl
theorem u69 (w : World) : keepIn (κ w) (.ref 274) = true := by kernel_rfl
theorem D_is_setting (w : World) : FunD (κ w) "is_setting" "is_setting" (top 27) .none 274 fd_is_setting := ⟨⟨_, _, _, _, _, _, _, _, _, rfl, (u67 w), (u68 w)⟩, (u69 w)⟩
theorem b_is_setting (w : World) : Binds (κ w) fd_is_setting ["vault", "thing"] [] := Binds.all fun us hl => by obtain ⟨a, b, rfl⟩ := ln2 hl; rfl
def fd_need_setting : FuncData := fnOf "need_setting" "need_setting" (defArgs (top 28)) (defBody (top 28)) (defScope (top 28)) .none .none .none (HD.st "dialvault.vault" 405) none (.ref 280) .none
theorem u70 (w : World) : (κ w).lookup 281 = some ⟨.type "function", none, .func fd_need_setting, ⟨[]⟩⟩ := by kernel_rfl
theorem u71 (w : World) : codeIn (κ w) (.ref 280) "need_setting" = true := by kernel_rfl
theorem u72 (w : World) : keepIn (κ w) (.ref 281) = true := by kernel_rfl
theorem D_need_setting (w : World) : FunD (κ w) "need_setting" "need_setting" (top 28) .none 281 fd_need_setting := ⟨⟨_, _, _, _, _, _, _, _, _, rfl, (u70 w), (u71 w)⟩, (u72 w)⟩
theorem b_need_setting (w : World) : Binds (κ w) fd_need_setting ["vault", "thing"] [] := Binds.all fun us hl => by obtain ⟨a, b, rfl⟩ := ln2 hl; rfl
def fd_weigh : FuncData := fnOf "weigh" "weigh" (defArgs (top 30)) (defBody (top 30)) (defScope (top 30)) .none .none .none (HD.st "dialvault.papers" 534) none (.ref 285) .none
theorem u73 (w : World) : (κ w).lookup 286 = some ⟨.type "function", none, .func fd_weigh, ⟨[]⟩⟩ := by kernel_rfl
theorem u74 (w : World) : codeIn (κ w) (.ref 285) "weigh" = true := by kernel_rfl
theorem u75 (w : World) : keepIn (κ w) (.ref 286) = true := by kernel_rfl
theorem D_weigh (w : World) : FunD (κ w) "weigh" "weigh" (top 30) .none 286 fd_weigh := ⟨⟨_, _, _, _, _, _, _, _, _, rfl, (u73 w), (u74 w)⟩, (u75 w)⟩
theorem b_weigh (w : World) : Binds (κ w) fd_weigh ["vault", "weights", "setting"] [] := Binds.all fun us hl => by obtain ⟨a, b, c, rfl⟩ := ln3 hl; rfl
def fd_weighs_no_lever : FuncData := fnOf "weighs_no_lever" "weighs_no_lever" (defArgs (top 31)) (defBody (top 31)) (defScope (top 31)) .none .none .none (HD.st "dialvault.papers" 534) none (.ref 290) .none
theorem u76 (w : World) : (κ w).lookup 291 = some ⟨.type "function", none, .func fd_weighs_no_lever, ⟨[]⟩⟩ := by kernel_rfl
theorem u77 (w : World) : codeIn (κ w) (.ref 290) "weighs_no_lever" = true := by kernel_rfl
theorem u78 (w : World) : keepIn (κ w) (.ref 291) = true := by kernel_rfl
theorem D_weighs_no_lever (w : World) : FunD (κ w) "weighs_no_lever" "weighs_no_lever" (top 31) .none 291 fd_weighs_no_lever := ⟨⟨_, _, _, _, _, _, _, _, _, rfl, (u76 w), (u77 w)⟩, (u78 w)⟩
theorem b_weighs_no_lever (w : World) : Binds (κ w) fd_weighs_no_lever ["vault", "weights"] [] := Binds.all fun us hl => by obtain ⟨a, b, rfl⟩ := ln2 hl; rfl
def fd_is_still : FuncData := fnOf "is_still" "is_still" (defArgs (top 33)) (defBody (top 33)) (defScope (top 33)) .none .none .none (HD.st "dialvault.stills" 548) none (.ref 297) .none
theorem u79 (w : World) : (κ w).lookup 298 = some ⟨.type "function", none, .func fd_is_still, ⟨[]⟩⟩ := by kernel_rfl
theorem u80 (w : World) : codeIn (κ w) (.ref 297) "is_still" = true := by kernel_rfl
theorem u81 (w : World) : keepIn (κ w) (.ref 298) = true := by kernel_rfl
theorem D_is_still (w : World) : FunD (κ w) "is_still" "is_still" (top 33) .none 298 fd_is_still := ⟨⟨_, _, _, _, _, _, _, _, _, rfl, (u79 w), (u80 w)⟩, (u81 w)⟩
theorem b_is_still (w : World) : Binds (κ w) fd_is_still ["vault", "thing"] [] := Binds.all fun us hl => by obtain ⟨a, b, rfl⟩ := ln2 hl; rfl
def fd_law : FuncData := fnOf "law" "law" (defArgs (top 42)) (defBody (top 42)) (defScope (top 42)) .none .none .none (HD.st "law_dialvault_k41_still_or_not" 558) none (.ref 347) .none
theorem u82 (w : World) : (κ w).lookup 348 = some ⟨.type "function", none, .func fd_law, ⟨[]⟩⟩ := by kernel_rfl
theorem u83 (w : World) : codeIn (κ w) (.ref 347) "law" = true := by kernel_rfl
theorem u84 (w : World) : keepIn (κ w) (.ref 348) = true := by kernel_rfl
theorem D_law (w : World) : FunD (κ w) "law" "law" (top 42) .none 348 fd_law := ⟨⟨_, _, _, _, _, _, _, _, _, rfl, (u82 w), (u83 w)⟩, (u84 w)⟩
theorem u85 (w : World) : findIn (κ w) (.ref 136) "__getattribute__" = some (some (.builtin "BaseException.__getattribute__")) := by kernel_rfl
theorem u86 (w : World) : findIn (κ w) (.ref 136) "__getattr__" = some none := by kernel_rfl
theorem u87 (w : World) : hasDictIn (κ w) 136 = true := by kernel_rfl
theorem u88 (w : World) : findIn (κ w) (.ref 136) "__setattr__" = some (some (.builtin "object.__setattr__")) := by kernel_rfl
theorem u89 (w : World) : mroIn (κ w) 136 (.type "BaseException") = some true := by kernel_rfl
theorem u90 (w : World) : mroIn (κ w) 136 (.type "object") = some true := by kernel_rfl
theorem u91 (w : World) : findIn (κ w) (.ref 136) "__class__" = some (some (.builtin "object.__class__")) := by kernel_rfl
theorem u92 (w : World) : specialIn (κ w) (.builtin "object.__class__") "__get__" = some (some (.builtin "getset_descriptor.__get__")) := by kernel_rfl
theorem u93 (w : World) : takesIn (κ w) (.builtin "object.__class__") = some true := by kernel_rfl
theorem EC_NoSetting (w : World) : ECls (κ w) C_NoSetting := ⟨(u85 w), (u86 w), (u87 w), (u88 w), (u89 w), (u90 w), (u91 w), (u92 w), (u93 w)⟩
theorem u94 (w : World) : typeIn (κ w) (.ref 136) = some (.type "type") := by kernel_rfl
theorem u95 (w : World) : keepIn (κ w) (.ref 136) = true := by kernel_rfl
theorem u96 (w : World) : nsIn (κ w) mainGlobals "NoSetting" = some (some (.ref 136)) := by kernel_rfl
theorem u97 (w : World) : excIn (κ w) 136 valMro "ValueError.__new__" = true := by kernel_rfl
theorem u98 (w : World) : findIn (κ w) (.ref 155) "__getattribute__" = some (some (.builtin "BaseException.__getattribute__")) := by kernel_rfl
theorem u99 (w : World) : findIn (κ w) (.ref 155) "__getattr__" = some none := by kernel_rfl
theorem u100 (w : World) : hasDictIn (κ w) 155 = true := by kernel_rfl
theorem u101 (w : World) : findIn (κ w) (.ref 155) "__setattr__" = some (some (.builtin "object.__setattr__")) := by kernel_rfl
theorem u102 (w : World) : mroIn (κ w) 155 (.type "BaseException") = some true := by kernel_rfl
theorem u103 (w : World) : mroIn (κ w) 155 (.type "object") = some true := by kernel_rfl
theorem u104 (w : World) : findIn (κ w) (.ref 155) "__class__" = some (some (.builtin "object.__class__")) := by kernel_rfl
theorem u105 (w : World) : specialIn (κ w) (.builtin "object.__class__") "__get__" = some (some (.builtin "getset_descriptor.__get__")) := by kernel_rfl
theorem u106 (w : World) : takesIn (κ w) (.builtin "object.__class__") = some true := by kernel_rfl
theorem EC_TooMany (w : World) : ECls (κ w) C_TooMany := ⟨(u98 w), (u99 w), (u100 w), (u101 w), (u102 w), (u103 w), (u104 w), (u105 w), (u106 w)⟩
theorem u107 (w : World) : typeIn (κ w) (.ref 155) = some (.type "type") := by kernel_rfl
theorem u108 (w : World) : keepIn (κ w) (.ref 155) = true := by kernel_rfl
theorem u109 (w : World) : nsIn (κ w) mainGlobals "TooMany" = some (some (.ref 155)) := by kernel_rfl
theorem u110 (w : World) : excIn (κ w) 155 valMro "ValueError.__new__" = true := by kernel_rfl
theorem u111 (w : World) : findIn (κ w) (.ref 65) "__getattribute__" = some (some (.builtin "BaseException.__getattribute__")) := by kernel_rfl
theorem u112 (w : World) : findIn (κ w) (.ref 65) "__getattr__" = some none := by kernel_rfl
theorem u113 (w : World) : hasDictIn (κ w) 65 = true := by kernel_rfl
theorem u114 (w : World) : findIn (κ w) (.ref 65) "__setattr__" = some (some (.builtin "object.__setattr__")) := by kernel_rfl
theorem u115 (w : World) : mroIn (κ w) 65 (.type "BaseException") = some true := by kernel_rfl
theorem u116 (w : World) : mroIn (κ w) 65 (.type "object") = some true := by kernel_rfl
theorem u117 (w : World) : findIn (κ w) (.ref 65) "__class__" = some (some (.builtin "object.__class__")) := by kernel_rfl
theorem u118 (w : World) : specialIn (κ w) (.builtin "object.__class__") "__get__" = some (some (.builtin "getset_descriptor.__get__")) := by kernel_rfl
theorem u119 (w : World) : takesIn (κ w) (.builtin "object.__class__") = some true := by kernel_rfl
theorem EC_NoDial (w : World) : ECls (κ w) C_NoDial := ⟨(u111 w), (u112 w), (u113 w), (u114 w), (u115 w), (u116 w), (u117 w), (u118 w), (u119 w)⟩
theorem u120 (w : World) : typeIn (κ w) (.ref 65) = some (.type "type") := by kernel_rfl
theorem u121 (w : World) : keepIn (κ w) (.ref 65) = true := by kernel_rfl
theorem u122 (w : World) : nsIn (κ w) mainGlobals "NoDial" = some (some (.ref 65)) := by kernel_rfl
def fd_X_NoDial : FuncData := fnOf "__init__" "NoDial.__init__" (defArgs (inClass (top 3) 0)) (defBody (inClass (top 3) 0)) (defScope (inClass (top 3) 0)) .none .none .none (HD.st "dialvault.errors" 194) none (.ref 54) .none
theorem u123 (w : World) : (κ w).lookup 55 = some ⟨.type "function", none, .func fd_X_NoDial, ⟨[]⟩⟩ := by kernel_rfl
theorem u124 (w : World) : codeIn (κ w) (.ref 54) "NoDial.__init__" = true := by kernel_rfl
theorem b_X_NoDial (w : World) : Binds (κ w) fd_X_NoDial ["self", "dial"] [] := Binds.all fun us hl => by obtain ⟨a, b, rfl⟩ := ln2 hl; rfl
theorem scX_NoDial : FnScope ["self", "dial"] ["self", "dial"] (defScope (inClass (top 3) 0)) := ⟨rfl, rfl, rfl, by decide +kernel, rfl, by decide +kernel, by decide +kernel⟩
theorem u126 (w : World) : ((clsIn (κ w) 65).any fun cd => overVal cd.mro) = true := by kernel_rfl
theorem u127 (w : World) : findIn (κ w) (.ref 65) "dial" = some none := by kernel_rfl
theorem u128 (w : World) : excInI (κ w) 65 "ValueError.__new__" 55 = true := by kernel_rfl
theorem u129 (w : World) : isFn (κ w) (.ref 55) = true := by kernel_rfl
theorem okX_NoDial {P : Program} {w : World} {mg : Str → Option Value} {base : Heap} : FnOk P w (κ w) mg base (CXV P w) 1 55 fd_X_NoDial ["self", "dial"] (spX1 (κ w) C_NoDial "dial") :=
  init1_ok (n0 := "self") (n1 := "dial") (fl := "dial") (u123 w) (u124 w) scX_NoDial (EC_NoDial w) (u126 w) (u127 w) (by first | exact .inl rfl | exact .inr (.inl rfl)) (by first | exact .inl rfl | exact .inr (.inl rfl)) (by decide) (by decide) (by decide) (by decide) (fun _ => rfl)
theorem u130 (w : World) : findIn (κ w) (.ref 91) "__getattribute__" = some (some (.builtin "BaseException.__getattribute__")) := by kernel_rfl
theorem u131 (w : World) : findIn (κ w) (.ref 91) "__getattr__" = some none := by kernel_rfl
theorem u132 (w : World) : hasDictIn (κ w) 91 = true := by kernel_rfl
theorem u133 (w : World) : findIn (κ w) (.ref 91) "__setattr__" = some (some (.builtin "object.__setattr__")) := by kernel_rfl
theorem u134 (w : World) : mroIn (κ w) 91 (.type "BaseException") = some true := by kernel_rfl
theorem u135 (w : World) : mroIn (κ w) 91 (.type "object") = some true := by kernel_rfl
theorem u136 (w : World) : findIn (κ w) (.ref 91) "__class__" = some (some (.builtin "object.__class__")) := by kernel_rfl
theorem u137 (w : World) : specialIn (κ w) (.builtin "object.__class__") "__get__" = some (some (.builtin "getset_descriptor.__get__")) := by kernel_rfl
theorem u138 (w : World) : takesIn (κ w) (.builtin "object.__class__") = some true := by kernel_rfl
theorem EC_NoLever (w : World) : ECls (κ w) C_NoLever := ⟨(u130 w), (u131 w), (u132 w), (u133 w), (u134 w), (u135 w), (u136 w), (u137 w), (u138 w)⟩
theorem u139 (w : World) : typeIn (κ w) (.ref 91) = some (.type "type") := by kernel_rfl
theorem u140 (w : World) : keepIn (κ w) (.ref 91) = true := by kernel_rfl
theorem u141 (w : World) : nsIn (κ w) mainGlobals "NoLever" = some (some (.ref 91)) := by kernel_rfl
def fd_X_NoLever : FuncData := fnOf "__init__" "NoLever.__init__" (defArgs (inClass (top 4) 0)) (defBody (inClass (top 4) 0)) (defScope (inClass (top 4) 0)) .none .none .none (HD.st "dialvault.errors" 194) none (.ref 80) .none
theorem u142 (w : World) : (κ w).lookup 81 = some ⟨.type "function", none, .func fd_X_NoLever, ⟨[]⟩⟩ := by kernel_rfl
theorem u143 (w : World) : codeIn (κ w) (.ref 80) "NoLever.__init__" = true := by kernel_rfl
theorem b_X_NoLever (w : World) : Binds (κ w) fd_X_NoLever ["self", "lever"] [] := Binds.all fun us hl => by obtain ⟨a, b, rfl⟩ := ln2 hl; rfl
theorem scX_NoLever : FnScope ["self", "lever"] ["self", "lever"] (defScope (inClass (top 4) 0)) := ⟨rfl, rfl, rfl, by decide +kernel, rfl, by decide +kernel, by decide +kernel⟩
theorem u145 (w : World) : ((clsIn (κ w) 91).any fun cd => overVal cd.mro) = true := by kernel_rfl
theorem u146 (w : World) : findIn (κ w) (.ref 91) "lever" = some none := by kernel_rfl
theorem u147 (w : World) : excInI (κ w) 91 "ValueError.__new__" 81 = true := by kernel_rfl
theorem u148 (w : World) : isFn (κ w) (.ref 81) = true := by kernel_rfl
theorem okX_NoLever {P : Program} {w : World} {mg : Str → Option Value} {base : Heap} : FnOk P w (κ w) mg base (CXV P w) 1 81 fd_X_NoLever ["self", "lever"] (spX1 (κ w) C_NoLever "lever") :=
  init1_ok (n0 := "self") (n1 := "lever") (fl := "lever") (u142 w) (u143 w) scX_NoLever (EC_NoLever w) (u145 w) (u146 w) (by first | exact .inl rfl | exact .inr (.inl rfl)) (by first | exact .inl rfl | exact .inr (.inl rfl)) (by decide) (by decide) (by decide) (by decide) (fun _ => rfl)
theorem u149 (w : World) : findIn (κ w) (.ref 117) "__getattribute__" = some (some (.builtin "BaseException.__getattribute__")) := by kernel_rfl
theorem u150 (w : World) : findIn (κ w) (.ref 117) "__getattr__" = some none := by kernel_rfl
theorem u151 (w : World) : hasDictIn (κ w) 117 = true := by kernel_rfl
theorem u152 (w : World) : findIn (κ w) (.ref 117) "__setattr__" = some (some (.builtin "object.__setattr__")) := by kernel_rfl
theorem u153 (w : World) : mroIn (κ w) 117 (.type "BaseException") = some true := by kernel_rfl
theorem u154 (w : World) : mroIn (κ w) 117 (.type "object") = some true := by kernel_rfl
theorem u155 (w : World) : findIn (κ w) (.ref 117) "__class__" = some (some (.builtin "object.__class__")) := by kernel_rfl
theorem u156 (w : World) : specialIn (κ w) (.builtin "object.__class__") "__get__" = some (some (.builtin "getset_descriptor.__get__")) := by kernel_rfl
theorem u157 (w : World) : takesIn (κ w) (.builtin "object.__class__") = some true := by kernel_rfl
theorem EC_NoPrice (w : World) : ECls (κ w) C_NoPrice := ⟨(u149 w), (u150 w), (u151 w), (u152 w), (u153 w), (u154 w), (u155 w), (u156 w), (u157 w)⟩
theorem u158 (w : World) : typeIn (κ w) (.ref 117) = some (.type "type") := by kernel_rfl
theorem u159 (w : World) : keepIn (κ w) (.ref 117) = true := by kernel_rfl
theorem u160 (w : World) : nsIn (κ w) mainGlobals "NoPrice" = some (some (.ref 117)) := by kernel_rfl
def fd_X_NoPrice : FuncData := fnOf "__init__" "NoPrice.__init__" (defArgs (inClass (top 5) 0)) (defBody (inClass (top 5) 0)) (defScope (inClass (top 5) 0)) .none .none .none (HD.st "dialvault.errors" 194) none (.ref 106) .none
theorem u161 (w : World) : (κ w).lookup 107 = some ⟨.type "function", none, .func fd_X_NoPrice, ⟨[]⟩⟩ := by kernel_rfl
theorem u162 (w : World) : codeIn (κ w) (.ref 106) "NoPrice.__init__" = true := by kernel_rfl
theorem b_X_NoPrice (w : World) : Binds (κ w) fd_X_NoPrice ["self", "lever"] [] := Binds.all fun us hl => by obtain ⟨a, b, rfl⟩ := ln2 hl; rfl
theorem scX_NoPrice : FnScope ["self", "lever"] ["self", "lever"] (defScope (inClass (top 5) 0)) := ⟨rfl, rfl, rfl, by decide +kernel, rfl, by decide +kernel, by decide +kernel⟩
theorem u164 (w : World) : ((clsIn (κ w) 117).any fun cd => overVal cd.mro) = true := by kernel_rfl
theorem u165 (w : World) : findIn (κ w) (.ref 117) "lever" = some none := by kernel_rfl
theorem u166 (w : World) : excInI (κ w) 117 "ValueError.__new__" 107 = true := by kernel_rfl
theorem u167 (w : World) : isFn (κ w) (.ref 107) = true := by kernel_rfl
theorem okX_NoPrice {P : Program} {w : World} {mg : Str → Option Value} {base : Heap} : FnOk P w (κ w) mg base (CXV P w) 1 107 fd_X_NoPrice ["self", "lever"] (spX1 (κ w) C_NoPrice "lever") :=
  init1_ok (n0 := "self") (n1 := "lever") (fl := "lever") (u161 w) (u162 w) scX_NoPrice (EC_NoPrice w) (u164 w) (u165 w) (by first | exact .inl rfl | exact .inr (.inl rfl)) (by first | exact .inl rfl | exact .inr (.inl rfl)) (by decide) (by decide) (by decide) (by decide) (fun _ => rfl)
theorem u168 (w : World) : plainGet (κ w) 232 Str.empty = true := by kernel_rfl
theorem u169 (w : World) : hasDictIn (κ w) 232 = true := by kernel_rfl
theorem u170 (w : World) : plainOver (κ w) 232 = true := by kernel_rfl
theorem u171 (w : World) : findIn (κ w) (.ref 232) "__setattr__" = some (some (.builtin "object.__setattr__")) := by kernel_rfl
theorem CC_Vault (w : World) : Cls (κ w) C_Vault := ⟨(u168 w), (u169 w), (u170 w), (u171 w)⟩
theorem u172 (w : World) : findIn (κ w) (.ref 232) "dial_sizes" = some none := by kernel_rfl
theorem u173 (w : World) : findIn (κ w) (.ref 232) "least_round" = some none := by kernel_rfl
theorem u174 (w : World) : findIn (κ w) (.ref 232) "lever_prices" = some none := by kernel_rfl
theorem u175 (w : World) : findIn (κ w) (.ref 232) "lever_settings" = some none := by kernel_rfl
theorem u176 (w : World) : nsIn (κ w) mainGlobals "all" = some none := by kernel_rfl
theorem u177 (w : World) : nsIn (κ w) mainGlobals "bool" = some none := by kernel_rfl
theorem u178 (w : World) : nsIn (κ w) mainGlobals "enumerate" = some none := by kernel_rfl
theorem u179 (w : World) : nsIn (κ w) mainGlobals "int" = some none := by kernel_rfl
theorem u180 (w : World) : nsIn (κ w) mainGlobals "isinstance" = some none := by kernel_rfl
theorem u181 (w : World) : nsIn (κ w) mainGlobals "len" = some none := by kernel_rfl
theorem u182 (w : World) : nsIn (κ w) mainGlobals "list" = some none := by kernel_rfl
theorem u183 (w : World) : nsIn (κ w) mainGlobals "max" = some none := by kernel_rfl
theorem u184 (w : World) : nsIn (κ w) mainGlobals "range" = some none := by kernel_rfl
theorem u185 (w : World) : nsIn (κ w) mainGlobals "sum" = some none := by kernel_rfl
theorem u186 (w : World) : nsIn (κ w) mainGlobals "tuple" = some none := by kernel_rfl
theorem u187 (w : World) : nsIn (κ w) mainGlobals "zip" = some none := by kernel_rfl
theorem u188 (w : World) : nsIn (κ w) mainGlobals "LEAST_PRICE" = some (some (.int 1 415)) := by kernel_rfl
theorem u189 (w : World) : nsIn (κ w) mainGlobals "LEAST_SIZE" = some (some (.int 2 409)) := by kernel_rfl
theorem u190 (w : World) : nsIn (κ w) mainGlobals "MOST_DIALS" = some (some (.int 6 407)) := by kernel_rfl
theorem u191 (w : World) : nsIn (κ w) mainGlobals "MOST_LEVERS" = some (some (.int 8 413)) := by kernel_rfl
theorem u192 (w : World) : nsIn (κ w) mainGlobals "MOST_PRICE" = some (some (.int 1000 417)) := by kernel_rfl
theorem u193 (w : World) : nsIn (κ w) mainGlobals "MOST_SIZE" = some (some (.int 360 411)) := by kernel_rfl
theorem u194 (w : World) : nsIn (κ w) mainGlobals "is_whole" = some (some (.ref 164)) := by kernel_rfl
theorem u195 (w : World) : nsIn (κ w) mainGlobals "is_row" = some (some (.ref 169)) := by kernel_rfl
theorem u196 (w : World) : nsIn (κ w) mainGlobals "common" = some (some (.ref 176)) := by kernel_rfl
theorem u197 (w : World) : nsIn (κ w) mainGlobals "multiple_of" = some (some (.ref 183)) := by kernel_rfl
theorem u198 (w : World) : nsIn (κ w) mainGlobals "rest_sum" = some (some (.ref 188)) := by kernel_rfl
theorem u199 (w : World) : nsIn (κ w) mainGlobals "is_within" = some (some (.ref 243)) := by kernel_rfl
theorem u200 (w : World) : nsIn (κ w) mainGlobals "need_sizes" = some (some (.ref 250)) := by kernel_rfl
theorem u201 (w : World) : nsIn (κ w) mainGlobals "need_levers" = some (some (.ref 257)) := by kernel_rfl
theorem u202 (w : World) : nsIn (κ w) mainGlobals "prices_for" = some (some (.ref 264)) := by kernel_rfl
theorem u203 (w : World) : nsIn (κ w) mainGlobals "rests" = some (some (.ref 269)) := by kernel_rfl
theorem u204 (w : World) : nsIn (κ w) mainGlobals "_law_cell" = some (some (.ref 305)) := by kernel_rfl
theorem u205 (w : World) : nsIn (κ w) mainGlobals "_law_mix" = some (some (.ref 312)) := by kernel_rfl
theorem u206 (w : World) : nsIn (κ w) mainGlobals "_law_sizes" = some (some (.ref 317)) := by kernel_rfl
theorem u207 (w : World) : nsIn (κ w) mainGlobals "_law_round" = some (some (.ref 324)) := by kernel_rfl
theorem u208 (w : World) : nsIn (κ w) mainGlobals "_law_weigh" = some (some (.ref 329)) := by kernel_rfl
theorem u209 (w : World) : nsIn (κ w) mainGlobals "_law_weights" = some (some (.ref 334)) := by kernel_rfl
theorem u210 (w : World) : nsIn (κ w) mainGlobals "_law_other" = some (some (.ref 341)) := by kernel_rfl
theorem u211 (w : World) : nsIn (κ w) mainGlobals "is_setting" = some (some (.ref 274)) := by kernel_rfl
theorem u212 (w : World) : nsIn (κ w) mainGlobals "need_setting" = some (some (.ref 281)) := by kernel_rfl
theorem u213 (w : World) : nsIn (κ w) mainGlobals "weigh" = some (some (.ref 286)) := by kernel_rfl
theorem u214 (w : World) : nsIn (κ w) mainGlobals "weighs_no_lever" = some (some (.ref 291)) := by kernel_rfl
theorem u215 (w : World) : nsIn (κ w) mainGlobals "is_still" = some (some (.ref 298)) := by kernel_rfl
theorem u217 (w : World) : findIn (κ w) (.ref 232) "__init__" = some (some (.ref 201)) := by kernel_rfl
theorem u218 (w : World) : isFn (κ w) (.ref 201) = true := by kernel_rfl
theorem u219 (w : World) : makesIn (κ w) 232 = true := by kernel_rfl
theorem u220 (w : World) : keepIn (κ w) (.ref 232) = true := by kernel_rfl
theorem u221 (w : World) : nsIn (κ w) mainGlobals "Vault" = some (some (.ref 232)) := by kernel_rfl
theorem u222 (w : World) : (κ w).lookup 196 = some (HD.tu [.none]) := by kernel_rfl
theorem b_Vault_init (w : World) : Binds (κ w) fd_Vault_init ["self", "sizes", "levers", "prices"] [.none] := (D_Vault_init w).binds (u222 w) rfl fun _ _ _ _ _ _ us hl => by obtain ⟨a, b, c, rfl⟩ := ln3 (show _ = 3 from (by simpa using hl)); exact ⟨_, rfl, rfl⟩
theorem u223 (w : World) : findIn (κ w) (.ref 232) "sizes" = some (some (.ref 208)) := by kernel_rfl
theorem u224 (w : World) : isFn (κ w) (.ref 208) = true := by kernel_rfl
theorem u225 (w : World) : findIn (κ w) (.ref 232) "levers" = some (some (.ref 215)) := by kernel_rfl
theorem u226 (w : World) : isFn (κ w) (.ref 215) = true := by kernel_rfl
theorem u227 (w : World) : findIn (κ w) (.ref 232) "prices" = some (some (.ref 222)) := by kernel_rfl
theorem u228 (w : World) : isFn (κ w) (.ref 222) = true := by kernel_rfl
theorem u229 (w : World) : findIn (κ w) (.ref 232) "around" = some (some (.ref 229)) := by kernel_rfl
theorem u230 (w : World) : isFn (κ w) (.ref 229) = true := by kernel_rfl
theorem txt {w : World} {h : Heap} {mg : Str → Option Value} (X : PySem.W.Frag.In (κ w) h) (G : h.Ns mainGlobals mg) : Txt (κ w) mg where
  z_all := mg_none_of X G (u176 w)
  z_bool := mg_none_of X G (u177 w)
  z_enumerate := mg_none_of X G (u178 w)
  z_int := mg_none_of X G (u179 w)
  z_isinstance := mg_none_of X G (u180 w)
  z_len := mg_none_of X G (u181 w)
  z_list := mg_none_of X G (u182 w)
  z_max := mg_none_of X G (u183 w)
  z_range := mg_none_of X G (u184 w)
  z_sum := mg_none_of X G (u185 w)
  z_tuple := mg_none_of X G (u186 w)
  z_zip := mg_none_of X G (u187 w)
  g_LEAST_PRICE := ⟨_, mg_of X G (u188 w), ⟨_, rfl⟩⟩
  g_LEAST_SIZE := ⟨_, mg_of X G (u189 w), ⟨_, rfl⟩⟩
  g_MOST_DIALS := ⟨_, mg_of X G (u190 w), ⟨_, rfl⟩⟩
  g_MOST_LEVERS := ⟨_, mg_of X G (u191 w), ⟨_, rfl⟩⟩
  g_MOST_PRICE := ⟨_, mg_of X G (u192 w), ⟨_, rfl⟩⟩
  g_MOST_SIZE := ⟨_, mg_of X G (u193 w), ⟨_, rfl⟩⟩
  c_Vault := CC_Vault w
  e_NoSetting := ⟨(u97 w), EC_NoSetting w, (u94 w), (u95 w), mg_of X G (u96 w)⟩
  e_TooMany := ⟨(u110 w), EC_TooMany w, (u107 w), (u108 w), mg_of X G (u109 w)⟩
  n_Vault_dial_sizes := (u172 w)
  n_Vault_least_round := (u173 w)
  n_Vault_lever_prices := (u174 w)
  n_Vault_lever_settings := (u175 w)
  f_dial_sizes := fun C h => by
    obtain rfl := eq_of_beq h
    · exact ⟨CC_Vault w, (u172 w)⟩
  f_least_round := fun C h => by
    obtain rfl := eq_of_beq h
    · exact ⟨CC_Vault w, (u173 w)⟩
  f_lever_prices := fun C h => by
    obtain rfl := eq_of_beq h
    · exact ⟨CC_Vault w, (u174 w)⟩
  f_lever_settings := fun C h => by
    obtain rfl := eq_of_beq h
    · exact ⟨CC_Vault w, (u175 w)⟩
theorem all_ok {w : World} {h : Heap} {mg : Str → Option Value} (X : PySem.W.Frag.In (κ w) h) (G : h.Ns mainGlobals mg) (base : Heap) : FnOk HD.pw w (κ w) mg base (CXV HD.pw w) 8 348 fd_law ["_law_script"] (spV 1 s_law) := by
  have T := txt X G
  have x_NoDial : OkE1 HD.pw w (κ w) mg base C_NoDial "NoDial" "dial" := ⟨⟨55, fd_X_NoDial, ["self", "dial"], (u128 w), (u129 w), okX_NoDial, b_X_NoDial w⟩, EC_NoDial w, (u120 w), (u121 w), mg_of X G (u122 w)⟩
  have x_NoLever : OkE1 HD.pw w (κ w) mg base C_NoLever "NoLever" "lever" := ⟨⟨81, fd_X_NoLever, ["self", "lever"], (u147 w), (u148 w), okX_NoLever, b_X_NoLever w⟩, EC_NoLever w, (u139 w), (u140 w), mg_of X G (u141 w)⟩
  have x_NoPrice : OkE1 HD.pw w (κ w) mg base C_NoPrice "NoPrice" "lever" := ⟨⟨107, fd_X_NoPrice, ["self", "lever"], (u166 w), (u167 w), okX_NoPrice, b_X_NoPrice w⟩, EC_NoPrice w, (u158 w), (u159 w), mg_of X G (u160 w)⟩
  have o_is_whole : OkF HD.pw w (κ w) mg base 1 "is_whole" 1 (runD 1 g_is_whole) := ⟨⟨164, fd_is_whole, ["thing"], mg_of X G (u194 w), (u3 w), rfl, b_is_whole w, ok_is_whole (D_is_whole w) T ⟩⟩
  have o_is_row : OkF HD.pw w (κ w) mg base 2 "is_row" 2 (runD 2 g_is_row) := ⟨⟨169, fd_is_row, ["thing", "length"], mg_of X G (u195 w), (u6 w), rfl, b_is_row w, ok_is_row (D_is_row w) T o_is_whole⟩⟩
  have o_common : OkF HD.pw w (κ w) mg base 1 "common" 2 (runD 6 g_common) := ⟨⟨176, fd_common, ["one", "other"], mg_of X G (u196 w), (u9 w), rfl, b_common w, ok_common (D_common w) T ⟩⟩
  have o_multiple_of : OkF HD.pw w (κ w) mg base 2 "multiple_of" 1 (runD 3 g_multiple_of) := ⟨⟨183, fd_multiple_of, ["numbers"], mg_of X G (u197 w), (u12 w), rfl, b_multiple_of w, ok_multiple_of (D_multiple_of w) T o_common⟩⟩
  have o_rest_sum : OkF HD.pw w (κ w) mg base 1 "rest_sum" 3 (runD 3 g_rest_sum) := ⟨⟨188, fd_rest_sum, ["numbers", "others", "by"], mg_of X G (u198 w), (u15 w), rfl, b_rest_sum w, ok_rest_sum (D_rest_sum w) T ⟩⟩
  have o_is_within : OkF HD.pw w (κ w) mg base 2 "is_within" 3 (runD 3 g_is_within) := ⟨⟨243, fd_is_within, ["thing", "least", "most"], mg_of X G (u199 w), (u18 w), rfl, b_is_within w, ok_is_within (D_is_within w) T o_is_whole⟩⟩
  have o_need_sizes : OkF HD.pw w (κ w) mg base 3 "need_sizes" 1 (runD 3 g_need_sizes) := ⟨⟨250, fd_need_sizes, ["sizes"], mg_of X G (u200 w), (u21 w), rfl, b_need_sizes w, ok_need_sizes (D_need_sizes w) T x_NoDial o_is_within⟩⟩
  have o_need_levers : OkF HD.pw w (κ w) mg base 3 "need_levers" 2 (runD 4 g_need_levers) := ⟨⟨257, fd_need_levers, ["levers", "dials"], mg_of X G (u201 w), (u24 w), rfl, b_need_levers w, ok_need_levers (D_need_levers w) T o_is_row x_NoLever⟩⟩
  have o_prices_for : OkF HD.pw w (κ w) mg base 3 "prices_for" 2 (runD 3 g_prices_for) := ⟨⟨264, fd_prices_for, ["levers", "prices"], mg_of X G (u202 w), (u27 w), rfl, b_prices_for w, ok_prices_for (D_prices_for w) T x_NoPrice o_is_within⟩⟩
  have o_rests : OkF HD.pw w (κ w) mg base 1 "rests" 2 (runD 2 g_rests) := ⟨⟨269, fd_rests, ["numbers", "sizes"], mg_of X G (u203 w), (u30 w), rfl, b_rests w, ok_rests (D_rests w) T ⟩⟩
  have o__law_cell : OkF HD.pw w (κ w) mg base 1 "_law_cell" 2 (runD 2 g__law_cell) := ⟨⟨305, fd__law_cell, ["_law_script", "_law_k"], mg_of X G (u204 w), (u33 w), rfl, b__law_cell w, ok__law_cell (D__law_cell w) T ⟩⟩
  have o__law_mix : OkF HD.pw w (κ w) mg base 1 "_law_mix" 2 (runD 3 g__law_mix) := ⟨⟨312, fd__law_mix, ["_law_cell_here", "_law_k"], mg_of X G (u205 w), (u36 w), rfl, b__law_mix w, ok__law_mix (D__law_mix w) T ⟩⟩
  have o__law_sizes : OkF HD.pw w (κ w) mg base 2 "_law_sizes" 1 (runD 2 g__law_sizes) := ⟨⟨317, fd__law_sizes, ["_law_cell_here"], mg_of X G (u206 w), (u39 w), rfl, b__law_sizes w, ok__law_sizes (D__law_sizes w) T o__law_mix⟩⟩
  have o__law_round : OkF HD.pw w (κ w) mg base 1 "_law_round" 1 (runD 5 g__law_round) := ⟨⟨324, fd__law_round, ["_law_sizes_here"], mg_of X G (u207 w), (u42 w), rfl, b__law_round w, ok__law_round (D__law_round w) T ⟩⟩
  have o__law_weigh : OkF HD.pw w (κ w) mg base 2 "_law_weigh" 3 (runD 4 g__law_weigh) := ⟨⟨329, fd__law_weigh, ["_law_weights_here", "_law_setting", "_law_sizes_here"], mg_of X G (u208 w), (u45 w), rfl, b__law_weigh w, ok__law_weigh (D__law_weigh w) T o__law_round⟩⟩
  have o__law_weights : OkF HD.pw w (κ w) mg base 2 "_law_weights" 3 (runD 5 g__law_weights) := ⟨⟨334, fd__law_weights, ["_law_cell_here", "_law_sizes_here", "_law_share"], mg_of X G (u209 w), (u48 w), rfl, b__law_weights w, ok__law_weights (D__law_weights w) T o__law_mix⟩⟩
  have o__law_other : OkF HD.pw w (κ w) mg base 1 "_law_other" 3 (runD 5 g__law_other) := ⟨⟨341, fd__law_other, ["_law_cell_here", "_law_weights_here", "_law_sizes_here"], mg_of X G (u210 w), (u51 w), rfl, b__law_other w, ok__law_other (D__law_other w) T ⟩⟩
  have o_Vault_init : OkI HD.pw w (κ w) mg base C_Vault 4 "Vault" 4 [.non] i_Vault := ⟨⟨201, fd_Vault_init, ["self", "sizes", "levers", "prices"], [.none], [.non], mg_of X G (u221 w), ⟨(u219 w), (u217 w), (u218 w), (u220 w)⟩, b_Vault_init w, (.cons rfl .nil), fun _ => (.cons .non .nil), ok_Vault_init (D_Vault_init w) T o_need_sizes o_need_levers o_rests o_prices_for o_multiple_of⟩⟩
  have o_Vault_sizes : OkM HD.pw w (κ w) mg base C_Vault 1 "sizes" 1 (runD 1 g_Vault_sizes) := ⟨⟨208, fd_Vault_sizes, ["self"], CC_Vault w, ⟨(u223 w), (u224 w), (u57 w)⟩, b_Vault_sizes w, ok_Vault_sizes (D_Vault_sizes w) T ⟩⟩
  have o_Vault_levers : OkM HD.pw w (κ w) mg base C_Vault 1 "levers" 1 (runD 1 g_Vault_levers) := ⟨⟨215, fd_Vault_levers, ["self"], CC_Vault w, ⟨(u225 w), (u226 w), (u60 w)⟩, b_Vault_levers w, ok_Vault_levers (D_Vault_levers w) T ⟩⟩
  have o_Vault_prices : OkM HD.pw w (κ w) mg base C_Vault 1 "prices" 1 (runD 1 g_Vault_prices) := ⟨⟨222, fd_Vault_prices, ["self"], CC_Vault w, ⟨(u227 w), (u228 w), (u63 w)⟩, b_Vault_prices w, ok_Vault_prices (D_Vault_prices w) T ⟩⟩
  have o_Vault_around : OkM HD.pw w (κ w) mg base C_Vault 1 "around" 1 (runD 1 g_Vault_around) := ⟨⟨229, fd_Vault_around, ["self"], CC_Vault w, ⟨(u229 w), (u230 w), (u66 w)⟩, b_Vault_around w, ok_Vault_around (D_Vault_around w) T ⟩⟩
  have o_is_setting : OkF HD.pw w (κ w) mg base 3 "is_setting" 2 (runD 3 g_is_setting) := ⟨⟨274, fd_is_setting, ["vault", "thing"], mg_of X G (u211 w), (u69 w), rfl, b_is_setting w, ok_is_setting (D_is_setting w) T o_Vault_sizes o_is_row⟩⟩
  have o_need_setting : OkF HD.pw w (κ w) mg base 4 "need_setting" 2 (runD 2 g_need_setting) := ⟨⟨281, fd_need_setting, ["vault", "thing"], mg_of X G (u212 w), (u72 w), rfl, b_need_setting w, ok_need_setting (D_need_setting w) T o_is_setting⟩⟩
  have o_weigh : OkF HD.pw w (κ w) mg base 5 "weigh" 3 (runD 5 g_weigh) := ⟨⟨286, fd_weigh, ["vault", "weights", "setting"], mg_of X G (u213 w), (u75 w), rfl, b_weigh w, ok_weigh (D_weigh w) T o_need_setting o_Vault_around o_Vault_sizes o_rest_sum⟩⟩
  have o_weighs_no_lever : OkF HD.pw w (κ w) mg base 6 "weighs_no_lever" 2 (runD 2 g_weighs_no_lever) := ⟨⟨291, fd_weighs_no_lever, ["vault", "weights"], mg_of X G (u214 w), (u78 w), rfl, b_weighs_no_lever w, ok_weighs_no_lever (D_weighs_no_lever w) T o_Vault_levers o_weigh⟩⟩
  have o_is_still : OkF HD.pw w (κ w) mg base 7 "is_still" 2 (runD 2 g_is_still) := ⟨⟨298, fd_is_still, ["vault", "thing"], mg_of X G (u215 w), (u81 w), rfl, b_is_still w, ok_is_still (D_is_still w) T o_is_setting o_weighs_no_lever⟩⟩
  exact ok_law (D_law w) T o__law_cell o__law_sizes o__law_mix o_Vault_init o__law_weights o__law_weigh o_is_still o__law_other o_Vault_levers
theorem u231 (w : World) : freeL (κ w) = true := by kernel_rfl
theorem u232 (w : World) : nsIn (κ w) mainGlobals "law" = some (some (.ref 348)) := by kernel_rfl
end K41
open PySem PySem.W
theorem K41.hold (said : PySem.Challenge.rw_dialvault_k41_still_or_not.wellSaid = true) (hsem : ∀ ns : List Int, ns.length ≤ 63 → (∀ i ∈ ns, Builtin.Int.intBits i ≤ 1048576) → K41.s_law [.scr (ns.map L2.PV.int)] = L2.M.ok (.bl true)) : PySem.Challenge.rw_dialvault_k41_still_or_not.Holds := by
  refine holds_law said fun said => ?_
  refine holds_open (q := HD.vw) (loose := HD.loose) (Xt := HD.Xt) (XP := XL HD.vw []) (Yf := Hook.obs HD.hook) (Ya := Hook.val HD.hook) (YP := Hook.says HD.hook) HD.hleft (Hook.of HD.hook) (Hook.keeps HD.hook) (fun s e => xl_of s (Bool.and_eq_true_iff.mp e).1) XL.keeps (by rfl) (by rfl) (by rfl) (fun s e => recFacts_of (Bool.and_eq_true_iff.mp e).2) (by rfl) said (by decide +kernel) ⟨rfl, rfl, rfl, rfl, rfl, by decide +kernel⟩ ?hw ?hc
  case hw => w_witness2
  refine L2.walk_bitsV (l := PySem.Challenge.rw_dialvault_k41_still_or_not) (n := 63) (k := 8) (x := "_law_script") (K := HD.K) (sem := K41.s_law) rfl (by decide) rfl ⟨rfl, by decide, by decide⟩ (fun w h Y => PySem.W.kIn_of Y) (fun w => K41.u231 w) (fun w mg fa h X G hmg => ?_) hsem
  have e := hmg.symm.trans (PySem.W.mg_of X G (K41.u232 w))
  cases e
  exact ⟨K41.fd_law, fun s v => .of_eq rfl, fun base X' G' => K41.all_ok X' G' base⟩
namespace Eu
theorem fmod_spec (a b : Int) (hb : b ≠ 0) : (a - a.fdiv b * b).natAbs < b.natAbs ∧ 0 ≤ (a - a.fdiv b * b) * b ∧ (0 ≤ a * b → a.natAbs = (a.fdiv b).natAbs * b.natAbs + (a - a.fdiv b * b).natAbs) := by
  -- the case of a positive divisor, over the Euclidean division
  have pos : ∀ (a b : Int), 0 < b → (a - a / b * b).natAbs < b.natAbs ∧ 0 ≤ (a - a / b * b) * b ∧ (0 ≤ a * b → a.natAbs = (a / b).natAbs * b.natAbs + (a - a / b * b).natAbs) := by
    intro a b hb
    have e : a - a / b * b = a % b := by
      have h := Int.mul_ediv_add_emod a b
      rw [Int.mul_comm] at h
      omega
    have h0 := Int.emod_nonneg a (by omega : b ≠ 0)
    have h1 := Int.emod_lt_of_pos a hb
    rw [e]
    refine ⟨by omega, Int.mul_nonneg h0 (by omega), fun hab => ?_⟩
    have ha : 0 ≤ a := by
      rcases Int.lt_or_le a 0 with h | h
      · have := Int.mul_neg_of_neg_of_pos h hb
        omega
      · exact h
    have hq : 0 ≤ a / b := Int.ediv_nonneg ha (by omega)
    have h2 := Int.mul_ediv_add_emod a b
    have h3 : ((a / b).natAbs * b.natAbs : Nat) = (b * (a / b)).natAbs := by
      rw [Int.natAbs_mul, Nat.mul_comm]
    rw [h3]
    have h4 : 0 ≤ b * (a / b) := Int.mul_nonneg (by omega) hq
    omega
  rcases Int.lt_or_le 0 b with h | h
  · rw [Int.fdiv_eq_ediv_of_nonneg a (by omega)]
    exact pos a b h
  · have h' : 0 < -b := by omega
    have e : a.fdiv b = (-a) / (-b) := by
      rw [← Int.fdiv_eq_ediv_of_nonneg (-a) (by omega : 0 ≤ -b), Int.neg_fdiv_neg]
    obtain ⟨p1, p2, p3⟩ := pos (-a) (-b) h'
    have e2 : -a - (-a) / (-b) * (-b) = -(a - a.fdiv b * b) := by
      rw [← e, Int.mul_neg]
      omega
    rw [e2] at p1 p2 p3
    rw [← e] at p3
    simp only [Int.natAbs_neg, Int.neg_mul_neg] at p1 p2 p3
    exact ⟨p1, p2, p3⟩
structure St (a b : Int) (r s t r' s' t' : Int) : Prop where
  c0 : r = s * a + t * b
  c1 : r' = s' * a + t' * b
  dv : ∀ d : Int, d ∣ r → d ∣ r' → d ∣ a ∧ d ∣ b
  bd : s'.natAbs * r.natAbs + s.natAbs * r'.natAbs ≤ b.natAbs
  sg : s' = 0 ∨ 0 ≤ r * r'
  b0 : s.natAbs ≤ b.natAbs + 1
  b1 : s'.natAbs ≤ b.natAbs + 1
  d0 : t.natAbs ≤ a.natAbs + (b.natAbs + 1) * a.natAbs + b.natAbs + 1
  d1 : t'.natAbs ≤ a.natAbs + (b.natAbs + 1) * a.natAbs + b.natAbs + 1
  m0 : r.natAbs ≤ a.natAbs + b.natAbs
  m1 : r'.natAbs ≤ b.natAbs
theorem start (a b : Int) : St a b a 1 0 b 0 1 where
  c0 := by omega
  c1 := by omega
  dv := fun d h1 h2 => ⟨h1, h2⟩
  bd := by simp
  sg := .inl rfl
  b0 := by omega
  b1 := by omega
  d0 := by simp
  d1 := by omega
  m0 := by omega
  m1 := by omega
theorem turn {a b r s t r' s' t' : Int} (h : St a b r s t r' s' t') (h0 : r' ≠ 0) :
    St a b r' s' t' (r - r.fdiv r' * r') (s - r.fdiv r' * s') (t - r.fdiv r' * t') ∧ (r - r.fdiv r' * r').natAbs < r'.natAbs := by
  obtain ⟨f1, f2, f3⟩ := fmod_spec r r' h0
  generalize hq : r.fdiv r' = q at *
  have hb : b ≠ 0 := by
    intro z
    have := h.m1
    omega
  have hr' : 1 ≤ r'.natAbs := by omega
  have c1' : r - q * r' = (s - q * s') * a + (t - q * t') * b := by
    rw [h.c0, h.c1, Int.sub_mul, Int.sub_mul, Int.mul_add, Int.mul_assoc, Int.mul_assoc]
    omega
  have bd' : (s - q * s').natAbs * r'.natAbs + s'.natAbs * (r - q * r').natAbs ≤ b.natAbs := by
    have tri : (s - q * s').natAbs ≤ s.natAbs + q.natAbs * s'.natAbs := by
      rw [← Int.natAbs_mul]
      omega
    have hbd := h.bd
    rcases h.sg with z | z
    · subst z
      simp only [Int.mul_zero, Int.sub_zero, Int.natAbs_zero, Nat.zero_mul, Nat.zero_add, Nat.add_zero] at hbd ⊢
      exact hbd
    · have e := f3 z
      have k1 : (s - q * s').natAbs * r'.natAbs ≤ (s.natAbs + q.natAbs * s'.natAbs) * r'.natAbs := Nat.mul_le_mul_right _ tri
      have k2 : (s.natAbs + q.natAbs * s'.natAbs) * r'.natAbs + s'.natAbs * (r - q * r').natAbs = s'.natAbs * r.natAbs + s.natAbs * r'.natAbs := by
        rw [e, Nat.add_mul, Nat.mul_add, Nat.mul_comm q.natAbs s'.natAbs, Nat.mul_assoc]
        omega
      omega
  have b1' : (s - q * s').natAbs ≤ b.natAbs := by
    have : (s - q * s').natAbs * 1 ≤ (s - q * s').natAbs * r'.natAbs := Nat.mul_le_mul_left _ hr'
    omega
  have mm : (r - q * r').natAbs ≤ b.natAbs := by
    have := h.m1
    omega
  have d1' : (t - q * t').natAbs ≤ a.natAbs + (b.natAbs + 1) * a.natAbs + b.natAbs + 1 := by
    have e : (t - q * t') * b = (r - q * r') - (s - q * s') * a := by omega
    have e1 : ((t - q * t') * b).natAbs ≤ (r - q * r').natAbs + ((s - q * s') * a).natAbs := by omega
    rw [Int.natAbs_mul, Int.natAbs_mul] at e1
    have k1 : (t - q * t').natAbs * 1 ≤ (t - q * t').natAbs * b.natAbs := Nat.mul_le_mul_left _ (by omega)
    have k2 : (s - q * s').natAbs * a.natAbs ≤ (b.natAbs + 1) * a.natAbs := Nat.mul_le_mul_right _ (by omega)
    omega
  refine ⟨⟨h.c1, c1', fun d e1 e2 => ?_, bd', ?_, h.b1, by omega, h.d1, d1', ?_, mm⟩, f1⟩
  · refine h.dv d ?_ e1
    have e3 : d ∣ q * r' := Int.dvd_trans e1 (Int.dvd_mul_left _ _)
    have e4 := Int.dvd_add e2 e3
    rwa [Int.sub_add_cancel] at e4
  · exact .inr (by rw [Int.mul_comm]; exact f2)
  · have := h.m1
    omega
theorem done {a b r s t s' t' : Int} (h : St a b r s t 0 s' t') : r ∣ a ∧ r ∣ b := h.dv r (Int.dvd_refl r) (Int.dvd_zero r)
end Eu
namespace Lc
def lcmL (ns : List Nat) : Nat := ns.foldl Nat.lcm 1
theorem lcm_acc : ∀ (ns : List Nat) (m : Nat), m ∣ ns.foldl Nat.lcm m ∧ (∀ n ∈ ns, n ∣ ns.foldl Nat.lcm m) ∧ (∀ k, m ∣ k → (∀ n ∈ ns, n ∣ k) → ns.foldl Nat.lcm m ∣ k)
  | [], m => ⟨Nat.dvd_refl m, (fun _ h => nomatch h), fun k h _ => h⟩
  | n :: ns, m => by
    obtain ⟨h1, h2, h3⟩ := lcm_acc ns (Nat.lcm m n)
    refine ⟨Nat.dvd_trans (Nat.dvd_lcm_left m n) h1, fun x hx => ?_, fun k hm hk => ?_⟩
    · rcases List.mem_cons.mp hx with e | hx
      · rw [e]; exact Nat.dvd_trans (Nat.dvd_lcm_right m n) h1
      · exact h2 x hx
    · exact h3 k (Nat.lcm_dvd hm (hk n List.mem_cons_self)) fun x hx => hk x (List.mem_cons_of_mem _ hx)
theorem lcm_dvd {ns : List Nat} {n : Nat} (h : n ∈ ns) : n ∣ lcmL ns := (lcm_acc ns 1).2.1 n h
theorem lcm_pos_acc : ∀ (ns : List Nat) (m : Nat), 0 < m → (∀ n ∈ ns, 0 < n) → 0 < ns.foldl Nat.lcm m
  | [], m, h, _ => h
  | n :: ns, m, h, hp => lcm_pos_acc ns (Nat.lcm m n) (Nat.lcm_pos h (hp n List.mem_cons_self)) fun x hx => hp x (List.mem_cons_of_mem _ hx)
theorem lcm_pos {ns : List Nat} (h : ∀ n ∈ ns, 0 < n) : 0 < lcmL ns := lcm_pos_acc ns 1 (by decide) h
theorem lcm_le_acc (B : Nat) : ∀ (ns : List Nat) (m k : Nat), 0 < m → m ≤ 2 ^ k → (∀ n ∈ ns, 0 < n ∧ n ≤ 2 ^ B) → ns.foldl Nat.lcm m ≤ 2 ^ (k + B * ns.length)
  | [], m, k, _, h, _ => by simpa using h
  | n :: ns, m, k, h0, h, hp => by
    have hn := hp n List.mem_cons_self
    have h1 : Nat.lcm m n ≤ 2 ^ (k + B) := by
      have : Nat.lcm m n ≤ m * n := Nat.le_of_dvd (Nat.mul_pos h0 hn.1) (Nat.lcm_dvd (Nat.dvd_mul_right m n) (Nat.dvd_mul_left n m))
      rw [Nat.pow_add]
      exact Nat.le_trans this (Nat.mul_le_mul h hn.2)
    have h2 := lcm_le_acc B ns (Nat.lcm m n) (k + B) (Nat.lcm_pos h0 hn.1) h1 fun x hx => hp x (List.mem_cons_of_mem _ hx)
    have e : k + B * (n :: ns).length = k + B + B * ns.length := by
      rw [List.length_cons, Nat.mul_succ]; omega
    rw [e]
    exact h2
theorem lcm_step (m n : Nat) : m / Nat.gcd m n * n = Nat.lcm m n := by
  unfold Nat.lcm
  rw [Nat.div_mul_right_comm (Nat.gcd_dvd_left m n)]
end Lc
set_option maxHeartbeats 1000000
namespace K41
open PySem L2 PyProof.Rows
theorem gz {α : Type} {a : α} {l : List α} : (a :: l)[0]? = some a := List.getElem?_cons_zero
theorem gs {α : Type} {a : α} {i : Nat} {l : List α} : (a :: l)[i + 1]? = l[i]? := List.getElem?_cons_succ
theorem ss {α : Type} {a b : α} {i : Nat} {l : List α} : (a :: l).set (i + 1) b = a :: l.set i b := List.set_cons_succ
theorem s0 {α : Type} {a b : α} {l : List α} : (a :: l).set 0 b = b :: l := List.set_cons_zero
theorem ca {α : Type} {a : α} {l r : List α} : a :: l ++ r = a :: (l ++ r) := List.cons_append
theorem na {α : Type} {l : List α} : [] ++ l = l := List.nil_append l
theorem lc {α : Type} {a : α} {l : List α} : (a :: l).length = l.length + 1 := List.length_cons
theorem mc {α β : Type} {f : α → β} {a : α} {l : List α} : (a :: l).map f = f a :: l.map f := List.map_cons
theorem whole_int (i : Int) : s_is_whole [.int i] = M.ok (.bl true) := by rfl
theorem whole_bl (b : Bool) : s_is_whole [.bl b] = M.ok (.bl false) := by rfl
theorem whole_non : s_is_whole [.non] = M.ok (.bl false) := by rfl
theorem row_gen {α : Type} {inj : α → PV} {h : α → Bool} {p : PV} (xs : List α) (n : Int) (hp : p = .tup (xs.map inj) ∨ p = .lst (xs.map inj)) (H : ∀ a ∈ xs, s_is_whole [inj a] = M.ok (.bl (h a))) (hz : xs.length ≤ sizeLine) : s_is_row [p, .int n] = M.ok (.bl (decide ((xs.length : Int) = n) && xs.all h)) := by
  have key : compL (setN 0) none (callV' s_is_whole (consL (getV 0) nilL)) (xs.map inj) [none] = M.ok (xs.map fun a => .bl (h a)) := comp_1 xs fun a ha => by simp only [callV', consL, getV, gz, nilL, M.bind_ok, H a ha]
  have key2 : allP [.lst (xs.map fun a => .bl (h a))] = M.ok (.bl (xs.all h)) := by
    have := allP_map (xs.map h)
    rw [List.map_map] at this
    rw [show (fun a => PV.bl (h a)) = PV.bl ∘ h from rfl, this]
    simp [List.all_map]
  unfold s_is_row g_is_row
  rcases hp with rfl | rfl
  all_goals
    simp only [lenG, lc, List.length_nil, Nat.reduceAdd, runD, seqS, ifS, orB, notB, tst, isV, getV, env0, mc, List.map_nil, Nat.sub_self, List.replicate, ca, na, gz, subN, List.any_cons, String.reduceBEq, Bool.and_false, Bool.or_false, List.any_nil, M.bind_ok, isW_tup, Bool.or_true, truB_bl, Bool.not_true, bin2, callV', consL, nilL, lenP, len1_tup, List.length_map, gs, neP_int, Bool.false_eq_true, if_false, retS, thenS_rt, nextS, M.bind_assoc, grd_pos trivial, isW_lst, len1_lst]
    by_cases e : (xs.length : Int) = n
    · simp only [e, decide_true, Bool.not_true, M.bind_ok, Bool.false_eq_true, if_false, thenS_nx, Bool.true_and]
      simp only [seqS, retS, callV', consL, lstOf, compF, itemsOf, getV, gz, M.bind_ok, seqP_tup, blockE, List.replicate, List.map_nil, ca, na, List.length_map, key, noX_ok, grd_pos hz, nilL, key2, thenS_rt, outP_rt, seqP_lst]
    · simp only [e, decide_false, Bool.not_false, M.bind_ok, if_true, thenS_rt, Bool.false_and]
      simp only [outP_rt]
theorem row_tI (xs : List Int) (n : Int) (hz : xs.length ≤ sizeLine) : s_is_row [tI xs, .int n] = M.ok (.bl (decide ((xs.length : Int) = n))) := by
  exact (row_gen (p := tI xs) (h := fun _ => true) xs n (.inl rfl) (fun a _ => whole_int a) hz).trans (by rw [List.all_eq_true.mpr fun _ _ => rfl, Bool.and_true])
theorem row_lI (xs : List Int) (n : Int) (hz : xs.length ≤ sizeLine) : s_is_row [lI xs, .int n] = M.ok (.bl (decide ((xs.length : Int) = n))) := by
  exact (row_gen (p := lI xs) (h := fun _ => true) xs n (.inr rfl) (fun a _ => whole_int a) hz).trans (by rw [List.all_eq_true.mpr fun _ _ => rfl, Bool.and_true])
theorem within_int (x a b : Int) : s_is_within [.int x, .int a, .int b] = M.ok (.bl (decide (a ≤ x ∧ x ≤ b))) := by
  unfold s_is_within g_is_within
  simp only [lenG, lc, List.length_nil, Nat.reduceAdd, runD, seqS, retS, andV, callV', consL, getV, env0, mc, List.map_nil, Nat.sub_self, List.replicate, ca, na, gz, nilL, M.bind_ok, whole_int, chainV, gs, leP_int, truB_bl, if_true, M.bind_assoc, thenS_rt, outP_rt, grd_pos trivial]
  by_cases h : a ≤ x
  · simp only [h, decide_true, if_true, true_and]; simp only [M.bind_ok]
  · simp only [h, decide_false, false_and]; simp only [Bool.false_eq_true, if_false, M.bind_ok]
theorem need_sizes_ok (xs : List Int) (h1 : 1 ≤ xs.length) (h6 : xs.length ≤ 6) (hx : ∀ x ∈ xs, 2 ≤ x ∧ x ≤ 360) : s_need_sizes [lI xs] = M.ok .non := by
  unfold s_need_sizes g_need_sizes
  have a1 : ¬ (6 : Int) < xs.length := by omega
  have a2 : ¬ (xs.length : Int) = 0 := by omega
  simp only [lenG, lc, List.length_nil, Nat.reduceAdd, runD, seqS, ifS, tst, bin2, callV', consL, getV, env0, mc, List.map_nil, Nat.reduceSub, List.replicate, ca, na, gz, nilL, M.bind_ok, lenP, len1_lI, gtP_int, a1, decide_false, truB_bl, nextS, Bool.false_eq_true, if_false, thenS_nx, eqP_int, a2, forS, itL, enumP_lI, M.bind_assoc, grd_pos trivial]
  refine loop_bind xs.zipIdx (fun zs env => (∃ b c, env = [some (.sh (lI xs)), b, c]) ∧ ∀ z ∈ zs, 2 ≤ z.1 ∧ z.1 ≤ 360) ⟨⟨_, _, rfl⟩, fun z hz => hx z.1 (List.fst_mem_of_mem_zipIdx hz)⟩ ?_ ?_
  · rintro ⟨a, i⟩ r env ⟨⟨b, c, rfl⟩, hz⟩
    have ha := hz (a, i) List.mem_cons_self
    refine ⟨_, [some (.sh (lI xs)), some (.sh (.int i)), some (.sh (.int a))], rfl, ?_, ⟨_, _, rfl⟩, fun z hz' => hz z (List.mem_cons_of_mem _ hz')⟩
    simp only [seqS, ifS, notB, tst, callV', consL, getV, ss, s0, gs, gz, nilL, M.bind_ok, within_int, ha, and_self, decide_true, truB_bl, Bool.not_true, nextS, Bool.false_eq_true, if_false, thenS_nx]
  · rintro env' ⟨⟨b, c, rfl⟩, _⟩; rfl
theorem need_levers_ok (n : Nat) (xs : List (List Int)) (h8 : xs.length ≤ 8) (hx : ∀ x ∈ xs, x.length = n) (hn : n ≤ 100) : s_need_levers [.lst (xs.map tI), .int n] = M.ok .non := by
  unfold s_need_levers g_need_levers
  have a1 : ¬ (8 : Int) < xs.length := by omega
  simp only [lenG, lc, List.length_nil, Nat.reduceAdd, runD, seqS, ifS, tst, bin2, callV', consL, getV, env0, mc, List.map_nil, Nat.reduceSub, List.replicate, ca, na, gz, nilL, M.bind_ok, lenP, len1_lst, List.length_map, gtP_int, a1, decide_false, truB_bl, nextS, Bool.false_eq_true, if_false, thenS_nx, forS, itL, enumP_lst, M.bind_assoc, grd_pos trivial]
  refine loop_bind xs.zipIdx (fun zs env => (∃ b c, env = [some (.sh (.lst (xs.map tI))), some (.sh (.int n)), b, c]) ∧ ∀ z ∈ zs, z.1.length = n) ⟨⟨_, _, rfl⟩, fun z hz => hx z.1 (List.fst_mem_of_mem_zipIdx hz)⟩ ?_ ?_
  · rintro ⟨a, i⟩ r env ⟨⟨b, c, rfl⟩, hz⟩
    have ha : a.length = n := hz (a, i) List.mem_cons_self
    refine ⟨_, [some (.sh (.lst (xs.map tI))), some (.sh (.int n)), some (.sh (.int i)), some (.sh (tI a))], rfl, ?_, ⟨_, _, rfl⟩, fun z hz' => hz z (List.mem_cons_of_mem _ hz')⟩
    simp only [seqS, ifS, notB, tst, callV', consL, getV, ss, s0, gs, gz, nilL, M.bind_ok, row_tI a n (sz1000 (by omega)), ha, decide_true, truB_bl, Bool.not_true, nextS, Bool.false_eq_true, if_false, thenS_nx]
  · rintro env' ⟨⟨b, c, rfl⟩, _⟩; rfl
theorem flat_one (n : Nat) (p : PV) : (List.replicate n [p]).flatten = List.replicate n p := by
  induction n with
  | zero => rfl
  | succ n ih => rw [List.replicate_succ, List.flatten_cons, ih]; rfl
theorem mul_one (p : PV) (n : Nat) (h8 : n ≤ 1000) : mulP (.tup [p]) (.int (n : Int)) = M.ok (.tup (List.replicate n p)) := by
  have h2 : [p].length * (n : Int).toNat ≤ sizeLine := by
    rw [Int.toNat_natCast]
    exact sz1000 (by show 1 * n ≤ 1000; omega)
  have h3 : (n : Int) < 2 ^ 63 := Int.lt_of_le_of_lt (Int.ofNat_le.mpr h8) (by decide)
  have h4 : -(2 ^ 63) ≤ (n : Int) := Int.le_trans (by decide) (Int.natCast_nonneg n)
  rw [mulP, grd_pos ⟨rfl, h4, h3, h2⟩, Int.toNat_natCast, flat_one]
theorem prices_ok (xs : List PV) (h8 : xs.length ≤ 8) : s_prices_for [.lst xs, .non] = M.ok (tI (List.replicate xs.length 1)) := by
  unfold s_prices_for g_prices_for
  simp only [lenG, lc, List.length_nil, Nat.reduceAdd, runD, seqS, ifS, tst, bin2, getV, env0, mc, List.map_nil, Nat.reduceSub, List.replicate, ca, na, gs, gz, isNP, isNon, M.bind_ok, truB_bl, retS, tupV_eq, consL, nilL, tupK_1, callV', lenP, len1_lst, mul_one (.int 1) xs.length (by omega), thenS_rt, nextS, if_true, outP_rt, grd_pos trivial]
  rw [tI, List.map_replicate]
def rst (xs sizes : List Int) : List Int := (xs.zip sizes).map fun z => z.1 % z.2
theorem rests_ok (p q : PV) (xs sizes : List Int) (hp : seqP p = some (xs.map PV.int)) (hq : seqP q = some (sizes.map PV.int)) (hs : ∀ s ∈ sizes, 0 < s) (hz : xs.length ≤ 1000) : s_rests [p, q] = M.ok (tI (rst xs sizes)) := by
  have key : compL (setT2 0 1) none (bin2 modP (getV 0) (getV 1)) ((xs.zip sizes).map fun z => .tup [.int z.1, .int z.2]) [none, none] = M.ok ((xs.zip sizes).map fun z => .int (z.1 % z.2)) := by
    refine comp_2 (p := fun z : Int × Int => PV.int z.1) (q := fun z : Int × Int => PV.int z.2) (xs.zip sizes) fun z hz => ?_
    have := hs z.2 (List.of_mem_zip (a := z.1) (b := z.2) hz).2
    simp only [bin2, getV, gz, gs, M.bind_ok, modP_pos this]
  unfold s_rests g_rests
  have hl : (xs.zip sizes).length ≤ sizeLine := by rw [List.length_zip]; exact sz1000 (Nat.le_trans (Nat.min_le_left _ _) hz)
  simp only [lenG, lc, List.length_nil, Nat.reduceAdd, runD, seqS, retS, callV', consL, lstOf, compF, itL, getV, env0, mc, List.map_nil, Nat.sub_self, List.replicate, ca, na, gz, gs, nilL, M.bind_ok, zip2_map xs sizes hp hq, blockE, List.length_map, key, noX_ok, grd_pos hl, tupleP, seqP_lst, Option.map_some, optM_some, thenS_rt, outP_rt, grd_pos trivial]
  rw [tI, rst, List.map_map]; rfl
end K41
namespace K41
open PySem L2 PyProof.Rows
theorem p64 {i : Int} {n : Nat} (h : i.natAbs ≤ n) (hn : n < 2 ^ 200) : i.natAbs < 2 ^ 200 := by omega
theorem idx0 (a b c : PV) : idxP (.tup [a, b, c]) (.int 0) = M.ok a := idxP_nat (j := 0) rfl rfl
theorem idx1 (a b c : PV) : idxP (.tup [a, b, c]) (.int 1) = M.ok b := idxP_nat (j := 1) rfl rfl
theorem idx2 (a b c : PV) : idxP (.tup [a, b, c]) (.int 2) = M.ok c := idxP_nat (j := 2) rfl rfl
theorem common_ok (a b : Int) (ha : a.natAbs < 2 ^ 60) (hb : b.natAbs < 2 ^ 60) : ∃ s t, s_common [.int a, .int b] = M.ok (.tup [.int (Int.gcd a b), .int s, .int t]) ∧ s * a + t * b = Int.gcd a b := by
  let J : PEnv → Prop := fun env => ∃ r s t r' s' t' x y, env = [some (.sh (.int a)), some (.sh (.int b)), some (.sh ((PV.tup [PV.int r, PV.int s, PV.int t]))), some (.sh ((PV.tup [PV.int r', PV.int s', PV.int t']))), x, y] ∧ Eu.St a b r s t r' s' t'
  let m : PEnv → Nat := fun env => match env with
    | [_, _, _, some (.sh (.tup [.int r, _, _])), _, _] => r.natAbs
    | _ => 0
  have hk : (b.natAbs + 1) * a.natAbs ≤ 2 ^ 60 * 2 ^ 60 := Nat.mul_le_mul (by omega) (by omega)
  have hk2 : (2 : Nat) ^ 60 * 2 ^ 60 = 2 ^ 120 := by decide
  have start : J [some (.sh (.int a)), some (.sh (.int b)), some (.sh ((PV.tup [PV.int a, PV.int 1, PV.int 0]))), some (.sh ((PV.tup [PV.int b, PV.int 0, PV.int 1]))), none, none] := ⟨_, _, _, _, _, _, _, _, rfl, Eu.start a b⟩
  have loop := while_inv (u := tst (bin2 neP (bin2 idxP (getV 3) (fun _ => M.ok (.int 0))) (fun _ => M.ok (.int 0)))) (b := (seqS (setS 4 (bin2 fdivP (bin2 idxP (getV 2) (fun _ => M.ok (.int 0))) (bin2 idxP (getV 3) (fun _ => M.ok (.int 0)))))
    (seqS (setS 5 (tupV (consL (bin2 subP (bin2 idxP (getV 2) (fun _ => M.ok (.int 0))) (bin2 mulP (getV 4) (bin2 idxP (getV 3) (fun _ => M.ok (.int 0))))) (consL (bin2 subP (bin2 idxP (getV 2) (fun _ => M.ok (.int 1))) (bin2 mulP (getV 4) (bin2 idxP (getV 3) (fun _ => M.ok (.int 1))))) (consL (bin2 subP (bin2 idxP (getV 2) (fun _ => M.ok (.int 2))) (bin2 mulP (getV 4) (bin2 idxP (getV 3) (fun _ => M.ok (.int 2))))) nilL)))))
    (seqS (setS 2 (getV 3))
    (seqS (setS 3 (getV 5))
    nextS))))) J m ?_ _ start
  · obtain ⟨env', e1, ⟨r, s, t, r', s', t', x, y, rfl, st⟩, e2⟩ := loop
    have hr' : r' = 0 := by
      revert e2
      simp only [tst, bin2, getV, gs, gz, M.bind_ok, idx0, neP_int, truB_bl]
      intro e2
      have : (!decide (r' = 0)) = false := by injection e2 with e2; injection e2
      simpa using this
    subst hr'
    obtain ⟨d1, d2⟩ := Eu.done st
    have hg : (r.natAbs : Int) = Int.gcd a b := by
      have h1 : r.natAbs ∣ Int.gcd a b := Int.dvd_gcd (Int.natAbs_dvd.mpr d1) (Int.natAbs_dvd.mpr d2)
      have h2 : ((Int.gcd a b : Nat) : Int) ∣ r := by
        rw [st.c0]
        exact Int.dvd_add (Int.dvd_trans (Int.gcd_dvd_left ..) (Int.dvd_mul_left _ _)) (Int.dvd_trans (Int.gcd_dvd_right ..) (Int.dvd_mul_left _ _))
      have h3 : Int.gcd a b ∣ r.natAbs := Int.ofNat_dvd_left.mp h2
      rw [Nat.dvd_antisymm h1 h3]
    unfold s_common g_common
    simp only [lenG, lc, List.length_nil, Nat.reduceAdd, runD, seqS, setS, env0, mc, List.map_nil, Nat.reduceSub, List.replicate, ca, na, tupV_eq, consL, getV, gz, nilL, M.bind_ok, tupK_3, ss, s0, thenS_nx, gs, M.bind_assoc, grd_pos trivial]
    rw [e1]
    simp only [M.bind_ok, thenS_nx, seqS, ifS, tst, bin2, getV, gs, gz, idx0, ltP_int, truB_bl, retS, tupV_eq, consL, negV, neg1, idx1, idx2, nilL, tupK_3, thenS_rt, nextS, M.bind_assoc]
    by_cases hneg : r < 0
    · refine ⟨-s, -t, ?_, ?_⟩
      · simp only [hneg, decide_true, if_true]; simp only [M.bind_ok, thenS_rt, outP_rt]
        rw [show -r = (Int.gcd a b : Int) by omega]
      · have := st.c0
        rw [Int.neg_mul, Int.neg_mul]; omega
    · refine ⟨s, t, ?_, ?_⟩
      · simp only [hneg, decide_false, Bool.false_eq_true, if_false]; simp only [M.bind_ok, thenS_nx, seqS, retS, getV, gs, gz, thenS_rt, outP_rt]
        rw [show r = (Int.gcd a b : Int) by omega]
      · have := st.c0; omega
  · rintro env ⟨r, s, t, r', s', t', x, y, rfl, st⟩
    by_cases h0 : r' = 0
    · refine .inl ?_
      simp only [tst, bin2, getV, gs, gz, M.bind_ok, idx0, neP_int, truB_bl]
      simp [h0]
    · refine .inr ⟨?_, ?_⟩
      · simp only [tst, bin2, getV, gs, gz, M.bind_ok, idx0, neP_int, truB_bl]
        simp [h0]
      · obtain ⟨st2, lt⟩ := Eu.turn st h0
        have b1 := st.m1; have b0 := st.m0; have c1 := st.b1; have c2 := st.d1; have c3 := st2.m1
        have q1 : (r.fdiv r').natAbs ≤ r.natAbs + 1 := by
          obtain ⟨f1, f2, f3⟩ := Eu.fmod_spec r r' h0
          generalize r.fdiv r' = q at *
          have e : q * r' = r - (r - q * r') := by omega
          have e2 : (q * r').natAbs ≤ r.natAbs + (r - q * r').natAbs := by omega
          rw [Int.natAbs_mul] at e2
          have : q.natAbs * 1 ≤ q.natAbs * r'.natAbs := Nat.mul_le_mul_left _ (by omega)
          rcases Nat.lt_or_ge (r.natAbs + 1) q.natAbs with h | h
          · have h5 : (r.natAbs + 2) * r'.natAbs ≤ q.natAbs * r'.natAbs := Nat.mul_le_mul_right _ (by omega)
            have h6 : r.natAbs * 1 ≤ r.natAbs * r'.natAbs := Nat.mul_le_mul_left _ (by omega)
            rw [Nat.add_mul] at h5
            omega
          · exact h
        have q2 : (r.fdiv r').natAbs < 2 ^ 200 := by omega
        refine ⟨[some (.sh (.int a)), some (.sh (.int b)), some (.sh ((PV.tup [PV.int r', PV.int s', PV.int t']))), some (.sh ((PV.tup [PV.int (r - r.fdiv r' * r'), PV.int (s - r.fdiv r' * s'), PV.int (t - r.fdiv r' * t')]))), some (.sh (.int (r.fdiv r'))), some (.sh ((PV.tup [PV.int (r - r.fdiv r' * r'), PV.int (s - r.fdiv r' * s'), PV.int (t - r.fdiv r' * t')])))], ?_, ⟨_, _, _, _, _, _, _, _, rfl, st2⟩, lt⟩
        simp only [seqS, setS, bin2, getV, gs, gz, M.bind_ok, idx0, fdivP_int h0 (Nat.lt_of_lt_of_le (show r'.natAbs < 2 ^ 200 by omega) (Nat.pow_le_pow_right (by decide) (by decide))), ss, s0, thenS_nx, tupV_eq, consL, mulP_int (k := 200) (l := 200) q2 (show r'.natAbs < 2 ^ 200 by omega), subP_int, idx1, mulP_int (k := 200) (l := 200) q2 (show s'.natAbs < 2 ^ 200 by omega), idx2, mulP_int (k := 200) (l := 200) q2 (show t'.natAbs < 2 ^ 200 by omega), nilL, tupK_3, nextS]
end K41
namespace K41
open PySem L2 PyProof.Rows
def R (sizes : List Int) : Int := (Lc.lcmL (sizes.map Int.toNat) : Nat)
structure Sz (sizes : List Int) : Prop where
  h1 : 1 ≤ sizes.length
  h6 : sizes.length ≤ 6
  hx : ∀ x ∈ sizes, 2 ≤ x ∧ x ≤ 360
theorem R_pos {sizes : List Int} (h : Sz sizes) : 0 < R sizes := by
  refine Int.ofNat_lt.mpr (Lc.lcm_pos fun n hn => ?_)
  obtain ⟨x, hx, rfl⟩ := List.mem_map.mp hn
  have := h.hx x hx; omega
theorem R_lt {sizes : List Int} (h : Sz sizes) : R sizes < 2 ^ 60 := by
  have h1 := Lc.lcm_le_acc 9 (sizes.map Int.toNat) 1 0 (by decide) (by decide) fun n hn => by
    obtain ⟨x, hx, rfl⟩ := List.mem_map.mp hn
    have := h.hx x hx; omega
  have h2 : (2 : Nat) ^ (0 + 9 * (sizes.map Int.toNat).length) ≤ 2 ^ 54 := Nat.pow_le_pow_right (by decide) (by rw [List.length_map]; have := h.h6; omega)
  have h3 : Lc.lcmL (sizes.map Int.toNat) ≤ 2 ^ 54 := Nat.le_trans h1 h2
  unfold R; omega
theorem R_dvd {sizes : List Int} (h : Sz sizes) {x : Int} (hx : x ∈ sizes) : x ∣ R sizes := by
  have h1 := Lc.lcm_dvd (ns := sizes.map Int.toNat) (List.mem_map.mpr ⟨x, hx, rfl⟩)
  have h2 := Int.ofNat_dvd.mpr h1
  rw [Int.toNat_of_nonneg (by have := h.hx x hx; omega)] at h2
  exact h2
structure Acc (sizes r : List Int) (acc : Nat) : Prop where
  pos : 0 < acc
  le : acc ≤ 2 ^ (9 * (6 - r.length))
  len : r.length ≤ 6
  val : (r.map Int.toNat).foldl Nat.lcm acc = Lc.lcmL (sizes.map Int.toNat)
  rng : ∀ x ∈ r, 2 ≤ x ∧ x ≤ 360
theorem Acc.start {sizes : List Int} (h : Sz sizes) : Acc sizes sizes 1 := ⟨by decide, Nat.one_le_two_pow, h.h6, rfl, h.hx⟩
theorem Acc.lt {sizes r : List Int} {acc : Nat} (h : Acc sizes r acc) : acc < 2 ^ 60 := by
  have h2 : (2 : Nat) ^ (9 * (6 - r.length)) ≤ 2 ^ 54 := Nat.pow_le_pow_right (by decide) (by omega)
  have := h.le; omega
theorem Acc.turn {sizes r : List Int} {x : Int} {acc : Nat} (h : Acc sizes (x :: r) acc) : Acc sizes r (Nat.lcm acc x.toNat) ∧ (acc : Int) / (Int.gcd acc x : Nat) * x = (Nat.lcm acc x.toNat : Nat) ∧ (acc : Int) / (Int.gcd acc x : Nat) ≤ acc ∧ 0 < Int.gcd acc x := by
  have hx := h.rng x List.mem_cons_self
  have hp := h.pos
  obtain ⟨n, rfl⟩ := Int.eq_ofNat_of_zero_le (show 0 ≤ x by omega)
  have hg : Int.gcd (acc : Int) (n : Int) = Nat.gcd acc n := rfl
  refine ⟨⟨Nat.lcm_pos hp (by omega), ?_, ?_, h.val, fun y hy => h.rng y (List.mem_cons_of_mem _ hy)⟩, ?_, ?_, ?_⟩
  · have h1 : Nat.lcm acc n ≤ acc * n := Nat.le_of_dvd (Nat.mul_pos hp (by omega)) (Nat.lcm_dvd (Nat.dvd_mul_right ..) (Nat.dvd_mul_left ..))
    have h2 : acc * n ≤ 2 ^ (9 * (6 - (r.length + 1))) * 2 ^ 9 := Nat.mul_le_mul h.le (by omega)
    have hl : r.length + 1 ≤ 6 := h.len
    rw [← Nat.pow_add, show 9 * (6 - (r.length + 1)) + 9 = 9 * (6 - r.length) by omega] at h2
    exact Nat.le_trans h1 h2
  · have hl : r.length + 1 ≤ 6 := h.len
    omega
  · rw [hg, Int.toNat_natCast, ← Lc.lcm_step]; norm_cast
  · rw [hg]
    exact Int.ofNat_le.mpr (Nat.div_le_self acc (Nat.gcd acc n))
  · rw [hg]; exact Nat.gcd_pos_of_pos_left _ hp
theorem multiple_ok (sizes : List Int) (h : Sz sizes) : s_multiple_of [lI sizes] = M.ok (.int (R sizes)) := by
  unfold s_multiple_of g_multiple_of
  simp only [lenG, lc, List.length_nil, Nat.reduceAdd, runD, seqS, setS, env0, mc, List.map_nil, Nat.reduceSub, List.replicate, ca, na, ss, s0, M.bind_ok, thenS_nx, forS, itemsOf, getV, gz, seqP_lI, M.bind_assoc, grd_pos trivial]
  refine loop_bind sizes (fun r env => ∃ acc x, env = [some (.sh (lI sizes)), some (.sh (.int (acc : Nat))), x] ∧ Acc sizes r acc) ⟨1, _, rfl, .start h⟩ ?_ ?_
  · rintro a r env ⟨acc, x, rfl, A⟩
    obtain ⟨A2, e1, e2, e3⟩ := A.turn
    have l1 := A.lt
    have ha := A.rng a List.mem_cons_self
    obtain ⟨s, t, ec, _⟩ := common_ok (acc : Int) a (by omega) (by omega)
    have g1 : Int.gcd acc a ≤ acc := Nat.le_of_dvd A.pos (Int.ofNat_dvd.mp (Int.gcd_dvd_left ..))
    have d0 : 0 ≤ (acc : Int) / (Int.gcd acc a : Nat) := Int.ediv_nonneg (by omega) (by omega)
    refine ⟨_, [some (.sh (lI sizes)), some (.sh (.int (Nat.lcm acc a.toNat : Nat))), some (.sh (.int a))], rfl, ?_, _, _, rfl, A2⟩
    simp only [seqS, setS, bin2, getV, ss, s0, gs, gz, callV', consL, nilL, M.bind_ok, ec, idx0, fdivP_pos (i := (acc : Int)) (show (0 : Int) < (Int.gcd acc a : Nat) by omega) (show ((Int.gcd acc a : Nat) : Int) < 2 ^ 64 by omega), mulP_int (k := 64) (l := 64) (show ((acc : Int) / (Int.gcd acc a : Nat)).natAbs < 2 ^ 64 by omega) (show a.natAbs < 2 ^ 64 by omega), e1, thenS_nx, nextS]
  · rintro env' ⟨acc, x, rfl, A⟩
    simp only [thenS_nx, seqS, retS, getV, gs, gz, M.bind_ok, thenS_rt, outP_rt]
    have := A.val
    rw [R, ← this]; rfl
end K41
namespace K41
open PySem L2 PyProof.Rows
theorem par2_2 (i j : Nat) (env : PEnv) (p q : PV) : par2 i j env [p, q] = M.ok (.nx ((env.set i (some (.sh p))).set j (some (.sh q)))) := Eq.trans rfl rfl
theorem round_ok (sizes : List Int) (h : Sz sizes) : s__law_round [lI sizes] = M.ok (.int (R sizes)) := by
  unfold s__law_round g__law_round
  simp only [lenG, lc, List.length_nil, Nat.reduceAdd, runD, seqS, setS, env0, mc, List.map_nil, Nat.reduceSub, List.replicate, ca, na, ss, s0, M.bind_ok, thenS_nx, forS, itemsOf, getV, gz, seqP_lI, M.bind_assoc, grd_pos trivial]
  refine loop_bind sizes (fun r env => ∃ acc x y z, env = [some (.sh (lI sizes)), some (.sh (.int (acc : Nat))), x, y, z] ∧ Acc sizes r acc) ⟨1, _, _, _, rfl, .start h⟩ ?_ ?_
  · rintro a r env ⟨acc, x, y, z, rfl, A⟩
    obtain ⟨A2, e1, e2, e3⟩ := A.turn
    have l1 := A.lt
    have ha := A.rng a List.mem_cons_self
    have g1 : Int.gcd acc a ≤ acc := Nat.le_of_dvd A.pos (Int.ofNat_dvd.mp (Int.gcd_dvd_left ..))
    have d0 : 0 ≤ (acc : Int) / (Int.gcd acc a : Nat) := Int.ediv_nonneg (by omega) (by omega)
    refine ⟨_, [some (.sh (lI sizes)), some (.sh (.int (Nat.lcm acc a.toNat : Nat))), some (.sh (.int a)), some (.sh (.int (Int.gcd acc a : Nat))), some (.sh (.int 0))], rfl, ?_, _, _, _, _, rfl, A2⟩
    simp only [seqS, setS, getV, ss, s0, gs, gz, M.bind_ok, thenS_nx]
    refine while_bind (fun env => ∃ p q : Nat, env = [some (.sh (lI sizes)), some (.sh (.int (acc : Nat))), some (.sh (.int a)), some (.sh (.int p)), some (.sh (.int q))] ∧ Nat.gcd p q = Int.gcd acc a) (fun env => match env with
      | [_, _, _, _, some (.sh (.int q))] => q.toNat
      | _ => 0) ⟨acc, a.toNat, by rw [Int.toNat_of_nonneg (by omega)], ?_⟩ ?_ ?_
    · obtain ⟨n, rfl⟩ := Int.eq_ofNat_of_zero_le (show 0 ≤ a by omega)
      rfl
    · rintro env ⟨p, q, rfl, hg⟩
      by_cases h0 : (0 : Int) < q
      · refine .inr ⟨by simp only [tst, bin2, getV, gs, gz, M.bind_ok, gtP_int, h0, decide_true, truB_bl], [some (.sh (lI sizes)), some (.sh (.int (acc : Nat))), some (.sh (.int a)), some (.sh (.int q)), some (.sh (.int ((p % q : Nat) : Int)))], ?_, ⟨q, p % q, rfl, ?_⟩, ?_⟩
        · simp only [seqS, parS, consL, getV, gs, gz, bin2, M.bind_ok, modP_pos (i := (p : Int)) h0, nilL, par2_2, ss, s0, thenS_nx, nextS]
          rfl
        · rw [← hg, Nat.gcd_comm p q, Nat.gcd_rec q p, Nat.gcd_comm]
        · show ((p % q : Nat) : Int).toNat < (q : Int).toNat
          have := Nat.mod_lt p (show 0 < q by omega)
          omega
      · exact .inl (by simp only [tst, bin2, getV, gs, gz, M.bind_ok, gtP_int, h0, decide_false, truB_bl])
    · rintro env' ⟨p, q, rfl, hg⟩ hu
      have hq : q = 0 := by
        revert hu
        simp only [tst, bin2, getV, gs, gz, M.bind_ok, gtP_int, truB_bl]
        intro hu
        have : decide ((0 : Int) < q) = false := by injection hu with hu; injection hu
        simp at this
        exact this
      subst hq
      rw [Nat.gcd_zero_right] at hg
      subst hg
      simp only [thenS_nx, seqS, setS, bin2, getV, gs, gz, M.bind_ok, fdivP_pos (i := (acc : Int)) (show (0 : Int) < (Int.gcd acc a : Nat) by omega) (show ((Int.gcd acc a : Nat) : Int) < 2 ^ 64 by omega), mulP_int (k := 64) (l := 64) (show ((acc : Int) / (Int.gcd acc a : Nat)).natAbs < 2 ^ 64 by omega) (show a.natAbs < 2 ^ 64 by omega), e1, ss, s0, nextS]
      rfl
  · rintro env' ⟨acc, x, y, z, rfl, A⟩
    simp only [thenS_nx, seqS, retS, getV, gs, gz, M.bind_ok, thenS_rt, outP_rt]
    have := A.val
    rw [R, ← this]; rfl
def flds (sizes : List Int) (levers : List (List Int)) : List (Str × PV) := [("dial_sizes", tI sizes), ("lever_settings", .tup (levers.map tI)), ("lever_prices", tI (List.replicate levers.length 1)), ("least_round", .int (R sizes))]
def vlt (sizes : List Int) (levers : List (List Int)) : PV := .obj C_Vault (flds sizes levers)
structure Stg (sizes xs : List Int) : Prop where
  len : xs.length = sizes.length
  rng : ∀ z ∈ xs.zip sizes, 0 ≤ z.1 ∧ z.1 < z.2
theorem rst_self {sizes xs : List Int} (h : Stg sizes xs) : rst xs sizes = xs := by
  obtain ⟨hl, hr⟩ := h
  unfold rst
  induction xs generalizing sizes with
  | nil => rfl
  | cons x r ih =>
    cases sizes with
    | nil => cases hl
    | cons s t =>
      have h1 := hr (x, s) (by simp)
      rw [List.zip_cons_cons, List.map_cons, ih (Nat.succ.inj hl) fun z hz => hr z (by rw [List.zip_cons_cons]; exact List.mem_cons_of_mem _ hz)]
      rw [show ((x, s) : Int × Int).1 % ((x, s) : Int × Int).2 = x from Int.emod_eq_of_lt h1.1 h1.2]
theorem putP_len (f : Str) (p : PV) : ∀ fs : List (Str × PV), (putP f p fs).length ≤ fs.length + 1
  | [] => by simp [putP]
  | (g, q) :: r => by
    have := putP_len f p r
    unfold putP
    split
    · simp
    · simp; omega
theorem put_lt {f : Str} {p : PV} {fs : List (Str × PV)} {n : Nat} (h : fs.length ≤ n) : (putP f p fs).length ≤ n + 1 := Nat.le_trans (putP_len f p fs) (by omega)
theorem bdPut_0 (a C : Addr) (f : Str) (p : PV) (fs : List (Str × PV)) (r : PEnv) (h : fs.length < 1000) : bdPut 0 C f p (some (.bd a C fs) :: r) = M.ok (.nx (some (.bd a C (putP f p fs)) :: r)) := by
  show grd _ _ = _
  rw [grd_pos ⟨rfl, h⟩]; rfl
theorem make_ok (sizes : List Int) (levers : List (List Int)) (h : Sz sizes) (h8 : levers.length ≤ 8) (hl : ∀ l ∈ levers, Stg sizes l) : makeP C_Vault i_Vault [.non] [lI sizes, .lst (levers.map tI)] = M.ok (vlt sizes levers) := by
  have key : ∀ a, i_Vault a ([lI sizes, .lst (levers.map tI)] ++ [.non]) = M.ok (flds sizes levers) := by
    intro a
    have e1 : compL (setN 0) none (callV' s_rests (consL (getV 0) (consL (getV 1) nilL))) (levers.map tI) [none, some (.sh (lI sizes))] = M.ok (levers.map tI) := by
      refine comp_1 levers fun l hm => ?_
      have hs := hl l hm
      have := rests_ok (tI l) (lI sizes) l sizes rfl rfl (fun s hs => by have := h.hx s hs; omega) (by rw [hs.len]; have := h.h6; omega)
      simp only [callV', consL, getV, gz, gs, nilL, M.bind_ok, this]
      rw [rst_self hs]
    unfold i_Vault g_Vault_init
    simp only [lenI]
    rw [grd_pos (show ([lI sizes, PV.lst (levers.map tI)] ++ [PV.non]).length + 1 = 4 from rfl)]
    simp only [runI, envI]
    simp only [seqS, dropS, callV', consL, getV, env0, ca, na, mc, List.map_nil, Nat.reduceSub, lc, List.length_nil, Nat.reduceAdd, Nat.sub_self, List.replicate, gs, gz, nilL, M.bind_ok, need_sizes_ok sizes h.h1 h.h6 h.hx, thenS_nx, lenP, len1_lI, need_levers_ok sizes.length levers h8 (fun l hm => (hl l hm).len) (by have := h.h6; omega), fldS, tupleP, seqP_lI, Option.map_some, optM_some, M.bind_assoc]
    rw [bdPut_0 _ _ _ _ _ _ (by simp)]
    simp only [M.bind_ok, thenS_nx, seqS, fldS, callV', consL, lstOf, compF, itemsOf, getV, gs, gz, seqP_lst, blockE, List.replicate, mc, List.map_nil, ca, na, List.length_map, e1, noX_ok, grd_pos (sz1000 (show levers.length ≤ 1000 by omega)), nilL, tupleP, Option.map_some, optM_some, M.bind_assoc]
    rw [bdPut_0 _ _ _ _ _ _ (Nat.lt_of_le_of_lt (put_lt (Nat.zero_le 0)) (by decide))]
    simp only [M.bind_ok, thenS_nx, seqS, fldS, callV', consL, getV, gs, gz, nilL, prices_ok _ (show (levers.map tI).length ≤ 8 by rw [List.length_map]; exact h8), List.length_map, M.bind_assoc]
    rw [bdPut_0 _ _ _ _ _ _ (Nat.lt_of_le_of_lt (put_lt (put_lt (Nat.zero_le 0))) (by decide))]
    simp only [M.bind_ok, thenS_nx, seqS, fldS, callV', consL, getV, gs, gz, nilL, multiple_ok sizes h, M.bind_assoc]
    rw [bdPut_0 _ _ _ _ _ _ (Nat.lt_of_le_of_lt (put_lt (put_lt (put_lt (Nat.zero_le 0)))) (by decide))]
    simp only [M.bind_ok, thenS_nx, nextS]
    show grd _ _ = _
    rw [grd_pos ⟨rfl, rfl⟩]
    rfl
  unfold makeP
  rw [uni_eq key]; rfl
theorem lk_sizes (sizes : List Int) (levers : List (List Int)) : (flds sizes levers).lookup (Str.ofString "dial_sizes") = some (tI sizes) := rfl
theorem lk_levers (sizes : List Int) (levers : List (List Int)) : (flds sizes levers).lookup (Str.ofString "lever_settings") = some (.tup (levers.map tI)) := rfl
theorem lk_round (sizes : List Int) (levers : List (List Int)) : (flds sizes levers).lookup (Str.ofString "least_round") = some (.int (R sizes)) := rfl
theorem lk_m1 (sizes : List Int) (levers : List (List Int)) : (flds sizes levers).lookup (Str.ofString "sizes") = none := rfl
theorem lk_m2 (sizes : List Int) (levers : List (List Int)) : (flds sizes levers).lookup (Str.ofString "levers") = none := rfl
theorem lk_m3 (sizes : List Int) (levers : List (List Int)) : (flds sizes levers).lookup (Str.ofString "around") = none := rfl
theorem sizes_ok (sizes : List Int) (levers : List (List Int)) : s_Vault_sizes [vlt sizes levers] = M.ok (tI sizes) := by
  unfold s_Vault_sizes g_Vault_sizes
  simp only [lenG, vlt, lc, List.length_nil, Nat.reduceAdd, runD, seqS, retS, fldV, getV, env0, mc, List.map_nil, Nat.sub_self, List.replicate, ca, na, gz, M.bind_ok, beq_self_eq_true, lk_sizes, optM_some, grd_pos trivial, thenS_rt, outP_rt]
theorem levers_ok (sizes : List Int) (levers : List (List Int)) : s_Vault_levers [vlt sizes levers] = M.ok (.tup (levers.map tI)) := by
  unfold s_Vault_levers g_Vault_levers
  simp only [lenG, vlt, lc, List.length_nil, Nat.reduceAdd, runD, seqS, retS, fldV, getV, env0, mc, List.map_nil, Nat.sub_self, List.replicate, ca, na, gz, M.bind_ok, beq_self_eq_true, lk_levers, optM_some, grd_pos trivial, thenS_rt, outP_rt]
theorem around_ok (sizes : List Int) (levers : List (List Int)) : s_Vault_around [vlt sizes levers] = M.ok (.int (R sizes)) := by
  unfold s_Vault_around g_Vault_around
  simp only [lenG, vlt, lc, List.length_nil, Nat.reduceAdd, runD, seqS, retS, fldV, getV, env0, mc, List.map_nil, Nat.sub_self, List.replicate, ca, na, gz, M.bind_ok, beq_self_eq_true, lk_round, optM_some, grd_pos trivial, thenS_rt, outP_rt]
theorem m_sizes {g : PEnv → M PV} {env : PEnv} {sizes : List Int} {levers : List (List Int)} (h : g env = M.ok (vlt sizes levers)) : methV C_Vault "sizes" s_Vault_sizes g nilL env = M.ok (tI sizes) := by
  have := sizes_ok sizes levers
  rw [methV, h, M.bind_ok]
  show grd _ (M.bind (nilL env) _) = _
  rw [grd_pos ⟨rfl, lk_m1 sizes levers⟩]
  exact this
theorem m_levers {g : PEnv → M PV} {env : PEnv} {sizes : List Int} {levers : List (List Int)} (h : g env = M.ok (vlt sizes levers)) : methV C_Vault "levers" s_Vault_levers g nilL env = M.ok (.tup (levers.map tI)) := by
  have := levers_ok sizes levers
  rw [methV, h, M.bind_ok]
  show grd _ (M.bind (nilL env) _) = _
  rw [grd_pos ⟨rfl, lk_m2 sizes levers⟩]
  exact this
theorem m_around {g : PEnv → M PV} {env : PEnv} {sizes : List Int} {levers : List (List Int)} (h : g env = M.ok (vlt sizes levers)) : methV C_Vault "around" s_Vault_around g nilL env = M.ok (.int (R sizes)) := by
  have := around_ok sizes levers
  rw [methV, h, M.bind_ok]
  show grd _ (M.bind (nilL env) _) = _
  rw [grd_pos ⟨rfl, lk_m3 sizes levers⟩]
  exact this
end K41
namespace K41
open PySem L2 PyProof.Rows
def stgB (sizes xs : List Int) : Bool := decide ((xs.length : Int) = sizes.length) && (xs.zip sizes).all fun z => decide (0 ≤ z.1 ∧ z.1 < z.2)
theorem stg_iff {sizes xs : List Int} : stgB sizes xs = true ↔ Stg sizes xs := by
  unfold stgB
  constructor
  · intro h
    simp only [Bool.and_eq_true, decide_eq_true_eq, List.all_eq_true] at h
    exact ⟨by omega, h.2⟩
  · intro h
    simp only [Bool.and_eq_true, decide_eq_true_eq, List.all_eq_true]
    exact ⟨by rw [h.len], h.rng⟩
theorem chain_ok (x s : Int) : ∀ env : PEnv, env = [some (.sh (.int x)), some (.sh (.int s))] → chainV leP ltP (fun _ => M.ok (.int 0)) (getV 0) (getV 1) env = M.ok (.bl (decide (0 ≤ x ∧ x < s))) := by
  rintro env rfl
  simp only [chainV, getV, gz, gs, M.bind_ok, ltP_int, leP_int, truB_bl]
  by_cases h : 0 ≤ x
  · simp only [h, decide_true, if_true, true_and]
    try simp only [lenG, runD, env0, seqS, thenS_nx, thenS_rt, retS, setS, setO, dropS, ifS, nextS, M.bind_ok, M.bind_some, M.bind_none, M.bind_err, M.bind_assoc, getV, bin2, callV', consL, nilL, tupV_eq, lstV_eq, tupK_0, lstK_0, tupK_1, lstK_1, tupK_2, lstK_2, tupK_3, lstK_3, tupK_4, lstK_4, tupK_5, lstK_5, tupK_6, lstK_6, tst, notB, andB, orB, notV, andV, orV, iteV, negV, neg1, chainV, truB_bl, itemsOf, itL, outP_rt, outP_nx, optM_some, len1_tI, len1_lI, len1_tup, len1_lst, len1_scr, seqP_tI, seqP_lI, seqP_tup, seqP_lst, seqP_scr, lenP, tupleP, listP, noX_ok, lc, List.length_nil, mc, List.map_nil, ca, na, List.replicate, gz, gs, List.getElem?_nil, s0, ss, List.set_nil, Nat.reduceAdd, Nat.reduceSub, if_true, if_false, Bool.not_true, Bool.not_false, Bool.false_eq_true, ite_true, ite_false, reduceIte, reduceCtorEq, Nat.sub_self, blockE, lstOf, compF, Option.map_some, Option.map_none, isV, isW_tI, isW_lI, isW_tup, isW_lst, isW_int, isW_bl, isW_non, isW_str, isW_emp, subN, List.any_cons, List.any_nil, String.reduceBEq, Bool.or_false, Bool.or_true, Bool.true_or, Bool.false_or, Bool.and_true, Bool.and_false, Bool.true_and, Bool.false_and, neP_int, eqP_int, neP_bl, eqP_bl, ltP_int, leP_int, gtP_int, geP_int, addP_int, subP_int, forS, frzS, List.foldl_cons, List.foldl_nil, frzE, grd_pos trivial]
  · simp only [h, decide_false, false_and]
    try simp only [Bool.false_eq_true, if_false]
theorem all_bl {α : Type} (h : α → Bool) (xs : List α) : allP [.lst (xs.map fun a => .bl (h a))] = M.ok (.bl (xs.all h)) := by
  have := allP_map (xs.map h)
  rw [List.map_map] at this
  rw [show (fun a => PV.bl (h a)) = PV.bl ∘ h from rfl, this]
  simp [List.all_map]
section
variable {sizes : List Int} {levers : List (List Int)}
theorem setting_tI (h : Sz sizes) (xs : List Int) (hz : xs.length ≤ 1000) : s_is_setting [vlt sizes levers, tI xs] = M.ok (.bl (stgB sizes xs)) := by
  have key : compL (setT2 0 1) none (chainV leP ltP (fun _ => M.ok (.int 0)) (getV 0) (getV 1)) ((xs.zip sizes).map fun z => .tup [.int z.1, .int z.2]) [none, none] = M.ok ((xs.zip sizes).map fun z => .bl (decide (0 ≤ z.1 ∧ z.1 < z.2))) :=
    comp_2 (p := fun z : Int × Int => PV.int z.1) (q := fun z : Int × Int => PV.int z.2) (xs.zip sizes) fun z hz => chain_ok z.1 z.2 _ rfl
  have hl : (xs.zip sizes).length ≤ sizeLine := by rw [List.length_zip]; exact sz1000 (Nat.le_trans (Nat.min_le_left _ _) hz)
  unfold s_is_setting g_is_setting
  simp only [lenG, lc, List.length_nil, Nat.reduceAdd, runD, seqS, setS, env0, mc, List.map_nil, Nat.reduceSub, List.replicate, ca, na, m_sizes (sizes := sizes) (levers := levers) (g := getV 0) (env := [some (.sh (vlt sizes levers)), some (.sh (tI xs)), none]) rfl, ss, s0, M.bind_ok, subN, String.reduceBEq, Bool.and_false, Bool.or_false, thenS_nx, ifS, orB, notB, tst, isV, getV, gs, gz, isW_tI, truB_bl, Bool.not_true, callV', consL, nilL, lenP, len1_tI, row_tI xs sizes.length (sz1000 hz), Bool.false_eq_true, if_false, retS, thenS_rt, nextS, M.bind_assoc, grd_pos trivial]
  unfold stgB
  by_cases e : (xs.length : Int) = sizes.length
  · simp only [e, decide_true, Bool.not_true, Bool.false_eq_true, if_false, Bool.true_and]
    simp only [M.bind_ok, thenS_nx, seqS, retS, callV', consL, lstOf, compF, itL, getV, gs, gz, nilL, zip2_map (p := tI xs) (q := tI sizes) xs sizes rfl rfl, blockE, List.replicate, List.map_nil, ca, na, List.length_map, key, noX_ok, grd_pos hl, all_bl, thenS_rt, outP_rt]
  · simp only [e, decide_false, Bool.not_false, if_true, Bool.false_and]
    simp only [M.bind_ok, thenS_rt, outP_rt]
theorem setting_no {p : PV} (hp : isW (fun a => a == "tuple") noA noA p = M.ok (.bl false)) : s_is_setting [vlt sizes levers, p] = M.ok (.bl false) := by
  unfold s_is_setting g_is_setting
  simp only [lenG, lc, List.length_nil, Nat.reduceAdd, runD, seqS, setS, env0, mc, List.map_nil, Nat.reduceSub, List.replicate, ca, na, m_sizes (sizes := sizes) (levers := levers) (g := getV 0) (env := [some (.sh (vlt sizes levers)), some (.sh p), none]) rfl, ss, s0, M.bind_ok, subN, String.reduceBEq, Bool.and_false, Bool.or_false, thenS_nx, ifS, orB, notB, tst, isV, getV, gs, gz, hp, truB_bl, Bool.not_false, callV', consL, nilL, lenP, len1_tI, M.bind_assoc, if_true, retS, thenS_rt, nextS, outP_rt, grd_pos trivial]
theorem setting_norow {ps : List PV} (hp : s_is_row [.tup ps, .int sizes.length] = M.ok (.bl false)) : s_is_setting [vlt sizes levers, .tup ps] = M.ok (.bl false) := by
  unfold s_is_setting g_is_setting
  simp only [lenG, lc, List.length_nil, Nat.reduceAdd, runD, seqS, setS, env0, mc, List.map_nil, Nat.reduceSub, List.replicate, ca, na, m_sizes (sizes := sizes) (levers := levers) (g := getV 0) (env := [some (.sh (vlt sizes levers)), some (.sh (.tup ps)), none]) rfl, ss, s0, M.bind_ok, subN, String.reduceBEq, Bool.and_false, Bool.or_false, thenS_nx, ifS, orB, notB, tst, isV, getV, gs, gz, isW_tup, truB_bl, Bool.not_true, callV', consL, nilL, lenP, len1_tI, hp, Bool.not_false, Bool.false_eq_true, if_false, retS, thenS_rt, nextS, if_true, outP_rt, grd_pos trivial]
theorem need_ok (h : Sz sizes) {xs : List Int} (hs : Stg sizes xs) : s_need_setting [vlt sizes levers, tI xs] = M.ok .non := by
  unfold s_need_setting g_need_setting
  simp only [lenG, lc, List.length_nil, Nat.reduceAdd, runD, seqS, ifS, notB, tst, callV', consL, getV, env0, mc, List.map_nil, Nat.sub_self, List.replicate, ca, na, gz, gs, nilL, M.bind_ok, setting_tI (levers := levers) h xs (by rw [hs.len]; have := h.h6; omega), stg_iff.mpr hs, truB_bl, Bool.not_true, nextS, Bool.false_eq_true, if_false, thenS_nx, outP_nx, grd_pos trivial]
end
def wgh (sizes ws xs : List Int) : Int := ((((ws.zip sizes).map fun z => z.1 * (R sizes / z.2)).zip xs).map fun z => z.1 * z.2).sum % R sizes
theorem mem_zip {xs ys : List Int} {z : Int × Int} (h : z ∈ xs.zip ys) : z.1 ∈ xs ∧ z.2 ∈ ys := List.of_mem_zip (a := z.1) (b := z.2) h
theorem stg_mem {sizes xs : List Int} (h : Sz sizes) (hs : Stg sizes xs) {x : Int} (hx : x ∈ xs) : 0 ≤ x ∧ x < 360 := by
  obtain ⟨i, hi, rfl⟩ := List.mem_iff_getElem.mp hx
  have hj : i < sizes.length := by rw [← hs.len]; exact hi
  have := hs.rng (xs[i], sizes[i]) (by
    rw [List.mem_iff_getElem]
    exact ⟨i, by rw [List.length_zip]; omega, by rw [List.getElem_zip]⟩)
  have h2 := h.hx sizes[i] (List.getElem_mem hj)
  exact ⟨this.1, by have := this.2; simp only at this; omega⟩
theorem share_lt {sizes : List Int} (h : Sz sizes) {s : Int} (hs : s ∈ sizes) : 0 ≤ R sizes / s ∧ R sizes / s < 2 ^ 60 := by
  have h1 := R_pos h; have h2 := R_lt h; have h3 := h.hx s hs
  refine ⟨Int.ediv_nonneg (by omega) (by omega), Int.lt_of_le_of_lt (Int.ediv_le_self s (by omega)) h2⟩
theorem worth_lt {sizes : List Int} (h : Sz sizes) {w s : Int} (hw : 0 ≤ w ∧ w < 360) (hs : s ∈ sizes) : (w * (R sizes / s)).natAbs < 2 ^ 80 := by
  have h1 := share_lt h hs
  rw [Int.natAbs_mul]
  have : w.natAbs * (R sizes / s).natAbs ≤ 2 ^ 9 * 2 ^ 60 := Nat.mul_le_mul (by omega) (by omega)
  exact Nat.lt_of_le_of_lt this (by decide)
theorem weigh_ok {sizes : List Int} {levers : List (List Int)} (h : Sz sizes) {ws xs : List Int} (hw : Stg sizes ws) (hs : Stg sizes xs) : s_weigh [vlt sizes levers, tI ws, tI xs] = M.ok (.int (wgh sizes ws xs)) := by
  have l6 := h.h6
  have k1 : compL (setT2 0 1) none (bin2 mulP (getV 0) (bin2 fdivP (getV 2) (getV 1))) ((ws.zip sizes).map fun z => .tup [.int z.1, .int z.2]) [none, none, some (.sh (.int (R sizes)))] = M.ok ((ws.zip sizes).map fun z => .int (z.1 * (R sizes / z.2))) := by
    refine comp_2 (p := fun z : Int × Int => PV.int z.1) (q := fun z : Int × Int => PV.int z.2) (ws.zip sizes) fun z hz => ?_
    obtain ⟨m1, m2⟩ := mem_zip hz
    have a1 := h.hx z.2 m2; have a2 := stg_mem h hw m1; have a3 := share_lt h m2
    simp only [bin2, getV, gz, gs, M.bind_ok, fdivP_pos (i := R sizes) (show 0 < z.2 by omega) (show z.2 < 2 ^ 64 by omega), mulP_int (k := 64) (l := 64) (show z.1.natAbs < 2 ^ 64 by omega) (show (R sizes / z.2).natAbs < 2 ^ 64 by omega)]
  have z1 : (ws.zip sizes).length ≤ sizeLine := by rw [List.length_zip]; exact sz1000 (Nat.le_trans (Nat.min_le_right _ _) (by omega))
  let us := (ws.zip sizes).map fun z => z.1 * (R sizes / z.2)
  have k2 : compL (setT2 0 1) none (bin2 mulP (getV 0) (getV 1)) ((us.zip xs).map fun z => .tup [.int z.1, .int z.2]) [none, none] = M.ok ((us.zip xs).map fun z => .int (z.1 * z.2)) := by
    refine comp_2 (p := fun z : Int × Int => PV.int z.1) (q := fun z : Int × Int => PV.int z.2) (us.zip xs) fun z hz => ?_
    obtain ⟨m1, m2⟩ := mem_zip hz
    obtain ⟨y, hy, e⟩ := List.mem_map.mp m1
    obtain ⟨n1, n2⟩ := mem_zip hy
    have a1 := worth_lt h (stg_mem h hw n1) n2
    rw [e] at a1
    have a2 := stg_mem h hs m2
    simp only [bin2, getV, gz, gs, M.bind_ok, mulP_int (k := 80) (l := 64) a1 (show z.2.natAbs < 2 ^ 64 by omega)]
  have z2 : (us.zip xs).length ≤ sizeLine := by rw [List.length_zip]; exact sz1000 (Nat.le_trans (Nat.min_le_right _ _) (by rw [hs.len]; omega))
  have k3 : s_rest_sum [.lst ((ws.zip sizes).map fun z => .int (z.1 * (R sizes / z.2))), tI xs, .int (R sizes)] = M.ok (.int (wgh sizes ws xs)) := by
    have e0 : seqP (.lst ((ws.zip sizes).map fun z => PV.int (z.1 * (R sizes / z.2)))) = some (us.map PV.int) := by
      rw [seqP_lst, List.map_map]; rfl
    have e1 : sumP [.lst ((us.zip xs).map fun z => PV.int (z.1 * z.2))] = M.ok (.int ((us.zip xs).map fun z => z.1 * z.2).sum) := by
      have := sumP_map ((us.zip xs).map fun z => z.1 * z.2)
      rw [List.map_map] at this
      exact this
    unfold s_rest_sum g_rest_sum
    simp only [lenG, lc, List.length_nil, Nat.reduceAdd, runD, seqS, retS, bin2, callV', consL, lstOf, compF, itL, getV, env0, mc, List.map_nil, Nat.sub_self, List.replicate, ca, na, gz, gs, nilL, M.bind_ok, zip2_map (q := tI xs) us xs e0 rfl, blockE, List.length_map, k2, noX_ok, grd_pos z2, e1, modP_pos (R_pos h), thenS_rt, outP_rt, grd_pos trivial]
    rfl
  unfold s_weigh g_weigh
  simp only [lenG, lc, List.length_nil, Nat.reduceAdd, runD, seqS, dropS, callV', consL, getV, env0, mc, List.map_nil, Nat.reduceSub, List.replicate, ca, na, gz, gs, nilL, M.bind_ok, need_ok (levers := levers) h hw, thenS_nx, need_ok (levers := levers) h hs, setS, m_around (sizes := sizes) (levers := levers) (g := getV 0) (env := [some (.sh (vlt sizes levers)), some (.sh (tI ws)), some (.sh (tI xs)), none, none]) rfl, ss, s0, lstOf, compF, itL, m_sizes (sizes := sizes) (levers := levers) (g := getV 0) (env := [some (.sh (vlt sizes levers)), some (.sh (tI ws)), some (.sh (tI xs)), some (.sh (.int (R sizes))), none]) rfl, zip2_map (p := tI ws) (q := tI sizes) ws sizes rfl rfl, blockE, List.length_map, k1, noX_ok, grd_pos z1, retS, k3, thenS_rt, outP_rt, grd_pos trivial]
theorem weighs_ok {sizes : List Int} {levers : List (List Int)} (h : Sz sizes) (h8 : levers.length ≤ 8) {ws : List Int} (hw : Stg sizes ws) (hl : ∀ l ∈ levers, Stg sizes l) : s_weighs_no_lever [vlt sizes levers, tI ws] = M.ok (.bl (levers.all fun l => decide (wgh sizes ws l = 0))) := by
  have k : compL (setN 0) none (bin2 eqP (callV' s_weigh (consL (getV 1) (consL (getV 2) (consL (getV 0) nilL)))) (fun _ => M.ok (.int 0))) (levers.map tI) [none, some (.sh (vlt sizes levers)), some (.sh (tI ws))] = M.ok (levers.map fun l => .bl (decide (wgh sizes ws l = 0))) := by
    refine comp_1 levers fun l hm => ?_
    simp only [bin2, callV', consL, getV, gs, gz, nilL, M.bind_ok, weigh_ok (levers := levers) h hw (hl l hm), eqP_int]
  unfold s_weighs_no_lever g_weighs_no_lever
  simp only [lenG, lc, List.length_nil, Nat.reduceAdd, runD, seqS, retS, callV', consL, lstOf, compF, itemsOf, env0, mc, List.map_nil, Nat.sub_self, List.replicate, ca, na, m_levers (sizes := sizes) (levers := levers) (g := getV 0) (env := [some (.sh (vlt sizes levers)), some (.sh (tI ws))]) rfl, M.bind_ok, seqP_tup, blockE, gz, gs, List.length_map, k, noX_ok, grd_pos (sz1000 (show levers.length ≤ 1000 by omega)), nilL, all_bl, thenS_rt, outP_rt, grd_pos trivial]
theorem still_ok {sizes : List Int} {levers : List (List Int)} (h : Sz sizes) (h8 : levers.length ≤ 8) {ws : List Int} (hw : Stg sizes ws) (hl : ∀ l ∈ levers, Stg sizes l) : s_is_still [vlt sizes levers, tI ws] = M.ok (.bl (levers.all fun l => decide (wgh sizes ws l = 0))) := by
  unfold s_is_still g_is_still
  simp only [lenG, lc, List.length_nil, Nat.reduceAdd, runD, seqS, retS, andV, callV', consL, getV, env0, mc, List.map_nil, Nat.sub_self, List.replicate, ca, na, gz, gs, nilL, M.bind_ok, setting_tI (levers := levers) h ws (by rw [hw.len]; have := h.h6; omega), stg_iff.mpr hw, weighs_ok h h8 hw hl, truB_bl, if_true, thenS_rt, outP_rt, grd_pos trivial]
theorem still_no {sizes : List Int} {levers : List (List Int)} {p : PV} (hp : s_is_setting [vlt sizes levers, p] = M.ok (.bl false)) : s_is_still [vlt sizes levers, p] = M.ok (.bl false) := by
  unfold s_is_still g_is_still
  simp only [lenG, lc, List.length_nil, Nat.reduceAdd, runD, seqS, retS, andV, callV', consL, getV, env0, mc, List.map_nil, Nat.sub_self, List.replicate, ca, na, gz, gs, nilL, M.bind_ok, hp, truB_bl, Bool.false_eq_true, if_false, thenS_rt, outP_rt, grd_pos trivial]
end K41
namespace K41
open PySem L2 PyProof.Rows
theorem cell_ok (ns : List Int) : ∃ c, s__law_cell [.scr (ns.map PV.int), .int 0] = M.ok (.int c) := by
  unfold s__law_cell g__law_cell
  cases ns with
  | nil =>
    refine ⟨((0 : Int) + 2) * 104729 % 65537, ?_⟩
    simp only [lenG, List.map_nil, lc, List.length_nil, Nat.reduceAdd, runD, seqS, ifS, tst, bin2, getV, env0, mc, Nat.sub_self, List.replicate, ca, na, gs, gz, callV', consL, nilL, M.bind_ok, lenP, len1_scr, ltP_int, truB_bl, retS, M.bind_assoc, thenS_rt, nextS, grd_pos trivial]
    rfl
  | cons a r =>
    refine ⟨a, ?_⟩
    have h : (0 : Int) < ((a :: r).map PV.int).length := by simp
    simp only [lenG, mc, lc, List.length_nil, Nat.reduceAdd, runD, seqS, ifS, tst, bin2, getV, env0, List.map_nil, Nat.sub_self, List.replicate, ca, na, gs, gz, callV', consL, nilL, M.bind_ok, lenP, len1_scr, List.length_map, ltP_int, truB_bl, retS, M.bind_assoc, thenS_rt, nextS, grd_pos trivial]
    simp only [lc, List.length_map, mc] at h
    have e := idxP_nat (p := .scr (.int a :: r.map PV.int)) (xs := .int a :: r.map PV.int) (j := 0) rfl rfl
    simp only [h, decide_true, if_true]
    simp only [show idxP (.scr (.int a :: r.map PV.int)) (.int 0) = M.ok (.int a) from e, M.bind_ok, thenS_rt, outP_rt]
def mx1 (c k : Int) : Int := (c % 2147483647 * 48271 + 7919 * k + 13) % 2147483629
def mx2 (c k : Int) : Int := (mx1 c k * mx1 c k + 104729 * k + 7) % 2147483587
def mx (c k : Int) : Int := mx2 c k * mx2 c k % 2147483579
theorem mix_ok (c k : Int) (h0 : 0 ≤ k) (h1 : k ≤ 1000) : s__law_mix [.int c, .int k] = M.ok (.int (mx c k)) := by
  have a0 : 0 ≤ c % 2147483647 ∧ c % 2147483647 < 2147483647 := ⟨Int.emod_nonneg _ (by decide), Int.emod_lt_of_pos _ (by decide)⟩
  have a1 : 0 ≤ mx1 c k ∧ mx1 c k < 2147483629 := ⟨Int.emod_nonneg _ (by decide), Int.emod_lt_of_pos _ (by decide)⟩
  have a2 : 0 ≤ mx2 c k ∧ mx2 c k < 2147483587 := ⟨Int.emod_nonneg _ (by decide), Int.emod_lt_of_pos _ (by decide)⟩
  unfold s__law_mix g__law_mix
  simp only [lenG, lc, List.length_nil, Nat.reduceAdd, runD, seqS, setS, bin2, getV, env0, mc, List.map_nil, Nat.reduceSub, List.replicate, ca, na, gz, M.bind_ok, modP_pos (i := c) (show (0 : Int) < 2147483647 by decide), mulP_int (k := 64) (l := 64) (show (c % 2147483647).natAbs < 2 ^ 64 by omega) (show (48271 : Int).natAbs < 2 ^ 64 by decide), gs, mulP_int (k := 64) (l := 64) (show (7919 : Int).natAbs < 2 ^ 64 by decide) (show k.natAbs < 2 ^ 64 by omega), addP_int, modP_pos (show (0 : Int) < 2147483629 by decide), ss, s0, thenS_nx, M.bind_assoc, retS, thenS_rt, outP_rt, grd_pos trivial]
  rw [show (c % 2147483647 * 48271 + 7919 * k + 13) % 2147483629 = mx1 c k from rfl]
  simp only [mulP_int (k := 64) (l := 64) (show (mx1 c k).natAbs < 2 ^ 64 by omega) (show (mx1 c k).natAbs < 2 ^ 64 by omega), mulP_int (k := 64) (l := 64) (show (104729 : Int).natAbs < 2 ^ 64 by decide) (show k.natAbs < 2 ^ 64 by omega), M.bind_ok, addP_int, modP_pos (show (0 : Int) < 2147483587 by decide)]
  rw [show (mx1 c k * mx1 c k + 104729 * k + 7) % 2147483587 = mx2 c k from rfl]
  simp only [mulP_int (k := 64) (l := 64) (show (mx2 c k).natAbs < 2 ^ 64 by omega) (show (mx2 c k).natAbs < 2 ^ 64 by omega), M.bind_ok, modP_pos (show (0 : Int) < 2147483579 by decide)]
  rfl
def szF (c k : Int) : Int := if (1 + c % 6) * (1 + mx (c / 6) k % 60) > 2 then (1 + c % 6) * (1 + mx (c / 6) k % 60) else 2
theorem sizes_law (c : Int) : ∃ sizes, s__law_sizes [.int c] = M.ok (lI sizes) ∧ Sz sizes := by
  have hc : 0 ≤ c % 6 ∧ c % 6 < 6 := ⟨Int.emod_nonneg _ (by decide), Int.emod_lt_of_pos _ (by decide)⟩
  have hd : 0 ≤ c / 6 % 6 ∧ c / 6 % 6 < 6 := ⟨Int.emod_nonneg _ (by decide), Int.emod_lt_of_pos _ (by decide)⟩
  let xs := (List.range (1 + c / 6 % 6).toNat).map fun (i : Nat) => szF c i
  have key : compL (setN 0) none (callV' (int2P fun i j => if j > i then j else i) (consL (fun _ => M.ok (.int 2)) (consL (bin2 mulP (getV 2) (bin2 addP (fun _ => M.ok (.int 1)) (bin2 modP (callV' s__law_mix (consL (bin2 fdivP (getV 1) (fun _ => M.ok (.int 6))) (consL (getV 0) nilL))) (fun _ => M.ok (.int 60))))) nilL)))
      ((List.range (1 + c / 6 % 6).toNat).map fun (i : Nat) => .int (i : Int)) [none, some (.sh (.int c)), some (.sh (.int (1 + c % 6)))] = M.ok ((List.range (1 + c / 6 % 6).toNat).map fun (i : Nat) => .int (szF c i)) := by
    refine comp_1 (inj := fun (i : Nat) => PV.int (i : Int)) (List.range (1 + c / 6 % 6).toNat) fun i hi => ?_
    have hi' := List.mem_range.mp hi
    have hm : 0 ≤ mx (c / 6) i % 60 ∧ mx (c / 6) i % 60 < 60 := ⟨Int.emod_nonneg _ (by decide), Int.emod_lt_of_pos _ (by decide)⟩
    simp only [callV', consL, bin2, getV, gs, gz, M.bind_ok, fdivP_pos (i := c) (show (0 : Int) < 6 by decide) (by decide), nilL, mix_ok (c / 6) i (by omega) (by omega), modP_pos (show (0 : Int) < 60 by decide), addP_int, mulP_int (k := 64) (l := 64) (show (1 + c % 6).natAbs < 2 ^ 64 by omega) (show (1 + mx (c / 6) i % 60).natAbs < 2 ^ 64 by omega), int2P, int2]
    rfl
  refine ⟨xs, ?_, ?_, ?_, ?_⟩
  · unfold s__law_sizes g__law_sizes
    simp only [lenG, lc, List.length_nil, Nat.reduceAdd, runD, seqS, setS, bin2, getV, env0, mc, List.map_nil, Nat.reduceSub, List.replicate, ca, na, gz, M.bind_ok, modP_pos (show (0 : Int) < 6 by decide), addP_int, ss, s0, thenS_nx, retS, lstOf, compF, itL, consL, fdivP_pos (i := c) (show (0 : Int) < 6 by decide) (by decide), nilL, rng1_int (show 0 ≤ 1 + c / 6 % 6 by omega) (show 1 + c / 6 % 6 < 2 ^ 62 by omega), blockE, gs, List.length_map, List.length_range, key, noX_ok, grd_pos (sz1000 (show (1 + c / 6 % 6).toNat ≤ 1000 by omega)), thenS_rt, outP_rt, grd_pos trivial]
    rw [lI, List.map_map]; rfl
  · show 1 ≤ xs.length
    rw [List.length_map, List.length_range]; omega
  · rw [List.length_map, List.length_range]; omega
  · intro x hx
    obtain ⟨i, _, rfl⟩ := List.mem_map.mp hx
    have hm : 0 ≤ mx (c / 6) i % 60 ∧ mx (c / 6) i % 60 < 60 := ⟨Int.emod_nonneg _ (by decide), Int.emod_lt_of_pos _ (by decide)⟩
    have : (1 + c % 6) * (1 + mx (c / 6) i % 60) ≤ 6 * 60 := Int.mul_le_mul (by omega) (by omega) (by omega) (by omega)
    unfold szF
    split <;> omega
theorem wgh_eq (Rr : Int) : ∀ (ws xs sizes : List Int), ((ws.zip (xs.zip sizes)).map fun z => z.1 * z.2.1 * (Rr / z.2.2)).sum = ((((ws.zip sizes).map fun z => z.1 * (Rr / z.2)).zip xs).map fun z => z.1 * z.2).sum
  | [], _, _ => by simp
  | w :: ws, [], sizes => by simp
  | w :: ws, x :: xs, [] => by simp
  | w :: ws, x :: xs, s :: sizes => by
    simp only [List.zip_cons_cons, mc, List.sum_cons, wgh_eq Rr ws xs sizes]
    rw [Int.mul_assoc, Int.mul_comm x, Int.mul_assoc]
theorem lweigh_ok {sizes : List Int} (h : Sz sizes) {ws xs : List Int} (hw : Stg sizes ws) (hs : Stg sizes xs) : s__law_weigh [tI ws, tI xs, lI sizes] = M.ok (.int (wgh sizes ws xs)) := by
  have l6 := h.h6
  have k1 : compL (setT3 0 1 2) none (bin2 mulP (bin2 mulP (getV 0) (getV 1)) (bin2 fdivP (getV 3) (getV 2))) ((ws.zip (xs.zip sizes)).map fun z => .tup [.int z.1, .int z.2.1, .int z.2.2]) [none, none, none, some (.sh (.int (R sizes)))] = M.ok ((ws.zip (xs.zip sizes)).map fun z => .int (z.1 * z.2.1 * (R sizes / z.2.2))) := by
    refine comp_3 (p := fun z : Int × Int × Int => PV.int z.1) (q := fun z : Int × Int × Int => PV.int z.2.1) (s := fun z : Int × Int × Int => PV.int z.2.2) (ws.zip (xs.zip sizes)) fun z hz => ?_
    obtain ⟨m1, m2⟩ := List.of_mem_zip (a := z.1) (b := z.2) hz
    obtain ⟨m3, m4⟩ := mem_zip m2
    have a1 := h.hx z.2.2 m4; have a2 := stg_mem h hw m1; have a3 := share_lt h m4; have a4 := stg_mem h hs m3
    have a5 : (z.1 * z.2.1).natAbs < 2 ^ 64 := by
      rw [Int.natAbs_mul]
      exact Nat.lt_of_le_of_lt (Nat.mul_le_mul (show z.1.natAbs ≤ 360 by omega) (show z.2.1.natAbs ≤ 360 by omega)) (by decide)
    simp only [bin2, getV, gz, gs, M.bind_ok, mulP_int (k := 64) (l := 64) (show z.1.natAbs < 2 ^ 64 by omega) (show z.2.1.natAbs < 2 ^ 64 by omega), fdivP_pos (i := R sizes) (show 0 < z.2.2 by omega) (show z.2.2 < 2 ^ 64 by omega), mulP_int (k := 64) (l := 64) a5 (show (R sizes / z.2.2).natAbs < 2 ^ 64 by omega)]
  have z1 : (ws.zip (xs.zip sizes)).length ≤ sizeLine := by rw [List.length_zip]; exact sz1000 (Nat.le_trans (Nat.min_le_left _ _) (by rw [hw.len]; omega))
  have e1 : sumP [.lst ((ws.zip (xs.zip sizes)).map fun z => PV.int (z.1 * z.2.1 * (R sizes / z.2.2)))] = M.ok (.int ((ws.zip (xs.zip sizes)).map fun z => z.1 * z.2.1 * (R sizes / z.2.2)).sum) := by
    have := sumP_map ((ws.zip (xs.zip sizes)).map fun z => z.1 * z.2.1 * (R sizes / z.2.2))
    rw [List.map_map] at this
    exact this
  unfold s__law_weigh g__law_weigh
  simp only [lenG, lc, List.length_nil, Nat.reduceAdd, runD, seqS, setS, callV', consL, getV, env0, mc, List.map_nil, Nat.reduceSub, List.replicate, ca, na, gs, gz, nilL, M.bind_ok, round_ok sizes h, ss, s0, thenS_nx, retS, bin2, lstOf, compF, itL, zip3_map (p := tI ws) (q := tI xs) (r := lI sizes) ws xs sizes rfl rfl rfl, blockE, List.length_map, k1, noX_ok, grd_pos z1, e1, modP_pos (R_pos h), thenS_rt, outP_rt, grd_pos trivial]
  rw [wgh, wgh_eq]
end K41
namespace K41
open PySem L2 PyProof.Rows
theorem stg_of {sizes : List Int} {f : Int × Nat → Int} (H : ∀ z ∈ sizes.zipIdx, 0 ≤ f z ∧ f z < z.1) : Stg sizes (sizes.zipIdx.map f) := by
  refine ⟨by simp, fun z hz => ?_⟩
  obtain ⟨i, hi, e⟩ := List.mem_iff_getElem.mp hz
  rw [List.getElem_zip, List.getElem_map, List.getElem_zipIdx] at e
  rw [List.length_zip, List.length_map, List.length_zipIdx] at hi
  have hi2 : i < sizes.length := by omega
  have := H (sizes[i], 0 + i) (by
    rw [List.mem_iff_getElem]
    exact ⟨i, by rw [List.length_zipIdx]; exact hi2, by rw [List.getElem_zipIdx]⟩)
  rw [← e]; exact this
theorem stg_set {sizes us : List Int} (h : Stg sizes us) {j : Nat} (hj : j < sizes.length) {v : Int} (hv : 0 ≤ v ∧ v < sizes[j]) : Stg sizes (us.set j v) := by
  refine ⟨by rw [List.length_set]; exact h.len, fun z hz => ?_⟩
  obtain ⟨i, hi, e⟩ := List.mem_iff_getElem.mp hz
  rw [List.getElem_zip] at e
  rw [List.length_zip, List.length_set] at hi
  rw [← e]
  by_cases hij : j = i
  · subst hij
    simp only [List.getElem_set_self]; exact hv
  · simp only [List.getElem_set_ne hij]
    exact h.rng _ (by
      rw [List.mem_iff_getElem]
      exact ⟨i, by rw [List.length_zip]; exact hi, by rw [List.getElem_zip]⟩)
theorem zipIdx_lt {sizes : List Int} {z : Int × Nat} (h : z ∈ sizes.zipIdx) : z.2 < sizes.length ∧ z.1 ∈ sizes := by
  have h1 := List.snd_lt_of_mem_zipIdx h
  exact ⟨by omega, List.fst_mem_of_mem_zipIdx h⟩
theorem place {n : Nat} (h : 1 ≤ n) (x : Int) : ∃ j : Nat, x % (n : Int) = (j : Int) ∧ j < n := by
  have h0 := Int.emod_nonneg x (show (n : Int) ≠ 0 by omega)
  have h1 := Int.emod_lt_of_pos x (show (0 : Int) < n by omega)
  exact ⟨(x % n).toNat, by omega, by omega⟩
theorem ixN_nat {n j : Nat} (h : j < n) : ixN n (j : Int) = some j := by
  unfold ixN
  rw [if_pos (by omega), if_pos (by omega)]; simp
theorem weights_ok {sizes : List Int} (h : Sz sizes) (c share : Int) (hs : 1 ≤ share ∧ share ≤ 6) : ∃ ws, s__law_weights [.int c, lI sizes, .int share] = M.ok (tI ws) ∧ Stg sizes ws := by
  have l6 := h.h6
  have zl : sizes.zipIdx.length ≤ sizeLine := by rw [List.length_zipIdx]; exact sz1000 (by omega)
  have k1 : ∀ rest, compL (setT2 0 1) none (bin2 mulP (bin2 fdivP (getV 1) (getV 3)) (bin2 modP (callV' s__law_mix (consL (getV 2) (consL (getV 0) nilL))) (getV 3))) (sizes.zipIdx.map fun z => .tup [.int (z.2 : Int), .int z.1]) (none :: none :: some (.sh (.int c)) :: some (.sh (.int share)) :: rest) = M.ok (sizes.zipIdx.map fun z => .int (z.1 / share * (mx c z.2 % share))) := by
    intro rest
    refine comp_2 (p := fun z : Int × Nat => PV.int (z.2 : Int)) (q := fun z : Int × Nat => PV.int z.1) sizes.zipIdx fun z hz => ?_
    obtain ⟨m1, m2⟩ := zipIdx_lt hz
    have a1 := h.hx z.1 m2
    have a2 : 0 ≤ mx c z.2 % share ∧ mx c z.2 % share < share := ⟨Int.emod_nonneg _ (by omega), Int.emod_lt_of_pos _ (by omega)⟩
    have a3 : 0 ≤ z.1 / share ∧ z.1 / share ≤ z.1 := ⟨Int.ediv_nonneg (by omega) (by omega), Int.ediv_le_self _ (by omega)⟩
    simp only [bin2, getV, gs, gz, M.bind_ok, fdivP_pos (i := z.1) (show 0 < share by omega) (show share < 2 ^ 64 by omega), callV', consL, nilL, mix_ok c z.2 (by omega) (by omega), modP_pos (i := mx c z.2) (show 0 < share by omega), mulP_int (k := 64) (l := 64) (show (z.1 / share).natAbs < 2 ^ 64 by omega) (show (mx c z.2 % share).natAbs < 2 ^ 64 by omega)]
  have k2 : ∀ rest, compL (setT2 0 1) none (bin2 modP (callV' s__law_mix (consL (getV 2) (consL (bin2 addP (fun _ => M.ok (.int 9)) (getV 0)) nilL))) (getV 1)) (sizes.zipIdx.map fun z => .tup [.int (z.2 : Int), .int z.1]) (none :: none :: some (.sh (.int c)) :: rest) = M.ok (sizes.zipIdx.map fun z => .int (mx c (9 + z.2) % z.1)) := by
    intro rest
    refine comp_2 (p := fun z : Int × Nat => PV.int (z.2 : Int)) (q := fun z : Int × Nat => PV.int z.1) sizes.zipIdx fun z hz => ?_
    obtain ⟨m1, m2⟩ := zipIdx_lt hz
    have a1 := h.hx z.1 m2
    simp only [bin2, callV', consL, getV, gs, gz, M.bind_ok, addP_int, nilL, mix_ok c (9 + z.2) (by omega) (by omega), modP_pos (show 0 < z.1 by omega)]
  have s1 : Stg sizes (sizes.zipIdx.map fun z => z.1 / share * (mx c z.2 % share)) := stg_of fun z hz => by
    have a1 := h.hx z.1 (zipIdx_lt hz).2
    have a2 : 0 ≤ mx c z.2 % share ∧ mx c z.2 % share < share := ⟨Int.emod_nonneg _ (by omega), Int.emod_lt_of_pos _ (by omega)⟩
    have a3 : 0 ≤ z.1 / share := Int.ediv_nonneg (by omega) (by omega)
    refine ⟨Int.mul_nonneg a3 a2.1, ?_⟩
    by_cases z0 : z.1 / share = 0
    · rw [z0, Int.zero_mul]; omega
    · have b1 : z.1 / share * (mx c z.2 % share) < z.1 / share * share := Int.mul_lt_mul_of_pos_left a2.2 (by omega)
      have b2 := Int.ediv_mul_le z.1 (show share ≠ 0 by omega)
      omega
  have s2 : Stg sizes (sizes.zipIdx.map fun z => mx c (9 + z.2) % z.1) := stg_of fun z hz => by
    have a1 := h.hx z.1 (zipIdx_lt hz).2
    exact ⟨Int.emod_nonneg _ (by omega), Int.emod_lt_of_pos _ (by omega)⟩
  unfold s__law_weights g__law_weights
  simp only [lenG, lc, List.length_nil, Nat.reduceAdd, runD, seqS, setO, compF, itL, consL, getV, env0, mc, List.map_nil, Nat.reduceSub, List.replicate, ca, na, gs, gz, nilL, M.bind_ok, enumP_lI, blockE, List.length_map, k1, noX_ok, grd_pos zl, ss, s0, thenS_nx, ifS, tst, bin2, modP_pos (i := c) (show (0 : Int) < 4 by decide), eqP_int, truB_bl, M.bind_assoc, nextS, grd_pos trivial]
  by_cases c2 : c % 4 = 2
  · refine ⟨_, ?_, s2⟩
    simp only [c2, decide_true, if_true]
    simp only [k2, noX_ok, M.bind_ok, thenS_nx, seqS, ifS, tst, bin2, getV, gz, modP_pos (i := c) (show (0 : Int) < 4 by decide), c2, eqP_int, show ¬((2 : Int) = 3) by decide, decide_false, truB_bl, setS, callV', consL, gs, nilL, lenP, len1_lI, ss, s0, M.bind_assoc, nextS, Bool.false_eq_true, if_false, frzS, retS, frzE, List.foldl_cons, List.foldl_nil, tupleP, seqP_lst, Option.map_some, optM_some, thenS_rt, outP_rt]
    rw [tI, List.map_map]; rfl
  · simp only [c2, decide_false, Bool.false_eq_true, if_false]
    simp only [M.bind_ok, thenS_nx, seqS, ifS, tst, bin2, getV, gz, modP_pos (i := c) (show (0 : Int) < 4 by decide), eqP_int, truB_bl, setS, callV', consL, gs, nilL, lenP, len1_lI, ss, s0, M.bind_assoc, nextS]
    by_cases c3 : c % 4 = 3
    · obtain ⟨j, ej, hj⟩ := place h.h1 (c / 4)
      have hsj := h.hx sizes[j] (List.getElem_mem hj)
      have lu : (sizes.zipIdx.map fun z => z.1 / share * (mx c z.2 % share)).length = sizes.length := s1.len
      generalize hu : (sizes.zipIdx.map fun z => z.1 / share * (mx c z.2 % share)) = us at *
      have eu : (sizes.zipIdx.map fun z => PV.int (z.1 / share * (mx c z.2 % share))) = us.map PV.int := by rw [← hu, List.map_map]; rfl
      rw [eu]
      have hju : j < us.length := by omega
      have i1 : idxP (.lst (us.map PV.int)) (.int j) = M.ok (.int us[j]) := idxP_nat rfl (by rw [List.getElem?_map, List.getElem?_eq_getElem hju]; rfl)
      have i2 : idxP (lI sizes) (.int j) = M.ok (.int sizes[j]) := idxP_nat (p := lI sizes) rfl (by rw [List.getElem?_map, List.getElem?_eq_getElem hj]; rfl)
      refine ⟨us.set j ((us[j] + 1 + c / 4 % 2) % sizes[j]), ?_, stg_set s1 hj ⟨Int.emod_nonneg _ (by omega), Int.emod_lt_of_pos _ (by omega)⟩⟩
      simp only [c3, decide_true, if_true]
      simp only [fdivP_pos (i := c) (show (0 : Int) < 4 by decide) (by decide), ixS, lendV, ownAt, gs, gz, bin2, getV, frzE, ss, s0, M.bind_ok, modP_pos (i := c / 4) (show (0 : Int) < 2 by decide), M.bind_assoc, modP_pos (i := c / 4) (show (0 : Int) < sizes.length by have := h.h1; omega), ej, i1, i2, addP_int, modP_pos (i := us[j] + 1 + c / 4 % 2) (show 0 < sizes[j] by omega)]
      rw [show borV (M.ok (PV.int ((us[j] + 1 + c / 4 % 2) % sizes[j]))) = M.ok (PV.int ((us[j] + 1 + c / 4 % 2) % sizes[j])) from grd_pos rfl]
      simp only [putIx, List.length_map, ixN_nat hju, ss, s0, M.bind_ok, thenS_nx, nextS, seqS, frzS, retS, callV', consL, getV, frzE, List.foldl_cons, gs, gz, List.foldl_nil, nilL, tupleP, seqP_lst, Option.map_some, optM_some, thenS_rt, outP_rt]
      rw [tI, List.map_set]
    · refine ⟨_, ?_, s1⟩
      simp only [c3, decide_false, Bool.false_eq_true, if_false]
      simp only [M.bind_ok, thenS_nx, seqS, frzS, retS, callV', consL, getV, frzE, List.foldl_cons, gs, gz, ss, s0, List.foldl_nil, nilL, tupleP, seqP_lst, Option.map_some, optM_some, thenS_rt, outP_rt]
      rw [tI, List.map_map]; rfl
end K41
namespace K41
open PySem L2 PyProof.Rows
theorem addP_tup (xs ys : List PV) (h : xs.length + ys.length ≤ 1000) : addP (.tup xs) (.tup ys) = M.ok (.tup (xs ++ ys)) := grd_pos (sz1000 h)
theorem addP_lst (xs ys : List PV) (h : xs.length + ys.length ≤ 1000) : addP (.lst xs) (.lst ys) = M.ok (.lst (xs ++ ys)) := grd_pos (sz1000 h)
theorem cut_to (xs : List Int) {j : Nat} (h : j < xs.length) : sliceP (tI xs) none (some (j : Int)) = M.ok (tI (xs.take j)) := by
  have e1 : HT.sIx (xs.map PV.int).length (xs.map PV.int).length (some (j : Int)) = j := by rw [HT.sIx_nat, List.length_map]; omega
  show grd _ _ = _
  rw [grd_pos (by rw [e1, List.length_map]; omega)]
  simp only [cutP, e1, HT.sIx_none, List.drop_zero, Nat.sub_zero, tI, List.map_take]
theorem cut_from (xs : List Int) {j : Nat} (h : j < xs.length) : sliceP (tI xs) (some ((j : Int) + 1)) none = M.ok (tI (xs.drop (j + 1))) := by
  have e1 : HT.sIx (xs.map PV.int).length 0 (some ((j : Int) + 1)) = j + 1 := by
    rw [show (j : Int) + 1 = ((j + 1 : Nat) : Int) by omega, HT.sIx_nat, List.length_map]; omega
  show grd _ _ = _
  rw [grd_pos (by rw [e1]; omega)]
  simp only [cutP, e1, HT.sIx_none, tI, List.map_drop]
  rw [List.take_of_length_le (by rw [List.length_drop]; exact Nat.le_refl _)]
theorem cut_one (xs : List Int) (h : 1 ≤ xs.length) : sliceP (tI xs) (some 1) none = M.ok (tI (xs.drop 1)) := cut_from xs (j := 0) h
theorem stgB_len {sizes xs : List Int} (h : xs.length ≠ sizes.length) : stgB sizes xs = false := by
  unfold stgB
  rw [decide_eq_false (by omega), Bool.false_and]
theorem stgB_at {sizes ws : List Int} {j : Nat} (hl : ws.length = sizes.length) (hj : j < sizes.length) {v : Int} (hv : ¬ (0 ≤ v ∧ v < sizes[j])) : stgB sizes (ws.take j ++ [v] ++ ws.drop (j + 1)) = false := by
  cases e : stgB sizes (ws.take j ++ [v] ++ ws.drop (j + 1)) with
  | false => rfl
  | true =>
    have st := stg_iff.mp e
    exfalso
    have hl2 : j < (ws.take j ++ [v] ++ ws.drop (j + 1)).length := by rw [st.len]; exact hj
    have he : (ws.take j ++ [v] ++ ws.drop (j + 1))[j] = v := by
      rw [List.getElem_append_left (by simp; omega), List.getElem_append_right (by simp; omega)]
      simp
    have := st.rng (v, sizes[j]) (by
      rw [List.mem_iff_getElem]
      exact ⟨j, by rw [List.length_zip]; omega, by rw [List.getElem_zip, he]⟩)
    exact hv this
theorem ten {p : PV} {l : List PV} {c : Int} (h : l.length = 10) : ∃ (i : Nat) (hi : i < 10), c % 10 = (i : Int) ∧ idxP (.lst l) (.int (c % 10)) = M.ok (l[i]'(by omega)) := by
  have h0 := Int.emod_nonneg c (show (10 : Int) ≠ 0 by decide)
  have h1 := Int.emod_lt_of_pos c (show (0 : Int) < 10 by decide)
  refine ⟨(c % 10).toNat, by omega, by omega, ?_⟩
  have := idxP_nat (p := .lst l) (xs := l) (j := (c % 10).toNat) (x := l[(c % 10).toNat]'(by omega)) rfl (List.getElem?_eq_getElem (by omega))
  rw [show (((c % 10).toNat : Nat) : Int) = c % 10 by omega] at this
  exact this
theorem other_ok {sizes : List Int} {levers : List (List Int)} (h : Sz sizes) (c : Int) {ws : List Int} (hw : Stg sizes ws) : ∃ p, s__law_other [.int c, tI ws, lI sizes] = M.ok p ∧ s_is_setting [vlt sizes levers, p] = M.ok (.bl false) := by
  have l6 := h.h6; have l1 := h.h1; have wl := hw.len
  obtain ⟨j, ej, hj⟩ := place h.h1 (c / 10)
  have hsj := h.hx sizes[j] (List.getElem_mem hj)
  have i2 : idxP (lI sizes) (.int j) = M.ok (.int sizes[j]) := idxP_nat (p := lI sizes) rfl (by rw [List.getElem?_map, List.getElem?_eq_getElem hj]; rfl)
  have pw : powP (.int 10) (.int 9) = M.ok (.int 1000000000) := by
    show grd (decide ((0 : Int) ≤ 9 ∧ (9 : Int) ≤ 1000000 ∧ (10 : Int).natAbs < 2 ^ 64) = true) (M.ok (PV.int ((10 : Int) ^ (9 : Int).toNat))) = _
    rw [grd_pos (by decide)]; rfl
  have tk : (tI ws : PV) = .tup (ws.map PV.int) := rfl
  have ad1 : addP (tI ws) (.tup [.int 0]) = M.ok (tI (ws ++ [0])) := by
    rw [tI, addP_tup _ _ (by simp; omega), tI, List.map_append]; rfl
  have ad2 : ∀ v : Int, addP (tI (ws.take j)) (.tup [.int v]) = M.ok (tI (ws.take j ++ [v])) := fun v => by
    rw [tI, addP_tup _ _ (by simp; omega), tI, List.map_append]; rfl
  have ad3 : ∀ v : Int, addP (tI (ws.take j ++ [v])) (tI (ws.drop (j + 1))) = M.ok (tI (ws.take j ++ [v] ++ ws.drop (j + 1))) := fun v => by
    rw [tI, tI, addP_tup _ _ (by simp; omega), tI, List.map_append (l₂ := ws.drop (j + 1))]
  let v4 : Int := -1 - c / 10 % 1000000000
  have hv4 : v4 < 0 := by
    have := Int.emod_nonneg (c / 10) (show (1000000000 : Int) ≠ 0 by decide)
    show -1 - c / 10 % 1000000000 < 0
    omega
  let L : List PV := [.lst (ws.map PV.int), tI (ws.drop 1), tI (ws ++ [0]), tI (ws.take j ++ [sizes[j]] ++ ws.drop (j + 1)), tI (ws.take j ++ [v4] ++ ws.drop (j + 1)), .tup (List.replicate sizes.length (.bl true)), .tup (List.replicate sizes.length .non), .str "0", .emp, .int 0]
  obtain ⟨i, hi, ei, e⟩ := ten (p := .non) (l := L) (c := c) rfl
  refine ⟨L[i]'hi, ?_, ?_⟩
  · unfold s__law_other g__law_other
    simp only [lenG, lc, List.length_nil, Nat.reduceAdd, runD, seqS, setS, bin2, getV, env0, mc, List.map_nil, Nat.reduceSub, List.replicate, ca, na, gz, M.bind_ok, fdivP_pos (i := c) (show (0 : Int) < 10 by decide) (by decide), callV', consL, gs, nilL, lenP, len1_lI, modP_pos (i := c / 10) (show (0 : Int) < sizes.length by omega), ej, ss, s0, thenS_nx, lstV_eq, listP, seqP_tI, Option.map_some, optM_some, sliceV, somePt, int1, noPt, cut_one ws (by omega), tupV_eq, tupK_1, ad1, cut_to ws (show j < ws.length by omega), i2, ad2, addP_int, cut_from ws (show j < ws.length by omega), ad3, lstK_4, negV, neg1, pw, modP_pos (i := c / 10) (show (0 : Int) < 1000000000 by decide), subP_int, mul_one (.bl true) sizes.length (by omega), lstK_2, M.bind_assoc, mul_one .non sizes.length (by omega), retS, modP_pos (i := c) (show (0 : Int) < 10 by decide), thenS_rt, outP_rt, grd_pos trivial]
    rw [addP_lst _ _ (by simp)]
    simp only [ca, na, M.bind_ok]
    rw [addP_lst _ _ (by simp)]
    simp only [ca, na, M.bind_ok]
    rw [show (-1 : Int) - c / 10 % 1000000000 = v4 from rfl] at *
    rw [e, M.bind_ok]
  · have rows : ∀ (q : PV), s_is_whole [q] = M.ok (.bl false) → s_is_setting [vlt sizes levers, .tup (List.replicate sizes.length q)] = M.ok (.bl false) := fun q hq => by
      refine setting_norow ?_
      have := row_gen (α := Unit) (inj := fun _ => q) (h := fun _ => false) (p := .tup (List.replicate sizes.length q)) (List.replicate sizes.length ()) sizes.length (.inl (by rw [List.map_replicate])) (fun _ _ => hq) (by rw [List.length_replicate]; exact sz1000 (by omega))
      rw [this]
      congr 2
      obtain ⟨n, hn⟩ : ∃ n, sizes.length = n + 1 := ⟨sizes.length - 1, by omega⟩
      rw [hn, List.replicate_succ, List.all_cons, Bool.false_and, Bool.and_false]
    have row : ∀ xs : List Int, xs.length ≤ 1000 → stgB sizes xs = false → s_is_setting [vlt sizes levers, tI xs] = M.ok (.bl false) := fun xs hx hb => by rw [setting_tI h xs hx, hb]
    match i, hi with
    | 0, _ => exact setting_no rfl
    | 1, _ => exact row _ (by simp; omega) (stgB_len (by simp; omega))
    | 2, _ => exact row _ (by simp; omega) (stgB_len (by simp; omega))
    | 3, _ => exact row _ (by simp; omega) (stgB_at wl hj (by omega))
    | 4, _ => exact row _ (by simp; omega) (stgB_at wl hj (by omega))
    | 5, _ => exact rows _ (whole_bl true)
    | 6, _ => exact rows _ whole_non
    | 7, _ => exact setting_no rfl
    | 8, _ => exact setting_no rfl
    | 9, _ => exact setting_no rfl
end K41
namespace K41
open PySem L2 PyProof.Rows
def sixth (ns : List Int) (a b : Nat) : List Int := (ns.drop (HT.sIx ns.length 0 (some (a : Int)))).take (HT.sIx ns.length ns.length (some (b : Int)) - HT.sIx ns.length 0 (some (a : Int)))
theorem cut_scr (ns : List Int) (a b : Nat) : sliceP (.scr (ns.map PV.int)) (some (a : Int)) (some (b : Int)) = M.ok (.lst ((sixth ns a b).map PV.int)) := by
  show M.ok (PV.lst (cutP (ns.map PV.int) _ _)) = _
  rw [cutP, sixth, List.map_take, List.map_drop, List.length_map]
theorem sixth_len (ns : List Int) (a b : Nat) : (sixth ns a b).length ≤ b - a := by
  unfold sixth
  rw [List.length_take, List.length_drop, HT.sIx_nat, HT.sIx_nat]
  omega
theorem stg_snoc {d row : List Int} {s v : Int} (h : Stg d row) (hv : 0 ≤ v ∧ v < s) : Stg (d ++ [s]) (row ++ [v]) := by
  refine ⟨by rw [List.length_append, List.length_append, h.len]; rfl, fun z hz => ?_⟩
  rw [List.zip_append h.len] at hz
  rcases List.mem_append.mp hz with hz | hz
  · exact h.rng z hz
  · rw [List.zip_cons_cons, List.zip_nil_left] at hz
    rw [List.mem_singleton.mp hz]; exact hv
theorem zero_stg {sizes : List Int} (h : Sz sizes) : Stg sizes (List.replicate sizes.length 0) := by
  refine ⟨by rw [List.length_replicate], fun z hz => ?_⟩
  obtain ⟨m1, m2⟩ := mem_zip hz
  have := List.eq_of_mem_replicate m1
  have := h.hx z.2 m2
  omega
theorem zero_wgh (sizes xs : List Int) : wgh sizes (List.replicate sizes.length 0) xs = 0 := by
  unfold wgh
  have : ∀ (Rr : Int) (ss ys : List Int) (n : Nat), (((((List.replicate n 0).zip ss).map fun z => z.1 * (Rr / z.2)).zip ys).map fun z => z.1 * z.2).sum = 0 := by
    intro Rr ss
    induction ss with
    | nil => intro ys n; simp
    | cons s ss ih =>
      intro ys n
      cases n with
      | zero => simp
      | succ n =>
        cases ys with
        | nil => simp
        | cons y ys => simp only [List.replicate_succ, List.zip_cons_cons, mc, List.sum_cons, ih ys n, Int.zero_mul, Int.add_zero]
  rw [this]; exact Int.zero_emod _
theorem appS_at {i : Nat} {f : PEnv → M PV} {env : PEnv} {xs : List PV} {p : PV} (h : env[i]? = some (some (.ow xs))) (hf : f env = M.ok p) (hz : xs.length < 1000) : appS i f env = M.ok (.nx (env.set i (some (.ow (xs ++ [p]))))) := by
  unfold appS
  rw [h]
  show M.bind (f env) _ = _
  rw [hf, M.bind_ok, if_pos (small1000 (Nat.le_of_lt hz))]
theorem dispO_nil (env : PEnv) : dispO nilL env = M.ok [] := by
  simp only [dispO, nilL, M.bind_ok]
  exact if_pos (Nat.zero_le _)
theorem law_ok (ns : List Int) : s_law [.scr (ns.map PV.int)] = M.ok (.bl true) := by
  obtain ⟨c0, ec⟩ := cell_ok ns
  obtain ⟨sizes, es, S⟩ := sizes_law c0
  have hsh : 1 ≤ 1 + c0 % 6 ∧ 1 + c0 % 6 ≤ 6 := by
    have := Int.emod_nonneg c0 (show (6 : Int) ≠ 0 by decide)
    have := Int.emod_lt_of_pos c0 (show (0 : Int) < 6 by decide)
    omega
  have l6 := S.h6; have l1 := S.h1
  generalize hsv : 1 + c0 % 6 = share at *
  unfold s_law g_law
  simp only [lenG, lc, List.length_nil, Nat.reduceAdd, runD, seqS, setS, callV', consL, getV, env0, mc, List.map_nil, Nat.reduceSub, List.replicate, ca, na, gz, nilL, M.bind_ok, ec, ss, s0, subN, String.reduceBEq, Bool.and_false, Bool.or_false, thenS_nx, bin2, gs, modP_pos (i := c0) (show (0 : Int) < 6 by decide), addP_int, hsv, es, setO, dispO_nil, forS, itemsOf, sliceV, somePt, int1, show sliceP (.scr (ns.map PV.int)) (some 1) (some 7) = M.ok (.lst ((sixth ns 1 7).map PV.int)) from cut_scr ns 1 7, seqP_lst, M.bind_assoc, grd_pos trivial]
  refine loop_bind (sixth ns 1 7) (fun r env => ∃ (levers : List (List Int)) (x5 x6 x7 x8 x9 x10 : Option SV), env = [some (.sh (.scr (ns.map PV.int))), some (.sh (.int c0)), some (.sh (.int share)), some (.sh (lI sizes)), some (.ow (levers.map tI)), x5, x6, x7, x8, x9, x10, none, none, none, none, none] ∧ (∀ l ∈ levers, Stg sizes l) ∧ levers.length + r.length ≤ 6) ⟨[], _, _, _, _, _, _, rfl, (fun _ h => nomatch h), by have := sixth_len ns 1 7; simpa using this⟩ ?_ ?_
  · rintro a r env ⟨levers, x5, x6, x7, x8, x9, x10, rfl, hl, hn⟩
    rw [List.length_cons] at hn
    suffices hh : ∃ env' : PEnv, (seqS (setO 6 (dispO nilL))
        (seqS (setS 7 (bin2 fdivP (getV 5) (fun _ => M.ok (.int 2))))
        (seqS (forS (itL enumP (consL (getV 3) nilL)) (setT2 8 9) (seqS (setS 10 (bin2 modP (getV 7) (getV 9)))
        (seqS (setS 7 (bin2 fdivP (getV 7) (getV 9)))
        (seqS (ifS (tst (bin2 eqP (bin2 modP (getV 5) (fun _ => M.ok (.int 2))) (fun _ => M.ok (.int 1)))) (seqS (setS 10 (bin2 modP (bin2 fdivP (callV' s__law_mix (consL (getV 5) (consL (getV 8) nilL))) (fun _ => M.ok (.int 3))) (getV 9)))
        nextS) nextS)
        (seqS (appS 6 (bin2 modP (bin2 mulP (getV 10) (getV 2)) (getV 9)))
        nextS)))))
        (seqS (frzS [6] (appS 4 (callV' tupleP (consL (getV 6) nilL))))
        nextS)))) [some (.sh (.scr (ns.map PV.int))), some (.sh (.int c0)), some (.sh (.int share)), some (.sh (lI sizes)), some (.ow (levers.map tI)), some (.sh (.int a)), x6, x7, x8, x9, x10, none, none, none, none, none] = M.ok (.nx env') ∧ ∃ (levers : List (List Int)) (x5 x6 x7 x8 x9 x10 : Option SV), env' = [some (.sh (.scr (ns.map PV.int))), some (.sh (.int c0)), some (.sh (.int share)), some (.sh (lI sizes)), some (.ow (levers.map tI)), x5, x6, x7, x8, x9, x10, none, none, none, none, none] ∧ (∀ l ∈ levers, Stg sizes l) ∧ levers.length + r.length ≤ 6 by
      obtain ⟨env', h1, h2⟩ := hh
      exact ⟨_, env', rfl, h1, h2⟩
    have lp := loop_inv (set := setT2 8 9) (body := (seqS (setS 10 (bin2 modP (getV 7) (getV 9)))
        (seqS (setS 7 (bin2 fdivP (getV 7) (getV 9)))
        (seqS (ifS (tst (bin2 eqP (bin2 modP (getV 5) (fun _ => M.ok (.int 2))) (fun _ => M.ok (.int 1)))) (seqS (setS 10 (bin2 modP (bin2 fdivP (callV' s__law_mix (consL (getV 5) (consL (getV 8) nilL))) (fun _ => M.ok (.int 3))) (getV 9)))
        nextS) nextS)
        (seqS (appS 6 (bin2 modP (bin2 mulP (getV 10) (getV 2)) (getV 9)))
        nextS))))) (inj := fun z : Int × Nat => PV.tup [.int (z.2 : Int), .int z.1])
      (fun zs env => ∃ (d row : List Int) (left : Int) (x8 x9 x10 : Option SV), env = [some (.sh (.scr (ns.map PV.int))), some (.sh (.int c0)), some (.sh (.int share)), some (.sh (lI sizes)), some (.ow (levers.map tI)), some (.sh (.int a)), some (.ow (row.map PV.int)), some (.sh (.int left)), x8, x9, x10, none, none, none, none, none] ∧ sizes = d ++ zs.map Prod.fst ∧ Stg d row ∧ ∀ z ∈ zs, z.2 ≤ 6) ?_ sizes.zipIdx _ ⟨[], [], a / 2, x8, x9, x10, rfl, by rw [List.zipIdx_map_fst]; rfl, ⟨rfl, (fun _ h => nomatch h)⟩, fun z hz => by have := (zipIdx_lt hz).1; omega⟩
    · obtain ⟨env', e1, d, row, left, y8, y9, y10, rfl, e2, st, _⟩ := lp
      rw [List.map_nil, List.append_nil] at e2
      rw [List.map_nil] at e1
      subst e2
      refine ⟨_, ?_, levers ++ [row], some (.sh (.int a)), some (.sh (.lst (row.map PV.int))), some (.sh (.int left)), y8, y9, y10, rfl, ?_, by simp; omega⟩
      · simp only [seqS, setO, dispO_nil, ss, s0, M.bind_ok, thenS_nx, setS, bin2, getV, gs, gz, fdivP_pos (i := a) (show (0 : Int) < 2 by decide) (by decide), forS, itL, consL, nilL, enumP_lI]
        rw [show loopS _ _ _ _ = _ from e1]
        simp only [M.bind_ok, thenS_nx, seqS, frzS, frzE, List.foldl_cons, gs, gz, ss, s0, List.foldl_nil]
        rw [appS_at (i := 4) rfl (p := tI row) rfl (by simp; omega)]
        simp only [ss, s0, M.bind_ok, thenS_nx, nextS, List.map_append, mc, List.map_nil]
      · intro l hm
        rcases List.mem_append.mp hm with hm | hm
        · exact hl l hm
        · rw [List.mem_singleton.mp hm]; exact st
    · rintro ⟨s, k⟩ zs env ⟨d, row, left, y8, y9, y10, rfl, e2, st, hz⟩
      have hk : k ≤ 6 := hz (s, k) List.mem_cons_self
      have hs := S.hx s (by rw [e2]; simp)
      have rl : row.length ≤ 6 := by
        have : d.length ≤ 6 := by
          have h := congrArg List.length e2
          rw [List.length_append] at h; omega
        rw [st.len]; exact this
      have tail : ∀ nt : Int, 0 ≤ nt ∧ nt < s → ∀ y, seqS (appS 6 (bin2 modP (bin2 mulP (getV 10) (getV 2)) (getV 9))) nextS [some (.sh (.scr (ns.map PV.int))), some (.sh (.int c0)), some (.sh (.int share)), some (.sh (lI sizes)), some (.ow (levers.map tI)), some (.sh (.int a)), some (.ow (row.map PV.int)), y, some (.sh (.int k)), some (.sh (.int s)), some (.sh (.int nt)), none, none, none, none, none] = M.ok (.nx [some (.sh (.scr (ns.map PV.int))), some (.sh (.int c0)), some (.sh (.int share)), some (.sh (lI sizes)), some (.ow (levers.map tI)), some (.sh (.int a)), some (.ow ((row ++ [nt * share % s]).map PV.int)), y, some (.sh (.int k)), some (.sh (.int s)), some (.sh (.int nt)), none, none, none, none, none]) := by
        intro nt hnt y
        simp only [seqS]
        rw [appS_at (i := 6) rfl (p := .int (nt * share % s)) (by simp only [bin2, getV, gs, gz, M.bind_ok, mulP_int (i := nt) (j := share) (k := 64) (l := 64) (by omega) (by omega), modP_pos (i := nt * share) (show 0 < s by omega)]) (by simp; omega)]
        simp only [ss, s0, M.bind_ok, thenS_nx, nextS, List.map_append, mc, List.map_nil]
      have sm : ∀ x : Int, 0 ≤ x % s ∧ x % s < s := fun x => ⟨Int.emod_nonneg _ (by omega), Int.emod_lt_of_pos _ (by omega)⟩
      have e3 : sizes = (d ++ [s]) ++ zs.map Prod.fst := by rw [e2]; simp
      by_cases o : a % 2 = 1
      · refine ⟨_, _, rfl, ?_, d ++ [s], row ++ [mx a k / 3 % s * share % s], left / s, some (.sh (.int k)), some (.sh (.int s)), some (.sh (.int (mx a k / 3 % s))), rfl, e3, stg_snoc st (sm _), fun z hz' => hz z (List.mem_cons_of_mem _ hz')⟩
        simp only [seqS, setS, bin2, getV, ss, s0, gs, gz, M.bind_ok, modP_pos (i := left) (show 0 < s by omega), thenS_nx, fdivP_pos (i := left) (show 0 < s by omega) (show s < 2 ^ 64 by omega), ifS, tst, modP_pos (i := a) (show (0 : Int) < 2 by decide), o, eqP_int, decide_true, truB_bl, callV', consL, nilL, mix_ok a k (by omega) (by omega), fdivP_pos (i := mx a k) (show (0 : Int) < 3 by decide) (by decide), modP_pos (i := mx a k / 3) (show 0 < s by omega), nextS, if_true]
        exact tail _ (sm _) _
      · refine ⟨_, _, rfl, ?_, d ++ [s], row ++ [left % s * share % s], left / s, some (.sh (.int k)), some (.sh (.int s)), some (.sh (.int (left % s))), rfl, e3, stg_snoc st (sm _), fun z hz' => hz z (List.mem_cons_of_mem _ hz')⟩
        simp only [seqS, setS, bin2, getV, ss, s0, gs, gz, M.bind_ok, modP_pos (i := left) (show 0 < s by omega), thenS_nx, fdivP_pos (i := left) (show 0 < s by omega) (show s < 2 ^ 64 by omega), ifS, tst, modP_pos (i := a) (show (0 : Int) < 2 by decide), eqP_int, o, decide_false, truB_bl, callV', consL, nilL, M.bind_assoc, nextS, Bool.false_eq_true, if_false]
        exact tail _ (sm _) _
  · rintro env ⟨levers, x5, x6, x7, x8, x9, x10, rfl, hl, hn⟩
    rw [List.length_nil] at hn
    simp only [thenS_nx, seqS, frzS, setS, callV', consL, getV, frzE, List.foldl_cons, gs, gz, ss, s0, List.foldl_nil, nilL, M.bind_ok, make_ok sizes levers S (by omega) hl, forS, itemsOf, bin2, lstV_eq, lstK_1, sliceV, somePt, int1, show sliceP (.scr (ns.map PV.int)) (some 1) (some 63) = M.ok (.lst ((sixth ns 1 63).map PV.int)) from cut_scr ns 1 63, M.bind_assoc]
    have l63 := sixth_len ns 1 63
    rw [addP_lst _ _ (by simp; omega)]
    simp only [ca, na, M.bind_ok, seqP_lst]
    refine loop_bind (inj := PV.int) (0 :: sixth ns 1 63) (fun r env => ∃ (x5 x12 x13 x14 x15 : Option SV), env = [some (.sh (.scr (ns.map PV.int))), some (.sh (.int c0)), some (.sh (.int share)), some (.sh (lI sizes)), some (.sh (.lst (levers.map tI))), x5, x6, x7, x8, x9, x10, some (.sh (vlt sizes levers)), x12, x13, x14, x15]) ⟨_, _, _, _, _, rfl⟩ ?_ ?_
    · rintro a r env ⟨x5, x12, x13, x14, x15, rfl⟩
      obtain ⟨ws, ew, hw⟩ := weights_ok S a share hsh
      obtain ⟨p, ep, hp⟩ := other_ok (levers := levers) S a hw
      have lp := loop_inv (set := setN 14) (body := seqS (setS 13 (andV (getV 13) (bin2 eqP (callV' s__law_weigh (consL (getV 12) (consL (getV 14) (consL (getV 3) nilL)))) (fun _ => M.ok (.int 0))))) nextS) (inj := tI)
        (fun zs env => ∃ (b : Bool) (x14 : Option SV), env = [some (.sh (.scr (ns.map PV.int))), some (.sh (.int c0)), some (.sh (.int share)), some (.sh (lI sizes)), some (.sh (.lst (levers.map tI))), some (.sh (.int a)), x6, x7, x8, x9, x10, some (.sh (vlt sizes levers)), some (.sh (tI ws)), some (.sh (.bl b)), x14, x15] ∧ (b && zs.all fun l => decide (wgh sizes ws l = 0)) = levers.all (fun l => decide (wgh sizes ws l = 0)) ∧ ∀ l ∈ zs, Stg sizes l) ?_ levers _ ⟨true, x14, rfl, by rw [Bool.true_and], hl⟩
      · obtain ⟨env', e1, b, y14, rfl, eb, _⟩ := lp
        rw [List.all_nil, Bool.and_true] at eb
        refine ⟨_, _, rfl, ?_, some (.sh (.int a)), some (.sh (tI ws)), some (.sh (.bl b)), y14, some (.sh (.bl false)), rfl⟩
        simp only [seqS, setS, callV', consL, getV, ss, s0, gs, gz, nilL, M.bind_ok, ew, thenS_nx, frzS, forS, itemsOf, frzE, List.foldl_cons, List.foldl_nil, seqP_lst]
        rw [show loopS _ _ _ _ = _ from e1]
        simp only [M.bind_ok, thenS_nx, seqS, setS, callV', consL, getV, gs, gz, nilL, still_ok S (show levers.length ≤ 8 by omega) hw hl, ← eb, ss, s0, ifS, orB, notB, tst, isV, isW_bl, String.reduceBEq, truB_bl, Bool.not_true, bin2, neP_bl, decide_true, Bool.false_eq_true, if_false, retS, thenS_rt, nextS, ep, still_no hp]
      · rintro l zs env ⟨b, y14, rfl, eb, hz⟩
        have hs := hz l List.mem_cons_self
        rw [List.all_cons] at eb
        refine ⟨_, _, rfl, ?_, b && decide (wgh sizes ws l = 0), some (.sh (tI l)), rfl, by rw [Bool.and_assoc]; exact eb, fun l' hl' => hz l' (List.mem_cons_of_mem _ hl')⟩
        cases b with
        | true => simp only [seqS, setS, andV, getV, ss, s0, gs, gz, bin2, callV', consL, nilL, M.bind_ok, lweigh_ok S hw hs, eqP_int, truB_bl, if_true, thenS_nx, nextS, Bool.true_and]
        | false => simp only [seqS, setS, andV, getV, ss, s0, gs, gz, bin2, callV', consL, nilL, M.bind_ok, truB_bl, Bool.false_eq_true, if_false, thenS_nx, nextS, Bool.false_and]
    · rintro env ⟨x5, x12, x13, x14, x15, rfl⟩
      have z := zero_stg S
      have e0 : (PV.tup (List.replicate sizes.length (.int 0))) = tI (List.replicate sizes.length 0) := by rw [tI, List.map_replicate]
      have ea : (levers.all fun l => decide (wgh sizes (List.replicate sizes.length 0) l = 0)) = true := List.all_eq_true.mpr fun l _ => decide_eq_true (zero_wgh sizes l)
      simp only [thenS_nx, seqS, frzS, retS, andV, callV', consL, getV, frzE, List.foldl_cons, gs, gz, List.foldl_nil, bin2, tupV_eq, nilL, M.bind_ok, tupK_1, lenP, len1_lI, mul_one (.int 0) sizes.length (by omega), e0, still_ok S (show levers.length ≤ 8 by omega) z hl, ea, m_levers (sizes := sizes) (levers := levers) (g := getV 11) (env := [some (.sh (.scr (ns.map PV.int))), some (.sh (.int c0)), some (.sh (.int share)), some (.sh (lI sizes)), some (.sh (.lst (levers.map tI))), x5, x6, x7, x8, x9, x10, some (.sh (vlt sizes levers)), x12, x13, x14, x15]) rfl, tupleP, seqP_lst, Option.map_some, optM_some, eqP_rows, decide_true, truB_bl, if_true, thenS_rt, outP_rt]
end K41
theorem PySem.Challenge.cw_dialvault_k41_still_or_not_holds : PySem.Challenge.rw_dialvault_k41_still_or_not.Holds :=
  K41.hold HD.said fun ns _ _ => K41.law_ok ns
