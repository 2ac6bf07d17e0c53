import PyProof.Rows.All
import Wide.All
import OpenK.AllK
import Wide.FinOn
import PyProof.EqAt
import PyProof.EqKinds
import PyProof.TupleCall
import KE.BitLaws
import PySem.Challenge.RW_shaftfall_k41_plan_texts
set_option Elab.async false
set_option linter.all false
set_option maxRecDepth 100000
namespace L2
open PySem PySem.Spec PyProof.Rows
abbrev Key := Sum Int Str
def keyIs : Key → Value → Bool
  | .inl k, v => Value.isInt k v
  | .inr x, v => Value.isStrOf x v
def keyH (w : World) : Key → Int
  | .inl k => hashInt k
  | .inr x => hashStr w x
theorem keyIs_shape : ∀ {k : Key} {v : Value}, keyIs k v = true → (∃ i t, k = Sum.inl i ∧ v = Value.int i t) ∨ (∃ x t, k = Sum.inr x ∧ v = Value.str x t)
  | .inl i, v, h => by
    obtain ⟨t, e⟩ := Value.isInt_shape (k := i) (v := v) h
    exact .inl ⟨i, t, rfl, e⟩
  | .inr x, v, h => by
    obtain ⟨t, e⟩ := Value.isStrOf_shape (x := x) (v := v) h
    exact .inr ⟨x, t, rfl, e⟩
theorem keyIs_int (i : Int) (t : Tok) : keyIs (.inl i) (.int i t) = true := by simp [keyIs, Value.isInt]
theorem keyIs_str (x : Str) (t : Tok) : keyIs (.inr x) (.str x t) = true := by simp [keyIs, Value.isStrOf]
theorem key_ll (a b : Int) : decide ((Sum.inl a : Key) = Sum.inl b) = (a == b) := by
  by_cases e : a = b
  · subst e; simp
  · have h : ¬ (Sum.inl a : Key) = Sum.inl b := fun q => e (Sum.inl.inj q)
    rw [decide_eq_false h]
    exact (beq_eq_false_iff_ne.mpr e).symm
theorem key_rr (a b : Str) : decide ((Sum.inr a : Key) = Sum.inr b) = decide (a = b) := by
  by_cases e : a = b
  · subst e; simp
  · have h : ¬ (Sum.inr a : Key) = Sum.inr b := fun q => e (Sum.inr.inj q)
    rw [decide_eq_false h, decide_eq_false e]
theorem key_lr (a : Int) (b : Str) : decide ((Sum.inl a : Key) = Sum.inr b) = false := decide_eq_false (fun q => nomatch q)
theorem key_rl (a : Str) (b : Int) : decide ((Sum.inr a : Key) = Sum.inl b) = false := decide_eq_false (fun q => nomatch q)
def mixKind (prog : Program) (w : World) : PySem.KeyKind prog w Key where
  is := keyIs
  hash := keyH w
  inj := fun v a b ha hb => by
    rcases keyIs_shape ha with ⟨i, t, rfl, rfl⟩ | ⟨x, t, rfl, rfl⟩
    · rcases keyIs_shape hb with ⟨j, u, rfl, e⟩ | ⟨y, u, rfl, e⟩
      · injection e with e1 _; rw [e1]
      · exact nomatch e
    · rcases keyIs_shape hb with ⟨j, u, rfl, e⟩ | ⟨y, u, rfl, e⟩
      · exact nomatch e
      · injection e with e1 _; rw [e1]
  byValue := fun k v h => by
    rcases keyIs_shape h with ⟨i, t, rfl, rfl⟩ | ⟨x, t, rfl, rfl⟩ <;> rfl
  pyHash := fun hv h => by
    rcases keyIs_shape hv with ⟨i, t, rfl, rfl⟩ | ⟨x, t, rfl, rfl⟩
    · exact wpAny_pyHash_int h
    · exact wpAny_pyHash_str h
  eqBool := fun hu hv h => by
    rcases keyIs_shape hu with ⟨i, t, rfl, rfl⟩ | ⟨x, t, rfl, rfl⟩
    · rcases keyIs_shape hv with ⟨j, u, rfl, rfl⟩ | ⟨y, u, rfl, rfl⟩
      · rw [key_ll] at h; exact wpAny_eqBool_int h
      · rw [key_lr] at h; exact SeqAt.EqAt.int_str i t y u _ _ _ _ h
    · rcases keyIs_shape hv with ⟨j, u, rfl, rfl⟩ | ⟨y, u, rfl, rfl⟩
      · rw [key_rl] at h; exact SeqAt.EqAt.str_int x t j u _ _ _ _ h
      · rw [key_rr] at h; exact wpAny_eqBool_str h
  «strs» := fun k x t v h => by
    rcases keyIs_shape h with ⟨i, u, rfl, e⟩ | ⟨y, u, rfl, e⟩
    · exact nomatch e
    · injection e with e1 _
      subst e1
      cases v <;> rfl
theorem mixKind_int (prog : Program) (w : World) (i : Int) (t : Tok) : (mixKind prog w).is (.inl i) (.int i t) = true := keyIs_int i t
theorem mixKind_str (prog : Program) (w : World) (x : Str) (t : Tok) : (mixKind prog w).is (.inr x) (.str x t) = true := keyIs_str x t
end L2
namespace L2
open PySem PySem.Spec PyProof.Rows
inductive V where
  | non | bl (b : Bool) | int (i : Int) | str (x : Str) | byt (b : Array UInt8) | flt (b : UInt64) | ref (a : Addr) | ty (n : String)
  deriving DecidableEq
def RelV : V → Value → Prop
  | .non, u => u = Value.none
  | .bl b, u => u = Value.bool b
  | .int i, u => ∃ t, u = Value.int i t
  | .str x, u => ∃ t, u = Value.str x t
  | .byt b, u => ∃ t, u = Value.bytes b t
  | .flt b, u => ∃ t, u = Value.float b t
  | .ref a, u => u = Value.ref a
  | .ty n, u => u = Value.type n
abbrev Vals : List V → List Value → Prop := Paired RelV
theorem Vals.length {xs : List V} {us : List Value} (r : Vals xs us) : xs.length = us.length := Paired.length r
theorem Vals.get : ∀ {xs : List V} {us : List Value} {i : Nat} {x : V}, Vals xs us → xs[i]? = some x → ∃ u, us[i]? = some u ∧ RelV x u
  | _, _, _, _, .nil, e => by simp at e
  | _, _, 0, _, .cons r _, e => by simp at e; subst e; exact ⟨_, rfl, r⟩
  | _, _, i + 1, x, .cons _ t, e => by
    obtain ⟨u, h1, h2⟩ := Vals.get (i := i) (x := x) t (by simpa using e)
    exact ⟨u, by simpa using h1, h2⟩
theorem Vals.set {x : V} {u : Value} (r : RelV x u) : ∀ {xs : List V} {us : List Value} (i : Nat), Vals xs us → Vals (xs.set i x) (us.set i u)
  | _, _, _, .nil => .nil
  | _, _, 0, .cons _ t => .cons r t
  | _, _, i + 1, .cons q t => .cons q (Vals.set r i t)
theorem Vals.append : ∀ {xs ys : List V} {us ws : List Value}, Vals xs us → Vals ys ws → Vals (xs ++ ys) (us ++ ws)
  | _, _, _, _, .nil, s => s
  | _, _, _, _, .cons r t, s => .cons r (Vals.append t s)
theorem Vals.take : ∀ {xs : List V} {us : List Value} (n : Nat), Vals xs us → Vals (xs.take n) (us.take n)
  | _, _, 0, _ => .nil
  | _, _, _ + 1, .nil => .nil
  | _, _, n + 1, .cons r t => .cons r (Vals.take n t)
theorem Vals.drop : ∀ {xs : List V} {us : List Value} (n : Nat), Vals xs us → Vals (xs.drop n) (us.drop n)
  | _, _, 0, r => r
  | _, _, _ + 1, .nil => .nil
  | _, _, n + 1, .cons _ t => Vals.drop n t
def RelO : Option V → Option Value → Prop
  | some v, some u => RelV v u
  | none, none => True
  | _, _ => False
def KV {κ : Type} : List (κ × V) → List (κ × Value) → Prop := Paired fun (p : κ × V) (q : κ × Value) => p.1 = q.1 ∧ RelV p.2 q.2
def kV : Key → V
  | .inl i => .int i
  | .inr x => .str x
inductive HO where
  /-- a list -/
  | lst (xs : List V)
  /-- a tuple (never changes) -/
  | tup (xs : List V)
  /-- a dict whose keys are ints and texts; one whose keys are tuples of ints and texts (the empty one is both) -/
  | dK (kvs : List (Key × V)) | dT (kvs : List (List Key × V))
  /-- a set of ints: its members, its size -/
  | set (S : Int → Bool) (n : Nat)
  /-- an instance of the class at C, its dict at dx, its attributes -/
  | ins (C dx : Addr) (fs : List (Str × V))
  /-- the dict of the instance at x -/
  | own (x : Addr)
  /-- the dict of an exception -/
  | xd (fs : List (Str × V))
  /-- a bound method, f of x -/
  | met (f x : Addr)
  /-- a range object lo, lo + 1, .. below hi -/
  | rng (lo hi : Int)
  /-- a thing that is known to the object (the script; a dict while a loop walks it): read, never written while it is so -/
  | frz (o : Obj) (u : HO)
  /-- a code object's table -/
  | tbl (ps : Array Value)
  /-- any other thing, by what is true of its one object (a def of one's own: SetO a S n := HO.ext fun h => ..) -/
  | ext (φ : Heap → Prop)
abbrev Hp := Addr → Option HO
def upd (H : Hp) (a : Addr) (o : HO) : Hp := fun b => if b = a then some o else H b
theorem upd_same {H : Hp} {a : Addr} {o : HO} : upd H a o a = some o := by unfold upd; rw [if_pos rfl]
theorem upd_ne {H : Hp} {a b : Addr} {o : HO} (h : b ≠ a) : upd H a o b = H b := by unfold upd; rw [if_neg h]
theorem ne_of {H : Hp} {a b : Addr} {o u : HO} (h : H a = some o) (h' : H b = some u) (d : o ≠ u) : a ≠ b := by
  intro e; subst e; rw [h] at h'; exact d (Option.some.inj h')
theorem ne_of_none {H : Hp} {a b : Addr} {o : HO} (h : H a = some o) (h' : H b = none) : a ≠ b := by
  intro e; subst e; rw [h] at h'; cases h'
section
variable (P : Program) (w : World)
def ObjOk (H : Hp) (h : Heap) (a : Addr) : HO → Prop
  | .lst xs => xs.length ≤ sizeLine ∧ ∃ (its : List Value) (n : Nat), Vals xs its ∧ h.get? a = some { cls := .type "list", data := .seq its.toArray n }
  | .tup xs => xs.length ≤ sizeLine ∧ ∃ its : List Value, Vals xs its ∧ IsTup h a its.toArray
  | .dK kvs => kvs.length ≤ sizeLine ∧ (a == sysModules) = false ∧ ∃ vs, KV kvs vs ∧ h.DictOf (mixKind P w) a vs
  | .dT kvs => kvs.length ≤ sizeLine ∧ (a == sysModules) = false ∧ ∃ xs : List (List Key × Addr × Value),
      Paired (fun (p : List Key × V) (q : List Key × Addr × Value) => p.1 = q.1 ∧ H q.2.1 = some (.tup (p.1.map kV)) ∧ RelV p.2 q.2.2) kvs xs ∧
      ∃ o es ep, h.get? a = some o ∧ o.ExactDict ∧ o.data = .dict es ep ∧ es.toList = xs.map (entryOfKey (tupleKind (mixKind P w))) ∧ (xs.map (·.1)).Nodup
  | .set S n => h.SetOf (intKind P w) a S n
  | .ins C dx fs => H dx = some (.own a) ∧ fs.length ≤ 1000 ∧ dx ≠ a ∧ h.get? a = some (PySem.W.instObj C dx) ∧
      ∃ mA, h.Ns1 dx mA ∧ (∀ f, RelO (fs.lookup f) (mA f)) ∧ PySem.Within mA (fs.map (·.1))
  | .own _ => ∃ o, h.get? a = some o
  | .xd fs => ∃ mA, h.Ns1 a mA ∧ ∀ f, RelO (fs.lookup f) (mA f)
  | .rng lo hi => ∃ t u v, h.get? a = some { cls := .type "range", data := .fields #[.int lo t, .int hi u, .int 1 v] }
  | .frz o u => h.get? a = some o ∧ ObjOk H h a u
  | .tbl ps => h.get? a = some { cls := .none, data := .fields ps }
  | .met f x => h.get? a = some (PySem.W.methodObj (.ref f) (.ref x))
  | .ext φ => φ h ∧ (∃ o, h.get? a = some o) ∧ ∀ h1 h2 : Heap, φ h1 → (∀ o, h1.get? a = some o → h2.get? a = some o) → φ h2
def HOk (H : Hp) (h : Heap) : Prop := ∀ a o, H a = some o → ObjOk P w H h a o
end
section
variable {P : Program} {w : World} {H H' : Hp} {h h' : Heap} {a : Addr} {o : HO}
theorem ObjOk.lt (x : ObjOk P w H h a o) : a < h.objs.size := by
  cases o with
  | lst xs => obtain ⟨_, _, _, _, e⟩ := x; exact Heap.lt_size e
  | tup xs => obtain ⟨_, _, _, p⟩ := x; exact p.lt
  | dK kvs => obtain ⟨_, _, _, _, o, _, _, e, _⟩ := x; exact Heap.lt_size e
  | dT kvs => obtain ⟨_, _, _, _, o, _, _, e, _⟩ := x; exact Heap.lt_size e
  | set S n => obtain ⟨o, _, _, _, e, _⟩ := x; exact Heap.lt_size e
  | ins C dx fs => obtain ⟨_, _, _, e, _⟩ := x; exact Heap.lt_size e
  | own y => obtain ⟨_, e⟩ := x; exact Heap.lt_size e
  | xd fs => obtain ⟨_, ⟨_, _, _, e, _⟩, _⟩ := x; exact Heap.lt_size e
  | rng lo hi => obtain ⟨_, _, _, e⟩ := x; exact Heap.lt_size e
  | frz ob u => obtain ⟨e, _⟩ := x; exact Heap.lt_size e
  | tbl ps => exact Heap.lt_size (show h.get? a = some _ from x)
  | met f y => exact Heap.lt_size (show h.get? a = some _ from x)
  | ext φ => obtain ⟨_, ⟨_, e⟩, _⟩ := x; exact Heap.lt_size e
theorem Paired.mapP {α β : Type} {F G : α → β → Prop} : ∀ {l₁ : List α} {l₂ : List β}, Paired F l₁ l₂ → (∀ a b, F a b → G a b) → Paired G l₁ l₂
  | _, _, .nil, _ => .nil
  | _, _, .cons r t, f => .cons (f _ _ r) (Paired.mapP t f)
theorem ObjOk.stay (x : ObjOk P w H h a o) (k : ∀ b u, (b = a ∨ H b = some (.own a)) → h.get? b = some u → h'.get? b = some u)
    (ho : ∀ b, H b = some (.own a) → H' b = some (.own a)) (ht : ∀ b xs, H b = some (.tup xs) → H' b = some (.tup xs)) : ObjOk P w H' h' a o := by
  induction o with
  | lst xs => obtain ⟨z, its, n, r, e⟩ := x; exact ⟨z, its, n, r, k _ _ (.inl rfl) e⟩
  | tup xs => obtain ⟨z, its, r, ob, e, c⟩ := x; exact ⟨z, its, r, ob, k _ _ (.inl rfl) e, c⟩
  | dK kvs => obtain ⟨z, y, vs, r, ob, es, ep, e, c⟩ := x; exact ⟨z, y, vs, r, ob, es, ep, k _ _ (.inl rfl) e, c⟩
  | dT kvs =>
    obtain ⟨z, y, xs, r, ob, es, ep, e, c⟩ := x
    exact ⟨z, y, xs, Paired.mapP r fun p q z => ⟨z.1, ht _ _ z.2.1, z.2.2⟩, ob, es, ep, k _ _ (.inl rfl) e, c⟩
  | set S n => obtain ⟨ob, es, ep, t, e, c⟩ := x; exact ⟨ob, es, ep, t, k _ _ (.inl rfl) e, c⟩
  | ins C dx fs =>
    obtain ⟨d, z, ne, e, mA, ⟨od, es, ep, e2, c⟩, r⟩ := x
    exact ⟨ho _ d, z, ne, k _ _ (.inl rfl) e, mA, ⟨od, es, ep, k _ _ (.inr d) e2, c⟩, r⟩
  | own y => obtain ⟨ob, e⟩ := x; exact ⟨ob, k _ _ (.inl rfl) e⟩
  | xd fs => obtain ⟨mA, ⟨od, es, ep, e, c⟩, r⟩ := x; exact ⟨mA, ⟨od, es, ep, k _ _ (.inl rfl) e, c⟩, r⟩
  | rng lo hi => obtain ⟨t, u, v, e⟩ := x; exact ⟨t, u, v, k _ _ (.inl rfl) e⟩
  | frz ob u ih => obtain ⟨e, q⟩ := x; exact ⟨k _ _ (.inl rfl) e, ih q⟩
  | tbl ps =>
    have e : h.get? a = some { cls := .none, data := .fields ps } := x
    show h'.get? a = some { cls := .none, data := .fields ps }
    exact k a _ (.inl rfl) e
  | met f y =>
    have e : h.get? a = some (PySem.W.methodObj (.ref f) (.ref y)) := x
    show h'.get? a = some (PySem.W.methodObj (.ref f) (.ref y))
    exact k a _ (.inl rfl) e
  | ext φ => obtain ⟨p, ⟨o, e⟩, st⟩ := x; exact ⟨st _ _ p fun o q => k _ _ (.inl rfl) q, ⟨o, k _ _ (.inl rfl) e⟩, st⟩
theorem HOk.lt (x : HOk P w H h) (e : H a = some o) : a < h.objs.size := (x a o e).lt
theorem HOk.fresh (x : HOk P w H h) (e : h.objs.size ≤ a) : H a = none := by
  cases q : H a with
  | none => rfl
  | some u => exact absurd (Nat.lt_of_lt_of_le (x.lt q) e) (Nat.lt_irrefl _)
theorem HOk.kept (x : HOk P w H h) (k : ∀ b u, h.get? b = some u → h'.get? b = some u) : HOk P w H h' := fun a o e =>
  (x a o e).stay (fun b u _ q => k b u q) (fun _ q => q) fun _ _ q => q
theorem HOk.laid (x : HOk P w H h) (k : ∀ b u, h.get? b = some u → h'.get? b = some u) (hp : h.objs.size ≤ a) (new : ObjOk P w (upd H a o) h' a o) : HOk P w (upd H a o) h' := fun b u e => by
  have hn := x.fresh hp
  by_cases hb : b = a
  · subst hb; rw [upd_same] at e; cases e; exact new
  · rw [upd_ne hb] at e
    exact (x b u e).stay (fun c v _ q => k c v q) (fun c q => by rw [upd_ne (ne_of_none q hn)]; exact q) fun c xs q => by rw [upd_ne (ne_of_none q hn)]; exact q
end
def Rd (H : Hp) (a : Addr) (u : HO) : Prop := H a = some u ∨ ∃ o, H a = some (.frz o u)
theorem Rd.of {H : Hp} {a : Addr} {u : HO} (h : H a = some u) : Rd H a u := .inl h
theorem Rd.ok {P : Program} {w : World} {H : Hp} {h : Heap} {a : Addr} {u : HO} (r : Rd H a u) (x : HOk P w H h) : ObjOk P w H h a u := by
  rcases r with r | ⟨o, r⟩
  · exact x a u r
  · obtain ⟨_, q⟩ := x a _ r
    exact q
def Mut : Option HO → Prop
  | some (.lst _) => True
  | some (.dK _) => True
  | some (.dT _) => True
  | some (.set _ _) => True
  | some (.ins _ _ _) => True
  | some (.ext _) => True
  | _ => False
section
variable {P : Program} {w : World} {H : Hp} {h h' : Heap} {x e : Addr} {o' : HO}
theorem HOk.write (ok : HOk P w H h) (mu : Mut (H x)) (he : e = x ∨ H e = some (.own x)) (k : ∀ b u, b ≠ e → h.get? b = some u → h'.get? b = some u) (heo : ∃ u, h'.get? e = some u)
    (new : ObjOk P w (upd H x o') h' x o') : HOk P w (upd H x o') h' := fun b u q => by
  have nown : ∀ c y, H c = some (.own y) → c ≠ x := fun c y r z => by subst z; rw [r] at mu; exact mu
  have ntup : ∀ c xs, H c = some (.tup xs) → c ≠ x := fun c xs r z => by subst z; rw [r] at mu; exact mu
  by_cases hb : b = x
  · subst hb; rw [upd_same] at q; cases q; exact new
  · rw [upd_ne hb] at q
    by_cases hbe : b = e
    · have q' : H b = some (.own x) := by
        rcases he with z | z
        · exact absurd (hbe.trans z) hb
        · rw [hbe]; exact z
      rw [q] at q'; cases q'
      obtain ⟨v, hv⟩ := heo
      exact ⟨v, by rw [hbe]; exact hv⟩
    · refine (ok b u q).stay (fun c v hc r => k c v ?_ r) (fun c r => by rw [upd_ne (nown c b r)]; exact r) fun c xs r => by rw [upd_ne (ntup c xs r)]; exact r
      rcases hc with rfl | hc
      · exact hbe
      · rintro rfl
        rcases he with z | z
        · exact nown c b hc z
        · rw [hc] at z; cases z; exact hb rfl
end
structure Un (fs ex : List Addr) (H H' : Hp) (h h' : Heap) : Prop where
  keep : ∀ b o, h.get? b = some o → H b = none → b ∉ fs → b ∉ ex → h'.get? b = some o
  slot : ∀ b o, h.get? b = some o → H b = none → b ∈ fs → b ∉ ex → ∃ sl, h'.get? b = some { o with slots := sl }
  free : ∀ b o, h.get? b = some o → H b = none → b ∉ ex → H' b = none
  there : ∀ b o, h.get? b = some o → b ∉ ex → ∃ o', h'.get? b = some o'
  tups : ∀ b xs, H b = some (.tup xs) → H' b = some (.tup xs)
  frzs : ∀ b o u, H b = some (.frz o u) → H' b = some (.frz o u)
  tbls : ∀ b ps, H b = some (.tbl ps) → ∃ more, H' b = some (.tbl (ps ++ more))
section
variable {fs fs' ex ex' : List Addr} {H H1 H2 : Hp} {h h1 h2 h' : Heap} {a x e : Addr} {o : HO}
theorem Un.any (u : Un fs ex H H1 h h1) {b : Addr} {ob : Obj} (q : h.get? b = some ob) (n : H b = none) (hx : b ∉ ex) : ∃ sl, h1.get? b = some { ob with slots := sl } := by
  by_cases hb : b ∈ fs
  · exact u.slot b ob q n hb hx
  · exact ⟨ob.slots, u.keep b ob q n hb hx⟩
theorem Un.trans (a : Un fs ex H H1 h h1) (b : Un fs ex H1 H2 h1 h2) : Un fs ex H H2 h h2 where
  keep := fun c ob q n hc hx => b.keep c ob (a.keep c ob q n hc hx) (a.free c ob q n hx) hc hx
  slot := fun c ob q n hc hx => by
    obtain ⟨sl, e1⟩ := a.slot c ob q n hc hx
    obtain ⟨sl', e2⟩ := b.slot c _ e1 (a.free c ob q n hx) hc hx
    exact ⟨sl', e2⟩
  free := fun c ob q n hx => by
    obtain ⟨o', e1⟩ := a.there c ob q hx
    exact b.free c o' e1 (a.free c ob q n hx) hx
  there := fun c ob q hx => by
    obtain ⟨o', e1⟩ := a.there c ob q hx
    exact b.there c o' e1 hx
  tups := fun c xs q => b.tups c xs (a.tups c xs q)
  frzs := fun c ob xs q => b.frzs c ob xs (a.frzs c ob xs q)
  tbls := fun c ps q => by
    obtain ⟨m1, e1⟩ := a.tbls c ps q
    obtain ⟨m2, e2⟩ := b.tbls c _ e1
    exact ⟨m1 ++ m2, by rw [e2, Array.append_assoc]⟩
theorem Un.kept (k : ∀ b u, h.get? b = some u → h'.get? b = some u) : Un fs ex H H h h' :=
  ⟨fun b ob q _ _ _ => k b ob q, fun b ob q _ _ _ => ⟨ob.slots, k b ob q⟩, fun _ _ _ n _ => n, fun b ob q _ => ⟨ob, k b ob q⟩, fun _ _ q => q, fun _ _ _ q => q, fun _ ps q => ⟨#[], by rw [q]; simp⟩⟩
theorem Un.refl : Un fs ex H H h h := Un.kept fun _ _ q => q
theorem Un.laid (k : ∀ b u, h.get? b = some u → h'.get? b = some u) (hp : h.objs.size ≤ a) (hn : H a = none) : Un fs ex H (upd H a o) h h' where
  keep := fun b u q _ _ _ => k b u q
  slot := fun b u q _ _ _ => ⟨u.slots, k b u q⟩
  free := fun b u q n _ => by rw [upd_ne (Nat.ne_of_lt (Nat.lt_of_lt_of_le (Heap.lt_size q) hp))]; exact n
  there := fun b u q _ => ⟨u, k b u q⟩
  tups := fun b xs q => by rw [upd_ne (ne_of_none q hn)]; exact q
  frzs := fun b u xs q => by rw [upd_ne (ne_of_none q hn)]; exact q
  tbls := fun b ps q => ⟨#[], by rw [upd_ne (ne_of_none q hn), q]; simp⟩
theorem Un.write (mu : Mut (H x)) (he : e = x ∨ H e = some (.own x)) (k : ∀ b u, b ≠ e → h.get? b = some u → h'.get? b = some u) (heo : ∃ u, h'.get? e = some u) : Un fs ex H (upd H x o) h h' := by
  have hx : ∀ b, H b = none → b ≠ x := fun b n z => by subst z; rw [n] at mu; exact mu
  have hb : ∀ b, H b = none → b ≠ e := fun b n z => by
    subst z
    rcases he with r | r
    · exact hx b n r
    · rw [n] at r; cases r
  have hm : ∀ b u, H b = some u → ¬ Mut (some u) → b ≠ x := fun b u q nm z => by subst z; rw [q] at mu; exact nm mu
  refine ⟨fun b u q n _ _ => k b u (hb b n) q, fun b u q n _ _ => ⟨u.slots, k b u (hb b n) q⟩, fun b u q n _ => by rw [upd_ne (hx b n)]; exact n, fun b u q _ => ?_,
    fun b xs q => by rw [upd_ne (hm b _ q fun z => z)]; exact q, fun b u xs q => by rw [upd_ne (hm b _ q fun z => z)]; exact q, fun b ps q => ⟨#[], by rw [upd_ne (hm b _ q fun z => z), q]; simp⟩⟩
  by_cases hbe : b = e
  · subst hbe; exact heo
  · exact ⟨u, k b u hbe q⟩
theorem Un.mono (u : Un fs ex H H1 h h1) (hs : ∀ b ∈ fs, b ∈ fs') (hx : ∀ b ∈ ex, b ∈ ex') : Un fs' ex' H H1 h h1 :=
  ⟨fun b ob q n hb he => u.keep b ob q n (fun z => hb (hs b z)) fun z => he (hx b z), fun _ _ q n _ he => u.any q n fun z => he (hx _ z), fun b ob q n he => u.free b ob q n fun z => he (hx b z), fun b ob q he => u.there b ob q fun z => he (hx b z), u.tups, u.frzs, u.tbls⟩
end
def trk (h : Heap) (H : Hp) : List Addr := (List.range h.objs.size).filter fun a => (H a).isSome
def hidT (h : Heap) (H : Hp) : Heap := PySem.W.hideAll h (trk h H)
theorem hidT_size (h : Heap) (H : Hp) : (hidT h H).objs.size = h.objs.size := PySem.W.hideAll_size _ _
theorem hidT_get {h : Heap} {H : Hp} {b : Addr} {o : Obj} (e : h.get? b = some o) (n : H b = none) : (hidT h H).get? b = some o :=
  PySem.W.hideAll_get _ e fun hm => by
    have q : (H b).isSome = true := (List.mem_filter.mp hm).2
    rw [n] at q; simp at q
theorem of_hidT {h : Heap} {H : Hp} {b : Addr} {o : Obj} (e : (hidT h H).get? b = some o) : h.get? b = some o ∧ H b = none := by
  have e' : h.get? b = some o := PySem.W.of_hideAll (trk h H) e
  refine ⟨e', ?_⟩
  cases q : H b with
  | none => rfl
  | some x =>
    have hm : b ∈ trk h H := List.mem_filter.mpr ⟨List.mem_range.mpr (Heap.lt_size e'), by simp [q]⟩
    have z : (hidT h H).get? b = none := PySem.W.hideAll_none (trk h H) hm
    rw [z] at e; cases e
def allNews (g h : Heap) (L : Addr) : List (Addr × Obj) := (List.range h.objs.size).filterMap fun a => if a = L ∨ (g.get? a).isSome = true then none else (h.get? a).map fun o => (a, o)
def rest (g h : Heap) (L d : Addr) : List (Addr × Obj) := (allNews g h L).filter fun p => decide (p.1 ≠ d)
end L2
namespace L2
open PySem PySem.Spec PyProof.Rows
structure Mod (K : PySem.W.Frag) (mg : Str → Option Value) (base : Heap) : Prop where
  kin : K.In base
  glob : base.Ns mainGlobals mg
  blt : ∃ mb, base.Ns builtinsNs mb ∧ ∀ x : Str, x ≠ "__name__" → mb x = bootBuiltins x
  nolimit : base.NoLimit
structure Cx where
  prog : Program
  w : World
  K : PySem.W.Frag
  mg : Str → Option Value
  base : Heap
  A : Around
  N : List Str
  s_0 : Shared
  H_0 : Hp
  env : Env
  outer : List Env
  stack : List Env
  ex : List Addr
  fn : Str → Bool
  calm : Bool
  pn : List (Addr × Obj)
  xe : Value → Shared → Prop
def frs (l : List Env) : List Addr := l.filterMap (·.frame)
abbrev Cx.fs (X : Cx) : List Addr := frs X.outer
def Vis (sc : Scope) (x : Str) : Prop := sc.names.lookup x = some .local ∨ sc.names.lookup x = some .cell ∨ sc.names.lookup x = some .free
def Loc (sc : Scope) (x : Str) : Prop := sc.names.lookup x = some .local ∨ sc.names.lookup x = some .cell
def Look (env : Env) (h : Heap) (m : Str → Option Value) (x : Str) (u : Value) : Prop :=
  (env.kindOf x = some .local ∧ m x = some u) ∨ ((env.kindOf x = some .cell ∨ env.kindOf x = some .free) ∧ ∃ c, env.cells.lookup x = some c ∧ h.IsCell c (some u))
structure Cx.Ok (X : Cx) : Prop where
  mod : Mod X.K X.mg X.base
  kind : X.env.scope.kind = .function
  glob : X.env.globals = mainGlobals
  blt : X.env.builtins = builtinsNs
  above : X.s_0.heap.objs.size ≤ X.env.locals
  inj : ∀ x y c, X.env.cells.lookup x = some c → X.env.cells.lookup y = some c → x = y
  has : ∀ x, (X.env.kindOf x = some .cell ∨ X.env.kindOf x = some .free) → ∃ c, X.env.cells.lookup x = some c
  cab : ∀ x c, X.fn x = true → X.env.cells.lookup x = some c → X.s_0.heap.objs.size ≤ c
  hd : X.calm = true → X.A.handled = none
  frames : X.A.frames = some X.stack
  stk : X.stack = X.outer ∨ (X.stack = X.env :: X.outer ∧ X.env.frame = some X.env.locals)
  exf : ∀ b ∈ X.ex, b ≠ X.env.locals ∧ ∀ x c, X.env.cells.lookup x = some c → c ≠ b
  bs : ∀ b o, X.base.get? b = some o → X.s_0.heap.get? b = some o ∧ X.H_0 b = none
  bsz : X.base.objs.size ≤ X.s_0.heap.objs.size
  noex : ∀ b o, X.base.get? b = some o → b ∉ X.ex
  exfs : ∀ b ∈ X.ex, b ∉ X.fs
  funs : X.s_0.heap.FunFrames X.base X.outer
  frf : ∀ b ∈ X.fs, X.H_0 b = none
structure Inv (X : Cx) (pins : List (Addr × Obj)) (σ : List (Option V)) (H : Hp) (s : Shared) : Prop where
  ok : X.Ok
  os : s.os = X.s_0.os
  bare : AllBare s.gens
  base : Un X.fs X.ex X.H_0 H X.s_0.heap s.heap
  loc : ∃ m, s.heap.Ns X.env.locals m ∧ ∀ (i : Nat) (x : Str) (v : V), X.N[i]? = some x → σ[i]? = some (some v) → Vis X.env.scope x → ∃ u, RelV v u ∧ Look X.env s.heap m x u
  cell : ∀ x c, X.env.cells.lookup x = some c → ∃ v, s.heap.IsCell c v
  free : H X.env.locals = none
  freeC : ∀ x c, X.env.cells.lookup x = some c → H c = none
  pin : ∀ p ∈ X.pn ++ pins, s.heap.get? p.1 = some p.2 ∧ H p.1 = none ∧ p.1 ≠ X.env.locals ∧ p.1 ∉ X.fs ∧ ∀ v, p.2.data ≠ .cell v
  hok : HOk X.prog X.w H s.heap
  len : σ.length = X.N.length
section
variable {X : Cx} {pins : List (Addr × Obj)} {σ : List (Option V)} {H H' : Hp} {s : Shared} {h' : Heap}
theorem Cx.Ok.nofr (ok : X.Ok) {b : Addr} {o : Obj} (e : X.base.get? b = some o) : b ∉ X.fs := fun hb => by
  have := (ok.funs.mem hb).1
  rw [e] at this; cases this
theorem Inv.bs (I : Inv X pins σ H s) : ∀ b o, X.base.get? b = some o → s.heap.get? b = some o ∧ H b = none := fun b o e =>
  ⟨I.base.keep b o (I.ok.bs b o e).1 (I.ok.bs b o e).2 (I.ok.nofr e) (I.ok.noex b o e), I.base.free b o (I.ok.bs b o e).1 (I.ok.bs b o e).2 (I.ok.noex b o e)⟩
theorem Inv.bk (I : Inv X pins σ H s) : ∀ b o, X.base.get? b = some o → s.heap.get? b = some o := fun b o e => (I.bs b o e).1
theorem Inv.mod (I : Inv X pins σ H s) : Mod X.K X.mg X.base := I.ok.mod
theorem Inv.kIn (I : Inv X pins σ H s) : X.K.In s.heap := I.ok.mod.kin.keeps I.bk
theorem Inv.nolimit (I : Inv X pins σ H s) : s.heap.NoLimit := I.ok.mod.nolimit.keeps I.bk
theorem Inv.fr (I : Inv X pins σ H s) : ∃ m, Fr X.base X.env.locals s.heap m :=
  let ⟨m, hn, _⟩ := I.loc
  ⟨m, hn, I.bk, Nat.le_trans I.ok.bsz I.ok.above⟩
theorem Inv.lt (I : Inv X pins σ H s) : X.env.locals < s.heap.objs.size := let ⟨_, hn, _⟩ := I.loc; hn.lt
theorem Inv.sz (I : Inv X pins σ H s) : X.s_0.heap.objs.size ≤ s.heap.objs.size := Nat.le_trans I.ok.above (Nat.le_of_lt I.lt)
theorem Inv.nofs (I : Inv X pins σ H s) {a : Addr} (h : s.heap.objs.size ≤ a) : a ∉ X.fs := fun hb => by
  obtain ⟨_, o, ho, _⟩ := I.ok.funs.mem hb
  exact absurd (Nat.lt_of_lt_of_le (Heap.lt_size ho) (Nat.le_trans I.sz h)) (Nat.lt_irrefl _)
theorem Inv.cne (I : Inv X pins σ H s) : ∀ x c, X.env.cells.lookup x = some c → c ≠ X.env.locals := fun x c e z => by
  obtain ⟨v, o, ho, hd⟩ := I.cell x c e
  obtain ⟨m, ⟨o', es, ep, ho', hd', _⟩, _⟩ := I.loc
  rw [z, ho'] at ho; cases ho; rw [hd'] at hd; cases hd
theorem Inv.funs (I : Inv X pins σ H s) : s.heap.FunFrames X.base X.outer := by
  have all : ∀ (l : List Env), (∀ b ∈ frs l, b ∈ X.fs) → X.s_0.heap.FunFrames X.base l → s.heap.FunFrames X.base l := by
    intro l
    induction l with
    | nil => intro _ _; trivial
    | cons env r ih =>
      intro hs hl
      obtain ⟨hk, ⟨L, o, hf, hn, ho, hd⟩, hr⟩ := hl
      have hL : L ∈ X.fs := hs L (by unfold frs; rw [List.filterMap_cons, hf]; exact List.mem_cons_self)
      obtain ⟨sl, e⟩ := I.base.slot L o ho (I.ok.frf L hL) hL fun z => I.ok.exfs L z hL
      exact ⟨hk, ⟨L, _, hf, hn, e, hd⟩, ih (fun b hb => hs b (by unfold frs; rw [List.filterMap_cons, hf]; exact List.mem_cons_of_mem _ hb)) hr⟩
  exact all X.outer (fun _ hb => hb) I.ok.funs
theorem Inv.stack (I : Inv X pins σ H s) : s.heap.FunFrames X.base X.stack := by
  rcases I.ok.stk with e | ⟨e, hf⟩
  · rw [e]; exact I.funs
  · rw [e]
    obtain ⟨m, hn, _⟩ := I.loc
    refine .cons (by rw [I.ok.kind]; decide) hf hn ?_ I.funs
    exact Heap.get?_none_of_le (Nat.le_trans I.ok.bsz I.ok.above)
theorem Inv.stkSub (I : Inv X pins σ H s) : ∀ b ∈ frs X.stack, b ∈ X.env.locals :: X.fs := fun b hb => by
  rcases I.ok.stk with e | ⟨e, hf⟩
  · rw [e] at hb; exact List.mem_cons_of_mem _ hb
  · rw [e] at hb
    unfold frs at hb
    rw [List.filterMap_cons, hf] at hb
    exact hb
theorem Inv.stkFree (I : Inv X pins σ H s) : ∀ b ∈ frs X.stack, H b = none := fun b hb => by
  rcases List.mem_cons.mp (I.stkSub b hb) with e | hb
  · rw [e]; exact I.free
  · obtain ⟨_, o, ho, _⟩ := I.ok.funs.mem hb
    exact I.base.free b o ho (I.ok.frf b hb) fun z => I.ok.exfs b z hb
theorem Inv.step {g' : Array GenState} {t' : Nat} {d' : Drawn} {ch : List Addr} (I : Inv X pins σ H s)
    (hch : ∀ b ∈ ch, (b ∈ X.ex ∨ X.s_0.heap.objs.size ≤ b) ∧ b ≠ X.env.locals ∧ (∀ x c, X.env.cells.lookup x = some c → c ≠ b) ∧ ∀ p ∈ X.pn ++ pins, p.1 ≠ b)
    (keep : ∀ b o, b ≠ X.env.locals → b ∉ X.fs → b ∉ ch → s.heap.get? b = some o → H b = none → h'.get? b = some o)
    (slot : ∀ b o, b ≠ X.env.locals → b ∈ X.fs → b ∉ ch → s.heap.get? b = some o → H b = none → ∃ sl, h'.get? b = some { o with slots := sl }) (free : ∀ b o, b ∉ ch → s.heap.get? b = some o → H b = none → H' b = none)
    (there : ∀ b o, b ∉ ch → s.heap.get? b = some o → ∃ o', h'.get? b = some o')
    (tups : ∀ b xs, H b = some (.tup xs) → H' b = some (.tup xs)) (frzs : ∀ b o u, H b = some (.frz o u) → H' b = some (.frz o u)) (tbls : ∀ b ps, H b = some (.tbl ps) → ∃ more, H' b = some (.tbl (ps ++ more)))
    (ns : ∀ m, s.heap.Ns X.env.locals m → h'.Ns X.env.locals m) (hok : HOk X.prog X.w H' h') (hg : AllBare g') :
    Inv X pins σ H' { s with heap := h', gens := g', drawn := d', toks := t' } := by
  have neL : ∀ b o, X.s_0.heap.get? b = some o → b ≠ X.env.locals := fun b o e => Nat.ne_of_lt (Nat.lt_of_lt_of_le (Heap.lt_size e) I.ok.above)
  have neC : ∀ b o, X.s_0.heap.get? b = some o → b ∉ X.ex → b ∉ ch := fun b o e hx hb => by
    rcases (hch b hb).1 with z | z
    · exact hx z
    · exact absurd (Nat.lt_of_lt_of_le (Heap.lt_size e) z) (Nat.lt_irrefl _)
  have cellK : ∀ x c, X.env.cells.lookup x = some c → ∀ v, s.heap.IsCell c v → h'.IsCell c v := fun x c e v ⟨o, ho, hd⟩ => by
    have nch : c ∉ ch := fun z => (hch c z).2.2.1 x c e rfl
    by_cases hc : c ∈ X.fs
    · obtain ⟨sl, q⟩ := slot c o (I.cne x c e) hc nch ho (I.freeC x c e)
      exact ⟨_, q, hd⟩
    · exact ⟨o, keep c o (I.cne x c e) hc nch ho (I.freeC x c e), hd⟩
  refine ⟨I.ok, I.os, hg, ⟨fun b o e n hb hx => ?_, fun b o e n hb hx => ?_, fun b o e n hx => ?_, fun b o e hx => ?_, fun b xs e => tups b xs (I.base.tups b xs e), fun b o xs e => frzs b o xs (I.base.frzs b o xs e), fun b ps e => ?_⟩, ?_, fun x c e => ?_, ?_, fun x c e => ?_, fun p hp => ?_, hok, I.len⟩
  · exact keep b o (neL b o e) hb (neC b o e hx) (I.base.keep b o e n hb hx) (I.base.free b o e n hx)
  · obtain ⟨sl, e1⟩ := I.base.slot b o e n hb hx
    obtain ⟨sl', e2⟩ := slot b _ (neL b o e) hb (neC b o e hx) e1 (I.base.free b o e n hx)
    exact ⟨sl', e2⟩
  · obtain ⟨o', e1⟩ := I.base.there b o e hx
    exact free b o' (neC b o e hx) e1 (I.base.free b o e n hx)
  · obtain ⟨o', e1⟩ := I.base.there b o e hx
    exact there b o' (neC b o e hx) e1
  · obtain ⟨m1, e1⟩ := I.base.tbls b ps e
    obtain ⟨m2, e2⟩ := tbls b _ e1
    exact ⟨m1 ++ m2, by rw [e2, Array.append_assoc]⟩
  · obtain ⟨m, hn, hl⟩ := I.loc
    refine ⟨m, ns m hn, fun i x v e1 e2 e3 => ?_⟩
    obtain ⟨u, r, l⟩ := hl i x v e1 e2 e3
    refine ⟨u, r, ?_⟩
    rcases l with l | ⟨k, c, e, z⟩
    · exact .inl l
    · exact .inr ⟨k, c, e, cellK x c e _ z⟩
  · obtain ⟨v, z⟩ := I.cell x c e
    exact ⟨v, cellK x c e v z⟩
  · obtain ⟨m, ⟨o, _, _, ho, _⟩, _⟩ := I.loc
    exact free _ o (fun z => (hch _ z).2.1 rfl) ho I.free
  · obtain ⟨v, o, ho, hd⟩ := I.cell x c e
    exact free c o (fun z => (hch c z).2.2.1 x c e rfl) ho (I.freeC x c e)
  · obtain ⟨e, n, ne, nf, d⟩ := I.pin p hp
    have nch : p.1 ∉ ch := fun z => (hch p.1 z).2.2.2 p hp rfl
    exact ⟨keep p.1 p.2 ne nf nch e n, free p.1 p.2 nch e n, ne, nf, d⟩
theorem Inv.un {t' : Nat} (I : Inv X pins σ H s) (u : Un X.fs [] H H' s.heap h') (hok : HOk X.prog X.w H' h') : Inv X pins σ H' { s with heap := h', toks := t' } := by
  obtain ⟨m, ⟨o, es, ep, ho, r⟩, _⟩ := id I.loc
  obtain ⟨sl, hL⟩ := u.any ho I.free (by simp)
  exact I.step (g' := s.gens) (d' := s.drawn) (ch := []) (fun _ z => nomatch z) (fun b o _ hb _ e n => u.keep b o e n hb (by simp)) (fun b o _ hb _ e n => u.slot b o e n hb (by simp)) (fun b o _ e n => u.free b o e n (by simp)) (fun b o _ e => u.there b o e (by simp)) u.tups u.frzs u.tbls (fun m' hm => by
    obtain ⟨o', es', ep', ho', r'⟩ := hm
    rw [ho] at ho'; cases ho'
    exact ⟨_, es', ep', hL, r'⟩) hok I.bare
theorem Inv.call {g' : Array GenState} {t' : Nat} {d' : Drawn} {ch : List Addr} (I : Inv X pins σ H s) (u : Un (frs X.stack) ch H H' s.heap h') (hok : HOk X.prog X.w H' h') (hg : AllBare g')
    (hch : ∀ b ∈ ch, (b ∈ X.ex ∨ X.s_0.heap.objs.size ≤ b) ∧ b ≠ X.env.locals ∧ (∀ x c, X.env.cells.lookup x = some c → c ≠ b) ∧ ∀ p ∈ X.pn ++ pins, p.1 ≠ b) :
    Inv X pins σ H' { s with heap := h', gens := g', drawn := d', toks := t' } := by
  obtain ⟨m, ⟨o, es, ep, ho, r⟩, _⟩ := id I.loc
  obtain ⟨sl, hL⟩ := u.any ho I.free fun z => (hch _ z).2.1 rfl
  exact I.step (ch := ch) hch (fun b o hL hb hc e n => u.keep b o e n (fun z => (List.mem_cons.mp (I.stkSub b z)).elim hL hb) hc) (fun b o _ _ hc e n => u.any e n hc) (fun b o hc e n => u.free b o e n hc) (fun b o hc e => u.there b o e hc) u.tups u.frzs u.tbls (fun m' hm => by
    obtain ⟨o', es', ep', ho', r'⟩ := hm
    rw [ho] at ho'; cases ho'
    exact ⟨_, es', ep', hL, r'⟩) hok hg
theorem Inv.turned {t' : Nat} {it : Addr} (I : Inv X pins σ H s) (k : ∀ b o, b ≠ it → s.heap.get? b = some o → h'.get? b = some o) (hn : H it = none) (hL : it ≠ X.env.locals)
    (h1 : it ∈ X.ex ∨ X.s_0.heap.objs.size ≤ it) (h2 : ∀ x c, X.env.cells.lookup x = some c → c ≠ it) (h3 : ∀ p ∈ X.pn ++ pins, p.1 ≠ it) : Inv X pins σ H { s with heap := h', toks := t' } := by
  have nit : ∀ b u, H b = some u → b ≠ it := fun b u e z => by rw [z, hn] at e; cases e
  refine I.step (g' := s.gens) (d' := s.drawn) (ch := [it]) (fun b hb => ?_) (fun b o _ _ hc e _ => k b o (fun z => hc (by simp [z])) e) (fun b o _ _ hc e _ => ⟨o.slots, k b o (fun z => hc (by simp [z])) e⟩) (fun _ _ _ _ n => n)
    (fun b o hc e => ⟨o, k b o (fun z => hc (by simp [z])) e⟩) (fun _ _ e => e) (fun _ _ _ e => e) (fun b ps e => ⟨#[], by rw [e]; simp⟩) (fun m hm => ?_) (fun b u e => ?_) I.bare
  · have e : b = it := by simpa using hb
    subst e
    exact ⟨h1, hL, h2, h3⟩
  · obtain ⟨o, es, ep, ho, r⟩ := hm
    exact ⟨o, es, ep, k _ o (Ne.symm hL) ho, r⟩
  · refine (I.hok b u e).stay (fun c v hc q => k c v ?_ q) (fun _ q => q) fun _ _ q => q
    rcases hc with z | z
    · rw [z]; exact nit b u e
    · exact nit c _ z
theorem Inv.tok (I : Inv X pins σ H s) (t : Nat) : Inv X pins σ H { s with toks := t } := I.un (h' := s.heap) (t' := t) Un.refl I.hok
theorem Inv.kept {t' : Nat} (I : Inv X pins σ H s) (k : ∀ b u, s.heap.get? b = some u → h'.get? b = some u) : Inv X pins σ H { s with heap := h', toks := t' } := I.un (Un.kept k) (I.hok.kept k)
theorem Inv.laid {a : Addr} {o : HO} {t' : Nat} (I : Inv X pins σ H s) (k : ∀ b u, s.heap.get? b = some u → h'.get? b = some u) (hp : s.heap.objs.size ≤ a) (new : ObjOk X.prog X.w (upd H a o) h' a o) :
    Inv X pins σ (upd H a o) { s with heap := h', toks := t' } := I.un (Un.laid k hp (I.hok.fresh hp)) (I.hok.laid k hp new)
theorem Inv.write {x e : Addr} {o : HO} {t' : Nat} (I : Inv X pins σ H s) (mu : Mut (H x)) (he : e = x ∨ H e = some (.own x)) (k : ∀ b u, b ≠ e → s.heap.get? b = some u → h'.get? b = some u) (heo : ∃ u, h'.get? e = some u)
    (new : ObjOk X.prog X.w (upd H x o) h' x o) : Inv X pins σ (upd H x o) { s with heap := h', toks := t' } := I.un (Un.write mu he k heo) (I.hok.write mu he k heo new)
theorem Inv.weak {σ' : List (Option V)} (I : Inv X pins σ H s) (hl : σ'.length = σ.length) (w : ∀ (i : Nat) v, σ'[i]? = some (some v) → σ[i]? = some (some v)) : Inv X pins σ' H s :=
  ⟨I.ok, I.os, I.bare, I.base, let ⟨m, hn, hl'⟩ := I.loc; ⟨m, hn, fun i x v e1 e2 e3 => hl' i x v e1 (w i v e2) e3⟩, I.cell, I.free, I.freeC, I.pin, I.hok, hl.trans I.len⟩
theorem Inv.pins_of {pins' : List (Addr × Obj)} (I : Inv X pins σ H s) (h : ∀ p ∈ pins', s.heap.get? p.1 = some p.2 ∧ H p.1 = none ∧ p.1 ≠ X.env.locals ∧ p.1 ∉ X.fs ∧ ∀ v, p.2.data ≠ .cell v) : Inv X pins' σ H s :=
  ⟨I.ok, I.os, I.bare, I.base, I.loc, I.cell, I.free, I.freeC, fun p hp => (List.mem_append.mp hp).elim (fun z => I.pin p (List.mem_append_left _ z)) (h p), I.hok, I.len⟩
theorem nodup_ix {N : List Str} (hN : N.Nodup) {i j : Nat} {x : Str} (a : N[i]? = some x) (b : N[j]? = some x) : i = j := by
  obtain ⟨h1, e1⟩ := List.getElem?_eq_some_iff.mp a
  obtain ⟨h2, e2⟩ := List.getElem?_eq_some_iff.mp b
  exact (List.getElem_inj hN).mp (e1.trans e2.symm)
theorem store_ok2 {M : Model} {A : Around} {E : Value → Shared → Prop} {i : Nat} {x : Str} {v : V} {u : Value} {Q : Unit → Shared → Prop} (I : Inv X pins σ H s) (hN : X.N.Nodup) (hi : X.N[i]? = some x) (hx : Loc X.env.scope x) (r : RelV v u)
    (h : ∀ s', Inv X pins (σ.set i (some v)) H s' → (∃ a, Heap.SameBut a s.heap s'.heap ∧ (a = X.env.locals ∨ X.env.cells.lookup x = some a)) → Q () s') (hf : X.fn x = true ∨ X.env.scope.names.lookup x = some .local := by first | exact .inl rfl | exact .inr rfl | assumption) : wpAny M A (storeName X.env x u) Q E s := by
  obtain ⟨m, hn, hl⟩ := id I.loc
  have hcls : (X.env.scope.kind == .class || (X.env.scope.kind == .module && X.env.locals != X.env.globals)) = false := by rw [I.ok.kind]; rfl
  have hiσ : i < σ.length := by rw [I.len]; exact (List.getElem?_eq_some_iff.mp hi).1
  have cne := I.cne
  have tracked : ∀ {a : Addr} {h' : Heap}, (∃ o, s.heap.get? a = some o ∧ H a = none) → Heap.SameBut a s.heap h' → HOk X.prog X.w H h' := fun {a h'} ha hs b ob e => by
    obtain ⟨_, _, hfree⟩ := ha
    refine (I.hok b ob e).stay (fun c w' hc q => (hs.2 c ?_).trans q) (fun _ q => q) fun _ _ q => q
    rintro rfl
    rcases hc with rfl | hc
    · rw [hfree] at e; cases e
    · rw [hfree] at hc; cases hc
  rcases hx with hk | hk
  · refine wpAny_storeName_local hk hn (fun h' hn' hs => ?_) hcls
    obtain ⟨oL, _, _, hoL, _⟩ := id hn
    refine h _ ⟨I.ok, I.os, I.bare, ⟨fun b o e n hb hx => ?_, fun b o e n hb hx => ?_, I.base.free, fun b o e hx => ?_, I.base.tups, I.base.frzs, I.base.tbls⟩, ⟨_, hn', fun j y v' e1 e2 e3 => ?_⟩, fun y c e => ?_, I.free, I.freeC, fun p hp => ?_, tracked ⟨oL, hoL, I.free⟩ hs, by simpa using I.len⟩ ⟨_, hs, .inl rfl⟩
    · exact (hs.2 b (Nat.ne_of_lt (Nat.lt_of_lt_of_le (Heap.lt_size e) I.ok.above))).trans (I.base.keep b o e n hb hx)
    · obtain ⟨sl, e1⟩ := I.base.slot b o e n hb hx
      exact ⟨sl, (hs.2 b (Nat.ne_of_lt (Nat.lt_of_lt_of_le (Heap.lt_size e) I.ok.above))).trans e1⟩
    · obtain ⟨o', e1⟩ := I.base.there b o e hx
      exact ⟨o', (hs.2 b (Nat.ne_of_lt (Nat.lt_of_lt_of_le (Heap.lt_size e) I.ok.above))).trans e1⟩
    · by_cases hj : j = i
      · subst hj
        rw [hi] at e1; cases e1
        rw [List.getElem?_set_self hiσ] at e2
        cases e2
        exact ⟨u, r, .inl ⟨hk, by simp⟩⟩
      · rw [List.getElem?_set_ne (Ne.symm hj)] at e2
        obtain ⟨u', r', q⟩ := hl j y v' e1 e2 e3
        refine ⟨u', r', ?_⟩
        rcases q with ⟨k, e⟩ | ⟨k, c, e, z⟩
        · refine .inl ⟨k, ?_⟩
          have : y ≠ x := fun e => hj (nodup_ix hN e1 (e ▸ hi))
          simp [this, e]
        · exact .inr ⟨k, c, e, z.sameBut hs (cne y c e)⟩
    · obtain ⟨w', z⟩ := I.cell y c e
      exact ⟨w', z.sameBut hs (cne y c e)⟩
    · obtain ⟨e, n, ne, nf, d⟩ := I.pin p hp
      exact ⟨(hs.2 p.1 ne).trans e, n, ne, nf, d⟩
  · have hfn : X.fn x = true := by
      rcases hf with z | z
      · exact z
      · rw [z] at hk; cases hk
    obtain ⟨c, hc⟩ := I.ok.has x (.inl hk)
    obtain ⟨w', z⟩ := I.cell x c hc
    refine wpAny_storeName_cell I.ok.kind hk hc z (fun h' hc' hs => ?_)
    obtain ⟨oc, hoc, hocd⟩ := id z
    refine h { s with heap := h' } ⟨I.ok, I.os, I.bare, ⟨fun b o e n hb hx => ?_, fun b o e n hb hx => ?_, I.base.free, fun b o e hx => ?_, I.base.tups, I.base.frzs, I.base.tbls⟩, ⟨m, hn.sameBut hs (Ne.symm (cne x c hc)), fun j y v' e1 e2 e3 => ?_⟩, fun y c' e => ?_, I.free, I.freeC, fun p hp => ?_, tracked ⟨oc, hoc, I.freeC x c hc⟩ hs, by simpa using I.len⟩ ⟨c, hs, .inr hc⟩
    · exact (hs.2 b (Nat.ne_of_lt (Nat.lt_of_lt_of_le (Heap.lt_size e) (I.ok.cab x c hfn hc)))).trans (I.base.keep b o e n hb hx)
    · obtain ⟨sl, e1⟩ := I.base.slot b o e n hb hx
      exact ⟨sl, (hs.2 b (Nat.ne_of_lt (Nat.lt_of_lt_of_le (Heap.lt_size e) (I.ok.cab x c hfn hc)))).trans e1⟩
    · obtain ⟨o', e1⟩ := I.base.there b o e hx
      exact ⟨o', (hs.2 b (Nat.ne_of_lt (Nat.lt_of_lt_of_le (Heap.lt_size e) (I.ok.cab x c hfn hc)))).trans e1⟩
    · by_cases hj : j = i
      · subst hj
        rw [hi] at e1; cases e1
        rw [List.getElem?_set_self hiσ] at e2
        cases e2
        exact ⟨u, r, .inr ⟨.inl hk, c, hc, hc'⟩⟩
      · rw [List.getElem?_set_ne (Ne.symm hj)] at e2
        obtain ⟨u', r', q⟩ := hl j y v' e1 e2 e3
        refine ⟨u', r', ?_⟩
        rcases q with q | ⟨k, c', e, z'⟩
        · exact .inl q
        · refine .inr ⟨k, c', e, z'.sameBut hs ?_⟩
          rintro rfl
          exact hj (nodup_ix hN e1 (I.ok.inj _ _ _ e hc ▸ hi))
    · by_cases hcc : c' = c
      · subst hcc; exact ⟨_, hc'⟩
      · obtain ⟨w2, z2⟩ := I.cell y c' e
        exact ⟨w2, z2.sameBut hs hcc⟩
    · obtain ⟨e, n, ne, nf, d⟩ := I.pin p hp
      refine ⟨(hs.2 p.1 ?_).trans e, n, ne, nf, d⟩
      intro q
      rw [q, hoc] at e
      have q' : oc = p.2 := Option.some.inj e
      exact d w' (by rw [← q']; exact hocd)
theorem store_ok {M : Model} {A : Around} {E : Value → Shared → Prop} {i : Nat} {x : Str} {v : V} {u : Value} {Q : Unit → Shared → Prop} (I : Inv X pins σ H s) (hN : X.N.Nodup) (hi : X.N[i]? = some x) (hx : Loc X.env.scope x) (r : RelV v u)
    (h : ∀ s', Inv X pins (σ.set i (some v)) H s' → Q () s') (hf : X.fn x = true ∨ X.env.scope.names.lookup x = some .local := by first | exact .inl rfl | exact .inr rfl | assumption) : wpAny M A (storeName X.env x u) Q E s :=
  store_ok2 I hN hi hx r (fun s' I' _ => h s' I') hf
theorem Inv.call' {s' : Shared} {ch : List Addr} (I : Inv X pins σ H s) (ho : s'.os = s.os) (u : Un (frs X.stack) ch H H' s.heap s'.heap) (hok : HOk X.prog X.w H' s'.heap) (hg : AllBare s'.gens)
    (hch : ∀ b ∈ ch, (b ∈ X.ex ∨ X.s_0.heap.objs.size ≤ b) ∧ b ≠ X.env.locals ∧ (∀ x c, X.env.cells.lookup x = some c → c ≠ b) ∧ ∀ p ∈ X.pn ++ pins, p.1 ≠ b) : Inv X pins σ H' s' := by
  obtain ⟨h', g', d', t', o'⟩ := s'
  have e : o' = s.os := ho
  subst e
  exact I.call (g' := g') (t' := t') (d' := d') u hok hg hch
end
abbrev XK := Value → Option Addr → Hp → Prop
abbrev St := List (Option V)
abbrev VK := V → Hp → Prop
abbrev TE := St → Hp → VK → Prop
abbrev TT := St → Hp → (Bool → Hp → Prop) → Prop
abbrev TA := St → Hp → (List V → Hp → Prop) → Prop
structure Ends where
  nx : St → Hp → Prop
  rt : VK
  bk : St → Hp → Prop := fun _ _ => False
  ct : St → Hp → Prop := fun _ _ => False
abbrev TS := Ends → St → Hp → Prop
def EP (X : Cx) (pins : List (Addr × Obj)) (σ : St) (Q : VK) (u : Value) (s' : Shared) : Prop := ∃ v H', Inv X pins σ H' s' ∧ RelV v u ∧ Q v H'
def TP (X : Cx) (pins : List (Addr × Obj)) (σ : St) (Q : Bool → Hp → Prop) (b : Bool) (s' : Shared) : Prop := ∃ H', Inv X pins σ H' s' ∧ Q b H'
def AP (X : Cx) (pins : List (Addr × Obj)) (σ : St) (Q : List V → Hp → Prop) (us : List Value) (s' : Shared) : Prop := ∃ vs H', Inv X pins σ H' s' ∧ Vals vs us ∧ Q vs H'
def SP (X : Cx) (pins : List (Addr × Obj)) (D : Ends) (f : Flow) (s' : Shared) : Prop :=
  match f with
  | .next => ∃ σ' H', Inv X pins σ' H' s' ∧ D.nx σ' H'
  | .brk => ∃ σ' H', Inv X pins σ' H' s' ∧ D.bk σ' H'
  | .cont => ∃ σ' H', Inv X pins σ' H' s' ∧ D.ct σ' H'
  | .ret u => ∃ v σ' H', Inv X pins σ' H' s' ∧ RelV v u ∧ D.rt v H'
def PE (X : Cx) (e : Expr) (t : TE) : Prop :=
  ∀ (pins : List (Addr × Obj)) (s : Shared) (σ : St) (H : Hp) (Q : VK), Inv X pins σ H s → t σ H Q → wpAny (model X.prog X.w) X.A (eval e X.env) (EP X pins σ Q) X.xe s
def PT (X : Cx) (e : Expr) (t : TT) : Prop :=
  ∀ (pins : List (Addr × Obj)) (s : Shared) (σ : St) (H : Hp) (Q : Bool → Hp → Prop), Inv X pins σ H s → t σ H Q → wpAny (model X.prog X.w) X.A (isTrue e X.env (eval e X.env)) (TP X pins σ Q) X.xe s
def PW (X : Cx) (e : Expr) (t : TT) : Prop :=
  ∀ (whole : Sem Value) (pins : List (Addr × Obj)) (s : Shared) (σ : St) (H : Hp) (Q : Bool → Hp → Prop), Inv X pins σ H s → t σ H Q → wpAny (model X.prog X.w) X.A (isTrue e X.env whole) (TP X pins σ Q) X.xe s
theorem PW.pt {X : Cx} {e : Expr} {t : TT} (h : PW X e t) : PT X e t := h _
def PA (X : Cx) (es : List Expr) (t : TA) : Prop :=
  ∀ (pos : Pos) (pins : List (Addr × Obj)) (s : Shared) (σ : St) (H : Hp) (Q : List V → Hp → Prop), Inv X pins σ H s → t σ H Q → wpAny (model X.prog X.w) X.A (spliced (backTo pos (starEach es X.env))) (AP X pins σ Q) X.xe s
def PS (X : Cx) (st : Stmt) (t : TS) : Prop :=
  ∀ (pins : List (Addr × Obj)) (s : Shared) (σ : St) (H : Hp) (D : Ends), Inv X pins σ H s → t D σ H → wpAny (model X.prog X.w) X.A (exec st X.env) (SP X pins D) X.xe s
def PSs (X : Cx) (st : List Stmt) (t : TS) : Prop :=
  ∀ (pins : List (Addr × Obj)) (s : Shared) (σ : St) (H : Hp) (D : Ends), Inv X pins σ H s → t D σ H → wpAny (model X.prog X.w) X.A (execs st X.env) (SP X pins D) X.xe s
theorem thn {α : Type} {t : Sem α} {Q Q' : α → Shared → Prop} {M : Model} {A : Around} {E : Value → Shared → Prop} {s : Shared} (h : wpAny M A t Q E s) (hQ : ∀ a s, Q a s → Q' a s) : wpAny M A t Q' E s := wpAny_mono h hQ fun _ _ x => x
end L2
namespace L2
open PySem PySem.Spec PyProof.Rows
section
variable {X : Cx}
theorem bin {a b : Expr} {ta tb : TE} (ha : PE X a ta) (hb : PE X b tb) {pins : List (Addr × Obj)} {s : Shared} {σ : St} {H : Hp} {R : V → V → Hp → Prop} (I : Inv X pins σ H s) (h : ta σ H fun x H1 => tb σ H1 fun y H2 => R x y H2)
    {α : Type} {Q : α → Shared → Prop} {f : Value → Value → Sem α}
    (hf : ∀ v u s2 x y H2, Inv X pins σ H2 s2 → RelV x v → RelV y u → R x y H2 → wpAny (model X.prog X.w) X.A (f v u) Q X.xe s2) :
    wpAny (model X.prog X.w) X.A (eval a X.env) (fun v s₁ => wpAny (model X.prog X.w) X.A (eval b X.env) (fun u s₂ => wpAny (model X.prog X.w) X.A (f v u) Q X.xe s₂) X.xe s₁) X.xe s := by
  refine thn (ha pins s σ H _ I h) fun v s1 ⟨x, H1, I1, r1, q1⟩ => ?_
  refine thn (hb pins s1 σ H1 _ I1 q1) fun u s2 ⟨y, H2, I2, r2, q2⟩ => ?_
  exact hf v u s2 x y H2 I2 r1 r2 q2
def tVar (i : Nat) : TE := fun σ H Q => ∃ v, σ[i]? = some (some v) ∧ Q v H
def tC (v : V) : TE := fun _ H Q => Q v H
theorem pe_var {i : Nat} {x : Str} {pos : Pos} (hN : X.N[i]? = some x) (hv : Vis X.env.scope x) (hd : (x == ("__debug__" : Str)) = false := by decide) (hcd : (x == ("__classdict__" : Str)) = false := by decide) : PE X (.Name x pos) (tVar i) := by
  intro pins s σ H Q I h
  obtain ⟨v, e, h⟩ := h
  obtain ⟨m, hn, hl⟩ := I.loc
  obtain ⟨u, r, l⟩ := hl i x v hN e hv
  have fin : EP X pins σ Q u s := ⟨v, H, I, r, h⟩
  rcases l with ⟨hk, hm⟩ | ⟨hk, c, hc, hcell⟩
  · exact wpAny_Name (wpAny_loadName_local I.ok.kind hk hn hm fin) hd
  · rcases hk with hk | hk
    · exact wpAny_Name (wpAny_loadName_cell I.ok.kind hk hc hcell fin) hd
    · exact wpAny_Name (wpAny_loadName_free I.ok.kind hk hc hcell fin hcd) hd
theorem pe_int {i j pos} : PE X (.Constant (.int i) j pos) (tC (.int i)) := fun _ _ _ H _ I h => wpAny_Constant_int ⟨.int i, H, I.tok _, ⟨_, rfl⟩, h⟩
theorem pe_bl {b j pos} : PE X (.Constant (.bool b) j pos) (tC (.bl b)) := fun _ _ _ H _ I h => Constant_bool ⟨.bl b, H, I, rfl, h⟩
theorem pe_non {j pos} : PE X (.Constant .none j pos) (tC .non) := fun _ _ _ H _ I h => Constant_none ⟨.non, H, I, rfl, h⟩
theorem pe_str {x j pos} : PE X (.Constant (.str x) j pos) (tC (.str x)) := fun _ _ _ H _ I h => Calls.Constant_str ⟨.str x, H, I.tok _, ⟨_, rfl⟩, h⟩
def Gl (X : Cx) (x : Str) : Prop := X.env.kindOf x = some .globalImplicit
theorem ld_glob {E : Value → Shared → Prop} {pins : List (Addr × Obj)} {s : Shared} {σ : St} {H : Hp} {x : Str} {u : Value} {pos : Pos} {Q : Value → Shared → Prop} (I : Inv X pins σ H s) (hg : Gl X x) (hm : X.mg x = some u) (h : Q u s)
    (hd : (x == ("__debug__" : Str)) = false := by decide) : wpAny (model X.prog X.w) X.A (eval (.Name x pos) X.env) Q E s :=
  Calls.Name_function_global I.ok.kind hg (Calls.loadGlobal_global (by rw [I.ok.glob]; exact I.mod.glob.keeps I.bk) hm h) hd
theorem ld_blt {E : Value → Shared → Prop} {pins : List (Addr × Obj)} {s : Shared} {σ : St} {H : Hp} {x : Str} {u : Value} {pos : Pos} {Q : Value → Shared → Prop} (I : Inv X pins σ H s) (hg : Gl X x) (hm : X.mg x = none) (hv : bootBuiltins x = some u) (h : Q u s)
    (hn : x ≠ "__name__" := by decide) (hd : (x == ("__debug__" : Str)) = false := by decide) : wpAny (model X.prog X.w) X.A (eval (.Name x pos) X.env) Q E s := by
  obtain ⟨mb, h1, h2⟩ := I.mod.blt
  exact Calls.Name_function_global I.ok.kind hg (Calls.loadGlobal_builtin (by rw [I.ok.glob]; exact I.mod.glob.keeps I.bk) hm (by rw [I.ok.blt]; exact h1.keeps I.bk) ((h2 x hn).trans hv) h) hd
theorem pe_glob {x : Str} {v : V} {u : Value} {pos : Pos} (hg : Gl X x) (hm : X.mg x = some u) (r : RelV v u) (hd : (x == ("__debug__" : Str)) = false := by decide) : PE X (.Name x pos) (tC v) :=
  fun _ _ _ H _ I h => ld_glob I hg hm ⟨v, H, I, r, h⟩ hd
theorem pe_bltn {x : Str} {v : V} {u : Value} {pos : Pos} (hg : Gl X x) (hm : X.mg x = none) (hv : bootBuiltins x = some u) (r : RelV v u) (hn : x ≠ "__name__" := by decide) (hd : (x == ("__debug__" : Str)) = false := by decide) : PE X (.Name x pos) (tC v) :=
  fun _ _ _ H _ I h => ld_blt I hg hm hv ⟨v, H, I, r, h⟩ hn hd
def t2I (ta tb : TE) (k : Int → Int → Hp → Prop) : St → Hp → Prop := fun σ H => ta σ H fun x H1 => tb σ H1 fun y H2 => ∃ i j, x = .int i ∧ y = .int j ∧ k i j H2
variable {a b : Expr} {ta tb : TE} {pos : Pos}
def PC (X : Cx) (op : CmpOp) (a b : Expr) (t : TE) : Prop :=
  ∀ (pins : List (Addr × Obj)) (s : Shared) (σ : St) (H : Hp) (Q : VK), Inv X pins σ H s → t σ H Q →
    wpAny (model X.prog X.w) X.A (eval a X.env) (fun v s₁ => wpAny (model X.prog X.w) X.A (eval b X.env) (fun u s₂ => wpAny (model X.prog X.w) X.A (compareOp op v u) (EP X pins σ Q) X.xe s₂) X.xe s₁) X.xe s
theorem nobehind (b : Expr) {op : CmpOp} (h : op ≠ .In) (h2 : op ≠ .NotIn) : behindInMarks op b = false := by
  have e1 : (op == CmpOp.In) = false := by cases op <;> first | rfl | exact absurd rfl h
  have e2 : (op == CmpOp.NotIn) = false := by cases op <;> first | rfl | exact absurd rfl h2
  cases b <;> simp [behindInMarks, e1, e2]
def tCmp (p : Int → Int → Bool) (ta tb : TE) : TE := fun σ H Q => t2I ta tb (fun i j H2 => Q (.bl (p i j)) H2) σ H
abbrev tNeI : TE → TE → TE := tCmp fun i j => !decide (i = j)
theorem pc_int {op : CmpOp} {p : Int → Int → Bool} (ha : PE X a ta) (hb : PE X b tb)
    (rule : ∀ (i j : Int) (t u : Tok) (Q : Value → Shared → Prop) (s : Shared), Q (.bool (p i j)) s → wpAny (model X.prog X.w) X.A (compareOp op (.int i t) (.int j u)) Q X.xe s) : PC X op a b (tCmp p ta tb) := by
  intro pins s σ H Q I h
  refine bin ha hb I h fun v u s2 x y H2 I2 rx ry q => ?_
  obtain ⟨i, j, rfl, rfl, q⟩ := q
  obtain ⟨t, rfl⟩ := rx
  obtain ⟨t', rfl⟩ := ry
  exact rule i j t t' _ s2 ⟨.bl _, H2, I2, rfl, q⟩
theorem pc_neI (ha : PE X a ta) (hb : PE X b tb) : PC X .NotEq a b (tNeI ta tb) := pc_int ha hb fun _ _ _ _ _ _ h => ne_int (by rw [bne, Bool.beq_eq_decide_eq]; exact h)
def tIsN (ta : TE) : TE := fun σ H Q => ta σ H fun x H1 => Q (.bl (decide (x = .non))) H1
theorem RelV.none_iff {x : V} {v : Value} (r : RelV x v) : (v == Value.none) = decide (x = .non) := by
  cases x with
  | non => cases r; rfl
  | bl _ => cases r; rfl
  | int _ => obtain ⟨t, rfl⟩ := r; rfl
  | str _ => obtain ⟨t, rfl⟩ := r; rfl
  | byt _ => obtain ⟨t, rfl⟩ := r; rfl
  | flt _ => obtain ⟨t, rfl⟩ := r; rfl
  | ref _ => cases r; rfl
  | ty _ => cases r; rfl
theorem pc_isN {j pos'} (ha : PE X a ta) : PC X .Is a (.Constant .none j pos') (tIsN ta) := by
  intro pins s σ H Q I h
  refine thn (ha pins s σ H _ I h) fun v s1 ⟨x, H1, I1, r1, q1⟩ => ?_
  exact Constant_none (is_none_gen ⟨.bl _, H1, I1, by rw [r1.none_iff]; rfl, q1⟩)
def tB (t : TE) : TT := fun σ H Q => t σ H fun x H1 => ∃ c, x = .bl c ∧ Q c H1
theorem pt_cmp {op : CmpOp} {t : TE} (h : PC X op a b t) (h1 : behindInMarks op b = false := by first | exact nobehind _ (by decide) (by decide) | rfl) : PT X (.Compare a [op] [b] pos) (tB t) := by
  intro pins s σ H Q I hw
  refine wpAny_isTrue_Compare1 (thn (h pins s σ H _ I hw) fun v s1 h1 => thn h1 fun u s2 h2 => thn h2 fun c s3 ⟨x, H1, I1, r1, q1⟩ => ?_) h1
  obtain ⟨d, rfl, q⟩ := q1
  cases r1
  exact wpAny_truthy_bool ⟨H1, I1, q⟩
theorem pt_val {e : Expr} {t : TE} (h : PE X e t) (he : ∀ whole, isTrue e X.env whole = (do let v ← whole; standAt e.pos; holding [v] (truthy v)) := by intro _; rfl) : PT X e (tB t) := by
  intro pins s σ H Q I hw
  refine isTrue_plain (thn (h pins s σ H _ I hw) fun v s1 ⟨x, H1, I1, r1, q1⟩ => ?_) (he _)
  obtain ⟨d, rfl, q⟩ := q1
  cases r1
  exact wpAny_truthy_bool ⟨H1, I1, q⟩
variable {tA tB' : TT} {rest : List Expr}
def tOr (t u : TT) : TT := fun σ H Q => t σ H fun c H1 => if c = true then Q true H1 else u σ H1 Q
def tNot (t : TT) : TT := fun σ H Q => t σ H fun c H1 => Q (!c) H1
theorem pw_or1 (ha : PT X a tA) : PW X (.BoolOp .Or [a] pos) tA := by
  intro wh pins s σ H Q I h
  refine isTrue_or (thn (ha pins s σ H Q I h) fun c s1 e => ?_)
  cases c with
  | false => exact isTrue_or_nil e
  | true => exact e
theorem pw_or (ha : PT X a tA) (hb : PW X (.BoolOp .Or (b :: rest) pos) tB') : PW X (.BoolOp .Or (a :: b :: rest) pos) (tOr tA tB') := by
  intro wh pins s σ H Q I h
  refine isTrue_or (thn (ha pins s σ H _ I h) fun c s1 ⟨H1, I1, q1⟩ => ?_)
  cases c with
  | true => exact ⟨H1, I1, q1⟩
  | false => exact hb wh pins s1 σ H1 Q I1 q1
theorem pt_not (ha : PT X a tA) : PT X (.UnaryOp .Not a pos) (tNot tA) := by
  intro pins s σ H Q I h
  exact isTrue_not (ha pins s σ H (fun c H1 => Q (!c) H1) I h)
def tIf (t : TT) (ta tb : TE) : TE := fun σ H Q => t σ H fun c H1 => if c = true then ta σ H1 Q else tb σ H1 Q
theorem pe_ifExp {c : Expr} (hc : PT X c tA) (ha : PE X a ta) (hb : PE X b tb) : PE X (.IfExp c a b pos) (tIf tA ta tb) := by
  intro pins s σ H Q I h
  refine wpAny_IfExp (thn (hc pins s σ H _ I h) fun d s1 ⟨H1, I1, q1⟩ => ?_)
  cases d with
  | true => exact ha pins s1 σ H1 Q I1 q1
  | false => exact hb pins s1 σ H1 Q I1 q1
end
end L2
namespace L2
open PySem PySem.Spec PyProof.Rows
def SqL (K : PySem.W.Frag) (H : Hp) (a : Addr) (xs : List V) : Prop :=
  Rd H a (.lst xs) ∨
    ∃ (o : Obj) (its : Array Value) (n : Nat), K.lookup a = some o ∧ o.cls = .type "list" ∧ o.dict = none ∧ o.data = .seq its n ∧ its.size ≤ sizeLine ∧ Vals xs its.toList
def SqT (K : PySem.W.Frag) (H : Hp) (a : Addr) (xs : List V) : Prop :=
  Rd H a (.tup xs) ∨
    ∃ (o : Obj) (its : Array Value) (n : Nat), K.lookup a = some o ∧ o.cls = .type "tuple" ∧ o.data = .seq its n ∧ its.size ≤ sizeLine ∧ Vals xs its.toList
def absV : Value → Option V
  | .none => some .non
  | .bool b => some (.bl b)
  | .int i _ => some (.int i)
  | .str x _ => some (.str x)
  | .bytes b _ => some (.byt b)
  | .float b _ => some (.flt b)
  | .ref a => some (.ref a)
  | .type n => some (.ty n)
  | _ => none
theorem RelV.abs {x : V} {u : Value} (r : RelV x u) : absV u = some x := by
  cases x with
  | non => cases r; rfl
  | bl _ => cases r; rfl
  | int _ => obtain ⟨t, rfl⟩ := r; rfl
  | str _ => obtain ⟨t, rfl⟩ := r; rfl
  | byt _ => obtain ⟨t, rfl⟩ := r; rfl
  | flt _ => obtain ⟨t, rfl⟩ := r; rfl
  | ref _ => cases r; rfl
  | ty _ => cases r; rfl
theorem RelV.inj {x y : V} {u : Value} (r : RelV x u) (q : RelV y u) : x = y := Option.some.inj (r.abs.symm.trans q.abs)
theorem Vals.inj : ∀ {xs ys : List V} {us : List Value}, Vals xs us → Vals ys us → xs = ys
  | _, _, _, .nil, .nil => rfl
  | _, _, _, .cons r t, .cons r' t' => by rw [r.inj r', Vals.inj t t']
section
variable {X : Cx} {pins : List (Addr × Obj)} {σ : St} {H : Hp} {s : Shared} {a : Addr} {xs ys : List V}
theorem SqL.of {K : PySem.W.Frag} (h : H a = some (.lst xs)) : SqL K H a xs := .inl (.inl h)
theorem SqT.of {K : PySem.W.Frag} (h : H a = some (.tup xs)) : SqT K H a xs := .inl (.inl h)
theorem Inv.list (I : Inv X pins σ H s) (h : SqL X.K H a xs) : ∃ its : List Value, Vals xs its ∧ PlainL s.heap a its.toArray ∧ xs.length ≤ sizeLine := by
  rcases h with h | ⟨o, its, n, hk, hc, hd, hs, hz, r⟩
  · obtain ⟨z, its, n, r, e⟩ := h.ok I.hok
    exact ⟨its, r, ⟨_, n, e, rfl, rfl, rfl⟩, z⟩
  · refine ⟨its.toList, r, ⟨o, n, I.kIn a o hk, hc, hd, by simpa using hs⟩, ?_⟩
    have e := r.length
    simp only [Array.length_toList] at e
    omega
theorem Inv.tuple (I : Inv X pins σ H s) (h : SqT X.K H a xs) : ∃ its : List Value, Vals xs its ∧ IsTup s.heap a its.toArray ∧ xs.length ≤ sizeLine := by
  rcases h with h | ⟨o, its, n, hk, hc, hs, hz, r⟩
  · obtain ⟨z, its, r, p⟩ := h.ok I.hok
    exact ⟨its, r, p, z⟩
  · refine ⟨its.toList, r, ⟨o, I.kIn a o hk, hc, n, by simpa using hs⟩, ?_⟩
    have e := r.length
    simp only [Array.length_toList] at e
    omega
theorem Inv.list_inj (I : Inv X pins σ H s) (h : SqL X.K H a xs) (h' : SqL X.K H a ys) : xs = ys := by
  obtain ⟨its, r, ⟨o, n, e, _, _, d⟩, _⟩ := I.list h
  obtain ⟨its', r', ⟨o', n', e', _, _, d'⟩, _⟩ := I.list h'
  rw [e] at e'; cases e'
  rw [d] at d'
  injection d' with d1 _
  have : its = its' := by simpa using congrArg Array.toList d1
  subst this
  exact r.inj r'
theorem Inv.tuple_inj (I : Inv X pins σ H s) (h : SqT X.K H a xs) (h' : SqT X.K H a ys) : xs = ys := by
  obtain ⟨its, r, ⟨o, e, _, n, d⟩, _⟩ := I.tuple h
  obtain ⟨its', r', ⟨o', e', _, n', d'⟩, _⟩ := I.tuple h'
  rw [e] at e'; cases e'
  rw [d] at d'
  injection d' with d1 _
  have : its = its' := by simpa using congrArg Array.toList d1
  subst this
  exact r.inj r'
end
abbrev Cx.wish (X : Cx) (E : Value → Shared → Prop) : Cx := { X with xe := E }
abbrev Cx.nox (X : Cx) : Cx := X.wish fun _ _ => False
theorem Cx.Ok.wish {X : Cx} (ok : X.Ok) (E : Value → Shared → Prop) : (X.wish E).Ok :=
  ⟨ok.mod, ok.kind, ok.glob, ok.blt, ok.above, ok.inj, ok.has, ok.cab, ok.hd, ok.frames, ok.stk, ok.exf, ok.bs, ok.bsz, ok.noex, ok.exfs, ok.funs, ok.frf⟩
theorem Cx.Ok.unwish {X : Cx} {E : Value → Shared → Prop} (ok : (X.wish E).Ok) : X.Ok :=
  ⟨ok.mod, ok.kind, ok.glob, ok.blt, ok.above, ok.inj, ok.has, ok.cab, ok.hd, ok.frames, ok.stk, ok.exf, ok.bs, ok.bsz, ok.noex, ok.exfs, ok.funs, ok.frf⟩
section
variable {X : Cx} {pins : List (Addr × Obj)} {σ : St} {H : Hp} {s : Shared} {E : Value → Shared → Prop}
theorem Inv.wish (I : Inv X pins σ H s) (E : Value → Shared → Prop) : Inv (X.wish E) pins σ H s := ⟨I.ok.wish E, I.os, I.bare, I.base, I.loc, I.cell, I.free, I.freeC, I.pin, I.hok, I.len⟩
theorem Inv.unwish (I : Inv (X.wish E) pins σ H s) : Inv X pins σ H s := ⟨I.ok.unwish, I.os, I.bare, I.base, I.loc, I.cell, I.free, I.freeC, I.pin, I.hok, I.len⟩
theorem SP.unwish {D : Ends} {f : Flow} {s' : Shared} (h : SP (X.wish E) pins D f s') : SP X pins D f s' := by
  cases f with
  | next => obtain ⟨σ', H', I, q⟩ := h; exact ⟨σ', H', I.unwish, q⟩
  | brk => obtain ⟨σ', H', I, q⟩ := h; exact ⟨σ', H', I.unwish, q⟩
  | cont => obtain ⟨σ', H', I, q⟩ := h; exact ⟨σ', H', I.unwish, q⟩
  | ret u => obtain ⟨v, σ', H', I, r, q⟩ := h; exact ⟨v, σ', H', I.unwish, r, q⟩
theorem PE.nox {e : Expr} {t : TE} (h : PE X.nox e t) : PE X e t := fun pins s σ H Q I hw =>
  wpAny_mono (h pins s σ H Q (I.wish _) hw) (fun _ _ ⟨v, H', I', r, q⟩ => ⟨v, H', I'.unwish, r, q⟩) fun _ _ z => False.elim z
theorem PT.nox {e : Expr} {t : TT} (h : PT X.nox e t) : PT X e t := fun pins s σ H Q I hw =>
  wpAny_mono (h pins s σ H Q (I.wish _) hw) (fun _ _ ⟨H', I', q⟩ => ⟨H', I'.unwish, q⟩) fun _ _ z => False.elim z
theorem PSs.nox {st : List Stmt} {t : TS} (h : PSs X.nox st t) : PSs X st t := fun pins s σ H D I hw =>
  wpAny_mono (h pins s σ H D (I.wish _) hw) (fun _ _ q => q.unwish) fun _ _ z => False.elim z
end
section
variable {X : Cx} {st : Stmt} {rest : List Stmt} {t u : TS} {e : Expr} {te : TE} {pos : Pos}
def tNext : TS := fun D σ H => D.nx σ H
def tSeq (t u : TS) : TS := fun D σ H => t { D with nx := u D } σ H
theorem pss_nil : PSs X [] tNext := fun _ _ σ H _ I h => wpAny_execs_nil ⟨σ, H, I, h⟩
theorem pss_cons (h1 : PS X st t) (h2 : PSs X rest u) : PSs X (st :: rest) (tSeq t u) := by
  intro pins s σ H D I h
  refine wpAny_execs_cons (thn (h1 pins s σ H { D with nx := u D } I h) fun f s1 q => ?_)
  cases f with
  | next =>
    obtain ⟨σ', H', I', q⟩ := q
    exact h2 pins s1 σ' H' D I' q
  | ret v => exact q
  | brk => exact q
  | cont => exact q
theorem pss_one (h1 : PS X st t) : PSs X [st] t := by
  intro pins s σ H D I h
  refine wpAny_execs_cons (thn (h1 pins s σ H D I h) fun f s1 q => ?_)
  cases f with
  | next => exact wpAny_execs_nil q
  | ret v => exact q
  | brk => exact q
  | cont => exact q
def tRet (te : TE) : TS := fun D σ H => te σ H D.rt
theorem ps_ret (he : PE X e te) : PS X (.Return (some e) pos) (tRet te) := by
  intro pins s σ H D I h
  exact wpAny_Return_some (thn (he pins s σ H _ I h) fun v s1 ⟨x, H1, I1, r1, q1⟩ => ⟨x, σ, H1, I1, r1, q1⟩)
def tIfS (c : TT) (t u : TS) : TS := fun D σ H => c σ H fun b H1 => if b = true then t D σ H1 else u D σ H1
theorem ps_if {c : Expr} {a b : List Stmt} {tc : TT} (hc : PT X c tc) (ha : PSs X a t) (hb : PSs X b u) : PS X (.If c a b pos) (tIfS tc t u) := by
  intro pins s σ H D I h
  refine wpAny_If (thn (hc pins s σ H _ I h) fun d s1 ⟨H1, I1, q1⟩ => ?_)
  cases d with
  | true => exact ha pins s1 σ H1 D I1 q1
  | false => exact hb pins s1 σ H1 D I1 q1
def tNever : TS := fun _ _ _ => False
theorem pss_never {sts : List Stmt} : PSs X sts tNever := fun _ _ _ _ _ _ h => h.elim
end
abbrev TG := V → St → Hp → (St → Hp → Prop) → Prop
abbrev TGs := List V → St → Hp → (St → Hp → Prop) → Prop
def PG (X : Cx) (target : Expr) (t : TG) : Prop :=
  ∀ (pins : List (Addr × Obj)) (s : Shared) (σ : St) (H : Hp) (v : V) (u : Value) (Q : St → Hp → Prop), Inv X pins σ H s → RelV v u → t v σ H Q →
    wpAny (model X.prog X.w) X.A (assign target X.env u) (fun _ s' => ∃ σ' H', Inv X pins σ' H' s' ∧ Q σ' H') X.xe s
def PGs (X : Cx) (ts : List Expr) (t : TGs) : Prop :=
  ∀ (pins : List (Addr × Obj)) (s : Shared) (σ : St) (H : Hp) (vs : List V) (us : List Value) (Q : St → Hp → Prop), Inv X pins σ H s → Vals vs us → t vs σ H Q →
    wpAny (model X.prog X.w) X.A (assignInOrder ((assignEach ts X.env).map (·.2)) us) (fun _ s' => ∃ σ' H', Inv X pins σ' H' s' ∧ Q σ' H') X.xe s
section
variable {X : Cx} {pos : Pos}
def gName (i : Nat) : TG := fun v σ H Q => Q (σ.set i (some v)) H
theorem pg_name {i : Nat} {x : Str} (hN : X.N.Nodup) (hi : X.N[i]? = some x) (hx : Loc X.env.scope x) (hf : X.fn x = true ∨ X.env.scope.names.lookup x = some .local := by first | exact .inl rfl | exact .inr rfl | assumption) : PG X (.Name x pos) (gName i) := by
  intro pins s σ H v u Q I r h
  exact wpAny_assign_Name (store_ok I hN hi hx r (fun s' I' => ⟨_, H, I', h⟩) hf)
def gNil : TGs := fun vs σ H Q => vs = [] ∧ Q σ H
def gCons (t : TG) (u : TGs) : TGs := fun vs σ H Q => ∃ v r, vs = v :: r ∧ t v σ H fun σ' H' => u r σ' H' Q
theorem pgs_nil : PGs X [] gNil := by
  intro pins s σ H vs us Q I r h
  obtain ⟨e, h⟩ := h
  subst e
  cases r
  exact assignInOrder_nil ⟨σ, H, I, h⟩
theorem pgs_cons {e : Expr} {es : List Expr} {t : TG} {u : TGs} (h1 : PG X e t) (h2 : PGs X es u)
    (hs : (assignEach (e :: es) X.env).map (·.2) = assign e X.env :: (assignEach es X.env).map (·.2) := by rfl) : PGs X (e :: es) (gCons t u) := by
  intro pins s σ H vs us Q I r h
  obtain ⟨v, vr, e1, h⟩ := h
  subst e1
  cases r with
  | cons r rr =>
    rw [hs]
    refine assignInOrder_cons (thn (h1 pins s σ H _ _ _ I r h) fun _ s1 ⟨σ1, H1, I1, q1⟩ => ?_)
    exact h2 pins s1 σ1 H1 _ _ Q I1 rr q1
def gTup (K : PySem.W.Frag) (n : Nat) (t : TGs) : TG := fun v σ H Q => ∃ a xs, v = .ref a ∧ SqT K H a xs ∧ xs.length = n ∧ t xs σ H Q
theorem pg_tup {es : List Expr} {k : Nat} {t : TGs} {n : Nat} (hc : X.calm = true) (h : PGs X es t)
    (hn : (assignEach es X.env).length = n := by rfl) (hst : (assignEach es X.env).findIdx? (·.1) = none := by rfl) : PG X (.Tuple es k pos) (gTup X.K n t) := by
  intro pins s σ H v u Q I r hw
  obtain ⟨a, xs, e1, hq, hl, hw⟩ := hw
  subst e1
  cases r
  obtain ⟨its, rv, ht, hz⟩ := I.tuple hq
  refine assign_Tuple_tuple (I.ok.hd hc) ht (by simp [hn, ← hl, rv.length]) hst fun h' hx => ?_
  have I1 : Inv X pins σ H { s with heap := h' } := I.kept (t' := s.toks) fun b o e => hx b o (Nat.ne_of_lt (Heap.lt_size e)) e
  exact h pins _ σ H xs _ Q I1 (by simpa using rv) hw
def tAsg (te : TE) (g : TG) : TS := fun D σ H => te σ H fun x H1 => g x σ H1 D.nx
theorem ps_asg {tg e : Expr} {te : TE} {g : TG} (he : PE X e te) (hg : PG X tg g) (hs : swapsWithSole [tg] e pos.line X.env = pure false := by rfl) (hw : swappedStores [tg] e X.env = pure none := by rfl)
    (h1 : (assignEach [tg] X.env).map (·.2) = [assign tg X.env] := by rfl) : PS X (.Assign [tg] e pos) (tAsg te g) := by
  intro pins s σ H D I h
  refine wpAny_Assign_stores (thn (he pins s σ H _ I h) fun v s1 ⟨x, H1, I1, r1, q1⟩ => ?_) hs hw
  rw [h1]
  exact thn (hg pins s1 σ H1 x v _ I1 r1 q1) fun _ s2 q => q
theorem ps_set {i : Nat} {x : Str} {e : Expr} {te : TE} {pos' : Pos} (hN : X.N.Nodup) (hi : X.N[i]? = some x) (hx : Loc X.env.scope x) (he : PE X e te) (hs : swapsWith e (some (.Name x pos')) pos.line X.env = pure false := by rfl) (hf : X.fn x = true ∨ X.env.scope.names.lookup x = some .local := by first | exact .inl rfl | exact .inr rfl | assumption) :
    PS X (.Assign [.Name x pos'] e pos) (tAsg te (gName i)) := by
  intro pins s σ H D I h
  refine wpAny_Assign_Name (thn (he pins s σ H _ I h) fun v s1 ⟨y, H1, I1, r1, q1⟩ => ?_) hs
  exact store_ok I1 hN hi hx r1 (fun s2 I2 => ⟨_, H1, I2, q1⟩) hf
def tPar (i j : Nat) (ta : TA) : TS := fun D σ H => ta σ H fun vs H1 => ∃ v w, vs = [v, w] ∧ D.nx ((σ.set i (some v)).set j (some w)) H1
theorem ps_par {i j : Nat} {x y : Str} {a b : Expr} {ta : TA} {px py pt : Pos} {kt k2 pt2} (hc : X.calm = true) (hN : X.N.Nodup) (hi : X.N[i]? = some x) (hj : X.N[j]? = some y) (hij : i ≠ j)
    (hx : X.env.scope.names.lookup x = some .local) (hy : X.env.scope.names.lookup y = some .local) (ha : PA X [a, b] ta)
    (hw : swappedStores [.Tuple [.Name x px, .Name y py] kt pt] (.Tuple [a, b] k2 pt2) X.env = pure (some [x, y]))
    (hs : swapsWithSole [.Tuple [.Name x px, .Name y py] kt pt] (.Tuple [a, b] k2 pt2) pos.line X.env = pure false := by rfl) :
    PS X (.Assign [.Tuple [.Name x px, .Name y py] kt pt] (.Tuple [a, b] k2 pt2) pos) (tPar i j ta) := by
  intro pins s σ H D I h
  rw [exec_Assign_arm]
  refine wpAny_bind (wpAny_standAt ?_)
  rw [hs]
  refine wpAny_bind (wpAny_pure ?_)
  rw [if_neg (by decide)]
  refine wpAny_bind (Tuple_ (thn (ha _ pins s σ H _ I h) fun us s1 ⟨vs, H1, I1, r1, q1⟩ => ?_))
  obtain ⟨v, w, e1, q1⟩ := q1
  subst e1
  obtain ⟨u1, u2, rfl, rv, rw'⟩ : ∃ u1 u2, us = [u1, u2] ∧ RelV v u1 ∧ RelV w u2 := by
    cases r1 with
    | cons p q =>
      cases q with
      | cons p' q' =>
        cases q'
        exact ⟨_, _, rfl, p, p'⟩
  refine wpAny_newObj_type ?_ (by show 2 ≤ sizeLine; decide)
  have I2 : Inv X pins σ H1 { s1 with heap := s1.heap.push { cls := .type "tuple", data := .seq [u1, u2].toArray } } := I1.kept (t' := s1.toks) fun b o e => Heap.get?_push_of_some _ e
  rw [hw]
  refine wpAny_bind (wpAny_pure ?_)
  show wpAny (model X.prog X.w) X.A (do rule "assign.swapped-stores"; let items ← unpackItems (.ref s1.heap.objs.size) 2 none; assignInOrder [fun v => bindName X.env y v, fun v => bindName X.env x v] items.reverse; pure Flow.next) _ _ _
  refine wpAny_bind (wpAny_rule (wpAny_bind (unpackItems_tuple (items := #[u1, u2]) (I.ok.hd hc) (IsTup.new s1.heap _) fun h' hx' => ?_)))
  have I3 := I2.kept (h' := h') (t' := s1.toks) fun b o e => hx' b o (Nat.ne_of_lt (Heap.lt_size e)) e
  show wpAny _ _ (assignInOrder [fun v => bindName X.env y v, fun v => bindName X.env x v] [u2, u1] >>= fun _ => pure Flow.next) _ _ _
  refine wpAny_bind (assignInOrder_cons (wpAny_bindName (store_ok I3 hN hj (.inl hy) rw' (fun s2 I4 => ?_) (.inr hy))))
  refine assignInOrder_cons (wpAny_bindName (store_ok I4 hN hi (.inl hx) rv (fun s3 I5 => assignInOrder_nil (wpAny_pure ?_)) (.inr hx)))
  rw [List.set_comm _ _ (Ne.symm hij)] at I5
  exact ⟨_, H1, I5, q1⟩
end
section
variable {X : Cx} {pos : Pos}
end
structure It where
  go : Nat → Hp → Prop
  yld : Nat → Hp → V → Hp → Prop
  stop : Nat → Hp → Prop
def FpOk (X : Cx) (pins : List (Addr × Obj)) (H : Hp) (b : Addr) : Prop :=
  H b = none ∧ b ≠ X.env.locals ∧ b ∉ X.fs ∧ (b ∈ X.ex ∨ X.s_0.heap.objs.size ≤ b) ∧ (∀ x c, X.env.cells.lookup x = some c → c ≠ b) ∧ ∀ p ∈ X.pn ++ pins, p.1 ≠ b
theorem Inv.fpOk {X : Cx} {pins : List (Addr × Obj)} {σ : St} {H H' : Hp} {s : Shared} {b : Addr} (I : Inv X pins σ H s) (hb : s.heap.objs.size ≤ b) (hn : H' b = none) : FpOk X pins H' b := by
  refine ⟨hn, Nat.ne_of_gt (Nat.lt_of_lt_of_le I.lt hb), I.nofs hb, .inr (Nat.le_trans I.sz hb), fun x c e z => ?_, fun p hp z => ?_⟩
  · obtain ⟨v, q⟩ := I.cell x c e
    exact absurd (Nat.lt_of_lt_of_le q.lt (by rw [z]; exact hb)) (Nat.lt_irrefl _)
  · exact absurd (Nat.lt_of_lt_of_le (Heap.lt_size (I.pin p hp).1) (by rw [z]; exact hb)) (Nat.lt_irrefl _)
structure Turn (P : Program) (w : World) (K : PySem.W.Frag) (tg : Expr) (J : It) (fp : List Addr) (it : Addr) (tn : Nat → Heap → Prop) : Prop where
  mem : it ∈ fp
  obj : ∀ i h, tn i h → ∀ b ∈ fp, ∃ o, h.get? b = some o ∧ ∀ v, o.data ≠ .cell v
  keep : ∀ i h h', tn i h → (∀ b ∈ fp, ∀ o, h.get? b = some o → h'.get? b = some o) → tn i h'
  item : ∀ (X : Cx), X.prog = P → X.w = w → X.K = K → X.calm = true → ∀ (i : Nat) (pins : List (Addr × Obj)) (s : Shared) (σ : St) (H : Hp) (E : Value → Shared → Prop), Inv X pins σ H s → (∀ b ∈ fp, FpOk X pins H b) → tn i s.heap → J.go i H →
    wpAny (model P w) X.A (pyNext (.ref it)) (fun r s1 => ∃ u, r = some u ∧
      wpAny (model P w) X.A (letOwnedTupleGo tg (.ref it) u) (fun _ s2 => ∃ x H', Inv X pins σ H' s2 ∧ RelV x u ∧ J.yld i H x H' ∧ tn (i + 1) s2.heap ∧ ∀ b ∈ fp, H' b = none) E s1) E s
  done : ∀ (X : Cx), X.prog = P → X.w = w → X.K = K → X.calm = true → ∀ (i : Nat) (pins : List (Addr × Obj)) (s : Shared) (σ : St) (H : Hp) (E : Value → Shared → Prop), Inv X pins σ H s → (∀ b ∈ fp, FpOk X pins H b) → tn i s.heap → J.stop i H →
    wpAny (model P w) X.A (pyNext (.ref it)) (fun r s1 => r = none ∧ Inv X pins σ H s1) E s
  self : ∀ (A : Around) (i : Nat) (s : Shared) (Q : Value → Shared → Prop) (E : Value → Shared → Prop), tn i s.heap → Q (.ref it) s → wpAny (model P w) A (pyIter (.ref it)) Q E s
abbrev TI := St → Hp → (It → Hp → Prop) → Prop
def PIE (X : Cx) (pins : List (Addr × Obj)) (σ : St) (tg : Expr) (R : It → Hp → Prop) (itv : Value) (s2 : Shared) : Prop :=
  ∃ (it : Addr) (fp : List Addr) (tn : Nat → Heap → Prop) (J : It) (H' : Hp), itv = .ref it ∧ Inv X pins σ H' s2 ∧ Turn X.prog X.w X.K tg J fp it tn ∧ tn 0 s2.heap ∧ (∀ b ∈ fp, FpOk X pins H' b) ∧ R J H'
def PI (X : Cx) (tg iter : Expr) (wi : TI) : Prop :=
  ∀ (pins : List (Addr × Obj)) (s : Shared) (σ : St) (H : Hp) (R : It → Hp → Prop), Inv X pins σ H s → wi σ H R →
    wpAny (model X.prog X.w) X.A (eval iter X.env) (fun v s1 => wpAny (model X.prog X.w) X.A (pyIter v) (PIE X pins σ tg R) X.xe s1) X.xe s
theorem go_of {M : Model} {A : Around} {E : Value → Shared → Prop} {s : Shared} {tg : Expr} {it : Addr} {u : Value} {o : Obj} {n : String} {vs : Array Value} {Q : Unit → Shared → Prop} (ho : s.heap.get? it = some o) (hc : o.cls = .type n) (hd : o.data = .fields vs)
    (hn : ["enumerate", "zip", "dict_itemiterator", "dict_reverseitemiterator", "odict_iterator", "itertools.zip_longest", "itertools.pairwise"].contains n = false) (hQ : Q () s) : wpAny M A (letOwnedTupleGo tg (.ref it) u) Q E s := by
  unfold letOwnedTupleGo
  cases tg <;> first
    | exact wpAny_pure hQ
    | (cases u <;> first
        | exact wpAny_pure hQ
        | (refine wpAny_bind (wpAny_load ho ?_)
           rw [hc, hd]
           show wpAny M A (if (["enumerate", "zip", "dict_itemiterator", "dict_reverseitemiterator", "odict_iterator", "itertools.zip_longest", "itertools.pairwise"].contains n && vs[0]? == some (rawInt _)) = true then _ else _) Q E s
           rw [if_neg (by intro h; rw [hn, Bool.false_and] at h; cases h)]
           exact wpAny_pure hQ))
def Itl (K : PySem.W.Frag) (a : Addr) : It :=
  ⟨fun i H => ∃ xs x, SqL K H a xs ∧ xs[i]? = some x, fun i H x H' => H' = H ∧ ∀ xs, SqL K H a xs → xs[i]? = some x, fun i H => ∃ xs, SqL K H a xs ∧ xs.length ≤ i⟩
def Itt (K : PySem.W.Frag) (a : Addr) : It :=
  ⟨fun i H => ∃ xs x, SqT K H a xs ∧ xs[i]? = some x, fun i H x H' => H' = H ∧ ∀ xs, SqT K H a xs → xs[i]? = some x, fun i H => ∃ xs, SqT K H a xs ∧ xs.length ≤ i⟩
def Itr (lo : Int) (n : Nat) : It := ⟨fun i _ => i < n, fun i H x H' => H' = H ∧ x = .int (lo + i), fun i _ => n ≤ i⟩
theorem turn_list {P : Program} {w : World} {K : PySem.W.Frag} {tg : Expr} (a it : Addr) : Turn P w K tg (Itl K a) [it] it (fun i h => h.IsListIter it a i) where
  mem := by simp
  obj := fun i h st b hb => by
    have e : b = it := by simpa using hb
    subst e
    obtain ⟨o, e, c, d⟩ := st
    exact ⟨o, e, fun v z => by rw [d] at z; cases z⟩
  keep := fun i h h' st k => st.at fun o e => k it (by simp) o e
  item := by
    intro X hP hw hK hc i pins s σ H E I hf st hg
    subst hP hw hK
    obtain ⟨xs, x, hq, hx⟩ := hg
    obtain ⟨its, rv, p, hz⟩ := I.list hq
    obtain ⟨u, hu, ru⟩ := rv.get hx
    obtain ⟨f0, f1, f2, f3, f4, f5⟩ := hf it (by simp)
    refine wpAny_pyNext_list_item st p.isList (x := u) (by simpa using hu) fun h' st' sb => ?_
    have I1 : Inv X pins σ H { s with heap := h' } := I.turned (t' := s.toks) (fun b o hb e => (sb.2 b hb).trans e) f0 f1 f3 f4 f5
    obtain ⟨o, e, c, d⟩ := id st'
    exact ⟨u, rfl, go_of (s := { s with heap := h' }) e c d (by decide) ⟨x, H, I1, ru, ⟨rfl, fun ys hy => by rw [I.list_inj hy hq]; exact hx⟩, st', fun b hb => (hf b hb).1⟩⟩
  done := by
    intro X hP hw hK hc i pins s σ H E I hf st hg
    subst hP hw hK
    obtain ⟨xs, hq, hx⟩ := hg
    obtain ⟨its, rv, p, hz⟩ := I.list hq
    obtain ⟨f0, f1, f2, f3, f4, f5⟩ := hf it (by simp)
    have hl := rv.length
    exact wpAny_pyNext_list_end (I.ok.hd hc) st p.isList (by simp; omega) fun h' eb => ⟨rfl, I.turned (t' := s.toks) (fun b o hb e => eb b o hb e) f0 f1 f3 f4 f5⟩
  self := fun _ _ _ _ _ st h => wpAny_pyIter_listiter st h
theorem turn_tuple {P : Program} {w : World} {K : PySem.W.Frag} {tg : Expr} (a it : Addr) : Turn P w K tg (Itt K a) [it] it (fun i h => h.IsTupleIter it a i) where
  mem := by simp
  obj := fun i h st b hb => by
    have e : b = it := by simpa using hb
    subst e
    obtain ⟨o, e, c, d⟩ := st
    exact ⟨o, e, fun v z => by rw [d] at z; cases z⟩
  keep := fun i h h' st k => st.at fun o e => k it (by simp) o e
  item := by
    intro X hP hw hK hc i pins s σ H E I hf st hg
    subst hP hw hK
    obtain ⟨xs, x, hq, hx⟩ := hg
    obtain ⟨its, rv, p, hz⟩ := I.tuple hq
    obtain ⟨u, hu, ru⟩ := rv.get hx
    obtain ⟨f0, f1, f2, f3, f4, f5⟩ := hf it (by simp)
    refine wpAny_pyNext_tuple_item st (show s.heap.IsTuple a its.toArray from p) (x := u) (by simpa using hu) fun h' st' sb => ?_
    have I1 : Inv X pins σ H { s with heap := h' } := I.turned (t' := s.toks) (fun b o hb e => (sb.2 b hb).trans e) f0 f1 f3 f4 f5
    obtain ⟨o, e, c, d⟩ := id st'
    exact ⟨u, rfl, go_of (s := { s with heap := h' }) e c d (by decide) ⟨x, H, I1, ru, ⟨rfl, fun ys hy => by rw [I.tuple_inj hy hq]; exact hx⟩, st', fun b hb => (hf b hb).1⟩⟩
  done := by
    intro X hP hw hK hc i pins s σ H E I hf st hg
    subst hP hw hK
    obtain ⟨xs, hq, hx⟩ := hg
    obtain ⟨its, rv, p, hz⟩ := I.tuple hq
    obtain ⟨f0, f1, f2, f3, f4, f5⟩ := hf it (by simp)
    have hl := rv.length
    exact wpAny_pyNext_tuple_end (I.ok.hd hc) st (show s.heap.IsTuple a its.toArray from p) (by simp; omega) fun h' eb => ⟨rfl, I.turned (t' := s.toks) (fun b o hb e => eb b o hb e) f0 f1 f3 f4 f5⟩
  self := fun _ _ _ _ _ st h => wpAny_pyIter_tupleiter st h
theorem turn_range {P : Program} {w : World} {K : PySem.W.Frag} {tg : Expr} (it : Addr) (lo : Int) (n : Nat) : Turn P w K tg (Itr lo n) [it] it (fun i h => IsRangeIter h it (lo + (i : Nat) * 1) ((n : Int) - (i : Nat)) 1) where
  mem := by simp
  obj := fun i h st b hb => by
    have e : b = it := by simpa using hb
    subst e
    exact ⟨_, st, fun v z => by
      have z' : Data.fields _ = Data.cell v := z
      cases z'⟩
  keep := fun i h h' st k => k it (by simp) _ st
  item := by
    intro X hP hw hK hc i pins s σ H E I hf st hg
    subst hP hw hK
    obtain ⟨f0, f1, f2, f3, f4, f5⟩ := hf it (by simp)
    have W := Walks.range (prog := X.prog) (w := X.w) (I.ok.hd hc) it lo 1 n
    refine W.item i s _ _ hg st fun v h' tk hv st' kk => ?_
    obtain ⟨t, rfl⟩ := hv
    have I1 : Inv X pins σ H { s with heap := h', toks := tk } := I.turned (fun b o hb e => kk b o (by simpa using hb) e) f0 f1 f3 f4 f5
    refine ⟨_, rfl, go_of (s := { s with heap := h', toks := tk }) (n := "range_iterator") st' rfl rfl (by decide) ⟨.int (lo + i), H, I1, ⟨t, ?_⟩, ⟨rfl, rfl⟩, st', fun b hb => (hf b hb).1⟩⟩
    rw [Int.mul_one]
  done := by
    intro X hP hw hK hc i pins s σ H E I hf st hg
    subst hP hw hK
    obtain ⟨f0, f1, f2, f3, f4, f5⟩ := hf it (by simp)
    exact wpAny_pyNext_range_end (I.ok.hd hc) st (by have : n ≤ i := hg; omega) fun h' eb => ⟨rfl, I.turned (t' := s.toks) (fun b o hb e => eb b o hb e) f0 f1 f3 f4 f5⟩
  self := fun _ _ _ _ _ st h => wpAny_pyIter_rangeiter st h
end L2
namespace L2
open PySem PySem.Spec PyProof.Rows
section
variable {X : Cx} {tg : Expr}
theorem range_it {pins : List (Addr × Obj)} {σ : St} {H : Hp} {s : Shared} {R : It → Hp → Prop} {E : Value → Shared → Prop} {lo hi : Int} {t u v : Tok} {tk : Nat} (I : Inv X pins σ H s) (h1 : -(2 ^ 62) ≤ lo) (h2 : lo < 2 ^ 62) (h3 : -(2 ^ 62) ≤ hi) (h4 : hi < 2 ^ 62)
    (q : R (Itr lo (hi - lo).toNat) H) : wpAny (model X.prog X.w) X.A (pyIter (.ref s.heap.objs.size)) (PIE X pins σ tg R) E { s with heap := s.heap.push { cls := .type "range", data := .fields #[.int lo t, .int hi u, .int 1 v] }, toks := tk } := by
  refine wpAny_pyIter_range (IsRange.new ..) (small_one h1 h2 h3 h4) ?_
  have I1 : Inv X pins σ H { s with heap := s.heap.push { cls := .type "range", data := .fields #[.int lo t, .int hi u, .int 1 v] }, toks := tk } := I.kept fun b o e => Heap.get?_push_of_some _ e
  refine ⟨(s.heap.push { cls := .type "range", data := .fields #[.int lo t, .int hi u, .int 1 v] }).objs.size, [(s.heap.push { cls := .type "range", data := .fields #[.int lo t, .int hi u, .int 1 v] }).objs.size], _, _, H, rfl,
    I1.kept (t' := tk) fun b o e => Heap.get?_push_of_some _ e, turn_range _ lo (hi - lo).toNat, ?_, fun b hb => ?_, q⟩
  · have e1 : lo + ((0 : Nat) : Int) * 1 = lo := by simp
    have e2 : (((hi - lo).toNat : Nat) : Int) - ((0 : Nat) : Int) = Builtin.Range.rangeSize lo hi 1 := by rw [rangeSize_one]; split <;> omega
    show IsRangeIter _ _ (lo + ((0 : Nat) : Int) * 1) ((((hi - lo).toNat : Nat) : Int) - ((0 : Nat) : Int)) 1
    rw [e1, e2]
    exact Heap.get?_push_size _ rfl
  · have e : b = (s.heap.push { cls := .type "range", data := .fields #[.int lo t, .int hi u, .int 1 v] }).objs.size := by simpa using hb
    subst e
    exact I1.fpOk (Nat.le_refl _) (I1.hok.fresh (Nat.le_refl _))
def iRng1 (ta : TA) : TI := fun σ H R => ta σ H fun vs H1 => ∃ j : Int, vs = [.int j] ∧ -(2 ^ 62) ≤ j ∧ j < 2 ^ 62 ∧ R (Itr 0 j.toNat) H1
theorem pi_range1 {a : Expr} {ta : TA} {p pos : Pos} (hg : Gl X "range") (hm : X.mg "range" = none) (ha : PA X [a] ta) (hs : starEach [a] X.env = [(false, eval a X.env)] := by rfl) : PI X tg (.Call (.Name "range" p) [a] [] pos) (iRng1 ta) := by
  intro pins s σ H R I h
  refine Call_ (ld_blt I hg hm boot_range (PyProof.Rows.callWith_type1 (thn (ha pos pins s σ H _ I h) fun us s1 ⟨vs, H1, I1, r1, q1⟩ => ?_) hs rfl))
  obtain ⟨j, e, q1, q2, q⟩ := q1
  subst e
  cases r1 with
  | cons r rr =>
    cases rr
    obtain ⟨t, rfl⟩ := r
    exact call_range_1 (range_it I1 (by omega) (by omega) q1 q2 (by simpa using q))
def tFor (wi : TI) (g : TG) (tb : TS) : TS := fun D σ H => wi σ H fun J H1 => ∃ W : Nat → Nat → St → Hp → Prop, (∃ m, W 0 m σ H1) ∧ ∀ i m σ H, W i m σ H →
  (J.stop i H ∧ D.nx σ H) ∨ (J.go i H ∧ ∃ N : St → Hp → Prop, (∀ σ' H', N σ' H' → ∃ m', m' < m ∧ W (i + 1) m' σ' H') ∧ ∀ x H', J.yld i H x H' → g x σ H' fun σ2 H2 => tb { D with nx := N, ct := N, bk := D.nx } σ2 H2)
def pinsAt (fp : List Addr) (h : Heap) : List (Addr × Obj) := fp.filterMap fun b => (h.get? b).map fun o => (b, o)
theorem mem_pinsAt {fp : List Addr} {h : Heap} {b : Addr} {o : Obj} (hb : b ∈ fp) (e : h.get? b = some o) : (b, o) ∈ pinsAt fp h := List.mem_filterMap.mpr ⟨b, hb, by rw [e]; rfl⟩
theorem of_pinsAt {fp : List Addr} {h : Heap} {p : Addr × Obj} (hp : p ∈ pinsAt fp h) : p.1 ∈ fp ∧ h.get? p.1 = some p.2 := by
  obtain ⟨b, hb, e⟩ := List.mem_filterMap.mp hp
  cases q : h.get? b with
  | none => rw [q] at e; cases e
  | some o =>
    rw [q] at e
    have e' : (b, o) = p := Option.some.inj e
    subst e'
    exact ⟨hb, q⟩
theorem Inv.pinned {pins : List (Addr × Obj)} {σ : St} {H : Hp} {s : Shared} {fp : List Addr} (I : Inv X pins σ H s) (hf : ∀ b ∈ fp, FpOk X pins H b) (ho : ∀ b ∈ fp, ∃ o, s.heap.get? b = some o ∧ ∀ v, o.data ≠ .cell v) : Inv X (pins ++ pinsAt fp s.heap) σ H s :=
  I.pins_of fun p hp => (List.mem_append.mp hp).elim (fun z => I.pin p (List.mem_append_right _ z)) fun z => by
    obtain ⟨hb, e⟩ := of_pinsAt z
    obtain ⟨f0, f1, f2, _⟩ := hf p.1 hb
    obtain ⟨o, e', d⟩ := ho p.1 hb
    rw [e] at e'; cases e'
    exact ⟨e, f0, f1, f2, d⟩
theorem Inv.unpinned {pins pl : List (Addr × Obj)} {σ : St} {H : Hp} {s : Shared} (I : Inv X (pins ++ pl) σ H s) : Inv X pins σ H s := I.pins_of fun p hp => I.pin p (List.mem_append_right _ (List.mem_append_left _ hp))
theorem ps_for {iter : Expr} {body : List Stmt} {wi : TI} {g : TG} {tb : TS} {pos : Pos} (hp : PassesOwn (model X.prog X.w) X.A X.env X.xe) (hc : X.calm = true) (hi : PI X tg iter wi) (hg : PG X tg g) (hb : PSs X body tb)
    (hs : ∀ x, foldedSetIterable iter X.env x = pure x := by intro _; rfl) : PS X (.For tg iter body [] pos) (tFor wi g tb) := by
  intro pins s σ H D I h
  refine wpAny_For (thn (hi pins s σ H _ I h) fun v s1 h1 => thn h1 fun itv s2 h2 => ?_) hs
  obtain ⟨it, fp, tn, J, H2, e, I2, T, st2, f2, W, ⟨m0, w0⟩, turn⟩ := h2
  subst e
  have stat : ∀ {H' : Hp}, (∀ b ∈ fp, H' b = none) → ∀ b ∈ fp, FpOk X pins H' b := fun hn b hb => ⟨hn b hb, (f2 b hb).2⟩
  refine codeAny_forLoop_any (fun n s' => ∃ i σ' H', Inv X pins σ' H' s' ∧ tn i s'.heap ∧ (∀ b ∈ fp, H' b = none) ∧ W i n σ' H') ?_ m0 ⟨0, σ, H2, I2, st2, fun b hb => (f2 b hb).1, w0⟩
  rintro n s3 ⟨i, σ3, H3, I3, st3, fr3, w3⟩
  rcases turn i n σ3 H3 w3 with ⟨stop, qn⟩ | ⟨go, N, hN, step⟩
  · refine wpAny_passesOwn hp (thn (T.done X rfl rfl rfl hc i pins s3 σ3 H3 X.xe I3 (stat fr3) st3 stop) fun r s4 ⟨hr, I4⟩ => ?_)
    subst hr
    exact wpAny_execs_nil ⟨σ3, H3, I4, qn⟩
  · refine wpAny_passesOwn hp (thn (T.item X rfl rfl rfl hc i pins s3 σ3 H3 X.xe I3 (stat fr3) st3 go) fun r s4 ⟨u, hr, h4⟩ => ?_)
    subst hr
    refine wpAny_passesOwn hp (thn h4 fun _ s5 ⟨x, H5, I5, r5, y5, st5, fr5⟩ => ?_)
    have I5' := I5.pinned (stat fr5) (T.obj _ _ st5)
    refine wpAny_passesOwn hp (thn (hg _ s5 σ3 H5 x u _ I5' r5 (step x H5 y5)) fun _ s6 ⟨σ6, H6, I6, q6⟩ => ?_)
    refine wpAny_passesOwn hp (thn (hb _ s6 σ6 H6 _ I6 q6) fun f s7 q7 => ?_)
    have again : ∀ {σ7 : St} {H7 : Hp}, Inv X (pins ++ pinsAt fp s5.heap) σ7 H7 s7 → N σ7 H7 → ∃ m, m < n ∧ ∃ i σ' H', Inv X pins σ' H' s7 ∧ tn i s7.heap ∧ (∀ b ∈ fp, H' b = none) ∧ W i m σ' H' := fun {σ7 H7} I7 n7 => by
      obtain ⟨m', hm, w7⟩ := hN σ7 H7 n7
      refine ⟨m', hm, i + 1, σ7, H7, I7.unpinned, T.keep _ _ _ st5 fun b hb o e => (I7.pin (b, o) (List.mem_append_right _ (List.mem_append_right _ (mem_pinsAt hb e)))).1, fun b hb => ?_, w7⟩
      obtain ⟨o, e, d⟩ := T.obj _ _ st5 b hb
      exact (I7.pin (b, o) (List.mem_append_right _ (List.mem_append_right _ (mem_pinsAt hb e)))).2.1
    cases f with
    | next => obtain ⟨σ7, H7, I7, n7⟩ := q7; exact again I7 n7
    | cont => obtain ⟨σ7, H7, I7, n7⟩ := q7; exact again I7 n7
    | brk => obtain ⟨σ7, H7, I7, q7⟩ := q7; exact ⟨σ7, H7, I7.unpinned, q7⟩
    | ret v => obtain ⟨x7, σ7, H7, I7, r7, q7⟩ := q7; exact ⟨x7, σ7, H7, I7.unpinned, r7, q7⟩
end
theorem for_list {K : PySem.W.Frag} {a : Addr} {xs : List V} {g : TG} {tb : TS} {D : Ends} {σ : St} {H : Hp} (Pv : Nat → St → Hp → Prop) (h0 : Pv 0 σ H) (hl : ∀ i σ H, i ≤ xs.length → Pv i σ H → SqL K H a xs)
    (hs : ∀ i x σ H, xs[i]? = some x → Pv i σ H → g x σ H fun σ2 H2 => tb { D with nx := Pv (i + 1), ct := Pv (i + 1), bk := D.nx } σ2 H2) (hd : ∀ σ H, Pv xs.length σ H → D.nx σ H) :
    ∃ W : Nat → Nat → St → Hp → Prop, (∃ m, W 0 m σ H) ∧ ∀ i m σ H, W i m σ H →
      ((Itl K a).stop i H ∧ D.nx σ H) ∨ ((Itl K a).go i H ∧ ∃ N : St → Hp → Prop, (∀ σ' H', N σ' H' → ∃ m', m' < m ∧ W (i + 1) m' σ' H') ∧ ∀ x H', (Itl K a).yld i H x H' → g x σ H' fun σ2 H2 => tb { D with nx := N, ct := N, bk := D.nx } σ2 H2) := by
  refine ⟨fun i m σ H => m = xs.length - i ∧ i ≤ xs.length ∧ Pv i σ H, ⟨xs.length, by simp, Nat.zero_le _, h0⟩, ?_⟩
  rintro i m σ H ⟨rfl, hi, p⟩
  have q := hl i σ H hi p
  by_cases hlt : i < xs.length
  · refine .inr ⟨⟨xs, xs[i], q, by simp [hlt]⟩, Pv (i + 1), fun σ' H' p' => ⟨xs.length - (i + 1), by omega, rfl, hlt, p'⟩, fun x H' y => ?_⟩
    obtain ⟨e, y⟩ := y
    subst e
    exact hs i x σ _ (y xs q) p
  · have e : i = xs.length := by omega
    subst e
    exact .inl ⟨⟨xs, q, Nat.le_refl _⟩, hd σ H p⟩
end L2
namespace L2
open PySem PySem.Spec PyProof.Rows
abbrev R2 := V → V → Hp → VK → Prop
def OpR (X : Cx) (f : Value → Value → Sem Value) (r : R2) : Prop :=
  ∀ (pins : List (Addr × Obj)) (s : Shared) (σ : St) (H : Hp) (x y : V) (v u : Value) (Q : VK), Inv X pins σ H s → RelV x v → RelV y u → r x y H Q →
    wpAny (model X.prog X.w) X.A (f v u) (EP X pins σ Q) X.xe s
def CallR (X : Cx) (f : Value) (r : List V → Hp → VK → Prop) : Prop :=
  ∀ (pins : List (Addr × Obj)) (s : Shared) (σ : St) (H : Hp) (xs : List V) (us : List Value) (Q : VK), Inv X pins σ H s → Vals xs us → r xs H Q →
    wpAny (model X.prog X.w) X.A (call f us) (EP X pins σ Q) X.xe s
def TruR (X : Cx) (r : V → Hp → (Bool → Hp → Prop) → Prop) : Prop :=
  ∀ (pins : List (Addr × Obj)) (s : Shared) (σ : St) (H : Hp) (x : V) (v : Value) (Q : Bool → Hp → Prop), Inv X pins σ H s → RelV x v → r x H Q →
    wpAny (model X.prog X.w) X.A (truthy v) (TP X pins σ Q) X.xe s
def tOp (r : R2) (ta tb : TE) : TE := fun σ H Q => ta σ H fun x H1 => tb σ H1 fun y H2 => r x y H2 Q
def rI (C : Int → Int → Prop) (g : Int → Int → V) : R2 := fun x y H Q => ∃ i j, x = .int i ∧ y = .int j ∧ C i j ∧ Q (g i j) H
def rI0 (g : Int → Int → V) : R2 := fun x y H Q => ∃ i j, x = .int i ∧ y = .int j ∧ Q (g i j) H
section
variable {X : Cx} {a b c : Expr} {ta tb tc : TE} {pos : Pos}
theorem binT (ha : PE X a ta) (hb : PE X b tb) {pins : List (Addr × Obj)} {s : Shared} {σ : St} {H : Hp} {R : V → V → Hp → Prop} (I : Inv X pins σ H s)
    (h : ta σ H fun x H1 => tb σ H1 fun y H2 => R x y H2) {Q : Value → Shared → Prop} {f : Value → Value → Sem Value}
    (hf : ∀ v u s2 x y H2, Inv X pins σ H2 s2 → RelV x v → RelV y u → R x y H2 → wpAny (model X.prog X.w) X.A (f v u) Q X.xe s2) :
    wpAny (model X.prog X.w) X.A (eval a X.env) (fun v s₁ => wpAny (model X.prog X.w) X.A (eval b X.env) (fun u s₂ => wpAny (model X.prog X.w) X.A (f v u) Q X.xe s₂) X.xe s₁) X.xe s := by
  refine thn (ha pins s σ H _ I h) fun v s1 ⟨x, H1, I1, r1, q1⟩ => ?_
  refine thn (hb pins s1 σ H1 _ I1 q1) fun u s2 ⟨y, H2, I2, r2, q2⟩ => ?_
  exact hf v u s2 x y H2 I2 r1 r2 q2
theorem pe_op {op : Operator} {r : R2} (ho : OpR X (binaryOp op) r) (ha : PE X a ta) (hb : PE X b tb) : PE X (.BinOp a op b pos) (tOp r ta tb) := by
  intro pins s σ H Q I h
  exact wpAny_BinOp (binT ha hb I h fun v u s2 x y H2 I2 rx ry q => ho pins s2 σ H2 x y v u Q I2 rx ry q)
theorem opI {f : Value → Value → Sem Value} {C : Int → Int → Prop} {g : Int → Int → Int}
    (rule : ∀ (i j : Int) (t u : Tok) (s : Shared) (Q : Value → Shared → Prop) (E : Value → Shared → Prop), C i j → Q (.int (g i j) s.toks) { s with toks := s.toks + 1 } → wpAny (model X.prog X.w) X.A (f (.int i t) (.int j u)) Q E s) :
    OpR X f (rI C fun i j => .int (g i j)) := by
  intro pins s σ H x y v u Q I rx ry h
  obtain ⟨i, j, rfl, rfl, hc, q⟩ := h
  obtain ⟨t, rfl⟩ := rx
  obtain ⟨t', rfl⟩ := ry
  exact rule i j t t' s _ _ hc ⟨.int (g i j), H, I.tok _, ⟨_, rfl⟩, q⟩
theorem opI0 {f : Value → Value → Sem Value} {g : Int → Int → Int}
    (rule : ∀ (i j : Int) (t u : Tok) (s : Shared) (Q : Value → Shared → Prop) (E : Value → Shared → Prop), Q (.int (g i j) s.toks) { s with toks := s.toks + 1 } → wpAny (model X.prog X.w) X.A (f (.int i t) (.int j u)) Q E s) :
    OpR X f (rI0 fun i j => .int (g i j)) := by
  intro pins s σ H x y v u Q I rx ry h
  obtain ⟨i, j, rfl, rfl, q⟩ := h
  obtain ⟨t, rfl⟩ := rx
  obtain ⟨t', rfl⟩ := ry
  exact rule i j t t' s _ _ ⟨.int (g i j), H, I.tok _, ⟨_, rfl⟩, q⟩
theorem opB0 {f : Value → Value → Sem Value} {g : Int → Int → Bool}
    (rule : ∀ (i j : Int) (t u : Tok) (s : Shared) (Q : Value → Shared → Prop) (E : Value → Shared → Prop), Q (.bool (g i j)) s → wpAny (model X.prog X.w) X.A (f (.int i t) (.int j u)) Q E s) :
    OpR X f (rI0 fun i j => .bl (g i j)) := by
  intro pins s σ H x y v u Q I rx ry h
  obtain ⟨i, j, rfl, rfl, q⟩ := h
  obtain ⟨t, rfl⟩ := rx
  obtain ⟨t', rfl⟩ := ry
  exact rule i j t t' s _ _ ⟨.bl (g i j), H, I, rfl, q⟩
def CDiv (i j : Int) : Prop := 0 < j ∧ j < 1073741824
def CPow (i j : Int) : Prop := 0 ≤ j ∧ j ≤ 1000000 ∧ i.natAbs < 2 ^ 64
def CMul (i j : Int) : Prop := (-(2 ^ 64) < i ∧ i < 2 ^ 64) ∨ (-(2 ^ 64) < j ∧ j < 2 ^ 64)
theorem CMul.ok {i j : Int} (h : CMul i j) : IntMulOk i j := by
  rcases h with ⟨h1, h2⟩ | ⟨h1, h2⟩
  · exact .of_left (intBits_le_64 h1 h2)
  · exact .of_right (intBits_le_64 h1 h2)
theorem op_add : OpR X (binaryOp .Add) (rI0 fun i j => .int (i + j)) := opI0 fun _ _ _ _ _ _ _ q => add_int q
theorem op_mul : OpR X (binaryOp .Mult) (rI CMul fun i j => .int (i * j)) := opI fun _ _ _ _ _ _ _ hc q => mul_int q hc.ok
theorem op_fdiv : OpR X (binaryOp .FloorDiv) (rI CDiv fun i j => .int (i / j)) := opI fun i j _ _ _ _ _ hc q => by
  have h1 : (0 : Int) < j := hc.1
  have h2 : j < 1073741824 := hc.2
  exact floordiv_int (by omega) (by rw [Int.fdiv_eq_ediv_of_nonneg i (by omega)]; exact q) (.inl (PyProof.noPylong_small (by omega)))
theorem op_mod : OpR X (binaryOp .Mod) (rI (fun _ j => 0 < j) fun i j => .int (i % j)) := opI fun i j _ _ _ _ _ hc q => by
  have h1 : (0 : Int) < j := hc
  exact mod_int' (by omega) (by rw [Int.fmod_eq_emod_of_nonneg i (by omega)]; exact q)
theorem op_pow : OpR X (binaryOp .Pow) (rI CPow fun i j => .int (i ^ j.toNat)) := opI fun _ _ _ _ _ _ _ hc q => pow_int_small hc.1 hc.2.1 hc.2.2 q
end
section
variable {X : Cx} {a b c : Expr} {ta tb tc : TE} {pos : Pos}
theorem fin_bl {pins : List (Addr × Obj)} {σ : St} {H : Hp} {s : Shared} {Q : VK} {k k' : Bool} (I : Inv X pins σ H s) (q : Q (.bl k) H) (e : k = k') : EP X pins σ Q (.bool k') s := by
  subst e
  exact ⟨.bl k, H, I, rfl, q⟩
theorem op_ge : OpR X (compareOp .GtE) (rI0 fun i j => .bl (decide (j ≤ i))) := opB0 fun _ _ _ _ _ _ _ q => ge_int q
def isObj : HO → Bool
  | .lst _ => true
  | .ins _ _ _ => true
  | _ => false
theorem obj_there {pins : List (Addr × Obj)} {s : Shared} {σ : St} {H : Hp} {a : Addr} {o : HO} (I : Inv X pins σ H s) (h : H a = some o) (p : isObj o = true) : ∃ ob, s.heap.get? a = some ob ∧ ob.cls ≠ .type "tuple" := by
  cases o with
  | lst xs =>
    obtain ⟨_, its, n, _, e⟩ : xs.length ≤ sizeLine ∧ ∃ (its : List Value) (n : Nat), Vals xs its ∧ s.heap.get? a = some { cls := .type "list", data := .seq its.toArray n } := I.hok a _ h
    exact ⟨_, e, (by show Value.type "list" ≠ .type "tuple"; decide +kernel)⟩
  | ins C dx fs =>
    have x := I.hok a _ h
    obtain ⟨_, _, _, e, _⟩ := x
    exact ⟨_, e, (by show Value.ref C ≠ .type "tuple"; exact fun z => by cases z)⟩
  | _ => exact absurd (show false = true from p) Bool.false_ne_true
theorem OpR.or {f : Value → Value → Sem Value} {r r' : R2} (h : OpR X f r) (h' : OpR X f r') : OpR X f (fun x y H Q => r x y H Q ∨ r' x y H Q) := by
  intro pins s σ H x y v u Q I rx ry q
  rcases q with q | q
  · exact h pins s σ H x y v u Q I rx ry q
  · exact h' pins s σ H x y v u Q I rx ry q
theorem nomark (b : Expr) {op : CmpOp} (h : op ≠ .In := by decide) (h2 : op ≠ .NotIn := by decide) : behindInMarks op b = false := by
  have e1 : (op == CmpOp.In) = false := by cases op <;> first | rfl | exact absurd rfl h
  have e2 : (op == CmpOp.NotIn) = false := by cases op <;> first | rfl | exact absurd rfl h2
  cases b <;> simp [behindInMarks, e1, e2]
theorem pe_cmpR {op : CmpOp} {r : R2} (ho : OpR X (compareOp op) r) (ha : PE X a ta) (hb : PE X b tb) (hm : behindInMarks op b = false) : PE X (.Compare a [op] [b] pos) (tOp r ta tb) := by
  intro pins s σ H Q I h
  exact wpAny_Compare1 (binT ha hb I h fun v u s2 x y H2 I2 rx ry q => ho pins s2 σ H2 x y v u Q I2 rx ry q) hm
def tTest (t : TE) : TT := fun σ H Q => t σ H fun x H' => ∃ k, x = .bl k ∧ Q k H'
theorem pt_cmpR {op : CmpOp} {r : R2} (ho : OpR X (compareOp op) r) (ha : PE X a ta) (hb : PE X b tb) (hm : behindInMarks op b = false) : PT X (.Compare a [op] [b] pos) (tTest (tOp r ta tb)) := by
  intro pins s σ H Q I h
  refine wpAny_isTrue_Compare1 (thn (ha pins s σ H _ I h) fun v s1 ⟨x, H1, I1, r1, q1⟩ => thn (hb pins s1 σ H1 _ I1 q1) fun u s2 ⟨y, H2, I2, r2, q2⟩ =>
    thn (ho pins s2 σ H2 x y v u _ I2 r1 r2 q2) fun c s3 ⟨z, H3, I3, r3, k, e, q3⟩ => ?_) hm
  subst e
  cases r3
  exact wpAny_truthy_bool ⟨H3, I3, q3⟩
def TruV (K : PySem.W.Frag) (x : V) (H : Hp) (k : Bool) : Prop :=
  match x with
  | .non => k = false
  | .bl b => k = b
  | .int i => k = (i != 0)
  | .str y => y.length ≤ sizeLine ∧ k = ((y.length : Int) != 0)
  | .byt y => y.size ≤ sizeLine ∧ k = ((y.size : Int) != 0)
  | .ref p => (∃ xs, SqL K H p xs ∧ k = !xs.isEmpty) ∨ (∃ xs, SqT K H p xs ∧ k = !xs.isEmpty) ∨ ∃ kvs, H p = some (.dK kvs) ∧ k = !kvs.isEmpty
  | _ => False
theorem isEmpty_kv {κ : Type} {kvs : List (κ × V)} {vs : List (κ × Value)} (r : KV kvs vs) : (!vs.isEmpty) = !kvs.isEmpty := by
  cases r <;> rfl
theorem isEmpty_of {xs : List V} {its : List Value} (r : Vals xs its) : (!its.toArray.isEmpty) = !xs.isEmpty := by
  cases r <;> simp
theorem line63 : (sizeLine : Nat) < 2 ^ 63 := by rw [sizeLine_eq]; decide
theorem tru_ok : TruR X (fun x H Q => ∃ k, TruV X.K x H k ∧ Q k H) := by
  intro pins s σ H x v Q I rx h
  obtain ⟨k, e, q⟩ := h
  have hl := line63
  have hs : sizeLine = 16777216 := sizeLine_eq
  cases x with
  | non =>
    cases rx
    have e' : k = false := e
    subst e'
    exact truthy_none ⟨H, I, q⟩
  | bl b =>
    cases rx
    have e' : k = b := e
    subst e'
    exact wpAny_truthy_bool ⟨H, I, q⟩
  | int i =>
    obtain ⟨t, rfl⟩ := rx
    have e' : k = (i != 0) := e
    subst e'
    exact PySem.P.truthy_int ⟨H, I, q⟩
  | str y =>
    obtain ⟨t, rfl⟩ := rx
    obtain ⟨hy, e'⟩ : y.length ≤ sizeLine ∧ k = ((y.length : Int) != 0) := e
    subst e'
    exact PySem.P.truthy_str (by omega) ⟨H, I.tok _, q⟩
  | byt y =>
    obtain ⟨t, rfl⟩ := rx
    obtain ⟨hy, e'⟩ : y.size ≤ sizeLine ∧ k = ((y.size : Int) != 0) := e
    subst e'
    exact PySem.W.truthy_bytes (by omega) ⟨H, I.tok _, q⟩
  | ref p =>
    cases rx
    have e' : (∃ xs, SqL X.K H p xs ∧ k = !xs.isEmpty) ∨ (∃ xs, SqT X.K H p xs ∧ k = !xs.isEmpty) ∨ ∃ kvs, H p = some (.dK kvs) ∧ k = !kvs.isEmpty := e
    rcases e' with ⟨xs, hx, e'⟩ | ⟨xs, hx, e'⟩ | ⟨kvs, hx, e'⟩
    · subst e'
      obtain ⟨its, r, pl, hz⟩ := I.list hx
      have hlen := r.length
      exact wpAny_truthy_list pl.isList (by simp only [List.size_toArray]; omega) ⟨H, I.tok _, by rw [isEmpty_of r]; exact q⟩
    · subst e'
      obtain ⟨its, r, pl, hz⟩ := I.tuple hx
      have hlen := r.length
      exact truthy_tuple pl (by simp only [List.size_toArray]; omega) ⟨H, I.tok _, by rw [isEmpty_of r]; exact q⟩
    · subst e'
      obtain ⟨hz, hS, vs, r, m⟩ : kvs.length ≤ sizeLine ∧ (p == sysModules) = false ∧ ∃ vs, KV kvs vs ∧ s.heap.DictOf (mixKind X.prog X.w) p vs := I.hok p _ hx
      have hlen : kvs.length = vs.length := Paired.length r
      exact wpAny_truthy_dict hS m (by omega) ⟨H, I.tok _, by rw [isEmpty_kv r]; exact q⟩
  | _ => exact (show False from e).elim
theorem pt_truth (ha : PE X a ta) (he : ∀ whole, isTrue a X.env whole = (do let v ← whole; standAt a.pos; holding [v] (truthy v))) :
    PT X a (fun σ H Q => ta σ H fun x H' => ∃ k, TruV X.K x H' k ∧ Q k H') := by
  intro pins s σ H Q I h
  exact isTrue_plain (thn (ha pins s σ H _ I h) fun v s1 ⟨x, H1, I1, r1, q1⟩ => tru_ok pins s1 σ H1 x v Q I1 r1 q1) (he _)
theorem op_add_str : OpR X (binaryOp .Add) (fun x y H Q => ∃ i j, x = .str i ∧ y = .str j ∧ i.length + j.length ≤ sizeLine ∧ Q (.str (i ++ j)) H) := by
  intro pins s σ H x y v u Q I rx ry h
  obtain ⟨i, j, rfl, rfl, hz, q⟩ := h
  obtain ⟨t, rfl⟩ := rx
  obtain ⟨t', rfl⟩ := ry
  exact add_str (fun t' tk => ⟨.str (i ++ j), H, I.tok _, ⟨_, rfl⟩, q⟩) hz
theorem vals1 {x : V} {us : List Value} (r : Vals [x] us) : ∃ u, us = [u] ∧ RelV x u := by
  cases r with
  | cons r1 r2 => cases r2; exact ⟨_, rfl, r1⟩
theorem vals2 {x y : V} {us : List Value} (r : Vals [x, y] us) : ∃ u w', us = [u, w'] ∧ RelV x u ∧ RelV y w' := by
  cases r with
  | cons r1 r2 =>
    cases r2 with
    | cons r3 r4 => cases r4; exact ⟨_, _, rfl, r1, r3⟩
theorem call_str_int : CallR X (.type "str") (fun xs H Q => ∃ i, xs = [.int i] ∧ i.natAbs.log2 < 1920 ∧ Q (.str (toString i)) H) := by
  intro pins s σ H xs us Q I r h
  obtain ⟨i, rfl, hz, q⟩ := h
  obtain ⟨u, rfl, t, rfl⟩ := vals1 r
  exact PySem.P.str_of_int hz ⟨.str _, H, I.tok _, ⟨_, rfl⟩, q⟩
def LenV (K : PySem.W.Frag) (x : V) (H : Hp) (n : Nat) : Prop :=
  match x with
  | .str y => y.length ≤ sizeLine ∧ n = y.length
  | .byt y => y.size ≤ sizeLine ∧ n = y.size
  | .ref p => (∃ xs, SqL K H p xs ∧ n = xs.length) ∨ ∃ xs, SqT K H p xs ∧ n = xs.length
  | _ => False
theorem call_len : CallR X (.builtin "len") (fun xs H Q => ∃ x n, xs = [x] ∧ LenV X.K x H n ∧ Q (.int n) H) := by
  intro pins s σ H xs us Q I r h
  obtain ⟨x, n, rfl, e, q⟩ := h
  obtain ⟨u, rfl, rx⟩ := vals1 r
  have hl := line63
  have hs : sizeLine = 16777216 := sizeLine_eq
  cases x with
  | str y =>
    obtain ⟨t, rfl⟩ := rx
    obtain ⟨hy, e'⟩ : y.length ≤ sizeLine ∧ n = y.length := e
    subst e'
    exact len_str (by omega) ⟨.int _, H, I.tok _, ⟨_, rfl⟩, q⟩
  | byt y =>
    obtain ⟨t, rfl⟩ := rx
    obtain ⟨hy, e'⟩ : y.size ≤ sizeLine ∧ n = y.size := e
    subst e'
    exact PySem.W.len_bytes (by omega) ⟨.int _, H, I.tok _, ⟨_, rfl⟩, q⟩
  | ref p =>
    cases rx
    have e' : (∃ xs, SqL X.K H p xs ∧ n = xs.length) ∨ ∃ xs, SqT X.K H p xs ∧ n = xs.length := e
    rcases e' with ⟨xs, hx, e'⟩ | ⟨xs, hx, e'⟩
    · subst e'
      obtain ⟨its, r', pl, hz⟩ := I.list hx
      have hlen := r'.length
      exact Calls.call_len_list pl.isList (by simp only [List.size_toArray]; omega) ⟨.int xs.length, H, I.tok _, ⟨_, by simp only [List.size_toArray]; rw [hlen]⟩, q⟩
    · subst e'
      obtain ⟨its, r', pl, hz⟩ := I.tuple hx
      have hlen := r'.length
      exact len_tuple pl (by simp only [List.size_toArray]; omega) ⟨.int xs.length, H, I.tok _, ⟨_, by simp only [List.size_toArray]; rw [hlen]⟩, q⟩
  | _ => exact (show False from e).elim
end
end L2
namespace L2
open PySem PySem.Spec PyProof.Rows
structure ObjM (h : Heap) (x dx C : Addr) (mA : Str → Option Value) : Prop where
  obj : h.get? x = some (PySem.W.instObj C dx)
  ns : h.Ns1 dx mA
  ne : dx ≠ x
theorem lookIn_ns {h : Heap} {dx : Addr} {mA : Str → Option Value} (n : h.Ns1 dx mA) : ∃ od, h.get? dx = some od ∧ ∀ name, PySem.W.lookIn name od = some (mA name) := by
  obtain ⟨o, es, ep, ho, hd, hk, _, hm⟩ := n
  refine ⟨o, ho, fun name => ?_⟩
  have e := hm name
  unfold nsFind findBy at e
  rw [← Array.find?_toList] at e
  unfold PySem.W.lookIn
  rw [hd]
  dsimp only
  split
  · rename_i y q
    rw [q] at e
    exact congrArg some e
  · rename_i q
    rw [q] at e
    have a : es.toList.any (·.refKey) = false := by
      rw [List.any_eq_false]
      intro y hy
      obtain ⟨z, t, hkey⟩ := hk y (Array.mem_toList_iff.mp hy)
      simp [DictEntry.refKey, hkey]
    have a' : ¬ es.toList.any (·.refKey) = true := by rw [a]; exact Bool.false_ne_true
    rw [if_neg a']
    exact congrArg some e
theorem ObjM.look {h : Heap} {x dx C : Addr} {mA : Str → Option Value} (I : ObjM h x dx C mA) : ∃ od, PySem.W.InstAt h x (PySem.W.instObj C dx) C (some od) ∧ ∀ name, PySem.W.lookIn name od = some (mA name) :=
  let ⟨od, ho, hl⟩ := lookIn_ns I.ns
  ⟨od, ⟨I.obj, rfl, rfl, ho⟩, hl⟩
section
variable {prog : Program} {w : World} {A : Around} {E : Value → Shared → Prop} {s : Shared} {K : PySem.W.Frag} {x dx C f : Addr} {mA : Str → Option Value} {name : Str} {v : Value}
end
theorem RelO.some_of {v : V} {o : Option Value} (r : RelO (some v) o) : ∃ u, o = some u ∧ RelV v u := by
  cases o with
  | none => exact (show False from r).elim
  | some u => exact ⟨u, rfl, r⟩
section
variable {P : Program} {w : World} {H H' : Hp} {h h' : Heap} {a C dx : Addr} {fs fs' : List (Str × V)}
end
structure Cls (K : PySem.W.Frag) (C : Addr) : Prop where
  pg : PySem.W.plainGet K C Str.empty = true
  hd : PySem.W.hasDictIn K C = true
  po : PySem.W.plainOver K C = true
  sa : PySem.W.findIn K (.ref C) "__setattr__" = some (some (.builtin "object.__setattr__"))
theorem Cls.get {K : PySem.W.Frag} {C : Addr} (c : Cls K C) (f : Str) : PySem.W.plainGet K C f = true := c.pg
section
variable {X : Cx} {pins : List (Addr × Obj)} {σ : St} {H : Hp} {s : Shared} {a C dx : Addr} {fs : List (Str × V)} {f : Str} {v : V} {A : Around} {E : Value → Shared → Prop}
theorem Inv.made (I : Inv X pins σ H s) : Inv X pins σ (upd (upd H s.heap.objs.size (.own (s.heap.objs.size + 1))) (s.heap.objs.size + 1) (.ins C s.heap.objs.size []))
    { s with heap := (s.heap.push PySem.W.emptyDict).push (PySem.W.instObj C s.heap.objs.size) } := by
  have e1 : (s.heap.push PySem.W.emptyDict).get? s.heap.objs.size = some PySem.W.emptyDict := Heap.get?_push_size s.heap rfl
  have e2 : ((s.heap.push PySem.W.emptyDict).push (PySem.W.instObj C s.heap.objs.size)).get? (s.heap.objs.size + 1) = some (PySem.W.instObj C s.heap.objs.size) := by
    have := Heap.get?_push_size (s.heap.push PySem.W.emptyDict) (o := PySem.W.instObj C s.heap.objs.size) rfl
    rwa [Heap.size_push] at this
  have e3 : (s.heap.push PySem.W.emptyDict).Ns s.heap.objs.size (fun _ => none) := ⟨PySem.W.emptyDict, #[], _, e1, rfl, (fun e he => absurd he (by simp)), fun _ => rfl⟩
  have I1 := I.laid (a := s.heap.objs.size) (o := .own (s.heap.objs.size + 1)) (h' := s.heap.push PySem.W.emptyDict) (t' := s.toks) (fun b u q => Heap.get?_push_of_some _ q) (Nat.le_refl _) ⟨_, e1⟩
  refine I1.laid (a := s.heap.objs.size + 1) (o := .ins C s.heap.objs.size []) (t' := s.toks) (fun b u q => Heap.get?_push_of_some _ q) (Nat.le_of_eq (Heap.size_push _ _)) ?_
  have ne : s.heap.objs.size ≠ s.heap.objs.size + 1 := Nat.ne_of_lt (Nat.lt_succ_self _)
  refine ⟨by rw [upd_ne ne, upd_same], Nat.zero_le _, ne, e2, fun _ => none, (Heap.Ns1.of_empty e3).at fun o q => Heap.get?_push_of_some _ q, fun _ => True.intro, fun y hy => absurd rfl hy⟩
end
section
variable {X : Cx} {o e value : Expr} {f : Str} {pos pos' tpos : Pos} {ta tv : TE}
end
section
variable {X : Cx} {pins : List (Addr × Obj)} {σ : St} {H : Hp} {s : Shared} {A : Around} {E : Value → Shared → Prop} {Q : Value → Shared → Prop} {c : Value} {b : Bool}
end
end L2
namespace L2
open PySem PySem.Spec PyProof.Rows
structure Room (k : Nat) (A : Around) : Prop where
  hd : A.handled = none
  dp : A.depth + 3 * k + 5 < recursionLimit
  un : A.units + 16 * k + 200 < cLine
theorem Room.mono {j k : Nat} {A : Around} (r : Room k A) (h : j ≤ k) : Room j A := ⟨r.hd, by have := r.dp; omega, by have := r.un; omega⟩
theorem Room.deeper {k : Nat} {A : Around} (r : Room (k + 1) A) (env : Env) : Room k (A.deeper env) :=
  ⟨r.hd, by have := r.dp; show A.depth + 1 + 3 * k + 5 < _; omega, by have := r.un; show A.units + 3 + 16 * k + 200 < _; omega⟩
theorem Room.in1 {k : Nat} {A : Around} (r : Room (k + 1) A) : Room k A.in1 :=
  ⟨r.hd, by have := r.dp; show A.depth + 3 * k + 5 < _; omega, by have := r.un; show A.units + 1 + 16 * k + 200 < _; omega⟩
theorem Room.depth {k : Nat} {A : Around} (r : Room k A) : A.depth < recursionLimit := by have := r.dp; omega
theorem Room.units {k : Nat} {A : Around} (r : Room k A) : A.units + 64 < cLine := by have := r.un; omega
def tNil : TA := fun _ H Q => Q [] H
def tCons (ta : TE) (tr : TA) : TA := fun σ H Q => ta σ H fun x H1 => tr σ H1 fun xs H2 => Q (x :: xs) H2
section
variable {X : Cx} {e : Expr} {es : List Expr} {te : TE} {t : TA} {pos : Pos}
theorem pa_nil : PA X [] tNil := fun _ _ _ _ H Q I h => Calls.spliced_nil ⟨[], H, I, .nil, h⟩
theorem pa_cons (ha : PE X e te) (hr : PA X es t) (hs : starEach (e :: es) X.env = (false, eval e X.env) :: starEach es X.env := by rfl) : PA X (e :: es) (tCons te t) := by
  intro pos pins s σ H Q I h
  rw [hs]
  show wpAny _ _ (spliced ((false, eval e X.env) :: backTo pos (starEach es X.env))) _ _ s
  refine Calls.spliced_cons (thn (ha pins s σ H _ I h) fun u s1 ⟨x, H1, I1, r1, q1⟩ => ?_)
  exact thn (hr pos pins s1 σ H1 _ I1 q1) fun us s2 ⟨xs, H2, I2, r2, q2⟩ => ⟨x :: xs, H2, I2, .cons r1 r2, q2⟩
def tTup (t : TA) : TE := fun σ H Q => t σ H fun xs H1 => xs.length ≤ sizeLine ∧ ∀ p, H1 p = none → Q (.ref p) (upd H1 p (.tup xs))
def tLst (t : TA) : TE := fun σ H Q => t σ H fun xs H1 => xs.length ≤ sizeLine ∧ ∀ p, H1 p = none → Q (.ref p) (upd H1 p (.lst xs))
theorem pe_tup {x1} (h : PA X es t) : PE X (.Tuple es x1 pos) (tTup t) := by
  intro pins s σ H Q I hq
  refine wpAny_Tuple_spliced (thn (h pos pins s σ H _ I hq) fun us s1 ⟨xs, H1, I1, r, z, q⟩ => ⟨by rw [← r.length]; exact z, ?_⟩)
  have hf : H1 s1.heap.objs.size = none := I1.hok.fresh (Nat.le_refl _)
  refine ⟨.ref s1.heap.objs.size, upd H1 s1.heap.objs.size (.tup xs), I1.laid (t' := s1.toks) (fun b u e => Heap.get?_push_of_some _ e) (Nat.le_refl _) ?_, rfl, q _ hf⟩
  exact ⟨z, us, r, ⟨_, Heap.get?_push_size _ rfl, rfl, _, rfl⟩⟩
theorem pe_lst (h : PA X es t) : PE X (.List es pos) (tLst t) := by
  intro pins s σ H Q I hq
  refine wpAny_List_spliced (thn (h pos pins s σ H _ I hq) fun us s1 ⟨xs, H1, I1, r, z, q⟩ => ⟨by rw [← r.length]; exact z, ?_⟩)
  have hf : H1 s1.heap.objs.size = none := I1.hok.fresh (Nat.le_refl _)
  refine ⟨.ref s1.heap.objs.size, upd H1 s1.heap.objs.size (.lst xs), I1.laid (t' := s1.toks) (fun b u e => Heap.get?_push_of_some _ e) (Nat.le_refl _) ?_, rfl, q _ hf⟩
  exact ⟨z, us, 0, r, Heap.get?_push_size _ rfl⟩
end
abbrev Sp := List V → Hp → VK → XK → Prop
abbrev CXT := List Env → Hp → Shared → XK → Value → Shared → Prop
structure Env0 (P : Program) (w : World) (K : PySem.W.Frag) (mg : Str → Option Value) (base : Heap) (A : Around) (outer : List Env) (s : Shared) (H : Hp) : Prop where
  frames : A.frames = some outer
  mod : Mod K mg base
  bs : ∀ b o, base.get? b = some o → s.heap.get? b = some o ∧ H b = none
  bsz : base.objs.size ≤ s.heap.objs.size
  funs : s.heap.FunFrames base outer
  frf : ∀ b ∈ frs outer, H b = none
  hok : HOk P w H s.heap
  bare : AllBare s.gens
def CE (outer : List Env) (P : Program) (w : World) (H : Hp) (s : Shared) (Q : VK) (u : Value) (s' : Shared) : Prop :=
  ∃ v H', s'.os = s.os ∧ AllBare s'.gens ∧ Un (frs outer) [] H H' s.heap s'.heap ∧ HOk P w H' s'.heap ∧ RelV v u ∧ Q v H'
def CR (CX : CXT) (outer : List Env) (P : Program) (w : World) (H : Hp) (s : Shared) (Q : VK) (E : XK) (r : Result) (s' : Shared) : Prop :=
  match r with
  | .ok (.ret u) => CE outer P w H s Q u s'
  | .ok _ => False
  | .error e => CX outer H s E e s'
structure FnOk (P : Program) (w : World) (K : PySem.W.Frag) (mg : Str → Option Value) (base : Heap) (CX : CXT) (k : Nat) (f : Addr) (fd : FuncData) (ps : List Str) (sp : Sp) : Prop where
  len : ∀ vs H Q E, sp vs H Q E → vs.length = ps.length
  run : ∀ (A : Around) (outer : List Env) (s : Shared) (H : Hp) (args : Args) (us : List Value) (vs : List V) (Q : VK) (E : XK), Room k A → Env0 P w K mg base A outer s H → BindsTo s fd args (ps.zip us) → Vals vs us → sp vs H Q E →
    codeAny (model P w) A (.call (.ref f) args) (CR CX outer P w H s Q E) s
theorem FnOk.mono {P : Program} {w : World} {K : PySem.W.Frag} {mg : Str → Option Value} {base : Heap} {CX : CXT} {j k : Nat} {f : Addr} {fd : FuncData} {ps : List Str} {sp : Sp} (F : FnOk P w K mg base CX j f fd ps sp) (h : j ≤ k) :
    FnOk P w K mg base CX k f fd ps sp := ⟨F.len, fun A outer s H args us vs Q E hr => F.run A outer s H args us vs Q E (hr.mono h)⟩
theorem FnOk.imp {P : Program} {w : World} {K : PySem.W.Frag} {mg : Str → Option Value} {base : Heap} {CX : CXT} {k : Nat} {f : Addr} {fd : FuncData} {ps : List Str} {sp sp' : Sp} (F : FnOk P w K mg base CX k f fd ps sp)
    (h : ∀ vs H Q E, sp' vs H Q E → sp vs H Q E) : FnOk P w K mg base CX k f fd ps sp' :=
  ⟨fun vs H Q E q => F.len vs H Q E (h _ _ _ _ q), fun A outer s H args us vs Q E hr he hb hv hs => F.run A outer s H args us vs Q E hr he hb hv (h _ _ _ _ hs)⟩
theorem Env0.in1 {P : Program} {w : World} {K : PySem.W.Frag} {mg : Str → Option Value} {base : Heap} {A : Around} {outer : List Env} {s : Shared} {H : Hp} (e : Env0 P w K mg base A outer s H) :
    Env0 P w K mg base A.in1 outer s H := ⟨e.frames, e.mod, e.bs, e.bsz, e.funs, e.frf, e.hok, e.bare⟩
section
variable {X : Cx} {pins : List (Addr × Obj)} {σ : St} {H : Hp} {s s' : Shared}
theorem Inv.env0 (I : Inv X pins σ H s) : Env0 X.prog X.w X.K X.mg X.base X.A X.stack s H :=
  ⟨I.ok.frames, I.ok.mod, I.bs, Nat.le_trans I.ok.bsz I.sz, I.stack, I.stkFree, I.hok, I.bare⟩
theorem Inv.after {Q : VK} {u : Value} (I : Inv X pins σ H s) (h : CE X.stack X.prog X.w H s Q u s') : EP X pins σ Q u s' := by
  obtain ⟨v, H', os, bare, un, hok, r, q⟩ := h
  obtain ⟨hh, g, d, t, os'⟩ := s'
  obtain rfl : os' = s.os := os
  exact ⟨v, H', I.call (h' := hh) (g' := g) (d' := d) (t' := t) (ch := []) un hok bare (fun b z => absurd z (by simp)), r, q⟩
end
def tCall (sp : Sp) (dvs : List V) (E : XK) (t : TA) : TE := fun σ H Q => t σ H fun vs H1 => sp (vs ++ dvs) H1 Q E
def Binds (K : PySem.W.Frag) (fd : FuncData) (ps : List Str) (ds : List Value) : Prop :=
  ∀ (s : Shared) (us : List Value), K.In s.heap → (us ++ ds).length = ps.length → BindsTo s fd ⟨us, []⟩ (ps.zip (us ++ ds))
theorem Binds.all {K : PySem.W.Frag} {fd : FuncData} {ps : List Str} (h : ∀ us : List Value, us.length = ps.length → bindArgs fd ⟨us, []⟩ = pure (ps.zip us)) : Binds K fd ps [] := fun s us _ hl => by
  rw [List.append_nil] at hl ⊢
  exact .of_eq (h us hl)
def Passes (CX : CXT) (X : Cx) (E : XK) : Prop := ∀ (pins : List (Addr × Obj)) (σ : St) (H : Hp) (s : Shared) (e : Value) (s' : Shared), Inv X pins σ H s → CX X.stack H s E e s' → X.xe e s'
section
variable {X : Cx} {CX : CXT} {k : Nat} {f C : Addr} {fd : FuncData} {ps : List Str} {sp : Sp} {dvs : List V} {ds : List Value} {E : XK} {x m : Str} {p pos apos : Pos} {e o : Expr} {es : List Expr} {ta : TE} {t : TA}
theorem run_fn {pins : List (Addr × Obj)} {σ : St} {H : Hp} {s : Shared} {Q : VK} {us : List Value} {vs : List V} (F : FnOk X.prog X.w X.K X.mg X.base CX k f fd ps sp) (hr : Room k X.A) (hb : Binds X.K fd ps ds) (hd : Vals dvs ds) (hx : Passes CX X E)
    (I : Inv X pins σ H s) (r : Vals vs us) (h : sp (vs ++ dvs) H Q E) : wpAny (model X.prog X.w) X.A (call (.ref f) us) (EP X pins σ Q) X.xe s := by
  have r2 : Vals (vs ++ dvs) (us ++ ds) := r.append hd
  have hl : (us ++ ds).length = ps.length := by rw [← r2.length]; exact F.len _ _ _ _ h
  refine wpAny_call (codeAny_mono (F.run X.A X.stack s H ⟨us, []⟩ (us ++ ds) (vs ++ dvs) Q E hr I.env0 (hb s us I.kIn hl) r2 h) fun r s' hq => ?_)
  cases r with
  | error e => exact hx pins σ H s e s' I hq
  | ok fl =>
    cases fl with
    | ret u => exact I.after hq
    | next => exact False.elim hq
    | brk => exact False.elim hq
    | cont => exact False.elim hq
theorem pe_call (F : FnOk X.prog X.w X.K X.mg X.base CX k f fd ps sp) (hr : Room k X.A) (hg : Gl X x) (hm : X.mg x = some (.ref f)) (hk : PySem.W.keepIn X.K (.ref f) = true) (hb : Binds X.K fd ps ds) (hd : Vals dvs ds) (hx : Passes CX X E)
    (ha : PA X (e :: es) t) (hdb : (x == ("__debug__" : Str)) = false := by decide) (he : starEach (e :: es) X.env = (false, eval e X.env) :: starEach es X.env := by rfl) (hpl : (backTo pos (starEach es X.env)).any (·.1) = false := by rfl) :
    PE X (.Call (.Name x p) (e :: es) [] pos) (tCall sp dvs E t) := by
  intro pins s σ H Q I h
  refine wpAny_Call_Name_kw (ld_glob I hg hm ?_ hdb)
  refine PySem.W.callWith_K (h₀ := X.base) I.ok.mod.kin hk (thn (ha pos pins s σ H _ I h) fun us s1 ⟨vs, H1, I1, r, q⟩ => ⟨I1.kIn, ?_⟩) he hpl
  exact run_fn F hr hb hd hx I1 r q
theorem pe_call0 (F : FnOk X.prog X.w X.K X.mg X.base CX k f fd ps sp) (hr : Room k X.A) (hg : Gl X x) (hm : X.mg x = some (.ref f)) (hk : PySem.W.keepIn X.K (.ref f) = true) (hb : Binds X.K fd ps ds) (hd : Vals dvs ds) (hx : Passes CX X E)
    (hdb : (x == ("__debug__" : Str)) = false := by decide) : PE X (.Call (.Name x p) [] [] pos) (tCall sp dvs E tNil) := by
  intro pins s σ H Q I h
  refine wpAny_Call_Name_kw (ld_glob I hg hm ?_ hdb)
  exact PySem.W.callWith_K0 I.kIn hk (run_fn (us := []) F hr hb hd hx I .nil h)
end
def PK (X : Cx) (kws : List Keyword) (t : TA) : Prop :=
  ∀ (pos : Pos) (pins : List (Addr × Obj)) (s : Shared) (σ : St) (H : Hp) (Q : List V → Hp → Prop), Inv X pins σ H s → t σ H Q → wpAny (model X.prog X.w) X.A (evalAll ((backToKw pos (keywordEach kws X.env)).map (·.2))) (AP X pins σ Q) X.xe s
section
variable {X : Cx} {CX : CXT} {k : Nat} {f C : Addr} {fd : FuncData} {ps ks : List Str} {sp : Sp} {E : XK} {x m : Str} {p pos apos kpos : Pos} {e o : Expr} {es : List Expr} {kws : List Keyword} {te ta : TE} {t tk : TA} {nm : Option Str}
theorem pk_nil : PK X [] tNil := fun _ _ _ _ H Q I h => wpAny_evalAll_nil ⟨[], H, I, .nil, h⟩
theorem pk_cons (ha : PE X e te) (hr : PK X kws t) : PK X (⟨nm, e, kpos⟩ :: kws) (tCons te t) := by
  intro pos pins s σ H Q I h
  show wpAny _ _ (evalAll ((do let v ← eval e X.env; standAt pos; pure v) :: (backToKw pos (keywordEach kws X.env)).map (·.2))) _ _ s
  refine wpAny_evalAll_cons (wpAny_bind (thn (ha pins s σ H _ I h) fun u s1 ⟨x, H1, I1, r1, q1⟩ => wpAny_bind (wpAny_standAt (wpAny_pure ?_))))
  exact thn (hr pos pins s1 σ H1 _ I1 q1) fun us s2 ⟨xs, H2, I2, r2, q2⟩ => ⟨x :: xs, H2, I2, .cons r1 r2, q2⟩
structure KBinds (K : PySem.W.Frag) (fd : FuncData) (ps ks : List Str) (g : List Value → List Value → List Value) (gV : List V → List V → List V) : Prop where
  to : ∀ (s : Shared) (us ws : List Value), K.In s.heap → (g us ws).length = ps.length → BindsTo s fd ⟨us, ks.zip ws⟩ (ps.zip (g us ws))
  rel : ∀ {vs : List V} {us : List Value} {zs : List V} {ws : List Value}, Vals vs us → Vals zs ws → Vals (gV vs zs) (g us ws)
variable {g : List Value → List Value → List Value} {gV : List V → List V → List V}
theorem run_fnk {pins : List (Addr × Obj)} {σ : St} {H : Hp} {s : Shared} {Q : VK} {us ws : List Value} {vs zs : List V} (F : FnOk X.prog X.w X.K X.mg X.base CX k f fd ps sp) (hr : Room k X.A) (hb : KBinds X.K fd ps ks g gV) (hx : Passes CX X E)
    (I : Inv X pins σ H s) (r : Vals vs us) (rz : Vals zs ws) (h : sp (gV vs zs) H Q E) : wpAny (model X.prog X.w) X.A (call (.ref f) us (ks.zip ws)) (EP X pins σ Q) X.xe s := by
  have r2 := hb.rel r rz
  have hl : (g us ws).length = ps.length := by rw [← r2.length]; exact F.len _ _ _ _ h
  refine wpAny_call (codeAny_mono (F.run X.A X.stack s H ⟨us, ks.zip ws⟩ (g us ws) (gV vs zs) Q E hr I.env0 (hb.to s us ws I.kIn hl) r2 h) fun r s' hq => ?_)
  cases r with
  | error e => exact hx pins σ H s e s' I hq
  | ok fl =>
    cases fl with
    | ret u => exact I.after hq
    | next => exact False.elim hq
    | brk => exact False.elim hq
    | cont => exact False.elim hq
end
structure FnScope (N P : List Str) (sc : Scope) : Prop where
  kind : sc.kind = .function
  co : sc.isCoroutine = false
  gen : sc.isGenerator = false
  nd : N.Nodup
  pre : N.take P.length = P
  par : ∀ x ∈ P, sc.names.lookup x = some .local ∨ sc.names.lookup x = some .cell
  nofree : ∀ y ∈ sc.names, y.2 ≠ .free
theorem bindL_out {kindOf : Str → Option NameKind} {x : Str} : ∀ {binds : List (Str × Value)} {m : Str → Option Value}, (∀ v, (x, v) ∉ binds) → bindL kindOf binds m x = m x
  | [], _, _ => rfl
  | (n, v) :: r, m, h => by
    unfold bindL
    rw [bindL_out fun w hw => h w (List.mem_cons_of_mem _ hw)]
    split
    · have : x ≠ n := by rintro rfl; exact h v List.mem_cons_self
      simp [this]
    · rfl
theorem bindC_out {kindOf : Str → Option NameKind} {x : Str} : ∀ {binds : List (Str × Value)} {m : Str → Option Value}, (∀ v, (x, v) ∉ binds) → bindC kindOf binds m x = m x
  | [], _, _ => rfl
  | (n, v) :: r, m, h => by
    unfold bindC
    rw [bindC_out fun w hw => h w (List.mem_cons_of_mem _ hw)]
    split
    · rfl
    · have : x ≠ n := by rintro rfl; exact h v List.mem_cons_self
      simp [this]
theorem bindL_get {kindOf : Str → Option NameKind} {x : Str} {v : Value} : ∀ {P : List Str} {vs : List Value} {i : Nat} {m : Str → Option Value}, P.Nodup → P[i]? = some x → vs[i]? = some v → kindOf x = some .local →
    bindL kindOf (P.zip vs) m x = some v
  | [], _, _, _, _, h, _, _ => by simp at h
  | _ :: _, [], _, _, _, _, h, _ => by simp at h
  | p :: P, w :: vs, 0, m, nd, h1, h2, hk => by
    simp at h1 h2; subst h1; subst h2
    show bindL kindOf ((p, w) :: P.zip vs) m p = _
    unfold bindL
    rw [bindL_out fun v hv => (List.nodup_cons.mp nd).1 (List.of_mem_zip hv).1, if_pos hk]
    simp
  | p :: P, w :: vs, i + 1, m, nd, h1, h2, hk => by
    show bindL kindOf ((p, w) :: P.zip vs) m x = _
    unfold bindL
    exact bindL_get (i := i) (List.nodup_cons.mp nd).2 (by simpa using h1) (by simpa using h2) hk
theorem bindC_get {kindOf : Str → Option NameKind} {x : Str} {v : Value} : ∀ {P : List Str} {vs : List Value} {i : Nat} {m : Str → Option Value}, P.Nodup → P[i]? = some x → vs[i]? = some v → kindOf x ≠ some .local →
    bindC kindOf (P.zip vs) m x = some v
  | [], _, _, _, _, h, _, _ => by simp at h
  | _ :: _, [], _, _, _, _, h, _ => by simp at h
  | p :: P, w :: vs, 0, m, nd, h1, h2, hk => by
    simp at h1 h2; subst h1; subst h2
    show bindC kindOf ((p, w) :: P.zip vs) m p = _
    unfold bindC
    rw [bindC_out fun v hv => (List.nodup_cons.mp nd).1 (List.of_mem_zip hv).1, if_neg hk]
    simp
  | p :: P, w :: vs, i + 1, m, nd, h1, h2, hk => by
    show bindC kindOf ((p, w) :: P.zip vs) m x = _
    unfold bindC
    exact bindC_get (i := i) (List.nodup_cons.mp nd).2 (by simpa using h1) (by simpa using h2) hk
def start (N : List Str) (vs : List V) : St := vs.map some ++ List.replicate (N.length - vs.length) none
def cxOf (CX : CXT) (P : Program) (w : World) (K : PySem.W.Frag) (mg : Str → Option Value) (base : Heap) (N : List Str) (qual : Str) (scope : Scope) (f : Addr) (cd : Value) (A : Around) (outer : List Env) (s : Shared) (H : Hp) (E : XK) : Cx where
  prog := P
  w := w
  K := K
  mg := mg
  base := base
  A := A.deeper (envOfC qual scope s.heap.objs.size f cd)
  N := N
  s_0 := s
  H_0 := H
  env := envOfC qual scope s.heap.objs.size f cd
  outer := outer
  stack := envOfC qual scope s.heap.objs.size f cd :: outer
  ex := []
  calm := true
  fn := fun _ => true
  pn := []
  xe := fun e s' => wpAny (model P w) (A.deeper (envOfC qual scope s.heap.objs.size f cd)) (leaving (envOfC qual scope s.heap.objs.size f cd) e) (fun _ s'' => CX outer H s E e s'') (fun e' s'' => CX outer H s E e' s'') s'
theorem cell_has {sc : Scope} {n : Nat} {x : Str} (h : sc.names.lookup x = some .cell) : ∃ c, (cellsFrom n sc.names []).lookup x = some c := by
  have q := PySem.W.cellsFrom_some sc.names n [] (.inl h)
  exact Option.isSome_iff_exists.mp q
theorem inv_start {CX : CXT} {P : Program} {w : World} {K : PySem.W.Frag} {mg : Str → Option Value} {base : Heap} {N ps : List Str} {qual : Str} {scope : Scope} {f : Addr} {cd : Value} {A : Around} {outer : List Env} {s s1 : Shared} {H : Hp} {E : XK} {us : List Value} {vs : List V}
    (S : FnScope N ps scope) (hd : A.handled = none) (e0 : Env0 P w K mg base A outer s H) (hl : vs.length = ps.length) (r : Vals vs us)
    (x : InCallC s s.heap.objs.size (bindL (envOfC qual scope s.heap.objs.size f cd).kindOf (ps.zip us) fun _ => none) (cellsFrom (s.heap.objs.size + 1) scope.names []) (bindC (envOfC qual scope s.heap.objs.size f cd).kindOf (ps.zip us) fun _ => none) s1) :
    Inv (cxOf CX P w K mg base N qual scope f cd A outer s H E) [] (start N vs) H s1 := by
  have hpl : ps.length ≤ N.length := by have := congrArg List.length S.pre; rw [List.length_take] at this; omega
  obtain ⟨h1, tk, rfl, hk⟩ := x.done
  have noA : ∀ b : Addr, b ∉ (cxOf CX P w K mg base N qual scope f cd A outer s H E).ex := fun b z => absurd (show b ∈ ([] : List Addr) from z) (by simp)
  refine ⟨⟨e0.mod, S.kind, rfl, rfl, Nat.le_refl _, fun y z c h1 h2 => ?_, fun y hy => ?_, fun y c _ h => ?_, fun _ => hd, Around.frames_deeper e0.frames, .inr ⟨rfl, rfl⟩, fun b z => absurd z (noA b), e0.bs, e0.bsz, fun b _ _ => noA b, fun b z => absurd z (noA b), e0.funs, e0.frf⟩,
    rfl, e0.bare, Un.kept hk, ⟨_, x.toInCall.ns, fun i y v h1 h2 h3 => ?_⟩, fun y c h => ⟨_, x.cell y c h⟩, e0.hok.fresh (Nat.le_refl _), fun y c h => ?_, fun p hp => absurd (show p ∈ ([] : List (Addr × Obj)) from hp) (by simp), e0.hok.kept hk, ?_⟩
  · exact name_of_addr x.apart (PySem.mem_of_lookup h1) (PySem.mem_of_lookup h2)
  · have hy : scope.names.lookup y = some .cell ∨ scope.names.lookup y = some .free := hy
    rcases hy with hy | hy
    · exact cell_has hy
    · exact absurd rfl (S.nofree _ (PySem.mem_of_lookup hy))
  · exact Nat.le_of_lt (x.above y c (PySem.mem_of_lookup h))
  · have hi : i < vs.length := by
      unfold start at h2
      by_cases hi : i < vs.length
      · exact hi
      · rw [List.getElem?_append_right (by simpa using hi)] at h2
        rw [List.getElem?_replicate] at h2
        split at h2 <;> cases h2
    have ha : vs[i]? = some v := by
      unfold start at h2
      rw [List.getElem?_append_left (by simpa using hi), List.getElem?_map] at h2
      cases e : vs[i]? with
      | none => rw [e] at h2; cases h2
      | some a => rw [e] at h2; cases h2; rfl
    obtain ⟨u, hu, rv⟩ := r.get ha
    have hp : ps[i]? = some y := by
      rw [← S.pre, List.getElem?_take_of_lt (by omega)]; exact h1
    have ndP : ps.Nodup := by rw [← S.pre]; exact S.nd.sublist (List.take_sublist _ _)
    refine ⟨u, rv, ?_⟩
    rcases S.par y (List.mem_of_getElem? hp) with k | k
    · exact .inl ⟨k, bindL_get ndP hp hu k⟩
    · obtain ⟨c, e⟩ := cell_has (n := s.heap.objs.size + 1) k
      refine .inr ⟨.inl k, c, e, ?_⟩
      have q := x.cell y c e
      rw [bindC_get ndP hp hu (by show scope.names.lookup y ≠ _; rw [k]; decide)] at q
      exact q
  · exact e0.hok.fresh (Nat.le_of_lt (x.above y c (PySem.mem_of_lookup h)))
  · unfold start
    show _ = N.length
    rw [List.length_append, List.length_map, List.length_replicate]
    omega
theorem fn_of {CX : CXT} {P : Program} {w : World} {K : PySem.W.Frag} {mg : Str → Option Value} {base : Heap} {k : Nat} {f : Addr} {name qual : Str} {params : Arguments} {body : List Stmt} {scope : Scope} {dV kV doc pm cdv ct oc : Value} {an od : Option Addr}
    {osl : Array (Option Value)} {N ps : List Str} {sp : Sp} (lk : K.lookup f = some ⟨oc, od, .func (PySem.W.fnOf name qual params body scope dV kV doc pm an cdv ct), osl⟩) (hcd : PySem.W.codeIn K cdv qual = true) (S : FnScope N ps scope)
    (len : ∀ vs H Q E, sp vs H Q E → vs.length = ps.length)
    (hbody : ∀ (A : Around) (outer : List Env) (s : Shared) (H : Hp) (vs : List V) (Q : VK) (E : XK), Room k (A.deeper (envOfC qual scope s.heap.objs.size f cdv)) → sp vs H Q E →
      ∃ t, PSs (cxOf CX P w K mg base N qual scope f cdv A outer s H E) body t ∧ t { nx := fun _ H' => Q .non H', rt := Q } (start N vs) H) :
    FnOk P w K mg base CX (k + 1) f (PySem.W.fnOf name qual params body scope dV kV doc pm an cdv ct) ps sp := by
  refine ⟨len, fun A outer s H args us vs Q E hr e0 hb r hsp => ?_⟩
  have hl := len _ _ _ _ hsp
  have KX : K.In s.heap := e0.mod.kin.keeps fun b o e => (e0.bs b o e).1
  have lim : s.heap.NoLimit := e0.mod.nolimit.keeps fun b o e => (e0.bs b o e).1
  have hkind : ∀ y ∈ ps.zip us, scope.names.lookup y.1 = some .local ∨ (scope.names.lookup y.1 = some .cell ∧ ((cellsFrom (s.heap.objs.size + 1) scope.names []).lookup y.1).isSome = true) := fun ⟨n, v⟩ hy => by
    rcases S.par n (List.of_mem_zip hy).1 with q | q
    · exact .inl q
    · exact .inr ⟨q, PySem.W.cellsFrom_some _ _ _ (.inl q)⟩
  refine codeAny_call_function hr.depth (KX _ _ lk) rfl S.co S.gen rfl (PySem.W.codeRec_of KX hcd) (hb _ _ _ _ ?_)
  refine wpAny_newFunctionEnv_cells S.kind hkind fun env he s1 x => ?_
  subst he
  refine ⟨lim.keeps x.toInCall.keep, codeAny_func ?_⟩
  obtain ⟨t, ht, hq⟩ := hbody A outer s H vs Q E (hr.deeper _) hsp
  have I : Inv (cxOf CX P w K mg base N qual scope f cdv A outer s H E) [] (start N vs) H s1 := inv_start S hr.hd e0 hl r x
  refine wpAny_mono (ht [] s1 (start N vs) H _ I hq) (fun fl s' hs => ?_) fun e s' hs => hs
  have fin : ∀ {σ' : St} {H' : Hp} {v : V} {u : Value}, Inv (cxOf CX P w K mg base N qual scope f cdv A outer s H E) [] σ' H' s' → RelV v u → Q v H' → CE outer P w H s Q u s' :=
    fun {σ' H' v u} J rv q => ⟨v, H', J.os, J.bare, J.base, J.hok, rv, q⟩
  cases fl with
  | ret u =>
    obtain ⟨v, σ', H', J, rv, q⟩ := hs
    exact fin J rv q
  | next =>
    obtain ⟨σ', H', J, q⟩ := hs
    exact fin (v := V.non) (u := Value.none) J rfl q
  | brk =>
    obtain ⟨_, _, _, q⟩ := hs
    exact False.elim q
  | cont =>
    obtain ⟨_, _, _, q⟩ := hs
    exact False.elim q
end L2
namespace L2
open PySem PySem.Spec PyProof.Rows
section
variable {X : Cx} {x : Str} {p pos : Pos} {e : Expr} {es : List Expr} {t : TA} {id T : String} {r : List V → Hp → VK → Prop}
def tCB (r : List V → Hp → VK → Prop) (t : TA) : TE := fun σ H Q => t σ H fun vs H1 => r vs H1 Q
theorem pe_callB (hc : CallR X (.builtin id) r) (hg : Gl X x) (hm : X.mg x = none) (hv : bootBuiltins x = some (.builtin id)) (ha : PA X (e :: es) t) (hn : x ≠ "__name__" := by decide) (hdb : (x == ("__debug__" : Str)) = false := by decide)
    (he : starEach (e :: es) X.env = (false, eval e X.env) :: starEach es X.env := by rfl) (hpl : (backTo pos (starEach es X.env)).any (·.1) = false := by rfl) : PE X (.Call (.Name x p) (e :: es) [] pos) (tCB r t) := by
  intro pins s σ H Q I h
  refine wpAny_Call_Name_kw (ld_blt I hg hm hv ?_ hn hdb)
  exact PyProof.Rows.callWith_builtin1 (thn (ha pos pins s σ H _ I h) fun us s1 ⟨vs, H1, I1, r1, q1⟩ => hc pins s1 σ H1 vs us Q I1 r1 q1) he hpl
theorem pe_callTy (hc : CallR X (.type T) r) (hg : Gl X x) (hm : X.mg x = none) (hv : bootBuiltins x = some (.type T)) (ha : PA X (e :: es) t) (hn : x ≠ "__name__" := by decide) (hdb : (x == ("__debug__" : Str)) = false := by decide)
    (he : starEach (e :: es) X.env = (false, eval e X.env) :: starEach es X.env := by rfl) (hpl : (backTo pos (starEach es X.env)).any (·.1) = false := by rfl) : PE X (.Call (.Name x p) (e :: es) [] pos) (tCB r t) := by
  intro pins s σ H Q I h
  refine wpAny_Call_Name_kw (ld_blt I hg hm hv ?_ hn hdb)
  exact PyProof.Rows.callWith_type1 (thn (ha pos pins s σ H _ I h) fun us s1 ⟨vs, H1, I1, r1, q1⟩ => hc pins s1 σ H1 vs us Q I1 r1 q1) he hpl
end
end L2
namespace HT
open PySem PyProof.Rows
def lexLt : List Int → List Int → Bool
  | [], [] => false
  | [], _ :: _ => true
  | _ :: _, [] => false
  | x :: xs, y :: ys => if x = y then lexLt xs ys else decide (x < y)
theorem lexLt_cons (x y : Int) (xs ys : List Int) : lexLt (x :: xs) (y :: ys) = if x = y then lexLt xs ys else decide (x < y) := rfl
section
open PySem.SeqAt
open PySem.AutoSeq1 (wpAny_loadPart')
open PySem.MeetsSeq PySem.MeetsSeq2 PySem.MeetsSeq3
end
section
variable {prog : Program} {w : World} {A : Around} {E : Value → Shared → Prop} {s : Shared}
def sIx (n d : Nat) : Option Int → Nat
  | none => d
  | some v => if v < 0 then (v + (n : Int)).toNat else min v.toNat n
theorem sIx_le (n d : Nat) (hd : d ≤ n) (o : Option Int) : sIx n d o ≤ n := by
  cases o with
  | none => exact hd
  | some v =>
    show (if v < 0 then (v + (n : Int)).toNat else min v.toNat n) ≤ n
    by_cases hv : v < 0
    · rw [if_pos hv]; omega
    · rw [if_neg hv]; exact Nat.min_le_right _ _
theorem clip_eq (v : Int) (n d : Nat) : (if v < 0 then max (v + (n : Int)) 0 else min v (n : Int)) = ((sIx n d (some v) : Nat) : Int) := by
  show (if v < 0 then max (v + (n : Int)) 0 else min v (n : Int)) = (((if v < 0 then (v + (n : Int)).toNat else min v.toNat n) : Nat) : Int)
  by_cases hv : v < 0
  · simp only [if_pos hv]; omega
  · simp only [if_neg hv]; omega
theorem adjust_gen (lo hi : Option Int) (n : Nat) : Builtin.Slice.sliceAdjust lo hi 1 (n : Int) = (((sIx n 0 lo : Nat) : Int), ((sIx n n hi : Nat) : Int)) := by
  have h1 : ¬ ((1 : Int) < 0) := by omega
  unfold Builtin.Slice.sliceAdjust
  simp only [h1, if_false]
  refine Prod.ext ?_ ?_
  · cases lo with
    | none => rfl
    | some v => exact clip_eq v n 0
  · cases hi with
    | none => rfl
    | some v => exact clip_eq v n n
theorem places_gen (i j : Nat) : Builtin.Slice.slicePlaces (i : Int) (j : Int) 1 = j - i := by
  unfold Builtin.Slice.slicePlaces
  have h1 : (1 : Int) > 0 := by omega
  simp only [h1, if_true, Int.ediv_one]
  split <;> omega
theorem slicePart_ {v : Value} {o : Option Int} {Q : Option Int → Shared → Prop} (p : IsPart v o) (h : Q o s) : wpAny (model prog w) A (Builtin.Slice.slicePartIndex v) Q E s := by
  cases p with
  | none => exact slicePart_none h
  | int i t => exact slicePart_int h
theorem sliceApplied_gen {sl : Addr} {vl vu : Value} {lo hi : Option Int} {n : Nat} {Q : Int × Int × Nat → Shared → Prop} (hs : s.heap.IsSliceOf sl vl vu .none) (pl : IsPart vl lo) (pu : IsPart vu hi)
    (h : Q (((sIx n 0 lo : Nat) : Int), 1, sIx n n hi - sIx n 0 lo) s) : wpAny (model prog w) A (Builtin.Slice.sliceApplied (.ref sl) (pure (n : Int))) Q E s := by
  obtain ⟨os, hos, hcs, hds⟩ := id hs
  unfold Builtin.Slice.sliceApplied Builtin.Slice.sliceFields
  refine wpAny_bind (wpAny_bind (wpAny_field hos hds (x := vl) rfl (wpAny_bind (wpAny_field hos hds (x := vu) rfl (wpAny_bind (wpAny_field hos hds (x := .none) rfl (wpAny_pure ?_)))))))
  refine wpAny_bind (slicePart_none ?_)
  show wpAny _ _ (if ((1 : Int) == 0) = true then _ else _) _ _ s
  rw [if_neg (by decide)]
  refine wpAny_bind (slicePart_ pl (wpAny_bind (slicePart_ pu (wpAny_bind (wpAny_pure ?_)))))
  show wpAny _ _ (match Builtin.Slice.sliceAdjust lo hi 1 (n : Int) with | (lo, hi) => pure (lo, (1 : Int), Builtin.Slice.slicePlaces lo hi 1)) _ _ s
  rw [adjust_gen lo hi n]
  show wpAny _ _ (pure (((sIx n 0 lo : Nat) : Int), (1 : Int), Builtin.Slice.slicePlaces ((sIx n 0 lo : Nat) : Int) ((sIx n n hi : Nat) : Int) 1)) _ _ s
  rw [places_gen]
  exact wpAny_pure h
theorem pick_gen (xs : Array Value) (i k : Nat) : ((List.range k).filterMap fun (m : Nat) => xs[((i : Int) + (m : Int) * 1).toNat]?).toArray = ((xs.toList.drop i).take k).toArray := by
  have e : (fun (m : Nat) => xs[((i : Int) + (m : Int) * 1).toNat]?) = fun m => xs[i + m]? := by
    funext m
    have : ((i : Int) + (m : Int) * 1).toNat = i + m := by omega
    rw [this]
  rw [e]
  have := pick_run xs i k
  rw [List.filterMap_map] at this
  have e2 : ((fun x => xs[x]?) ∘ fun x => i + x) = fun m => xs[i + m]? := rfl
  rw [e2] at this
  rw [this]
theorem getItem_tuple_cut {t sl : Addr} {items : Array Value} {vl vu : Value} {lo hi : Option Int} {Q : Value → Shared → Prop} (ht : IsTup s.heap t items) (hs : s.heap.IsSliceOf sl vl vu .none) (pl : IsPart vl lo) (pu : IsPart vu hi)
    (hw : ¬ (sIx items.size 0 lo = 0 ∧ sIx items.size items.size hi = items.size))
    (h : Q (.ref s.heap.objs.size) { s with heap := s.heap.push { cls := .type "tuple", data := .seq ((items.toList.drop (sIx items.size 0 lo)).take (sIx items.size items.size hi - sIx items.size 0 lo)).toArray } })
    (hsz : items.size ≤ sizeLine) : wpAny (model prog w) A (getItem (.ref t) (.ref sl)) Q E s := by
  have htake : sizeOk (.seq ((items.toList.drop (sIx items.size 0 lo)).take (sIx items.size items.size hi - sIx items.size 0 lo)).toArray) := by
    show ((items.toList.drop (sIx items.size 0 lo)).take (sIx items.size items.size hi - sIx items.size 0 lo)).toArray.size ≤ sizeLine
    rw [List.size_toArray, List.length_take, List.length_drop, Array.length_toList]
    omega
  have hj : sIx items.size items.size hi ≤ items.size := sIx_le _ _ (Nat.le_refl _) hi
  obtain ⟨os, hos, hcs, hds⟩ := id hs
  have hTs : s.TypeIs (.ref sl) "slice" := ⟨os, hos, hcs⟩
  unfold getItem
  try with_reducible refine wpAny_holding ?_
  first | refine wpAny_bind (wpAny_pure ?_) | skip
  refine wpAny_bind (wpAny_sequenceKey ht.typeIs (by decide) ?_)
  refine wpAny_bind (wpAny_callSpecial?_slot (name := Str.ofString "__getitem__") ht.typeIs PyProof.Rows.slot_tuple_getitem
    (wpAny_call_entry PyProof.Rows.slot_tuple_getitem ht.typeIs entry_tuple_getitem ?_ (args_tuple_getitem _ _)))
  show wpAny _ _ (Builtin.Tuple.tupleItemsOf (.ref t) >>= _) _ _ s
  refine wpAny_bind (tupleItemsOf_ ht ?_)
  refine wpAny_bind (wpAny_typeOf hTs ?_)
  rw [if_pos (by decide)]
  refine wpAny_bind (sliceApplied_gen hs pl pu ?_)
  have hno : ¬ ((((sIx items.size 0 lo : Nat) : Int) == 0 && (1 : Int) == 1 && (sIx items.size items.size hi - sIx items.size 0 lo) == items.size) = true) := by
    intro q
    rw [Bool.and_eq_true, Bool.and_eq_true] at q
    have q1 : ((sIx items.size 0 lo : Nat) : Int) = 0 := eq_of_beq q.1.1
    have q2 : sIx items.size items.size hi - sIx items.size 0 lo = items.size := eq_of_beq q.2
    exact hw ⟨by omega, by omega⟩
  show wpAny _ _ (if (((sIx items.size 0 lo : Nat) : Int) == 0 && (1 : Int) == 1 && (sIx items.size items.size hi - sIx items.size 0 lo) == items.size) = true then _ else _) _ _ s
  rw [if_neg hno, pick_gen]
  first
    | exact wpAny_bind (m := Builtin.Tuple.tupleExact _) (wpAny_newObj_type (wpAny_pure ⟨_, rfl, wpAny_pure h⟩) htake)
    | exact wpAny_bind (m := Builtin.Tuple.tupleExact _) (wpAny_newObj_type (wpAny_bind (wpAny_pure (wpAny_pure ⟨_, rfl, wpAny_pure h⟩))) htake)
    | exact wpAny_bind (wpAny_bind (m := Builtin.Tuple.tupleExact _) (wpAny_newObj_type (wpAny_pure (wpAny_pure ⟨_, rfl, wpAny_pure h⟩)) htake))
    | exact wpAny_bind (wpAny_bind (m := Builtin.Tuple.tupleExact _) (wpAny_newObj_type (wpAny_pure ⟨_, rfl, wpAny_pure h⟩) htake))
end
end HT
namespace L2
open PySem PySem.Spec PyProof.Rows
abbrev TO := St → Hp → (Option Int → Hp → Prop) → Prop
def PO (X : Cx) (e : Option Expr) (t : TO) : Prop :=
  ∀ (pins : List (Addr × Obj)) (s : Shared) (σ : St) (H : Hp) (Q : Option Int → Hp → Prop), Inv X pins σ H s → t σ H Q →
    wpAny (model X.prog X.w) X.A (evalPart e X.env) (fun u s' => ∃ o H', Inv X pins σ H' s' ∧ IsPart u o ∧ Q o H') X.xe s
def tNoPart : TO := fun _ H Q => Q none H
def tPart (t : TE) : TO := fun σ H Q => t σ H fun x H1 => ∃ i, x = .int i ∧ Q (some i) H1
section
variable {X : Cx} {e : Expr} {te : TE} {lo hi : Option Expr} {tl th : TO} {pos p2 : Pos}
theorem po_none : PO X none tNoPart := by
  intro pins s σ H Q I h
  rw [evalPart_none]
  exact wpAny_pure ⟨none, H, I, .none, h⟩
theorem po_some (h : PE X e te) : PO X (some e) (tPart te) := by
  intro pins s σ H Q I hw
  rw [evalPart_some]
  refine thn (h pins s σ H _ I hw) fun u s1 ⟨x, H1, I1, r1, q1⟩ => ?_
  obtain ⟨i, rfl, q⟩ := q1
  obtain ⟨t, rfl⟩ := r1
  exact ⟨some i, H1, I1, .int i t, q⟩
def SlR (X : Cx) (r : V → Option Int → Option Int → Hp → VK → Prop) : Prop :=
  ∀ (pins : List (Addr × Obj)) (s : Shared) (σ : St) (H : Hp) (x : V) (v vl vu : Value) (lo hi : Option Int) (sl : Addr) (Q : VK), Inv X pins σ H s → RelV x v → s.heap.IsSliceOf sl vl vu .none → IsPart vl lo → IsPart vu hi → r x lo hi H Q →
    ∃ T id, typeLookup (.type T) "__getitem__" = pure (some (.builtin id)) ∧ s.TypeIs v T ∧ wpAny (model X.prog X.w) X.A (getItem v (.ref sl)) (EP X pins σ Q) X.xe s
theorem SlR.or {r r' : V → Option Int → Option Int → Hp → VK → Prop} (h : SlR X r) (h' : SlR X r') : SlR X (fun x lo hi H Q => r x lo hi H Q ∨ r' x lo hi H Q) := by
  intro pins s σ H x v vl vu lo hi sl Q I rx hs pl pu q
  rcases q with q | q
  · exact h pins s σ H x v vl vu lo hi sl Q I rx hs pl pu q
  · exact h' pins s σ H x v vl vu lo hi sl Q I rx hs pl pu q
def tSl (r : V → Option Int → Option Int → Hp → VK → Prop) (te : TE) (tl th : TO) : TE := fun σ H Q => te σ H fun x H1 => tl σ H1 fun l H2 => th σ H2 fun u H3 => r x l u H3 Q
theorem pe_slice {r : V → Option Int → Option Int → Hp → VK → Prop} (hr : SlR X r) (he : PE X e te) (hl : PO X lo tl) (hu : PO X hi th) : PE X (.Subscript e (.Slice lo hi none p2) pos) (tSl r te tl th) := by
  intro pins s σ H Q I h
  refine Subscript_ (thn (he pins s σ H _ I h) fun v s1 ⟨x, H1, I1, r1, q1⟩ => ?_)
  refine wpAny_Slice (thn (hl pins s1 σ H1 _ I1 q1) fun vl s2 ⟨l, H2, I2, pl, q2⟩ => thn (hu pins s2 σ H2 _ I2 q2) fun vu s3 ⟨u, H3, I3, pu, q3⟩ => ?_)
  rw [evalPart_none]
  refine wpAny_pure ?_
  have I4 : Inv X pins σ H3 { s3 with heap := s3.heap.push { cls := .type "slice", data := .fields #[vl, vu, .none] } } := I3.kept (t' := s3.toks) fun b ob q => Heap.get?_push_of_some _ q
  obtain ⟨T, id, hT, ht, hg⟩ := hr pins { s3 with heap := s3.heap.push { cls := .type "slice", data := .fields #[vl, vu, .none] } } σ H3 x v vl vu l u s3.heap.objs.size Q I4 r1 (Heap.IsSliceOf.new ..) pl pu q3
  show wpAny (model X.prog X.w) X.A (subscriptTail e (.Slice lo hi none p2) v (.ref s3.heap.objs.size)) (EP X pins σ Q) X.xe { s3 with heap := s3.heap.push { cls := .type "slice", data := .fields #[vl, vu, .none] } }
  exact tail_any (ops := [.ref s3.heap.objs.size, v]) ht hT hg (by with_unfolding_all rfl)
def cutV (xs : List V) (lo hi : Option Int) : List V := (xs.drop (HT.sIx xs.length 0 lo)).take (HT.sIx xs.length xs.length hi - HT.sIx xs.length 0 lo)
theorem cutV_length (xs : List V) (lo hi : Option Int) : (cutV xs lo hi).length ≤ xs.length := by
  unfold cutV
  rw [List.length_take, List.length_drop]
  omega
def rSlT (K : PySem.W.Frag) : V → Option Int → Option Int → Hp → VK → Prop := fun x lo hi H Q => ∃ a xs, x = .ref a ∧ SqT K H a xs ∧
  ¬ (HT.sIx xs.length 0 lo = 0 ∧ HT.sIx xs.length xs.length hi = xs.length) ∧ ∀ p, H p = none → Q (.ref p) (upd H p (.tup (cutV xs lo hi)))
theorem sl_tup : SlR X (rSlT X.K) := by
  intro pins s σ H x v vl vu lo hi sl Q I rx hs pl pu h
  obtain ⟨a, xs, rfl, hx, hw, q⟩ := h
  cases rx
  obtain ⟨its, r, ht, hz⟩ := I.tuple hx
  have hlen : its.toArray.size = xs.length := by rw [List.size_toArray]; exact r.length.symm
  refine ⟨"tuple", _, PyProof.Rows.slot_tuple_getitem.lookup, ht.typeIs, ?_⟩
  refine HT.getItem_tuple_cut ht hs pl pu (by rw [hlen]; exact hw) ?_ (by rw [hlen]; exact hz)
  rw [hlen]
  refine ⟨.ref s.heap.objs.size, _, I.laid (t' := s.toks) (o := .tup (cutV xs lo hi)) (fun b ob q => Heap.get?_push_of_some _ q) (Nat.le_refl _) ?_, rfl, q _ (I.hok.fresh (Nat.le_refl _))⟩
  exact ⟨Nat.le_trans (cutV_length xs lo hi) hz, _, (r.drop (HT.sIx xs.length 0 lo)).take (HT.sIx xs.length xs.length hi - HT.sIx xs.length 0 lo), IsTup.new _ _⟩
end
end L2
namespace L2
open PySem PySem.Spec PyProof.Rows
def ixN (n : Nat) (i : Int) : Option Nat := if 0 ≤ i then (if i < n then some i.toNat else none) else if -(n : Int) ≤ i then some (i + n).toNat else none
def atI {α : Type} (xs : List α) (i : Int) : Option α := (ixN xs.length i).bind fun j => xs[j]?
theorem ixN_seq {n : Nat} {i : Int} {j : Nat} (h : ixN n i = some j) : seqIndex? i n = some j ∧ j < n ∧ -(n : Int) ≤ i ∧ i < n := by
  unfold ixN at h
  by_cases h0 : 0 ≤ i
  · rw [if_pos h0] at h
    by_cases h1 : i < n
    · rw [if_pos h1] at h
      have e : i.toNat = j := Option.some.inj h
      exact ⟨by rw [seqIndex_of h0 h1, e], by omega, by omega, h1⟩
    · rw [if_neg h1] at h; cases h
  · rw [if_neg h0] at h
    by_cases h1 : -(n : Int) ≤ i
    · rw [if_pos h1] at h
      have e : (i + n).toNat = j := Option.some.inj h
      exact ⟨by rw [seqIndex_neg (by omega) h1, e], by omega, h1, by omega⟩
    · rw [if_neg h1] at h; cases h
theorem atI_get {α : Type} {xs : List α} {i : Int} {v : α} (h : atI xs i = some v) : ∃ j, seqIndex? i xs.length = some j ∧ xs[j]? = some v ∧ j < xs.length ∧ -(xs.length : Int) ≤ i ∧ i < xs.length := by
  unfold atI at h
  cases e : ixN xs.length i with
  | none => rw [e] at h; cases h
  | some j =>
    rw [e] at h
    obtain ⟨h1, h2, h3, h4⟩ := ixN_seq e
    exact ⟨j, h1, h, h2, h3, h4⟩
theorem atI_nat {α : Type} {xs : List α} {j : Nat} {v : α} (h : xs[j]? = some v) : atI xs (j : Int) = some v := by
  have hj : j < xs.length := (List.getElem?_eq_some_iff.mp h).1
  have e : ixN xs.length (j : Int) = some j := by
    unfold ixN
    rw [if_pos (by omega), if_pos (by omega)]; simp
  unfold atI; rw [e]; exact h
def PlainIx (b : Expr) : Prop := ∀ o i, subscripted b false o i = operate [o, i] (getItem o i)
def IxR (X : Cx) (r : R2) : Prop :=
  ∀ (value slice : Expr) (pins : List (Addr × Obj)) (s : Shared) (σ : St) (H : Hp) (x y : V) (v u : Value) (Q : VK), Inv X pins σ H s → RelV x v → RelV y u → r x y H Q →
    subscripted slice false v u = operate [v, u] (getItem v u) → wpAny (model X.prog X.w) X.A (subscriptTail value slice v u) (EP X pins σ Q) X.xe s
def MtR (X : Cx) (id : String) (r : V → List V → Hp → VK → Prop) : Prop :=
  ∀ (pins : List (Addr × Obj)) (s : Shared) (σ : St) (H : Hp) (x : V) (xs : List V) (v : Value) (us : List Value) (Q : VK), Inv X pins σ H s → RelV x v → Vals xs us → r x xs H Q →
    wpAny (model X.prog X.w) X.A (call (.builtin id) (v :: us)) (EP X pins σ Q) X.xe s
section
variable {X : Cx} {a b : Expr} {ta tb : TE} {pos : Pos}
theorem IxR.or {r r' : R2} (h : IxR X r) (h' : IxR X r') : IxR X (fun x y H Q => r x y H Q ∨ r' x y H Q) := by
  intro value slice pins s σ H x y v u Q I rx ry q hs
  rcases q with q | q
  · exact h value slice pins s σ H x y v u Q I rx ry q hs
  · exact h' value slice pins s σ H x y v u Q I rx ry q hs
theorem MtR.or {id : String} {r r' : V → List V → Hp → VK → Prop} (h : MtR X id r) (h' : MtR X id r') : MtR X id (fun x xs H Q => r x xs H Q ∨ r' x xs H Q) := by
  intro pins s σ H x xs v us Q I rx rs q
  rcases q with q | q
  · exact h pins s σ H x xs v us Q I rx rs q
  · exact h' pins s σ H x xs v us Q I rx rs q
theorem pe_ix {r : R2} (hr : IxR X r) (ha : PE X a ta) (hb : PE X b tb) (hs : PlainIx b) : PE X (.Subscript a b pos) (tOp r ta tb) := by
  intro pins s σ H Q I h
  exact Subscript_ (binT ha hb I h fun v u s2 x y H2 I2 rx ry q => hr a b pins s2 σ H2 x y v u Q I2 rx ry q (hs _ _))
def rIxL (K : PySem.W.Frag) : R2 := fun x y H Q => ∃ p xs i v, x = .ref p ∧ y = .int i ∧ SqL K H p xs ∧ atI xs i = some v ∧ Q v H
def rIxT (K : PySem.W.Frag) : R2 := fun x y H Q => ∃ p xs i v, x = .ref p ∧ y = .int i ∧ SqT K H p xs ∧ atI xs i = some v ∧ Q v H
def rIxS : R2 := fun x y H Q => ∃ z i c, x = .str z ∧ y = .int i ∧ z.length ≤ sizeLine ∧ atI z.cps.toList i = some c ∧ Q (.str ⟨#[c]⟩) H
theorem ix_list : IxR X (rIxL X.K) := by
  intro value slice pins s σ H x y v u Q I rx ry h hs
  obtain ⟨p, xs, i, z, rfl, rfl, hq, he, q⟩ := h
  cases rx
  obtain ⟨t, rfl⟩ := ry
  obtain ⟨its, r, pl, hz⟩ := I.list hq
  obtain ⟨j, h1, h2, h3, h4, h5⟩ := atI_get he
  obtain ⟨w, ew, rw'⟩ := r.get h2
  have hl := r.length
  have hn := line63
  have fin : EP X pins σ Q w s := ⟨z, H, I, rw', q⟩
  by_cases h0 : 0 ≤ i
  · have hj : i.toNat = j := by
      rw [seqIndex_of h0 h5] at h1
      exact Option.some.inj h1
    exact item_listR pl.isList h0 (by omega) (by rw [hj]; simpa using ew) fin hs
  · have hj : (i + (its.toArray.size : Int)).toNat = j := by
      rw [seqIndex_neg (by omega) h4] at h1
      rw [List.size_toArray, ← hl]
      exact Option.some.inj h1
    exact subscriptTail_builtinR (x := w) pl.isList.typeIs slot_list_getitem.lookup
      (wpAny_getItem_list_neg (Q := fun r s' => r = w ∧ EP X pins σ Q r s') pl.isList (by omega) (by rw [List.size_toArray] <;> omega) (by omega) (by rw [hj]; simpa using ew) ⟨rfl, fin⟩) hs
theorem ix_tup : IxR X (rIxT X.K) := by
  intro value slice pins s σ H x y v u Q I rx ry h hs
  obtain ⟨p, xs, i, z, rfl, rfl, hq, he, q⟩ := h
  cases rx
  obtain ⟨t, rfl⟩ := ry
  obtain ⟨its, r, pl, hz⟩ := I.tuple hq
  obtain ⟨j, h1, h2, h3, h4, h5⟩ := atI_get he
  obtain ⟨w, ew, rw'⟩ := r.get h2
  have hl := r.length
  have hn := line63
  have fin : EP X pins σ Q w s := ⟨z, H, I, rw', q⟩
  exact subscriptTail_builtinR (x := w) pl.typeIs slot_tuple_getitem.lookup
    (getItem_tuple (j := j) (Q := fun r s' => r = w ∧ EP X pins σ Q r s') pl (by omega) (by omega) (by rw [List.size_toArray, ← hl]; exact h1) (by simpa using ew) ⟨rfl, fin⟩) hs
theorem ix_str : IxR X rIxS := by
  intro value slice pins s σ H x y v u Q I rx ry h hs
  obtain ⟨z, i, c, rfl, rfl, hz, he, q⟩ := h
  obtain ⟨t, rfl⟩ := rx
  obtain ⟨t', rfl⟩ := ry
  obtain ⟨j, h1, h2, h3, h4, h5⟩ := atI_get he
  have hl : z.cps.toList.length = z.length := by simp [Str.length]
  rw [hl] at h1 h4 h5
  have hn := line63
  exact tail_any (typeIs_str s z t) slot_str_getitem.lookup (getItem_str (c := c) (by
    have e1 : decide (i < -(2 ^ 63 : Int)) = false := decide_eq_false (by omega)
    have e2 : decide (i ≥ 2 ^ 63) = false := decide_eq_false (by omega)
    rw [e1, e2, Bool.or_false]) (by rw [h1]; simpa using h2) ⟨.str ⟨#[c]⟩, H, I.tok _, ⟨_, rfl⟩, q⟩) hs
def rIx (K : PySem.W.Frag) : R2 := fun x y H Q => rIxL K x y H Q ∨ rIxT K x y H Q ∨ rIxS x y H Q
theorem ix_seq : IxR X (rIx X.K) := ix_list.or (ix_tup.or ix_str)
theorem Inv.lst {pins : List (Addr × Obj)} {σ : St} {H : Hp} {s : Shared} {p : Addr} {xs : List V} (I : Inv X pins σ H s) (h : H p = some (.lst xs)) :
    ∃ (its : List Value) (n : Nat), Vals xs its ∧ s.heap.get? p = some { cls := .type "list", data := .seq its.toArray n } ∧ xs.length ≤ sizeLine := by
  obtain ⟨z, its, n, r, e⟩ := I.hok p _ h
  exact ⟨its, n, r, e, z⟩
theorem slice_bounds (lo hi : Option Int) (n : Nat) : (sliceBounds lo hi none n).1 = ((HT.sIx n 0 lo : Nat) : Int) ∧ (sliceBounds lo hi none n).2.1 = ((HT.sIx n n hi : Nat) : Int) ∧ (sliceBounds lo hi none n).2.2 = 1 := by
  refine ⟨?_, ?_, rfl⟩
  · cases lo with
    | none => simp [sliceBounds, HT.sIx]
    | some i =>
      simp only [sliceBounds, HT.sIx, Option.getD_none, show (1 : Int) > 0 by decide, if_true]
      by_cases h : i < 0
      · simp only [h, if_true] <;> omega
      · simp only [h, if_false] <;> omega
  · cases hi with
    | none => simp [sliceBounds, HT.sIx]
    | some i =>
      simp only [sliceBounds, HT.sIx, Option.getD_none, show (1 : Int) > 0 by decide, if_true]
      by_cases h : i < 0
      · simp only [h, if_true] <;> omega
      · simp only [h, if_false] <;> omega
theorem slicePick_cut (its : List Value) (lo hi : Option Int) : slicePick its.toArray lo hi none = ((its.drop (HT.sIx its.length 0 lo)).take (HT.sIx its.length its.length hi - HT.sIx its.length 0 lo)).toArray := by
  obtain ⟨h1, h2, h3⟩ := slice_bounds lo hi its.toArray.size
  unfold slicePick
  rw [h1, h2, h3]
  simp only [sliceRange_one, pick_run, List.size_toArray] <;> rfl
def rSlL (K : PySem.W.Frag) : V → Option Int → Option Int → Hp → VK → Prop := fun x lo hi H Q => ∃ a xs, x = .ref a ∧ SqL K H a xs ∧ ∀ p, H p = none → Q (.ref p) (upd H p (.lst (cutV xs lo hi)))
theorem sl_list : SlR X (rSlL X.K) := by
  intro pins s σ H x v vl vu lo hi sl Q I rx hs pl pu h
  obtain ⟨a, xs, rfl, hx, q⟩ := h
  cases rx
  obtain ⟨its, r, ht, hz⟩ := I.list hx
  have hlen := r.length
  refine ⟨"list", _, slot_list_getitem.lookup, ht.isList.typeIs, ?_⟩
  refine wpAny_getItem_list_slice ht.isList hs pl pu .none (by simp) ?_ (by rw [List.size_toArray] <;> omega)
  rw [slicePick_cut, ← hlen]
  refine ⟨.ref s.heap.objs.size, _, I.laid (t' := s.toks) (o := .lst (cutV xs lo hi)) (fun b ob q => Heap.get?_push_of_some _ q) (Nat.le_refl _) ?_, rfl, q _ (I.hok.fresh (Nat.le_refl _))⟩
  exact ⟨Nat.le_trans (cutV_length xs lo hi) hz, _, 0, (r.drop (HT.sIx xs.length 0 lo)).take (HT.sIx xs.length xs.length hi - HT.sIx xs.length 0 lo), Heap.get?_push_size _ rfl⟩
def flatV : V → Bool
  | .non => true
  | .bl _ => true
  | .int _ => true
  | .str _ => true
  | _ => false
def eqV : V → V → Bool
  | .non, .non => true
  | .bl a, .bl b => a == b
  | .bl a, .int b => (if a then 1 else 0) == b
  | .int a, .bl b => a == (if b then 1 else 0)
  | .int a, .int b => a == b
  | .str a, .str b => a == b
  | _, _ => false
theorem eqAt_V {A : Around} {s : Shared} {y x : V} {u v : Value} (ry : RelV y u) (rx : RelV x v) (fy : flatV y = true) (fx : flatV x = true) : SeqAt.EqAt A s u v (eqV y x) := by
  cases y with
  | non =>
    cases ry
    cases x with
    | non => cases rx; exact SeqAt.EqAt.same _
    | bl b => cases rx; exact SeqAt.EqAt.none_bool b
    | int b => obtain ⟨t, rfl⟩ := rx; exact SeqAt.EqAt.none_int b t
    | str b => obtain ⟨t, rfl⟩ := rx; exact SeqAt.EqAt.none_str b t
    | _ => exact absurd (show false = true from fx) Bool.false_ne_true
  | bl a =>
    cases ry
    cases x with
    | non => cases rx; exact SeqAt.EqAt.bool_none a
    | bl b => cases rx; exact SeqAt.EqAt.bool_bool a b
    | int b => obtain ⟨t, rfl⟩ := rx; exact SeqAt.EqAt.bool_int a b t
    | str b => obtain ⟨t, rfl⟩ := rx; exact SeqAt.EqAt.bool_str a b t
    | _ => exact absurd (show false = true from fx) Bool.false_ne_true
  | int a =>
    obtain ⟨t', rfl⟩ := ry
    cases x with
    | non => cases rx; exact SeqAt.EqAt.int_none a t'
    | bl b => cases rx; exact SeqAt.EqAt.int_bool a t' b
    | int b => obtain ⟨t, rfl⟩ := rx; exact SeqAt.EqAt.int_int a t' b t
    | str b => obtain ⟨t, rfl⟩ := rx; exact SeqAt.EqAt.int_str a t' b t
    | _ => exact absurd (show false = true from fx) Bool.false_ne_true
  | str a =>
    obtain ⟨t', rfl⟩ := ry
    cases x with
    | non => cases rx; exact SeqAt.EqAt.str_none a t'
    | bl b => cases rx; exact SeqAt.EqAt.str_bool a t' b
    | int b => obtain ⟨t, rfl⟩ := rx; exact SeqAt.EqAt.str_int a t' b t
    | str b => obtain ⟨t, rfl⟩ := rx; exact SeqAt.EqAt.str_str a t' b t
    | _ => exact absurd (show false = true from fx) Bool.false_ne_true
  | _ => exact absurd (show false = true from fy) Bool.false_ne_true
def eqU (x : V) (u : Value) : Bool := match u with
  | .none => eqV .non x
  | .bool b => eqV (.bl b) x
  | .int i _ => eqV (.int i) x
  | .str z _ => eqV (.str z) x
  | _ => false
theorem eqU_of {x y : V} {u : Value} (r : RelV y u) (f : flatV y = true) : eqU x u = eqV y x := by
  cases y with
  | non => cases r; rfl
  | bl b => cases r; rfl
  | int i => obtain ⟨t, rfl⟩ := r; rfl
  | str z => obtain ⟨t, rfl⟩ := r; rfl
  | _ => exact absurd (show false = true from f) Bool.false_ne_true
theorem mem_eqAt {A : Around} {s : Shared} {x : V} {v : Value} (rx : RelV x v) (fx : flatV x = true) : ∀ {xs : List V} {us : List Value}, Vals xs us → xs.all flatV = true → ∀ u ∈ us, SeqAt.EqAt A s u v (eqU x u)
  | _, _, .nil, _ => fun u hu => by cases hu
  | y :: xs, u :: us, .cons r t, f => fun u' hu => by
    rw [List.all_cons, Bool.and_eq_true] at f
    rcases List.mem_cons.mp hu with rfl | hu
    · rw [eqU_of r f.1]; exact eqAt_V r rx f.1 fx
    · exact mem_eqAt rx fx t f.2 u' hu
theorem CallR.or {f : Value} {r r' : List V → Hp → VK → Prop} (h : CallR X f r) (h' : CallR X f r') : CallR X f (fun xs H Q => r xs H Q ∨ r' xs H Q) := by
  intro pins s σ H xs us Q I rs q
  rcases q with q | q
  · exact h pins s σ H xs us Q I rs q
  · exact h' pins s σ H xs us Q I rs q
theorem call_tuple_of : CallR X (.type "tuple") (fun xs H Q => ∃ p ys, xs = [.ref p] ∧ ((SqL X.K H p ys ∧ ∀ l, H l = none → Q (.ref l) (upd H l (.tup ys))) ∨ (SqT X.K H p ys ∧ Q (.ref p) H))) := by
  intro pins s σ H xs us Q I r h
  obtain ⟨p, ys, rfl, h⟩ := h
  obtain ⟨u, rfl, rx⟩ := vals1 r
  cases rx
  rcases h with ⟨hq, q⟩ | ⟨hq, q⟩
  · obtain ⟨its, r', pl, hz⟩ := I.list hq
    have hlen := r'.length
    refine call_tuple_list pl.isList (fun h' kp => ?_) (by simp only [List.size_toArray] <;> omega)
    have I1 : Inv X pins σ H { s with heap := h' } := I.kept (t' := s.toks) kp
    have I2 : Inv X pins σ (upd H h'.objs.size (.tup ys)) { s with heap := h'.push { cls := .type "tuple", data := .seq its.toArray } } :=
      I1.laid (t' := s.toks) (fun b o e => Heap.get?_push_of_some _ e) (Nat.le_refl _) (show ObjOk X.prog X.w _ _ _ (.tup ys) from ⟨hz, its, r', IsTup.new _ _⟩)
    exact ⟨.ref h'.objs.size, _, I2, rfl, q _ (I1.hok.fresh (Nat.le_refl _))⟩
  · obtain ⟨its, r', pl, hz⟩ := I.tuple hq
    exact call_tuple_same pl ⟨.ref p, H, I, rfl, q⟩
def tyV (K : PySem.W.Frag) (T : String) (x : V) (H : Hp) : Prop := match x with
  | .str _ => T = "str"
  | .int _ => T = "int"
  | .ref p => (T = "list" ∧ ∃ xs, SqL K H p xs) ∨ (T = "tuple" ∧ ∃ o, K.lookup p = some o ∧ o.cls = .type "tuple" ∧ o.dict = none) ∨
      (T = "dict" ∧ ((∃ kvs, H p = some (.dK kvs)) ∨ ∃ kvs, H p = some (.dT kvs))) ∨ (T = "set" ∧ ∃ S n, H p = some (.set S n))
  | _ => False
theorem tyV_is {pins : List (Addr × Obj)} {σ : St} {H : Hp} {s : Shared} {T : String} {x : V} {v : Value} (I : Inv X pins σ H s) (r : RelV x v) (ty : tyV X.K T x H) :
    s.TypeIs v T ∧ ∀ a, v = .ref a → ∃ ob, s.heap.get? a = some ob ∧ ob.dict = none := by
  cases x with
  | str z =>
    obtain ⟨t, rfl⟩ := r
    cases (show T = "str" from ty)
    exact ⟨typeIs_str s z t, fun _ e => nomatch e⟩
  | int i =>
    obtain ⟨t, rfl⟩ := r
    cases (show T = "int" from ty)
    exact ⟨typeIs_int s i t, fun _ e => nomatch e⟩
  | ref p =>
    cases r
    rcases ty with ⟨rfl, xs, hq⟩ | ⟨rfl, o, hk, hc, hd⟩ | ⟨rfl, hk⟩ | ⟨rfl, S, n, hk⟩
    · obtain ⟨its, _, pl, _⟩ := I.list hq
      refine ⟨pl.isList.typeIs, fun a e => ?_⟩
      cases e
      obtain ⟨o, n, e, c, hd, _⟩ := pl
      exact ⟨o, e, hd⟩
    · refine ⟨⟨o, I.kIn p o hk, hc⟩, fun a e => ?_⟩
      cases e
      exact ⟨o, I.kIn _ o hk, hd⟩
    · have z : ∃ o, s.heap.get? p = some o ∧ o.ExactDict := by
        rcases hk with ⟨kvs, hk⟩ | ⟨kvs, hk⟩
        · obtain ⟨_, _, _, _, o, _, _, e, ex, _⟩ := I.hok p _ hk
          exact ⟨o, e, ex⟩
        · obtain ⟨_, _, _, _, o, _, _, e, ex, _⟩ := I.hok p _ hk
          exact ⟨o, e, ex⟩
      obtain ⟨o, e, ex⟩ := z
      refine ⟨⟨o, e, ex.1⟩, fun a e2 => ?_⟩
      cases e2
      exact ⟨o, e, ex.2.1⟩
    · obtain ⟨o, _, _, _, e, ex, _⟩ := I.hok p _ hk
      refine ⟨⟨o, e, ex.1⟩, fun a e2 => ?_⟩
      cases e2
      exact ⟨o, e, ex.2.1⟩
  | _ => exact False.elim ty
def tBM (K : PySem.W.Frag) (T : String) (r : V → List V → Hp → VK → Prop) (to : TE) (t : TA) : TE := fun σ H Q => to σ H fun x H1 => tyV K T x H1 ∧ t σ H1 fun xs H2 => r x xs H2 Q
variable {o e : Expr} {es : List Expr} {to : TE} {t : TA} {name : Str} {apos cpos : Pos} {T id : String} {r : V → List V → Hp → VK → Prop}
theorem pe_bm (pa : PlainAttrs T) (slot : Slot T name id) (hty : typeOf (.builtin id) = pure (.type "method_descriptor")) (hm : MtR X id r) (ho : PE X o to) (ha : PA X (e :: es) t)
    (hbase : attributeBase o name X.env (eval o X.env) = eval o X.env := by rfl)
    (hfew : ((backTo cpos (starEach (e :: es) X.env)).all (fun x => !x.1) && (backToKw cpos (keywordEach [] X.env)).all (fun x => x.1.isSome)
      && decide ((e :: es).length + ([] : List Keyword).length + (if ([] : List Keyword).isEmpty then 0 else 1) < 30)) = true := by rfl)
    (hline : (apos.endLine == cpos.line) = true := by rfl) (hs : starEach (e :: es) X.env = (false, eval e X.env) :: starEach es X.env := by rfl) (hplain : (backTo cpos (starEach es X.env)).any (·.1) = false := by rfl) :
    PE X (.Call (.Attribute o name apos) (e :: es) [] cpos) (tBM X.K T r to t) := by
  intro pins s σ H Q I h
  refine wpAny_Call_method_late hbase hfew hline rfl (thn (ho pins s σ H _ I h) fun v s1 ⟨x, H1, I1, r1, ty, q1⟩ => ?_)
  obtain ⟨h1, h2⟩ := tyV_is I1 r1 ty
  refine ⟨T, id, pa, slot, hty, h1, h2, ?_⟩
  have hA := ha cpos pins s1 σ H1 _ I1 q1
  rw [hs] at hA ⊢
  refine Calls.callWith_builtin (by show (false || (backTo cpos (starEach es X.env)).any (·.1)) = false; rw [hplain] <;> rfl) (Calls.evalArgs_plain ?_)
  exact thn hA fun us s2 ⟨vs, H2, I2, r2, q2⟩ => hm pins s2 σ H2 x vs v us Q I2 r1 r2 q2
end
end L2
namespace L2
open PySem PySem.Spec PyProof.Rows
theorem Vals.one : ∀ {x : V} {us : List Value}, Vals [x] us → ∃ u, us = [u] ∧ RelV x u
  | _, _, .cons r .nil => ⟨_, rfl, r⟩
theorem Vals.two : ∀ {x y : V} {us : List Value}, Vals [x, y] us → ∃ u v, us = [u, v] ∧ RelV x u ∧ RelV y v
  | _, _, _, .cons r (.cons q .nil) => ⟨_, _, rfl, r, q⟩
theorem Vals.zero : ∀ {us : List Value}, Vals [] us → us = []
  | _, .nil => rfl
theorem Vals.eraseIdx : ∀ {xs : List V} {us : List Value} (i : Nat), Vals xs us → Vals (xs.eraseIdx i) (us.eraseIdx i)
  | _, _, _, .nil => .nil
  | _, _, 0, .cons _ t => t
  | _, _, i + 1, .cons r t => .cons r (Vals.eraseIdx i t)
theorem Vals.reverse {xs : List V} {us : List Value} (h : Vals xs us) : Vals xs.reverse us.reverse := by
  induction h with
  | nil => exact .nil
  | cons r t ih => rw [List.reverse_cons, List.reverse_cons]; exact Vals.append ih (.cons r .nil)
section
variable {X : Cx} {pins : List (Addr × Obj)} {σ : St} {H : Hp} {s : Shared} {l b : Addr} {xs ys zs : List V}
theorem Inv.lnew {its : List Value} {t' : Nat} (I : Inv X pins σ H s) (hv : Vals ys its) (hz : ys.length ≤ sizeLine) :
    Inv X pins σ (upd H s.heap.objs.size (.lst ys)) { s with heap := s.heap.push { cls := .type "list", data := .seq its.toArray }, toks := t' } :=
  I.laid (fun _ _ q => Heap.get?_push_of_some _ q) (Nat.le_refl _) ⟨hz, its, 0, hv, Heap.get?_push_size _ rfl⟩
theorem Inv.fresh (I : Inv X pins σ H s) : H s.heap.objs.size = none := I.hok.fresh (Nat.le_refl _)
theorem Inv.lstM (I : Inv X pins σ H s) (hH : H l = some (.lst xs)) : xs.length ≤ sizeLine ∧ ∃ (its : List Value) (n : Nat), Vals xs its ∧ xs.length = its.length ∧ s.heap.get? l = some { cls := .type "list", data := .seq its.toArray n } := by
  obtain ⟨z, its, n, r, e⟩ := I.hok l _ hH
  exact ⟨z, its, n, r, r.length, e⟩
end
section
variable {X : Cx}
def rCat : R2 := fun x y H Q => ∃ l b xs zs, x = .ref l ∧ y = .ref b ∧ H l = some (.lst xs) ∧ H b = some (.lst zs) ∧ xs.length + zs.length ≤ sizeLine ∧ ∀ p, H p = none → Q (.ref p) (upd H p (.lst (xs ++ zs)))
theorem op_cat : OpR X (binaryOp .Add) rCat := by
  intro pins s σ H x y v u Q I rx ry h
  obtain ⟨l, b, xs, zs, rfl, rfl, hH, hB, hz, q⟩ := h
  cases rx
  cases ry
  obtain ⟨z, its, n, r, hl, e⟩ := I.lstM hH
  obtain ⟨z2, its2, n2, r2, hl2, e2⟩ := I.lstM hB
  refine PySem.P.add_list e e2 ?_ (by rw [List.size_toArray, List.size_toArray]; omega)
  have ea : its.toArray ++ its2.toArray = (its ++ its2).toArray := by simp
  rw [ea]
  exact ⟨.ref _, _, I.lnew (t' := s.toks) (r.append r2) (by rw [List.length_append]; omega), rfl, q _ I.fresh⟩
end
section
variable {prog : Program} {w : World} {A : Around} {E : Value → Shared → Prop} {s : Shared}
end
section
variable {X : Cx}
end
end L2
namespace L2
open PySem PySem.Spec PyProof.Rows
theorem Vals.ints : ∀ {ns : List Int} {us : List Value}, Vals (ns.map V.int) us → IntsAre us ns
  | [], us, h => by
    rw [List.map_nil] at h
    cases h
    exact IntsAre.nil
  | n :: ns, us, h => by
    rw [List.map_cons] at h
    cases h with
    | cons r t =>
      obtain ⟨k, rfl⟩ := r
      exact IntsAre.cons n k (Vals.ints t)
theorem Vals.strs : ∀ {xs : List Str} {us : List Value}, Vals (xs.map V.str) us → StrsAre us xs
  | [], us, h => by
    rw [List.map_nil] at h
    cases h
    exact StrsAre.nil
  | x :: xs, us, h => by
    rw [List.map_cons] at h
    cases h with
    | cons r t =>
      obtain ⟨k, rfl⟩ := r
      exact StrsAre.cons x k (Vals.strs t)
theorem Vals.ref1 {a : Addr} {us : List Value} (r : Vals [V.ref a] us) : us = [Value.ref a] := by
  cases r with
  | cons r t =>
    cases t
    cases r
    rfl
section
variable {prog : Program} {w : World} {A : Around} {E : Value → Shared → Prop} {s : Shared} {l : Addr} {its : List Value} {ns : List Int} {Q : Value → Shared → Prop}
end
section
variable {X : Cx}
end
section
variable {X : Cx}
def rIndex (K : PySem.W.Frag) : V → List V → Hp → VK → Prop := fun x xs H Q => ∃ (a : Addr) (ys : List V) (y : V) (j : Nat) (z : V), x = V.ref a ∧ xs = [y] ∧ SqL K H a ys ∧ flatV y = true ∧ ys.all flatV = true ∧ ys[j]? = some z ∧ eqV z y = true ∧
  (∀ (m : Nat) (z' : V), m < j → ys[m]? = some z' → eqV z' y = false) ∧ Q (.int (j : Nat)) H
theorem flat_at {ys : List V} (f : ys.all flatV = true) {j : Nat} {z : V} (h : ys[j]? = some z) : flatV z = true := List.all_eq_true.mp f z (List.mem_of_getElem? h)
theorem mt_index : MtR X "list.index" (rIndex X.K) := by
  intro pins s σ H x xs v us Q I rx rxs h
  obtain ⟨a, ys, y, j, z, rfl, rfl, hs, fy, fys, hz, hzj, hno, q⟩ := h
  cases rx
  cases rxs with
  | cons ry rt =>
    rename_i uy ut
    cases rt
    obtain ⟨its, rv, ⟨⟨cls, dd, data, sl⟩, n, ho, hc, hdn, hd⟩, hlen⟩ := I.list hs
    simp only at hc hd
    subst hc hd
    obtain ⟨u, hu, ru⟩ := rv.get hz
    obtain ⟨hjl, hje⟩ := List.getElem?_eq_some_iff.mp hu
    have hvl := rv.length
    have hj : j < its.toArray.size := by simpa using hjl
    have hsl := sizeLine_eq
    refine call_meets PySem.F.slot_list_index ⟨_, ho, rfl⟩ PySem.F.entry_list_index (PySem.F.args_list_index_2 _ _)
      (SeqAt.list_indexAt a its.toArray n dd sl uy (eqU y) j hj (by omega) ?_ ?_) ⟨ho, fun u' hu' => mem_eqAt ry fy rv fys u' (by simpa using hu'), ?_⟩
    · have e1 : its.toArray[j] = u := by simpa using hje
      rw [e1, eqU_of ru (flat_at fys hz)]
      exact hzj
    · intro m hm hmj
      have hml : m < its.length := by simpa using hm
      have hmy : m < ys.length := by omega
      have hy' : ys[m]? = some ys[m] := List.getElem?_eq_getElem hmy
      obtain ⟨u2, hu2, ru2⟩ := rv.get hy'
      obtain ⟨_, hme⟩ := List.getElem?_eq_some_iff.mp hu2
      have e1 : its.toArray[m] = u2 := by simpa using hme
      rw [e1, eqU_of ru2 (flat_at fys hy')]
      exact hno m _ hmj hy'
    · exact ⟨.int (j : Nat), H, I.tok _, ⟨_, rfl⟩, q⟩
end
section
variable {X : Cx}
end
section
variable {X : Cx}
end
mutual
inductive Dp (K : PySem.W.Frag) (H : Hp) : V → PyData → Prop
  | non : Dp K H .non .none
  | bl (b : Bool) : Dp K H (.bl b) (.bool b)
  | int (i : Int) : Dp K H (.int i) (.int i)
  | str (x : Str) : Dp K H (.str x) (.str x)
  | lst {a : Addr} {xs : List V} {ds : List PyData} : SqL K H a xs → DpAll K H xs ds → Dp K H (.ref a) (.list ds)
  | tup {a : Addr} {xs : List V} {ds : List PyData} : SqT K H a xs → DpAll K H xs ds → Dp K H (.ref a) (.tuple ds)
inductive DpAll (K : PySem.W.Frag) (H : Hp) : List V → List PyData → Prop
  | nil : DpAll K H [] []
  | cons {v : V} {vs : List V} {d : PyData} {ds : List PyData} : Dp K H v d → DpAll K H vs ds → DpAll K H (v :: vs) (d :: ds)
end
section
variable {X : Cx} {pins : List (Addr × Obj)} {σ : St} {H : Hp} {s : Shared}
mutual
theorem Dp.reads (I : Inv X pins σ H s) : ∀ (d : PyData) (v : V) (u : Value), Dp X.K H v d → RelV v u → ∃ as, Reads s.heap u d as
  | .none, _, _, h, r => by
    cases h
    cases r
    exact ⟨_, Reads.none⟩
  | .bool b, _, _, h, r => by
    cases h
    cases r
    exact ⟨_, Reads.bool b⟩
  | .int i, _, _, h, r => by
    cases h
    obtain ⟨t, rfl⟩ := r
    exact ⟨_, Reads.int i t⟩
  | .str x, _, _, h, r => by
    cases h
    obtain ⟨t, rfl⟩ := r
    exact ⟨_, Reads.str x t⟩
  | .list ds, _, _, h, r => by
    cases h with
    | lst hs ha =>
      cases r
      obtain ⟨its, rv, ⟨o, n, ho, hc, _, hd⟩, _⟩ := I.list hs
      obtain ⟨as, hr⟩ := Dp.readsAll I ds _ its ha rv
      exact ⟨_, Reads.list ho hc hd hr⟩
  | .tuple ds, _, _, h, r => by
    cases h with
    | tup hs ha =>
      cases r
      obtain ⟨its, rv, ⟨o, ho, hc, n, hd⟩, _⟩ := I.tuple hs
      obtain ⟨as, hr⟩ := Dp.readsAll I ds _ its ha rv
      exact ⟨_, Reads.tuple ho hc hd hr⟩
  | .dict _, _, _, h, _ => by cases h
theorem Dp.readsAll (I : Inv X pins σ H s) : ∀ (ds : List PyData) (vs : List V) (us : List Value), DpAll X.K H vs ds → Vals vs us → ∃ as, ReadsAll s.heap us ds as
  | [], _, _, h, r => by
    cases h
    cases r
    exact ⟨_, ReadsAll.nil⟩
  | d :: ds, _, _, h, r => by
    cases h with
    | cons h1 h2 =>
      cases r with
      | cons r1 r2 =>
        obtain ⟨as, q1⟩ := Dp.reads I d _ _ h1 r1
        obtain ⟨bs, q2⟩ := Dp.readsAll I ds _ _ h2 r2
        exact ⟨_, ReadsAll.cons q1 q2⟩
end
end
section
variable {X : Cx}
def rEqD (K : PySem.W.Frag) : R2 := fun x y H Q => ∃ d e, Dp K H x d ∧ Dp K H y e ∧ SeqAt.shaped d = true ∧ SeqAt.shaped e = true ∧ Q (.bl (PyData.eqv d e)) H
def rNeD (K : PySem.W.Frag) : R2 := fun x y H Q => ∃ d e, Dp K H x d ∧ Dp K H y e ∧ SeqAt.shaped d = true ∧ SeqAt.shaped e = true ∧ Q (.bl (!PyData.eqv d e)) H
theorem op_eqD (hu : X.A.units + 64 < cLine) : OpR X (compareOp .Eq) (rEqD X.K) := by
  intro pins s σ H x y v u Q I rx ry h
  obtain ⟨d, e, hd, he, sd, se, q⟩ := h
  obtain ⟨as, r1⟩ := Dp.reads I d x v hd rx
  obtain ⟨bs, r2⟩ := Dp.reads I e y u he ry
  exact SeqAt.compareEq_shaped r1 r2 sd se hu ⟨.bl _, H, I, rfl, q⟩
theorem op_neD (hu : X.A.units + 64 < cLine) : OpR X (compareOp .NotEq) (rNeD X.K) := by
  intro pins s σ H x y v u Q I rx ry h
  obtain ⟨d, e, hd, he, sd, se, q⟩ := h
  obtain ⟨as, r1⟩ := Dp.reads I d x v hd rx
  obtain ⟨bs, r2⟩ := Dp.reads I e y u he ry
  exact SeqAt.compareNe_shaped r1 r2 sd se hu ⟨.bl _, H, I, rfl, q⟩
end
end L2
namespace L2
open PySem PySem.Spec PyProof.Rows
abbrev CellAt (h : Heap) (c : Addr) (v : Option Value) : Prop := h.IsCell c v
def relS (scope sc : Scope) : Scope :=
  { scope with names := scope.names.map fun (n, k) => if (k == .free && sc.kind == .function && sc.names.lookup n == some .cell) then (n, .cell) else (n, k) }
def cloFrom (cells : List (Str × Addr)) : List (Str × NameKind) → List (Str × Addr) → List (Str × Addr)
  | [], acc => acc
  | (n, k) :: r, acc => if k == .free then cloFrom cells r ((n, (cells.lookup n).getD 0) :: acc) else cloFrom cells r acc
theorem closure_loop (env : Env) (f : Str × NameKind → List (Str × Addr) → Sem (ForInStep (List (Str × Addr))))
    (hf : ∀ n k c, f (n, k) c = if k == .free then (do let a ← cellOf env n; pure (.yield ((n, a) :: c))) else pure (.yield c)) :
    ∀ (names : List (Str × NameKind)) (acc : List (Str × Addr)), (∀ y ∈ names, y.2 = .free → ∃ c, env.cells.lookup y.1 = some c) → forIn names acc f = pure (cloFrom env.cells names acc)
  | [], acc, _ => by rw [List.forIn_nil]; rfl
  | (n, k) :: r, acc, h => by
    rw [List.forIn_cons, hf]
    have ih := fun acc => closure_loop env f hf r acc fun y hy => h y (List.mem_cons_of_mem _ hy)
    unfold cloFrom
    by_cases hk : (k == NameKind.free) = true
    · rw [if_pos hk, if_pos hk]
      obtain ⟨c, hc⟩ := h (n, k) List.mem_cons_self (by simpa using hk)
      have e : cellOf env n = pure c := by unfold cellOf; rw [hc]
      rw [e]
      have e2 : (env.cells.lookup n).getD 0 = c := by rw [hc]; rfl
      rw [e2]
      exact ih _
    · rw [if_neg hk, if_neg hk]
      exact ih _
theorem closure_ok {scope : Scope} {env : Env} (h : ∀ y ∈ scope.names, y.2 = .free → ∃ c, env.cells.lookup y.1 = some c) : closureFor scope env = pure (cloFrom env.cells scope.names []) := by
  simp only [closureFor]
  rw [closure_loop env _ (fun n k c => rfl) scope.names [] h]
  rfl
theorem mem_lookup {α : Type} : ∀ {l : List (Str × α)} {n : Str} {c : α}, (n, c) ∈ l → ∃ c', l.lookup n = some c'
  | (k, v) :: r, n, c, h => by
    rw [List.lookup_cons]
    cases hb : n == k with
    | true => exact ⟨_, rfl⟩
    | false =>
      rcases List.mem_cons.mp h with e | h
      · cases e; simp at hb
      · exact mem_lookup h
theorem cloFrom_mem {cells : List (Str × Addr)} : ∀ {names : List (Str × NameKind)} {acc : List (Str × Addr)} {n : Str} {c : Addr}, (n, c) ∈ cloFrom cells names acc → (n, c) ∈ acc ∨ ((n, .free) ∈ names ∧ c = (cells.lookup n).getD 0)
  | [], _, _, _, h => .inl h
  | (m, k) :: r, acc, n, c, h => by
    unfold cloFrom at h
    split at h
    · rename_i hk
      have hk : k = .free := by simpa using hk
      rcases cloFrom_mem h with h | ⟨h1, h2⟩
      · rcases List.mem_cons.mp h with e | h
        · cases e; exact .inr ⟨hk ▸ List.mem_cons_self, rfl⟩
        · exact .inl h
      · exact .inr ⟨List.mem_cons_of_mem _ h1, h2⟩
    · rcases cloFrom_mem h with h | ⟨h1, h2⟩
      · exact .inl h
      · exact .inr ⟨List.mem_cons_of_mem _ h1, h2⟩
theorem cloFrom_acc {cells : List (Str × Addr)} : ∀ {names : List (Str × NameKind)} {acc : List (Str × Addr)} {p : Str × Addr}, p ∈ acc → p ∈ cloFrom cells names acc
  | [], _, _, h => h
  | (m, k) :: r, acc, p, h => by
    unfold cloFrom
    split
    · exact cloFrom_acc (List.mem_cons_of_mem _ h)
    · exact cloFrom_acc h
theorem cloFrom_has {cells : List (Str × Addr)} : ∀ {names : List (Str × NameKind)} {acc : List (Str × Addr)} {n : Str}, (n, .free) ∈ names → (n, (cells.lookup n).getD 0) ∈ cloFrom cells names acc
  | (m, k) :: r, acc, n, h => by
    unfold cloFrom
    rcases List.mem_cons.mp h with e | h
    · cases e
      exact cloFrom_acc List.mem_cons_self
    · split
      · exact cloFrom_has h
      · exact cloFrom_has h
theorem cells_mem : ∀ {names : List (Str × NameKind)} {h : Heap} {acc : List (Str × Addr)} {x : Str} {c : Addr}, (x, c) ∈ cellsFrom h.objs.size names acc →
    (x, c) ∈ acc ∨ ((x, .cell) ∈ names ∧ h.objs.size ≤ c ∧ CellAt (pushCells h names) c none)
  | [], _, _, _, _, h => .inl h
  | (n, k) :: r, h, acc, x, c, hm => by
    unfold cellsFrom at hm
    unfold pushCells
    split at hm
    · rename_i hk
      rw [if_pos hk]
      have hk : k = .cell := by simpa using hk
      rw [← Heap.size_push h { cls := .type "cell", data := .cell none }] at hm
      rcases cells_mem hm with hm | ⟨h1, h2, h3⟩
      · rcases List.mem_cons.mp hm with e | hm
        · cases e
          exact .inr ⟨hk ▸ List.mem_cons_self, Nat.le_refl _, _, pushCells_keeps r _ _ _ (Heap.get?_push_size _ rfl), rfl⟩
        · exact .inl hm
      · rw [Heap.size_push] at h2
        exact .inr ⟨List.mem_cons_of_mem _ h1, Nat.le_of_succ_le h2, h3⟩
    · rename_i hk
      rw [if_neg hk]
      rcases cells_mem hm with hm | ⟨h1, h2, h3⟩
      · exact .inl hm
      · exact .inr ⟨List.mem_cons_of_mem _ h1, h2, h3⟩
theorem cells_acc : ∀ {names : List (Str × NameKind)} {n : Nat} {acc : List (Str × Addr)} {p : Str × Addr}, p ∈ acc → p ∈ cellsFrom n names acc
  | [], _, _, _, h => h
  | (m, k) :: r, n, acc, p, h => by
    unfold cellsFrom
    split
    · exact cells_acc (List.mem_cons_of_mem _ h)
    · exact cells_acc h
theorem cells_has : ∀ {names : List (Str × NameKind)} {n : Nat} {acc : List (Str × Addr)} {x : Str}, (x, .cell) ∈ names → ∃ c, (x, c) ∈ cellsFrom n names acc
  | (m, k) :: r, n, acc, x, h => by
    unfold cellsFrom
    rcases List.mem_cons.mp h with e | h
    · cases e
      exact ⟨n, cells_acc List.mem_cons_self⟩
    · split
      · exact cells_has h
      · exact cells_has h
theorem cells_inj : ∀ {names : List (Str × NameKind)} {h : Heap} {acc : List (Str × Addr)} {x y : Str} {c : Addr}, (∀ p ∈ acc, p.2 < h.objs.size) → (∀ x y c, (x, c) ∈ acc → (y, c) ∈ acc → x = y) →
    (x, c) ∈ cellsFrom h.objs.size names acc → (y, c) ∈ cellsFrom h.objs.size names acc → x = y
  | [], _, _, _, _, _, _, hi, h1, h2 => hi _ _ _ h1 h2
  | (n, k) :: r, h, acc, x, y, c, hl, hi, h1, h2 => by
    unfold cellsFrom at h1 h2
    split at h1
    · rename_i hk
      rw [if_pos hk] at h2
      rw [← Heap.size_push h { cls := .type "cell", data := .cell none }] at h1 h2
      refine cells_inj (h := h.push _) (fun p hp => ?_) (fun x y c a b => ?_) h1 h2
      · rw [Heap.size_push]
        rcases List.mem_cons.mp hp with rfl | hp
        · exact Nat.lt_succ_self _
        · exact Nat.lt_succ_of_lt (hl p hp)
      · rcases List.mem_cons.mp a with e | a <;> rcases List.mem_cons.mp b with e' | b
        · cases e; cases e'; rfl
        · cases e; exact absurd (hl _ b) (Nat.lt_irrefl _)
        · cases e'; exact absurd (hl _ a) (Nat.lt_irrefl _)
        · exact hi _ _ _ a b
    · rename_i hk
      rw [if_neg hk] at h2
      exact cells_inj hl hi h1 h2
theorem newEnv_comp {M : Model} {A : Around} {E : Value → Shared → Prop} {s : Shared} {scope : Scope} {globals : Addr} {closure : List (Str × Addr)} {qual : Str} {func : Option Addr} {code : Value} {around : Env} {builtins : Addr} {Q : Env → Shared → Prop}
    (h : Q (newEnv scope s.heap.objs.size globals (cellsFrom (s.heap.objs.size + 1) scope.names closure) qual func code (some around) builtins)
      { s with heap := pushCells (s.heap.push { cls := .type "dict", data := .dict #[] }) scope.names }) :
    wpAny M A (newFunctionEnv scope globals closure [] qual func code (some around) builtins) Q E s := by
  simp only [newFunctionEnv, Option.isSome_some, if_true]
  refine wpAny_bind (wpAny_alloc ?_)
  refine wpAny_bind (wpAny_layCells _ (fun n k c => rfl) scope.names closure _ _ ?_)
  rw [show ({ s with heap := s.heap.push { cls := .type "dict", data := .dict #[] } } : Shared).heap.objs.size = s.heap.objs.size + 1 from Heap.size_push ..]
  rw [List.forIn_nil]
  exact wpAny_bind (wpAny_pure (wpAny_pure h))
theorem lookup_relS {sc : Scope} : ∀ {names : List (Str × NameKind)} {x : Str} {k : NameKind},
    (names.map fun (n, k) => if (k == NameKind.free && sc.kind == .function && sc.names.lookup n == some .cell) then (n, NameKind.cell) else (n, k)).lookup x = some k →
    ∃ k', names.lookup x = some k' ∧ (k = k' ∨ (k' = .free ∧ k = .cell))
  | [], _, _, h => by simp at h
  | (n, k₀) :: r, x, k, h => by
    have ih := @lookup_relS sc r x k
    have h' : List.lookup x ((if (k₀ == NameKind.free && sc.kind == .function && sc.names.lookup n == some .cell) = true then (n, NameKind.cell) else (n, k₀)) :: (r.map _)) = some k := h
    cases hx : x == n with
    | true =>
      simp only [List.lookup_cons, hx]
      by_cases hc : (k₀ == NameKind.free && sc.kind == .function && sc.names.lookup n == some .cell) = true
      · rw [if_pos hc] at h'
        simp only [List.lookup_cons, hx] at h'
        cases h'
        simp only [Bool.and_eq_true, beq_iff_eq] at hc
        exact ⟨k₀, rfl, .inr ⟨hc.1.1, rfl⟩⟩
      · rw [if_neg hc] at h'
        simp only [List.lookup_cons, hx] at h'
        cases h'
        exact ⟨_, rfl, .inl rfl⟩
    | false =>
      simp only [List.lookup_cons, hx]
      by_cases hc : (k₀ == NameKind.free && sc.kind == .function && sc.names.lookup n == some .cell) = true
      · rw [if_pos hc] at h'
        simp only [List.lookup_cons, hx] at h'
        exact ih h'
      · rw [if_neg hc] at h'
        simp only [List.lookup_cons, hx] at h'
        exact ih h'
structure BlkOk (N : List Str) (sc scope : Scope) (own : List (Str × Nat)) : Prop where
  kind : scope.kind = .function
  uniq : ∀ y ∈ scope.names, scope.names.lookup y.1 = some y.2
  ix : ∀ p ∈ own, N[p.2]? = some p.1
  free : ∀ y ∈ scope.names, y.2 = .free → sc.names.lookup y.1 = some .cell ∨ sc.names.lookup y.1 = some .free
  own : ∀ y ∈ scope.names, y.2 = .local ∨ y.2 = .cell → y.1 ∈ own.map (·.1) ∨ y.1 ∉ N
def wipe (σ : St) : List Nat → St
  | [] => σ
  | v :: vs => (wipe σ vs).set v none
theorem wipe_length (σ : St) : ∀ vs : List Nat, (wipe σ vs).length = σ.length
  | [] => rfl
  | v :: vs => by unfold wipe; rw [List.length_set, wipe_length σ vs]
theorem wipe_some {σ : St} {i : Nat} {x : V} : ∀ {vs : List Nat}, (wipe σ vs)[i]? = some (some x) → σ[i]? = some (some x) ∧ i ∉ vs
  | [], h => ⟨h, by simp⟩
  | v :: vs, h => by
    unfold wipe at h
    by_cases hi : v = i
    · subst hi
      by_cases hv : v < (wipe σ vs).length
      · rw [List.getElem?_set_self hv] at h; cases h
      · rw [List.getElem?_eq_none (by simpa using hv)] at h; cases h
    · rw [List.getElem?_set_ne hi] at h
      obtain ⟨h1, h2⟩ := wipe_some h
      exact ⟨h1, by simp only [List.mem_cons, not_or]; exact ⟨fun e => hi e.symm, h2⟩⟩
abbrev Cx.blk (X : Cx) (s : Shared) (H : Hp) (scope : Scope) (cenv : Env) (fp : List Addr) : Cx := { X with s_0 := s, H_0 := H, env := cenv, outer := X.stack, ex := fp, fn := fun x => scope.names.lookup x == some .cell, pn := [], xe := fun _ _ => False }
section
variable {X : Cx} {pins : List (Addr × Obj)} {σ : St} {H : Hp} {s : Shared}
theorem block_start {scope : Scope} {own : List (Str × Nat)} {fp : List Addr} (I : Inv X pins σ H s) (ok : BlkOk X.N X.env.scope scope own) (hN : X.N.Nodup) (hfp : ∀ b ∈ fp, FpOk X pins H b ∧ b < s.heap.objs.size) :
    Inv (X.blk s H scope (compEnvC scope (cellsFrom (s.heap.objs.size + 1) scope.names (cloFrom X.env.cells scope.names [])) s.heap.objs.size X.env) fp) [] (wipe σ (own.map (·.2))) H { s with heap := pushCells (s.heap.push { cls := .type "dict", data := .dict #[] }) scope.names } := by
  have hfree : ∀ y ∈ scope.names, y.2 = .free → ∃ c, X.env.cells.lookup y.1 = some c := fun y hy e => by
    rcases ok.free y hy e with k | k
    · exact I.ok.has _ (.inl k)
    · exact I.ok.has _ (.inr k)
  generalize hcenv : compEnvC scope (cellsFrom (s.heap.objs.size + 1) scope.names (cloFrom X.env.cells scope.names [])) s.heap.objs.size X.env = cenv
  have kp : ∀ b o, s.heap.get? b = some o → (pushCells (s.heap.push { cls := .type "dict", data := .dict #[] }) scope.names).get? b = some o := fun b o e => pushCells_keeps _ _ _ _ (Heap.get?_push_of_some _ e)
  have hL : cenv.locals = s.heap.objs.size := by rw [← hcenv]; rfl
  have hcl : cenv.cells = cellsFrom (s.heap.objs.size + 1) scope.names (cloFrom X.env.cells scope.names []) := by rw [← hcenv]; rfl
  have hsc : cenv.scope = relS scope X.env.scope := by rw [← hcenv]; rfl
  rw [← Heap.size_push s.heap { cls := .type "dict", data := .dict #[] }] at hcl
  have cm : ∀ {y c}, (y, c) ∈ cloFrom X.env.cells scope.names [] → X.env.cells.lookup y = some c ∧ c < s.heap.objs.size := fun {y c} hm => by
    rcases cloFrom_mem hm with hm | ⟨h1, rfl⟩
    · cases hm
    · obtain ⟨c, hc⟩ := hfree _ h1 rfl
      rw [hc]
      obtain ⟨w, z⟩ := I.cell _ _ hc
      exact ⟨rfl, z.lt⟩
  have mem : ∀ {y c}, cenv.cells.lookup y = some c → (X.env.cells.lookup y = some c ∧ c < s.heap.objs.size) ∨ (s.heap.objs.size + 1 ≤ c ∧ CellAt (pushCells (s.heap.push { cls := .type "dict", data := .dict #[] }) scope.names) c none) := fun {y c} e => by
    rw [hcl] at e
    rcases cells_mem (PySem.mem_of_lookup e) with hm | ⟨_, h2, h3⟩
    · exact .inl (cm hm)
    · rw [Heap.size_push] at h2; exact .inr ⟨h2, h3⟩
  have look : ∀ {y}, scope.names.lookup y = some .free → ∃ c, cenv.cells.lookup y = some c ∧ X.env.cells.lookup y = some c := fun {y} hl => by
    have hy : (y, NameKind.free) ∈ scope.names := PySem.mem_of_lookup hl
    obtain ⟨c', e'⟩ := mem_lookup (cells_acc (names := scope.names) (n := (s.heap.push { cls := .type "dict", data := .dict #[] }).objs.size) (cloFrom_has (cells := X.env.cells) (acc := []) hy))
    rw [← hcl] at e'
    refine ⟨c', e', ?_⟩
    rw [hcl] at e'
    rcases cells_mem (PySem.mem_of_lookup e') with hm | ⟨h1, _, _⟩
    · exact (cm hm).1
    · have := ok.uniq _ h1
      rw [hl] at this; cases this
  have okB : (X.blk s H scope cenv fp).Ok := by
    refine ⟨I.ok.mod, by show cenv.scope.kind = _; rw [hsc]; exact ok.kind, by show cenv.globals = _; rw [← hcenv]; exact I.ok.glob, by show cenv.builtins = _; rw [← hcenv]; exact I.ok.blt, by show s.heap.objs.size ≤ cenv.locals; rw [hL]; exact Nat.le_refl _,
      fun y z c e1 e2 => ?_, fun y hy => ?_, fun y c z e => ?_, I.ok.hd, I.ok.frames, .inl rfl, fun b hb => ⟨?_, fun y c e z => ?_⟩, I.bs, Nat.le_trans I.ok.bsz I.sz, fun b o e hb => ?_, fun b hb z => ?_, I.stack, I.stkFree⟩
    · have e1 : cenv.cells.lookup y = some c := e1
      have e2 : cenv.cells.lookup z = some c := e2
      rw [hcl] at e1 e2
      refine cells_inj (fun p hp => ?_) (fun y z c a b => I.ok.inj y z c (cm a).1 (cm b).1) (PySem.mem_of_lookup e1) (PySem.mem_of_lookup e2)
      rw [Heap.size_push]
      exact Nat.lt_succ_of_lt (cm (y := p.1) (c := p.2) hp).2
    · show ∃ c, cenv.cells.lookup y = some c
      have key : ∀ k, cenv.kindOf y = some k → (k = .cell ∨ k = .free) → ∃ c, cenv.cells.lookup y = some c := fun k hk hk' => by
        unfold Env.kindOf at hk
        rw [hsc] at hk
        obtain ⟨k', e, r⟩ := lookup_relS hk
        have : k' = .cell ∨ k' = .free := by
          rcases r with rfl | ⟨rfl, _⟩
          · exact hk'
          · exact .inr rfl
        rcases this with rfl | rfl
        · obtain ⟨c, hm⟩ := cells_has (n := (s.heap.push { cls := .type "dict", data := .dict #[] }).objs.size) (acc := cloFrom X.env.cells scope.names []) (PySem.mem_of_lookup e)
          obtain ⟨c', e'⟩ := mem_lookup hm
          exact ⟨c', by rw [hcl]; exact e'⟩
        · obtain ⟨c, h1, _⟩ := look e
          exact ⟨c, h1⟩
      rcases hy with hy | hy
      · exact key _ hy (.inl rfl)
      · exact key _ hy (.inr rfl)
    · have z : (scope.names.lookup y == some NameKind.cell) = true := z
      have z : scope.names.lookup y = some .cell := by simpa using z
      have e : cenv.cells.lookup y = some c := e
      rw [hcl] at e
      rcases cells_mem (PySem.mem_of_lookup e) with hm | ⟨_, h2, _⟩
      · rcases cloFrom_mem hm with hm | ⟨h1, _⟩
        · cases hm
        · have q := ok.uniq _ h1
          rw [z] at q; cases q
      · rw [Heap.size_push] at h2
        exact Nat.le_of_succ_le h2
    · show b ≠ cenv.locals
      rw [hL]; exact Nat.ne_of_lt (hfp b hb).2
    · have e : cenv.cells.lookup y = some c := e
      rcases mem e with ⟨h1, _⟩ | ⟨h1, _⟩
      · exact (hfp b hb).1.2.2.2.2.1 y c h1 z
      · have h2 : s.heap.objs.size + 1 ≤ b := by rw [← z]; exact h1
        exact absurd (Nat.lt_of_lt_of_le (hfp b hb).2 (Nat.le_of_succ_le h2)) (Nat.lt_irrefl _)
    · rcases (hfp b hb).1.2.2.2.1 with z | z
      · exact I.ok.noex b o e z
      · exact absurd (Nat.lt_of_lt_of_le (Heap.lt_size e) (Nat.le_trans I.ok.bsz z)) (Nat.lt_irrefl _)
    · rcases List.mem_cons.mp (I.stkSub b z) with z | z
      · exact (hfp b hb).1.2.1 z
      · exact (hfp b hb).1.2.2.1 z
  refine ⟨okB, rfl, I.bare, Un.kept kp, ⟨fun _ => none, ?_, fun i y av e1 e2 e3 => ?_⟩, fun y c e => ?_, ?_, fun y c e => ?_, fun p hp => ?_, I.hok.kept kp, by rw [wipe_length]; exact I.len⟩
  · show Heap.Ns _ cenv.locals _
    rw [hL]
    exact Heap.Ns.keeps (Heap.Ns.new ..) fun b o e => pushCells_keeps _ _ _ _ e
  · obtain ⟨e2, hne⟩ := wipe_some e2
    have hfr : scope.names.lookup y = some .free ∧ (cenv.kindOf y = some .cell ∨ cenv.kindOf y = some .free) := by
      have key : ∀ k, cenv.scope.names.lookup y = some k → k = .local ∨ k = .cell ∨ k = .free → scope.names.lookup y = some .free ∧ (cenv.kindOf y = some .cell ∨ cenv.kindOf y = some .free) := fun k hk hk' => by
        have hk0 := hk
        rw [hsc] at hk
        obtain ⟨k', e, r⟩ := lookup_relS hk
        have no : ¬ (k' = .local ∨ k' = .cell) := fun hh => by
          rcases ok.own _ (PySem.mem_of_lookup e) hh with e' | e'
          · obtain ⟨p, hp, hpy⟩ := List.mem_map.mp e'
            have e3 := ok.ix p hp
            have : p.1 = y := hpy
            rw [this] at e3
            exact hne (List.mem_map.mpr ⟨p, hp, nodup_ix hN e3 e1⟩)
          · exact e' (List.mem_of_getElem? e1)
        rcases r with rfl | ⟨rfl, rfl⟩
        · rcases hk' with rfl | rfl | rfl
          · exact absurd (.inl rfl) no
          · exact absurd (.inr rfl) no
          · exact ⟨e, .inr hk0⟩
        · exact ⟨e, .inl hk0⟩
      have e3 : Vis cenv.scope y := e3
      rcases e3 with e3 | e3 | e3
      · exact key _ e3 (.inl rfl)
      · exact key _ e3 (.inr (.inl rfl))
      · exact key _ e3 (.inr (.inr rfl))
    obtain ⟨m, hn, hl⟩ := I.loc
    have hvis : Vis X.env.scope y := (ok.free _ (PySem.mem_of_lookup hfr.1) rfl).elim (fun k => .inr (.inl k)) (fun k => .inr (.inr k))
    obtain ⟨w, r, q⟩ := hl i y av e1 e2 hvis
    refine ⟨w, r, .inr ⟨hfr.2, ?_⟩⟩
    obtain ⟨c, h1, h2⟩ := look hfr.1
    rcases q with ⟨k, _⟩ | ⟨_, c', e', z⟩
    · have k : X.env.scope.names.lookup y = some .local := k
      rcases ok.free _ (PySem.mem_of_lookup hfr.1) rfl with k' | k' <;> rw [show X.env.scope.names.lookup y = _ from k'] at k <;> cases k
    · rw [h2] at e'; cases e'
      exact ⟨c, h1, z.keeps kp⟩
  · have e : cenv.cells.lookup y = some c := e
    rcases mem e with ⟨h1, _⟩ | ⟨_, z⟩
    · obtain ⟨w, z⟩ := I.cell y c h1
      exact ⟨w, z.keeps kp⟩
    · exact ⟨_, z⟩
  · show H cenv.locals = none
    rw [hL]; exact I.hok.fresh (Nat.le_refl _)
  · have e : cenv.cells.lookup y = some c := e
    rcases mem e with ⟨h1, _⟩ | ⟨h1, _⟩
    · exact I.freeC y c h1
    · exact I.hok.fresh (Nat.le_of_succ_le h1)
  · exact absurd (show p ∈ ([] : List (Addr × Obj)) ++ [] from hp) (by simp)
theorem app_ok {E : Value → Shared → Prop} {D : Addr} {xs : List V} {y : V} {v : Value} {Q : Value → Shared → Prop} (I : Inv X pins σ H s) (hD : H D = some (.lst xs)) (hz : xs.length < sizeLine) (r : RelV y v)
    (h : ∀ s', Inv X pins σ (upd H D (.lst (xs ++ [y]))) s' → Q .none s') : wpAny (model X.prog X.w) X.A (call (.builtin "list.append") [.ref D, v]) Q E s := by
  obtain ⟨hz', its, n, ri, e⟩ := I.hok D _ hD
  have hl := ri.length
  refine append_at (hsz := by rw [List.size_toArray]; omega) e fun h' sb ho' => ?_
  refine h { s with heap := h' } (I.write (t' := s.toks) (by rw [hD]; trivial) (.inl rfl) (fun b u hb q => (sb.2 b hb).trans q) ⟨_, ho'⟩ ⟨by rw [List.length_append]; exact hz, its ++ [v], n + 1, ri.append (.cons r .nil), ?_⟩)
  rw [ho']
  simp
def PTs (X : Cx) (ifs : List Expr) (t : TT) : Prop :=
  ∀ (pins : List (Addr × Obj)) (s : Shared) (σ : St) (H : Hp) (Q : Bool → Hp → Prop), Inv X pins σ H s → t σ H Q →
    wpAny (model X.prog X.w) X.A (forIn ifs true fun c r => if r = true then do let ok ← isTrue c X.env (eval c X.env); pure (ForInStep.yield ok) else pure (ForInStep.yield r)) (TP X pins σ Q) X.xe s
def tYes : TT := fun _ H Q => Q true H
theorem pts_nil : PTs X [] tYes := fun _ _ _ H _ I h => wpAny_tests_nil ⟨H, I, h⟩
theorem pts_one {c : Expr} {t : TT} (h : PT X c t) : PTs X [c] t := fun pins s σ H Q I hw => wpAny_tests_one (h pins s σ H Q I hw)
end
theorem thnF {α : Type} {t : Sem α} {Q Q' : α → Shared → Prop} {M : Model} {A : Around} {E : Value → Shared → Prop} {s : Shared} (h : wpAny M A t Q (fun _ _ => False) s) (hQ : ∀ a s, Q a s → Q' a s) : wpAny M A t Q' E s := wpAny_mono h hQ fun _ _ z => False.elim z
theorem compLoop_any {prog : Program} {w : World} {A : Around} {R : Result → Shared → Prop} {s : Shared} {elt target iter : Expr} {ifs : List Expr} {scope : Scope} {pos : Pos} {it acc : Value} {env : Env} (I : Nat → Shared → Prop)
    (turn : ∀ n s, I n s → wpAny (model prog w) A (pyNext it) (fun r s₁ => match r with
      | none => R (.ok .next) s₁
      | some v => wpAny (model prog w) A (letOwnedTupleGo target it v) (fun _ s₁' => wpAny (model prog w) A (assign target env v) (fun _ s₂ =>
          wpAny (model prog w) A (forIn ifs true fun c r => if r = true then do let ok ← isTrue c env (eval c env); pure (ForInStep.yield ok) else pure (ForInStep.yield r)) (fun ok s₃ =>
            if ok = true then wpAny (model prog w) A (eval elt env) (fun x s₄ =>
              wpAny (model prog w) A (call (.builtin "list.append") [acc, x]) (fun _ s₅ => ∃ m, m < n ∧ I m s₅) (notedBy (model prog w) A env fun e s' => R (.error e) s') s₄) (notedBy (model prog w) A env fun e s' => R (.error e) s') s₃
            else ∃ m, m < n ∧ I m s₃) (notedBy (model prog w) A env fun e s' => R (.error e) s') s₂) (notedBy (model prog w) A env fun e s' => R (.error e) s') s₁') (notedBy (model prog w) A env fun e s' => R (.error e) s') s₁) (notedBy (model prog w) A env fun e s' => R (.error e) s') s)
    (n : Nat) (h : I n s) :
    codeAny (model prog w) A (.compLoop (.ListComp elt [⟨target, iter, ifs, 0⟩] scope pos) 0 it acc env) R s := by
  refine codeAny_loop rfl I (fun n s hI => ?_) n h
  show wpAny _ A ((compTurn (.ListComp elt [⟨target, iter, ifs, 0⟩] scope pos) 0 it acc env).onRaise (fun x => do noteFrame x env; theTreesLotGoes x)) _ _ s
  refine wpAny_noted ?_
  rw [compTurn_list]
  refine wpAny_bind (wpAny_standAt (wpAny_bind (wpAny_mono (turn n s hI) (fun r s₁ h₁ => ?_) fun _ _ h' => h')))
  cases r with
  | none => exact wpAny_pure h₁
  | some v =>
    refine wpAny_bind (wpAny_mono h₁ (fun _ s₁' h₁' => ?_) fun _ _ h' => h')
    refine wpAny_bind (wpAny_mono h₁' (fun _ s₂ h₂ => wpAny_bind (wpAny_mono h₂ (fun ok s₃ h₃ => ?_) fun _ _ h' => h')) fun _ _ h' => h')
    cases ok with
    | false => exact wpAny_pure ⟨rfl, h₃⟩
    | true =>
      exact wpAny_bind (wpAny_bind (wpAny_mono h₃ (fun x s₄ h₄ => wpAny_bind (wpAny_mono h₄ (fun _ s₅ h₅ => wpAny_pure (wpAny_pure ⟨rfl, h₅⟩)) fun _ _ h' => h')) fun _ _ h' => h'))
section
variable {X : Cx}
def tLc (wi : TI) (g : TG) (tt : TT) (te : TE) (vs : List Nat) : TE := fun σ H Q => wi σ H fun J H1 => ∀ D, H1 D = none → ∃ W : Nat → Nat → Hp → Prop, (∃ m, W 0 m (upd H1 D (.lst []))) ∧ ∀ i m H, W i m H →
  (J.stop i H ∧ Q (.ref D) H) ∨ (J.go i H ∧ ∃ Nx : Hp → Prop, (∀ H', Nx H' → ∃ m', m' < m ∧ W (i + 1) m' H') ∧ ∀ x H', J.yld i H x H' → g x (wipe σ vs) H' fun σ2 H2 => wipe σ2 vs = wipe σ vs ∧ tt σ2 H2 fun b H3 =>
    if b = true then te σ2 H3 fun y H4 => ∃ acc, H4 D = some (.lst acc) ∧ acc.length < sizeLine ∧ Nx (upd H4 D (.lst (acc ++ [y]))) else Nx H3)
theorem lc_core {pins : List (Addr × Obj)} {s : Shared} {σ : St} {H : Hp} {Q : VK} {elt tg iter : Expr} {ifs : List Expr} {scope : Scope} {own : List (Str × Nat)} {pos pos' : Pos} {wi : TI} {g : TG} {tt : TT} {te : TE} {use : Option (Value → Sem Unit)} {Qf : Value → Shared → Prop}
    (hc : X.calm = true) (hN : X.N.Nodup) (I : Inv X pins σ H s) (hi : PI X tg iter wi) (ok : BlkOk X.N X.env.scope scope own)
    (hg : ∀ (s : Shared) (H : Hp) (C : Addr) (cl : List (Str × Addr)) (fp : List Addr), PG (X.blk s H scope (compEnvC scope cl C X.env) fp) tg g) (ht : ∀ (s : Shared) (H : Hp) (C : Addr) (cl : List (Str × Addr)) (fp : List Addr), PTs (X.blk s H scope (compEnvC scope cl C X.env) fp) ifs tt)
    (he : ∀ (s : Shared) (H : Hp) (C : Addr) (cl : List (Str × Addr)) (fp : List Addr), PE (X.blk s H scope (compEnvC scope cl C X.env) fp) elt te) (hs : ∀ x, foldedSetIterable iter X.env x = pure x)
    (h : tLc wi g tt te (own.map (·.2)) σ H Q)
    (hRR : ∀ D C s' m H', Inv X pins σ H' s' → Q (.ref D) H' → s'.heap.Ns C m → FpOk X pins H' C → compPost (model X.prog X.w) X.A X.xe use Qf (.ref D) C (.ok .next) s') :
    wpAny (model X.prog X.w) X.A (comprehension (.ListComp elt [⟨tg, iter, ifs, 0⟩] scope pos) scope X.env pos' (newList []) false (eval iter X.env) use) Qf X.xe s := by
  have hfree : ∀ y ∈ scope.names, y.2 = .free → ∃ c, X.env.cells.lookup y.1 = some c := fun y hy e => by
    rcases ok.free y hy e with k | k
    · exact I.ok.has _ (.inl k)
    · exact I.ok.has _ (.inr k)
  refine wpAny_comprehension_free (use := use) rfl hs (closure_ok hfree) ok.kind (fun y hy e => by rw [ok.uniq y hy, e])
    (thn (hi pins s σ H _ I h) fun xv s1 hx => thn hx fun itv s2 h2 => ?_)
  obtain ⟨it, fp, tn, J, H2, e, I2, T, st2, f2, q⟩ := h2
  subst e
  refine wpAny_newObj_type (newEnv_comp ?_) (by show 0 ≤ sizeLine; decide)
  generalize hD : s2.heap.objs.size = D
  have hDn : H2 D = none := I2.hok.fresh (Nat.le_of_eq hD)
  obtain ⟨W, ⟨m0, w0⟩, turn⟩ := q D hDn
  generalize hs3 : ({ s2 with heap := s2.heap.push { cls := .type "list", data := .seq ([] : List Value).toArray } } : Shared) = s3
  have I3 : Inv X pins σ (upd H2 D (.lst [])) s3 := by
    rw [← hs3]
    refine I2.laid (t' := s2.toks) (fun b o e => Heap.get?_push_of_some _ e) (Nat.le_of_eq hD) ⟨Nat.zero_le _, [], 0, .nil, ?_⟩
    rw [← hD]
    exact Heap.get?_push_size _ rfl
  have h3 : s3.heap = s2.heap.push { cls := .type "list", data := .seq ([] : List Value).toArray } := by rw [← hs3]
  have sz : ∀ b ∈ fp, b < s2.heap.objs.size := fun b hb => by
    obtain ⟨o, e, _⟩ := T.obj _ _ st2 b hb
    exact Heap.lt_size e
  have f3 : ∀ b ∈ fp, FpOk X pins (upd H2 D (.lst [])) b ∧ b < s3.heap.objs.size := fun b hb => by
    have hlt := sz b hb
    refine ⟨⟨?_, (f2 b hb).2⟩, by rw [h3, Heap.size_push]; exact Nat.lt_succ_of_lt hlt⟩
    rw [upd_ne (by rw [← hD]; exact Nat.ne_of_lt hlt)]
    exact (f2 b hb).1
  have st3 : tn 0 s3.heap := T.keep _ _ _ st2 fun b _ o e => by rw [h3]; exact Heap.get?_push_of_some _ e
  have I4 := block_start I3 ok hN f3
  have pg := hg s3 (upd H2 D (.lst [])) s3.heap.objs.size (cellsFrom (s3.heap.objs.size + 1) scope.names (cloFrom X.env.cells scope.names [])) fp
  have pt := ht s3 (upd H2 D (.lst [])) s3.heap.objs.size (cellsFrom (s3.heap.objs.size + 1) scope.names (cloFrom X.env.cells scope.names [])) fp
  have pe := he s3 (upd H2 D (.lst [])) s3.heap.objs.size (cellsFrom (s3.heap.objs.size + 1) scope.names (cloFrom X.env.cells scope.names [])) fp
  show codeAny _ _ (.compStart (.ListComp elt [⟨tg, iter, ifs, 0⟩] scope pos) 0 (.ref it) (.ref D) (compEnvC scope (cellsFrom (s3.heap.objs.size + 1) scope.names (cloFrom X.env.cells scope.names [])) s3.heap.objs.size X.env)) (compPost (model X.prog X.w) X.A X.xe use Qf (.ref D) s3.heap.objs.size) { s3 with heap := pushCells (s3.heap.push { cls := .type "dict", data := .dict #[] }) scope.names }
  have nfp : ∀ b ∈ fp, (upd H2 D (.lst [])) b = none := fun b hb => (f3 b hb).1.1
  generalize hce : compEnvC scope (cellsFrom (s3.heap.objs.size + 1) scope.names (cloFrom X.env.cells scope.names [])) s3.heap.objs.size X.env = ce at I4 pg pt pe ⊢
  have cL : ce.locals = s3.heap.objs.size := by subst hce; rfl
  generalize hH3 : upd H2 D (.lst []) = H3 at I3 I4 pg pt pe w0 nfp f3
  generalize hs4 : ({ s3 with heap := pushCells (s3.heap.push { cls := .type "dict", data := .dict #[] }) scope.names } : Shared) = s4 at I4 ⊢
  have st4 : tn 0 s4.heap := T.keep _ _ _ st3 fun b _ o e => by rw [← hs4]; exact pushCells_keeps _ _ _ _ (Heap.get?_push_of_some _ e)
  have stat : ∀ {σ' : St} {H' : Hp} {s' : Shared}, Inv (X.blk s3 H3 scope ce fp) [] σ' H' s' → (∀ b ∈ fp, H' b = none) → ∀ b ∈ fp, FpOk (X.blk s3 H3 scope ce fp) [] H' b := fun {σ' H' s'} I' hn b hb =>
    ⟨hn b hb, (I'.ok.exf b hb).1, I'.ok.exfs b hb, .inl hb, fun x c e => (I'.ok.exf b hb).2 x c e, fun p hp => absurd (show p ∈ ([] : List (Addr × Obj)) ++ [] from hp) (by simp)⟩
  have loop : codeAny (model X.prog X.w) X.A (.compLoop (.ListComp elt [⟨tg, iter, ifs, 0⟩] scope pos) 0 (.ref it) (.ref D) ce) (compPost (model X.prog X.w) X.A X.xe use Qf (.ref D) s3.heap.objs.size) s4 := by
    refine compLoop_any (fun n s' => ∃ i H', Inv (X.blk s3 H3 scope ce fp) [] (wipe σ (own.map (·.2))) H' s' ∧ tn i s'.heap ∧ (∀ b ∈ fp, H' b = none) ∧ W i n H') ?_ m0 ⟨0, H3, I4, st4, nfp, w0⟩
    rintro n s5 ⟨i, H5, I5, st5, n5, w5⟩
    rcases turn i n H5 w5 with ⟨stop, qq⟩ | ⟨go, Nx, hNx, step⟩
    · have td := T.done (X.blk s3 H3 scope ce fp) rfl rfl rfl hc i [] s5 _ H5 (fun _ _ => False) I5 (stat I5 n5) st5 stop
      refine thnF td fun r s6 ⟨hr, I6⟩ => ?_
      subst hr
      have I7 : Inv X pins σ H5 s6 := I3.call' (ch := fp) I6.os I6.base I6.hok I6.bare fun b hb => ⟨(f3 b hb).1.2.2.2.1, (f3 b hb).1.2.1, (f3 b hb).1.2.2.2.2.1, (f3 b hb).1.2.2.2.2.2⟩
      have nC : H5 s3.heap.objs.size = none := by
        have z : H5 ce.locals = none := I6.free
        rw [cL] at z
        exact z
      obtain ⟨m, hn, _⟩ := I6.loc
      have hn : s6.heap.Ns ce.locals m := hn
      rw [cL] at hn
      exact hRR D s3.heap.objs.size s6 m H5 I7 qq hn (I3.fpOk (Nat.le_refl _) nC)
    · have ti := T.item (X.blk s3 H3 scope ce fp) rfl rfl rfl hc i [] s5 _ H5 (fun _ _ => False) I5 (stat I5 n5) st5 go
      refine thnF ti fun r s6 ⟨u, hr, h6⟩ => ?_
      subst hr
      refine thnF h6 fun _ s7 ⟨x, H7, I7, r7, y7, st7, n7⟩ => ?_
      have I7' := I7.pinned (stat I7 n7) (T.obj _ _ st7)
      refine thnF (pg _ s7 _ H7 x u _ I7' r7 (step x H7 y7)) fun _ s8 ⟨σ8, H8, I8, hw8, q8⟩ => ?_
      refine thnF (pt _ s8 σ8 H8 _ I8 q8) fun b s9 ⟨H9, I9, q9⟩ => ?_
      have fin : ∀ {s' : Shared} {H' : Hp}, Inv (X.blk s3 H3 scope ce fp) ([] ++ pinsAt fp s7.heap) σ8 H' s' → Nx H' → ∃ m, m < n ∧ ∃ i H', Inv (X.blk s3 H3 scope ce fp) [] (wipe σ (own.map (·.2))) H' s' ∧ tn i s'.heap ∧ (∀ b ∈ fp, H' b = none) ∧ W i m H' := fun {s' H'} I' nx => by
        obtain ⟨m', hm, w'⟩ := hNx H' nx
        have pin' : ∀ b ∈ fp, ∀ o, s7.heap.get? b = some o → s'.heap.get? b = some o ∧ H' b = none := fun b hb o e =>
          let z := I'.pin (b, o) (List.mem_append_right _ (List.mem_append_right _ (mem_pinsAt hb e)))
          ⟨z.1, z.2.1⟩
        have hl : (wipe σ (own.map (·.2))).length = σ8.length := by rw [← hw8, wipe_length]
        refine ⟨m', hm, i + 1, H', (I'.unpinned (pins := [])).weak hl (fun j v e => ?_), T.keep _ _ _ st7 fun b hb o e => (pin' b hb o e).1, fun b hb => ?_, w'⟩
        · rw [← hw8] at e
          exact (wipe_some e).1
        · obtain ⟨o, e, _⟩ := T.obj _ _ st7 b hb
          exact (pin' b hb o e).2
      cases b with
      | false =>
        simp only [Bool.false_eq_true, if_false] at q9 ⊢
        exact fin I9 q9
      | true =>
        simp only [if_true] at q9 ⊢
        refine thnF (pe _ s9 σ8 H9 _ I9 q9) fun z s10 ⟨yv, H10, I10, r10, acc, hD10, hz10, nx⟩ => ?_
        exact app_ok (X := X.blk s3 H3 scope ce fp) I10 hD10 hz10 r10 fun s11 I11 => fin I11 nx
  exact codeAny_compStart_list loop (T.self X.A 0 _ _ _ st4 loop)
theorem pe_lc {elt tg iter : Expr} {ifs : List Expr} {scope : Scope} {own : List (Str × Nat)} {pos : Pos} {wi : TI} {g : TG} {tt : TT} {te : TE} (hc : X.calm = true) (hN : X.N.Nodup) (hi : PI X tg iter wi) (ok : BlkOk X.N X.env.scope scope own)
    (hg : ∀ (s : Shared) (H : Hp) (C : Addr) (cl : List (Str × Addr)) (fp : List Addr), PG (X.blk s H scope (compEnvC scope cl C X.env) fp) tg g) (ht : ∀ (s : Shared) (H : Hp) (C : Addr) (cl : List (Str × Addr)) (fp : List Addr), PTs (X.blk s H scope (compEnvC scope cl C X.env) fp) ifs tt)
    (he : ∀ (s : Shared) (H : Hp) (C : Addr) (cl : List (Str × Addr)) (fp : List Addr), PE (X.blk s H scope (compEnvC scope cl C X.env) fp) elt te) (hs : ∀ x, foldedSetIterable iter X.env x = pure x := by intro _; rfl) :
    PE X (.ListComp elt [⟨tg, iter, ifs, 0⟩] scope pos) (tLc wi g tt te (own.map (·.2))) := by
  intro pins s σ H Q I h
  rw [eval_ListComp]
  refine lc_core hc hN I hi ok hg ht he hs h fun D C s' m H' I' q hn f => ⟨m, hn, fun h'' sb => ?_⟩
  obtain ⟨f0, f1, f2, f3, f4, f5⟩ := f
  exact ⟨.ref D, H', I'.turned (t' := s'.toks) (fun b o hb e => (sb.2 b hb).trans e) f0 f1 f3 f4 f5, rfl, q⟩
end
def blkC (N : List Str) (sc scope : Scope) (own : List (Str × Nat)) : Bool :=
  (match scope.kind with | .function => true | _ => false) && (scope.names.all fun y => decide (scope.names.lookup y.1 = some y.2)) && (own.all fun p => decide (N[p.2]? = some p.1)) &&
    (scope.names.all fun y => match y.2 with
      | .free => (match sc.names.lookup y.1 with | some .cell => true | some .free => true | _ => false)
      | .local => decide (y.1 ∈ own.map (·.1)) || decide (y.1 ∉ N)
      | .cell => decide (y.1 ∈ own.map (·.1)) || decide (y.1 ∉ N)
      | _ => true)
theorem blkOk_by {N : List Str} {sc scope : Scope} {own : List (Str × Nat)} (h : blkC N sc scope own = true) : BlkOk N sc scope own := by
  unfold blkC at h
  simp only [Bool.and_eq_true, List.all_eq_true, decide_eq_true_eq] at h
  obtain ⟨⟨⟨h1, h2⟩, h3⟩, h4⟩ := h
  refine ⟨?_, h2, h3, fun y hy e => ?_, fun y hy e => ?_⟩
  · split at h1
    · assumption
    · cases h1
  · have q := h4 y hy
    simp only [e] at q
    split at q <;> first | exact .inl (by assumption) | exact .inr (by assumption) | cases q
  · have q := h4 y hy
    rcases e with e | e <;> (simp only [e, Bool.or_eq_true, decide_eq_true_eq] at q; exact q)
end L2
namespace L2
open PySem PySem.Spec PyProof.Rows
section
variable {prog : Program} {w : World} {A : Around} {R : Result → Shared → Prop} {s : Shared} {elt t0 i0 t1 i1 : Expr} {ifs0 ifs1 : List Expr} {scope : Scope} {pos : Pos} {it acc : Value} {env : Env}
end
section
variable {X : Cx}
end
end L2
namespace L2
open PySem PySem.Spec PyProof.Rows
section
variable {κ : Type} [DecidableEq κ]
def valV (kvs : List (κ × V)) (k : κ) : Option V := (kvs.find? fun kv => decide (kv.1 = k)).map (·.2)
def putK (kvs : List (κ × V)) (k : κ) (v : V) : List (κ × V) :=
  if (kvs.any fun kv => decide (kv.1 = k)) = true then kvs.map (fun kv => if kv.1 = k then (kv.1, v) else kv) else kvs ++ [(k, v)]
def dropK (kvs : List (κ × V)) (k : κ) : List (κ × V) := kvs.filter fun kv => decide (kv.1 ≠ k)
theorem valV_nil {k : κ} : valV ([] : List (κ × V)) k = none := rfl
theorem valV_pos {p : κ × V} {r : List (κ × V)} {k : κ} (e : p.1 = k) : valV (p :: r) k = some p.2 := by simp [valV, List.find?_cons, e]
theorem valV_neg {p : κ × V} {r : List (κ × V)} {k : κ} (e : ¬ p.1 = k) : valV (p :: r) k = valV r k := by simp [valV, List.find?_cons, e]
theorem valV_any (k : κ) : ∀ kvs : List (κ × V), (kvs.any fun kv => decide (kv.1 = k)) = (valV kvs k).isSome
  | [] => rfl
  | p :: r => by
    rw [List.any_cons]
    by_cases e : p.1 = k
    · simp only [valV_pos e, decide_eq_true e, Bool.true_or, Option.isSome_some]
    · rw [valV_neg e, decide_eq_false e, Bool.false_or]; exact valV_any k r
theorem length_putK (kvs : List (κ × V)) (k : κ) (v : V) : (putK kvs k v).length ≤ kvs.length + 1 := by
  unfold putK
  split
  · rw [List.length_map]; omega
  · rw [List.length_append, List.length_cons, List.length_nil]; omega
theorem putK_new {kvs : List (κ × V)} {k : κ} (v : V) (h : valV kvs k = none) : putK kvs k v = kvs ++ [(k, v)] := by
  unfold putK
  rw [valV_any, h]
  exact if_neg (by decide)
theorem RelO.isSome_eq {o : Option V} {u : Option Value} (r : RelO o u) : o.isSome = u.isSome := by
  cases o with
  | none => cases u with
    | none => rfl
    | some _ => exact (show False from r).elim
  | some _ => cases u with
    | none => exact (show False from r).elim
    | some _ => rfl
theorem RelO.getD {o : Option V} {u : Option Value} {d : V} {d' : Value} (r : RelO o u) (rd : RelV d d') : RelV (o.getD d) (u.getD d') := by
  cases o with
  | none => cases u with
    | none => exact rd
    | some _ => exact (show False from r).elim
  | some _ => cases u with
    | none => exact (show False from r).elim
    | some _ => exact r
theorem KV.val {kvs : List (κ × V)} {vs : List (κ × Value)} (r : KV kvs vs) (k : κ) : RelO (valV kvs k) (valueAt vs k) := by
  unfold KV at r
  induction r with
  | nil => exact True.intro
  | @cons p q ps qs h t ih =>
    obtain ⟨h1, h2⟩ := h
    by_cases e : p.1 = k
    · have e' : q.1 = k := h1.symm.trans e
      have b : valueAt (q :: qs) k = some q.2 := by simp [valueAt, List.find?_cons, e']
      rw [valV_pos e, b]; exact h2
    · have e' : ¬ q.1 = k := fun z => e (h1.trans z)
      have b : valueAt (q :: qs) k = valueAt qs k := by simp [valueAt, List.find?_cons, e']
      rw [valV_neg e, b]; exact ih
theorem KV.any {kvs : List (κ × V)} {vs : List (κ × Value)} (r : KV kvs vs) (k : κ) : (kvs.any fun kv => decide (kv.1 = k)) = vs.any fun kv => decide (kv.1 = k) := by
  unfold KV at r
  induction r with
  | nil => rfl
  | cons h t ih => rw [List.any_cons, List.any_cons, ih, h.1]
theorem KV.repl {kvs : List (κ × V)} {vs : List (κ × Value)} (r : KV kvs vs) (k : κ) {y : V} {u : Value} (ry : RelV y u) :
    KV (kvs.map fun kv => if kv.1 = k then (kv.1, y) else kv) (vs.map fun kv => if kv.1 = k then (kv.1, u) else kv) := by
  unfold KV at r ⊢
  induction r with
  | nil => exact .nil
  | @cons p q ps qs h t ih =>
    rw [List.map_cons, List.map_cons]
    refine .cons ?_ ih
    obtain ⟨h1, h2⟩ := h
    by_cases e : p.1 = k
    · rw [if_pos e, if_pos (h1.symm.trans e)]; exact ⟨h1, ry⟩
    · rw [if_neg e, if_neg (fun z => e (h1.trans z))]; exact ⟨h1, h2⟩
theorem KV.put {kvs : List (κ × V)} {vs : List (κ × Value)} (r : KV kvs vs) (k : κ) {y : V} {u : Value} (ry : RelV y u) : KV (putK kvs k y) (stored vs k u) := by
  unfold putK stored
  rw [r.any k]
  by_cases e : (vs.any fun kv => decide (kv.1 = k)) = true
  · rw [if_pos e, if_pos e]; exact r.repl k ry
  · rw [if_neg e, if_neg e]; exact Paired.snoc r ⟨rfl, ry⟩
theorem KV.drop {kvs : List (κ × V)} {vs : List (κ × Value)} (r : KV kvs vs) (k : κ) : KV (dropK kvs k) (without vs k) := by
  unfold KV at r ⊢
  unfold dropK without
  induction r with
  | nil => exact .nil
  | @cons p q ps qs h t ih =>
    obtain ⟨h1, h2⟩ := h
    rw [List.filter_cons, List.filter_cons]
    by_cases e : p.1 = k
    · have a : ¬ decide (p.1 ≠ k) = true := by simp [e]
      have b : ¬ decide (q.1 ≠ k) = true := by simp [h1.symm.trans e]
      rw [if_neg a, if_neg b]; exact ih
    · have e' : ¬ q.1 = k := fun z => e (h1.trans z)
      have a : decide (p.1 ≠ k) = true := by simp [e]
      have b : decide (q.1 ≠ k) = true := by simp [e']
      rw [if_pos a, if_pos b]; exact .cons ⟨h1, h2⟩ ih
theorem KV.keys {kvs : List (κ × V)} {vs : List (κ × Value)} (r : KV kvs vs) : kvs.map (·.1) = vs.map (·.1) := by
  unfold KV at r
  induction r with
  | nil => rfl
  | cons h t ih => rw [List.map_cons, List.map_cons, ih, h.1]
theorem KV.length {kvs : List (κ × V)} {vs : List (κ × Value)} (r : KV kvs vs) : kvs.length = vs.length := Paired.length r
end
theorem kV_is {P : Program} {w : World} {k : Key} {u : Value} (r : RelV (kV k) u) : (mixKind P w).is k u = true := by
  cases k with
  | inl i => obtain ⟨t, e⟩ := (show ∃ t, u = Value.int i t from r); subst e; exact mixKind_int P w i t
  | inr x => obtain ⟨t, e⟩ := (show ∃ t, u = Value.str x t from r); subst e; exact mixKind_str P w x t
theorem items_are {P : Program} {w : World} : ∀ {ks : List Key} {us : List Value}, Vals (ks.map kV) us → ItemsAre (mixKind P w) ks us
  | [], _, r => by rw [List.map_nil] at r; cases r; exact .nil
  | k :: ks, _, r => by
    rw [List.map_cons] at r
    cases r with
    | cons h t => exact .cons (kV_is h) (items_are t)
abbrev KT (H : Hp) : List (List Key × V) → List (List Key × Addr × Value) → Prop := Paired fun p q => p.1 = q.1 ∧ H q.2.1 = some (.tup (p.1.map kV)) ∧ RelV p.2 q.2.2
theorem KT.val {H : Hp} {kvs : List (List Key × V)} {xs : List (List Key × Addr × Value)} (r : KT H kvs xs) (k : List Key) : RelO (valV kvs k) ((atKey xs k).map (·.2)) := by
  induction r with
  | nil => exact True.intro
  | @cons p q ps qs h t ih =>
    obtain ⟨h1, _, h2⟩ := h
    by_cases e : p.1 = k
    · have e' : q.1 = k := h1.symm.trans e
      have b : atKey (q :: qs) k = some q.2 := by simp [atKey, List.find?_cons, e']
      rw [valV_pos e, b]; exact h2
    · have e' : ¬ q.1 = k := fun z => e (h1.trans z)
      have b : atKey (q :: qs) k = atKey qs k := by simp [atKey, List.find?_cons, e']
      rw [valV_neg e, b]; exact ih
theorem KT.repl {H : Hp} {kvs : List (List Key × V)} {xs : List (List Key × Addr × Value)} (r : KT H kvs xs) (k : List Key) {y : V} {u : Value} (ry : RelV y u) :
    KT H (kvs.map fun kv => if kv.1 = k then (kv.1, y) else kv) (xs.map (putAt k u)) := by
  induction r with
  | nil => exact .nil
  | @cons p q ps qs h t ih =>
    rw [List.map_cons, List.map_cons]
    refine .cons ?_ ih
    obtain ⟨h1, h2, h3⟩ := h
    unfold putAt
    by_cases e : p.1 = k
    · rw [if_pos e, if_pos (h1.symm.trans e)]; exact ⟨h1, h2, ry⟩
    · rw [if_neg e, if_neg (fun z => e (h1.trans z))]; exact ⟨h1, h2, h3⟩
theorem KT.put {H : Hp} {kvs : List (List Key × V)} {xs : List (List Key × Addr × Value)} (r : KT H kvs xs) (k : List Key) {b : Addr} {y : V} {u : Value} (hb : H b = some (.tup (k.map kV))) (ry : RelV y u) :
    KT H (putK kvs k y) (storedH xs k b u) := by
  have e : (kvs.any fun kv => decide (kv.1 = k)) = (atKey xs k).isSome := by
    rw [valV_any, (r.val k).isSome_eq, Option.isSome_map]
  unfold putK storedH
  rw [e]
  by_cases q : (atKey xs k).isSome = true
  · rw [if_pos q, if_pos q]; exact r.repl k ry
  · rw [if_neg q, if_neg q]; exact Paired.snoc r ⟨rfl, hb, ry⟩
theorem KT.keeps {H H' : Hp} {kvs : List (List Key × V)} {xs : List (List Key × Addr × Value)} (r : KT H kvs xs) (ht : ∀ b ys, H b = some (.tup ys) → H' b = some (.tup ys)) : KT H' kvs xs :=
  Paired.mapP r fun _ _ z => ⟨z.1, ht _ _ z.2.1, z.2.2⟩
section
variable {P : Program} {w : World} {H : Hp} {h : Heap} {a : Addr}
theorem rd_of {u : HO} (ok : HOk P w H h) (e : Rd H a u) : ObjOk P w H h a u := e.ok ok
theorem dk_rd {kvs : List (Key × V)} (ok : HOk P w H h) (e : Rd H a (.dK kvs)) : kvs.length ≤ sizeLine ∧ (a == sysModules) = false ∧ ∃ vs, KV kvs vs ∧ h.DictOf (mixKind P w) a vs :=
  show ObjOk P w H h a (.dK kvs) from rd_of ok e
theorem dk_of {kvs : List (Key × V)} (ok : HOk P w H h) (e : H a = some (.dK kvs)) : kvs.length ≤ sizeLine ∧ (a == sysModules) = false ∧ ∃ vs, KV kvs vs ∧ h.DictOf (mixKind P w) a vs := dk_rd ok (.inl e)
theorem key_of {ks : List Key} (ok : HOk P w H h) (e : H a = some (.tup (ks.map kV))) : (tupleKind (mixKind P w)).is h ks a := by
  obtain ⟨_, its, r, o, h1, h2, n, h3⟩ := (show ObjOk P w H h a (.tup (ks.map kV)) from ok a _ e)
  exact ⟨o, its.toArray, n, h1, h2, h3, by simpa using items_are r⟩
theorem dt_rd {kvs : List (List Key × V)} (ok : HOk P w H h) (e : Rd H a (.dT kvs)) : kvs.length ≤ sizeLine ∧ (a == sysModules) = false ∧
    ∃ xs, KT H kvs xs ∧ h.DictOfH (tupleKind (mixKind P w)) a xs := by
  obtain ⟨z, y, xs, r, o, es, ep, h1, h2, h3, h4, h5⟩ := (show ObjOk P w H h a (.dT kvs) from rd_of ok e)
  refine ⟨z, y, xs, r, o, es, ep, h1, h2, h3, h4, fun x hx => ?_, h5⟩
  have all : ∀ {l : List (List Key × V)} {m : List (List Key × Addr × Value)}, KT H l m → ∀ x ∈ m, (tupleKind (mixKind P w)).is h x.1 x.2.1 := by
    intro l m q
    induction q with
    | nil => intro x hx; exact nomatch hx
    | @cons p q ps qs hq t ih =>
      intro x hx
      rcases List.mem_cons.mp hx with e | hx
      · subst e
        exact key_of ok (by rw [← hq.1]; exact hq.2.1)
      · exact ih x hx
  exact all r x hx
theorem dt_of {kvs : List (List Key × V)} (ok : HOk P w H h) (e : H a = some (.dT kvs)) : kvs.length ≤ sizeLine ∧ (a == sysModules) = false ∧
    ∃ xs, KT H kvs xs ∧ h.DictOfH (tupleKind (mixKind P w)) a xs := dt_rd ok (.inl e)
end
def DGet (H : Hp) (a : Addr) (y : V) (r : Option V) : Prop :=
  (∃ kvs k, Rd H a (.dK kvs) ∧ y = kV k ∧ r = valV kvs k) ∨ ∃ kvs k b, Rd H a (.dT kvs) ∧ y = .ref b ∧ H b = some (.tup (k.map kV)) ∧ r = valV kvs k
def DPut (H : Hp) (a : Addr) (y v : V) (H' : Hp) : Prop :=
  (∃ kvs k, H a = some (.dK kvs) ∧ y = kV k ∧ kvs.length < sizeLine ∧ H' = upd H a (.dK (putK kvs k v))) ∨
  ∃ kvs k b, H a = some (.dT kvs) ∧ y = .ref b ∧ H b = some (.tup (k.map kV)) ∧ kvs.length < sizeLine ∧ H' = upd H a (.dT (putK kvs k v))
theorem DGet.k {H : Hp} {a : Addr} {kvs : List (Key × V)} {k : Key} (e : H a = some (.dK kvs)) : DGet H a (kV k) (valV kvs k) := .inl ⟨kvs, k, .inl e, rfl, rfl⟩
theorem DGet.t {H : Hp} {a b : Addr} {kvs : List (List Key × V)} {k : List Key} (e : H a = some (.dT kvs)) (eb : H b = some (.tup (k.map kV))) : DGet H a (.ref b) (valV kvs k) := .inr ⟨kvs, k, b, .inl e, rfl, eb, rfl⟩
theorem DPut.k {H : Hp} {a : Addr} {kvs : List (Key × V)} {k : Key} {v : V} (e : H a = some (.dK kvs)) (hl : kvs.length < sizeLine) : DPut H a (kV k) v (upd H a (.dK (putK kvs k v))) := .inl ⟨kvs, k, e, rfl, hl, rfl⟩
theorem DPut.t {H : Hp} {a b : Addr} {kvs : List (List Key × V)} {k : List Key} {v : V} (e : H a = some (.dT kvs)) (eb : H b = some (.tup (k.map kV))) (hl : kvs.length < sizeLine) :
    DPut H a (.ref b) v (upd H a (.dT (putK kvs k v))) := .inr ⟨kvs, k, b, e, rfl, eb, hl, rfl⟩
section
variable {X : Cx} {pins : List (Addr × Obj)} {σ : St} {H : Hp} {s : Shared} {a : Addr} {y v : V} {u r : Value} {o : Option V} {A : Around} {E : Value → Shared → Prop}
theorem Inv.big (I : Inv X pins σ H s) : sysModules < s.heap.objs.size := by
  have h : mainGlobals < s.heap.objs.size := (I.mod.glob.keeps I.bk).lt
  exact Nat.lt_trans (by decide) h
theorem d_getItem {Q : Value → Shared → Prop} (hu : A.units + 1 < cLine) (I : Inv X pins σ H s) (g : DGet H a y (some v)) (ry : RelV y u) (h : ∀ w' s', Inv X pins σ H s' → RelV v w' → Q w' s') :
    wpAny (model X.prog X.w) A (getItem (.ref a) u) Q E s := by
  rcases g with ⟨kvs, k, e, ey, l⟩ | ⟨kvs, k, b, e, ey, eb, l⟩
  · subst ey
    obtain ⟨z, hd, vs, rel, dd⟩ := dk_rd I.hok e
    obtain ⟨w', hw, rw'⟩ := RelO.some_of (v := v) (o := valueAt vs k) (by rw [l]; exact rel.val k)
    exact wpAny_getItem_of (kV_is ry) dd.mapOf hw (h w' _ (I.tok _) rw')
  · subst ey
    cases (show u = Value.ref b from ry)
    obtain ⟨z, hd, xs, rel, dd⟩ := dt_rd I.hok e
    obtain ⟨w', hw, rw'⟩ := RelO.some_of (v := v) (o := (atKey xs k).map (·.2)) (by rw [l]; exact rel.val k)
    obtain ⟨p, hp, hp2⟩ := Option.map_eq_some_iff.mp hw
    refine wpAny_getItem_heap (tupleKind_room_in1 hu) (key_of I.hok eb) dd hp ?_
    rw [hp2]
    exact h w' _ (I.tok _) rw'
theorem d_notIn {Q : Value → Shared → Prop} (hu : A.units + 1 < cLine) (I : Inv X pins σ H s) (g : DGet H a y o) (ry : RelV y u) (h : ∀ s', Inv X pins σ H s' → Q (.bool (!o.isSome)) s') :
    wpAny (model X.prog X.w) A (compareOp .NotIn u (.ref a)) Q E s := by
  rcases g with ⟨kvs, k, e, ey, l⟩ | ⟨kvs, k, b, e, ey, eb, l⟩
  · subst ey
    obtain ⟨z, hd, vs, rel, dd⟩ := dk_rd I.hok e
    refine wpAny_notIn_of (kV_is ry) hd dd.mapOf ?_
    rw [← (rel.val k).isSome_eq, ← l]
    exact h _ (I.tok _)
  · subst ey
    cases (show u = Value.ref b from ry)
    obtain ⟨z, hd, xs, rel, dd⟩ := dt_rd I.hok e
    refine wpAny_notIn_heap (tupleKind_room_in1 hu) (key_of I.hok eb) hd dd ?_
    have q := (rel.val k).isSome_eq
    rw [Option.isSome_map] at q
    rw [← q, ← l]
    exact h _ (I.tok _)
theorem d_write {h' : Heap} {t' : Nat} {ob : HO} (I : Inv X pins σ H s) (mu : Mut (H a)) (hs : Heap.SameBut a s.heap h') (he : ∃ q, h'.get? a = some q) (new : ObjOk X.prog X.w (upd H a ob) h' a ob) :
    Inv X pins σ (upd H a ob) { s with heap := h', toks := t' } :=
  I.write (x := a) (e := a) mu (.inl rfl) (fun b q hb z => (hs.2 b hb).trans z) he new
theorem dk_new {P : Program} {w : World} {H' : Hp} {h' : Heap} {kvs : List (Key × V)} {vs : List (Key × Value)} (z : kvs.length ≤ sizeLine) (hd : (a == sysModules) = false) (rel : KV kvs vs) (dd : h'.DictOf (mixKind P w) a vs) :
    ObjOk P w H' h' a (.dK kvs) := ⟨z, hd, vs, rel, dd⟩
theorem d_setItem {H' : Hp} {Q : Unit → Shared → Prop} (hu : A.units + 1 < cLine) (I : Inv X pins σ H s) (g : DPut H a y v H') (ry : RelV y u) (rv : RelV v r) (h : ∀ s', Inv X pins σ H' s' → Q () s') :
    wpAny (model X.prog X.w) A (setItem (.ref a) u r) Q E s := by
  rcases g with ⟨kvs, k, e, ey, l, eH⟩ | ⟨kvs, k, b, e, ey, eb, l, eH⟩
  · subst ey eH
    obtain ⟨z, hd, vs, rel, dd⟩ := dk_of I.hok e
    have hz : vs.length ≤ sizeLine := by rw [← rel.length]; exact z
    have hl : (putK kvs k v).length ≤ sizeLine := by have := length_putK kvs k v; omega
    refine wpAny_setItem_pairs (hsz := hz) (kV_is ry) dd fun h' dd' hs => h _ ?_
    have he : ∃ q, h'.get? a = some q := let ⟨q, _, _, hq, _⟩ := dd'; ⟨q, hq⟩
    exact d_write I (by rw [e]; exact True.intro) hs he (dk_new hl hd (rel.put k rv) dd')
  · subst ey eH
    cases (show u = Value.ref b from ry)
    obtain ⟨z, hd, xs, rel, dd⟩ := dt_of I.hok e
    have hz : xs.length ≤ sizeLine := by rw [← Paired.length rel]; exact z
    have hl : (putK kvs k v).length ≤ sizeLine := by have := length_putK kvs k v; omega
    refine wpAny_setItem_heap (hsz := hz) (tupleKind_room_in1 hu) (key_of I.hok eb) dd fun h' dd' hs => h _ ?_
    obtain ⟨q, es, ep, hq, h2, h3, h4, _, h5⟩ := dd'
    refine d_write I (by rw [e]; exact True.intro) hs ⟨q, hq⟩ ⟨hl, hd, _, (rel.put k eb rv).keeps fun c ys ec => ?_, q, es, ep, hq, h2, h3, h4, h5⟩
    rw [upd_ne (ne_of ec e (fun z => nomatch z))]
    exact ec
end
section
variable {X : Cx} {pins : List (Addr × Obj)} {σ : St} {H : Hp} {s : Shared} {a : Addr} {kvs : List (Key × V)} {k : Key} {u : Value} {A : Around} {E : Value → Shared → Prop}
end
def NoSl (i : Expr) : Prop := ∀ ov iv, subscripted i false ov iv = operate [ov, iv] (getItem ov iv)
theorem subD_of {prog : Program} {w : World} {A : Around} {E : Value → Shared → Prop} {s : Shared} {env : Env} {value slice : Expr} {pos : Pos} {T id : String} {Q : Value → Shared → Prop}
    (hl : typeLookup (.type T) "__getitem__" = pure (some (.builtin id))) (hs : NoSl slice)
    (h : wpAny (model prog w) A (eval value env) (fun o s₁ => wpAny (model prog w) A (eval slice env) (fun i s₂ => s₂.TypeIs o T ∧ wpAny (model prog w) A (getItem o i) Q E s₂) E s₁) E s) :
    wpAny (model prog w) A (eval (.Subscript value slice pos) env) Q E s := by
  refine Subscript_ (wpAny_mono h (fun o s₁ h₁ => wpAny_mono h₁ (fun i s₂ h₂ => ?_) fun _ _ x => x) fun _ _ x => x)
  obtain ⟨hT, h₂⟩ := h₂
  unfold subscriptTail
  refine wpAny_bind ?_
  rw [getitemInPython_of_ne hT.not_modules]
  refine wpAny_bind (wpAny_specialOf hT hl ?_)
  have fin : wpAny (model prog w) A (subscripted slice false o i) (fun r s₃ => wpAny (model prog w) A (letTemporaryGo value o r >>= fun _ => pure r) Q E s₃) E s₂ := by
    rw [hs o i]
    exact wpAny_operating (wpAny_mono h₂ (fun r s₃ h₃ => wpAny_bind (wpAny_letTemporaryGo (wpAny_pure h₃))) fun _ _ x => x)
  first
    | exact wpAny_pure (wpAny_bind fin)
    | exact wpAny_bind (wpAny_pure (wpAny_bind fin))
    | exact wpAny_bind fin
theorem dict_typeIs {X : Cx} {pins : List (Addr × Obj)} {σ : St} {H : Hp} {s : Shared} {a : Addr} {y : V} {o : Option V} (I : Inv X pins σ H s) (g : DGet H a y o) : s.TypeIs (.ref a) "dict" := by
  rcases g with ⟨kvs, k, e, _, _⟩ | ⟨kvs, k, b, e, _, _, _⟩
  · obtain ⟨_, _, vs, _, dd⟩ := dk_rd I.hok e
    exact dd.typeIs
  · obtain ⟨_, _, xs, _, dd⟩ := dt_rd I.hok e
    exact dd.typeIs
def tDGet (td ty : TE) : TE := fun σ H Q => td σ H fun x H1 => ty σ H1 fun y H2 => ∃ a v, x = .ref a ∧ DGet H2 a y (some v) ∧ Q v H2
def tDNotIn (ty td : TE) : TE := fun σ H Q => ty σ H fun y H1 => td σ H1 fun x H2 => ∃ a o, x = .ref a ∧ DGet H2 a y o ∧ Q (.bl (!o.isSome)) H2
def sDPut (td ty tv : TE) : TS := fun D σ H => tv σ H fun v H1 => td σ H1 fun x H2 => ty σ H2 fun y H3 => ∃ a H4, x = .ref a ∧ DPut H3 a y v H4 ∧ D.nx σ H4
section
variable {X : Cx} {o i e value : Expr} {pos pos' tpos : Pos} {td ty tv : TE}
theorem pe_dget (hu : X.A.units + 1 < cLine) (ho : PE X o td) (hi : PE X i ty) (hs : NoSl i) : PE X (.Subscript o i pos) (tDGet td ty) := by
  intro pins s σ H Q I h
  refine subD_of PySem.F.slot_dict_getitem.lookup hs (thn (ho pins s σ H _ I h) fun u s1 ⟨x, H1, I1, rx, q1⟩ => thn (hi pins s1 σ H1 _ I1 q1) fun iv s2 ⟨y, H2, I2, ry, a, v, ex, g, q2⟩ => ?_)
  subst ex
  obtain rfl : u = Value.ref a := rx
  exact ⟨dict_typeIs I2 g, d_getItem hu I2 g ry fun w' s3 I3 rw' => ⟨v, H2, I3, rw', q2⟩⟩
theorem pc_dnotin (hu : X.A.units + 1 < cLine) (hi : PE X i ty) (ho : PE X o td) : PC X .NotIn i o (tDNotIn ty td) := by
  intro pins s σ H Q I h
  refine thn (hi pins s σ H _ I h) fun iv s1 ⟨y, H1, I1, ry, q1⟩ => thn (ho pins s1 σ H1 _ I1 q1) fun u s2 ⟨x, H2, I2, rx, a, ov, ex, g, q2⟩ => ?_
  subst ex
  obtain rfl : u = Value.ref a := rx
  exact d_notIn hu I2 g ry fun s3 I3 => ⟨.bl (!ov.isSome), H2, I3, rfl, q2⟩
theorem ps_dput (hu : X.A.units + 1 < cLine) (ho : PE X o td) (hi : PE X i ty) (hv : PE X value tv) (hs : swapsWith value (some (.Subscript o i pos')) pos.line X.env = pure false) :
    PS X (.Assign [.Subscript o i pos'] value pos) (sDPut td ty tv) := by
  intro pins s σ H D I h
  refine wpAny_Assign_Subscript (thn (hv pins s σ H _ I h) fun r s1 ⟨v, H1, I1, rv, q1⟩ => thn (ho pins s1 σ H1 _ I1 q1) fun u s2 ⟨x, H2, I2, rx, q2⟩ => thn (hi pins s2 σ H2 _ I2 q2) fun iv s3 ⟨y, H3, I3, ry, a, H4, ex, g, q3⟩ => ?_) hs
  subst ex
  obtain rfl : u = Value.ref a := rx
  exact d_setItem hu I3 g ry rv fun s4 I4 => ⟨σ, H4, I4, q3⟩
end
theorem dk_empty {P : Program} {w : World} {H : Hp} (h : Heap) (hb : sysModules < h.objs.size) : ObjOk P w H (h.push { cls := .type "dict", data := .dict #[] }) h.objs.size (.dK []) :=
  ⟨Nat.zero_le _, beq_eq_false_iff_ne.mpr (Ne.symm (Nat.ne_of_lt hb)), [], .nil, Heap.DictOf.new h⟩
def tDNewK : TE := fun _ H Q => ∀ p, H p = none → Q (.ref p) (upd H p (.dK []))
section
variable {X : Cx} {pos : Pos}
theorem pe_dnewK : PE X (.Dict [] [] pos) tDNewK := fun pins s σ H Q I h =>
  wpAny_Dict_empty ⟨.ref s.heap.objs.size, _, I.laid (a := s.heap.objs.size) (o := .dK []) (t' := s.toks) (fun _ _ q => Heap.get?_push_of_some _ q) (Nat.le_refl _) (dk_empty s.heap I.big), rfl, h _ (I.hok.fresh (Nat.le_refl _))⟩
end
def tPairs : List (TE × TE) → St → Hp → (List (V × V) → Hp → Prop) → Prop
  | [], _, H, Q => Q [] H
  | (tk, tv) :: r, σ, H, Q => tk σ H fun x H1 => tv σ H1 fun y H2 => tPairs r σ H2 fun ps H3 => Q ((x, y) :: ps) H3
abbrev VV : List (V × V) → List (Value × Value) → Prop := Paired fun p q => RelV p.1 q.1 ∧ RelV p.2 q.2
def PPs (X : Cx) (pos : Pos) (keys : List (Option Expr)) (values : List Expr) (trs : List (TE × TE)) : Prop :=
  ∀ (pins : List (Addr × Obj)) (s : Shared) (σ : St) (H : Hp) (Q : List (V × V) → Hp → Prop), Inv X pins σ H s → tPairs trs σ H Q →
    wpAny (model X.prog X.w) X.A (evalPairs (pairTrees keys values X.env pos)) (fun vs s' => ∃ ps H', Inv X pins σ H' s' ∧ VV ps vs ∧ Q ps H') X.xe s
theorem pps_nil {X : Cx} {pos : Pos} : PPs X pos [] [] [] := fun pins s σ H Q I h => pairTrees_nil_walk ⟨[], H, I, .nil, h⟩
theorem pps_cons {X : Cx} {pos : Pos} {k v : Expr} {ks : List (Option Expr)} {vs : List Expr} {tk tv : TE} {trs : List (TE × TE)} (hk : PE X k tk) (hv : PE X v tv) (hr : PPs X pos ks vs trs) :
    PPs X pos (some k :: ks) (v :: vs) ((tk, tv) :: trs) := fun pins s σ H Q I h =>
  pairTrees_cons_walk (thn (hk pins s σ H _ I h) fun u s1 ⟨x, H1, I1, rx, q1⟩ => thn (hv pins s1 σ H1 _ I1 q1) fun w2 s2 ⟨y, H2, I2, ry, q2⟩ =>
    thn (hr pins s2 σ H2 _ I2 q2) fun ws s3 ⟨ps, H3, I3, rel, q3⟩ => ⟨(x, y) :: ps, H3, I3, .cons ⟨rx, ry⟩ rel, q3⟩)
def mergeK (kvs more : List (Key × V)) : List (Key × V) := more.foldl (fun acc kv => putK acc kv.1 kv.2) kvs
theorem KV.merge : ∀ {more : List (Key × V)} {rs : List (Key × Value)} {kvs : List (Key × V)} {vs : List (Key × Value)}, KV more rs → KV kvs vs → KV (mergeK kvs more) (merged vs rs) := by
  intro more rs kvs vs r
  unfold KV at r
  induction r generalizing kvs vs with
  | nil => intro q; exact q
  | @cons p q ps qs h t ih =>
    intro r0
    have e : KV (putK kvs p.1 p.2) (stored vs q.1 q.2) := by
      have := r0.put p.1 h.2
      rw [← h.1]; exact this
    exact ih e
theorem length_mergeK : ∀ (more kvs : List (Key × V)), (mergeK kvs more).length ≤ kvs.length + more.length
  | [], kvs => by show kvs.length ≤ kvs.length + 0; omega
  | p :: r, kvs => by
    have h1 := length_mergeK r (putK kvs p.1 p.2)
    have h2 := length_putK kvs p.1 p.2
    show (mergeK (putK kvs p.1 p.2) r).length ≤ _
    rw [List.length_cons]; omega
theorem carries_of {P : Program} {w : World} : ∀ {kvs : List (Key × V)} {ws : List (Value × Value)}, VV (kvs.map fun kv => (kV kv.1, kv.2)) ws → ∃ rs, Carries (mixKind P w) ws rs ∧ KV kvs rs
  | [], _, r => by rw [List.map_nil] at r; cases r; exact ⟨[], True.intro, .nil⟩
  | p :: kvs, _, r => by
    rw [List.map_cons] at r
    cases r with
    | @cons a b as bs h t =>
      obtain ⟨rs, c, q⟩ := carries_of (P := P) (w := w) t
      obtain ⟨b1, b2⟩ := b
      exact ⟨(p.1, b2) :: rs, ⟨kV_is h.1, rfl, c⟩, .cons ⟨rfl, h.2⟩ q⟩
def tDisp (trs : List (TE × TE)) : TE := fun σ H Q => ∀ p, H p = none → tPairs trs σ (upd H p (.dK [])) fun ps H2 => H2 p = some (.dK []) ∧ ∃ kvs : List (Key × V), ps = kvs.map (fun kv => (kV kv.1, kv.2)) ∧ kvs.length ≤ 15 ∧ Q (.ref p) (upd H2 p (.dK (mergeK [] kvs)))
theorem pe_disp {X : Cx} {pos : Pos} {keys : List (Option Expr)} {values : List Expr} {trs : List (TE × TE)} (h : PPs X pos keys values trs) (hall : keys.all (·.isSome) = true) (hl : keys.length = values.length) (h0 : keys ≠ [])
    (h15 : keys.length ≤ 15) : PE X (.Dict keys values pos) (tDisp trs) := by
  intro pins s σ H Q I q
  have hn := I.hok.fresh (Nat.le_refl s.heap.objs.size)
  have I1 := I.laid (a := s.heap.objs.size) (o := .dK []) (h' := s.heap.push { cls := .type "dict", data := .dict #[] }) (t' := s.toks) (fun _ _ q => Heap.get?_push_of_some _ q) (Nat.le_refl _) (dk_empty s.heap I.big)
  refine wpAny_Dict_walk (knd := mixKind X.prog X.w) hall hl h0 h15 (thn (h pins _ σ _ _ I1 (q _ hn)) fun ws s2 ⟨ps, H2, I2, rel, e, kvs, ep, lk, q2⟩ => ?_)
  subst ep
  obtain ⟨rs, c, rk⟩ := carries_of (P := X.prog) (w := X.w) rel
  obtain ⟨z, hd, vs0, r0, dd⟩ := dk_of I2.hok e
  cases r0
  refine ⟨rs, c, dd, fun h' dd' hs => ⟨.ref s.heap.objs.size, _, ?_, rfl, q2⟩⟩
  have hz : (mergeK [] kvs).length ≤ sizeLine := by
    have h1 := length_mergeK kvs []
    rw [List.length_nil] at h1
    rw [sizeLine_eq]; omega
  have he : ∃ q, h'.get? s.heap.objs.size = some q := let ⟨q, _, _, hq, _⟩ := dd'; ⟨q, hq⟩
  exact d_write I2 (by rw [e]; exact True.intro) hs he (dk_new hz hd (rk.merge .nil) dd')
structure M1 (X : Cx) (o : Expr) (m : Str) (apos : Pos) (e : Expr) (cpos : Pos) : Prop where
  base : attributeBase o m X.env (eval o X.env) = eval o X.env
  few : ((backTo cpos (starEach [e] X.env)).all (fun x => !x.1) && (backToKw cpos (keywordEach [] X.env)).all (fun x => x.1.isSome)
    && decide (([e] : List Expr).length + ([] : List Keyword).length + (if ([] : List Keyword).isEmpty then 0 else 1) < 30)) = true
  line : (apos.endLine == cpos.line) = true
  trees : backTo cpos (starEach [e] X.env) = [(false, eval e X.env)]
structure M2 (X : Cx) (o : Expr) (m : Str) (apos : Pos) (e f : Expr) (cpos : Pos) : Prop where
  base : attributeBase o m X.env (eval o X.env) = eval o X.env
  few : ((backTo cpos (starEach [e, f] X.env)).all (fun x => !x.1) && (backToKw cpos (keywordEach [] X.env)).all (fun x => x.1.isSome)
    && decide (([e, f] : List Expr).length + ([] : List Keyword).length + (if ([] : List Keyword).isEmpty then 0 else 1) < 30)) = true
  line : (apos.endLine == cpos.line) = true
  trees : backTo cpos (starEach [e, f] X.env) = [(false, eval e X.env), (false, eval f X.env)]
def IsD (H : Hp) (a : Addr) : Prop := (∃ kvs, Rd H a (.dK kvs)) ∨ ∃ kvs, Rd H a (.dT kvs)
theorem isD_at {X : Cx} {pins : List (Addr × Obj)} {σ : St} {H : Hp} {s : Shared} {a : Addr} (I : Inv X pins σ H s) (d : IsD H a) :
    s.TypeIs (.ref a) "dict" ∧ (∀ b, Value.ref a = .ref b → ∃ ob, s.heap.get? b = some ob ∧ ob.dict = none) ∧ (a == sysModules) = false := by
  rcases d with ⟨kvs, e⟩ | ⟨kvs, e⟩
  · obtain ⟨_, hd, vs, _, dd⟩ := dk_rd I.hok e
    refine ⟨dd.typeIs, fun b q => ?_, hd⟩
    cases q
    obtain ⟨ob, _, _, h1, h2, _⟩ := dd
    exact ⟨ob, h1, h2.2.1⟩
  · obtain ⟨_, hd, xs, _, dd⟩ := dt_rd I.hok e
    refine ⟨dd.typeIs, fun b q => ?_, hd⟩
    cases q
    obtain ⟨ob, _, _, h1, h2, _⟩ := dd
    exact ⟨ob, h1, h2.2.1⟩
section
variable {X : Cx} {pins : List (Addr × Obj)} {σ : St} {H : Hp} {s : Shared} {a : Addr} {y d : V} {u r : Value} {o : Option V} {A : Around} {E : Value → Shared → Prop}
theorem d_get2 {Q : Value → Shared → Prop} (hu : A.units + 1 < cLine) (I : Inv X pins σ H s) (g : DGet H a y o) (ry : RelV y u) (rd : RelV d r) (h : ∀ w' s', Inv X pins σ H s' → RelV (o.getD d) w' → Q w' s') :
    wpAny (model X.prog X.w) A (call (.builtin "dict.get") [.ref a, u, r]) Q E s := by
  rcases g with ⟨kvs, k, e, ey, l⟩ | ⟨kvs, k, b, e, ey, eb, l⟩
  · subst ey
    obtain ⟨z, hd, vs, rel, dd⟩ := dk_rd I.hok e
    refine call_meetsIn PySem.F.slot_dict_get dd.typeIs PySem.F.entry_dict_get (PySem.F.args_dict_get_3 _ _ _) (meets_dict_get_default (mixKind X.prog X.w) a (kV_is ry) hd r) ⟨_, dd.mapOf, h _ _ (I.tok _) ?_⟩
    rw [l]
    exact (rel.val k).getD rd
  · subst ey
    cases (show u = Value.ref b from ry)
    obtain ⟨z, hd, xs, rel, dd⟩ := dt_rd I.hok e
    refine call_meetsIn PySem.F.slot_dict_get dd.typeIs PySem.F.entry_dict_get (PySem.F.args_dict_get_3 _ _ _) (meetsH_dict_get_default (tupleKind (mixKind X.prog X.w)) a b hd r) ⟨tupleKind_room_in1 hu, k, xs, key_of I.hok eb, dd, h _ _ (I.tok _) ?_⟩
    rw [l]
    exact (rel.val k).getD rd
end
def tDGet2 (td ty tx : TE) : TE := fun σ H Q => td σ H fun x H1 => ∃ a, x = .ref a ∧ IsD H1 a ∧ ty σ H1 fun y H2 => tx σ H2 fun z H3 => ∃ o, DGet H3 a y o ∧ Q (o.getD z) H3
section
variable {X : Cx} {o e f : Expr} {apos cpos : Pos} {td ty tx : TE}
theorem pe_dget2 (hu : X.A.units + 1 < cLine) (ho : PE X o td) (he : PE X e ty) (hf : PE X f tx) (m : M2 X o "get" apos e f cpos) : PE X (.Call (.Attribute o "get" apos) [e, f] [] cpos) (tDGet2 td ty tx) := by
  intro pins s σ H Q I h
  refine wpAny_Call_method m.base m.few m.line PySem.F.plainAttrs_dict PySem.F.slot_dict_get PySem.F.type_dict_get (thn (ho pins s σ H _ I h) fun u s1 ⟨x, H1, I1, rx, a, ex, d, q1⟩ => ?_)
  subst ex
  obtain rfl : u = Value.ref a := rx
  obtain ⟨t1, t2, _⟩ := isD_at I1 d
  refine ⟨t1, t2, ?_⟩
  rw [m.trees]
  refine Calls.callWith_builtin rfl (Calls.evalArgs_plain (Calls.spliced_cons (thn (he pins s1 σ H1 _ I1 q1) fun iv s2 ⟨y, H2, I2, ry, q2⟩ =>
    Calls.spliced_cons (thn (hf pins s2 σ H2 _ I2 q2) fun fv s3 ⟨z, H3, I3, rz, ov, g, q3⟩ => Calls.spliced_nil ?_))))
  exact d_get2 hu I3 g ry rz fun w' s4 I4 rw' => ⟨_, H3, I4, rw', q3⟩
end
section
variable {X : Cx} {pins : List (Addr × Obj)} {σ : St} {H : Hp} {s : Shared} {a : Addr} {kvs : List (Key × V)} {A : Around} {E : Value → Shared → Prop}
end
section
variable {X : Cx} {pins : List (Addr × Obj)} {σ : St} {H : Hp} {s : Shared} {a : Addr} {y : V} {u : Value} {A : Around} {E : Value → Shared → Prop}
end
end L2
namespace L2
open PySem PySem.Spec PyProof.Rows
theorem list_keys_none : typeLookup (.type "list") "keys" = pure none := am_miss_of_fast (by first | decide +kernel | rfl)
theorem ud_entry : entryFor table "dict.update.loop" = some Builtin.«dict.update.loop» := entryFor_of_tree (by kernel_rfl)
theorem ud_plain : plainId "dict.update.loop" = true := by decide +kernel
section
variable {prog : Program} {w : World} {A : Around} {E : Value → Shared → Prop}
theorem miss_list {s : Shared} {a : Addr} {o : Obj} {xs : Array Value} {k : Nat} {Q : Option Value → Shared → Prop} (hx : s.heap.get? a = some o) (hc : o.cls = .type "list") (hdat : o.data = .seq xs k) (hd : o.dict = none) (hA : A.handled = none)
    (h : ∀ h' tk, (∀ b ob, s.heap.get? b = some ob → h'.get? b = some ob) → Q none { s with heap := h', toks := tk }) : wpAny (model prog w) A (getAttr? (.ref a) "keys") Q E s := by
  obtain ⟨c, dct, dat, sl⟩ := o
  simp only at hc hdat hd
  subst hc hdat hd
  obtain ⟨hp, g, d, tk, os⟩ := s
  have hT : ∀ tk', (⟨hp, g, d, tk', os⟩ : Shared).TypeIs (.ref a) "list" := fun _ => ⟨_, hx, rfl⟩
  have hmiss := list_keys_none
  have hname : (["__module__", "__name__", "__qualname__", "__doc__", "__annotations__"] : List Str).contains "keys" = false := by decide +kernel
  have hsz : ("keys" : Str).length + 100 ≤ sizeLine := by first | size_fits | decide +kernel
  have f1 := sub_AttributeError
  have f3 := PySem.F.slot_list_getattribute.lookup
  have f4 := PySem.F.slot_list_getattribute.bind (.ref a)
  have f5 := am_list_getattr_none
  unfold getAttr? getAttrBy? getAttrBy
  repeat (any_goals (first | assumption | exact hT _ | ((with_reducible show wpAny _ _ (call (Value.builtin "list.__getattribute__") _ _) _ _ _); refine call_meets PySem.F.slot_list_getattribute (hT _) am_entry_list_getattribute (PySem.F.args_list_getattribute_2 _ _) (meets_getattribute_miss_list a xs k sl "keys" _ hmiss hname hsz) ⟨hx, hA, fun h' tk' e hx' => ?_⟩) | wp_step))
  obtain ⟨t', u', he⟩ := hx'.there
  show wpAny _ _ (getattributeRaised _ _ _ _ _ _ _) _ _ _
  unfold getattributeRaised
  repeat (any_goals (first | assumption | wp_step))
  all_goals first | exact h _ _ hx'.keeps | (dsimp only; repeat (any_goals (first | assumption | exact h _ _ hx'.keeps | wp_step)))
theorem upd_loop {R : Result → Shared → Prop} {S I l : Addr} {items : Array Value} {res : Value} (hh : A.handled = none) (hlI : l ≠ I) (hSI : S ≠ I) (hSl : S ≠ l) :
    ∀ (rest : List (Key × Value)) (i : Nat) (acc : List (Key × Value)) (ix : Int) (t : Tok) (s : Shared), items.size = i + rest.length → acc.length + rest.length ≤ sizeLine →
      (∀ (j : Nat) (q : Key × Value), rest[j]? = some q → ∃ (b : Addr) (u : Value), items[i + j]? = some (.ref b) ∧ b ≠ S ∧ b ≠ I ∧ IsTup s.heap b #[u, q.2] ∧ keyIs q.1 u = true) →
      s.heap.IsListIter I l i → s.heap.IsList l items → s.heap.DictOf (mixKind prog w) S acc →
      (∀ h' tk, h'.DictOf (mixKind prog w) S (merged acc rest) → (∀ b o, b ≠ S → b ≠ I → s.heap.get? b = some o → h'.get? b = some o) → R (.ok (.ret res)) { s with heap := h', toks := tk }) →
      codeAny (model prog w) A (.builtin "dict.update.loop" ⟨[.ref S, .ref I, .int ix t, res], []⟩) R s
  | [], i, acc, ix, t, s, hsz, hln, ht, hit, hl, hm, hR => by
    refine codeAny_builtin ud_entry ?_
    rw [Around.under_plainId ud_plain _]
    show wpAny _ A.in1 (pyNext (.ref I) >>= _) _ _ s
    refine wpAny_bind (wpAny_pyNext_list_end (A := A.in1) hh hit hl (by first | exact Array.getElem?_eq_none (Nat.le_of_eq hsz) | (simp at hsz; simp; omega)) fun h' he => ?_)
    show wpAny _ A.in1 (Builtin.Dict.addKeywords S [] >>= _) _ _ _
    refine wpAny_bind (wpAny_pure (wpAny_pure ?_))
    exact hR h' s.toks (hm.extBut he hSI) fun b o _ hb e => he b o hb e
  | q :: rest, i, acc, ix, t, s, hsz, hln, ht, hit, hl, hm, hR => by
    obtain ⟨b, u, hb, hbS, hbI, htup, hk⟩ := ht 0 q rfl
    rw [List.length_cons] at hsz hln
    refine codeAny_builtin ud_entry ?_
    rw [Around.under_plainId ud_plain _]
    show wpAny _ A.in1 (pyNext (.ref I) >>= _) _ _ s
    refine wpAny_bind (wpAny_pyNext_list_item (x := .ref b) hit hl (by simpa using hb) fun h1 hit1 hs1 => ?_)
    have ht1 : IsTup h1 b #[u, q.2] := htup.extBut hs1.extBut hbI
    have hl1 : h1.IsList l items := hl.extBut hs1.extBut hlI
    have hm1 : h1.DictOf (mixKind prog w) S acc := hm.extBut hs1.extBut hSI
    obtain ⟨o, ho, hc, n, hd⟩ := id ht1
    show wpAny _ A.in1 (holding [Value.ref b] _ >>= _) _ _ _
    refine wpAny_bind (wpAny_holding ?_)
    refine wpAny_bind (wpAny_tryCatch ?_)
    unfold Builtin.Dict.pairItems
    refine wpAny_bind (wpAny_typeOf (T := "tuple") ⟨o, ho, hc⟩ ?_)
    rw [if_pos (by first | decide | rfl | simp)]
    refine wpAny_bind (wpAny_seqItems ho hd (wpAny_pure ?_))
    show wpAny _ A.in1 (holding [u, q.2] (dictSet S u q.2)) _ _ _
    refine wpAny_holding (wpAny_dictSet_pairs (knd := mixKind prog w) (k := q.1) hk hm1 (fun h2 hm2 hs2 => ?_) (by omega))
    refine wpAny_pure ⟨plainId_quiet ud_plain _, upd_loop (items := items) hh hlI hSI hSl rest (i + 1) (stored acc q.1 q.2) (ix + 1) 0 _ (show items.size = i + 1 + rest.length by omega) ?_ (fun j q' e => ?_) ?_ ?_ hm2 fun h' tk hd' k => ?_⟩
    · have z := stored_length_le acc q.1 q.2
      omega
    · obtain ⟨b', u', hb', hbS', hbI', htup', hk'⟩ := ht (j + 1) q' (by simpa using e)
      refine ⟨b', u', ?_, hbS', hbI', (htup'.extBut hs1.extBut hbI').extBut hs2.extBut hbS', hk'⟩
      rw [show i + 1 + j = i + (j + 1) by omega]
      exact hb'
    · exact hit1.at fun o' e => hs2.extBut I o' (Ne.symm hSI) e
    · exact hl1.extBut hs2.extBut (Ne.symm hSl)
    · exact hR h' tk hd' fun c oc h3 h4 e => k c oc h3 h4 (hs2.extBut c oc h3 (hs1.extBut c oc h4 e))
theorem call_dict_pairs {s : Shared} {l : Addr} {ol : Obj} {items : Array Value} {n : Nat} {prs : List (Key × Value)} {Q : Value → Shared → Prop} (hh : A.handled = none) (hl : s.heap.get? l = some ol) (hc : ol.cls = .type "list") (hd : ol.dict = none)
    (hdat : ol.data = .seq items n) (hsz : items.size = prs.length) (hln : prs.length ≤ sizeLine)
    (ht : ∀ (j : Nat) (q : Key × Value), prs[j]? = some q → ∃ (b : Addr) (u : Value), items[j]? = some (.ref b) ∧ IsTup s.heap b #[u, q.2] ∧ keyIs q.1 u = true)
    (h : ∀ h' tk, h'.DictOf (mixKind prog w) s.heap.objs.size (merged [] prs) → (∀ b o, s.heap.get? b = some o → h'.get? b = some o) → Q (.ref s.heap.objs.size) { s with heap := h', toks := tk }) :
    wpAny (model prog w) A (call (.type "dict") [.ref l]) Q E s := by
  refine callType_codes (Q₁ := fun obj s₁ => obj = .ref s.heap.objs.size ∧ s₁ = { s with heap := s.heap.push { cls := .type "dict", data := .dict #[] } }) PySem.F.kt_called_dict (PySem.F.kt_typeCall_dict_1 _) PySem.F.entry_dict_init (kt_code_dict_new _ ⟨rfl, rfl⟩) ?_
  rintro obj s₁ ⟨rfl, rfl⟩
  have hnew : (s.heap.push { cls := .type "dict", data := .dict #[] }).DictOf (mixKind prog w) s.heap.objs.size [] := Heap.DictOf.new s.heap
  have k0 : ∀ b o, s.heap.get? b = some o → (s.heap.push { cls := .type "dict", data := .dict #[] }).get? b = some o := fun b o e => Heap.get?_push_of_some _ e
  refine ⟨hnew.typeIs, PySem.F.args_dict_init_2 _ _, ?_⟩
  unfold Builtin.«dict.__init__»
  refine wpAny_bind ?_
  unfold Builtin.Dict.selfAndRest
  refine wpAny_bind (wpAny_notOrdered_dict hnew.typeIs ?_)
  show wpAny _ _ (pure (s.heap.objs.size, [Value.ref l])) _ _ _
  refine wpAny_pure ?_
  show wpAny _ _ (Builtin.Dict.updateFrom "dict.__init__" s.heap.objs.size (.ref l) [] .none) _ _ _
  unfold Builtin.Dict.updateFrom
  refine wpAny_bind (wpAny_typeOf (T := "list") ⟨ol, k0 _ _ hl, hc⟩ ?_)
  rw [if_pos (by first | decide | rfl | simp)]
  refine wpAny_bind (miss_list (k0 _ _ hl) hc hdat hd hh fun h1 tk1 hk1 => ?_)
  rw [if_pos (show (none : Option Value).isNone = true from rfl)]
  refine wpAny_bind (wpAny_rule ?_)
  have hl1 : h1.IsList l items := ⟨ol, hk1 _ _ (k0 _ _ hl), hc, n, hdat⟩
  have hS1 : s.heap.objs.size < h1.objs.size := by
    have e : (s.heap.push { cls := .type "dict", data := .dict #[] }).get? s.heap.objs.size = some { cls := .type "dict", data := .dict #[] } := Heap.get?_push_size _ rfl
    exact Heap.lt_size (hk1 _ _ e)
  refine wpAny_bind (wpAny_pyIter_list hl1 ?_)
  have k2 : ∀ b o, h1.get? b = some o → (h1.push { cls := .type "list_iterator", data := .fields #[.ref l, .int 0 0] }).get? b = some o := fun b o e => Heap.get?_push_of_some _ e
  have hlt : l < s.heap.objs.size := Heap.lt_size hl
  have key := upd_loop (prog := prog) (w := w) (A := A.in1) (R := wants (fun r s₂ => r = .none ∧ Q (.ref s.heap.objs.size) s₂) E) (S := s.heap.objs.size) (I := h1.objs.size) (l := l) (items := items) (res := Value.none) hh
    (Nat.ne_of_lt (Nat.lt_trans hlt hS1)) (Nat.ne_of_lt hS1) (Nat.ne_of_gt hlt) prs 0 [] 0 0
    { s with heap := h1.push { cls := .type "list_iterator", data := .fields #[.ref l, .int 0 0] }, toks := tk1 } (by rw [hsz, Nat.zero_add]) (by rw [List.length_nil, Nat.zero_add]; exact hln)
    (fun j q e => by
      obtain ⟨b, u, e1, e2, e3⟩ := ht j q e
      have hb : b < s.heap.objs.size := e2.lt
      exact ⟨b, u, by rw [Nat.zero_add]; exact e1, Nat.ne_of_lt hb, Nat.ne_of_lt (Nat.lt_trans hb hS1), e2.keeps fun c o z => k2 _ _ (hk1 _ _ (k0 _ _ z)), e3⟩)
    ⟨_, Heap.get?_push_size _ rfl, rfl, rfl⟩ (hl1.at fun o e => k2 _ _ e) ((hnew.at fun o e => hk1 _ _ e).at fun o e => k2 _ _ e)
    (fun h' tk hd' k => ⟨rfl, h h' tk hd' fun b o e => k b o (Nat.ne_of_lt (Heap.lt_size e)) (Nat.ne_of_lt (Nat.lt_trans (Heap.lt_size e) hS1)) (k2 _ _ (hk1 _ _ (k0 _ _ e)))⟩)
  first
    | exact wpAny_pure ⟨plainId_quiet ud_plain _, key⟩
    | exact wpAny_bind (wpAny_pure (wpAny_pure ⟨plainId_quiet ud_plain _, key⟩))
end
section
variable {X : Cx}
theorem pairs_of {pins : List (Addr × Obj)} {σ : St} {H : Hp} {s : Shared} (I : Inv X pins σ H s) : ∀ {ps : List Addr} {kvs : List (Key × V)}, Paired (fun p kv => SqT X.K H p [kV kv.1, kv.2]) ps kvs →
    ∃ prs : List (Key × Value), KV kvs prs ∧ prs.length = ps.length ∧ ∀ (j : Nat) (q : Key × Value), prs[j]? = some q → ∃ (b : Addr) (u : Value), ps[j]? = some b ∧ IsTup s.heap b #[u, q.2] ∧ keyIs q.1 u = true
  | _, _, .nil => ⟨[], .nil, rfl, fun j q e => by simp at e⟩
  | _, _, .cons (a := p) (b := kv) h t => by
    obtain ⟨prs, r, hl, hp⟩ := pairs_of I t
    obtain ⟨its, rv, ht, _⟩ := I.tuple h
    obtain ⟨u, y, ei, ru, ry⟩ := vals2 rv
    subst ei
    refine ⟨(kv.1, y) :: prs, .cons ⟨rfl, ry⟩ r, by rw [List.length_cons, List.length_cons, hl], fun j q e => ?_⟩
    cases j with
    | zero =>
      have e' : (kv.1, y) = q := Option.some.inj e
      subst e'
      exact ⟨p, u, rfl, ht, kV_is (P := X.prog) (w := X.w) ru⟩
    | succ j =>
      obtain ⟨b, u', e1, e2, e3⟩ := hp j q (by simpa using e)
      exact ⟨b, u', by simpa using e1, e2, e3⟩
theorem refs_at : ∀ {ps : List Addr} {us : List Value}, Vals (ps.map V.ref) us → us = ps.map Value.ref
  | [], us, r => by
    rw [List.map_nil] at r
    cases r
    rfl
  | p :: ps, us, r => by
    rw [List.map_cons] at r
    cases r with
    | cons h t =>
      cases h
      rw [List.map_cons, ← refs_at t]
theorem call_dictP (hcalm : X.calm = true) : CallR X (.type "dict") (fun xs H Q => ∃ (a : Addr) (ps : List Addr) (kvs : List (Key × V)), xs = [.ref a] ∧ SqL X.K H a (ps.map V.ref) ∧ Paired (fun p kv => SqT X.K H p [kV kv.1, kv.2]) ps kvs ∧
    ∀ p, H p = none → Q (.ref p) (upd H p (.dK (mergeK [] kvs)))) := by
  intro pins s σ H xs us Q I r q
  obtain ⟨a, ps, kvs, ex, hq, hp, q⟩ := q
  subst ex
  obtain ⟨u, eu, rx⟩ := vals1 r
  subst eu
  cases rx
  obtain ⟨its, rv, pl, hz⟩ := I.list hq
  have ei := refs_at rv
  subst ei
  rw [List.length_map] at hz
  obtain ⟨prs, rel, hl, hpr⟩ := pairs_of I hp
  obtain ⟨o, n, ho, hc, hd, hdat⟩ := pl
  refine call_dict_pairs (prs := prs) (I.ok.hd hcalm) ho hc hd hdat (by simp [hl]) (by rw [hl]; exact hz) (fun j q' e => ?_) fun h' tk hd' k => ?_
  · obtain ⟨b, u, e1, e2, e3⟩ := hpr j q' e
    exact ⟨b, u, by simp [e1], e2, e3⟩
  · have hm : (s.heap.objs.size == sysModules) = false := beq_eq_false_iff_ne.mpr (Nat.ne_of_gt I.big)
    have hlen : (mergeK [] kvs).length ≤ sizeLine := by
      refine Nat.le_trans (length_mergeK kvs []) ?_
      rw [List.length_nil, Nat.zero_add, rel.length, hl]
      exact hz
    exact ⟨.ref s.heap.objs.size, upd H s.heap.objs.size (.dK (mergeK [] kvs)), I.laid (t' := tk) k (Nat.le_refl _) (show ObjOk X.prog X.w _ _ _ (.dK (mergeK [] kvs)) from ⟨hlen, hm, merged [] prs, KV.merge rel .nil, hd'⟩), rfl, q _ (I.hok.fresh (Nat.le_refl _))⟩
end
end L2
namespace L2
open PySem PySem.Spec PyProof.Rows
section
variable {X : Cx} {pins : List (Addr × Obj)} {σ : St} {H : Hp} {s : Shared} {h' : Heap}
end
section
variable {X : Cx}
theorem pi_one {tg : Expr} {pins : List (Addr × Obj)} {σ : St} {H : Hp} {s : Shared} {R : It → Hp → Prop} {J : It} {tn : Nat → Heap → Prop} {tk : Nat} (I : Inv X pins σ H s) (o : Obj)
    (T : Turn X.prog X.w X.K tg J [s.heap.objs.size] s.heap.objs.size tn) (st : tn 0 (s.heap.push o)) (q : R J H) : PIE X pins σ tg R (.ref s.heap.objs.size) { s with heap := s.heap.push o, toks := tk } := by
  refine ⟨s.heap.objs.size, [s.heap.objs.size], tn, J, H, rfl, I.kept fun b ob e => Heap.get?_push_of_some _ e, T, st, fun b hb => ?_, q⟩
  have e : b = s.heap.objs.size := by simpa using hb
  subst e
  exact I.fpOk (Nat.le_refl _) (I.hok.fresh (Nat.le_refl _))
end
def RgC (i j c : Int) (n : Nat) : Prop := c ≠ 0 ∧ c.natAbs < 1073741824 ∧ Builtin.Range.small i j c = true ∧ Builtin.Range.rangeSize i j c = n
theorem RgC.neg {i j : Int} (ha : -(2 ^ 62) ≤ i) (ha' : i < 2 ^ 62) (hb : -(2 ^ 62) ≤ j) (hb' : j < 2 ^ 62) : RgC i j (-1) (i - j).toNat :=
  ⟨by decide, by decide, PySem.W.small_down ha ha' hb hb', PySem.W.rangeSize_downNat i j⟩
section
variable {X : Cx} {tg : Expr}
end
section
variable {X : Cx} {tg : Expr}
end
def Its (x : Str) : It := ⟨fun i _ => i < x.cps.size, fun i H v H' => H' = H ∧ ∃ c, x.cps[i]? = some c ∧ v = .str ⟨#[c]⟩, fun i _ => x.cps.size ≤ i⟩
theorem turn_str {P : Program} {w : World} {K : PySem.W.Frag} {tg : Expr} (it : Addr) (x : Str) (t : Tok) (ty : String) (hty : ty = "str_ascii_iterator" ∨ ty = "str_iterator") :
    Turn P w K tg (Its x) [it] it (fun i h => h.IsStrIter it ty x t i) where
  mem := by simp
  obj := fun i h st b hb => by
    have e : b = it := by simpa using hb
    subst e
    obtain ⟨o, e, c, d⟩ := st
    exact ⟨o, e, fun v z => by rw [d] at z; cases z⟩
  keep := fun i h h' st k => let ⟨o, ho, r⟩ := st; ⟨o, k it (by simp) o ho, r⟩
  item := by
    intro X hP hw hK hc i pins s σ H E I hf st hg
    subst hP hw hK
    obtain ⟨f0, f1, f2, f3, f4, f5⟩ := hf it (by simp)
    have W : Walks X.prog X.w X.A it [it] [it] x.cps.size (SignAt x) (fun i h => h.IsStrIter it ty x t i) := by
      rcases hty with e | e
      · rw [e]; exact Walks.strAscii (I.ok.hd hc) it x t
      · rw [e]; exact Walks.strWide (I.ok.hd hc) it x t
    have hno : ["enumerate", "zip", "dict_itemiterator", "dict_reverseitemiterator", "odict_iterator", "itertools.zip_longest", "itertools.pairwise"].contains ty = false := by
      rcases hty with e | e
      · rw [e]; decide
      · rw [e]; decide
    refine W.item i s _ _ hg st fun v h' tk hv st' kk => ?_
    obtain ⟨c, u, hcx, rfl⟩ := hv
    have I1 : Inv X pins σ H { s with heap := h', toks := tk } := I.turned (fun b o hb e => kk b o (by simpa using hb) e) f0 f1 f3 f4 f5
    obtain ⟨oi, e, cc, dd⟩ := id st'
    exact ⟨_, rfl, go_of (s := { s with heap := h', toks := tk }) e cc dd hno ⟨.str ⟨#[c]⟩, H, I1, ⟨u, rfl⟩, ⟨rfl, c, hcx, rfl⟩, st', fun b hb => (hf b hb).1⟩⟩
  done := by
    intro X hP hw hK hc i pins s σ H E I hf st hg
    subst hP hw hK
    obtain ⟨f0, f1, f2, f3, f4, f5⟩ := hf it (by simp)
    have hx : x.cps[i]? = none := Array.getElem?_eq_none hg
    rcases hty with e | e
    · rw [e] at st
      exact wpAny_pyNext_ascii_end (I.ok.hd hc) st hx fun h' eb => ⟨rfl, I.turned (t' := s.toks) (fun b o hb e => eb b o hb e) f0 f1 f3 f4 f5⟩
    · rw [e] at st
      exact wpAny_pyNext_wide_end (I.ok.hd hc) st hx fun h' eb => ⟨rfl, I.turned (t' := s.toks) (fun b o hb e => eb b o hb e) f0 f1 f3 f4 f5⟩
  self := fun A i s Q E st h => by
    rcases hty with e | e
    · rw [e] at st; exact wpAny_pyIter_striter_ascii st h
    · rw [e] at st; exact wpAny_pyIter_striter_wide st h
section
variable {prog : Program} {w : World} {A : Around} {E : Value → Shared → Prop} {s : Shared}
end
section
variable {X : Cx} {pins : List (Addr × Obj)} {σ : St} {H : Hp} {s : Shared} {d : Addr} {o : Obj}
end
section
variable {P : Program} {w : World} {K : PySem.W.Frag} {tg : Expr} {d : Addr} {o : Obj} {es : Array DictEntry} {ep : Nat}
end
section
variable {X : Cx} {tg e : Expr} {td : TE} {apos cpos : Pos}
end
end L2
section 
namespace Bits
open PySem PyProof.Rows
end Bits
end 
section 
namespace TL
open PySem PySem.Builtin PySem.Builtin.Str PySem.StrLaws
abbrev tl (x : Str) : List Nat := x.cps.toList
theorem len_tl (x : Str) : x.length = (tl x).length := by simp [tl, Str.length]
theorem ext_tl {x y : Str} (h : tl x = tl y) : x = y := Str.ext' (Array.toList_inj.mp h)
theorem tl_append (x y : Str) : tl (x ++ y) = tl x ++ tl y := by
  show (x ++ y).cps.toList = _
  rw [Str.cps_append, Array.toList_append]
theorem map_tl_inj : ∀ {l m : List Str}, l.map tl = m.map tl → l = m
  | [], [], _ => rfl
  | [], _ :: _, h => by simp at h
  | _ :: _, [], h => by simp at h
  | x :: l, y :: m, h => by
    rw [List.map_cons, List.map_cons] at h
    injection h with h1 h2
    rw [ext_tl h1, map_tl_inj h2]
def pre (S l : List Nat) : Bool := l.take S.length == S
def spl (S : List Nat) : Nat → List Nat → List Nat → List (List Nat)
  | _, acc, [] => [acc]
  | 0, acc, c :: r => if pre S (c :: r) = true then acc :: spl S (S.length - 1) [] r else spl S 0 (acc ++ [c]) r
  | k + 1, acc, _ :: r => spl S k acc r
def par (S : List Nat) : List Nat → List Nat → Option (List Nat × List Nat)
  | _, [] => none
  | acc, c :: r => if pre S (c :: r) = true then some (acc, (c :: r).drop S.length) else par S (acc ++ [c]) r
theorem spl_nil (S : List Nat) (k : Nat) (acc : List Nat) : spl S k acc [] = [acc] := by cases k <;> rfl
theorem spl_hit {S acc r : List Nat} {c : Nat} (h : pre S (c :: r) = true) : spl S 0 acc (c :: r) = acc :: spl S (S.length - 1) [] r := by
  show (if pre S (c :: r) = true then acc :: spl S (S.length - 1) [] r else spl S 0 (acc ++ [c]) r) = _
  rw [if_pos h]
theorem spl_miss {S acc r : List Nat} {c : Nat} (h : pre S (c :: r) = false) : spl S 0 acc (c :: r) = spl S 0 (acc ++ [c]) r := by
  show (if pre S (c :: r) = true then acc :: spl S (S.length - 1) [] r else spl S 0 (acc ++ [c]) r) = _
  rw [if_neg (by rw [h]; exact Bool.false_ne_true)]
theorem spl_pass (S : List Nat) : ∀ (k : Nat) (acc l : List Nat), spl S k acc l = spl S 0 acc (l.drop k)
  | 0, _, _ => by rw [List.drop_zero]
  | k + 1, acc, [] => by rw [List.drop_nil, spl_nil, spl_nil]
  | k + 1, acc, c :: r => by
    show spl S k acc r = spl S 0 acc (r.drop k)
    exact spl_pass S k acc r
theorem pre_nil {S : List Nat} (hS : S ≠ []) : pre S [] = false := by
  cases S with
  | nil => exact absurd rfl hS
  | cons s S => rfl
theorem pre_of_head {s c : Nat} (S r : List Nat) (h : c ≠ s) : pre (s :: S) (c :: r) = false := by
  cases hp : pre (s :: S) (c :: r) with
  | false => rfl
  | true =>
    have e : (c :: r).take (s :: S).length = s :: S := eq_of_beq hp
    rw [List.length_cons, List.take_succ_cons] at e
    injection e with e1 e2
    exact absurd e1 h
theorem pre_self (S r : List Nat) : pre S (S ++ r) = true := by
  show ((S ++ r).take S.length == S) = true
  have e : (S ++ r).take S.length = S := List.take_left
  rw [e] <;> exact beq_self_eq_true S
theorem getElem_drop_cons {L : List Nat} {a : Nat} (h : a < L.length) : ∃ c, L.drop a = c :: L.drop (a + 1) := ⟨L[a], List.drop_eq_getElem_cons h⟩
theorem spl_run (S L : List Nat) : ∀ (m a : Nat) (acc : List Nat), a + m ≤ L.length → (∀ k, a ≤ k → k < a + m → pre S (L.drop k) = false) →
    spl S 0 acc (L.drop a) = spl S 0 (acc ++ (L.drop a).take m) (L.drop (a + m))
  | 0, a, acc, _, _ => by rw [List.take_zero, List.append_nil, Nat.add_zero]
  | m + 1, a, acc, h, hn => by
    have hlt : a < L.length := by omega
    obtain ⟨c, e⟩ := getElem_drop_cons hlt
    have h0 := hn a (Nat.le_refl _) (by omega)
    have ih := spl_run S L m (a + 1) (acc ++ [c]) (by omega) (fun k h1 h2 => hn k (by omega) (by omega))
    have e2 : a + 1 + m = a + (m + 1) := by omega
    rw [e2] at ih
    rw [e] at h0
    rw [e, spl_miss h0, ih, List.take_succ_cons, List.append_assoc] <;> rfl
theorem drop_two (L : List Nat) (a b : Nat) : (L.drop a).drop b = L.drop (a + b) := by
  first
    | rw [List.drop_drop]
    | rw [List.drop_drop, Nat.add_comm]
theorem spl_at {S L : List Nat} (hS : S ≠ []) {c : Nat} {acc : List Nat} (h : pre S (L.drop c) = true) : spl S 0 acc (L.drop c) = acc :: spl S 0 [] (L.drop (c + S.length)) := by
  rw [← drop_two]
  cases e : L.drop c with
  | nil => rw [e, pre_nil hS] at h; cases h
  | cons d r =>
    rw [e] at h
    rw [spl_hit h, spl_pass]
    cases S with
    | nil => exact absurd rfl hS
    | cons s S => rfl
theorem at_iff {x y : Str} (hy : tl y ≠ []) (i : Nat) : At x y x.length i ↔ pre (tl y) ((tl x).drop i) = true := by
  have hx := len_tl x
  have hl := len_tl y
  constructor
  · intro h
    have h2 := h.2
    rw [subAt_eq, hl] at h2
    exact h2
  · intro h
    have e : ((tl x).drop i).take (tl y).length = tl y := eq_of_beq h
    have e1 := congrArg List.length e
    rw [List.length_take, List.length_drop] at e1
    have e2 : 0 < (tl y).length := List.length_pos_iff.mpr hy
    refine ⟨by omega, ?_⟩
    rw [subAt_eq, hl]
    exact h
theorem no_at {x y : Str} (hy : tl y ≠ []) {i : Nat} (h : ¬ At x y x.length i) : pre (tl y) ((tl x).drop i) = false := by
  cases hp : pre (tl y) ((tl x).drop i) with
  | false => rfl
  | true => exact absurd ((at_iff hy i).mpr hp) h
theorem len1 {y : Str} (hy : tl y ≠ []) : 1 ≤ y.length := by
  have e2 : 0 < (tl y).length := List.length_pos_iff.mpr hy
  rw [len_tl y]
  exact e2
theorem tl_strSub (x : Str) (i j : Nat) : tl (strSub x i j) = ((tl x).drop i).take (j - i) := strSub_toList x i j
theorem tl_strSub_end (x : Str) (i : Nat) : tl (strSub x i x.length) = (tl x).drop i := by
  rw [tl_strSub, len_tl x]
  exact List.take_of_length_le (by rw [List.length_drop] <;> omega)
theorem parts_spl {x y : Str} (hy : tl y ≠ []) : ∀ (cuts : List Nat) (a f : Nat), a ≤ (tl x).length → ChainG x y x.length a cuts f → (∀ k, f ≤ k → ¬ At x y x.length k) →
    (partsFrom x y.length a cuts).map tl = spl (tl y) 0 [] ((tl x).drop a)
  | [], a, f, ha, h, hn => by
    have e : f = a := h
    subst e
    show [tl (strSub x f x.length)] = _
    have run := spl_run (tl y) (tl x) ((tl x).length - f) f [] (by omega) (fun k h1 _ => no_at hy (hn k h1))
    have e2 : f + ((tl x).length - f) = (tl x).length := by omega
    rw [e2, List.drop_length, spl_nil, List.nil_append, List.take_of_length_le (by rw [List.length_drop] <;> omega)] at run
    rw [run, tl_strSub_end]
  | c :: r, a, f, ha, h, hn => by
    obtain ⟨h1, h2, h3, h4⟩ := h
    have hc : c + y.length ≤ x.length := h2.1
    have hx := len_tl x
    have hl := len_tl y
    have ih := parts_spl hy r (c + y.length) f (by omega) h4 hn
    show tl (strSub x a c) :: (partsFrom x y.length (c + y.length) r).map tl = _
    have run := spl_run (tl y) (tl x) (c - a) a [] (by omega) (fun k k1 k2 => no_at hy (h3 k k1 (by omega)))
    have e2 : a + (c - a) = c := by omega
    rw [e2, List.nil_append, spl_at hy ((at_iff hy c).mp h2)] at run
    rw [run, ih, tl_strSub, hl]
theorem split_spl (x y : Str) (hy : tl y ≠ []) (hk : ¬ Builtin.Str.strKind x < Builtin.Str.strKind y) : (Txt.split x y).map tl = spl (tl y) 0 [] (tl x) := by
  obtain ⟨f, g, hn⟩ := occ_tight x y (len1 hy)
  have key := parts_spl hy _ 0 f (Nat.zero_le _) g hn
  rw [List.drop_zero] at key
  have none_case : occurrences x y 0 x.length (x.length + 1) = [] → [x].map tl = spl (tl y) 0 [] (tl x) := fun ho => by
    rw [ho] at key
    rw [← key]
    show [tl x] = [tl (strSub x 0 x.length)]
    rw [sub_whole]
  unfold Txt.split
  by_cases h1 : (decide (x.length < y.length) || decide (Builtin.Str.strKind x < Builtin.Str.strKind y)) = true
  · rw [if_pos h1]
    have hlt : x.length < y.length := by
      simp only [Bool.or_eq_true, decide_eq_true_eq] at h1
      rcases h1 with h | h
      · exact h
      · exact absurd h hk
    refine none_case ?_
    cases ho : occurrences x y 0 x.length (x.length + 1) with
    | nil => rfl
    | cons c r =>
      rw [ho] at g
      have hc : c + y.length ≤ x.length := g.2.1.1
      omega
  · rw [if_neg h1]
    by_cases h2 : (occurrences x y 0 x.length (x.length + 1)).isEmpty = true
    · rw [if_pos h2]
      exact none_case (List.isEmpty_iff.mp h2)
    · rw [if_neg h2, partsBetween_eq]
      exact key
theorem kind_ok {x y : Str} (h : y.cps.all (· < 256) = true) : ¬ Builtin.Str.strKind x < Builtin.Str.strKind y := by
  have e : Builtin.Str.strKind y = 1 := by unfold PySem.Builtin.Str.strKind; rw [if_pos h]
  rw [e]
  unfold PySem.Builtin.Str.strKind
  split
  · omega
  · split <;> omega
theorem spl_part {S p rest acc : List Nat} (hS : S ≠ []) (h : ∀ i, i < p.length → pre S ((p ++ (S ++ rest)).drop i) = false) :
    spl S 0 acc (p ++ (S ++ rest)) = (acc ++ p) :: spl S 0 [] rest := by
  have run := spl_run S (p ++ (S ++ rest)) p.length 0 acc (by rw [List.length_append]; omega) (fun k _ k2 => h k (by omega))
  have ed : (p ++ (S ++ rest)).drop p.length = S ++ rest := List.drop_left
  rw [List.drop_zero, Nat.zero_add, List.take_left] at run
  rw [run, spl_at hS (by rw [ed]; exact pre_self S rest), ← drop_two, ed, List.drop_left]
theorem spl_last {S p acc : List Nat} (h : ∀ i, i < p.length → pre S (p.drop i) = false) : spl S 0 acc p = [acc ++ p] := by
  have run := spl_run S p p.length 0 acc (by omega) (fun k _ k2 => h k (by omega))
  rw [List.drop_zero, Nat.zero_add, List.drop_length, spl_nil, List.take_length] at run
  exact run
theorem free_of {s : Nat} {S p q : List Nat} (h : s ∉ p) : ∀ i, i < p.length → pre (s :: S) ((p ++ q).drop i) = false := fun i hi => by
  have hlt : i < (p ++ q).length := by rw [List.length_append]; omega
  have e : (p ++ q).drop i = (p ++ q)[i] :: (p ++ q).drop (i + 1) := List.drop_eq_getElem_cons hlt
  rw [e]
  refine pre_of_head _ _ fun z => h ?_
  have e1 : (p ++ q)[i] = p[i] := List.getElem_append_left hi
  rw [← z, e1]
  exact List.getElem_mem hi
theorem spl_part1 {s : Nat} {S p rest acc : List Nat} (h : s ∉ p) : spl (s :: S) 0 acc (p ++ (s :: S ++ rest)) = (acc ++ p) :: spl (s :: S) 0 [] rest :=
  spl_part (by simp) (free_of h)
theorem spl_last1 {s : Nat} {S p acc : List Nat} (h : s ∉ p) : spl (s :: S) 0 acc p = [acc ++ p] := spl_last fun i hi => by
  have z := free_of (S := S) (q := []) h i hi
  rw [List.append_nil] at z
  exact z
def joinL (S : List Nat) : List (List Nat) → List Nat
  | [] => []
  | [p] => p
  | p :: q :: r => p ++ (S ++ joinL S (q :: r))
theorem tl_join (y : Str) : ∀ parts : List Str, tl (Str.join y parts) = joinL (tl y) (parts.map tl)
  | [] => rfl
  | [_] => rfl
  | x :: z :: r => by
    show tl (x ++ y ++ Str.join y (z :: r)) = tl x ++ (tl y ++ joinL (tl y) ((z :: r).map tl))
    rw [tl_append, tl_append, tl_join y (z :: r), List.append_assoc]
theorem spl_join {s : Nat} {S : List Nat} : ∀ {parts : List (List Nat)}, parts ≠ [] → (∀ p ∈ parts, s ∉ p) → spl (s :: S) 0 [] (joinL (s :: S) parts) = parts
  | [], h, _ => absurd rfl h
  | [p], _, hp => by
    show spl (s :: S) 0 [] p = [p]
    rw [spl_last1 (hp p (List.mem_singleton.mpr rfl)), List.nil_append]
  | p :: q :: r, _, hp => by
    show spl (s :: S) 0 [] (p ++ (s :: S ++ joinL (s :: S) (q :: r))) = p :: q :: r
    rw [spl_part1 (hp p (List.mem_cons_self ..)), List.nil_append, spl_join (by simp) fun z hz => hp z (List.mem_cons_of_mem _ hz)]
theorem join_eq (y : Str) (parts : List Str) : Txt.join y parts = Str.join y parts := glued_eq_join y parts
theorem split_join {y : Str} {s : Nat} {S : List Nat} (ey : tl y = s :: S) (hk : y.cps.all (· < 256) = true) {parts : List Str} (hne : parts ≠ []) (hp : ∀ p ∈ parts, s ∉ tl p) :
    Txt.split (Txt.join y parts) y = parts := by
  refine map_tl_inj ?_
  rw [split_spl _ y (by rw [ey]; simp) (kind_ok hk), join_eq, tl_join, ey]
  refine spl_join (fun e => hne (List.map_eq_nil_iff.mp e)) fun p h => ?_
  obtain ⟨z, hz, rfl⟩ := List.mem_map.mp h
  exact hp z hz
end TL
end 
namespace L2
open PySem PySem.Spec PyProof.Rows
theorem vals_strs : ∀ l : List (Str × Tok), Vals ((l.map (·.1)).map V.str) (strValues l)
  | [] => .nil
  | p :: r => .cons ⟨p.2, rfl⟩ (vals_strs r)
theorem strs_of_vals : ∀ {ys : List Str} {us : List Value}, Vals (ys.map V.str) us → StrsAre us ys
  | [], _, .nil => .nil
  | y :: ys, _, .cons r t => by
    obtain ⟨k, rfl⟩ := r
    exact .cons y k (strs_of_vals t)
def rNewStrs (ys : List Str) : Hp → VK → Prop := fun H Q => ∀ p, H p = none → Q (.ref p) (upd H p (.lst (ys.map V.str)))
section
variable {X : Cx} {pins : List (Addr × Obj)} {σ : St} {H : Hp} {s : Shared} {Q : VK}
theorem laid_strs {l : List (Str × Tok)} {ys : List Str} {k : Nat} (I : Inv X pins σ H s) (e : l.map (·.1) = ys) (hz : ys.length ≤ sizeLine) (h : rNewStrs ys H Q) :
    EP X pins σ Q (.ref s.heap.objs.size) { s with toks := k, heap := s.heap.push { cls := .type "list", data := .seq (strValues l).toArray } } := by
  have hp := I.hok.fresh (Nat.le_refl _)
  refine ⟨.ref s.heap.objs.size, upd H s.heap.objs.size (.lst (ys.map V.str)), I.laid (fun b u q => Heap.get?_push_of_some _ q) (Nat.le_refl _) ⟨by rw [List.length_map]; exact hz, strValues l, _, ?_, Heap.get?_push_size _ rfl⟩, rfl, h _ hp⟩
  rw [← e]
  exact vals_strs l
end
section
variable {X : Cx}
theorem mt_split : MtR X "str.split" (fun x xs H Q => ∃ a b, x = .str a ∧ xs = [.str b] ∧ (b.length == 0) = false ∧ a.length + 2 ≤ sizeLine ∧ rNewStrs (Txt.split a b) H Q) := by
  intro pins s σ H x xs v us Q I rx rs h
  obtain ⟨a, b, rfl, rfl, hb, hz, h⟩ := h
  obtain ⟨t, rfl⟩ := rx
  cases rs with
  | cons r1 rs =>
    cases rs
    obtain ⟨u, rfl⟩ := r1
    have hl : (Txt.split a b).length ≤ sizeLine := Nat.le_trans (PyProof.Rows.split_le a b) hz
    have hn : (Builtin.Str.partsBetween a (Builtin.Str.occurrences a b 0 a.length (a.length + 1)) b.length).length ≤ sizeLine := by
      have e1 := StrLaws.occ_length_le a b 0 a.length (a.length + 1)
      rw [length_partsBetween]; omega
    cases h1 : (decide (a.length < b.length) || decide (Builtin.Str.strKind a < Builtin.Str.strKind b))
    · cases hf : (Builtin.Str.occurrences a b 0 a.length (a.length + 1)).isEmpty
      · refine call_meets F.slot_str_split (typeIs_str _ _ _) F.entry_str_split (F.args_str_split_2 _ _) (meets_str_split_sep a b t u h1 hb hf (by omega) hn) ?_
        show EP X pins σ Q (.ref s.heap.objs.size) { s with toks := _, heap := s.heap.push { cls := .type "list", data := .seq (strsFrom s.toks (Builtin.Str.partsBetween a (Builtin.Str.occurrences a b 0 a.length (a.length + 1)) b.length)).toArray } }
        rw [strsFrom_eq]
        exact laid_strs (ys := Txt.split a b) I ((numbered_texts _ _).trans ((if_neg (ne_true_of_eq_false h1)).trans (if_neg (ne_true_of_eq_false hf))).symm) hl h
      · refine call_meets F.slot_str_split (typeIs_str _ _ _) F.entry_str_split (F.args_str_split_2 _ _) (meets_str_split_not_found a b t u h1 hb hf) ?_
        exact laid_strs (l := [(a, t)]) (ys := Txt.split a b) (k := s.toks) I ((if_neg (ne_true_of_eq_false h1)).trans (if_pos hf)).symm hl h
    · refine call_meets F.slot_str_split (typeIs_str _ _ _) F.entry_str_split (F.args_str_split_2 _ _) (meets_str_split_cannot_occur a b t u h1) ?_
      exact laid_strs (l := [(a, t)]) (ys := Txt.split a b) (k := s.toks) I (if_pos h1).symm hl h
theorem mt_join : MtR X "str.join" (fun x xs H Q => ∃ a p, ∃ ys : List Str, x = .str a ∧ xs = [.ref p] ∧ (SqL X.K H p (ys.map V.str) ∨ SqT X.K H p (ys.map V.str)) ∧
    (ys.map (·.length)).sum + ys.length * a.length ≤ 16777216 ∧ Q (.str (Txt.join a ys)) H) := by
  intro pins s σ H x xs v us Q I rx rs h
  obtain ⟨a, p, ys, rfl, rfl, hp, hz, h⟩ := h
  obtain ⟨t, rfl⟩ := rx
  cases rs with
  | cons r1 rs =>
    cases rs
    cases r1
    rcases hp with hp | hp
    · obtain ⟨its, r, ⟨o, n, ho, hc, _, hd⟩, _⟩ := I.list hp
      exact PyProof.Rows.join_list (items := its.toArray) ⟨o, ho, hc, n, hd⟩ (by rw [List.toList_toArray]; exact strs_of_vals r) hz fun t' k => ⟨.str _, H, I.tok k, ⟨t', rfl⟩, h⟩
    · obtain ⟨its, r, ht, _⟩ := I.tuple hp
      exact PyProof.Rows.join_tuple (items := its.toArray) ht (by rw [List.toList_toArray]; exact strs_of_vals r) hz fun t' k => ⟨.str _, H, I.tok k, ⟨t', rfl⟩, h⟩
theorem call_int_str : CallR X (.type "int") (fun xs H Q => ∃ a n, xs = [.str a] ∧ PySem.intText? a = some n ∧ a.length ≤ 640 ∧ Q (.int n) H) := by
  intro pins s σ H xs us Q I rs h
  obtain ⟨a, n, rfl, hn, hl, h⟩ := h
  cases rs with
  | cons r1 rs =>
    cases rs
    obtain ⟨t, rfl⟩ := r1
    exact PySem.W.KIN.call_text hn hl ⟨.int n, H, I.tok _, ⟨_, rfl⟩, h⟩
end
section
variable {X : Cx} {o e : Expr} {to te : TE}
def tM1 (r : V → List V → Hp → VK → Prop) (to te : TE) : TE := fun σ H Q => to σ H fun x H1 => (∃ a, x = .str a) ∧ te σ H1 fun y H2 => r x [y] H2 Q
theorem pe_m1 {id : String} {name : Str} {apos pos : Pos} {r : V → List V → Hp → VK → Prop} (slot : Slot "str" name id) (ty : typeOf (.builtin id) = pure (.type "method_descriptor")) (rule : MtR X id r) (ho : PE X o to) (he : PE X e te)
    (hs : starEach [e] X.env = [(false, eval e X.env)] := by rfl) (hbase : attributeBase o name X.env (eval o X.env) = eval o X.env := by rfl) (hline : (apos.endLine == pos.line) = true := by rfl) :
    PE X (.Call (.Attribute o name apos) [e] [] pos) (tM1 r to te) := by
  intro pins s σ H Q I h
  refine PySem.Call_method1 hbase hs hline (thn (ho pins s σ H _ I h) fun v s1 ⟨x, H1, I1, r1, q1⟩ => ?_)
  obtain ⟨⟨a, rfl⟩, q1⟩ := q1
  obtain ⟨t, rfl⟩ := _root_.id r1
  refine ⟨"str", _, F.plainAttrs_str, slot, ty, typeIs_str _ _ _, (fun _ e => nomatch e), Calls.callWith_builtin rfl (Calls.evalArgs_plain (Calls.spliced_cons ?_))⟩
  exact thn (he pins s1 σ H1 _ I1 q1) fun u s2 ⟨y, H2, I2, r2, q2⟩ => Calls.spliced_nil (rule pins s2 σ H2 _ [y] _ [u] Q I2 r1 (.cons r2 .nil) q2)
theorem pe_split {apos pos : Pos} (ho : PE X o to) (he : PE X e te) (hs : starEach [e] X.env = [(false, eval e X.env)] := by rfl) (hbase : attributeBase o "split" X.env (eval o X.env) = eval o X.env := by rfl) (hline : (apos.endLine == pos.line) = true := by rfl) :
    PE X (.Call (.Attribute o "split" apos) [e] [] pos) (tM1 (fun x xs H Q => ∃ a b, x = .str a ∧ xs = [.str b] ∧ (b.length == 0) = false ∧ a.length + 2 ≤ sizeLine ∧ rNewStrs (Txt.split a b) H Q) to te) :=
  pe_m1 F.slot_str_split F.type_str_split mt_split ho he hs hbase hline
theorem pe_join {apos pos : Pos} (ho : PE X o to) (he : PE X e te) (hs : starEach [e] X.env = [(false, eval e X.env)] := by rfl) (hbase : attributeBase o "join" X.env (eval o X.env) = eval o X.env := by rfl) (hline : (apos.endLine == pos.line) = true := by rfl) :
    PE X (.Call (.Attribute o "join" apos) [e] [] pos) (tM1 (fun x xs H Q => ∃ a p, ∃ ys : List Str, x = .str a ∧ xs = [.ref p] ∧ (SqL X.K H p (ys.map V.str) ∨ SqT X.K H p (ys.map V.str)) ∧
      (ys.map (·.length)).sum + ys.length * a.length ≤ 16777216 ∧ Q (.str (Txt.join a ys)) H) to te) :=
  pe_m1 F.slot_str_join F.type_str_join mt_join ho he hs hbase hline
end
end L2
namespace L2
open PySem PySem.Spec PyProof.Rows
section
variable {X : Cx}
theorem op_notIn_sign : OpR X (compareOp .NotIn) (fun x y H Q => ∃ (c : Nat) (z : Str), x = .str ⟨#[c]⟩ ∧ y = .str z ∧ Q (.bl (!decide (c ∈ z.cps.toList))) H) := by
  intro pins s σ H x y v u Q I rx ry h
  obtain ⟨c, z, rfl, rfl, q⟩ := h
  obtain ⟨t, rfl⟩ := rx
  obtain ⟨t', rfl⟩ := ry
  exact PyProof.Rows.notIn_str (fin_bl I q (congrArg Bool.not (PySem.StrLaws.found_one z c).symm))
end
theorem IsPart.raw {v : Value} {o : Option Int} (p : IsPart v o) : ∃ l : Option (Int × Tok), v = partValue l ∧ l.map (·.1) = o := by
  cases p with
  | none => exact ⟨none, rfl, rfl⟩
  | int i t => exact ⟨some (i, t), rfl, rfl⟩
def clipS (n d : Nat) : Option Int → Int
  | none => (d : Int)
  | some i => max 0 (min (if i < 0 then i + (n : Int) else i) (n : Int))
theorem clipS_eq (n d : Nat) (o : Option Int) : clipS n d o = ((HT.sIx n d o : Nat) : Int) := by
  cases o with
  | none => rfl
  | some v =>
    show max (0 : Int) (min (if v < 0 then v + (n : Int) else v) (n : Int)) = (((if v < 0 then (v + (n : Int)).toNat else min v.toNat n) : Nat) : Int)
    by_cases hv : v < 0
    · simp only [if_pos hv]
      omega
    · simp only [if_neg hv]
      omega
theorem sidx_clip (a b : Option Int) (n : Nat) : Builtin.Str.strSliceIndices a b 1 n = sliceRange (clipS n 0 a) (clipS n n b) 1 := by
  have h1 : ((1 : Int) > 0) = True := by simp
  cases a <;> cases b <;> first
    | rfl
    | (simp only [Builtin.Str.strSliceIndices, clipS, h1, if_true]; rfl)
    | simp [Builtin.Str.strSliceIndices, clipS]
theorem sidx (a b : Option Int) (n : Nat) : Builtin.Str.strSliceIndices a b 1 n = (List.range (HT.sIx n n b - HT.sIx n 0 a)).map (fun k => HT.sIx n 0 a + k) := by
  rw [sidx_clip, clipS_eq, clipS_eq]
  generalize HT.sIx n 0 a = p
  generalize HT.sIx n n b = q
  simp only [sliceRange, show ((1 : Int) > 0) = True from by simp, if_true]
  by_cases hlt : (p : Int) < q
  · have e3 : (((q : Int) - p + 1 - 1) / 1).toNat = q - p := by first | omega | (simp; done) | (simp; omega)
    simp only [hlt, if_true, e3]
    refine List.map_congr_left fun k _ => ?_
    omega
  · have : q - p = 0 := by omega
    simp [hlt, this]
def cutS (z : Str) (lo hi : Option Int) : Str :=
  ⟨((z.cps.toList.drop (HT.sIx z.length 0 lo)).take (HT.sIx z.length z.length hi - HT.sIx z.length 0 lo)).toArray⟩
theorem sliceText_cut (z : Str) (lo hi : Option Int) : PySem.StrLaws.sliceText z lo hi = cutS z lo hi := by
  have h1 : HT.sIx z.length 0 lo ≤ z.length := HT.sIx_le _ _ (Nat.zero_le _) _
  have h2 : HT.sIx z.length z.length hi ≤ z.length := HT.sIx_le _ _ (Nat.le_refl _) _
  have hp : HT.sIx z.length 0 lo ≤ max (HT.sIx z.length 0 lo) (HT.sIx z.length z.length hi) := Nat.le_max_left _ _
  have hq : max (HT.sIx z.length 0 lo) (HT.sIx z.length z.length hi) ≤ z.length := Nat.max_le.mpr ⟨h1, h2⟩
  have hd : max (HT.sIx z.length 0 lo) (HT.sIx z.length z.length hi) - HT.sIx z.length 0 lo = HT.sIx z.length z.length hi - HT.sIx z.length 0 lo := by omega
  have e : Builtin.Str.strSliceIndices lo hi 1 z.length =
      Builtin.Str.strSliceIndices (some ((HT.sIx z.length 0 lo : Nat) : Int)) (some ((max (HT.sIx z.length 0 lo) (HT.sIx z.length z.length hi) : Nat) : Int)) 1 z.length := by
    rw [PySem.StrLaws.strSliceIndices_plain hp hq, hd, sidx]
  have e2 : PySem.StrLaws.sliceText z lo hi =
      PySem.StrLaws.sliceText z (some ((HT.sIx z.length 0 lo : Nat) : Int)) (some ((max (HT.sIx z.length 0 lo) (HT.sIx z.length z.length hi) : Nat) : Int)) := by
    unfold PySem.StrLaws.sliceText
    rw [e]
  rw [e2, PySem.StrLaws.sliceText_nat z hp hq, hd]
  rfl
theorem cutS_length (z : Str) (lo hi : Option Int) : (cutS z lo hi).length ≤ z.length := by
  show (((z.cps.toList.drop (HT.sIx z.length 0 lo)).take (HT.sIx z.length z.length hi - HT.sIx z.length 0 lo)).toArray).size ≤ z.cps.size
  rw [List.size_toArray, List.length_take, List.length_drop, Array.length_toList]
  omega
def rSlS : V → Option Int → Option Int → Hp → VK → Prop := fun x lo hi H Q => ∃ z, x = .str z ∧ z.length ≤ sizeLine ∧ Q (.str (cutS z lo hi)) H
theorem sl_str {X : Cx} : SlR X rSlS := by
  intro pins s σ H x v vl vu lo hi sl Q I rx hs pl pu h
  obtain ⟨z, rfl, hz, q⟩ := h
  obtain ⟨t, rfl⟩ := rx
  obtain ⟨os, hos, hcs, hds⟩ := hs
  obtain ⟨l, rfl, rfl⟩ := IsPart.raw pl
  obtain ⟨u, rfl, rfl⟩ := IsPart.raw pu
  refine ⟨"str", _, F.slot_str_getitem.lookup, typeIs_str _ _ _, ?_⟩
  refine wpAny_getItem_str_slice (l := l) (u := u) (st := none) ⟨os, hos, hcs, hds⟩ rfl ?_
  have hl : (PySem.StrLaws.sliceText z (l.map (·.1)) (u.map (·.1))).length ≤ sizeLine := by
    rw [sliceText_cut]
    exact Nat.le_trans (cutS_length z _ _) hz
  rw [← sliceText_cut] at q
  unfold PySem.StrLaws.sliceText at q hl
  show Made.post (if ((1 : Int) == 1 && (Builtin.Str.strSliceIndices (l.map (·.1)) (u.map (·.1)) 1 z.length).length == z.length) = true then Made.val (.str z t)
    else Made.str ⟨((Builtin.Str.strSliceIndices (l.map (·.1)) (u.map (·.1)) 1 z.length).filterMap (z.cps[·]?)).toArray⟩) (EP X pins σ Q) s
  by_cases c : ((1 : Int) == 1 && (Builtin.Str.strSliceIndices (l.map (·.1)) (u.map (·.1)) 1 z.length).length == z.length) = true
  · rw [if_pos c] at q ⊢
    exact ⟨.str z, H, I, ⟨t, rfl⟩, q⟩
  · rw [if_neg c] at q hl ⊢
    exact ⟨hl, .str _, H, I.tok _, ⟨_, rfl⟩, q⟩
end L2
namespace Att
open PySem PySem.W PySem.Calls PyProof.Rows
theorem ints_of_wellAll {P : Params} {h : Heap} : ∀ (ns : List Int) (vs : List Value), WellAll P h vs (ns.map WData.int) → IntsAre vs ns := by
  intro ns
  induction ns with
  | nil =>
    intro vs w
    rw [List.map_nil] at w
    cases w
    exact .nil
  | cons n ns ih =>
    intro vs w
    rw [List.map_cons] at w
    cases w with
    | cons a b =>
      cases a
      exact .cons _ _ (ih _ b)
theorem script_of {l : OpenLaw} {n : Nat} (hn : l.most = some n) {P : Params} {h : Heap} {args : List WData} {vals : List Value}
    (hpre : l.row.toRowW.claim.pre args = true) (hwl : WellAll P h vals args) :
    ∃ a vs ns, vals = [Value.ref a] ∧ args = [WData.list (ns.map WData.int)] ∧ h.get? a = some { cls := .type "list", data := .seq vs.toArray } ∧ IntsAre vs ns ∧ ns.length ≤ n := by
  have hsh : WShape.hasAll [] args [.list .int] = true := (pre_splitW hpre).1
  have hc : l.pre.holds [] { args := args } = true := (pre_splitW hpre).2
  obtain ⟨d, r, rfl, h1, h2⟩ := hasAllW_cons hsh
  obtain rfl := hasAllW_nil h2
  obtain ⟨xs, rfl, h3⟩ := hasW_list h1
  obtain ⟨ns, rfl⟩ := items_int h3
  have hlen : ns.length ≤ n := by
    unfold OpenLaw.pre at hc
    have h4 : (WTm.not (.lt (.lit (.int (n : Int))) (.len (.arg 0)))).holds [] { args := [.list (ns.map .int)] } = true := by
      have h4 := (holds_andW hc).1
      rw [hn] at h4
      exact h4
    have h5 := condW_of h4 (w_not (w_lt w_lit (w_len_list (w_arg rfl))))
    rw [List.length_map] at h5
    refine Nat.le_of_not_lt fun q => ?_
    have q' : (n : Int) < ((ns.length : Nat) : Int) := by omega
    first
      | (rw [decide_eq_true q'] at h5; exact absurd h5 (by decide))
      | (simp at h5; omega)
  cases hwl with
  | cons w1 w2 =>
    cases w2
    cases w1 with
    | list ho hall => exact ⟨_, _, ns, rfl, rfl, ho, ints_of_wellAll ns _ hall, hlen⟩
theorem post_true (l : OpenLaw) (args : List WData) : l.row.toRowW.claim.post args (.bool true) args = true :=
  postW_of (r := l.row.toRowW) (X := (true == true))
    (show WShape.has [] (.bool true) .bool = true by first | rfl | decide | simp [WShape.has, WShape.arms, WShape.armsAll])
    (show (WTm.eq .res (.lit (.bool true))).value [] { args := args, res := some (.bool true), after := args } = some (.bool (true == true)) from w_eq_bool (w_res rfl) w_lit) rfl
theorem attach_call {l : OpenLaw} {n : Nat} {q : Program} {loose : List Str} {XP : (Str → Option Value) → Heap → Prop} {YP : World → Heap → Prop} {d : DefRec}
    (hn : l.most = some n) (hdf : d.params.defaults = [])
    (call : ∀ (w : World) (s₀ s₁ : Shared) (mg mb : Str → Option Value) (fa : Addr) (o : Obj) (pm cd doc : Value) (a : Addr) (vs : List Value) (ns : List Int),
      Ground q loose [] XP w s₀ mg mb s₁.heap → YP w s₁.heap →
      s₁.heap.get? fa = some o → o.data = .func (docDef d.name d.params d.body d.scope pm cd doc) → s₁.heap.CodeRec cd d.name → mg d.name = some (.ref fa) →
      s₁.heap.get? a = some { cls := .type "list", data := .seq vs.toArray } → IntsAre vs ns → ns.length ≤ n → s₁.gens = #[] →
      codeAny (model l.prog w) callerA (.call (.ref fa) ⟨[.ref a], []⟩) (fun r s' => r = .ok (.ret (.bool true)) ∧ OldK s₁.heap s'.heap ∧ s'.os = s₁.os ∧ AllBare s'.gens) s₁) :
    WalkO q loose XP YP l.row.toRowW d [] (fun f vs => PySem.call f vs) := by
  intro w s₀ s₁ mg mb G Y fa o pm cd doc dV kV ho hd hcd hD hmg hg args vals as hpre hlay hrd hwl hlo
  obtain rfl : dV = .none := Dflts.none hD hdf
  obtain rfl : kV = .none := Dflts.noKw hD
  obtain ⟨a, vs, ns, rfl, rfl, hobj, hints, hlen⟩ := script_of hn hpre hwl
  refine enter_call (codeAny_mono (call w s₀ s₁ mg mb fa o pm cd doc a vs ns G Y ho (fd_plain hd) hcd hmg hobj hints hlen hg) fun r s' hq => ?_)
  obtain ⟨rfl, h2, h3, h4⟩ := hq
  exact ⟨.inl ⟨.bool true, .bool true, [], rfl, fun _ => rfl, .bool true, post_true l _, fun _ => ⟨List.Pairwise.nil, fun _ hm => (nomatch hm)⟩⟩, h2, h3, h4⟩
section
variable {prog : Program} {w : World} {A : Around} {E : Value → Shared → Prop} {s : Shared} {K : Frag}
end
end Att
namespace L2
open PySem PySem.Spec PyProof.Rows
theorem vals_ints : ∀ {vs : List Value} {ns : List Int}, IntsAre vs ns → Vals (ns.map V.int) vs
  | _, _, .nil => .nil
  | _, _, .cons n t h => .cons ⟨t, rfl⟩ (vals_ints h)
end L2
namespace L2
open PySem PySem.Spec PyProof.Rows
end L2
namespace L2
open PySem PySem.Spec PyProof.Rows
def defArgs (s : Stmt) : Arguments := match s with
  | .FunctionDef _ a _ _ _ _ _ _ _ _ => a
  | _ => { posonlyargs := [], args := [], vararg := none, kwonlyargs := [], kw_defaults := [], kwarg := none, defaults := [] }
def defBody (s : Stmt) : List Stmt := match s with
  | .FunctionDef _ _ b _ _ _ _ _ _ _ => b
  | _ => []
def defScope (s : Stmt) : Scope := match s with
  | .FunctionDef _ _ _ _ _ _ sc _ _ _ => sc
  | _ => { kind := .function, names := [], isGenerator := false, isCoroutine := false }
abbrev CX0 : CXT := fun _ _ _ _ _ _ => False
abbrev E0 : XK := fun _ _ _ => False
theorem pass0 {X : Cx} : Passes CX0 X E0 := fun _ _ _ _ _ _ _ h => h.elim
structure Fun (K : PySem.W.Frag) (x qual : Str) (st : Stmt) (f : Addr) (fd : FuncData) : Prop where
  ex : ∃ (oc : Value) (od : Option Addr) (kV doc pm : Value) (an : Option Addr) (cdv ct : Value) (osl : Array (Option Value)),
    fd = PySem.W.fnOf x qual (defArgs st) (defBody st) (defScope st) .none kV doc pm an cdv ct ∧ K.lookup f = some ⟨oc, od, .func fd, osl⟩ ∧ PySem.W.codeIn K cdv qual = true
  kp : PySem.W.keepIn K (.ref f) = true
section
variable {P : Program} {w : World} {K : PySem.W.Frag} {mg : Str → Option Value} {base : Heap}
theorem Fun.ok {x qual : Str} {st : Stmt} {f : Addr} {fd : FuncData} {N ps : List Str} {k : Nat} {sp : Sp} (F : Fun K x qual st f fd) (S : FnScope N ps (defScope st)) (len : ∀ vs H Q E, sp vs H Q E → vs.length = ps.length)
    (hbody : ∀ (cdv : Value) (A : Around) (outer : List Env) (s : Shared) (H : Hp) (vs : List V) (Q : VK) (E : XK), Room k (A.deeper (envOfC qual (defScope st) s.heap.objs.size f cdv)) → sp vs H Q E →
      ∃ t, PSs (cxOf CX0 P w K mg base N qual (defScope st) f cdv A outer s H E).nox (defBody st) t ∧ t { nx := fun _ H' => Q .non H', rt := Q } (start N vs) H) : FnOk P w K mg base CX0 (k + 1) f fd ps sp := by
  obtain ⟨oc, od, kV, doc, pm, an, cdv, ct, osl, rfl, lk, hcd⟩ := F.ex
  refine fn_of lk hcd S len fun A outer s H vs Q E hr hsp => ?_
  obtain ⟨t, h, q⟩ := hbody cdv A outer s H vs Q E hr hsp
  exact ⟨t, h.nox, q⟩
theorem Fun.binds {x qual : Str} {st : Stmt} {f : Addr} {fd : FuncData} {ps : List Str} (F : Fun K x qual st f fd)
    (h : ∀ (kV doc pm : Value) (an : Option Addr) (cdv ct : Value) (us : List Value), us.length = ps.length → bindArgs (PySem.W.fnOf x qual (defArgs st) (defBody st) (defScope st) .none kV doc pm an cdv ct) ⟨us, []⟩ = pure (ps.zip us)) : Binds K fd ps [] := by
  obtain ⟨oc, od, kV, doc, pm, an, cdv, ct, osl, rfl, lk, hcd⟩ := F.ex
  exact .all (h kV doc pm an cdv ct)
end
theorem hu_of {A : Around} {k : Nat} (hr : Room k A) : A.units + 1 < cLine := Nat.lt_of_le_of_lt (Nat.add_le_add_left (by decide : 1 ≤ 64) _) hr.units
section
variable {X : Cx}
theorem pv (i : Nat) {x : Str} {pos : Pos} (hN : X.N[i]? = some x := by rfl) (hv : Vis X.env.scope x := by first | exact Or.inl rfl | exact Or.inr (Or.inl rfl) | exact Or.inr (Or.inr rfl)) (hd : (x == ("__debug__" : Str)) = false := by decide)
    (hcd : (x == ("__classdict__" : Str)) = false := by decide) : PE X (.Name x pos) (tVar i) := pe_var hN hv hd hcd
end
theorem iteF {A B : Prop} (h : B) : if false = true then A else B := by
  rw [if_neg Bool.false_ne_true]
  exact h
theorem iteT {A B : Prop} (h : A) : if true = true then A else B := by
  rw [if_pos rfl]
  exact h
theorem ite2 {c A B : Prop} [Decidable c] (h1 : c → A) (h2 : ¬ c → B) : if c then A else B := by
  by_cases h : c
  · rw [if_pos h]
    exact h1 h
  · rw [if_neg h]
    exact h2 h
def Same (H H' : Hp) : Prop := ∀ b o, H b = some o → H' b = some o
theorem Same.refl (H : Hp) : Same H H := fun _ _ h => h
theorem Same.trans {H H1 H2 : Hp} (a : Same H H1) (b : Same H1 H2) : Same H H2 := fun c o h => b c o (a c o h)
theorem Same.free {H H' : Hp} (e : Same H H') {l : Addr} (h : H' l = Option.none) : H l = Option.none := by
  cases q : H l with
  | none => rfl
  | some o =>
    rw [e l o q] at h
    cases h
theorem Same.seq {K : PySem.W.Frag} {H H' : Hp} {a : Addr} {xs : List V} (e : Same H H') (h : SqL K H a xs) : SqL K H' a xs := by
  rcases h with (h | ⟨o, h⟩) | h
  · exact .inl (.inl (e _ _ h))
  · exact .inl (.inr ⟨o, e _ _ h⟩)
  · exact .inr h
section
variable {κ : Type} [DecidableEq κ]
theorem valV_not {kvs : List (κ × V)} {k : κ} (h : valV kvs k = none) : ¬ k ∈ kvs.map (·.1) := by
  intro m
  obtain ⟨p, hp, e⟩ := List.mem_map.mp m
  have q : (kvs.any fun kv => decide (kv.1 = k)) = true := List.any_eq_true.mpr ⟨p, hp, decide_eq_true e⟩
  rw [valV_any, h] at q
  exact absurd q (by simp)
theorem nd_snoc : ∀ {l : List κ} {k : κ}, l.Nodup → ¬ k ∈ l → (l ++ [k]).Nodup
  | [], k, _, _ => by simp
  | a :: r, k, h, hk => by
    obtain ⟨h1, h2⟩ := List.nodup_cons.mp h
    show (a :: (r ++ [k])).Nodup
    refine List.nodup_cons.mpr ⟨fun m => ?_, nd_snoc h2 fun m => hk (List.mem_cons.mpr (Or.inr m))⟩
    rcases List.mem_append.mp m with q | q
    · exact h1 q
    · exact hk (List.mem_cons.mpr (Or.inl (List.mem_singleton.mp q).symm))
theorem nd_putK {kvs : List (κ × V)} {k : κ} (v : V) (hn : (kvs.map (·.1)).Nodup) (h : valV kvs k = none) : ((putK kvs k v).map (·.1)).Nodup := by
  rw [putK_new v h, List.map_append]
  exact nd_snoc hn (valV_not h)
end
theorem Same.made {H H1 : Hp} {x dx C : Addr} (nx : H x = Option.none) (nd : H dx = Option.none) (k : ∀ b o, (upd (upd H dx (.own x)) x (.ins C dx [])) b = some o → b ≠ x → H1 b = some o) : Same H H1 := fun b o e =>
  k b o (by rw [upd_ne (ne_of_none e nx), upd_ne (ne_of_none e nd)]; exact e) (ne_of_none e nx)
end L2
set_option Elab.async false
set_option linter.all false
set_option autoImplicit false
set_option maxRecDepth 100000
namespace L3
open PySem PySem.Spec PyProof.Rows L2
abbrev St := L2.St
abbrev Frag := PySem.W.Frag
inductive D where
  | non | bl (b : Bool) | int (i : Int) | str (x : Str)
  | tup (xs : List D) | lst (xs : List D)
  | dT (ks : List (List Key)) (vs : List D) | dK (ks : List Key) (vs : List D)
  | town | tab (q : Addr)
abbrev Tw := Option (Addr × Addr × Option Addr)
mutual
inductive Dv (K : Frag) (tw : Tw) (F : Hp) : V → D → Prop
  | non : Dv K tw F .non .non
  | bl (b : Bool) : Dv K tw F (.bl b) (.bl b)
  | int (i : Int) : Dv K tw F (.int i) (.int i)
  | str (x : Str) : Dv K tw F (.str x) (.str x)
  | lst {a : Addr} {us : List V} {ds : List D} : SqL K F a us → DvAll K tw F us ds → Dv K tw F (.ref a) (.lst ds)
  | tup {a : Addr} {us : List V} {ds : List D} : F a = some (.tup us) → DvAll K tw F us ds → Dv K tw F (.ref a) (.tup ds)
  | dT {a : Addr} {ks : List (List Key)} {us : List V} {ds : List D} : Rd F a (.dT (ks.zip us)) → ks.length = us.length → DvAll K tw F us ds → Dv K tw F (.ref a) (.dT ks ds)
  | dK {a : Addr} {ks : List Key} {us : List V} {ds : List D} : Rd F a (.dK (ks.zip us)) → ks.length = us.length → DvAll K tw F us ds → Dv K tw F (.ref a) (.dK ks ds)
  | town {t r : Addr} {p : Option Addr} : tw = some (t, r, p) → Dv K tw F (.ref t) .town
  | tab {t r q : Addr} : tw = some (t, r, some q) → Dv K tw F .non (.tab q)
inductive DvAll (K : Frag) (tw : Tw) (F : Hp) : List V → List D → Prop
  | nil : DvAll K tw F [] []
  | cons {v : V} {vs : List V} {d : D} {ds : List D} : Dv K tw F v d → DvAll K tw F vs ds → DvAll K tw F (v :: vs) (d :: ds)
end
theorem rd_mono {H H' : Hp} {a : Addr} {u : HO} (e : Same H H') (h : Rd H a u) : Rd H' a u := by
  rcases h with h | ⟨o, h⟩
  · exact .inl (e _ _ h)
  · exact .inr ⟨o, e _ _ h⟩
def TwLe (tw tw' : Tw) : Prop := tw = none ∨ tw = tw'
section
variable {K : Frag} {tw tw' : Tw} {F F' : Hp}
mutual
theorem Dv.mono (e : Same F F') (et : TwLe tw tw') : ∀ {v : V} {d : D}, Dv K tw F v d → Dv K tw' F' v d
  | _, _, .non => .non
  | _, _, .bl b => .bl b
  | _, _, .int i => .int i
  | _, _, .str x => .str x
  | _, _, .lst h a => .lst (e.seq h) (DvAll.mono e et a)
  | _, _, .tup h a => .tup (e _ _ h) (DvAll.mono e et a)
  | _, _, .dT h l a => .dT (rd_mono e h) l (DvAll.mono e et a)
  | _, _, .dK h l a => .dK (rd_mono e h) l (DvAll.mono e et a)
  | _, _, .town h => by
    rcases et with z | z
    · rw [z] at h; cases h
    · exact .town (z ▸ h)
  | _, _, .tab h => by
    rcases et with z | z
    · rw [z] at h; cases h
    · exact .tab (z ▸ h)
theorem DvAll.mono (e : Same F F') (et : TwLe tw tw') : ∀ {vs : List V} {ds : List D}, DvAll K tw F vs ds → DvAll K tw' F' vs ds
  | _, _, .nil => .nil
  | _, _, .cons h t => .cons (Dv.mono e et h) (DvAll.mono e et t)
end
theorem Dv.up (e : Same F F') {v : V} {d : D} (h : Dv K tw F v d) : Dv K tw F' v d := h.mono e (.inr rfl)
theorem DvAll.up (e : Same F F') {v : List V} {d : List D} (h : DvAll K tw F v d) : DvAll K tw F' v d := h.mono e (.inr rfl)
theorem DvAll.length : ∀ {vs : List V} {ds : List D}, DvAll K tw F vs ds → vs.length = ds.length
  | _, _, .nil => rfl
  | _, _, .cons _ t => by rw [List.length_cons, List.length_cons, t.length]
theorem DvAll.get : ∀ {vs : List V} {ds : List D} {i : Nat} {d : D}, DvAll K tw F vs ds → ds[i]? = some d → ∃ v, vs[i]? = some v ∧ Dv K tw F v d
  | _, _, _, _, .nil, e => by simp at e
  | _, _, 0, _, .cons h _, e => by simp at e; subst e; exact ⟨_, rfl, h⟩
  | _, _, i + 1, d, .cons _ t, e => by
    obtain ⟨v, h1, h2⟩ := DvAll.get (i := i) (d := d) t (by simpa using e)
    exact ⟨v, by simpa using h1, h2⟩
theorem DvAll.append : ∀ {xs ys : List V} {us ws : List D}, DvAll K tw F xs us → DvAll K tw F ys ws → DvAll K tw F (xs ++ ys) (us ++ ws)
  | _, _, _, _, .nil, s => s
  | _, _, _, _, .cons r t, s => .cons r (DvAll.append t s)
theorem DvAll.take : ∀ {xs : List V} {us : List D} (n : Nat), DvAll K tw F xs us → DvAll K tw F (xs.take n) (us.take n)
  | _, _, 0, _ => .nil
  | _, _, _ + 1, .nil => .nil
  | _, _, n + 1, .cons r t => .cons r (DvAll.take n t)
theorem DvAll.drop : ∀ {xs : List V} {us : List D} (n : Nat), DvAll K tw F xs us → DvAll K tw F (xs.drop n) (us.drop n)
  | _, _, 0, r => r
  | _, _, _ + 1, .nil => .nil
  | _, _, n + 1, .cons _ t => DvAll.drop n t
theorem DvAll.reverse {xs : List V} {us : List D} (h : DvAll K tw F xs us) : DvAll K tw F xs.reverse us.reverse := by
  induction xs generalizing us with
  | nil => cases h; exact .nil
  | cons x xs ih =>
    cases h with
    | cons h t =>
      rw [List.reverse_cons, List.reverse_cons]
      exact (ih t).append (.cons h .nil)
theorem DvAll.set : ∀ {xs : List V} {us : List D} {i : Nat} {v : V} {d : D}, DvAll K tw F xs us → Dv K tw F v d → DvAll K tw F (xs.set i v) (us.set i d)
  | _, _, _, _, _, .nil, _ => .nil
  | _, _, 0, _, _, .cons _ t, h => .cons h t
  | _, _, i + 1, _, _, .cons r t, h => .cons r (DvAll.set t h)
theorem DvAll.ints : ∀ {us : List V} {ns : List Int}, DvAll K tw F us (ns.map D.int) → us = ns.map V.int
  | _, [], .nil => rfl
  | _, _ :: _, .cons h t => by cases h; rw [DvAll.ints t]; rfl
theorem DvAll.of_ints : ∀ {ns : List Int}, DvAll K tw F (ns.map V.int) (ns.map D.int)
  | [] => .nil
  | _ :: _ => .cons (.int _) DvAll.of_ints
theorem DvAll.strs : ∀ {us : List V} {ns : List Str}, DvAll K tw F us (ns.map D.str) → us = ns.map V.str
  | _, [], .nil => rfl
  | _, _ :: _, .cons h t => by cases h; rw [DvAll.strs t]; rfl
end
def inTw : Tw → Addr → Prop
  | none, _ => False
  | some (t, r, p), b => b = t ∨ b = r ∨ p = some b
def lamQ : Str := "law.<locals>.<lambda>"
def recAt (c : Addr) : Heap → Prop := fun h => h.CodeRec (.ref c) lamQ
structure TownAt (t r : Addr) (p : Option Addr) (F H : Hp) : Prop where
  ne : t ≠ r
  c : ∃ n : Int, H t = some (.dK [(.inr "count", .int n), (.inr "rests", .ref r)])
  rs : ∃ kvs : List (Key × V), H r = some (.dK kvs) ∧ kvs.length ≤ 63 ∧ (kvs.map (·.1)).Nodup ∧ ∀ p ∈ kvs, ∃ (i : Nat) (n : Int), p = (.inl (i : Int), .int n) ∧ i < 63
  tb : ∀ q, p = some q → ∃ ps, H q = some (.tbl ps) ∧ TriplesOk ps.toList ∧ ∀ pos cv, codeAmong pos ps.toList = some cv → ∃ c, cv = .ref c ∧ F c = some (.ext (recAt c))
def TownOk : Tw → Hp → Hp → Prop
  | none, _, _ => True
  | some (t, r, p), F, H => TownAt t r p F H
theorem TownOk.there {tw : Tw} {F H : Hp} (h : TownOk tw F H) {b : Addr} (hb : inTw tw b) : ∃ o, H b = some o := by
  match tw, h, hb with
  | some (t, r, p), h, hb =>
    obtain ⟨_, ⟨n, h1⟩, ⟨kvs, h2, _⟩, h3⟩ := h
    rcases hb with rfl | rfl | hb
    · exact ⟨_, h1⟩
    · exact ⟨_, h2⟩
    · obtain ⟨ps, e, _⟩ := h3 b hb
      exact ⟨_, e⟩
theorem TownOk.keep {tw : Tw} {F F' H H' : Hp} (h : TownOk tw F H) (k : ∀ b, inTw tw b → H' b = H b) (kf : ∀ b φ, F b = some (.ext φ) → F' b = some (.ext φ)) : TownOk tw F' H' := by
  match tw, h, k with
  | none, _, _ => trivial
  | some (t, r, p), h, k =>
    obtain ⟨ne, h1, h2, h3⟩ := h
    refine ⟨ne, by rw [k t (.inl rfl)]; exact h1, by rw [k r (.inr (.inl rfl))]; exact h2, fun q hq => ?_⟩
    obtain ⟨ps, e1, e2, e3⟩ := h3 q hq
    refine ⟨ps, by rw [k q (.inr (.inr hq))]; exact e1, e2, fun pos cv z => ?_⟩
    obtain ⟨c, y1, y2⟩ := e3 pos cv z
    exact ⟨c, y1, kf c _ y2⟩
theorem TownOk.kind {tw : Tw} {F H : Hp} (h : TownOk tw F H) {b : Addr} (hb : inTw tw b) : (∃ kvs, H b = some (.dK kvs)) ∨ ∃ ps, H b = some (.tbl ps) := by
  match tw, h, hb with
  | some (t, r, p), h, hb =>
    obtain ⟨_, ⟨n, h1⟩, ⟨kvs, h2, _⟩, h3⟩ := h
    rcases hb with rfl | rfl | hb
    · exact .inl ⟨_, h1⟩
    · exact .inl ⟨_, h2⟩
    · obtain ⟨ps, e, _⟩ := h3 b hb
      exact .inr ⟨_, e⟩
structure Stt (tw : Tw) (F H : Hp) : Prop where
  sub : Same F H
  off : ∀ b, inTw tw b → F b = none
  town : TownOk tw F H
structure Stp (tw : Tw) (F H F' H' : Hp) : Prop where
  fz : Same F F'
  nw : ∀ b o, F b = none → H b = some o → (∀ xs, o ≠ .tup xs) → F' b = none
  kp : ∀ b o, H b = some o → ¬ inTw tw b → H' b = some o
  kt : ∀ b o, H b = some o → ∃ o', H' b = some o'
  st : Stt tw F' H'
section
variable {tw : Tw} {F H F' H' F2 H2 : Hp}
theorem Stp.refl (s : Stt tw F H) : Stp tw F H F H := ⟨Same.refl _, fun _ _ h _ _ => h, fun _ _ h _ => h, fun _ o h => ⟨o, h⟩, s⟩
theorem Stp.trans (a : Stp tw F H F' H') (b : Stp tw F' H' F2 H2) : Stp tw F H F2 H2 where
  fz := a.fz.trans b.fz
  nw := fun c o h1 h2 h3 => by
    by_cases ht : inTw tw c
    · exact b.st.off c ht
    · exact b.nw c o (a.nw c o h1 h2 h3) (a.kp c o h2 ht) h3
  kp := fun c o h n => b.kp c o (a.kp c o h n) n
  kt := fun c o h => by
    obtain ⟨o', h3⟩ := a.kt c o h
    exact b.kt c o' h3
  st := b.st
theorem Stp.free (a : Stp tw F H F' H') {l : Addr} (h : H' l = none) : H l = none := by
  cases q : H l with
  | none => rfl
  | some o =>
    obtain ⟨o', h3⟩ := a.kt l o q
    rw [h3] at h; cases h
theorem Stt.notTw (s : Stt tw F H) {a : Addr} (h : H a = none) : ¬ inTw tw a := fun hb => by
  obtain ⟨o, e⟩ := s.town.there hb
  rw [e] at h; cases h
theorem Stp.alloc (s : Stt tw F H) {a : Addr} {o : HO} (h : H a = none) : Stp tw F H F (upd H a o) where
  fz := Same.refl _
  nw := fun _ _ h _ _ => h
  kp := fun b u e _ => by rw [upd_ne (ne_of_none e h)]; exact e
  kt := fun b u e => ⟨u, by rw [upd_ne (ne_of_none e h)]; exact e⟩
  st := ⟨fun b u e => by rw [upd_ne (ne_of_none (s.sub b u e) h)]; exact s.sub b u e, s.off, s.town.keep (fun b hb => upd_ne (fun z : b = a => s.notTw h (by rw [← z]; exact hb))) fun _ _ e => e⟩
theorem Stp.lay (s : Stt tw F H) {a : Addr} {o : HO} (h : H a = none) : Stp tw F H (upd F a o) (upd H a o) where
  fz := fun b u e => by rw [upd_ne (ne_of_none (s.sub b u e) h)]; exact e
  nw := fun b u e1 e2 _ => by rw [upd_ne (ne_of_none e2 h)]; exact e1
  kp := fun b u e _ => by rw [upd_ne (ne_of_none e h)]; exact e
  kt := fun b u e => ⟨u, by rw [upd_ne (ne_of_none e h)]; exact e⟩
  st := by
    refine ⟨fun b u e => ?_, fun b hb => ?_, s.town.keep (fun b hb => upd_ne (fun z : b = a => s.notTw h (by rw [← z]; exact hb))) fun b φ e => by rw [upd_ne (ne_of_none (s.sub b _ e) h)]; exact e⟩
    · by_cases hb : b = a
      · subst hb; rw [upd_same] at e ⊢; exact e
      · rw [upd_ne hb] at e ⊢; exact s.sub b u e
    · rw [upd_ne (fun z : b = a => s.notTw h (by rw [← z]; exact hb))]; exact s.off b hb
end
inductive R where
  | dat (d : D) | shal (d : D) | fresh (d : D)
def R.d : R → D
  | .dat d => d
  | .shal d => d
  | .fresh d => d
def R.rd : R → R
  | .dat d => .dat d
  | .shal d => .shal d
  | .fresh d => .shal d
def R.fz : R → Option D
  | .dat d => some d
  | .shal _ => none
  | .fresh d => some d
inductive Cont (K : Frag) (tw : Tw) (F : Hp) : HO → D → Prop
  | lst {us : List V} {ds : List D} : DvAll K tw F us ds → Cont K tw F (.lst us) (.lst ds)
  | dT {ks : List (List Key)} {us : List V} {ds : List D} : ks.length = us.length → DvAll K tw F us ds → Cont K tw F (.dT (ks.zip us)) (.dT ks ds)
  | dK {ks : List Key} {us : List V} {ds : List D} : ks.length = us.length → DvAll K tw F us ds → Cont K tw F (.dK (ks.zip us)) (.dK ks ds)
theorem Cont.up {K : Frag} {tw : Tw} {F F' : Hp} {o : HO} {d : D} (e : Same F F') (h : Cont K tw F o d) : Cont K tw F' o d := by
  cases h with
  | lst a => exact .lst (a.up e)
  | dT l a => exact .dT l (a.up e)
  | dK l a => exact .dK l (a.up e)
theorem Cont.dv {K : Frag} {tw : Tw} {F : Hp} {o : HO} {d : D} {a : Addr} (h : Cont K tw F o d) (e : F a = some o) : Dv K tw F (.ref a) d := by
  cases h with
  | lst q => exact .lst (SqL.of e) q
  | dT l q => exact .dT (.inl e) l q
  | dK l q => exact .dK (.inl e) l q
inductive Rv (K : Frag) (tw : Tw) (Hs F H : Hp) : V → R → Prop
  | dat {v : V} {d : D} : Dv K tw F v d → Rv K tw Hs F H v (.dat d)
  | shal {a : Addr} {o : HO} {d : D} : Rd H a o → ¬ inTw tw a → Cont K tw F o d → Rv K tw Hs F H (.ref a) (.shal d)
  | fresh {a : Addr} {o : HO} {d : D} : Hs a = none → F a = none → H a = some o → ¬ inTw tw a → Cont K tw F o d → Rv K tw Hs F H (.ref a) (.fresh d)
theorem Cont.noTup {K : Frag} {tw : Tw} {F : Hp} {o : HO} {d : D} (h : Cont K tw F o d) : ∀ xs, o ≠ .tup xs := by
  cases h <;> (intro xs e; cases e)
theorem Stp.rd {tw : Tw} {F H F' H' : Hp} (s : Stp tw F H F' H') {a : Addr} {o : HO} (h : Rd H a o) (n : ¬ inTw tw a) : Rd H' a o := by
  rcases h with h | ⟨ob, h⟩
  · exact .inl (s.kp _ _ h n)
  · exact .inr ⟨ob, s.kp _ _ h n⟩
section
variable {K : Frag} {tw : Tw} {Hs Hs' F H F' H' : Hp} {v : V} {r : R} {d : D}
theorem Rv.step (s : Stp tw F H F' H') (h : Rv K tw Hs F H v r) : Rv K tw Hs F' H' v r := by
  cases h with
  | dat h => exact .dat (h.up s.fz)
  | shal h1 h2 h3 => exact .shal (s.rd h1 h2) h2 (h3.up s.fz)
  | fresh h0 hf h1 h2 h3 => exact .fresh h0 (s.nw _ _ hf h1 h3.noTup) (s.kp _ _ h1 h2) h2 (h3.up s.fz)
theorem Rv.back (s : ∀ a, Hs a = none → Hs' a = none) (h : Rv K tw Hs F H v r) : Rv K tw Hs' F H v r := by
  cases h with
  | dat h => exact .dat h
  | shal h1 h2 h3 => exact .shal h1 h2 h3
  | fresh h0 hf h1 h2 h3 => exact .fresh (s _ h0) hf h1 h2 h3
theorem Rv.rd (h : Rv K tw Hs F H v r) : Rv K tw Hs' F H v r.rd := by
  cases h with
  | dat h => exact .dat h
  | shal h1 h2 h3 => exact .shal h1 h2 h3
  | fresh h0 hf h1 h2 h3 => exact .shal (.inl h1) h2 h3
theorem Rv.int {i : Int} (h : Rv K tw Hs F H v r) (e : r.d = .int i) : v = .int i := by
  cases h with
  | dat h => cases (show _ = D.int i from e); cases h; rfl
  | shal _ _ h3 => cases (show _ = D.int i from e); cases h3
  | fresh _ _ _ _ h3 => cases (show _ = D.int i from e); cases h3
theorem Rv.bl {i : Bool} (h : Rv K tw Hs F H v r) (e : r.d = .bl i) : v = .bl i := by
  cases h with
  | dat h => cases (show _ = D.bl i from e); cases h; rfl
  | shal _ _ h3 => cases (show _ = D.bl i from e); cases h3
  | fresh _ _ _ _ h3 => cases (show _ = D.bl i from e); cases h3
theorem Rv.str {i : Str} (h : Rv K tw Hs F H v r) (e : r.d = .str i) : v = .str i := by
  cases h with
  | dat h => cases (show _ = D.str i from e); cases h; rfl
  | shal _ _ h3 => cases (show _ = D.str i from e); cases h3
  | fresh _ _ _ _ h3 => cases (show _ = D.str i from e); cases h3
theorem Rv.non (h : Rv K tw Hs F H v r) (e : r.d = .non) : v = .non := by
  cases h with
  | dat h => cases (show _ = D.non from e); cases h; rfl
  | shal _ _ h3 => cases (show _ = D.non from e); cases h3
  | fresh _ _ _ _ h3 => cases (show _ = D.non from e); cases h3
theorem Rv.tup {ds : List D} (h : Rv K tw Hs F H v r) (e : r.d = .tup ds) : ∃ a us, v = .ref a ∧ F a = some (.tup us) ∧ DvAll K tw F us ds := by
  cases h with
  | dat h => cases (show _ = D.tup ds from e); cases h with | tup h a => exact ⟨_, _, rfl, h, a⟩
  | shal _ _ h3 => cases (show _ = D.tup ds from e); cases h3
  | fresh _ _ _ _ h3 => cases (show _ = D.tup ds from e); cases h3
theorem Rv.lst {ds : List D} (h : Rv K tw Hs F H v r) (s : Same F H) (e : r.d = .lst ds) : ∃ a us, v = .ref a ∧ SqL K H a us ∧ DvAll K tw F us ds := by
  cases h with
  | dat h => cases (show _ = D.lst ds from e); cases h with | lst h a => exact ⟨_, _, rfl, s.seq h, a⟩
  | shal h1 _ h3 => cases (show _ = D.lst ds from e); cases h3 with | lst a => exact ⟨_, _, rfl, .inl h1, a⟩
  | fresh _ _ h1 _ h3 => cases (show _ = D.lst ds from e); cases h3 with | lst a => exact ⟨_, _, rfl, SqL.of h1, a⟩
theorem Rv.dT {ks : List (List Key)} {ds : List D} (h : Rv K tw Hs F H v r) (s : Same F H) (e : r.d = .dT ks ds) : ∃ a us, v = .ref a ∧ Rd H a (.dT (ks.zip us)) ∧ ks.length = us.length ∧ DvAll K tw F us ds := by
  cases h with
  | dat h => cases (show _ = D.dT ks ds from e); cases h with | dT h l a => exact ⟨_, _, rfl, rd_mono s h, l, a⟩
  | shal h1 _ h3 => cases (show _ = D.dT ks ds from e); cases h3 with | dT l a => exact ⟨_, _, rfl, h1, l, a⟩
  | fresh _ _ h1 _ h3 => cases (show _ = D.dT ks ds from e); cases h3 with | dT l a => exact ⟨_, _, rfl, .inl h1, l, a⟩
theorem Rv.dK {ks : List Key} {ds : List D} (h : Rv K tw Hs F H v r) (s : Same F H) (e : r.d = .dK ks ds) : ∃ a us, v = .ref a ∧ Rd H a (.dK (ks.zip us)) ∧ ks.length = us.length ∧ DvAll K tw F us ds := by
  cases h with
  | dat h => cases (show _ = D.dK ks ds from e); cases h with | dK h l a => exact ⟨_, _, rfl, rd_mono s h, l, a⟩
  | shal h1 _ h3 => cases (show _ = D.dK ks ds from e); cases h3 with | dK l a => exact ⟨_, _, rfl, h1, l, a⟩
  | fresh _ _ h1 _ h3 => cases (show _ = D.dK ks ds from e); cases h3 with | dK l a => exact ⟨_, _, rfl, .inl h1, l, a⟩
theorem Rv.freeze {d : D} (s : Stt tw F H) (h : Rv K tw Hs F H v r) (e : r.fz = some d) : ∃ F', Same F F' ∧ (∀ b o, F b = none → Hs b = some o → F' b = none) ∧ Stt tw F' H ∧ Dv K tw F' v d := by
  cases h with
  | dat h => cases e; exact ⟨F, Same.refl _, fun _ _ h _ => h, s, h⟩
  | shal _ _ h3 => cases e
  | @fresh a o d h0 hf h1 h2 h3 =>
    cases e
    have sm : Same F (upd F a o) := fun b u e => by rw [upd_ne (ne_of_none e hf)]; exact e
    refine ⟨upd F a o, sm, fun b u e1 e2 => by rw [upd_ne (ne_of_none e2 h0)]; exact e1, ⟨fun b u e => ?_, fun b hb => ?_, s.town.keep (fun _ _ => rfl) fun b φ e => sm b _ e⟩, (h3.up sm).dv upd_same⟩
    · by_cases hb : b = a
      · subst hb; rw [upd_same] at e; rw [h1]; exact e
      · rw [upd_ne hb] at e; exact s.sub b u e
    · rw [upd_ne (fun z : b = a => h2 (by rw [← z]; exact hb))]; exact s.off b hb
end
abbrev Ev := List (Option R)
structure Rep (K : Frag) (tw : Tw) (H0 F H : Hp) (σ : St) (ρ : Ev) : Prop where
  len : ρ.length = σ.length
  dom : ∀ b o, H0 b = some o → ∃ o', H b = some o'
  get : ∀ (i : Nat) (r : R), ρ[i]? = some (some r) → ∃ v, σ[i]? = some (some v) ∧ Rv K tw H0 F H v r
  sep : ∀ (i j : Nat) (a : Addr) (d : D) (r : R), ρ[i]? = some (some (.fresh d)) → ρ[j]? = some (some r) → (∀ d', r ≠ .dat d') → σ[i]? = some (some (.ref a)) → σ[j]? = some (some (.ref a)) → i = j
theorem Rep.step {K : Frag} {tw : Tw} {H0 F H F' H' : Hp} {σ : St} {ρ : Ev} (s : Stp tw F H F' H') (h : Rep K tw H0 F H σ ρ) : Rep K tw H0 F' H' σ ρ where
  len := h.len
  dom := fun b o e => by
    obtain ⟨o', e'⟩ := h.dom b o e
    exact s.kt b o' e'
  get := fun i r e => by
    obtain ⟨v, e1, e2⟩ := h.get i r e
    exact ⟨v, e1, e2.step s⟩
  sep := h.sep
theorem Rep.fz {K : Frag} {tw : Tw} {H0 F H F' : Hp} {σ : St} {ρ : Ev} (h : Rep K tw H0 F H σ ρ) (sm : Same F F') (own : ∀ (i : Nat) (d : D) (a : Addr), ρ[i]? = some (some (.fresh d)) → σ[i]? = some (some (.ref a)) → F a = none → F' a = none) : Rep K tw H0 F' H σ ρ where
  len := h.len
  dom := h.dom
  get := fun i r e => by
    obtain ⟨v, e1, e2⟩ := h.get i r e
    refine ⟨v, e1, ?_⟩
    cases e2 with
    | dat q => exact .dat (q.up sm)
    | shal h1 h2 h3 => exact .shal h1 h2 (h3.up sm)
    | fresh h0 hf h1 h2 h3 => exact .fresh h0 (own i _ _ e e1 hf) h1 h2 (h3.up sm)
  sep := h.sep
def Post (K : Frag) (tw : Tw) (F H : Hp) (Q : R → Prop) : VK := fun v H' => ∃ F' r, Stp tw F H F' H' ∧ Rv K tw H F' H' v r ∧ Q r
theorem Post.pre {K : Frag} {tw : Tw} {F H F1 H1 : Hp} {Q : R → Prop} {v : V} {H' : Hp} (s : Stp tw F H F1 H1) (p : Post K tw F1 H1 Q v H') : Post K tw F H Q v H' := by
  obtain ⟨F', r, s', h, q⟩ := p
  exact ⟨F', r, s.trans s', h.back fun a e => s.free e, q⟩
abbrev QE := Ev → (R → Prop) → Prop
abbrev QT := Ev → (Bool → Prop) → Prop
abbrev QA := Ev → (List D → Prop) → Prop
def lfE (K : Frag) (q : QE) : TE := fun σ H QQ => ∃ tw H0 F ρ Q, Stt tw F H ∧ Rep K tw H0 F H σ ρ ∧ q ρ Q ∧ ∀ v H', Post K tw F H Q v H' → QQ v H'
def lfT (K : Frag) (q : QT) : TT := fun σ H QQ => ∃ tw H0 F ρ Q, Stt tw F H ∧ Rep K tw H0 F H σ ρ ∧ q ρ Q ∧ ∀ b F' H', Stp tw F H F' H' → Q b → QQ b H'
def lfA (K : Frag) (q : QA) : TA := fun σ H QQ => ∃ tw H0 F ρ Q, Stt tw F H ∧ Rep K tw H0 F H σ ρ ∧ q ρ Q ∧ ∀ vs ds F' H', Stp tw F H F' H' → DvAll K tw F' vs ds → Q ds → QQ vs H'
structure DE (X : Cx) (e : Expr) (q : QE) : Prop where
  pe : PE X e (lfE X.K q)
structure DT (X : Cx) (e : Expr) (q : QT) : Prop where
  pt : PT X e (lfT X.K q)
structure DW (X : Cx) (e : Expr) (q : QT) : Prop where
  pw : PW X e (lfT X.K q)
structure DA (X : Cx) (es : List Expr) (q : QA) : Prop where
  pa : PA X es (lfA X.K q)
theorem PE.imp {X : Cx} {e : Expr} {t t' : TE} (h : PE X e t) (k : ∀ σ H Q, t' σ H Q → t σ H Q) : PE X e t' := fun pins s σ H Q I hw => h pins s σ H Q I (k σ H Q hw)
theorem PT.imp {X : Cx} {e : Expr} {t t' : TT} (h : PT X e t) (k : ∀ σ H Q, t' σ H Q → t σ H Q) : PT X e t' := fun pins s σ H Q I hw => h pins s σ H Q I (k σ H Q hw)
theorem PW.imp {X : Cx} {e : Expr} {t t' : TT} (h : PW X e t) (k : ∀ σ H Q, t' σ H Q → t σ H Q) : PW X e t' := fun wh pins s σ H Q I hw => h wh pins s σ H Q I (k σ H Q hw)
theorem PA.imp {X : Cx} {e : List Expr} {t t' : TA} (h : PA X e t) (k : ∀ σ H Q, t' σ H Q → t σ H Q) : PA X e t' := fun pos pins s σ H Q I hw => h pos pins s σ H Q I (k σ H Q hw)
theorem PS.imp {X : Cx} {e : Stmt} {t t' : TS} (h : PS X e t) (k : ∀ D σ H, t' D σ H → t D σ H) : PS X e t' := fun pins s σ H D I hw => h pins s σ H D I (k D σ H hw)
theorem PSs.imp {X : Cx} {e : List Stmt} {t t' : TS} (h : PSs X e t) (k : ∀ D σ H, t' D σ H → t D σ H) : PSs X e t' := fun pins s σ H D I hw => h pins s σ H D I (k D σ H hw)
theorem DW.dt {X : Cx} {e : Expr} {q : QT} (h : DW X e q) : DT X e q := ⟨PW.pt h.pw⟩
def qVar (i : Nat) : QE := fun ρ Q => ∃ r, ρ[i]? = some (some r) ∧ Q r.rd
def qC (d : D) : QE := fun _ Q => Q (.dat d)
theorem post_here {K : Frag} {tw : Tw} {F H : Hp} {Q : R → Prop} {v : V} {r : R} (s : Stt tw F H) (h : Rv K tw H F H v r) (q : Q r) : Post K tw F H Q v H := ⟨F, r, Stp.refl s, h, q⟩
section
variable {X : Cx}
theorem dv (i : Nat) {x : Str} {pos : Pos} (hN : X.N[i]? = some x := by rfl) (hv : Vis X.env.scope x := by first | exact Or.inl rfl | exact Or.inr (Or.inl rfl) | exact Or.inr (Or.inr rfl)) (hd : (x == ("__debug__" : Str)) = false := by decide)
    (hcd : (x == ("__classdict__" : Str)) = false := by decide) : DE X (.Name x pos) (qVar i) := by
  refine ⟨PE.imp (pe_var hN hv hd hcd) ?_⟩
  rintro σ H QQ ⟨tw, H0, F, ρ, Q, st, rp, ⟨r, e, q⟩, k⟩
  obtain ⟨v, e1, e2⟩ := rp.get i r e
  exact ⟨v, e1, k _ _ (post_here st e2.rd q)⟩
theorem lf_const {K : Frag} {d : D} {v : V} (h : ∀ K tw F, Dv K tw F v d) : ∀ σ H Q, lfE K (qC d) σ H Q → tC v σ H Q := by
  rintro σ H QQ ⟨tw, H0, F, ρ, Q, st, rp, q, k⟩
  exact k _ _ (post_here st (.dat (h _ _ _)) q)
theorem de_int {i j pos} : DE X (.Constant (.int i) j pos) (qC (.int i)) := ⟨PE.imp pe_int (lf_const fun _ _ _ => .int i)⟩
theorem de_bl {b j pos} : DE X (.Constant (.bool b) j pos) (qC (.bl b)) := ⟨PE.imp pe_bl (lf_const fun _ _ _ => .bl b)⟩
theorem de_str {x j pos} : DE X (.Constant (.str x) j pos) (qC (.str x)) := ⟨PE.imp pe_str (lf_const fun _ _ _ => .str x)⟩
theorem de_globS {x : Str} {i : Str} {u : Value} {pos : Pos} (hg : Gl X x) (hm : X.mg x = some u) (r : RelV (.str i) u) (hd : (x == ("__debug__" : Str)) = false := by decide) : DE X (.Name x pos) (qC (.str i)) := ⟨PE.imp (pe_glob hg hm r hd) (lf_const fun _ _ _ => .str i)⟩
theorem lf_two {K : Frag} {qa qb : QE} {σ : St} {H : Hp} {QQ : V → V → Hp → Prop} {tw : Tw} {H0 F : Hp} {ρ : Ev} {P : R → R → Prop} (st : Stt tw F H) (rp : Rep K tw H0 F H σ ρ) (h : qa ρ fun x => qb ρ fun y => P x y)
    (k : ∀ v u x y F2 H2, Stp tw F H F2 H2 → Rv K tw H F2 H2 v x → Rv K tw H F2 H2 u y → P x y → QQ v u H2) : lfE K qa σ H fun v H1 => lfE K qb σ H1 fun u H2 => QQ v u H2 := by
  refine ⟨tw, H0, F, ρ, _, st, rp, h, fun v H1 p => ?_⟩
  obtain ⟨F1, x, s1, r1, q1⟩ := p
  refine ⟨tw, H0, F1, ρ, _, s1.st, rp.step s1, q1, fun u H2 p => ?_⟩
  obtain ⟨F2, y, s2, r2, q2⟩ := p
  exact k v u x y F2 H2 (s1.trans s2) (r1.step s2) (r2.back fun a e => s1.free e) q2
abbrev RD2 := R → R → (R → Prop) → Prop
def OpD (K : Frag) (r : R2) (rD : RD2) : Prop := ∀ tw Hs F H v u x y Q QQ, Stt tw F H → Rv K tw Hs F H v x → Rv K tw Hs F H u y → rD x y Q → (∀ v' H', Post K tw F H Q v' H' → QQ v' H') → r v u H QQ
def qOp (rD : RD2) (qa qb : QE) : QE := fun ρ Q => qa ρ fun x => qb ρ fun y => rD x y Q
theorem lf_op {K : Frag} {qa qb : QE} {r : R2} {rD : RD2} (o : OpD K r rD) : ∀ σ H Q, lfE K (qOp rD qa qb) σ H Q → tOp r (lfE K qa) (lfE K qb) σ H Q := by
  rintro σ H QQ ⟨tw, H0, F, ρ, Q, st, rp, q, k⟩
  exact lf_two st rp q fun v u x y F2 H2 s2 r1 r2 p => o tw H F2 H2 v u x y Q QQ s2.st r1 r2 p fun v' H' pp => k v' H' (pp.pre s2)
theorem de_op {op : Operator} {r : R2} {rD : RD2} {a b : Expr} {qa qb : QE} {pos : Pos} (ho : OpR X (binaryOp op) r) (o : OpD X.K r rD) (ha : DE X a qa) (hb : DE X b qb) : DE X (.BinOp a op b pos) (qOp rD qa qb) :=
  ⟨PE.imp (pe_op ho ha.pe hb.pe) (lf_op o)⟩
theorem de_cmp {op : CmpOp} {r : R2} {rD : RD2} {a b : Expr} {qa qb : QE} {pos : Pos} (ho : OpR X (compareOp op) r) (o : OpD X.K r rD) (ha : DE X a qa) (hb : DE X b qb) (hm : behindInMarks op b = false) : DE X (.Compare a [op] [b] pos) (qOp rD qa qb) :=
  ⟨PE.imp (pe_cmpR ho ha.pe hb.pe hm) (lf_op o)⟩
def dI (C : Int → Int → Prop) (g : Int → Int → D) : RD2 := fun x y Q => ∃ i j, x.d = .int i ∧ y.d = .int j ∧ C i j ∧ Q (.dat (g i j))
def dI0 (g : Int → Int → D) : RD2 := fun x y Q => ∃ i j, x.d = .int i ∧ y.d = .int j ∧ Q (.dat (g i j))
theorem od_int {K : Frag} {C : Int → Int → Prop} {g : Int → Int → Int} : OpD K (rI C fun i j => .int (g i j)) (dI C fun i j => .int (g i j)) := by
  rintro tw Hs F H v u x y Q QQ st r1 r2 ⟨i, j, e1, e2, c, q⟩ k
  exact ⟨i, j, r1.int e1, r2.int e2, c, k _ _ (post_here st (.dat (.int _)) q)⟩
theorem od_int0 {K : Frag} {g : Int → Int → Int} : OpD K (rI0 fun i j => .int (g i j)) (dI0 fun i j => .int (g i j)) := by
  rintro tw Hs F H v u x y Q QQ st r1 r2 ⟨i, j, e1, e2, q⟩ k
  exact ⟨i, j, r1.int e1, r2.int e2, k _ _ (post_here st (.dat (.int _)) q)⟩
variable {a b c : Expr} {qa qb qc : QE} {pos : Pos}
def qAdd := qOp (dI0 fun i j => .int (i + j))
def qDiv := qOp (dI CDiv fun i j => .int (i / j))
def qMod := qOp (dI (fun _ j => 0 < j) fun i j => .int (i % j))
theorem de_add (ha : DE X a qa) (hb : DE X b qb) : DE X (.BinOp a .Add b pos) (qAdd qa qb) := de_op op_add od_int0 ha hb
theorem de_div (ha : DE X a qa) (hb : DE X b qb) : DE X (.BinOp a .FloorDiv b pos) (qDiv qa qb) := de_op op_fdiv od_int ha hb
theorem de_mod (ha : DE X a qa) (hb : DE X b qb) : DE X (.BinOp a .Mod b pos) (qMod qa qb) := de_op op_mod od_int ha hb
end
end L3
set_option Elab.async false
set_option linter.all false
set_option autoImplicit false
set_option maxRecDepth 100000
namespace L3
open PySem PySem.Spec PyProof.Rows L2
section
variable {X : Cx} {a b c e : Expr} {qa qb qc q : QE} {pos : Pos}
def qB (q : QE) : QT := fun ρ Q => q ρ fun r => ∃ b, r.d = .bl b ∧ Q b
theorem dt_cmp {op : CmpOp} {r : R2} {rD : RD2} (ho : OpR X (compareOp op) r) (o : OpD X.K r rD) (ha : DE X a qa) (hb : DE X b qb) (hm : behindInMarks op b = false) : DT X (.Compare a [op] [b] pos) (qB (qOp rD qa qb)) := by
  refine ⟨PT.imp (pt_cmpR ho ha.pe hb.pe hm) ?_⟩
  rintro σ H QQ ⟨tw, H0, F, ρ, Q, st, rp, q, k⟩
  refine lf_op o σ H _ ⟨tw, H0, F, ρ, _, st, rp, q, fun v H1 p => ?_⟩
  obtain ⟨F1, x, s1, r1, b, e, q1⟩ := p
  exact ⟨b, r1.bl e, k b F1 H1 s1 q1⟩
theorem DvAll.isEmpty {K : Frag} {tw : Tw} {F : Hp} {us : List V} {ds : List D} (h : DvAll K tw F us ds) : us.isEmpty = ds.isEmpty := by cases h <;> rfl
variable {ta tb : QT} {rest : List Expr}
def qOr (ta tb : QT) : QT := fun ρ Q => ta ρ fun c => if c = true then Q true else tb ρ Q
theorem dw_or1 (ha : DT X a ta) : DW X (.BoolOp .Or [a] pos) ta := ⟨pw_or1 ha.pt⟩
theorem dw_or (ha : DT X a ta) (hb : DW X (.BoolOp .Or (b :: rest) pos) tb) : DW X (.BoolOp .Or (a :: b :: rest) pos) (qOr ta tb) := by
  refine ⟨PW.imp (pw_or ha.pt hb.pw) ?_⟩
  rintro σ H QQ ⟨tw, H0, F, ρ, Q, st, rp, q, k⟩
  refine ⟨tw, H0, F, ρ, _, st, rp, q, fun b F1 H1 s1 q1 => ?_⟩
  cases b with
  | false => exact ⟨tw, H0, F1, ρ, _, s1.st, rp.step s1, q1, fun b F2 H2 s2 q2 => k b F2 H2 (s1.trans s2) q2⟩
  | true => exact k true F1 H1 s1 q1
end
section
variable {X : Cx} {e : Expr} {es : List Expr} {q : QE} {qs : QA} {pos : Pos}
def qNil : QA := fun _ Q => Q []
def qCons (q : QE) (qs : QA) : QA := fun ρ Q => q ρ fun r => ∃ d, r.fz = some d ∧ qs ρ fun ds => Q (d :: ds)
theorem frozen {K : Frag} {tw : Tw} {F H F1 H1 H0 : Hp} {σ : St} {ρ : Ev} {v : V} {r : R} {d : D} (rp : Rep K tw H0 F H σ ρ) (s1 : Stp tw F H F1 H1) (h : Rv K tw H F1 H1 v r) (e : r.fz = some d) :
    ∃ F2, Stp tw F H F2 H1 ∧ Same F1 F2 ∧ Rep K tw H0 F2 H1 σ ρ ∧ Dv K tw F2 v d := by
  obtain ⟨F2, sm, nw, st2, dv⟩ := h.freeze s1.st e
  refine ⟨F2, ⟨s1.fz.trans sm, fun b o e1 e2 e3 => nw b o (s1.nw b o e1 e2 e3) e2, s1.kp, s1.kt, st2⟩, sm, (rp.step s1).fz sm fun i d a e1 e2 e3 => ?_, dv⟩
  obtain ⟨v', e4, e5⟩ := rp.get i _ e1
  rw [e2] at e4
  cases e4
  cases e5 with
  | fresh h0 hf h1 h2 h3 => exact nw a _ e3 h1
theorem da_nil : DA X [] qNil := by
  refine ⟨PA.imp pa_nil ?_⟩
  rintro σ H QQ ⟨tw, H0, F, ρ, Q, st, rp, q, k⟩
  exact k [] [] F H (Stp.refl st) .nil q
theorem da_cons (ha : DE X e q) (hr : DA X es qs) (hs : starEach (e :: es) X.env = (false, eval e X.env) :: starEach es X.env := by rfl) : DA X (e :: es) (qCons q qs) := by
  refine ⟨PA.imp (pa_cons ha.pe hr.pa hs) ?_⟩
  rintro σ H QQ ⟨tw, H0, F, ρ, Q, st, rp, q, k⟩
  refine ⟨tw, H0, F, ρ, _, st, rp, q, fun v H1 p => ?_⟩
  obtain ⟨F1, x, s1, r1, d, e, q1⟩ := p
  obtain ⟨F2, s2, sm, rp2, dv⟩ := frozen rp s1 r1 e
  refine ⟨tw, H0, F2, ρ, _, s2.st, rp2, q1, fun vs ds F3 H3 s3 a3 q3 => ?_⟩
  exact k (v :: vs) (d :: ds) F3 H3 (s2.trans s3) (.cons (dv.up s3.fz) a3) q3
def qTup (qs : QA) : QE := fun ρ Q => qs ρ fun ds => ds.length ≤ sizeLine ∧ Q (.dat (.tup ds))
def qLst (qs : QA) : QE := fun ρ Q => qs ρ fun ds => ds.length ≤ sizeLine ∧ Q (.fresh (.lst ds))
theorem post_tup {K : Frag} {tw : Tw} {F H : Hp} {Q : R → Prop} {p : Addr} {us : List V} {ds : List D} (st : Stt tw F H) (a : DvAll K tw F us ds) (h : H p = none) (q : Q (.dat (.tup ds))) : Post K tw F H Q (.ref p) (upd H p (.tup us)) := by
  have s := Stp.lay (o := HO.tup us) st h
  exact ⟨_, _, s, .dat (.tup upd_same (a.up s.fz)), q⟩
theorem post_lst {K : Frag} {tw : Tw} {F H : Hp} {Q : R → Prop} {p : Addr} {us : List V} {ds : List D} (st : Stt tw F H) (a : DvAll K tw F us ds) (h : H p = none) (q : Q (.fresh (.lst ds))) : Post K tw F H Q (.ref p) (upd H p (.lst us)) := by
  have s := Stp.alloc (o := HO.lst us) st h
  refine ⟨_, _, s, .fresh h ?_ upd_same (st.notTw h) (.lst a), q⟩
  cases e : F p with
  | none => rfl
  | some o => have := st.sub p o e; rw [h] at this; cases this
theorem de_tup {x1 : Nat} (h : DA X es qs) : DE X (.Tuple es x1 pos) (qTup qs) := by
  refine ⟨PE.imp (pe_tup h.pa) ?_⟩
  rintro σ H QQ ⟨tw, H0, F, ρ, Q, st, rp, q, k⟩
  refine ⟨tw, H0, F, ρ, _, st, rp, q, fun vs ds F1 H1 s1 a1 q1 => ?_⟩
  exact ⟨by rw [a1.length]; exact q1.1, fun p hp => k _ _ ((post_tup s1.st a1 hp q1.2).pre s1)⟩
theorem de_lst (h : DA X es qs) : DE X (.List es pos) (qLst qs) := by
  refine ⟨PE.imp (pe_lst h.pa) ?_⟩
  rintro σ H QQ ⟨tw, H0, F, ρ, Q, st, rp, q, k⟩
  refine ⟨tw, H0, F, ρ, _, st, rp, q, fun vs ds F1 H1 s1 a1 q1 => ?_⟩
  exact ⟨by rw [a1.length]; exact q1.1, fun p hp => k _ _ ((post_lst s1.st a1 hp q1.2).pre s1)⟩
end
abbrev CD := List D → (D → Prop) → Prop
def spD (K : Frag) (c : CD) : Sp := fun vs H Q _ => ∃ tw F ds QD, Stt tw F H ∧ DvAll K tw F vs ds ∧ c ds QD ∧ ∀ v F' H' d, Stp tw F H F' H' → Dv K tw F' v d → QD d → Q v H'
section
variable {X : Cx} {CX : CXT} {k : Nat} {f : Addr} {fd : FuncData} {ps : List Str} {c : CD} {dvs : List V} {dds : List D} {ds : List Value} {x : Str} {p pos : Pos} {e : Expr} {es : List Expr} {qs : QA}
def qCall (c : CD) (dds : List D) (qs : QA) : QE := fun ρ Q => qs ρ fun ds => c (ds ++ dds) fun d => Q (.dat d)
theorem lf_call {K : Frag} {E : XK} (hdd : ∀ tw F, DvAll K tw F dvs dds) : ∀ σ H Q, lfE K (qCall c dds qs) σ H Q → tCall (spD K c) dvs E (lfA K qs) σ H Q := by
  rintro σ H QQ ⟨tw, H0, F, ρ, Q, st, rp, q, k⟩
  refine ⟨tw, H0, F, ρ, _, st, rp, q, fun vs ds F1 H1 s1 a1 q1 => ?_⟩
  exact ⟨tw, F1, ds ++ dds, _, s1.st, a1.append (hdd tw F1), q1, fun v F' H' d s' dv qd => k v H' ⟨F', .dat d, s1.trans s', .dat dv, qd⟩⟩
theorem de_call (G : FnOk X.prog X.w X.K X.mg X.base CX0 k f fd ps (spD X.K c)) (hr : Room k X.A) (hg : Gl X x) (hm : X.mg x = some (.ref f)) (hk : PySem.W.keepIn X.K (.ref f) = true) (hb : Binds X.K fd ps ds) (hd : Vals dvs ds) (hdd : ∀ tw F, DvAll X.K tw F dvs dds)
    (ha : DA X (e :: es) qs) (hdb : (x == ("__debug__" : Str)) = false := by decide) (he : starEach (e :: es) X.env = (false, eval e X.env) :: starEach es X.env := by rfl) (hpl : (backTo pos (starEach es X.env)).any (·.1) = false := by rfl) :
    DE X (.Call (.Name x p) (e :: es) [] pos) (qCall c dds qs) := ⟨PE.imp (pe_call G hr hg hm hk hb hd pass0 ha.pa hdb he hpl) (lf_call hdd)⟩
end
abbrev RD1 := R → (R → Prop) → Prop
def CallD (K : Frag) (r : List V → Hp → VK → Prop) (rD : RD1) : Prop := ∀ tw Hs F H v x Q QQ, Stt tw F H → Rv K tw Hs F H v x → rD x Q → (∀ v' H', Post K tw F H Q v' H' → QQ v' H') → r [v] H QQ
def qB1 (rD : RD1) (qa : QE) : QE := fun ρ Q => qa ρ fun x => rD x Q
section
variable {X : Cx} {x : Str} {p pos : Pos} {e : Expr} {qa : QE} {bid T : String} {r : List V → Hp → VK → Prop} {rD : RD1}
theorem lf_b1 {K : Frag} (o : CallD K r rD) : ∀ σ H Q, lfE K (qB1 rD qa) σ H Q → tCB r (tCons (lfE K qa) tNil) σ H Q := by
  rintro σ H QQ ⟨tw, H0, F, ρ, Q, st, rp, q, k⟩
  refine ⟨tw, H0, F, ρ, _, st, rp, q, fun v H1 p => ?_⟩
  obtain ⟨F1, x, s1, r1, q1⟩ := p
  exact o tw H F1 H1 v x Q QQ s1.st r1 q1 fun v' H' pp => k v' H' (pp.pre s1)
theorem de_b1 (hc : CallR X (.builtin bid) r) (o : CallD X.K r rD) (hg : Gl X x) (hm : X.mg x = none) (hv : bootBuiltins x = some (.builtin bid)) (ha : DE X e qa) (hn : x ≠ "__name__" := by decide) (hdb : (x == ("__debug__" : Str)) = false := by decide)
    (he : starEach [e] X.env = (false, eval e X.env) :: starEach [] X.env := by rfl) : DE X (.Call (.Name x p) [e] [] pos) (qB1 rD qa) := ⟨PE.imp (pe_callB hc hg hm hv (pa_cons ha.pe pa_nil he) hn hdb he) (lf_b1 o)⟩
theorem de_ty1 (hc : CallR X (.type T) r) (o : CallD X.K r rD) (hg : Gl X x) (hm : X.mg x = none) (hv : bootBuiltins x = some (.type T)) (ha : DE X e qa) (hn : x ≠ "__name__" := by decide) (hdb : (x == ("__debug__" : Str)) = false := by decide)
    (he : starEach [e] X.env = (false, eval e X.env) :: starEach [] X.env := by rfl) : DE X (.Call (.Name x p) [e] [] pos) (qB1 rD qa) := ⟨PE.imp (pe_callTy hc hg hm hv (pa_cons ha.pe pa_nil he) hn hdb he) (lf_b1 o)⟩
inductive LenD : D → Nat → Prop
  | str (x : Str) : x.length ≤ sizeLine → LenD (.str x) x.length
  | tup (ds : List D) : LenD (.tup ds) ds.length
  | lst (ds : List D) : LenD (.lst ds) ds.length
theorem od_len {K : Frag} : CallD K (fun xs H Q => ∃ x n, xs = [x] ∧ LenV K x H n ∧ Q (.int n) H) (fun x Q => ∃ n, LenD x.d n ∧ Q (.dat (.int (n : Nat)))) := by
  rintro tw Hs F H v x Q QQ st r1 ⟨n, hl, q⟩ k
  refine ⟨v, n, rfl, ?_, k _ _ (post_here st (.dat (.int _)) q)⟩
  generalize e : x.d = d at hl
  cases hl with
  | str y hy => rw [r1.str e]; exact ⟨hy, rfl⟩
  | tup ds =>
    obtain ⟨a, us, rfl, h1, h2⟩ := r1.tup e
    exact .inr ⟨us, SqT.of (st.sub _ _ h1), h2.length.symm⟩
  | lst ds =>
    obtain ⟨a, us, rfl, h1, h2⟩ := r1.lst st.sub e
    exact .inl ⟨us, h1, h2.length.symm⟩
def qLen := qB1 (fun x Q => ∃ n, LenD x.d n ∧ Q (.dat (.int (n : Nat))))
theorem de_len (hm : X.mg "len" = none) (ha : DE X e qa) (hg : Gl X "len" := by rfl) (he : starEach [e] X.env = (false, eval e X.env) :: starEach [] X.env := by rfl) : DE X (.Call (.Name "len" p) [e] [] pos) (qLen qa) :=
  de_b1 call_len od_len hg hm PySem.boot_len ha (he := he)
def dTuple : RD1 := fun x Q => (∃ ds, x.d = .lst ds ∧ Q (.dat (.tup ds))) ∨ ∃ ds, x.d = .tup ds ∧ Q (.dat (.tup ds))
theorem od_tuple {K : Frag} : CallD K (fun xs H Q => ∃ p ys, xs = [.ref p] ∧ ((SqL K H p ys ∧ ∀ l, H l = none → Q (.ref l) (upd H l (.tup ys))) ∨ (SqT K H p ys ∧ Q (.ref p) H))) dTuple := by
  rintro tw Hs F H v x Q QQ st r1 h k
  rcases h with ⟨ds, e, q⟩ | ⟨ds, e, q⟩
  · obtain ⟨a, us, rfl, h1, h2⟩ := r1.lst st.sub e
    exact ⟨a, us, rfl, .inl ⟨h1, fun l hl => k _ _ (post_tup st h2 hl q)⟩⟩
  · obtain ⟨a, us, rfl, h1, h2⟩ := r1.tup e
    exact ⟨a, us, rfl,   .inr ⟨SqT.of (st.sub _ _ h1), k _ _ (post_here st (.dat (.tup h1 h2)) q)⟩⟩
theorem de_tuple (hm : X.mg "tuple" = none) (ha : DE X e qa) (hg : Gl X "tuple" := by rfl) (he : starEach [e] X.env = (false, eval e X.env) :: starEach [] X.env := by rfl) : DE X (.Call (.Name "tuple" p) [e] [] pos) (qB1 dTuple qa) :=
  de_ty1 call_tuple_of od_tuple hg hm (by decide +kernel) ha (he := he)
end
end L3
set_option Elab.async false
set_option linter.all false
set_option autoImplicit false
set_option maxRecDepth 100000
namespace L3
open PySem PySem.Spec PyProof.Rows L2
def wipeE (ρ : Ev) : List Nat → Ev
  | [] => ρ
  | v :: vs => (wipeE ρ vs).set v none
def Off {α : Type} (sl : List Nat) (σ σ' : List α) : Prop := σ'.length = σ.length ∧ ∀ j : Nat, j ∉ sl → σ'[j]? = σ[j]?
theorem Off.refl {α : Type} {sl : List Nat} (σ : List α) : Off sl σ σ := ⟨rfl, fun _ _ => rfl⟩
theorem Off.trans {α : Type} {s1 s2 : List Nat} {a b c : List α} (h : Off s1 a b) (h' : Off s2 b c) : Off (s1 ++ s2) a c :=
  ⟨h'.1.trans h.1, fun j hj => by
    rw [List.mem_append, not_or] at hj
    rw [h'.2 j hj.2, h.2 j hj.1]⟩
theorem Off.set {α : Type} (σ : List α) (i : Nat) (x : α) : Off [i] σ (σ.set i x) :=
  ⟨List.length_set, fun j hj => List.getElem?_set_ne (by intro e; exact hj (by simp [e]))⟩
theorem wipe_get (σ : St) (j : Nat) : ∀ vs : List Nat, (wipe σ vs)[j]? = if j ∈ vs ∧ j < σ.length then some none else σ[j]?
  | [] => by simp [wipe]
  | v :: vs => by
    unfold wipe
    by_cases h : v = j
    · subst h
      by_cases hl : v < σ.length
      · rw [List.getElem?_set_self (by rw [wipe_length]; exact hl), if_pos ⟨List.mem_cons_self, hl⟩]
      · rw [List.getElem?_eq_none (by rw [List.length_set, wipe_length]; omega), if_neg (fun z => hl z.2), List.getElem?_eq_none (by omega)]
    · rw [List.getElem?_set_ne h, wipe_get σ j vs]
      have : (j ∈ v :: vs) ↔ j ∈ vs := by simp [List.mem_cons, Ne.symm h]
      simp only [this]
theorem wipeE_length (ρ : Ev) : ∀ vs : List Nat, (wipeE ρ vs).length = ρ.length
  | [] => rfl
  | v :: vs => by unfold wipeE; rw [List.length_set, wipeE_length ρ vs]
theorem wipeE_get (σ : Ev) (j : Nat) : ∀ vs : List Nat, (wipeE σ vs)[j]? = if j ∈ vs ∧ j < σ.length then some none else σ[j]?
  | [] => by simp [wipeE]
  | v :: vs => by
    unfold wipeE
    by_cases h : v = j
    · subst h
      by_cases hl : v < σ.length
      · rw [List.getElem?_set_self (by rw [wipeE_length]; exact hl), if_pos ⟨List.mem_cons_self, hl⟩]
      · rw [List.getElem?_eq_none (by rw [List.length_set, wipeE_length]; omega), if_neg (fun z => hl z.2), List.getElem?_eq_none (by omega)]
    · rw [List.getElem?_set_ne h, wipeE_get σ j vs]
      have : (j ∈ v :: vs) ↔ j ∈ vs := by simp [List.mem_cons, Ne.symm h]
      simp only [this]
theorem wipe_off {σ σ' : St} {vs : List Nat} (h : Off vs (wipe σ vs) σ') : wipe σ' vs = wipe σ vs := by
  apply List.ext_getElem?
  intro j
  rw [wipe_get σ' j vs]
  have hl : σ'.length = σ.length := h.1.trans (wipe_length σ vs)
  by_cases hj : j ∈ vs
  · rw [wipe_get σ j vs]
    by_cases hlt : j < σ.length
    · rw [if_pos ⟨hj, by omega⟩, if_pos ⟨hj, hlt⟩]
    · rw [if_neg (fun z => hlt (by omega)), if_neg (fun z => hlt z.2), List.getElem?_eq_none (by omega), List.getElem?_eq_none (by omega)]
  · rw [if_neg (fun z => hj z.1)]
    exact h.2 j hj
theorem Rep.wipe {K : Frag} {tw : Tw} {H0 F H : Hp} {σ : St} {ρ : Ev} (h : Rep K tw H0 F H σ ρ) (vs : List Nat) : Rep K tw H0 F H (wipe σ vs) (wipeE ρ vs) where
  len := by rw [wipe_length, wipeE_length, h.len]
  dom := h.dom
  get := fun i r e => by
    rw [wipeE_get] at e
    split at e
    · cases e
    · rename_i hn
      obtain ⟨v, e1, e2⟩ := h.get i r e
      refine ⟨v, ?_, e2⟩
      rw [wipe_get, if_neg (by rw [← h.len]; exact hn)]
      exact e1
  sep := fun i j a d e h1 h2 hnd h3 h4 => by
    rw [wipeE_get] at h1 h2
    rw [wipe_get] at h3 h4
    split at h1
    · cases h1
    · split at h2
      · cases h2
      · split at h3
        · cases h3
        · split at h4
          · cases h4
          · exact h.sep i j a d e h1 h2 hnd h3 h4
theorem Rep.setD {K : Frag} {tw : Tw} {H0 F H : Hp} {σ : St} {ρ : Ev} (h : Rep K tw H0 F H σ ρ) {v : V} {d : D} (i : Nat) (hv : Dv K tw F v d) : Rep K tw H0 F H (σ.set i (some v)) (ρ.set i (some (.dat d))) where
  len := by rw [List.length_set, List.length_set, h.len]
  dom := h.dom
  get := fun j r e => by
    by_cases hij : i = j
    · subst hij
      by_cases hl : i < ρ.length
      · rw [List.getElem?_set_self hl] at e
        cases e
        exact ⟨v, List.getElem?_set_self (by rw [← h.len]; exact hl), .dat hv⟩
      · rw [List.getElem?_eq_none (by rw [List.length_set]; omega)] at e
        cases e
    · rw [List.getElem?_set_ne hij] at e
      obtain ⟨v', e1, e2⟩ := h.get j r e
      exact ⟨v', by rw [List.getElem?_set_ne hij]; exact e1, e2⟩
  sep := fun j k a d' r h1 h2 hnd h3 h4 => by
    have nj : i ≠ j := by
      intro q; subst q
      by_cases hl : i < ρ.length
      · rw [List.getElem?_set_self hl] at h1; cases h1
      · rw [List.getElem?_eq_none (by rw [List.length_set]; omega)] at h1; cases h1
    have nk : i ≠ k := by
      intro q; subst q
      by_cases hl : i < ρ.length
      · rw [List.getElem?_set_self hl] at h2; cases h2; exact hnd _ rfl
      · rw [List.getElem?_eq_none (by rw [List.length_set]; omega)] at h2; cases h2
    rw [List.getElem?_set_ne nj] at h1 h3
    rw [List.getElem?_set_ne nk] at h2 h4
    exact h.sep j k a _ r h1 h2 hnd h3 h4
abbrev QG := D → Ev → (Ev → Prop) → Prop
abbrev QGs := List D → Ev → (Ev → Prop) → Prop
def lfG (K : Frag) (sl : List Nat) (g : QG) : TG := fun v σ H QQ => ∃ tw H0 F ρ d Q, Stt tw F H ∧ Rep K tw H0 F H σ ρ ∧ Dv K tw F v d ∧ g d ρ Q ∧ ∀ σ' ρ', Rep K tw H0 F H σ' ρ' → Off sl σ σ' → Q ρ' → QQ σ' H
def lfGs (K : Frag) (sl : List Nat) (g : QGs) : TGs := fun vs σ H QQ => ∃ tw H0 F ρ ds Q, Stt tw F H ∧ Rep K tw H0 F H σ ρ ∧ DvAll K tw F vs ds ∧ g ds ρ Q ∧ ∀ σ' ρ', Rep K tw H0 F H σ' ρ' → Off sl σ σ' → Q ρ' → QQ σ' H
structure DG (X : Cx) (tg : Expr) (sl : List Nat) (g : QG) : Prop where
  pg : PG X tg (lfG X.K sl g)
structure DGs (X : Cx) (tgs : List Expr) (sl : List Nat) (g : QGs) : Prop where
  pgs : PGs X tgs (lfGs X.K sl g)
theorem PG.imp {X : Cx} {e : Expr} {t t' : TG} (h : PG X e t) (k : ∀ v σ H Q, t' v σ H Q → t v σ H Q) : PG X e t' := fun pins s σ H v u Q I r hw => h pins s σ H v u Q I r (k v σ H Q hw)
theorem PGs.imp {X : Cx} {e : List Expr} {t t' : TGs} (h : PGs X e t) (k : ∀ v σ H Q, t' v σ H Q → t v σ H Q) : PGs X e t' := fun pins s σ H v u Q I r hw => h pins s σ H v u Q I r (k v σ H Q hw)
section
variable {X : Cx} {pos : Pos}
def gN (i : Nat) : QG := fun d ρ Q => Q (ρ.set i (some (.dat d)))
theorem dg_name {i : Nat} {x : Str} (hN : X.N.Nodup) (hi : X.N[i]? = some x := by rfl) (hx : Loc X.env.scope x := by first | exact .inl rfl | exact .inr rfl) (hf : X.fn x = true ∨ X.env.scope.names.lookup x = some .local := by first | exact .inl rfl | exact .inr rfl) : DG X (.Name x pos) [i] (gN i) := by
  refine ⟨PG.imp (pg_name hN hi hx hf) ?_⟩
  rintro v σ H QQ ⟨tw, H0, F, ρ, d, Q, st, rp, dv, q, k⟩
  exact k _ _ (rp.setD i dv) (Off.set _ _ _) q
def gsNil : QGs := fun ds ρ Q => ds = [] ∧ Q ρ
def gsCons (g : QG) (gs : QGs) : QGs := fun ds ρ Q => ∃ d r, ds = d :: r ∧ g d ρ fun ρ' => gs r ρ' Q
theorem dgs_nil : DGs X [] [] gsNil := by
  refine ⟨PGs.imp pgs_nil ?_⟩
  rintro vs σ H QQ ⟨tw, H0, F, ρ, ds, Q, st, rp, dv, ⟨e, q⟩, k⟩
  subst e
  cases dv
  exact ⟨rfl, k _ _ rp (Off.refl _) q⟩
theorem dgs_cons {e : Expr} {es : List Expr} {s1 s2 : List Nat} {g : QG} {gs : QGs} (h1 : DG X e s1 g) (h2 : DGs X es s2 gs)
    (hs : (assignEach (e :: es) X.env).map (·.2) = assign e X.env :: (assignEach es X.env).map (·.2) := by rfl) : DGs X (e :: es) (s1 ++ s2) (gsCons g gs) := by
  refine ⟨PGs.imp (pgs_cons h1.pg h2.pgs hs) ?_⟩
  rintro vs σ H QQ ⟨tw, H0, F, ρ, ds, Q, st, rp, dv, ⟨d, r, e, q⟩, k⟩
  subst e
  cases dv with
  | cons dv dvs =>
    refine ⟨_, _, rfl, tw, H0, F, ρ, d, _, st, rp, dv, q, fun σ1 ρ1 rp1 o1 q1 => ?_⟩
    exact ⟨tw, H0, F, ρ1, r, Q, st, rp1, dvs, q1, fun σ2 ρ2 rp2 o2 q2 => k σ2 ρ2 rp2 (o1.trans o2) q2⟩
def gT (n : Nat) (gs : QGs) : QG := fun d ρ Q => ∃ ds, d = .tup ds ∧ ds.length = n ∧ gs ds ρ Q
theorem dg_tup {es : List Expr} {k : Nat} {sl : List Nat} {gs : QGs} {n : Nat} (hc : X.calm = true) (h : DGs X es sl gs)
    (hn : (assignEach es X.env).length = n := by rfl) (hst : (assignEach es X.env).findIdx? (·.1) = none := by rfl) : DG X (.Tuple es k pos) sl (gT n gs) := by
  refine ⟨PG.imp (pg_tup hc h.pgs hn hst) ?_⟩
  rintro v σ H QQ ⟨tw, H0, F, ρ, d, Q, st, rp, dv, ⟨ds, e, hl, q⟩, k⟩
  subst e
  cases dv with
  | tup hs ha => exact ⟨_, _, rfl, SqT.of (st.sub _ _ hs), by rw [ha.length]; exact hl, tw, H0, F, ρ, ds, Q, st, rp, ha, q, k⟩
end
def ItOk (K : Frag) (tw : Tw) (J : It) (xs : List D) (F0 G : Hp) : Prop := ∀ F H, Same F0 F → Stt tw F H → Same G H →
  (∀ (i : Nat) (d : D), xs[i]? = some d → J.go i H ∧ ∀ v H', J.yld i H v H' → ∃ F', Stp tw F H F' H' ∧ Dv K tw F' v d) ∧ ∀ i, xs.length ≤ i → J.stop i H
abbrev QI := Ev → (Bool → List D → Prop) → Prop
def noH : Hp := fun _ => none
def oneH (H : Hp) (a : Addr) : Hp := fun b => if b = a then H a else none
theorem oneH_at (H : Hp) (a : Addr) : oneH H a a = H a := if_pos rfl
theorem oneH_off {H : Hp} {a b : Addr} (h : b ≠ a) : oneH H a b = none := if_neg h
theorem oneH_sub (H : Hp) (a : Addr) : Same (oneH H a) H := fun b o e => by
  by_cases hb : b = a
  · rw [hb, oneH_at] at e; rw [hb]; exact e
  · rw [oneH_off hb] at e; cases e
theorem same_noH (H : Hp) : Same noH H := fun b o e => by cases e
def lfI (K : Frag) (q : QI) : TI := fun σ H RR => ∃ tw H0 F ρ Q, Stt tw F H ∧ Rep K tw H0 F H σ ρ ∧ q ρ Q ∧
  ∀ fr xs J G F' H', Stp tw F H F' H' → Rep K tw H0 F' H' σ ρ → ItOk K tw J xs F' G → Same G H' → (∀ b, inTw tw b → G b = none) → (fr = true → G = noH) → xs.length ≤ sizeLine → Q fr xs → RR J H'
structure DI (X : Cx) (tg iter : Expr) (q : QI) : Prop where
  pi : PI X tg iter (lfI X.K q)
theorem PI.map {X : Cx} {tg iter : Expr} {wi wi' : TI} (h : PI X tg iter wi) (k : ∀ σ H R, wi' σ H R → ∃ R', wi σ H R' ∧ ∀ pins s J H', Inv X pins σ H' s → R' J H' → R J H') : PI X tg iter wi' := by
  intro pins s σ H R I hw
  obtain ⟨R', h1, h2⟩ := k σ H R hw
  refine thn (h pins s σ H R' I h1) fun v s1 q => thn q fun itv s2 q2 => ?_
  obtain ⟨it, fp, tn, J, H', e, I', T, t0, f, r⟩ := q2
  exact ⟨it, fp, tn, J, H', e, I', T, t0, f, h2 _ _ _ _ I' r⟩
theorem pi_seq {X : Cx} {tg l : Expr} {tl : TE} (hl : PE X l tl) : PI X tg l (fun σ H R => tl σ H fun x H1 => (∃ a, x = .ref a ∧ (∃ xs, SqL X.K H1 a xs) ∧ R (Itl X.K a) H1) ∨ (∃ a, x = .ref a ∧ (∃ xs, SqT X.K H1 a xs) ∧ R (Itt X.K a) H1) ∨ ∃ y, x = .str y ∧ R (Its y) H1) := by
  intro pins s σ H R I h
  refine thn (hl pins s σ H _ I h) fun v s1 ⟨x, H1, I1, r1, q1⟩ => ?_
  rcases q1 with ⟨a, e, ⟨xs, hq⟩, q⟩ | ⟨a, e, ⟨xs, hq⟩, q⟩ | ⟨y, e, q⟩
  · subst e
    cases r1
    obtain ⟨its, rv, p, hz⟩ := I1.list hq
    refine wpAny_pyIter_list p.isList ?_
    refine ⟨s1.heap.objs.size, [s1.heap.objs.size], _, _, H1, rfl, I1.kept (t' := s1.toks) fun b o e => Heap.get?_push_of_some _ e, turn_list a _, ⟨_, Heap.get?_push_size _ rfl, rfl, rfl⟩, fun b hb => ?_, q⟩
    have e : b = s1.heap.objs.size := by simpa using hb
    subst e
    exact I1.fpOk (Nat.le_refl _) (I1.hok.fresh (Nat.le_refl _))
  · subst e
    cases r1
    obtain ⟨its, rv, p, hz⟩ := I1.tuple hq
    refine wpAny_pyIter_tuple (show s1.heap.IsTuple a its.toArray from p) ?_
    refine ⟨s1.heap.objs.size, [s1.heap.objs.size], _, _, H1, rfl, I1.kept (t' := s1.toks) fun b o e => Heap.get?_push_of_some _ e, turn_tuple a _, ⟨_, Heap.get?_push_size _ rfl, rfl, rfl⟩, fun b hb => ?_, q⟩
    have e : b = s1.heap.objs.size := by simpa using hb
    subst e
    exact I1.fpOk (Nat.le_refl _) (I1.hok.fresh (Nat.le_refl _))
  · subst e
    obtain ⟨t, rfl⟩ := r1
    cases ha : y.cps.all (· < 128)
    · exact wpAny_pyIter_wide ha (pi_one (tk := s1.toks) I1 _ (turn_str _ y t "str_iterator" (.inr rfl)) ⟨_, Heap.get?_push_size _ rfl, rfl, rfl⟩ q)
    · exact wpAny_pyIter_ascii ha (pi_one (tk := s1.toks) I1 _ (turn_str _ y t "str_ascii_iterator" (.inl rfl)) ⟨_, Heap.get?_push_size _ rfl, rfl, rfl⟩ q)
def signs (x : Str) : List D := x.cps.toList.map fun c => D.str ⟨#[c]⟩
def rngD (lo : Int) (n : Nat) : List D := (List.range n).map fun (i : Nat) => D.int (lo + i)
section
variable {K : Frag} {tw : Tw} {F : Hp}
theorem itok_rng (lo : Int) (n : Nat) : ItOk K tw (Itr lo n) (rngD lo n) F noH := by
  intro F1 H1 s0 st _
  refine ⟨fun i d e => ?_, fun i hi => (show n ≤ i by simpa [rngD] using hi)⟩
  have hi : i < n := by
    have := (List.getElem?_eq_some_iff.mp e).1
    simpa [rngD] using this
  refine ⟨hi, ?_⟩
  rintro v H' ⟨rfl, rfl⟩
  have : d = .int (lo + i) := by
    simp [rngD, List.getElem?_map, List.getElem?_range hi] at e
    exact e.symm
  subst this
  exact ⟨F1, Stp.refl st, .int _⟩
theorem itok_str (x : Str) : ItOk K tw (Its x) (signs x) F noH := by
  intro F1 H1 s0 st _
  refine ⟨fun i d e => ?_, fun i hi => (show x.cps.size ≤ i by simpa [signs] using hi)⟩
  unfold signs at e
  rw [List.getElem?_map] at e
  have hi : i < x.cps.size := by
    cases q : x.cps.toList[i]? with
    | none => rw [q] at e; cases e
    | some c => simpa using (List.getElem?_eq_some_iff.mp q).1
  refine ⟨hi, ?_⟩
  rintro v H' ⟨rfl, c, hc, rfl⟩
  have q : x.cps.toList[i]? = some c := by simpa using hc
  rw [q] at e
  cases e
  exact ⟨F1, Stp.refl st, .str _⟩
theorem itok_list {a : Addr} {us : List V} {ds : List D} {G : Hp} (hs : ∀ F1 H1, Same F F1 → Stt tw F1 H1 → Same G H1 → SqL K H1 a us) (hd : DvAll K tw F us ds) : ItOk K tw (Itl K a) ds F G := by
  intro F1 H1 s0 st sG
  have h1 := hs F1 H1 s0 st sG
  refine ⟨fun i d e => ?_, fun i hi => ⟨us, h1, by rw [hd.length]; exact hi⟩⟩
  obtain ⟨v, e1, e2⟩ := hd.get e
  refine ⟨⟨us, v, h1, e1⟩, ?_⟩
  rintro v' H' ⟨rfl, hy⟩
  have := hy us h1
  rw [e1] at this
  cases this
  exact ⟨F1, Stp.refl st, e2.up s0⟩
theorem itok_tup {a : Addr} {us : List V} {ds : List D} (hs : F a = some (.tup us)) (hd : DvAll K tw F us ds) : ItOk K tw (Itt K a) ds F noH := by
  intro F1 H1 s0 st sG
  have h1 : SqT K H1 a us := SqT.of ((s0.trans st.sub) _ _ hs)
  refine ⟨fun i d e => ?_, fun i hi => ⟨us, h1, by rw [hd.length]; exact hi⟩⟩
  obtain ⟨v, e1, e2⟩ := hd.get e
  refine ⟨⟨us, v, h1, e1⟩, ?_⟩
  rintro v' H' ⟨rfl, hy⟩
  have := hy us h1
  rw [e1] at this
  cases this
  exact ⟨F1, Stp.refl st, e2.up s0⟩
end
def R.isF : R → Bool
  | .shal _ => false
  | _ => true
def qSeq (q : QE) : QI := fun ρ Q => q ρ fun r => (∃ ds, (r.d = .lst ds ∨ r.d = .tup ds) ∧ Q r.isF ds) ∨ ∃ x, r.d = .str x ∧ x.length ≤ sizeLine ∧ Q true (signs x)
theorem di_seq {X : Cx} {tg l : Expr} {q : QE} (h : DE X l q) : DI X tg l (qSeq q) := by
  refine ⟨PI.map (pi_seq h.pe) ?_⟩
  rintro σ H RR ⟨tw, H0, F, ρ, Q, st, rp, q, k⟩
  refine ⟨fun J H' => (∃ a us, SqL X.K H' a us ∧ (us.length ≤ sizeLine → RR J H')) ∨ (∃ a us, SqT X.K H' a us ∧ (us.length ≤ sizeLine → RR J H')) ∨ RR J H', ?_, fun pins s J H' I q => ?_⟩
  · refine ⟨tw, H0, F, ρ, _, st, rp, q, fun v H1 p => ?_⟩
    obtain ⟨F1, r, s1, r1, q1⟩ := p
    rcases q1 with ⟨ds, e, q1⟩ | ⟨x, e, hx, q1⟩
    · cases r1 with
      | dat dv =>
        rcases e with e | e
        · cases (show _ = D.lst ds from e)
          cases dv with
          | @lst a us _ hs ha =>
            exact .inl ⟨a, rfl, ⟨us, s1.st.sub.seq hs⟩, .inl ⟨a, us, s1.st.sub.seq hs, fun hl => k true ds (Itl X.K a) noH F1 H1 s1 (rp.step s1) (itok_list (fun F2 H2 s0 st2 _ => (s0.trans st2.sub).seq hs) ha) (same_noH _) (fun _ _ => rfl) (fun _ => rfl) (by rw [← ha.length]; exact hl) q1⟩⟩
        · cases (show _ = D.tup ds from e)
          cases dv with
          | @tup a us _ hs ha =>
            exact .inr (.inl ⟨a, rfl, ⟨us, SqT.of (s1.st.sub _ _ hs)⟩, .inr (.inl ⟨a, us, SqT.of (s1.st.sub _ _ hs), fun hl => k true ds (Itt X.K a) noH F1 H1 s1 (rp.step s1) (itok_tup hs ha) (same_noH _) (fun _ _ => rfl) (fun _ => rfl) (by rw [← ha.length]; exact hl) q1⟩)⟩)
      | @shal a o d h1 h2 h3 =>
        rcases e with e | e
        · cases (show _ = D.lst ds from e)
          cases h3 with
          | @lst us _ ha =>
            refine .inl ⟨a, rfl, ⟨us, .inl h1⟩, .inl ⟨a, us, .inl h1, fun hl => k false ds (Itl X.K a) (oneH H1 a) F1 H1 s1 (rp.step s1) (itok_list (fun F2 H2 s0 st2 sG => .inl ?_) ha) (oneH_sub _ _) (fun b hb => oneH_off (fun z : b = a => h2 (by rw [← z]; exact hb))) (fun z => by cases z) (by rw [← ha.length]; exact hl) q1⟩⟩
            rcases h1 with h1 | ⟨ob, h1⟩
            · exact .inl (sG a _ (by rw [oneH_at]; exact h1))
            · exact .inr ⟨ob, sG a _ (by rw [oneH_at]; exact h1)⟩
        · cases (show _ = D.tup ds from e)
          cases h3
      | @fresh a o d h0 hf h1 h2 h3 =>
        obtain ⟨F2, s2, sm, rp2, dv⟩ := frozen (r := .fresh d) (d := d) rp s1 (.fresh h0 hf h1 h2 h3) rfl
        rcases e with e | e
        · cases (show _ = D.lst ds from e)
          cases dv with
          | @lst a us _ hs ha =>
            exact .inl ⟨a, rfl, ⟨us, s2.st.sub.seq hs⟩, .inl ⟨a, us, s2.st.sub.seq hs, fun hl => k true ds (Itl X.K a) noH F2 H1 s2 rp2 (itok_list (fun F2 H2 s0 st2 _ => (s0.trans st2.sub).seq hs) ha) (same_noH _) (fun _ _ => rfl) (fun _ => rfl) (by rw [← ha.length]; exact hl) q1⟩⟩
        · cases (show _ = D.tup ds from e)
          cases h3
    · have ev := r1.str e
      exact .inr (.inr ⟨x, ev, .inr (.inr (k true (signs x) (Its x) noH F1 H1 s1 (rp.step s1) (itok_str x) (same_noH _) (fun _ _ => rfl) (fun _ => rfl) (by unfold signs; rw [List.length_map]; exact hx) q1))⟩)
  · rcases q with ⟨a, us, h, q⟩ | ⟨a, us, h, q⟩ | q
    · obtain ⟨_, _, _, hz⟩ := I.list h
      exact q hz
    · obtain ⟨_, _, _, hz⟩ := I.tuple h
      exact q hz
    · exact q
def qRng1 (q : QE) : QI := fun ρ Q => q ρ fun r => ∃ j : Int, r.d = .int j ∧ j ≤ 16777216 ∧ -(2 ^ 62) ≤ j ∧ Q true (rngD 0 j.toNat)
section
variable {X : Cx} {tg a b : Expr} {qa qb : QE} {p pos : Pos}
theorem rngD_len (lo : Int) (n : Nat) : (rngD lo n).length = n := by simp [rngD]
theorem di_range1 (hm : X.mg "range" = none) (ha : DE X a qa) (hg : Gl X "range" := by rfl) (hs : starEach [a] X.env = [(false, eval a X.env)] := by rfl) : DI X tg (.Call (.Name "range" p) [a] [] pos) (qRng1 qa) := by
  refine ⟨PI.map (pi_range1 hg hm (pa_cons ha.pe pa_nil hs) hs) ?_⟩
  rintro σ H RR ⟨tw, H0, F, ρ, Q, st, rp, q, k⟩
  refine ⟨RR, ⟨tw, H0, F, ρ, _, st, rp, q, fun v H1 p => ?_⟩, fun _ _ _ _ _ z => z⟩
  obtain ⟨F1, r, s1, r1, j, e, h1, h2, q1⟩ := p
  refine ⟨j, by rw [r1.int e], h2, by omega, ?_⟩
  exact k true _ (Itr 0 j.toNat) noH F1 H1 s1 (rp.step s1) (itok_rng 0 j.toNat) (same_noH _) (fun _ _ => rfl) (fun _ => rfl) (by rw [rngD_len, sizeLine_eq]; omega) q1
end
def loopW (body : D → (Option D → Prop) → Prop) : List D → List D → (List D → Prop) → Prop
  | [], acc, Q => Q acc
  | x :: xs, acc, Q => body x fun o => loopW body xs (acc ++ o.toList) Q
def qLc (qi : QI) (g : QG) (qt : QT) (qe : QE) (vs : List Nat) : QE := fun ρ Q => qi ρ fun _ xs => xs.length ≤ sizeLine →
  loopW (fun x k => g x (wipeE ρ vs) fun ρ2 => qt ρ2 fun b => if b = true then qe ρ2 fun r => ∃ d, r.fz = some d ∧ k (some d) else k none) xs [] fun ys => Q (.fresh (.lst ys))
theorem Stp.mut {tw : Tw} {F H F' H' : Hp} (s : Stp tw F H F' H') {a : Addr} {o : HO} (h : H a = none) (hf : F' a = none) (hn : ¬ inTw tw a) : Stp tw F H F' (upd H' a o) where
  fz := s.fz
  nw := s.nw
  kp := fun b u e n => by rw [upd_ne (ne_of_none e h)]; exact s.kp b u e n
  kt := fun b u e => by rw [upd_ne (ne_of_none e h)]; exact s.kt b u e
  st := ⟨fun b u e => by rw [upd_ne (ne_of_none e hf)]; exact s.st.sub b u e, s.st.off, s.st.town.keep (fun b hb => upd_ne (fun z : b = a => hn (by rw [← z]; exact hb))) fun _ _ e => e⟩
theorem Stt.freeOf {tw : Tw} {F H : Hp} (s : Stt tw F H) {a : Addr} (h : H a = none) : F a = none := by
  cases e : F a with
  | none => rfl
  | some o => have := s.sub a o e; rw [h] at this; cases this
theorem lf_lc {K : Frag} {qi : QI} {g : QG} {qt : QT} {qe : QE} {vs : List Nat} : ∀ σ H Q, lfE K (qLc qi g qt qe vs) σ H Q → tLc (lfI K qi) (lfG K vs g) (lfT K qt) (lfE K qe) vs σ H Q := by
  rintro σ H QQ ⟨tw, H0, F, ρ, Q, st, rp, q, k⟩
  refine ⟨tw, H0, F, ρ, _, st, rp, q, fun fr xs J G F1 H1 s1 rp1 ok sG offG _ hlen q1 => ?_⟩
  have q1 := q1 hlen
  intro D hD
  have nTw := s1.st.notTw hD
  generalize hbody : (fun x k => g x (wipeE ρ vs) fun ρ2 => qt ρ2 fun b => if b = true then qe ρ2 fun r => ∃ d, r.fz = some d ∧ k (some d) else k none : L3.D → (Option L3.D → Prop) → Prop) = body at q1
  refine ⟨fun i m Hi => ∃ Fi acc accD, m = xs.length - i ∧ i ≤ xs.length ∧ acc.length ≤ i ∧ Stp tw F1 H1 Fi Hi ∧ Hi D = some (.lst acc) ∧ Fi D = none ∧ DvAll K tw Fi acc accD ∧ loopW body (xs.drop i) accD fun ys => Q (.fresh (.lst ys)),
    ⟨xs.length, F1, [], [], rfl, Nat.zero_le _, Nat.le_refl _, (Stp.refl s1.st).mut hD (s1.st.freeOf hD) nTw, upd_same, s1.st.freeOf hD, .nil, by simpa using q1⟩, ?_⟩
  rintro i m Hi ⟨Fi, acc, accD, rfl, hi, hacc, si, hDi, hFi, ha, hw⟩
  have okI := ok Fi Hi si.fz si.st (fun b o e => si.kp b o (sG b o e) fun z => by rw [offG b z] at e; cases e)
  by_cases hlt : i < xs.length
  · right
    obtain ⟨go, yl⟩ := okI.1 i xs[i] (List.getElem?_eq_getElem hlt)
    refine ⟨go, fun H' => ∃ Fi acc accD, i + 1 ≤ xs.length ∧ acc.length ≤ i + 1 ∧ Stp tw F1 H1 Fi H' ∧ H' D = some (.lst acc) ∧ Fi D = none ∧ DvAll K tw Fi acc accD ∧ loopW body (xs.drop (i + 1)) accD fun ys => Q (.fresh (.lst ys)), fun H' ⟨Fn, ac, acD, z1, z2, z3, z4, z5, z6, z7⟩ => ⟨xs.length - (i + 1), by omega, Fn, ac, acD, rfl, z1, z2, z3, z4, z5, z6, z7⟩, fun v H2 hy => ?_⟩
    obtain ⟨F2, s2, dv⟩ := yl v H2 hy
    rw [List.drop_eq_getElem_cons hlt] at hw
    have hw : body xs[i] fun o => loopW body (xs.drop (i + 1)) (accD ++ o.toList) fun ys => Q (.fresh (.lst ys)) := hw
    rw [← hbody] at hw
    have hD2 := s2.kp _ _ hDi nTw
    have hF2 := s2.nw _ _ hFi hDi (fun xs z => by cases z)
    refine ⟨tw, H0, F2, wipeE ρ vs, xs[i], _, s2.st, (((rp1.step si).step s2).wipe vs), dv, hw, fun σ2 ρ2 rp2 off2 q2 => ⟨wipe_off off2, ?_⟩⟩
    refine ⟨tw, H0, F2, ρ2, _, s2.st, rp2, q2, fun b F3 H3 s3 q3 => ?_⟩
    have hD3 := s3.kp _ _ hD2 nTw
    have hF3 := s3.nw _ _ hF2 hD2 (fun xs z => by cases z)
    cases b with
    | false =>
      refine ⟨F3, acc, accD, hlt, by omega, (si.trans s2).trans s3, hD3, hF3, (ha.up s2.fz).up s3.fz, ?_⟩
      have q3 : loopW body (xs.drop (i + 1)) (accD ++ (none : Option L3.D).toList) fun ys => Q (.fresh (.lst ys)) := by rw [← hbody]; exact q3
      simpa using q3
    | true =>
      refine ⟨tw, H0, F3, ρ2, _, s3.st, rp2.step s3, q3, fun y H4 p => ?_⟩
      obtain ⟨F4, r, s4, r4, d, e4, q4⟩ := p
      obtain ⟨F5, s5, sm, rp5, dv5⟩ := frozen (rp2.step s3) s4 r4 e4
      have hD4 := s5.kp _ _ hD3 nTw
      have hF5 := s5.nw _ _ hF3 hD3 (fun xs z => by cases z)
      refine ⟨acc, hD4, by omega, F5, acc ++ [y], accD ++ [d], hlt, by rw [List.length_append]; simp; omega, (((si.trans s2).trans s3).trans s5).mut hD hF5 nTw, upd_same, hF5, (((ha.up s2.fz).up s3.fz).up s5.fz).append (.cons dv5 .nil), ?_⟩
      rw [← hbody]
      simpa using q4
  · left
    have e : i = xs.length := by omega
    subst e
    refine ⟨okI.2 _ (Nat.le_refl _), k _ _ ⟨Fi, .fresh (.lst accD), s1.trans si, .fresh (s1.free hD) hFi hDi nTw (.lst ha), ?_⟩⟩
    rw [List.drop_length] at hw
    exact hw
structure DTs (X : Cx) (ifs : List Expr) (q : QT) : Prop where
  pts : PTs X ifs (lfT X.K q)
def qYes : QT := fun _ Q => Q true
section
variable {X : Cx}
theorem PTs.imp {e : List Expr} {t t' : TT} (h : PTs X e t) (k : ∀ σ H Q, t' σ H Q → t σ H Q) : PTs X e t' := fun pins s σ H Q I hw => h pins s σ H Q I (k σ H Q hw)
theorem dts_nil : DTs X [] qYes := by
  refine ⟨PTs.imp pts_nil ?_⟩
  rintro σ H QQ ⟨tw, H0, F, ρ, Q, st, rp, q, k⟩
  exact k true F H (Stp.refl st) q
theorem dts_one {c : Expr} {q : QT} (h : DT X c q) : DTs X [c] q := ⟨pts_one h.pt⟩
theorem de_lc {elt tg iter : Expr} {ifs : List Expr} {scope : Scope} {own : List (Str × Nat)} {pos : Pos} {qi : QI} {g : QG} {qt : QT} {qe : QE} {vs : List Nat} (hc : X.calm = true) (hN : X.N.Nodup) (hi : DI X tg iter qi) (ok : BlkOk X.N X.env.scope scope own)
    (hg : ∀ (s : Shared) (H : Hp) (C : Addr) (cl : List (Str × Addr)) (fp : List Addr), DG (X.blk s H scope (compEnvC scope cl C X.env) fp) tg vs g) (ht : ∀ (s : Shared) (H : Hp) (C : Addr) (cl : List (Str × Addr)) (fp : List Addr), DTs (X.blk s H scope (compEnvC scope cl C X.env) fp) ifs qt)
    (he : ∀ (s : Shared) (H : Hp) (C : Addr) (cl : List (Str × Addr)) (fp : List Addr), DE (X.blk s H scope (compEnvC scope cl C X.env) fp) elt qe) (hv : own.map (·.2) = vs := by rfl) (hs : ∀ x, foldedSetIterable iter X.env x = pure x := by intro _; rfl) :
    DE X (.ListComp elt [⟨tg, iter, ifs, 0⟩] scope pos) (qLc qi g qt qe vs) := by
  subst hv
  exact ⟨PE.imp (pe_lc hc hN hi.pi ok (fun s H C cl fp => (hg s H C cl fp).pg) (fun s H C cl fp => (ht s H C cl fp).pts) (fun s H C cl fp => (he s H C cl fp).pe) hs) lf_lc⟩
end
end L3
set_option Elab.async false
set_option linter.all false
set_option autoImplicit false
set_option maxRecDepth 100000
namespace L3
open PySem PySem.Spec PyProof.Rows L2
structure EndsD where
  nx : Ev → Prop
  rt : D → Prop
  bk : Ev → Prop := fun _ => False
  ct : Ev → Prop := fun _ => False
abbrev QS := EndsD → Ev → Prop
structure EndsOk (K : Frag) (tw : Tw) (F0 H0 F : Hp) (E : EndsD) (DD : Ends) : Prop where
  nx : ∀ F' σ' H' ρ', Same F F' → Stp tw F0 H0 F' H' → Rep K tw H0 F' H' σ' ρ' → E.nx ρ' → DD.nx σ' H'
  rt : ∀ F' v H' d, Stp tw F0 H0 F' H' → Dv K tw F' v d → E.rt d → DD.rt v H'
  bk : ∀ F' σ' H' ρ', Same F F' → Stp tw F0 H0 F' H' → Rep K tw H0 F' H' σ' ρ' → E.bk ρ' → DD.bk σ' H'
  ct : ∀ F' σ' H' ρ', Same F F' → Stp tw F0 H0 F' H' → Rep K tw H0 F' H' σ' ρ' → E.ct ρ' → DD.ct σ' H'
theorem EndsOk.later {K : Frag} {tw : Tw} {F0 H0 F F1 : Hp} {E : EndsD} {DD : Ends} (h : EndsOk K tw F0 H0 F E DD) (s : Same F F1) : EndsOk K tw F0 H0 F1 E DD :=
  ⟨fun F' σ' H' ρ' e => h.nx F' σ' H' ρ' (s.trans e), h.rt, fun F' σ' H' ρ' e => h.bk F' σ' H' ρ' (s.trans e), fun F' σ' H' ρ' e => h.ct F' σ' H' ρ' (s.trans e)⟩
def lfS (K : Frag) (t : QS) : TS := fun DD σ H => ∃ tw F0 H0 F ρ E, Stp tw F0 H0 F H ∧ Rep K tw H0 F H σ ρ ∧ t E ρ ∧ EndsOk K tw F0 H0 F E DD
structure DS (X : Cx) (st : Stmt) (t : QS) : Prop where
  ps : PS X st (lfS X.K t)
structure DSs (X : Cx) (st : List Stmt) (t : QS) : Prop where
  pss : PSs X st (lfS X.K t)
section
variable {X : Cx} {st : Stmt} {rest : List Stmt} {t u : QS} {e : Expr} {q : QE} {pos : Pos}
def sNext : QS := fun E ρ => E.nx ρ
def sSeq (t u : QS) : QS := fun E ρ => t { E with nx := u E } ρ
theorem lf_next {K : Frag} : ∀ DD σ H, lfS K sNext DD σ H → tNext DD σ H := by
  rintro DD σ H ⟨tw, F0, H0, F, ρ, E, sp, rp, q, k⟩
  exact k.nx F σ H ρ (Same.refl _) sp rp q
theorem dss_nil : DSs X [] sNext := ⟨PSs.imp pss_nil lf_next⟩
theorem dss_cons (h1 : DS X st t) (h2 : DSs X rest u) : DSs X (st :: rest) (sSeq t u) := by
  refine ⟨PSs.imp (pss_cons h1.ps h2.pss) ?_⟩
  rintro DD σ H ⟨tw, F0, H0, F, ρ, E, sp, rp, q, k⟩
  exact ⟨tw, F0, H0, F, ρ, _, sp, rp, q, ⟨fun F' σ' H' ρ' e s' r' h => ⟨tw, F0, H0, F', ρ', E, s', r', h, k.later e⟩, k.rt, k.bk, k.ct⟩⟩
theorem dss_one (h1 : DS X st t) : DSs X [st] t := ⟨pss_one h1.ps⟩
def sRet (q : QE) : QS := fun E ρ => q ρ fun r => ∃ d, r.fz = some d ∧ E.rt d
theorem ds_ret (he : DE X e q) : DS X (.Return (some e) pos) (sRet q) := by
  refine ⟨PS.imp (ps_ret he.pe) ?_⟩
  rintro DD σ H ⟨tw, F0, H0, F, ρ, E, sp, rp, q, k⟩
  refine ⟨tw, H0, F, ρ, _, sp.st, rp, q, fun v H1 p => ?_⟩
  obtain ⟨F1, r, s1, r1, d, e1, q1⟩ := p
  obtain ⟨F2, s2, sm, rp2, dv⟩ := frozen rp s1 r1 e1
  exact k.rt F2 v H1 d (sp.trans s2) dv q1
def sIf (c : QT) (t u : QS) : QS := fun E ρ => c ρ fun b => if b = true then t E ρ else u E ρ
theorem ds_if {c : Expr} {a b : List Stmt} {qc : QT} (hc : DT X c qc) (ha : DSs X a t) (hb : DSs X b u) : DS X (.If c a b pos) (sIf qc t u) := by
  refine ⟨PS.imp (ps_if hc.pt ha.pss hb.pss) ?_⟩
  rintro DD σ H ⟨tw, F0, H0, F, ρ, E, sp, rp, q, k⟩
  refine ⟨tw, H0, F, ρ, _, sp.st, rp, q, fun b F1 H1 s1 q1 => ?_⟩
  cases b with
  | true => exact ⟨tw, F0, H0, F1, ρ, E, sp.trans s1, rp.step s1, q1, k.later s1.fz⟩
  | false => exact ⟨tw, F0, H0, F1, ρ, E, sp.trans s1, rp.step s1, q1, k.later s1.fz⟩
def R.own (m : Bool) (r : R) : Option R := match m, r with
  | true, .fresh d => some (.fresh d)
  | true, _ => none
  | false, r => r.fz.map .dat
theorem Rep.setO {K : Frag} {tw : Tw} {H0 F H : Hp} {σ : St} {ρ : Ev} (h : Rep K tw H0 F H σ ρ) {a : Addr} {d : D} (i : Nat) (hv : Rv K tw H0 F H (.ref a) (.fresh d)) (new : ∀ (j : Nat) (r : R), ρ[j]? = some (some r) → (∀ d', r ≠ .dat d') → σ[j]? ≠ some (some (.ref a))) :
    Rep K tw H0 F H (σ.set i (some (.ref a))) (ρ.set i (some (.fresh d))) where
  len := by rw [List.length_set, List.length_set, h.len]
  dom := h.dom
  get := fun j r e => by
    by_cases hij : i = j
    · subst hij
      by_cases hl : i < ρ.length
      · rw [List.getElem?_set_self hl] at e
        cases e
        exact ⟨_, List.getElem?_set_self (by rw [← h.len]; exact hl), hv⟩
      · rw [List.getElem?_eq_none (by rw [List.length_set]; omega)] at e
        cases e
    · rw [List.getElem?_set_ne hij] at e
      obtain ⟨v', e1, e2⟩ := h.get j r e
      exact ⟨v', by rw [List.getElem?_set_ne hij]; exact e1, e2⟩
  sep := fun j k b d' r h1 h2 hnd h3 h4 => by
    by_cases hj : j = i
    · by_cases hk : k = i
      · rw [hj, hk]
      · exfalso
        subst hj
        have hl : j < σ.length := by
          have z := (List.getElem?_eq_some_iff.mp h3).1
          rw [List.length_set] at z; exact z
        rw [List.getElem?_set_self hl] at h3
        cases h3
        rw [List.getElem?_set_ne (Ne.symm hk)] at h2 h4
        exact new k _ h2 hnd h4
    · by_cases hk : k = i
      · exfalso
        subst hk
        have hl : k < σ.length := by
          have z := (List.getElem?_eq_some_iff.mp h4).1
          rw [List.length_set] at z; exact z
        rw [List.getElem?_set_self hl] at h4
        cases h4
        rw [List.getElem?_set_ne (Ne.symm hj)] at h1 h3
        exact new j _ h1 (fun _ z => by cases z) h3
      · rw [List.getElem?_set_ne (Ne.symm hj)] at h1 h3
        rw [List.getElem?_set_ne (Ne.symm hk)] at h2 h4
        exact h.sep j k b _ _ h1 h2 hnd h3 h4
theorem Rep.store {K : Frag} {tw : Tw} {H0 F H F1 H1 : Hp} {σ : St} {ρ : Ev} {m : Bool} {v : V} {r r' : R} (rp : Rep K tw H0 F H σ ρ) (s1 : Stp tw F H F1 H1) (h : Rv K tw H F1 H1 v r) (e : r.own m = some r') (i : Nat) :
    ∃ F2, Stp tw F H F2 H1 ∧ Same F1 F2 ∧ Rep K tw H0 F2 H1 (σ.set i (some v)) (ρ.set i (some r')) := by
  cases m with
  | false =>
    have e : r.fz.map R.dat = some r' := e
    cases ef : r.fz with
    | none => rw [ef] at e; cases e
    | some d =>
      rw [ef] at e
      cases e
      obtain ⟨F2, s2, sm, rp2, dv⟩ := frozen rp s1 h ef
      exact ⟨F2, s2, sm, rp2.setD i dv⟩
  | true =>
    cases r with
    | dat d => cases e
    | shal d => cases e
    | fresh d =>
      cases e
      cases h with
      | @fresh a o _ h0 hf h1 h2 h3 =>
        refine ⟨F1, s1, Same.refl _, (rp.step s1).setO i (.fresh ?_ hf h1 h2 h3) fun j e ej hnd z => ?_⟩
        · cases q : H0 a with
          | none => rfl
          | some o' =>
            obtain ⟨o2, q2⟩ := rp.dom a o' q
            rw [q2] at h0; cases h0
        · obtain ⟨v', e1, e2⟩ := rp.get j _ ej
          rw [z] at e1
          cases e1
          cases e2 with
          | dat _ => exact hnd _ rfl
          | shal h1' _ _ =>
            rcases h1' with h1' | ⟨ob, h1'⟩
            · rw [h1'] at h0; cases h0
            · rw [h1'] at h0; cases h0
          | fresh _ _ h1' _ _ => rw [h1'] at h0; cases h0
def sSet (m : Bool) (i : Nat) (q : QE) : QS := fun E ρ => q ρ fun r => ∃ r', r.own m = some r' ∧ E.nx (ρ.set i (some r'))
theorem lf_set {K : Frag} {m : Bool} {i : Nat} : ∀ DD σ H, lfS K (sSet m i q) DD σ H → tAsg (lfE K q) (gName i) DD σ H := by
  rintro DD σ H ⟨tw, F0, H0, F, ρ, E, sp, rp, q, k⟩
  refine ⟨tw, H0, F, ρ, _, sp.st, rp, q, fun v H1 p => ?_⟩
  obtain ⟨F1, r, s1, r1, r', e1, q1⟩ := p
  obtain ⟨F2, s2, sm, rp2⟩ := rp.store s1 r1 e1 i
  exact k.nx F2 _ H1 _ s2.fz (sp.trans s2) rp2 q1
theorem ds_set (m : Bool) {i : Nat} {x : Str} {pos' : Pos} (hN : X.N.Nodup) (he : DE X e q) (hi : X.N[i]? = some x := by rfl) (hx : Loc X.env.scope x := by first | exact .inl rfl | exact .inr rfl) (hs : swapsWith e (some (.Name x pos')) pos.line X.env = pure false := by rfl)
    (hf : X.fn x = true ∨ X.env.scope.names.lookup x = some .local := by first | exact .inl rfl | exact .inr rfl) : DS X (.Assign [.Name x pos'] e pos) (sSet m i q) := ⟨PS.imp (ps_set hN hi hx he.pe hs hf) lf_set⟩
def sPar (m n : Bool) (i j : Nat) (qa qb : QE) : QS := fun E ρ => qa ρ fun x => ∃ x', x.own m = some x' ∧ qb ρ fun y => ∃ y', y.own n = some y' ∧ E.nx ((ρ.set i (some x')).set j (some y'))
theorem ds_par (m n : Bool) {i j : Nat} {x y : Str} {a b : Expr} {qa qb : QE} {px py pt pt2 : Pos} {kt k2 : Nat} (hc : X.calm = true) (hN : X.N.Nodup) (ha : DE X a qa) (hb : DE X b qb)
    (hw : swappedStores [.Tuple [.Name x px, .Name y py] kt pt] (.Tuple [a, b] k2 pt2) X.env = pure (some [x, y]) := by rfl)
    (hij : i ≠ j := by decide) (hi : X.N[i]? = some x := by rfl) (hj : X.N[j]? = some y := by rfl)
    (hx : X.env.scope.names.lookup x = some .local := by rfl) (hy : X.env.scope.names.lookup y = some .local := by rfl)
    (hs : swapsWithSole [.Tuple [.Name x px, .Name y py] kt pt] (.Tuple [a, b] k2 pt2) pos.line X.env = pure false := by rfl)
    (hs1 : starEach [a, b] X.env = (false, eval a X.env) :: starEach [b] X.env := by rfl) (hs2 : starEach [b] X.env = (false, eval b X.env) :: starEach [] X.env := by rfl) :
    DS X (.Assign [.Tuple [.Name x px, .Name y py] kt pt] (.Tuple [a, b] k2 pt2) pos) (sPar m n i j qa qb) := by
  refine ⟨PS.imp (ps_par hc hN hi hj hij hx hy (pa_cons ha.pe (pa_cons hb.pe pa_nil hs2) hs1) hw hs) ?_⟩
  rintro DD σ H ⟨tw, F0, H0, F, ρ, E, sp, rp, q, k⟩
  refine ⟨tw, H0, F, ρ, _, sp.st, rp, q, fun v H1 p => ?_⟩
  obtain ⟨F1, r, s1, r1, r', e1, q1⟩ := p
  obtain ⟨F2, s2, sm, rp2⟩ := rp.store s1 r1 e1 i
  have rp0 : Rep X.K tw H0 F2 H1 σ ρ := by
    refine (rp.step s1).fz sm fun i' d a e2 e3 e4 => ?_
    obtain ⟨v', e5, e6⟩ := rp.get i' _ e2
    rw [e3] at e5
    cases e5
    cases e6 with
    | fresh g0 gf g1 g2 g3 => exact s2.nw a _ gf g1 g3.noTup
  refine ⟨tw, H0, F2, ρ, _, s2.st, rp0, q1, fun w H2 p => ?_⟩
  obtain ⟨F3, r3, s3, r3v, r3', e3, q3⟩ := p
  refine ⟨v, w, rfl, ?_⟩
  obtain ⟨F4, s4, sm4, rp4⟩ := rp2.store s3 r3v e3 j
  exact k.nx F4 _ H2 _ (s2.fz.trans s4.fz) ((sp.trans s2).trans s4) rp4 q3
def forW (g : QG) (tb : QS) : List D → QS
  | [], E, ρ => E.nx ρ
  | x :: xs, E, ρ => g x ρ fun ρ' => tb ⟨fun ρ2 => forW g tb xs E ρ2, E.rt, E.nx, fun ρ2 => forW g tb xs E ρ2⟩ ρ'
def sFor (qi : QI) (g : QG) (tb : QS) : QS := fun E ρ => qi ρ fun fr xs => fr = true ∧ (xs.length ≤ sizeLine → forW g tb xs E ρ)
theorem ds_for {tg iter : Expr} {body : List Stmt} {qi : QI} {g : QG} {tb : QS} {sl : List Nat} (hp : PassesOwn (model X.prog X.w) X.A X.env X.xe) (hc : X.calm = true) (hi : DI X tg iter qi) (hg : DG X tg sl g) (hb : DSs X body tb)
    (hs : ∀ x, foldedSetIterable iter X.env x = pure x := by intro _; rfl) : DS X (.For tg iter body [] pos) (sFor qi g tb) := by
  refine ⟨PS.imp (ps_for hp hc hi.pi hg.pg hb.pss hs) ?_⟩
  rintro DD σ H ⟨tw, F0, H0, F, ρ, E, sp, rp, q, k⟩
  refine ⟨tw, H0, F, ρ, _, sp.st, rp, q, fun fr xs J G F1 H1 s1 rp1 ok sG offG hfr hlen q1 => ?_⟩
  obtain ⟨hfr', q1⟩ := q1
  have eG := hfr hfr'
  subst eG
  have q1 := q1 hlen
  refine ⟨fun i m σi Hi => ∃ Fi ρi, m = xs.length - i ∧ i ≤ xs.length ∧ Same F1 Fi ∧ Stp tw F0 H0 Fi Hi ∧ Rep X.K tw H0 Fi Hi σi ρi ∧ forW g tb (xs.drop i) E ρi,
    ⟨xs.length, F1, ρ, rfl, Nat.zero_le _, Same.refl _, sp.trans s1, rp1, q1⟩, ?_⟩
  rintro i m σi Hi ⟨Fi, ρi, rfl, hi, sm, si, rpi, hw⟩
  have okI := ok Fi Hi sm si.st (same_noH _)
  by_cases hlt : i < xs.length
  · right
    obtain ⟨go, yl⟩ := okI.1 i xs[i] (List.getElem?_eq_getElem hlt)
    refine ⟨go, fun σ' H' => ∃ Fi ρi, i + 1 ≤ xs.length ∧ Same F1 Fi ∧ Stp tw F0 H0 Fi H' ∧ Rep X.K tw H0 Fi H' σ' ρi ∧ forW g tb (xs.drop (i + 1)) E ρi, fun σ' H' ⟨Fn, ρn, z1, z2, z3, z4, z5⟩ => ⟨xs.length - (i + 1), by omega, Fn, ρn, rfl, z1, z2, z3, z4, z5⟩, fun v H2 hy => ?_⟩
    obtain ⟨F2, s2, dv⟩ := yl v H2 hy
    rw [List.drop_eq_getElem_cons hlt] at hw
    have hw : g xs[i] ρi fun ρ' => tb ⟨fun ρ2 => forW g tb (xs.drop (i + 1)) E ρ2, E.rt, E.nx, fun ρ2 => forW g tb (xs.drop (i + 1)) E ρ2⟩ ρ' := hw
    refine ⟨tw, H0, F2, ρi, xs[i], _, s2.st, rpi.step s2, dv, hw, fun σ2 ρ2 rp2 _ q2 => ?_⟩
    refine ⟨tw, F0, H0, F2, ρ2, _, si.trans s2, rp2, q2, ⟨fun F' σ' H' ρ' e s' r' h => ⟨F', ρ', hlt, (sm.trans s2.fz).trans e, s', r', h⟩, k.rt, fun F' σ' H' ρ' e s' r' h => k.nx F' σ' H' ρ' (((s1.fz.trans sm).trans s2.fz).trans e) s' r' h, fun F' σ' H' ρ' e s' r' h => ⟨F', ρ', hlt, (sm.trans s2.fz).trans e, s', r', h⟩⟩⟩
  · left
    have e : i = xs.length := by omega
    subst e
    rw [List.drop_length] at hw
    exact ⟨okI.2 _ (Nat.le_refl _), k.nx Fi σi Hi ρi (s1.fz.trans sm) si rpi hw⟩
theorem Rep.put {K : Frag} {tw : Tw} {F0 H0 F H : Hp} {σ : St} {ρ : Ev} {i : Nat} {a : Addr} {d d' : D} {o : HO} (rp : Rep K tw H0 F H σ ρ) (sp : Stp tw F0 H0 F H) (e : ρ[i]? = some (some (.fresh d))) (ev : σ[i]? = some (some (.ref a))) (hc : Cont K tw F o d') :
    Stp tw F0 H0 F (upd H a o) ∧ Rep K tw H0 F (upd H a o) σ (ρ.set i (some (.fresh d'))) := by
  obtain ⟨v, e1, e2⟩ := rp.get i _ e
  rw [ev] at e1
  cases e1
  cases e2 with
  | fresh h0 hf h1 h2 h3 =>
    have hl : i < ρ.length := (List.getElem?_eq_some_iff.mp e).1
    refine ⟨sp.mut h0 hf h2, ⟨by rw [List.length_set]; exact rp.len, fun b ob q => ?_, fun j r q => ?_, fun j k b d1 d2 q1 q2 hnd q3 q4 => ?_⟩⟩
    · rw [upd_ne (ne_of_none q h0)]; exact rp.dom b ob q
    · by_cases hij : i = j
      · subst hij
        rw [List.getElem?_set_self hl] at q
        cases q
        exact ⟨_, ev, .fresh h0 hf upd_same h2 hc⟩
      · rw [List.getElem?_set_ne hij] at q
        obtain ⟨v', q1, q2⟩ := rp.get j r q
        refine ⟨v', q1, ?_⟩
        cases q2 with
        | dat z => exact .dat z
        | @shal a' o' d'' g1 g2 g3 =>
          have ha : a' ≠ a := fun z => hij (rp.sep i j a _ _ e q (fun _ z => by cases z) ev (by rw [q1, z]))
          refine .shal ?_ g2 g3
          rcases g1 with g1 | ⟨ob, g1⟩
          · exact .inl (by rw [upd_ne ha]; exact g1)
          · exact .inr ⟨ob, by rw [upd_ne ha]; exact g1⟩
        | @fresh a' o' d'' g0 gf g1 g2 g3 =>
          have ha : a' ≠ a := fun z => hij (rp.sep i j a _ _ e q (fun _ z => by cases z) ev (by rw [q1, z]))
          exact .fresh g0 gf (by rw [upd_ne ha]; exact g1) g2 g3
    · have z1 : ∃ y, ρ[j]? = some (some (.fresh y)) := by
        by_cases hij : i = j
        · subst hij; exact ⟨d, e⟩
        · rw [List.getElem?_set_ne hij] at q1; exact ⟨d1, q1⟩
      have z2 : ∃ y, ρ[k]? = some (some y) ∧ ∀ d', y ≠ .dat d' := by
        by_cases hij : i = k
        · subst hij; exact ⟨_, e, fun _ z => by cases z⟩
        · rw [List.getElem?_set_ne hij] at q2; exact ⟨_, q2, hnd⟩
      obtain ⟨y1, z1⟩ := z1
      obtain ⟨y2, z2, z3⟩ := z2
      exact rp.sep j k b y1 y2 z1 z2 z3 q3 q4
end
end L3
set_option Elab.async false
set_option linter.all false
set_option autoImplicit false
set_option maxRecDepth 100000
namespace L3
open PySem PySem.Spec PyProof.Rows L2
section
variable {X : Cx} {e : Expr} {q : QE} {pos apos cpos : Pos}
end
def startD (N : List Str) (ds : List D) : Ev := ds.map (fun d => some (.dat d)) ++ List.replicate (N.length - ds.length) none
theorem rep_start {K : Frag} {tw : Tw} {F H : Hp} {N : List Str} {vs : List V} {ds : List D} (st : Stt tw F H) (a : DvAll K tw F vs ds) : Rep K tw H F H (L2.start N vs) (startD N ds) where
  len := by simp [L2.start, startD, a.length]
  dom := fun b o e => ⟨o, e⟩
  get := fun i r e => by
    unfold startD at e
    have hi : i < ds.length := by
      by_cases hi : i < ds.length
      · exact hi
      · rw [List.getElem?_append_right (by simpa using hi), List.getElem?_replicate] at e
        split at e <;> cases e
    rw [List.getElem?_append_left (by simpa using hi), List.getElem?_map, List.getElem?_eq_getElem hi] at e
    cases e
    obtain ⟨v, e1, e2⟩ := a.get (List.getElem?_eq_getElem hi)
    refine ⟨v, ?_, .dat e2⟩
    unfold L2.start
    rw [List.getElem?_append_left (by simpa [a.length] using hi), List.getElem?_map, e1]
    rfl
  sep := fun i j a' d r h1 => by
    exfalso
    unfold startD at h1
    by_cases hi : i < ds.length
    · rw [List.getElem?_append_left (by simpa using hi), List.getElem?_map, List.getElem?_eq_getElem hi] at h1
      cases h1
    · rw [List.getElem?_append_right (by simpa using hi), List.getElem?_replicate] at h1
      split at h1 <;> cases h1
structure FunG (K : Frag) (x qual : Str) (st : Stmt) (f : Addr) (fd : FuncData) (dV : Value) : Prop where
  ex : ∃ (oc : Value) (od : Option Addr) (kV doc pm : Value) (an : Option Addr) (cdv ct : Value) (osl : Array (Option Value)),
    fd = PySem.W.fnOf x qual (defArgs st) (defBody st) (defScope st) dV kV doc pm an cdv ct ∧ K.lookup f = some ⟨oc, od, .func fd, osl⟩ ∧ PySem.W.codeIn K cdv qual = true
  kp : PySem.W.keepIn K (.ref f) = true
section
variable {P : Program} {w : World} {K : Frag} {mg : Str → Option Value} {base : Heap}
theorem FunG.okD {x qual : Str} {st : Stmt} {f : Addr} {fd : FuncData} {dV : Value} {N ps : List Str} {k : Nat} {c : CD} (F : FunG K x qual st f fd dV) (S : FnScope N ps (defScope st)) (len : ∀ ds Q, c ds Q → ds.length = ps.length)
    (hbody : ∀ (cdv : Value) (A : Around) (outer : List Env) (s : Shared) (H : Hp) (E : XK), Room k (A.deeper (envOfC qual (defScope st) s.heap.objs.size f cdv)) →
      ∃ t, DSs (cxOf CX0 P w K mg base N qual (defScope st) f cdv A outer s H E).nox (defBody st) t ∧ ∀ ds QD, c ds QD → t ⟨fun _ => QD .non, QD, fun _ => False, fun _ => False⟩ (startD N ds)) : FnOk P w K mg base CX0 (k + 1) f fd ps (spD K c) := by
  obtain ⟨oc, od, kV, doc, pm, an, cdv, ct, osl, rfl, lk, hcd⟩ := F.ex
  refine fn_of lk hcd S (fun vs H Q E h => ?_) fun A outer s H vs Q E hr h => ?_
  · obtain ⟨tw, F, ds, QD, st, dv, hc, _⟩ := h
    rw [dv.length]; exact len ds QD hc
  · obtain ⟨tw, F, ds, QD, st, dv, hc, kk⟩ := h
    obtain ⟨t, ht, hq⟩ := hbody cdv A outer s H E hr
    refine ⟨_, ht.pss.nox, tw, F, H, F, startD N ds, _, Stp.refl st, rep_start st dv, hq ds QD hc, ⟨fun F' σ' H' ρ' _ s' _ z => kk _ _ _ _ s' .non z, fun F' v H' d s' dd z => kk _ _ _ _ s' dd z, fun _ _ _ _ _ _ _ z => z.elim, fun _ _ _ _ _ _ _ z => z.elim⟩⟩
theorem FunG.binds {x qual : Str} {st : Stmt} {f : Addr} {fd : FuncData} {ps : List Str} (F : FunG K x qual st f fd .none)
    (h : ∀ (kV doc pm : Value) (an : Option Addr) (cdv ct : Value) (us : List Value), us.length = ps.length → bindArgs (PySem.W.fnOf x qual (defArgs st) (defBody st) (defScope st) .none kV doc pm an cdv ct) ⟨us, []⟩ = pure (ps.zip us)) : Binds K fd ps [] := by
  obtain ⟨oc, od, kV, doc, pm, an, cdv, ct, osl, rfl, lk, hcd⟩ := F.ex
  exact .all (h kV doc pm an cdv ct)
theorem fun_mkG {x qual : Str} {st : Stmt} {f : Addr} {oc dV : Value} {od an : Option Addr} {osl : Array (Option Value)} {kV doc pm cdv ct : Value} (l : K.lookup f = some ⟨oc, od, .func (PySem.W.fnOf x qual (defArgs st) (defBody st) (defScope st) dV kV doc pm an cdv ct), osl⟩)
    (c : PySem.W.codeIn K cdv qual = true) (k : PySem.W.keepIn K (.ref f) = true) : FunG K x qual st f (PySem.W.fnOf x qual (defArgs st) (defBody st) (defScope st) dV kV doc pm an cdv ct) dV := ⟨⟨oc, od, kV, doc, pm, an, cdv, ct, osl, rfl, l, c⟩, k⟩
end
section
variable {X : Cx} {k : Nat} {f : Addr} {fd : FuncData} {ps ks : List Str} {c : CD} {x : Str} {p pos kpos : Pos} {e e2 : Expr} {es : List Expr} {qs : QA} {q2 : QE} {nm : Option Str} {g : List Value → List Value → List Value} {gV : List V → List V → List V} {gD : List D → List D → List D}
end
mutual
def D.py : D → PyData
  | .non => .none
  | .bl b => .bool b
  | .int i => .int i
  | .str x => .str x
  | .tup ds => .tuple (pyAll ds)
  | .lst ds => .list (pyAll ds)
  | .dT _ _ => .dict []
  | .dK _ _ => .dict []
  | .town => .dict []
  | .tab _ => .dict []
def pyAll : List D → List PyData
  | [] => []
  | d :: ds => d.py :: pyAll ds
end
section
variable {K : Frag} {tw : Tw} {F H : Hp}
mutual
theorem Dv.dp (s : Same F H) : ∀ {v : V} {d : D}, Dv K tw F v d → d.py.canLay0 = true → Dp K H v d.py
  | _, _, .non, _ => .non
  | _, _, .bl b, _ => .bl b
  | _, _, .int i, _ => .int i
  | _, _, .str x, _ => .str x
  | _, _, .lst h a, c => .lst (s.seq h) (DvAll.dp s a (by simpa [D.py, PyData.canLay0] using c))
  | _, _, .tup h a, c => .tup (SqT.of (s _ _ h)) (DvAll.dp s a (by simpa [D.py, PyData.canLay0] using c))
  | _, _, .dT _ _ _, c => by simp [D.py, PyData.canLay0] at c
  | _, _, .dK _ _ _, c => by simp [D.py, PyData.canLay0] at c
  | _, _, .town _, c => by simp [D.py, PyData.canLay0] at c
  | _, _, .tab _, c => by simp [D.py, PyData.canLay0] at c
theorem DvAll.dp (s : Same F H) : ∀ {vs : List V} {ds : List D}, DvAll K tw F vs ds → PyData.canLayAll0 (pyAll ds) = true → DpAll K H vs (pyAll ds)
  | _, _, .nil, _ => .nil
  | _, _, .cons h t, c => by
    simp only [pyAll, PyData.canLayAll0, Bool.and_eq_true] at c
    exact .cons (Dv.dp s h c.1) (DvAll.dp s t c.2)
end
theorem Rv.dp {Hs : Hp} {v : V} {r : R} (h : Rv K tw Hs F H v r) (s : Same F H) (c : r.d.py.canLay0 = true) : Dp K H v r.d.py := by
  cases h with
  | dat h => exact h.dp s c
  | shal h1 h2 h3 =>
    cases h3 with
    | lst a => exact .lst (.inl h1) (a.dp s (by simpa [R.d, D.py, PyData.canLay0] using c))
    | dT _ _ => simp [R.d, D.py, PyData.canLay0] at c
    | dK _ _ => simp [R.d, D.py, PyData.canLay0] at c
  | fresh h0 hf h1 h2 h3 =>
    cases h3 with
    | lst a => exact .lst (SqL.of h1) (a.dp s (by simpa [R.d, D.py, PyData.canLay0] using c))
    | dT _ _ => simp [R.d, D.py, PyData.canLay0] at c
    | dK _ _ => simp [R.d, D.py, PyData.canLay0] at c
end
def D.ok (d : D) : Prop := SeqAt.shaped d.py = true
theorem D.ok.lay {d : D} (h : d.ok) : d.py.canLay0 = true := SeqAt.canLay_of_shaped h
def eqD (d e : D) : Bool := PyData.eqv d.py e.py
def dEq : RD2 := fun x y Q => x.d.ok ∧ y.d.ok ∧ Q (.dat (.bl (eqD x.d y.d)))
def dNe : RD2 := fun x y Q => x.d.ok ∧ y.d.ok ∧ Q (.dat (.bl (!eqD x.d y.d)))
theorem od_eq {K : Frag} : OpD K (rEqD K) dEq := by
  rintro tw Hs F H v u x y Q QQ st r1 r2 ⟨h1, h2, q⟩ k
  exact ⟨_, _, r1.dp st.sub h1.lay, r2.dp st.sub h2.lay, h1, h2, k _ _ (post_here st (.dat (.bl _)) q)⟩
theorem od_ne {K : Frag} : OpD K (rNeD K) dNe := by
  rintro tw Hs F H v u x y Q QQ st r1 r2 ⟨h1, h2, q⟩ k
  exact ⟨_, _, r1.dp st.sub h1.lay, r2.dp st.sub h2.lay, h1, h2, k _ _ (post_here st (.dat (.bl _)) q)⟩
section
variable {X : Cx} {a b : Expr} {qa qb : QE} {pos : Pos} {k : Nat}
theorem de_eq (hr : Room k X.A) (ha : DE X a qa) (hb : DE X b qb) : DE X (.Compare a [.Eq] [b] pos) (qOp dEq qa qb) := de_cmp (op_eqD hr.units) od_eq ha hb (nomark _)
theorem dt_eq (hr : Room k X.A) (ha : DE X a qa) (hb : DE X b qb) : DT X (.Compare a [.Eq] [b] pos) (qB (qOp dEq qa qb)) := dt_cmp (op_eqD hr.units) od_eq ha hb (nomark _)
theorem dt_ne (hr : Room k X.A) (ha : DE X a qa) (hb : DE X b qb) : DT X (.Compare a [.NotEq] [b] pos) (qB (qOp dNe qa qb)) := dt_cmp (op_neD hr.units) od_ne ha hb (nomark _)
def dIx : RD2 := fun x y Q => ∃ i, y.d = .int i ∧ ((∃ ds d, (x.d = .lst ds ∨ x.d = .tup ds) ∧ atI ds i = some d ∧ Q (.dat d)) ∨ ∃ z c, x.d = .str z ∧ z.length ≤ sizeLine ∧ atI z.cps.toList i = some c ∧ Q (.dat (.str ⟨#[c]⟩)))
theorem atI_len {α β : Type} {xs : List α} {ys : List β} {i : Int} {d : β} (hl : xs.length = ys.length) (h : atI ys i = some d) : ∃ j : Nat, ys[j]? = some d ∧ ∀ v, xs[j]? = some v → atI xs i = some v := by
  unfold atI at h ⊢
  cases e : ixN ys.length i with
  | none => rw [e] at h; cases h
  | some j =>
    rw [e] at h
    exact ⟨j, h, fun v hv => by rw [hl, e]; exact hv⟩
theorem od_ix {K : Frag} : OpD K (rIx K) dIx := by
  rintro tw Hs F H v u x y Q QQ st r1 r2 ⟨i, ei, h⟩ k
  have eu := r2.int ei
  rcases h with ⟨ds, d, e | e, h, q⟩ | ⟨z, c, e, hz, h, q⟩
  · obtain ⟨a, us, rfl, h1, h2⟩ := r1.lst st.sub e
    obtain ⟨j, h3, h4⟩ := atI_len h2.length h
    obtain ⟨w, h5, h6⟩ := h2.get h3
    exact .inl ⟨a, us, i, w, rfl, eu, h1, h4 w h5, k _ _ (post_here st (.dat h6) q)⟩
  · obtain ⟨a, us, rfl, h1, h2⟩ := r1.tup e
    obtain ⟨j, h3, h4⟩ := atI_len h2.length h
    obtain ⟨w, h5, h6⟩ := h2.get h3
    exact .inr (.inl ⟨a, us, i, w, rfl, eu, SqT.of (st.sub _ _ h1), h4 w h5, k _ _ (post_here st (.dat h6) q)⟩)
  · exact .inr (.inr ⟨z, i, c, r1.str e, eu, hz, h, k _ _ (post_here st (.dat (.str _)) q)⟩)
theorem de_ix (ha : DE X a qa) (hb : DE X b qb) (hs : PlainIx b := by intro _ _; rfl) : DE X (.Subscript a b pos) (qOp dIx qa qb) := ⟨PE.imp (pe_ix ix_seq ha.pe hb.pe hs) (lf_op od_ix)⟩
end
end L3
set_option Elab.async false
set_option linter.all false
set_option autoImplicit false
set_option maxRecDepth 100000
namespace L3
open PySem PySem.Spec PyProof.Rows L2
abbrev QO := Ev → (Option Int → Prop) → Prop
def lfO (K : Frag) (q : QO) : TO := fun σ H QQ => ∃ tw H0 F ρ Q, Stt tw F H ∧ Rep K tw H0 F H σ ρ ∧ q ρ Q ∧ ∀ o F' H', Stp tw F H F' H' → Q o → QQ o H'
structure DO (X : Cx) (e : Option Expr) (q : QO) : Prop where
  po : PO X e (lfO X.K q)
def qNoP : QO := fun _ Q => Q none
def qPart (q : QE) : QO := fun ρ Q => q ρ fun r => ∃ i, r.d = .int i ∧ Q (some i)
def cutD (xs : List D) (lo hi : Option Int) : List D := (xs.drop (HT.sIx xs.length 0 lo)).take (HT.sIx xs.length xs.length hi - HT.sIx xs.length 0 lo)
section
variable {X : Cx} {e : Expr} {q : QE} {ql qh : QO} {lo hi : Option Expr} {pos p2 : Pos}
theorem PO.imp {e : Option Expr} {t t' : TO} (h : PO X e t) (k : ∀ σ H Q, t' σ H Q → t σ H Q) : PO X e t' := fun pins s σ H Q I hw => h pins s σ H Q I (k σ H Q hw)
theorem do_none : DO X none qNoP := by
  refine ⟨PO.imp po_none ?_⟩
  rintro σ H QQ ⟨tw, H0, F, ρ, Q, st, rp, q, k⟩
  exact k none F H (Stp.refl st) q
theorem do_some (h : DE X e q) : DO X (some e) (qPart q) := by
  refine ⟨PO.imp (po_some h.pe) ?_⟩
  rintro σ H QQ ⟨tw, H0, F, ρ, Q, st, rp, q, k⟩
  refine ⟨tw, H0, F, ρ, _, st, rp, q, fun v H1 p => ?_⟩
  obtain ⟨F1, r, s1, r1, i, e, q1⟩ := p
  exact ⟨i, r1.int e, k (some i) F1 H1 s1 q1⟩
def qSl (qe : QE) (ql qh : QO) : QE := fun ρ Q => qe ρ fun r => ql ρ fun l => qh ρ fun h =>
  (∃ ds, r.d = .lst ds ∧ Q (.fresh (.lst (cutD ds l h)))) ∨ (∃ ds, r.d = .tup ds ∧ ¬ (HT.sIx ds.length 0 l = 0 ∧ HT.sIx ds.length ds.length h = ds.length) ∧ Q (.dat (.tup (cutD ds l h)))) ∨ ∃ z, r.d = .str z ∧ z.length ≤ sizeLine ∧ Q (.dat (.str (cutS z l h)))
theorem cut_all {K : Frag} {tw : Tw} {F : Hp} {us : List V} {ds : List D} (h : DvAll K tw F us ds) (lo hi : Option Int) : DvAll K tw F (cutV us lo hi) (cutD ds lo hi) := by
  unfold cutV cutD
  rw [h.length]
  exact (h.drop _).take _
theorem de_slice (he : DE X e q) (hl : DO X lo ql) (hu : DO X hi qh) : DE X (.Subscript e (.Slice lo hi none p2) pos) (qSl q ql qh) := by
  refine ⟨PE.imp (pe_slice (SlR.or sl_list (SlR.or sl_tup sl_str)) he.pe hl.po hu.po) ?_⟩
  rintro σ H QQ ⟨tw, H0, F, ρ, Q, st, rp, q, k⟩
  refine ⟨tw, H0, F, ρ, _, st, rp, q, fun v H1 p => ?_⟩
  obtain ⟨F1, r, s1, r1, q1⟩ := p
  refine ⟨tw, H0, F1, ρ, _, s1.st, rp.step s1, q1, fun l F2 H2 s2 q2 => ?_⟩
  refine ⟨tw, H0, F2, ρ, _, s2.st, (rp.step s1).step s2, q2, fun h F3 H3 s3 q3 => ?_⟩
  have s123 := (s1.trans s2).trans s3
  have r3 := (r1.step s2).step s3
  rcases q3 with ⟨ds, e, q3⟩ | ⟨ds, e, hw, q3⟩ | ⟨z, e, hz, q3⟩
  · obtain ⟨a, us, rfl, h1, h2⟩ := r3.lst s123.st.sub e
    exact .inl ⟨a, us, rfl, h1, fun p hp => k _ _ ((post_lst s123.st (cut_all h2 l h) hp q3).pre s123)⟩
  · obtain ⟨a, us, rfl, h1, h2⟩ := r3.tup e
    refine .inr (.inl ⟨a, us, rfl, SqT.of (s123.st.sub _ _ h1), by rw [h2.length]; exact hw, fun p hp => k _ _ ((post_tup s123.st (cut_all h2 l h) hp q3).pre s123)⟩)
  · have ev := r3.str e
    exact .inr (.inr ⟨z, ev, hz, k _ _ ((post_here s123.st (.dat (.str _)) q3).pre s123)⟩)
end
def kD : Key → D
  | .inl i => .int i
  | .inr x => .str x
def keyD (k : List Key) : D := .tup (k.map kD)
def hasK (ks : List (List Key)) (k : List Key) : Bool := ks.any fun x => decide (x = k)
def putKs (ks : List (List Key)) (k : List Key) : List (List Key) := if hasK ks k = true then ks else ks ++ [k]
section
variable {K : Frag} {tw : Tw} {F H : Hp}
theorem kD_val {k : Key} {v : V} (h : Dv K tw F v (kD k)) : v = kV k := by
  cases k with
  | inl i => cases h; rfl
  | inr x => cases h; rfl
theorem kD_all : ∀ {k : List Key} {us : List V}, DvAll K tw F us (k.map kD) → us = k.map kV
  | [], _, .nil => rfl
  | _ :: _, _, .cons h t => by rw [kD_val h, kD_all t]; rfl
theorem Rv.key {Hs : Hp} {v : V} {r : R} {k : List Key} (h : Rv K tw Hs F H v r) (e : r.d = keyD k) : ∃ b, v = .ref b ∧ F b = some (.tup (k.map kV)) := by
  obtain ⟨a, us, rfl, h1, h2⟩ := h.tup e
  rw [kD_all h2] at h1
  exact ⟨a, rfl, h1⟩
end
section
variable {X : Cx} {o i value : Expr} {pos pos' : Pos} {qd qk qv : QE} {n : Nat}
end
end L3
set_option Elab.async false
set_option linter.all false
set_option autoImplicit false
set_option maxRecDepth 100000
namespace L3
open PySem PySem.Spec PyProof.Rows L2
section
variable {K : Frag} {tw : Tw} {F F' : Hp}
end
section
variable {F F' H : Hp} {d : Addr} {od : Obj} {u : HO}
end
section
variable {K : Frag} {tw : Tw} {H0 F H F' H' : Hp} {σ : St} {ρ : Ev} {d : Addr} {od : Obj} {u : HO}
end
theorem PE.or {X : Cx} {e : Expr} {t t' : TE} (h : PE X e t) (h' : PE X e t') : PE X e (fun σ H Q => t σ H Q ∨ t' σ H Q) := fun pins s σ H Q I hw => hw.elim (h pins s σ H Q I) (h' pins s σ H Q I)
theorem dT_len {X : Cx} {pins : List (Addr × Obj)} {σ : St} {H : Hp} {s : Shared} {d : Addr} {kvs : List (List Key × V)} (I : Inv X pins σ H s) (h : Rd H d (.dT kvs)) : kvs.length ≤ sizeLine := (dt_rd I.hok h).1
theorem PE.len {X : Cx} {e : Expr} {t : TE} (h : PE X e t) : PE X e (fun σ H Q => ∀ (_ : ∀ d kvs, Rd H d (.dT kvs) → kvs.length ≤ sizeLine), t σ H Q) := fun pins s σ H Q I hw => h pins s σ H Q I (hw fun d kvs r => dT_len I r)
section
variable {X : Cx}
end
end L3
set_option Elab.async false
set_option linter.all false
set_option autoImplicit false
set_option maxRecDepth 100000
namespace L3
open PySem PySem.Spec PyProof.Rows L2
section
variable {prog : Program} {w : World} {A : Around} {E : Value → Shared → Prop} {s : Shared}
end
section
variable {prog : Program} {w : World} {A : Around} {E : Value → Shared → Prop} {s : Shared}
inductive TupsI (h : Heap) : List Value → List (List Int) → Prop
  | nil : TupsI h [] []
  | cons {a : Addr} {its : List Value} {ns : List Int} {vs : List Value} {kss : List (List Int)} : IsTup h a its.toArray → IntsAre its ns → TupsI h vs kss → TupsI h (.ref a :: vs) (ns :: kss)
theorem TupsI.get {h : Heap} : ∀ {vs : List Value} {kss : List (List Int)} {i : Nat} {ns : List Int}, TupsI h vs kss → kss[i]? = some ns → ∃ a its, vs[i]? = some (.ref a) ∧ IsTup h a its.toArray ∧ IntsAre its ns
  | _, _, _, _, .nil, e => by simp at e
  | _, _, 0, _, .cons h1 h2 _, e => by simp at e; subst e; exact ⟨_, _, rfl, h1, h2⟩
  | _, _, i + 1, ns, .cons _ _ t, e => by
    obtain ⟨a, its, h1, h2⟩ := TupsI.get (i := i) (ns := ns) t (by simpa using e)
    exact ⟨a, its, by simpa using h1, h2⟩
theorem TupsI.length {h : Heap} : ∀ {vs : List Value} {kss : List (List Int)}, TupsI h vs kss → vs.length = kss.length
  | _, _, .nil => rfl
  | _, _, .cons _ _ t => by simp [t.length]
theorem TupsI.up {h h' : Heap} (k : ∀ b o, h.get? b = some o → h'.get? b = some o) : ∀ {vs : List Value} {kss : List (List Int)}, TupsI h vs kss → TupsI h' vs kss
  | _, _, .nil => .nil
  | _, _, .cons ⟨o, e, r⟩ h2 t => .cons ⟨o, k _ _ e, r⟩ h2 (t.up k)
end
end L3
set_option Elab.async false
set_option linter.all false
set_option autoImplicit false
set_option maxRecDepth 100000
namespace L3
open PySem PySem.Spec PyProof.Rows L2
end L3
set_option Elab.async false
set_option linter.all false
set_option autoImplicit false
set_option maxRecDepth 100000
namespace L3
open PySem PySem.Spec PyProof.Rows L2
theorem lex_irr : ∀ a : List Int, HT.lexLt a a = false
  | [] => rfl
  | x :: xs => by rw [HT.lexLt_cons, if_pos rfl]; exact lex_irr xs
theorem lex_tr : ∀ {a b c : List Int}, HT.lexLt a b = true → HT.lexLt b c = true → HT.lexLt a c = true
  | [], [], _, h, _ => by cases h
  | [], _ :: _, [], _, h => by cases h
  | [], _ :: _, _ :: _, _, _ => rfl
  | _ :: _, [], _, h, _ => by cases h
  | _ :: _, _ :: _, [], _, h => by cases h
  | x :: a, y :: b, z :: c, h1, h2 => by
    rw [HT.lexLt_cons] at h1 h2 ⊢
    by_cases e1 : x = y
    · by_cases e2 : y = z
      · rw [if_pos e1] at h1; rw [if_pos e2] at h2; rw [if_pos (e1.trans e2)]; exact lex_tr h1 h2
      · rw [if_neg e2] at h2; rw [if_neg (by rw [e1]; exact e2), e1]; exact h2
    · rw [if_neg e1] at h1
      have h1 := of_decide_eq_true h1
      by_cases e2 : y = z
      · rw [if_neg (by rw [← e2]; exact e1), ← e2]; exact decide_eq_true h1
      · rw [if_neg e2] at h2
        have h2 := of_decide_eq_true h2
        rw [if_neg (by omega)]; exact decide_eq_true (by omega)
theorem lex_tot : ∀ {a b : List Int}, HT.lexLt a b = false → HT.lexLt b a = false → a = b
  | [], [], _, _ => rfl
  | [], _ :: _, h, _ => by cases h
  | _ :: _, [], _, h => by cases h
  | x :: a, y :: b, h1, h2 => by
    rw [HT.lexLt_cons] at h1 h2
    by_cases e : x = y
    · rw [if_pos e] at h1; rw [if_pos e.symm] at h2; rw [e, lex_tot h1 h2]
    · rw [if_neg e] at h1; rw [if_neg (Ne.symm e)] at h2
      have := of_decide_eq_false h1
      have := of_decide_eq_false h2
      omega
def LexUp (ks : List (List Int)) : Prop := ks.Pairwise fun a b => HT.lexLt b a = false
section
variable {prog : Program} {w : World} {A : Around} {s : Shared}
end
def tupI (ns : List Int) : D := .tup (ns.map D.int)
section
variable {X : Cx}
theorem Vals.getD {xs : List V} {us : List Value} (h : Vals xs us) (i : Nat) : i < xs.length → RelV (xs.getD i .non) (us.getD i .none) := fun hi => by
  obtain ⟨u, e1, e2⟩ := Vals.get (x := xs[i]) h (List.getElem?_eq_getElem hi)
  rw [List.getD_eq_getElem?_getD, List.getD_eq_getElem?_getD, List.getElem?_eq_getElem hi, e1]
  exact e2
end
end L3
set_option Elab.async false
set_option linter.all false
set_option autoImplicit false
set_option maxRecDepth 100000
namespace L3
open PySem PySem.Spec PyProof.Rows L2
section
variable {prog : Program} {w : World} {A : Around}
end
end L3
set_option Elab.async false
set_option linter.all false
set_option autoImplicit false
set_option maxRecDepth 100000
namespace L3
open PySem PySem.Spec PyProof.Rows L2
section
variable {prog : Program} {w : World} {A : Around} {E : Value → Shared → Prop} {s : Shared}
end
section
variable {X : Cx} {e e2 : Expr} {te te2 : TE} {p pos kp : Pos}
end
end L3
set_option Elab.async false
set_option linter.all false
set_option autoImplicit false
set_option maxRecDepth 100000
namespace L3
open PySem PySem.Spec PyProof.Rows L2
abbrev tTown : TE := tDGet (tVar 1) (tC (.str "count"))
abbrev tRests : TE := tDGet (tVar 1) (tC (.str "rests"))
abbrev oAdd := tOp (rI0 fun i j => .int (i + j))
abbrev oMul := tOp (rI CMul fun i j => .int (i * j))
abbrev oDiv := tOp (rI CDiv fun i j => .int (i / j))
abbrev oMod := tOp (rI (fun _ j => 0 < j) fun i j => .int (i % j))
abbrev oPow := tOp (rI CPow fun i j => .int (i ^ j.toNat))
abbrev tTru (K : Frag) (te : TE) : TT := fun σ H Q => te σ H fun x H' => ∃ k, TruV K x H' k ∧ Q k H'
def drawT (K : Frag) : TS :=
  tSeq (sDPut (tVar 1) (tC (.str "count")) (oAdd tTown (tC (.int 1))))
  (tSeq (tAsg (tIf (tTru K (tVar 0)) (oMod tTown (tCB (fun xs H Q => ∃ x n, xs = [x] ∧ LenV K x H n ∧ Q (.int n) H) (tCons (tVar 0) tNil))) (tC (.int 0))) (gName 3))
  (tSeq (tAsg (tDGet2 tRests (tVar 3) (tIf (tTru K (tVar 0)) (tOp (rIxL K) (tVar 0) (tVar 3)) (tC (.int 0)))) (gName 4))
  (tSeq (tIfS (tTest (tOp (rI0 fun i j => .bl (decide (j ≤ i))) (tVar 4) (oPow (tC (.int 10)) (tC (.int 18))))) (tSeq (sDPut tRests (tVar 3) (oDiv (tVar 4) (tVar 2))) (tRet (oMod (tVar 4) (tVar 2)))) tNext)
  (tSeq (tAsg (oMod (oAdd (tVar 4) (oMul (tC (.int 104729)) tTown)) (tC (.int 4294967291))) (gName 5))
  (tSeq (tAsg (oMod (oPow (tVar 5) (tC (.int 5))) (tC (.int 4294967279))) (gName 5))
  (tRet (oMod (oDiv (oMod (oAdd (oMul (oDiv (tVar 5) (tC (.int 64))) (tC (.int 69621))) (tVar 5)) (tC (.int 4294967231))) (tC (.int 8))) (tVar 2))))))))
def cDraw : CD := fun ds Q => ∃ (ns : List Int) (many : Int), ds = [.lst (ns.map D.int), .town, .int many] ∧ ns.length ≤ 63 ∧ 0 < many ∧ many < 1073741824 ∧ ∀ r, 0 ≤ r → r < many → Q (.int r)
theorem sne : ¬ ((Sum.inr ("count" : Str)) : Key) = Sum.inr ("rests" : Str) := by decide +kernel
theorem town_count {t r : Addr} {n : Int} : valV ([(Sum.inr "count", V.int n), (Sum.inr "rests", V.ref r)] : List (Key × V)) (Sum.inr "count") = some (.int n) := valV_pos rfl
theorem town_rests {t r : Addr} {n : Int} : valV ([(Sum.inr "count", V.int n), (Sum.inr "rests", V.ref r)] : List (Key × V)) (Sum.inr "rests") = some (.ref r) := by
  rw [valV_neg sne]; exact valV_pos rfl
theorem town_put {r : Addr} {n m : Int} : putK ([(Sum.inr "count", V.int n), (Sum.inr "rests", V.ref r)] : List (Key × V)) (Sum.inr "count") (.int m) = ([(Sum.inr "count", V.int m), (Sum.inr "rests", V.ref r)] : List (Key × V)) := by
  unfold putK
  rw [if_pos (by simp)]
  simp [Ne.symm sne]
theorem val_kvs {kvs : List (Key × V)} {at' : Nat} (hv : ∀ p ∈ kvs, ∃ (i : Nat) (n : Int), p = (.inl (i : Int), .int n) ∧ i < 63) : valV kvs (Sum.inl (at' : Int)) = none ∨ ∃ z, valV kvs (Sum.inl (at' : Int)) = some (.int z) := by
  unfold valV
  cases q : kvs.find? (fun kv => decide (kv.1 = Sum.inl (at' : Int))) with
  | none => exact .inl rfl
  | some p =>
    obtain ⟨i, n, rfl, _⟩ := hv p (List.mem_of_find?_eq_some q)
    exact .inr ⟨n, rfl⟩
def toN : Key → Nat
  | .inl i => i.toNat
  | .inr _ => 0
theorem nodup_bd : ∀ (n : Nat) (l : List Nat), l.Nodup → (∀ x ∈ l, x < n) → l.length ≤ n
  | 0, [], _, _ => Nat.le_refl _
  | 0, x :: _, _, h => absurd (h x List.mem_cons_self) (Nat.not_lt_zero _)
  | n + 1, l, nd, h => by
    have h1 := nodup_bd n (l.erase n) (nd.erase n) fun x hx => by
      have := (nd.mem_erase_iff).mp hx
      have := h x this.2
      omega
    have h2 := List.length_erase (a := n) (l := l)
    split at h2 <;> omega
theorem put_kvs {kvs : List (Key × V)} {at' : Nat} {z : Int} (hz : at' < 63) (hl : kvs.length ≤ 63) (nd : (kvs.map (·.1)).Nodup) (hv : ∀ p ∈ kvs, ∃ (i : Nat) (n : Int), p = (.inl (i : Int), .int n) ∧ i < 63) :
    (putK kvs (Sum.inl (at' : Int)) (.int z)).length ≤ 63 ∧ ((putK kvs (Sum.inl (at' : Int)) (.int z)).map (·.1)).Nodup ∧ ∀ p ∈ putK kvs (Sum.inl (at' : Int)) (.int z), ∃ (i : Nat) (n : Int), p = (.inl (i : Int), .int n) ∧ i < 63 := by
  have hall : ∀ p ∈ putK kvs (Sum.inl (at' : Int)) (.int z), ∃ (i : Nat) (n : Int), p = (.inl (i : Int), .int n) ∧ i < 63 := by
    intro p hp
    unfold putK at hp
    split at hp
    · obtain ⟨p', hp', rfl⟩ := List.mem_map.mp hp
      obtain ⟨i, n, rfl, hi⟩ := hv p' hp'
      split
      · exact ⟨i, z, rfl, hi⟩
      · exact ⟨i, n, rfl, hi⟩
    · rcases List.mem_append.mp hp with hp | hp
      · exact hv p hp
      · rw [List.mem_singleton] at hp
        exact ⟨at', z, hp, hz⟩
  have hnd : ((putK kvs (Sum.inl (at' : Int)) (.int z)).map (·.1)).Nodup := by
    rcases val_kvs (at' := at') hv with e | ⟨y, e⟩
    · exact nd_putK _ nd e
    · unfold putK
      rw [if_pos (by rw [valV_any, e]; rfl), List.map_map]
      have : (kvs.map ((fun x => x.1) ∘ fun kv => if kv.1 = Sum.inl (at' : Int) then (kv.1, V.int z) else kv)) = kvs.map (·.1) := by
        apply List.map_congr_left
        intro p _
        simp only [Function.comp]
        split <;> rfl
      rw [this]; exact nd
  refine ⟨?_, hnd, hall⟩
  have inj : (((putK kvs (Sum.inl (at' : Int)) (.int z)).map (·.1)).map toN).Nodup := by
    refine List.pairwise_map.mpr (List.Pairwise.imp_of_mem (fun {a b} ha hb hab => ?_) hnd)
    obtain ⟨p, hp, rfl⟩ := List.mem_map.mp ha
    obtain ⟨p2, hp2, rfl⟩ := List.mem_map.mp hb
    obtain ⟨i, n, rfl, hi⟩ := hall p hp
    obtain ⟨j, m, rfl, hj⟩ := hall p2 hp2
    intro e
    have e : i = j := by simpa [toN] using e
    exact hab (by rw [e])
  have := nodup_bd 63 _ inj fun x hx => by
    obtain ⟨k, hk, rfl⟩ := List.mem_map.mp hx
    obtain ⟨p, hp, rfl⟩ := List.mem_map.mp hk
    obtain ⟨i, n, rfl, hi⟩ := hall p hp
    simpa [toN] using hi
  simpa using this
theorem draw_read {K : Frag} {N : List Str} (hN : N.length = 6) {vs : List V} {H : Hp} {Q : VK} {E : XK} (h : spD K cDraw vs H Q E) : drawT K { nx := fun _ H' => Q .non H', rt := Q } (L2.start N vs) H := by
  obtain ⟨tw, F, ds, QD, st, dv, ⟨ns, many, rfl, hns, hm0, hm1, q⟩, k⟩ := h
  cases dv with
  | cons d0 dv =>
    cases dv with
    | cons d1 dv =>
      cases dv with
      | cons d2 dv =>
        cases dv
        cases d2
        cases d0 with
        | @lst sa us _ hs ha =>
          have eus := ha.ints
          subst eus
          cases d1 with
          | @town t r pp etw =>
            subst etw
            obtain ⟨ntr, ⟨n, ht⟩, ⟨kvs, hr, hkl, hnd, hkv⟩, htb⟩ := (show TownAt t r pp F H from st.town)
            have est : L2.start N [V.ref sa, V.ref t, V.int many] = [some (V.ref sa), some (V.ref t), some (V.int many), none, none, none] := by
              unfold L2.start
              rw [hN]
              rfl
            rw [est]
            have hsH : SqL K H sa (ns.map V.int) := st.sub.seq hs
            let H1 := upd H t (.dK [(Sum.inr "count", V.int (n + 1)), (Sum.inr "rests", V.ref r)])
            have t1 : H1 t = some (.dK [(Sum.inr "count", V.int (n + 1)), (Sum.inr "rests", V.ref r)]) := upd_same
            have r1 : H1 r = some (.dK kvs) := by rw [show H1 r = H r from upd_ne (Ne.symm ntr)]; exact hr
            have offF : ∀ b, F b ≠ none → b ≠ t ∧ b ≠ r := fun b hb => ⟨fun z => hb (st.off b (.inl z)), fun z => hb (st.off b (.inr (.inl z)))⟩
            have F1 : Same F H1 := fun b o e => by rw [show H1 b = H b from upd_ne (offF b (by rw [e]; simp)).1]; exact st.sub b o e
            have hs1 : SqL K H1 sa (ns.map V.int) := F1.seq hs
            have fin : ∀ (kvs' : List (Key × V)) (H' : Hp) (z : Int), H' t = some (.dK [(Sum.inr "count", V.int (n + 1)), (Sum.inr "rests", V.ref r)]) → H' r = some (.dK kvs') → (∀ b, b ≠ t → b ≠ r → H' b = H b) → kvs'.length ≤ 63 → (kvs'.map (·.1)).Nodup →
                (∀ p ∈ kvs', ∃ (i : Nat) (n : Int), p = (.inl (i : Int), .int n) ∧ i < 63) → 0 ≤ z → z < many → Q (.int z) H' := fun kvs' H' z e1 e2 e3 e4 e5 e6 z0 z1 => by
              refine k (.int z) F H' (.int z) ⟨Same.refl _, fun _ _ e _ _ => e, fun b o e nb => ?_, fun b o e => ?_, ⟨fun b o e => ?_, st.off, ⟨ntr, ⟨_, e1⟩, ⟨kvs', e2, e4, e5, e6⟩, fun q hq => ?_⟩⟩⟩ (.int z) (q z z0 z1)
              · rw [e3 b (fun z => nb (.inl z)) (fun z => nb (.inr (.inl z)))]; exact e
              · by_cases b1 : b = t
                · exact ⟨_, by rw [b1]; exact e1⟩
                · by_cases b2 : b = r
                  · exact ⟨_, by rw [b2]; exact e2⟩
                  · exact ⟨o, by rw [e3 b b1 b2]; exact e⟩
              · have := offF b (by rw [e]; simp)
                rw [e3 b this.1 this.2]; exact st.sub b o e
              · obtain ⟨ps, y1, y2⟩ := htb q hq
                refine ⟨ps, ?_, y2⟩
                rw [e3 q (fun z => by rw [z, ht] at y1; cases y1) (fun z => by rw [z, hr] at y1; cases y1)]; exact y1
            have g1 : DGet H1 t (.str "count") (some (.int (n + 1))) := by
              have := DGet.k (k := Sum.inr "count") t1
              rw [town_count (t := t)] at this; exact this
            have g2 : DGet H1 t (.str "rests") (some (.ref r)) := by
              have := DGet.k (k := Sum.inr "rests") t1
              rw [town_rests (t := t)] at this; exact this
            have rest : ∀ (at' : Nat) (z : Int), at' < 63 → (tSeq (tIfS (tTest (tOp (rI0 fun i j => .bl (decide (j ≤ i))) (tVar 4) (oPow (tC (.int 10)) (tC (.int 18))))) (tSeq (sDPut tRests (tVar 3) (oDiv (tVar 4) (tVar 2))) (tRet (oMod (tVar 4) (tVar 2)))) tNext)
                (tSeq (tAsg (oMod (oAdd (tVar 4) (oMul (tC (.int 104729)) tTown)) (tC (.int 4294967291))) (gName 5))
                (tSeq (tAsg (oMod (oPow (tVar 5) (tC (.int 5))) (tC (.int 4294967279))) (gName 5))
                (tRet (oMod (oDiv (oMod (oAdd (oMul (oDiv (tVar 5) (tC (.int 64))) (tC (.int 69621))) (tVar 5)) (tC (.int 4294967231))) (tC (.int 8))) (tVar 2))))))
                { nx := fun _ H' => Q .non H', rt := Q } [some (V.ref sa), some (V.ref t), some (V.int many), some (V.int (at' : Int)), some (V.int z), none] H1 := fun at' z hat => by
              refine ⟨_, rfl, 10, 18, rfl, rfl, ⟨by decide, by decide, by decide⟩, _, _, rfl, rfl, _, rfl, ite2 (fun hbig => ?_) fun hsmall => ?_⟩
              · have hz : (10 : Int) ^ (18 : Int).toNat ≤ z := of_decide_eq_true hbig
                have hz0 : 0 ≤ z := Int.le_trans (by decide) hz
                obtain ⟨p1, p2, p3⟩ := put_kvs (z := z / many) hat hkl hnd hkv
                refine ⟨_, rfl, _, rfl, _, _, rfl, rfl, ⟨hm0, hm1⟩, _, rfl, t, _, rfl, g2, _, rfl, r, _, rfl, DPut.k (k := Sum.inl (at' : Int)) r1 (by have : sizeLine = 16777216 := sizeLine_eq; omega), ?_⟩
                refine ⟨_, rfl, _, rfl, _, _, rfl, rfl, hm0, ?_⟩
                refine fin _ _ _ ?_ upd_same (fun b b1 b2 => ?_) p1 p2 p3 (Int.emod_nonneg _ (by omega)) (Int.emod_lt_of_pos _ hm0)
                · rw [upd_ne ntr]; exact t1
                · rw [upd_ne b2]; exact upd_ne b1
              · refine ⟨_, rfl, _, rfl, t, _, rfl, g1, _, _, rfl, rfl, .inl ⟨by decide, by decide⟩, _, _, rfl, rfl, _, _, rfl, rfl, (by decide : (0 : Int) < 4294967291), ?_⟩
                have b0 := Int.emod_nonneg (z + 104729 * (n + 1)) (by decide : (4294967291 : Int) ≠ 0)
                have b1 := Int.emod_lt_of_pos (z + 104729 * (n + 1)) (by decide : (0 : Int) < 4294967291)
                generalize (z + 104729 * (n + 1)) % 4294967291 = y at b0 b1 ⊢
                refine ⟨_, rfl, _, _, rfl, rfl, ⟨by decide, by decide, by omega⟩, _, _, rfl, rfl, (by decide : (0 : Int) < 4294967279), ?_⟩
                have c0 := Int.emod_nonneg (y ^ (5 : Int).toNat) (by decide : (4294967279 : Int) ≠ 0)
                have c1 := Int.emod_lt_of_pos (y ^ (5 : Int).toNat) (by decide : (0 : Int) < 4294967279)
                generalize (y ^ (5 : Int).toNat) % 4294967279 = x at c0 c1 ⊢
                refine ⟨_, rfl, _, _, rfl, rfl, ⟨by decide, by decide⟩, _, _, rfl, rfl, .inr ⟨by decide, by decide⟩, _, rfl, _, _, rfl, rfl, _, _, rfl, rfl, (by decide : (0 : Int) < 4294967231), _, _, rfl, rfl, ⟨by decide, by decide⟩, _, rfl, _, _, rfl, rfl, hm0, ?_⟩
                exact fin kvs H1 _ t1 r1 (fun b b1 _ => upd_ne b1) hkl hnd hkv (Int.emod_nonneg _ (by omega)) (Int.emod_lt_of_pos _ hm0)
            refine ⟨_, rfl, t, .int n, rfl, ?_, n, 1, rfl, rfl, _, rfl, t, H1, rfl, ?_, ?_⟩
            · have := DGet.k (k := Sum.inr "count") ht
              rw [town_count (t := t)] at this; exact this
            · have := DPut.k (k := Sum.inr "count") (v := V.int (n + 1)) ht (by have : sizeLine = 16777216 := sizeLine_eq; show 2 < sizeLine; omega)
              rw [town_put] at this; exact this
            · -- an empty script, or not
              by_cases he : ns = []
              · subst he
                refine ⟨_, rfl, false, .inl ⟨_, hs1, rfl⟩, iteF ?_⟩
                refine ⟨_, rfl, _, _, rfl, g2, r, rfl, .inl ⟨kvs, .inl r1⟩, _, rfl, _, rfl, false, .inl ⟨_, hs1, rfl⟩, iteF ⟨_, DGet.k (k := Sum.inl ((0 : Nat) : Int)) r1, ?_⟩⟩
                rcases val_kvs (at' := 0) hkv with e | ⟨y, e⟩
                · rw [e]; exact rest 0 0 (by decide)
                · rw [e]; exact rest 0 y (by decide)
              · have hl0 : 0 < ns.length := by cases ns with | nil => exact absurd rfl he | cons _ _ => simp
                have hemp : (!(ns.map V.int).isEmpty) = true := by cases ns with | nil => exact absurd rfl he | cons _ _ => rfl
                refine ⟨_, rfl, true, .inl ⟨_, hs1, hemp.symm⟩, iteT ?_⟩
                refine ⟨_, rfl, t, _, rfl, g1, _, rfl, _, ns.length, rfl, .inl ⟨_, hs1, by rw [List.length_map]⟩, _, _, rfl, rfl, (by omega : (0 : Int) < (ns.length : Int)), ?_⟩
                have a0 := Int.emod_nonneg (n + 1) (by omega : (ns.length : Int) ≠ 0)
                have a1 := Int.emod_lt_of_pos (n + 1) (by omega : (0 : Int) < (ns.length : Int))
                obtain ⟨at', eat⟩ := Int.eq_ofNat_of_zero_le a0
                have hat : at' < ns.length := by omega
                rw [show ((fun (i j : Int) => V.int (i % j)) (n + 1) (ns.length : Int)) = V.int (at' : Int) from congrArg V.int eat]
                refine ⟨_, rfl, _, _, rfl, g2, r, rfl, .inl ⟨kvs, .inl r1⟩, _, rfl, _, rfl, true, .inl ⟨_, hs1, hemp.symm⟩, iteT ⟨_, rfl, _, rfl, sa, _, _, V.int (ns[at']), rfl, rfl, hs1, ?_, _, DGet.k (k := Sum.inl (at' : Int)) r1, ?_⟩⟩
                · exact atI_nat (by rw [List.getElem?_map, List.getElem?_eq_getElem hat]; rfl)
                · rcases val_kvs (at' := at') hkv with e | ⟨y, e⟩
                  · rw [e]; exact rest at' _ (by omega)
                  · rw [e]; exact rest at' y (by omega)
end L3
set_option Elab.async false
set_option linter.all false
set_option autoImplicit false
set_option maxRecDepth 100000
namespace L3
open PySem PySem.Spec PyProof.Rows L2
def townO (r : Addr) : HO := .dK [(Sum.inr "count", V.int 0), (Sum.inr "rests", V.ref r)]
def spBegun : Sp := fun vs H Q _ => vs = [] ∧ ∀ t r, H t = none → H r = none → t ≠ r → Q (.ref t) (upd (upd (upd H t (.dK [])) r (.dK [])) t (townO r))
def begunT : TS := tRet (tDisp [(tC (.str "count"), tC (.int 0)), (tC (.str "rests"), tDNewK)])
theorem begun_read {N : List Str} {vs : List V} {H : Hp} {Q : VK} {E : XK} (h : spBegun vs H Q E) : begunT { nx := fun _ H' => Q .non H', rt := Q } (L2.start N vs) H := by
  obtain ⟨rfl, h⟩ := h
  intro t ht r hr
  have htr : t ≠ r := fun z => by rw [z, upd_same] at hr; cases hr
  rw [upd_ne (Ne.symm htr)] at hr
  refine ⟨?_, [(Sum.inr "count", V.int 0), (Sum.inr "rests", V.ref r)], rfl, (by show 2 ≤ 15; decide), ?_⟩
  · rw [upd_ne htr, upd_same]
  · have e : mergeK [] ([(Sum.inr "count", V.int 0), (Sum.inr "rests", V.ref r)] : List (Key × V)) = ([(Sum.inr "count", V.int 0), (Sum.inr "rests", V.ref r)] : List (Key × V)) := by
      unfold mergeK
      simp only [List.foldl]
      have e1 : putK ([] : List (Key × V)) (Sum.inr ("count" : Str)) (V.int 0) = [(Sum.inr ("count" : Str), V.int 0)] := putK_new _ valV_nil
      rw [e1]
      exact putK_new _ (by rw [valV_neg sne]; exact valV_nil)
    rw [e]
    exact h t r ht hr htr
def spLawT (K : Frag) (q : Addr) : Sp := fun vs H Q _ => ∃ (a : Addr) (ns : List Int), vs = [.ref a] ∧ SqL K H a (ns.map V.int) ∧ q ≠ a ∧ H q = some (.tbl #[]) ∧ ns.length ≤ 63 ∧ ∀ H', Q (.bl true) H'
theorem law_read0 {K : Frag} {p : Option Addr} {N : List Str} {H : Hp} {Q : VK} {E : XK} {t : QS} {a : Addr} {ns : List Int} {σ0 : St} {ρ0 : Ev} (hs : SqL K H a (ns.map V.int)) (hp : ∀ q, p = some q → q ≠ a ∧ H q = some (.tbl #[])) (k : ∀ H', Q (.bl true) H')
    (hρ : ∀ tw F H1, Stt tw F H1 → DvAll K tw F [V.ref a] [.lst (ns.map D.int)] → (∃ t r, tw = some (t, r, p)) → Rep K tw H1 F H1 σ0 ρ0)
    (ht : t ⟨fun _ => False, fun d => d = .bl true, fun _ => False, fun _ => False⟩ (ρ0.set 1 (some (.dat .town)))) :
    tSeq (tAsg (tCall spBegun [] E0 tNil) (gName 1)) (lfS K t) { nx := fun _ H' => Q .non H', rt := Q } σ0 H := by
  refine ⟨rfl, fun tt r h1 h2 hne => ?_⟩
  generalize hH : upd (upd (upd H tt (.dK [])) r (.dK [])) tt (townO r) = H1
  have e1 : H1 tt = some (townO r) := by rw [← hH]; exact upd_same
  have e2 : H1 r = some (.dK []) := by rw [← hH, upd_ne (Ne.symm hne)]; exact upd_same
  have sm : Same H H1 := fun b o e => by rw [← hH, upd_ne (ne_of_none e h1), upd_ne (ne_of_none e h2), upd_ne (ne_of_none e h1)]; exact e
  have F0 : Same (oneH H a) H1 := (oneH_sub H a).trans sm
  have nt : ∀ b, inTw (some (tt, r, p)) b → oneH H a b = none := fun b hb => by
    by_cases hba : b = a
    · subst hba
      rw [oneH_at]
      rcases hb with rfl | rfl | hb
      · exact h1
      · exact h2
      · exact absurd rfl (hp b hb).1
    · exact oneH_off hba
  have st : Stt (some (tt, r, p)) (oneH H a) H1 := ⟨F0, nt, ⟨hne, ⟨0, e1⟩, ⟨[], e2, by decide, List.nodup_nil, fun p hp => by cases hp⟩, fun q hq => ⟨#[], sm _ _ (hp q hq).2, trivial, fun pos cv z => by cases z⟩⟩⟩
  have hsF : SqL K (oneH H a) a (ns.map V.int) := by
    rcases hs with (hs | ⟨o, hs⟩) | hs
    · exact .inl (.inl (by rw [oneH_at]; exact hs))
    · exact .inl (.inr ⟨o, by rw [oneH_at]; exact hs⟩)
    · exact .inr hs
  have dvs : DvAll K (some (tt, r, p)) (oneH H a) [V.ref a] [.lst (ns.map D.int)] := .cons (.lst hsF .of_ints) .nil
  refine ⟨some (tt, r, p), oneH H a, H1, oneH H a, _, _, Stp.refl st, (hρ _ _ _ st dvs ⟨_, _, rfl⟩).setD 1 (.town rfl), ht, ⟨fun _ _ _ _ _ _ _ z => z.elim, fun F' v H' d _ dd z => ?_, fun _ _ _ _ _ _ _ z => z.elim, fun _ _ _ _ _ _ _ z => z.elim⟩⟩
  have z : d = .bl true := z
  subst z
  cases dd
  exact k H'
theorem law_readT {K : Frag} {q : Addr} {N : List Str} {vs : List V} {H : Hp} {Q : VK} {E : XK} {t : QS} (g : Nat) (hg : g < N.length) (hg1 : 1 < g) (h : spLawT K q vs H Q E)
    (ht : ∀ ns : List Int, ns.length ≤ 63 → t ⟨fun _ => False, fun d => d = .bl true, fun _ => False, fun _ => False⟩ (((startD N [.lst (ns.map D.int)]).set g (some (.dat (.tab q)))).set 1 (some (.dat .town)))) :
    tSeq (tAsg (tCall spBegun [] E0 tNil) (gName 1)) (lfS K t) { nx := fun _ H' => Q .non H', rt := Q } ((L2.start N vs).set g (some .non)) H := by
  obtain ⟨a, ns, rfl, hs, hqa, hq, hl, k⟩ := h
  exact law_read0 (p := some q) (E := E) (N := N) hs (fun q' z => by cases z; exact ⟨hqa, hq⟩) k (fun tw F H1 st dvs ⟨t, r, etw⟩ => (rep_start st dvs).setD g (.tab etw)) (ht ns hl)
end L3
set_option Elab.async false
set_option linter.all false
set_option autoImplicit false
set_option maxRecDepth 100000
namespace L3
open PySem PySem.Spec PyProof.Rows L2
def okTs : List String := ["NoneType", "bool", "int", "str", "tuple", "list"]
inductive TyV (K : Frag) (H : Hp) : V → String → Prop
  | non : TyV K H .non "NoneType"
  | bl (b : Bool) : TyV K H (.bl b) "bool"
  | int (i : Int) : TyV K H (.int i) "int"
  | str (x : Str) : TyV K H (.str x) "str"
  | lst {a : Addr} {us : List V} : SqL K H a us → TyV K H (.ref a) "list"
  | tup {a : Addr} {us : List V} : SqT K H a us → TyV K H (.ref a) "tuple"
theorem TyV.mem {K : Frag} {H : Hp} {v : V} {t : String} (h : TyV K H v t) : t ∈ okTs := by cases h <;> simp [okTs]
section
variable {X : Cx}
def tyD : D → Option String
  | .non => some "NoneType"
  | .bl _ => some "bool"
  | .int _ => some "int"
  | .str _ => some "str"
  | .tup _ => some "tuple"
  | .lst _ => some "list"
  | _ => none
theorem Rv.ty {K : Frag} {tw : Tw} {Hs F H : Hp} {v : V} {r : R} {t : String} (h : Rv K tw Hs F H v r) (s : Same F H) (e : tyD r.d = some t) : TyV K H v t := by
  cases hd : r.d with
  | non => rw [hd] at e; cases e; rw [h.non hd]; exact .non
  | bl b => rw [hd] at e; cases e; rw [h.bl hd]; exact .bl b
  | int i => rw [hd] at e; cases e; rw [h.int hd]; exact .int i
  | str x => rw [hd] at e; cases e; rw [h.str hd]; exact .str x
  | tup ds =>
    rw [hd] at e; cases e
    obtain ⟨a, us, rfl, h1, _⟩ := h.tup hd
    exact .tup (SqT.of (s _ _ h1))
  | lst ds =>
    rw [hd] at e; cases e
    obtain ⟨a, us, rfl, h1, _⟩ := h.lst s hd
    exact .lst h1
  | dT ks vs => rw [hd] at e; cases e
  | dK ks vs => rw [hd] at e; cases e
  | town => rw [hd] at e; cases e
  | tab q => rw [hd] at e; cases e
section
variable {a b : Expr} {qa qb : QE} {pos : Pos} {k : Nat}
end
end
end L3
set_option Elab.async false
set_option linter.all false
set_option autoImplicit false
set_option maxRecDepth 100000
namespace L3
open PySem PySem.Spec PyProof.Rows L2
inductive Src where
  | lst (a : Addr) | tup (a : Addr) | str (x : Str)
def Src.base : Src → List Addr
  | .lst a => [a]
  | .tup a => [a]
  | .str _ => []
def strIts : List String := ["str_ascii_iterator", "str_iterator"]
def Src.it (h : Heap) (it : Addr) (i : Nat) : Src → Prop
  | .lst a => h.IsListIter it a i
  | .tup a => h.IsTupleIter it a i
  | .str y => ∃ t ty, ty ∈ strIts ∧ h.IsStrIter it ty y t i
def Src.hat (h : Heap) (i : Nat) (x : V) : Src → Prop
  | .lst a => ∃ (its : Array Value) (u : Value), h.IsList a its ∧ its[i]? = some u ∧ RelV x u
  | .tup a => ∃ (its : Array Value) (u : Value), h.IsTuple a its ∧ its[i]? = some u ∧ RelV x u
  | .str y => ∃ c, y.cps[i]? = some c ∧ x = .str ⟨#[c]⟩
def Src.hend (h : Heap) (i : Nat) : Src → Prop
  | .lst a => ∃ (its : Array Value), h.IsList a its ∧ its[i]? = none
  | .tup a => ∃ (its : Array Value), h.IsTuple a its ∧ its[i]? = none
  | .str y => y.cps[i]? = none
theorem Src.it_keep {h h' : Heap} {it : Addr} {i : Nat} {src : Src} (x : src.it h it i) (k : ∀ o, h.get? it = some o → h'.get? it = some o) : src.it h' it i := by
  cases src with
  | lst a => obtain ⟨o, e, r⟩ := x; exact ⟨o, k o e, r⟩
  | tup a => obtain ⟨o, e, r⟩ := x; exact ⟨o, k o e, r⟩
  | str y => obtain ⟨t, ty, ht, o, e, r⟩ := x; exact ⟨t, ty, ht, o, k o e, r⟩
theorem Src.hat_keep {h h' : Heap} {i : Nat} {x : V} {src : Src} (z : src.hat h i x) (k : ∀ c ∈ src.base, ∀ o, h.get? c = some o → h'.get? c = some o) : src.hat h' i x := by
  cases src with
  | lst a => obtain ⟨its, u, ⟨o, e, r⟩, z⟩ := z; exact ⟨its, u, ⟨o, k a (by simp [Src.base]) o e, r⟩, z⟩
  | tup a => obtain ⟨its, u, ⟨o, e, r⟩, z⟩ := z; exact ⟨its, u, ⟨o, k a (by simp [Src.base]) o e, r⟩, z⟩
  | str y => exact z
section
variable {prog : Program} {w : World} {A : Around} {E : Value → Shared → Prop} {s : Shared}
theorem next_tuple {it t : Addr} {i : Nat} {items : Array Value} {x : Value} {Q : Value → Shared → Prop} (hit : s.heap.IsTupleIter it t i) (ht : s.heap.IsTuple t items) (hx : items[i]? = some x)
    (hQ : ∀ h', h'.IsTupleIter it t (i + 1) → Heap.SameBut it s.heap h' → Q x { s with heap := h' }) : wpAny (model prog w) A (Builtin.SmallTypes.nextOf (.ref it)) Q E s := by
  obtain ⟨o, ho, hc, hd⟩ := id hit
  obtain ⟨ol, hol, _, nl, hdl⟩ := ht
  unfold Builtin.SmallTypes.nextOf
  refine wpAny_bind (wpAny_callSpecial?_slot (name := Str.ofString "__next__") hit.typeIs F.slot_tuple_iterator_next (wpAny_call_entry F.slot_tuple_iterator_next hit.typeIs F.entry_tuple_iterator_next ?_ (F.args_tuple_iterator_next_1 _)))
  show wpAny _ _ (field (.ref it) 0 >>= _) _ _ s
  refine wpAny_bind (wpAny_field ho hd (x := .ref t) rfl ?_)
  show wpAny _ _ (if (Value.ref t == Value.none) = true then _ else _) _ _ s
  rw [if_neg (show ¬ ((Value.ref t == Value.none) = true) from Bool.false_ne_true)]
  show wpAny _ _ (field (.ref it) 1 >>= _) _ _ s
  refine wpAny_bind (wpAny_field ho hd (x := .int i 0) rfl ?_)
  show wpAny _ _ (seqItems? (.ref t) >>= _) _ _ s
  refine wpAny_bind (wpAny_seqItems hol hdl ?_)
  simp only [Int.toNat_natCast, hx]
  refine wpAny_bind (wpAny_setField ho hd (by simp) (wpAny_pure ⟨x, rfl, wpAny_pure (hQ _ ⟨_, Heap.get?_update_self _ ho (Obj.isFreed_of_fields (Obj.data_mapFields hd _)), (Obj.cls_mapFields ..).trans hc, ?_⟩ (Heap.SameBut.update ..))⟩))
  rw [Obj.data_mapFields hd]
  simp [rawInt]
theorem stop_tuple {it t : Addr} {i : Nat} {items : Array Value} {Q : Value → Shared → Prop} (hh : A.handled = none) (hit : s.heap.IsTupleIter it t i) (ht : s.heap.IsTuple t items) (hx : items[i]? = none)
    (hE : ∀ h' e, Heap.ExtBut it s.heap h' → (∃ o, h'.get? e = some o ∧ o.cls = .type "StopIteration") → E (.ref e) { s with heap := h' }) : wpAny (model prog w) A (Builtin.SmallTypes.nextOf (.ref it)) Q E s := by
  obtain ⟨o, ho, hc, hd⟩ := id hit
  obtain ⟨ol, hol, _, nl, hdl⟩ := ht
  unfold Builtin.SmallTypes.nextOf
  refine wpAny_bind (wpAny_callSpecial?_slot (name := Str.ofString "__next__") hit.typeIs F.slot_tuple_iterator_next (wpAny_call_entry F.slot_tuple_iterator_next hit.typeIs F.entry_tuple_iterator_next ?_ (F.args_tuple_iterator_next_1 _)))
  show wpAny _ _ (field (.ref it) 0 >>= _) _ _ s
  refine wpAny_bind (wpAny_field ho hd (x := .ref t) rfl ?_)
  show wpAny _ _ (if (Value.ref t == Value.none) = true then _ else _) _ _ s
  rw [if_neg (show ¬ ((Value.ref t == Value.none) = true) from Bool.false_ne_true)]
  show wpAny _ _ (field (.ref it) 1 >>= _) _ _ s
  refine wpAny_bind (wpAny_field ho hd (x := .int i 0) rfl ?_)
  show wpAny _ _ (seqItems? (.ref t) >>= _) _ _ s
  refine wpAny_bind (wpAny_seqItems hol hdl ?_)
  simp only [Int.toNat_natCast, hx]
  refine wpAny_bind (wpAny_rule (wpAny_bind (wpAny_setField ho hd (by simp) ?_)))
  show wpAny _ _ (newExc (.type "StopIteration") [] >>= _) _ _ _
  refine wpAny_bind ?_
  simp only [newExc, newTuple]
  refine wpAny_bind (wpAny_newObj_type ?_ (by size_fits))
  refine wpAny_bind (m := firstArgMember _ _) (wpAny_of_eq (a := Value.none) (by first | rfl | (simp only [firstArgMember]; rfl)) ?_)
  refine wpAny_newObj_type ?_ (by size_fits)
  simp only [raiseNew]
  refine wpAny_bind (wpAny_handled ?_)
  first | rw [show A.in1.handled = none from hh] | rw [hh]
  refine wpAny_bind (wpAny_pure (wpAny_throw ?_))
  exact hE _ _ (((Heap.SameBut.update ..).extBut.push _).push _) ⟨_, Heap.get?_push_size _ rfl, rfl⟩
theorem Src.next {src : Src} {it : Addr} {i : Nat} {x : V} {Q : Value → Shared → Prop} (h1 : src.it s.heap it i) (h2 : src.hat s.heap i x)
    (hQ : ∀ u h' tk, RelV x u → src.it h' it (i + 1) → Heap.SameBut it s.heap h' → Q u { s with heap := h', toks := tk }) : wpAny (model prog w) A (Builtin.SmallTypes.nextOf (.ref it)) Q E s := by
  cases src with
  | lst a =>
    obtain ⟨its, u, hl, hu, r⟩ := h2
    exact wpAny_nextOf_list_item h1 hl hu fun h' a1 a2 => hQ u h' s.toks r a1 a2
  | tup a =>
    obtain ⟨its, u, hl, hu, r⟩ := h2
    exact next_tuple h1 hl hu fun h' a1 a2 => hQ u h' s.toks r a1 a2
  | str y =>
    obtain ⟨c, hc, rfl⟩ := h2
    obtain ⟨t, ty, hty, h1⟩ := h1
    have : ty = "str_ascii_iterator" ∨ ty = "str_iterator" := by simpa [strIts] using hty
    rcases this with rfl | rfl
    · exact wpAny_nextOf_ascii_item h1 hc fun h' a1 a2 => hQ _ h' _ ⟨_, rfl⟩ ⟨t, _, hty, a1⟩ a2
    · exact wpAny_nextOf_wide_item h1 hc fun h' a1 a2 => hQ _ h' _ ⟨_, rfl⟩ ⟨t, _, hty, a1⟩ a2
theorem Src.stop {src : Src} {it : Addr} {i : Nat} {Q : Value → Shared → Prop} (hh : A.handled = none) (h1 : src.it s.heap it i) (h2 : src.hend s.heap i)
    (hE : ∀ h' e, Heap.ExtBut it s.heap h' → (∃ o, h'.get? e = some o ∧ o.cls = .type "StopIteration") → E (.ref e) { s with heap := h' }) : wpAny (model prog w) A (Builtin.SmallTypes.nextOf (.ref it)) Q E s := by
  cases src with
  | lst a =>
    obtain ⟨its, hl, hu⟩ := h2
    exact wpAny_nextOf_list_end hh h1 hl hu hE
  | tup a =>
    obtain ⟨its, hl, hu⟩ := h2
    exact stop_tuple hh h1 hl hu hE
  | str y =>
    obtain ⟨t, ty, hty, h1⟩ := h1
    have : ty = "str_ascii_iterator" ∨ ty = "str_iterator" := by simpa [strIts] using hty
    rcases this with rfl | rfl
    · exact wpAny_nextOf_ascii_end hh h1 h2 hE
    · exact wpAny_nextOf_wide_end hh h1 h2 hE
end
end L3
set_option Elab.async false
set_option linter.all false
set_option autoImplicit false
set_option maxRecDepth 100000
namespace L3
open PySem PySem.Spec PyProof.Rows L2
abbrev ItsAt (h : Heap) (i : Nat) : List Addr → List Src → Prop := Paired fun it src => Src.it h it i src
abbrev HasAt (h : Heap) (i : Nat) : List Src → List V → Prop := Paired fun src x => Src.hat h i x src
theorem ItsAt.keep {h h' : Heap} {i : Nat} : ∀ {its : List Addr} {srcs : List Src}, ItsAt h i its srcs → (∀ c ∈ its, ∀ o, h.get? c = some o → h'.get? c = some o) → ItsAt h' i its srcs
  | _, _, .nil, _ => .nil
  | _, _, .cons a t, k => .cons (Src.it_keep a (k _ List.mem_cons_self)) (ItsAt.keep t fun c hc => k c (List.mem_cons_of_mem _ hc))
theorem HasAt.keep {h h' : Heap} {i : Nat} : ∀ {srcs : List Src} {xs : List V}, HasAt h i srcs xs → (∀ src ∈ srcs, ∀ c ∈ Src.base src, ∀ o, h.get? c = some o → h'.get? c = some o) → HasAt h' i srcs xs
  | _, _, .nil, _ => .nil
  | _, _, .cons a t, k => .cons (Src.hat_keep a (k _ List.mem_cons_self)) (HasAt.keep t fun c hc => k c (List.mem_cons_of_mem _ hc))
section
variable {prog : Program} {w : World} {A : Around} {E : Value → Shared → Prop} {s : Shared}
theorem ItsAt.snoc {h : Heap} {i : Nat} {it : Addr} {src : Src} (b : Src.it h it i src) : ∀ {its : List Addr} {srcs : List Src}, ItsAt h i its srcs → ItsAt h i (its ++ [it]) (srcs ++ [src])
  | _, _, .nil => .cons b .nil
  | _, _, .cons a t => .cons a (ItsAt.snoc b t)
end
end L3
set_option Elab.async false
set_option linter.all false
set_option autoImplicit false
set_option maxRecDepth 100000
namespace L3
open PySem PySem.Spec PyProof.Rows L2
end L3
set_option Elab.async false
set_option linter.all false
set_option autoImplicit false
set_option maxRecDepth 100000
namespace L3
open PySem PySem.Spec PyProof.Rows L2
def Src.val : Src → V
  | .lst a => .ref a
  | .tup a => .ref a
  | .str x => .str x
def Src.has (h : Heap) : Src → Prop
  | .lst a => ∃ its, h.IsList a its
  | .tup a => ∃ its, h.IsTuple a its
  | .str _ => True
section
variable {prog : Program} {w : World} {A : Around} {E : Value → Shared → Prop} {s : Shared}
theorem Src.iter {src : Src} {u : Value} {Q : Value → Shared → Prop} (ru : RelV src.val u) (hx : src.has s.heap) (hQ : ∀ o, Src.it (s.heap.push o) s.heap.objs.size 0 src → Q (.ref s.heap.objs.size) { s with heap := s.heap.push o }) : wpAny (model prog w) A (pyIter u) Q E s := by
  cases src with
  | lst a =>
    cases ru
    obtain ⟨its, hl⟩ := hx
    exact wpAny_pyIter_list hl (hQ _ ⟨_, Heap.get?_push_size _ rfl, rfl, rfl⟩)
  | tup a =>
    cases ru
    obtain ⟨its, hl⟩ := hx
    exact wpAny_pyIter_tuple hl (hQ _ ⟨_, Heap.get?_push_size _ rfl, rfl, rfl⟩)
  | str x =>
    obtain ⟨t, rfl⟩ := ru
    refine wpAny_pyIter_strU (hQ _ ⟨t, _, ?_, _, Heap.get?_push_size _ rfl, rfl, rfl⟩)
    unfold strIterType strIts
    split <;> simp
end
section
variable {prog : Program} {w : World} {A : Around} {E : Value → Shared → Prop} {s : Shared}
end
def Src.at' (K : Frag) (H : Hp) (i : Nat) (x : V) : Src → Prop
  | .lst a => ∃ xs, SqL K H a xs ∧ xs[i]? = some x
  | .tup a => ∃ xs, SqT K H a xs ∧ xs[i]? = some x
  | .str y => ∃ c, y.cps[i]? = some c ∧ x = .str ⟨#[c]⟩
def Src.yl (K : Frag) (H : Hp) (i : Nat) (x : V) : Src → Prop
  | .lst a => ∀ xs, SqL K H a xs → xs[i]? = some x
  | .tup a => ∀ xs, SqT K H a xs → xs[i]? = some x
  | .str y => ∃ c, y.cps[i]? = some c ∧ x = .str ⟨#[c]⟩
section
variable {X : Cx} {pins : List (Addr × Obj)} {σ : St} {H : Hp} {s : Shared}
end
theorem ItsAt.obj {h : Heap} {i : Nat} : ∀ {its : List Addr} {srcs : List Src}, ItsAt h i its srcs → ∀ c ∈ its, ∃ o, h.get? c = some o ∧ ∀ v, o.data ≠ .cell v
  | _, _, .nil, _, hc => by cases hc
  | _, _, .cons (b := src) a t, c, hc => by
    rcases List.mem_cons.mp hc with rfl | hc
    · cases src with
      | lst a' => obtain ⟨o, e, _, d⟩ := a; exact ⟨o, e, fun v z => by rw [d] at z; cases z⟩
      | tup a' => obtain ⟨o, e, _, d⟩ := a; exact ⟨o, e, fun v z => by rw [d] at z; cases z⟩
      | str y => obtain ⟨_, _, _, o, e, _, d⟩ := a; exact ⟨o, e, fun v z => by rw [d] at z; cases z⟩
    · exact ItsAt.obj t c hc
end L3
set_option Elab.async false
set_option linter.all false
set_option autoImplicit false
set_option maxRecDepth 100000
namespace L3
open PySem PySem.Spec PyProof.Rows L2
def Src.hv (K : Frag) (H : Hp) : Src → Prop
  | .lst a => ∃ xs, SqL K H a xs
  | .tup a => ∃ xs, SqT K H a xs
  | .str _ => True
section
variable {X : Cx} {tg : Expr}
end
inductive SD (K : Frag) (tw : Tw) (F : Hp) : Src → List D → Prop
  | lst {a : Addr} {us : List V} {ds : List D} : SqL K F a us → DvAll K tw F us ds → SD K tw F (.lst a) ds
  | tup {a : Addr} {us : List V} {ds : List D} : F a = some (.tup us) → DvAll K tw F us ds → SD K tw F (.tup a) ds
  | str (x : Str) : SD K tw F (.str x) (signs x)
section
variable {K : Frag} {tw : Tw} {F : Hp}
theorem SD.hv {H : Hp} {src : Src} {ys : List D} (h : SD K tw F src ys) (s : Same F H) : Src.hv K H src := by
  cases h with
  | lst h1 _ => exact ⟨_, s.seq h1⟩
  | tup h1 _ => exact ⟨_, SqT.of (s _ _ h1)⟩
  | str x => trivial
theorem signs_get {x : Str} {i : Nat} {d : D} (h : (signs x)[i]? = some d) : ∃ c, x.cps[i]? = some c ∧ d = .str ⟨#[c]⟩ := by
  unfold signs at h
  rw [List.getElem?_map] at h
  cases q : x.cps.toList[i]? with
  | none => rw [q] at h; cases h
  | some c => rw [q] at h; cases h; exact ⟨c, by simpa using q, rfl⟩
theorem SD.at' {F1 H : Hp} {src : Src} {ys : List D} {i : Nat} {d : D} (h : SD K tw F src ys) (s0 : Same F F1) (s : Same F1 H) (e : ys[i]? = some d) : (∃ x, Src.at' K H i x src) ∧ ∀ x, Src.yl K H i x src → Dv K tw F1 x d := by
  cases h with
  | @lst a us _ h1 h2 =>
    obtain ⟨v, e1, e2⟩ := h2.get e
    have hs := (s0.trans s).seq h1
    exact ⟨⟨v, us, hs, e1⟩, fun x hx => by have := hx us hs; rw [e1] at this; cases this; exact e2.up s0⟩
  | @tup a us _ h1 h2 =>
    obtain ⟨v, e1, e2⟩ := h2.get e
    have hs : SqT K H a us := SqT.of ((s0.trans s) _ _ h1)
    exact ⟨⟨v, us, hs, e1⟩, fun x hx => by have := hx us hs; rw [e1] at this; cases this; exact e2.up s0⟩
  | str y =>
    obtain ⟨c, hc, rfl⟩ := signs_get e
    refine ⟨⟨_, c, hc, rfl⟩, fun x hx => ?_⟩
    obtain ⟨c', hc', rfl⟩ := hx
    rw [hc] at hc'
    cases hc'
    exact .str _
end
section
variable {X : Cx} {tg e : Expr} {es : List Expr} {qs : QA} {q : QE} {p pos p2 : Pos}
end
end L3
set_option Elab.async false
set_option linter.all false
set_option autoImplicit false
set_option maxRecDepth 100000
namespace L3
open PySem PySem.Spec PyProof.Rows L2
def insL (a : List Int) : List (List Int) → List (List Int)
  | [] => [a]
  | b :: l => if HT.lexLt b a = true then b :: insL a l else a :: b :: l
def srtL : List (List Int) → List (List Int)
  | [] => []
  | a :: l => insL a (srtL l)
theorem ins_perm (a : List Int) : ∀ l, (insL a l).Perm (a :: l)
  | [] => List.Perm.refl _
  | b :: l => by
    unfold insL
    split
    · exact ((ins_perm a l).cons b).trans (List.Perm.swap a b l)
    · exact List.Perm.refl _
theorem srt_perm : ∀ l, (srtL l).Perm l
  | [] => List.Perm.refl _
  | a :: l => (ins_perm a (srtL l)).trans ((srt_perm l).cons a)
theorem lex_le_trans {a b c : List Int} (h1 : HT.lexLt b a = false) (h2 : HT.lexLt c b = false) : HT.lexLt c a = false := by
  cases h : HT.lexLt c a with
  | false => rfl
  | true =>
    cases h3 : HT.lexLt a b with
    | true => rw [lex_tr h h3] at h2; cases h2
    | false => rw [lex_tot h3 h1] at h; rw [h] at h2; cases h2
theorem ins_up (a : List Int) : ∀ l, LexUp l → LexUp (insL a l)
  | [], _ => List.pairwise_singleton _ _
  | b :: l, h => by
    obtain ⟨h1, h2⟩ := List.pairwise_cons.mp h
    unfold insL
    cases hb : HT.lexLt b a with
    | true =>
      rw [if_pos rfl]
      refine List.Pairwise.cons (fun x hx => ?_) (ins_up a l h2)
      rcases List.mem_cons.mp ((ins_perm a l).mem_iff.mp hx) with rfl | hx
      · cases h3 : HT.lexLt x b with
        | false => rfl
        | true => have := lex_tr hb h3; rw [lex_irr] at this; cases this
      · exact h1 x hx
    | false =>
      rw [if_neg (by simp)]
      refine List.Pairwise.cons (fun x hx => ?_) h
      rcases List.mem_cons.mp hx with rfl | hx
      · exact hb
      · exact lex_le_trans hb (h1 x hx)
theorem srt_up : ∀ l, LexUp (srtL l)
  | [] => .nil
  | a :: l => ins_up a _ (srt_up l)
theorem up_uniq : ∀ {l m : List (List Int)}, LexUp l → LexUp m → l.Perm m → l = m
  | [], m, _, _, p => (List.nil_perm.mp p).symm
  | a :: l, [], _, _, p => by have := p.length_eq; simp at this
  | a :: l, b :: m, h1, h2, p => by
    obtain ⟨g1, g2⟩ := List.pairwise_cons.mp h1
    obtain ⟨k1, k2⟩ := List.pairwise_cons.mp h2
    have hab : a = b := by
      have ha : a ∈ b :: m := p.mem_iff.mp List.mem_cons_self
      have hb : b ∈ a :: l := p.mem_iff.mpr List.mem_cons_self
      rcases List.mem_cons.mp ha with e | ha
      · exact e
      · rcases List.mem_cons.mp hb with e | hb
        · exact e.symm
        · exact lex_tot (g1 b hb |> fun z => by have := k1 a ha; exact this) (g1 b hb)
    subst hab
    rw [up_uniq g2 k2 (List.Perm.cons_inv p)]
theorem srt_of {l m : List (List Int)} (p : m.Perm l) (h : LexUp m) : m = srtL l := up_uniq h (srt_up l) (p.trans (srt_perm l).symm)
theorem srt_id {l : List (List Int)} (h : LexUp l) : srtL l = l := (srt_of (List.Perm.refl l) h).symm
abbrev Cell := Int × Int
def cl (p : Cell) : List Int := [p.1, p.2]
def uncl : List Int → Cell
  | [x, y] => (x, y)
  | _ => (0, 0)
theorem uncl_cl (p : Cell) : uncl (cl p) = p := rfl
def cD (p : Cell) : D := tupI (cl p)
def pcD (ps : List Cell) : D := .tup (ps.map cD)
def srtC (ps : List Cell) : List Cell := (srtL (ps.map cl)).map uncl
theorem srtC_cl (ps : List Cell) : (srtC ps).map cl = srtL (ps.map cl) := by
  have h : ∀ x ∈ srtL (ps.map cl), cl (uncl x) = x := fun x hx => by
    obtain ⟨p, _, rfl⟩ := List.mem_map.mp ((srt_perm _).mem_iff.mp hx)
    rfl
  unfold srtC
  rw [List.map_map]
  conv => rhs; rw [← List.map_id (srtL (ps.map cl))]
  exact List.map_congr_left h
theorem cl_inj {l m : List Cell} (h : l.map cl = m.map cl) : l = m := by
  have := congrArg (List.map uncl) h
  rw [List.map_map, List.map_map] at this
  have e : (uncl ∘ cl) = (id : Cell → Cell) := funext uncl_cl
  rwa [e, List.map_id, List.map_id] at this
theorem srtC_perm (ps : List Cell) : (srtC ps).Perm ps := by
  have := (srt_perm (ps.map cl)).map uncl
  rw [List.map_map] at this
  have e : (uncl ∘ cl) = (id : Cell → Cell) := funext uncl_cl
  rwa [e, List.map_id] at this
def UpC (ps : List Cell) : Prop := LexUp (ps.map cl)
theorem srtC_up (ps : List Cell) : UpC (srtC ps) := by unfold UpC; rw [srtC_cl]; exact srt_up _
theorem srtC_id {l : List Cell} (h : UpC l) : srtC l = l := cl_inj (by rw [srtC_cl]; exact srt_id h)
theorem srtC_len (ps : List Cell) : (srtC ps).length = ps.length := (srtC_perm ps).length_eq
def mx : List Int → Int
  | [] => 0
  | [x] => x
  | x :: y :: l => max x (mx (y :: l))
theorem mx_max : ∀ {l : List Int}, l ≠ [] → mx l ∈ l ∧ ∀ y ∈ l, y ≤ mx l
  | [], h => absurd rfl h
  | [x], _ => by simp [mx]
  | x :: y :: l, _ => by
    obtain ⟨h1, h2⟩ := mx_max (l := y :: l) (by simp)
    have e : mx (x :: y :: l) = max x (mx (y :: l)) := rfl
    rw [e]
    refine ⟨?_, fun z hz => ?_⟩
    · by_cases hx : x ≤ mx (y :: l)
      · rw [Int.max_eq_right hx]; exact List.mem_cons_of_mem _ h1
      · rw [Int.max_eq_left (by omega)]; exact List.mem_cons_self
    · rcases List.mem_cons.mp hz with rfl | hz
      · exact Int.le_max_left _ _
      · exact Int.le_trans (h2 z hz) (Int.le_max_right _ _)
def mxX (ps : List Cell) : Int := mx (ps.map (·.1))
def turn1 (ps : List Cell) : List Cell := srtC (ps.map fun p => (p.2, mxX ps - p.1))
def turnN : Nat → List Cell → List Cell
  | 0, ps => ps
  | n + 1, ps => turn1 (turnN n ps)
structure Norm (ps : List Cell) : Prop where
  ne : ps ≠ []
  few : ps.length ≤ 5
  up : UpC ps
  x0 : ∃ p ∈ ps, p.1 = 0
  y0 : ∃ p ∈ ps, p.2 = 0
  pos : ∀ p ∈ ps, 0 ≤ p.1 ∧ 0 ≤ p.2
end L3
set_option Elab.async false
set_option linter.all false
set_option maxRecDepth 100000
set_option maxHeartbeats 4000000
namespace L3
open PySem PySem.Spec PyProof.Rows L2
theorem lay_all : ∀ {ds : List D}, (∀ d ∈ ds, d.py.canLay0 = true) → PyData.canLayAll0 (pyAll ds) = true
  | [], _ => rfl
  | d :: ds, h => by
    show (d.py.canLay0 && PyData.canLayAll0 (pyAll ds)) = true
    rw [h d List.mem_cons_self, lay_all fun x hx => h x (List.mem_cons_of_mem _ hx)]
    rfl
theorem deep_all {n : Nat} : ∀ {ds : List D}, (∀ d ∈ ds, d.py.depth ≤ n) → PyData.depthAll (pyAll ds) ≤ n
  | [], _ => Nat.zero_le _
  | d :: ds, h => Nat.max_le.mpr ⟨h d List.mem_cons_self, deep_all fun x hx => h x (List.mem_cons_of_mem _ hx)⟩
structure Flat (n : Nat) (d : D) : Prop where
  lay : d.py.canLay0 = true
  deep : d.py.depth ≤ n
theorem Flat.ok {n : Nat} {d : D} (h : Flat n d) (hn : n ≤ 64) : d.ok := by
  show (d.py.canLay0 && decide (d.py.depth ≤ 64)) = true
  rw [h.lay, decide_eq_true (Nat.le_trans h.deep hn)]
  rfl
theorem flat_int (i : Int) : Flat 0 (.int i) := ⟨rfl, Nat.le_refl _⟩
theorem flat_tup {n : Nat} {ds : List D} (h : ∀ d ∈ ds, Flat n d) : Flat (n + 1) (.tup ds) := ⟨lay_all fun d hd => (h d hd).lay, Nat.succ_le_succ (deep_all fun d hd => (h d hd).deep)⟩
theorem flat_lst {n : Nat} {ds : List D} (h : ∀ d ∈ ds, Flat n d) : Flat (n + 1) (.lst ds) := ⟨lay_all fun d hd => (h d hd).lay, Nat.succ_le_succ (deep_all fun d hd => (h d hd).deep)⟩
theorem eqD_refl {d : D} (h : d.ok) : eqD d d = true := SeqAt.eqv_refl _ h.lay
def lk (ps : List Cell) : List D := [pcD ps, pcD (turnN 1 ps), pcD (turnN 2 ps), pcD (turnN 3 ps)]
def kc (p : Cell) : List Key := [.inl p.1, .inl p.2]
theorem ne_no {a b : D} {A B : Prop} (e : a = b) (ok : a.ok) (h : B) : if (!eqD a b) = true then A else B := by
  subst e
  rw [eqD_refl ok]
  exact h
theorem for_inv {g : QG} {tb : QS} {E : EndsD} (I : Ev → Prop) (step : ∀ x ρ (E1 : EndsD), I ρ → E1.rt = E.rt → (∀ ρ', I ρ' → E1.nx ρ') → g x ρ fun ρ' => tb E1 ρ') (done : ∀ ρ, I ρ → E.nx ρ) : ∀ xs ρ, I ρ → forW g tb xs E ρ
  | [], ρ, h => done ρ h
  | x :: xs, ρ, h => step x ρ _ h rfl fun ρ' h' => for_inv I step done xs ρ' h'
end L3
set_option Elab.async false
set_option linter.all false
set_option autoImplicit false
set_option maxRecDepth 100000
namespace L3
open PySem PySem.Spec PyProof.Rows L2
theorem srt_ne {ps : List Cell} {f : Cell → Cell} (h : ps ≠ []) : srtC (ps.map f) ≠ [] := fun z => by
  have := srtC_len (ps.map f)
  rw [z] at this
  simp at this
  exact h (List.length_eq_zero_iff.mp this.symm)
section
variable {ps : List Cell}
theorem Norm.self (h : Norm ps) : ps = srtC (ps.map fun p => (p.1, p.2)) := by
  have : (ps.map fun p : Cell => (p.1, p.2)) = ps := by simp
  rw [this, srtC_id h.up]
structure Pc (ps : List Cell) : Prop extends Norm ps where
  nd : ps.Nodup
  le : ∀ p ∈ ps, p.1 ≤ 4 ∧ p.2 ≤ 4
theorem mxX_mem (h : ps ≠ []) : ∃ p ∈ ps, p.1 = mxX ps := by
  obtain ⟨h1, _⟩ := mx_max (l := ps.map (·.1)) (by simpa using h)
  obtain ⟨p, hp, e⟩ := List.mem_map.mp h1
  exact ⟨p, hp, e⟩
theorem mxX_le (h : ps ≠ []) : ∀ p ∈ ps, p.1 ≤ mxX ps := fun p hp => (mx_max (l := ps.map (·.1)) (by simpa using h)).2 _ (List.mem_map.mpr ⟨p, hp, rfl⟩)
theorem pc_map {f : Cell → Cell} (h : Pc ps) (inj : ∀ p q, f p = f q → p = q) (hb : ∀ p ∈ ps, 0 ≤ (f p).1 ∧ 0 ≤ (f p).2 ∧ (f p).1 ≤ 4 ∧ (f p).2 ≤ 4) (hx : ∃ p ∈ ps, (f p).1 = 0) (hy : ∃ p ∈ ps, (f p).2 = 0) : Pc (srtC (ps.map f)) := by
  have hp := srtC_perm (ps.map f)
  have mem : ∀ q ∈ srtC (ps.map f), ∃ p ∈ ps, f p = q := fun q hq => List.mem_map.mp (hp.mem_iff.mp hq)
  refine ⟨⟨srt_ne h.ne, by rw [srtC_len, List.length_map]; exact h.few, srtC_up _, ?_, ?_, fun q hq => ?_⟩, ?_, fun q hq => ?_⟩
  · obtain ⟨p, hp1, e⟩ := hx
    exact ⟨f p, hp.mem_iff.mpr (List.mem_map.mpr ⟨p, hp1, rfl⟩), e⟩
  · obtain ⟨p, hp1, e⟩ := hy
    exact ⟨f p, hp.mem_iff.mpr (List.mem_map.mpr ⟨p, hp1, rfl⟩), e⟩
  · obtain ⟨p, hp1, rfl⟩ := mem q hq
    exact ⟨(hb p hp1).1, (hb p hp1).2.1⟩
  · refine hp.nodup_iff.mpr (List.pairwise_map.mpr (List.Pairwise.imp (fun {a b} hab e => hab (inj a b e)) h.nd))
  · obtain ⟨p, hp1, rfl⟩ := mem q hq
    exact (hb p hp1).2.2
theorem Pc.turn1 (h : Pc ps) : Pc (turn1 ps) := by
  obtain ⟨m, hm, em⟩ := mxX_mem h.ne
  have hle := mxX_le h.ne
  refine pc_map h (fun p q e => ?_) (fun p hp => ?_) ?_ ?_
  · obtain ⟨x, y⟩ := p
    obtain ⟨u, v⟩ := q
    simp only [Prod.mk.injEq] at e ⊢
    constructor <;> omega
  · have := hle p hp
    have := h.pos p hp
    have := h.le p hp
    have := h.le m hm
    refine ⟨this.1 |> fun _ => ?_, ?_, ?_, ?_⟩ <;> simp only <;> omega
  · obtain ⟨p, hp, e⟩ := h.y0
    exact ⟨p, hp, e⟩
  · exact ⟨m, hm, by simp only; omega⟩
theorem Pc.turnN (h : Pc ps) : ∀ n, Pc (turnN n ps)
  | 0 => h
  | n + 1 => (Pc.turnN h n).turn1
end
def numOk : D → Bool
  | .int i => decide (0 ≤ i) && decide (i ≤ 4)
  | _ => false
def cellOk : D → Bool
  | .tup [a, b] => numOk a && numOk b
  | _ => false
def unD : D → Cell
  | .tup [.int x, .int y] => (x, y)
  | _ => (0, 0)
def rises : List Cell → Bool
  | [] => true
  | [_] => true
  | a :: b :: l => HT.lexLt (cl a) (cl b) && rises (b :: l)
def touch (ps : List Cell) : Bool := (ps.any fun p => p.1 == 0) && ps.any fun p => p.2 == 0
def pieceOk : D → Bool
  | .tup ds => (decide (1 ≤ ds.length) && decide (ds.length ≤ 5)) && (ds.all cellOk && (rises (ds.map unD) && touch (ds.map unD)))
  | _ => false
theorem un_cD (ps : List Cell) : (ps.map cD).map unD = ps := by
  rw [List.map_map]
  have : (unD ∘ cD) = (id : Cell → Cell) := funext fun _ => rfl
  rw [this, List.map_id]
theorem rises_of : ∀ {ps : List Cell}, UpC ps → ps.Nodup → rises ps = true
  | [], _, _ => rfl
  | [_], _, _ => rfl
  | a :: b :: l, h, nd => by
    obtain ⟨h1, h2⟩ := List.pairwise_cons.mp (show LexUp (cl a :: cl b :: l.map cl) from h)
    have hne : a ≠ b := fun z => (List.nodup_cons.mp nd).1 (by rw [z]; exact List.mem_cons_self)
    have hlt : HT.lexLt (cl a) (cl b) = true := by
      cases e : HT.lexLt (cl a) (cl b) with
      | true => rfl
      | false =>
        have := lex_tot e (h1 (cl b) List.mem_cons_self)
        exact absurd (by have := congrArg uncl this; exact this) hne
    show (HT.lexLt (cl a) (cl b) && rises (b :: l)) = true
    rw [hlt, rises_of (ps := b :: l) h2 (List.nodup_cons.mp nd).2]
    rfl
theorem Pc.ok {ps : List Cell} (h : Pc ps) : pieceOk (pcD ps) = true := by
  show ((decide (1 ≤ (ps.map cD).length) && decide ((ps.map cD).length ≤ 5)) && ((ps.map cD).all cellOk && (rises ((ps.map cD).map unD) && touch ((ps.map cD).map unD)))) = true
  rw [un_cD, rises_of h.up h.nd, List.length_map, decide_eq_true (show 1 ≤ ps.length from List.length_pos_iff.mpr h.ne), decide_eq_true h.few]
  have a1 : (ps.map cD).all cellOk = true := by
    rw [List.all_map, List.all_eq_true]
    intro p hp
    show (numOk (.int p.1) && numOk (.int p.2)) = true
    have := h.pos p hp
    have := h.le p hp
    simp [numOk]
    omega
  have a2 : touch ps = true := by
    unfold touch
    rw [Bool.and_eq_true, List.any_eq_true, List.any_eq_true]
    obtain ⟨p, hp, e⟩ := h.x0
    obtain ⟨q, hq, e'⟩ := h.y0
    exact ⟨⟨p, hp, by simp [e]⟩, ⟨q, hq, by simp [e']⟩⟩
  rw [a1, a2]
  rfl
theorem kc_inj {p q : Cell} (h : kc p = kc q) : p = q := by
  obtain ⟨x, y⟩ := p
  obtain ⟨u, v⟩ := q
  simp [kc] at h
  rw [h.1, h.2]
end L3
set_option Elab.async false
set_option linter.all false
set_option autoImplicit false
set_option maxRecDepth 100000
namespace L3
open PySem PySem.Spec PyProof.Rows L2
open AutoSeq1 (wpAny_loadPart')
def dAddS : RD2 := fun x y Q => ∃ a b, x.d = .str a ∧ y.d = .str b ∧ a.length + b.length ≤ sizeLine ∧ Q (.dat (.str (a ++ b)))
section
variable {X : Cx}
theorem od_addS {K : Frag} : OpD K (fun x y H Q => ∃ i j, x = V.str i ∧ y = V.str j ∧ i.length + j.length ≤ sizeLine ∧ Q (.str (i ++ j)) H) dAddS := by
  rintro tw Hs F H v u x y Q QQ st r1 r2 ⟨a, b, e1, e2, hl, q⟩ k
  exact ⟨a, b, r1.str e1, r2.str e2, hl, k _ _ (post_here st (.dat (.str _)) q)⟩
theorem de_addS {a b : Expr} {qa qb : QE} {pos : Pos} (ha : DE X a qa) (hb : DE X b qb) : DE X (.BinOp a .Add b pos) (qOp dAddS qa qb) := de_op op_add_str od_addS ha hb
theorem list_addS (l b : Addr) (items items2 : Array Value) (n n2 : Nat) (sl sl2 : Array (Option Value)) (hsz : items.size + items2.size ≤ sizeLine) :
    Meets (Builtin.«list.__add__» ⟨[.ref l, .ref b], []⟩) (fun _ R s => s.heap.get? l = some { cls := .type "list", dict := none, data := .seq items n, slots := sl } ∧ s.heap.get? b = some { cls := .type "list", dict := none, data := .seq items2 n2, slots := sl2 } ∧ R (.ok (.ret (Value.ref s.heap.objs.size))) { s with heap := s.heap.push { cls := Value.type "list", data := Data.seq (items ++ items2) }, toks := s.toks }) :=
  .of_wp fun prog w A R s h => by obtain ⟨hp, g, d, tk, os⟩ := s; obtain ⟨hl, hb, h⟩ := h; have f3 := AutoSeq1.sub_list_list; wp_walk using wpAny_loadPart' hl, wpAny_loadPart' hb; exact ⟨_, rfl, h⟩
def rAddL (K : Frag) : R2 := fun x y H Q => ∃ a b xs ys, x = .ref a ∧ y = .ref b ∧ SqL K H a xs ∧ SqL K H b ys ∧ xs.length + ys.length ≤ sizeLine ∧ ∀ p, H p = none → Q (.ref p) (upd H p (.lst (xs ++ ys)))
theorem op_addL : OpR X (binaryOp .Add) (rAddL X.K) := by
  intro pins s σ H x y v u Q I rx ry h
  obtain ⟨a, b, xs, ys, rfl, rfl, ha, hb, hz, q⟩ := h
  cases rx
  cases ry
  obtain ⟨its, r1, ⟨⟨cls, dd, data, sl⟩, n, ho, hc, hdd, hd⟩, _⟩ := I.list ha
  obtain ⟨its2, r2, ⟨⟨cls2, dd2, data2, sl2⟩, n2, ho2, hc2, hdd2, hd2⟩, _⟩ := I.list hb
  simp only at hc hd hc2 hd2 hdd hdd2
  subst hc hd hc2 hd2 hdd hdd2
  have e : its.toArray ++ its2.toArray = (its ++ its2).toArray := by simp
  refine concat_meets ⟨_, ho, rfl⟩ ⟨_, ho2, rfl⟩ noFill_list_add seq_list_add PySem.F.slot_list_add PySem.F.entry_list_add (PySem.F.args_list_add_2 _ _)
    (list_addS a b its.toArray its2.toArray n n2 sl sl2 (by rw [List.size_toArray, List.size_toArray, ← r1.length, ← r2.length]; exact hz)) ⟨ho, ho2, ?_⟩
  rw [e]
  exact ⟨.ref _, _, I.lnew (t' := s.toks) (r1.append r2) (by rw [List.length_append]; exact hz), rfl, q _ I.fresh⟩
def dAddL : RD2 := fun x y Q => ∃ ds es, x.d = .lst ds ∧ y.d = .lst es ∧ ds.length + es.length ≤ sizeLine ∧ Q (.fresh (.lst (ds ++ es)))
theorem od_addL {K : Frag} : OpD K (rAddL K) dAddL := by
  rintro tw Hs F H v u x y Q QQ st r1 r2 ⟨ds, es, e1, e2, hl, q⟩ k
  obtain ⟨a, us, rfl, h1, h2⟩ := r1.lst st.sub e1
  obtain ⟨b, ws, rfl, h3, h4⟩ := r2.lst st.sub e2
  exact ⟨a, b, us, ws, rfl, rfl, h1, h3, by rw [h2.length, h4.length]; exact hl, fun p hp => k _ _ (post_lst st (h2.append h4) hp q)⟩
theorem de_addL {a b : Expr} {qa qb : QE} {pos : Pos} (ha : DE X a qa) (hb : DE X b qb) : DE X (.BinOp a .Add b pos) (qOp dAddL qa qb) := de_op op_addL od_addL ha hb
theorem lf_m1 {K : Frag} {r : V → List V → Hp → VK → Prop} {rD : RD2} {qa qb : QE} (o : OpD K (fun x y H Q => r x [y] H Q) rD) : ∀ σ H Q, lfE K (fun ρ Q => qa ρ fun x => (∃ a, x.d = .str a) ∧ qb ρ fun y => rD x y Q) σ H Q → tM1 r (lfE K qa) (lfE K qb) σ H Q := by
  rintro σ H QQ ⟨tw, H0, F, ρ, Q, st, rp, q, k⟩
  refine ⟨tw, H0, F, ρ, _, st, rp, q, fun v H1 p => ?_⟩
  obtain ⟨F1, x, s1, r1, ⟨a, ea⟩, q1⟩ := p
  refine ⟨⟨a, r1.str ea⟩, tw, H0, F1, ρ, _, s1.st, rp.step s1, q1, fun u H2 p => ?_⟩
  obtain ⟨F2, y, s2, r2, q2⟩ := p
  exact o tw H F2 H2 v u x y Q QQ (s1.trans s2).st (r1.step s2) (r2.back fun a e => s1.free e) q2 fun v' H' pp => k v' H' (pp.pre (s1.trans s2))
def qM1 (rD : RD2) (qa qb : QE) : QE := fun ρ Q => qa ρ fun x => (∃ a, x.d = .str a) ∧ qb ρ fun y => rD x y Q
def dJoin : RD2 := fun x y Q => ∃ (a : Str) (ys : List Str), x.d = .str a ∧ (y.d = .lst (ys.map D.str) ∨ y.d = .tup (ys.map D.str)) ∧ (ys.map (·.length)).sum + ys.length * a.length ≤ 16777216 ∧ Q (.dat (.str (Txt.join a ys)))
theorem od_join {K : Frag} : OpD K (fun x y H Q => ∃ a p, ∃ ys : List Str, x = V.str a ∧ [y] = [V.ref p] ∧ (SqL K H p (ys.map V.str) ∨ SqT K H p (ys.map V.str)) ∧ (ys.map (·.length)).sum + ys.length * a.length ≤ 16777216 ∧ Q (.str (Txt.join a ys)) H) dJoin := by
  rintro tw Hs F H v u x y Q QQ st r1 r2 ⟨a, ys, e1, e2, hl, q⟩ k
  rcases e2 with e2 | e2
  · obtain ⟨p, us, rfl, g1, g2⟩ := r2.lst st.sub e2
    rw [g2.strs] at g1
    exact ⟨a, p, ys, r1.str e1, rfl, .inl g1, hl, k _ _ (post_here st (.dat (.str _)) q)⟩
  · obtain ⟨p, us, rfl, g1, g2⟩ := r2.tup e2
    rw [g2.strs] at g1
    exact ⟨a, p, ys, r1.str e1, rfl, .inr (SqT.of (st.sub _ _ g1)), hl, k _ _ (post_here st (.dat (.str _)) q)⟩
section
variable {o e : Expr} {qa qb : QE} {apos pos : Pos}
theorem de_join (ho : DE X o qa) (he : DE X e qb) (hs : starEach [e] X.env = [(false, eval e X.env)] := by rfl) (hbase : attributeBase o "join" X.env (eval o X.env) = eval o X.env := by rfl) (hline : (apos.endLine == pos.line) = true := by rfl) :
    DE X (.Call (.Attribute o "join" apos) [e] [] pos) (qM1 dJoin qa qb) := ⟨PE.imp (pe_join ho.pe he.pe hs hbase hline) (lf_m1 od_join)⟩
end
end
end L3
set_option Elab.async false
set_option linter.all false
set_option autoImplicit false
set_option maxRecDepth 100000
namespace L3
open PySem PySem.Spec PyProof.Rows L2
def sg (b : Bool) : Nat := if b = true then 35 else 46
def rowS (bs : List Bool) : Str := ⟨(bs.map sg).toArray⟩
def rowD (bs : List Bool) : D := .str (rowS bs)
def shD (rows : List (List Bool)) : D := .tup (rows.map rowD)
theorem rowS_len (bs : List Bool) : (rowS bs).length = bs.length := by show (bs.map sg).toArray.size = _; simp
structure Sh (wd : Nat) (rows : List (List Bool)) : Prop where
  ne : rows ≠ []
  few : rows.length ≤ 20
  w1 : 1 ≤ wd
  w10 : wd ≤ 10
  each : ∀ r ∈ rows, r.length = wd
def okC (c : Nat) : Bool := c == 46 || c == 35
def rowOk : D → Bool
  | .str x => (decide (1 ≤ x.length) && decide (x.length ≤ 10)) && x.cps.toList.all okC
  | _ => false
def lenOf : D → Nat
  | .str x => x.length
  | _ => 0
def shaftOk : D → Bool
  | .tup ds => (decide (1 ≤ ds.length) && decide (ds.length ≤ 20)) && (ds.all rowOk && ds.all fun r => lenOf r == lenOf (ds.getD 0 .non))
  | _ => false
theorem okC_sg (b : Bool) : okC (sg b) = true := by cases b <;> rfl
theorem rowOk_row {bs : List Bool} (h1 : 1 ≤ bs.length) (h10 : bs.length ≤ 10) : rowOk (rowD bs) = true := by
  show ((decide (1 ≤ (rowS bs).length) && decide ((rowS bs).length ≤ 10)) && ((bs.map sg).toArray).toList.all okC) = true
  rw [rowS_len, decide_eq_true h1, decide_eq_true h10, List.toList_toArray, List.all_map]
  simp only [Bool.and_self, Bool.true_and]
  rw [List.all_eq_true]
  intro b _
  exact okC_sg b
theorem Sh.ok {wd : Nat} {rows : List (List Bool)} (h : Sh wd rows) : shaftOk (shD rows) = true := by
  show ((decide (1 ≤ (rows.map rowD).length) && decide ((rows.map rowD).length ≤ 20)) && ((rows.map rowD).all rowOk && (rows.map rowD).all fun r => lenOf r == lenOf ((rows.map rowD).getD 0 .non))) = true
  rw [List.length_map, decide_eq_true (show 1 ≤ rows.length from List.length_pos_iff.mpr h.ne), decide_eq_true h.few]
  have a1 : (rows.map rowD).all rowOk = true := by
    rw [List.all_map, List.all_eq_true]
    intro r hr
    have e := h.each r hr
    exact rowOk_row (by rw [e]; exact h.w1) (by rw [e]; exact h.w10)
  have hl : ∀ r ∈ rows, lenOf (rowD r) = wd := fun r hr => by show (rowS r).length = wd; rw [rowS_len, h.each r hr]
  have a2 : ((rows.map rowD).all fun r => lenOf r == lenOf ((rows.map rowD).getD 0 .non)) = true := by
    rw [List.all_map, List.all_eq_true]
    intro r hr
    have hpos : 0 < rows.length := List.length_pos_iff.mpr h.ne
    have e0 : (rows.map rowD).getD 0 .non = rowD rows[0] := by
      rw [List.getD_eq_getElem?_getD, List.getElem?_map, List.getElem?_eq_getElem hpos]
      rfl
    show (lenOf (rowD r) == lenOf ((rows.map rowD).getD 0 .non)) = true
    rw [e0, hl r hr, hl _ (List.getElem_mem hpos)]
    simp
  rw [a1, a2]
  rfl
def StrOk (x : Str) : Prop := x.cps.all (· < 0x110000) = true
theorem flat_str {x : Str} (h : StrOk x) : Flat 0 (.str x) := ⟨h, Nat.le_refl _⟩
theorem strOk_one {x : Str} (h : StrOk x) {c : Nat} (hc : c ∈ x.cps.toList) : StrOk ⟨#[c]⟩ := by
  unfold StrOk at h ⊢
  rw [Array.all_eq_true_iff_forall_mem] at h ⊢
  intro y hy
  rw [show y = c by simpa using hy]
  exact h c (by simpa using hc)
theorem Flat.up {n m : Nat} {d : D} (h : Flat n d) (hm : n ≤ m) : Flat m d := ⟨h.lay, Nat.le_trans h.deep hm⟩
theorem strOk_app {x y : Str} (hx : StrOk x) (hy : StrOk y) : StrOk (x ++ y) := by
  unfold StrOk at *
  show (x.cps ++ y.cps).all _ = true
  rw [Array.all_append, hx, hy]
  rfl
theorem sok_of (l : List Nat) {x : Str} (h : l.all (fun c => decide (c < 0x110000)) = true) (e : x = ⟨l.toArray⟩) : StrOk x := by
  subst e
  unfold StrOk
  rw [Array.all_eq_true_iff_forall_mem]
  intro c hc
  exact List.all_eq_true.mp h c (by simpa using hc)
theorem strOk_cut {x : Str} (h : StrOk x) (lo hi : Option Int) : StrOk (cutS x lo hi) := by
  refine sok_of _ (List.all_eq_true.mpr fun c hc => ?_) rfl
  unfold StrOk at h
  rw [Array.all_eq_true_iff_forall_mem] at h
  exact h c (by simpa using List.mem_of_mem_drop (List.mem_of_mem_take hc))
end L3
set_option Elab.async false
set_option linter.all false
set_option autoImplicit false
set_option maxRecDepth 100000
namespace L3
open PySem PySem.Spec PyProof.Rows L2
open AutoSeq1 (wpAny_loadPart')
section
variable {prog : Program} {w : World} {A : Around} {E : Value → Shared → Prop} {s : Shared}
end
section
variable {X : Cx} {a : Expr} {qa : QE} {elts : List Expr} {kk : Nat} {p pos tpos : Pos}
end
end L3
set_option Elab.async false
set_option linter.all false
set_option autoImplicit false
set_option maxRecDepth 100000
namespace L3
open PySem PySem.Spec PyProof.Rows L2
def From (ρ2 ρ : Ev) : Prop := ρ2.length = ρ.length ∧ ∀ (i : Nat) (r : R), ρ2[i]? = some (some r) → (∀ d, r ≠ .dat d) → ρ[i]? = some (some r)
theorem From.refl (ρ : Ev) : From ρ ρ := ⟨rfl, fun _ _ h _ => h⟩
theorem From.trans {a b c : Ev} (h : From a b) (k : From b c) : From a c := ⟨h.1.trans k.1, fun i r e n => k.2 i r (h.2 i r e n) n⟩
theorem From.set {ρ : Ev} (i : Nat) (d : D) : From (ρ.set i (some (.dat d))) ρ := ⟨List.length_set, fun j r e n => by
  by_cases h : i = j
  · subst h
    by_cases hl : i < ρ.length
    · rw [List.getElem?_set_self hl] at e; cases e; exact absurd rfl (n _)
    · rw [List.getElem?_eq_none (by rw [List.length_set]; omega)] at e; cases e
  · rwa [List.getElem?_set_ne h] at e⟩
theorem Off.more {α : Type} {sl sl' : List Nat} {σ σ' : List α} (h : Off sl σ σ') (k : ∀ i ∈ sl, i ∈ sl') : Off sl' σ σ' := ⟨h.1, fun j hj => h.2 j fun z => hj (k j z)⟩
end L3
set_option Elab.async false
set_option linter.all false
set_option autoImplicit false
set_option maxRecDepth 100000
namespace L3
open PySem PySem.Spec PyProof.Rows L2
abbrev gD (xs : Array Keyed) (i : Nat) : Keyed := xs.getD i (.none, .none)
theorem gD_get {xs : Array Keyed} {i : Nat} (h : i < xs.size) : xs[i]? = some (gD xs i) := by
  unfold gD
  rw [Array.getD_eq_getD_getElem?, Array.getElem?_eq_getElem h]
  rfl
theorem gD_mem {xs : Array Keyed} {i : Nat} (h : i < xs.size) : gD xs i ∈ xs.toList := by
  have := gD_get h
  rw [← Array.getElem?_toList] at this
  exact List.mem_of_getElem? this
structure Cmp (prog : Program) (w : World) (A : Around) (E : Value → Shared → Prop) (s : Shared) (κ : SortKind) (S : Keyed → Prop) (L : Keyed → Keyed → Bool) : Prop where
  ask : ∀ x y (st : SortSt) (Q : Option Bool → SortSt → Prop), S x → S y → kindOf st = κ → Q (some (L x y)) st → wpS (model prog w) A E s (lt' x y) Q st
  irr : ∀ x, L x x = false
  nt : ∀ x y z, L y x = false → L z y = false → L z x = false
  as : ∀ x y, L x y = true → L y x = false
def Seg (L : Keyed → Keyed → Bool) (xs : Array Keyed) (lo hi : Nat) : Prop := ∀ i j, lo ≤ i → i ≤ j → j < hi → L (gD xs j) (gD xs i) = false
structure Mv (κ : SortKind) (st st' : SortSt) (lo hi : Nat) : Prop where
  pm : (arrOf st').Perm (arrOf st)
  kd : kindOf st' = κ
  fl : failedOf st' = none
  pd : pendingOf st' = pendingOf st
  off : ∀ k, (k < lo ∨ hi ≤ k) → (arrOf st')[k]? = (arrOf st)[k]?
theorem Mv.size {κ : SortKind} {st st' : SortSt} {lo hi : Nat} (h : Mv κ st st' lo hi) : (arrOf st').size = (arrOf st).size := h.pm.size_eq
theorem Mv.trans {κ : SortKind} {a b c : SortSt} {lo hi : Nat} (h : Mv κ a b lo hi) (k : Mv κ b c lo hi) : Mv κ a c lo hi :=
  ⟨k.pm.trans h.pm, k.kd, k.fl, k.pd.trans h.pd, fun i hi => (k.off i hi).trans (h.off i hi)⟩
theorem Mv.refl {κ : SortKind} {st : SortSt} {lo hi : Nat} (kd : kindOf st = κ) (fl : failedOf st = none) : Mv κ st st lo hi := ⟨Array.Perm.refl _, kd, fl, rfl, fun _ _ => rfl⟩
def AllS (S : Keyed → Prop) (xs : Array Keyed) : Prop := ∀ x ∈ xs.toList, S x
section
variable {prog : Program} {w : World} {A : Around} {E : Value → Shared → Prop} {s : Shared} {κ : SortKind} {S : Keyed → Prop} {L : Keyed → Keyed → Bool}
theorem Cmp.at (C : Cmp prog w A E s κ S L) {st : SortSt} {i j : Nat} {Q : Option Bool → SortSt → Prop} (hS : AllS S (arrOf st)) (hk : kindOf st = κ) (hi : i < (arrOf st).size) (hj : j < (arrOf st).size)
    (h : Q (some (L (gD (arrOf st) i) (gD (arrOf st) j))) st) : wpS (model prog w) A E s (ltAt' i j) Q st := by
  rw [ltAt'_eq]
  refine wpS_bind (wpS_get ?_)
  show wpS _ _ _ _ (do let x ← elem' (arrOf st) i; let y ← elem' (arrOf st) j; lt' x y) Q st
  rw [elem'_eq, elem'_eq, gD_get hi, gD_get hj]
  exact wpS_bind (wpS_pure (wpS_bind (wpS_pure (C.ask _ _ st Q (hS _ (gD_mem hi)) (hS _ (gD_mem hj)) hk h))))
end
end L3
set_option Elab.async false
set_option linter.all false
set_option autoImplicit false
set_option maxRecDepth 100000
namespace L3
open PySem PySem.Spec PyProof.Rows L2
section
variable {prog : Program} {w : World} {A : Around} {E : Value → Shared → Prop} {s : Shared} {κ : SortKind} {S : Keyed → Prop} {L : Keyed → Keyed → Bool}
end
end L3
set_option Elab.async false
set_option linter.all false
set_option autoImplicit false
set_option maxRecDepth 100000
namespace L3
open PySem PySem.Spec PyProof.Rows L2
section
variable {prog : Program} {w : World} {A : Around} {E : Value → Shared → Prop} {s : Shared} {κ : SortKind} {S : Keyed → Prop} {L : Keyed → Keyed → Bool}
end
end L3
set_option Elab.async false
set_option linter.all false
set_option autoImplicit false
set_option maxRecDepth 100000
namespace L3
open PySem PySem.Spec PyProof.Rows L2
abbrev Ord (L : Keyed → Keyed → Bool) (l : List Keyed) : Prop := l.Pairwise fun p q => L q p = false
theorem gD_list {xs : Array Keyed} {i : Nat} (h : i < xs.size) : xs.toList[i]'(by simpa using h) = gD xs i := by
  unfold gD
  rw [Array.getD_eq_getD_getElem?, Array.getElem?_eq_getElem h]
  rfl
theorem mem_ext {xs : Array Keyed} {i j : Nat} {p : Keyed} (h : p ∈ (xs.extract i j).toList) : ∃ k, i ≤ k ∧ k < j ∧ k < xs.size ∧ p = gD xs k := by
  rw [Array.toList_extract, List.extract_eq_take_drop] at h
  obtain ⟨n, hn, e⟩ := List.mem_iff_getElem.mp h
  have hl : n < min (j - i) (xs.toList.length - i) := by simpa using hn
  rw [Array.length_toList] at hl
  rw [List.getElem_take, List.getElem_drop] at e
  exact ⟨i + n, by omega, by omega, by omega, by rw [← e, gD_list (by omega)]⟩
theorem ord_ext {L : Keyed → Keyed → Bool} {xs : Array Keyed} {i j : Nat} (h : Seg L xs 0 xs.size) : Ord L (xs.extract i j).toList := by
  rw [Array.toList_extract, List.extract_eq_take_drop]
  refine List.Pairwise.sublist (List.Sublist.trans (List.take_sublist _ _) (List.drop_sublist _ _)) ?_
  refine List.pairwise_iff_getElem.mpr fun p q hp hq hpq => ?_
  rw [Array.length_toList] at hp hq
  rw [gD_list hp, gD_list hq]
  exact h p q (by omega) (by omega) (by omega)
theorem ext_push {xs : Array Keyed} {i : Nat} (h : i < xs.size) (o : Array Keyed) : o ++ xs.extract i (i + 1) = o.push (gD xs i) := by
  apply Array.toList_inj.mp
  rw [Array.toList_append, Array.toList_push, Array.toList_extract, List.extract_eq_take_drop, show i + 1 - i = 1 by omega]
  congr 1
  rw [List.take_one, List.head?_drop, Array.getElem?_toList, gD_get h]
  rfl
theorem ext_cut {xs : Array Keyed} {i k : Nat} : (xs.extract i (i + k)).toList ++ (xs.extract (i + k) xs.size).toList = (xs.extract i xs.size).toList := by
  rw [Array.toList_extract, Array.toList_extract, Array.toList_extract, List.extract_eq_take_drop, List.extract_eq_take_drop, List.extract_eq_take_drop]
  have e1 : List.take (xs.size - (i + k)) (xs.toList.drop (i + k)) = xs.toList.drop (i + k) := List.take_of_length_le (by simp)
  have e2 : List.take (xs.size - i) (xs.toList.drop i) = xs.toList.drop i := List.take_of_length_le (by simp)
  rw [e1, e2, show i + k - i = k by omega, ← List.drop_drop, List.take_append_drop]
structure Idle (st st' : SortSt) : Prop where
  kd : kindOf st' = kindOf st
  ar : arrOf st' = arrOf st
  pd : pendingOf st' = pendingOf st
  fl : failedOf st' = failedOf st
theorem Idle.refl (st : SortSt) : Idle st st := ⟨rfl, rfl, rfl, rfl⟩
theorem Idle.trans {a b c : SortSt} (h : Idle a b) (k : Idle b c) : Idle a c := ⟨k.kd.trans h.kd, k.ar.trans h.ar, k.pd.trans h.pd, k.fl.trans h.fl⟩
structure MI (L : Keyed → Keyed → Bool) (a b out : Array Keyed) (ia ib : Nat) : Prop where
  ha : ia ≤ a.size
  hb : ib ≤ b.size
  pm : (out.toList ++ ((a.extract ia a.size).toList ++ (b.extract ib b.size).toList)).Perm (a.toList ++ b.toList)
  so : Ord L out.toList
  hx : ∀ o ∈ out.toList, ∀ i, ia ≤ i → i < a.size → L (gD a i) o = false
  hy : ∀ o ∈ out.toList, ∀ j, ib ≤ j → j < b.size → L (gD b j) o = false
variable {L : Keyed → Keyed → Bool} {a b out : Array Keyed} {ia ib k : Nat}
theorem MI.takeA (h : MI L a b out ia ib) (sa : Seg L a 0 a.size) (hk : ia + k ≤ a.size) (hle : ∀ i, ia ≤ i → i < ia + k → ∀ j, ib ≤ j → j < b.size → L (gD b j) (gD a i) = false) : MI L a b (out ++ a.extract ia (ia + k)) (ia + k) ib := by
  refine ⟨hk, h.hb, ?_, ?_, ?_, ?_⟩
  · rw [Array.toList_append, List.append_assoc, ← List.append_assoc (a.extract ia (ia + k)).toList, ext_cut]; exact h.pm
  · rw [Array.toList_append]
    refine List.pairwise_append.mpr ⟨h.so, ord_ext sa, fun p hp q hq => ?_⟩
    obtain ⟨n, h1, h2, h3, rfl⟩ := mem_ext hq
    exact h.hx p hp n h1 h3
  · intro o ho i h1 h2
    rw [Array.toList_append] at ho
    rcases List.mem_append.mp ho with ho | ho
    · exact h.hx o ho i (by omega) h2
    · obtain ⟨n, h3, h4, h5, rfl⟩ := mem_ext ho
      exact sa n i (by omega) (by omega) h2
  · intro o ho j h1 h2
    rw [Array.toList_append] at ho
    rcases List.mem_append.mp ho with ho | ho
    · exact h.hy o ho j h1 h2
    · obtain ⟨n, h3, h4, h5, rfl⟩ := mem_ext ho
      exact hle n h3 h4 j h1 h2
theorem MI.takeB (h : MI L a b out ia ib) (sb : Seg L b 0 b.size) (hk : ib + k ≤ b.size) (hle : ∀ j, ib ≤ j → j < ib + k → ∀ i, ia ≤ i → i < a.size → L (gD a i) (gD b j) = false) : MI L a b (out ++ b.extract ib (ib + k)) ia (ib + k) := by
  refine ⟨h.ha, hk, ?_, ?_, ?_, ?_⟩
  · rw [Array.toList_append, List.append_assoc]
    refine List.Perm.trans (List.Perm.append_left _ ?_) h.pm
    rw [← ext_cut (xs := b) (i := ib) (k := k), ← List.append_assoc, ← List.append_assoc]
    exact List.Perm.append_right _ List.perm_append_comm
  · rw [Array.toList_append]
    refine List.pairwise_append.mpr ⟨h.so, ord_ext sb, fun p hp q hq => ?_⟩
    obtain ⟨n, h1, h2, h3, rfl⟩ := mem_ext hq
    exact h.hy p hp n h1 h3
  · intro o ho i h1 h2
    rw [Array.toList_append] at ho
    rcases List.mem_append.mp ho with ho | ho
    · exact h.hx o ho i h1 h2
    · obtain ⟨n, h3, h4, h5, rfl⟩ := mem_ext ho
      exact hle n h3 h4 i h1 h2
  · intro o ho j h1 h2
    rw [Array.toList_append] at ho
    rcases List.mem_append.mp ho with ho | ho
    · exact h.hy o ho j (by omega) h2
    · obtain ⟨n, h3, h4, h5, rfl⟩ := mem_ext ho
      exact sb n j (by omega) (by omega) h2
theorem MI.pushA (h : MI L a b out ia ib) (sa : Seg L a 0 a.size) (hk : ia < a.size) (hle : ∀ j, ib ≤ j → j < b.size → L (gD b j) (gD a ia) = false) : MI L a b (out.push (gD a ia)) (ia + 1) ib := by
  have := h.takeA (k := 1) sa hk fun i h1 h2 j h3 h4 => by rw [show i = ia by omega]; exact hle j h3 h4
  rwa [ext_push hk] at this
theorem MI.pushB (h : MI L a b out ia ib) (sb : Seg L b 0 b.size) (hk : ib < b.size) (hle : ∀ i, ia ≤ i → i < a.size → L (gD a i) (gD b ib) = false) : MI L a b (out.push (gD b ib)) ia (ib + 1) := by
  have := h.takeB (k := 1) sb hk fun j h1 h2 i h3 h4 => by rw [show j = ib by omega]; exact hle i h3 h4
  rwa [ext_push hk] at this
def Merged (L : Keyed → Keyed → Bool) (a b r : Array Keyed) : Prop := r.toList.Perm (a.toList ++ b.toList) ∧ Ord L r.toList
theorem MI.done (h : MI L a b out ia ib) (sa : Seg L a 0 a.size) (sb : Seg L b 0 b.size) (e : ia = a.size ∨ ib = b.size) : Merged L a b (out ++ a.extract ia a.size ++ b.extract ib b.size) := by
  refine ⟨?_, ?_⟩
  · rw [Array.toList_append, Array.toList_append, List.append_assoc]; exact h.pm
  · rw [Array.toList_append, Array.toList_append]
    refine List.pairwise_append.mpr ⟨List.pairwise_append.mpr ⟨h.so, ord_ext sa, fun p hp q hq => ?_⟩, ord_ext sb, fun p hp q hq => ?_⟩
    · obtain ⟨n, h1, h2, h3, rfl⟩ := mem_ext hq
      exact h.hx p hp n h1 h3
    · obtain ⟨n, h1, h2, h3, rfl⟩ := mem_ext hq
      rcases List.mem_append.mp hp with hp | hp
      · exact h.hy p hp n h1 h3
      · obtain ⟨m, h4, h5, h6, rfl⟩ := mem_ext hp
        exfalso; omega
theorem MI.size (h : MI L a b out ia ib) : out.size + (a.size - ia) + (b.size - ib) = a.size + b.size := by
  have := h.pm.length_eq
  simp only [List.length_append, Array.length_toList, Array.size_extract] at this
  omega
theorem MI.first (hb : 0 < b.size) (h : ∀ i, i < a.size → L (gD a i) (gD b 0) = false) (sb : Seg L b 0 b.size) : MI L a b #[gD b 0] 0 1 := by
  have m0 : MI L a b #[] 0 0 := ⟨by omega, by omega, by simp, by simp, by simp, by simp⟩
  exact m0.pushB sb hb fun i _ h2 => h i h2
section
variable {prog : Program} {w : World} {A : Around} {E : Value → Shared → Prop} {s : Shared} {κ : SortKind} {S : Keyed → Prop}
end
end L3
set_option Elab.async false
set_option linter.all false
set_option autoImplicit false
set_option maxRecDepth 100000
namespace L3
open PySem PySem.Spec PyProof.Rows L2
structure MH (L : Keyed → Keyed → Bool) (a b out : Array Keyed) (na nb : Nat) : Prop where
  ha : na ≤ a.size
  hb : nb ≤ b.size
  pm : ((a.extract 0 na).toList ++ ((b.extract 0 nb).toList ++ out.toList.reverse)).Perm (a.toList ++ b.toList)
  so : Ord L out.toList.reverse
  hx : ∀ o ∈ out.toList, ∀ i, i < na → L o (gD a i) = false
  hy : ∀ o ∈ out.toList, ∀ j, j < nb → L o (gD b j) = false
variable {L : Keyed → Keyed → Bool} {a b out : Array Keyed} {na nb t : Nat}
theorem ext_cut0 {xs : Array Keyed} {t n : Nat} (h : t ≤ n) : (xs.extract 0 t).toList ++ (xs.extract t n).toList = (xs.extract 0 n).toList := by
  rw [Array.toList_extract, Array.toList_extract, Array.toList_extract, List.extract_eq_take_drop, List.extract_eq_take_drop, List.extract_eq_take_drop]
  rw [List.drop_zero, Nat.sub_zero, Nat.sub_zero]
  have : n = t + (n - t) := by omega
  conv => rhs; rw [this, List.take_add]
theorem MH.takeA (h : MH L a b out na nb) (sa : Seg L a 0 a.size) (hk : t ≤ na) (hle : ∀ i, t ≤ i → i < na → ∀ j, j < nb → L (gD a i) (gD b j) = false) : MH L a b (out ++ (a.extract t na).reverse) t nb := by
  have ha := h.ha
  have er : (out ++ (a.extract t na).reverse).toList.reverse = (a.extract t na).toList ++ out.toList.reverse := by rw [Array.toList_append, Array.toList_reverse, List.reverse_append, List.reverse_reverse]
  have em : ∀ o, o ∈ (out ++ (a.extract t na).reverse).toList → o ∈ out.toList ∨ o ∈ (a.extract t na).toList := fun o ho => by
    rw [Array.toList_append, Array.toList_reverse] at ho
    rcases List.mem_append.mp ho with ho | ho
    · exact .inl ho
    · exact .inr (List.mem_reverse.mp ho)
  refine ⟨by omega, h.hb, ?_, ?_, ?_, ?_⟩
  · rw [er]
    refine List.Perm.trans ?_ h.pm
    rw [← ext_cut0 hk, List.append_assoc]
    refine List.Perm.append_left _ ?_
    rw [← List.append_assoc, ← List.append_assoc]
    exact List.Perm.append_right _ List.perm_append_comm
  · rw [er]
    refine List.pairwise_append.mpr ⟨ord_ext sa, h.so, fun p hp q hq => ?_⟩
    obtain ⟨n, h1, h2, h3, rfl⟩ := mem_ext hp
    exact h.hx q (List.mem_reverse.mp hq) n h2
  · intro o ho i h2
    rcases em o ho with ho | ho
    · exact h.hx o ho i (by omega)
    · obtain ⟨n, h3, h4, h5, rfl⟩ := mem_ext ho
      exact sa i n (by omega) (by omega) h5
  · intro o ho j h2
    rcases em o ho with ho | ho
    · exact h.hy o ho j h2
    · obtain ⟨n, h3, h4, h5, rfl⟩ := mem_ext ho
      exact hle n h3 h4 j h2
theorem MH.takeB (h : MH L a b out na nb) (sb : Seg L b 0 b.size) (hk : t ≤ nb) (hle : ∀ j, t ≤ j → j < nb → ∀ i, i < na → L (gD b j) (gD a i) = false) : MH L a b (out ++ (b.extract t nb).reverse) na t := by
  have hb := h.hb
  have er : (out ++ (b.extract t nb).reverse).toList.reverse = (b.extract t nb).toList ++ out.toList.reverse := by rw [Array.toList_append, Array.toList_reverse, List.reverse_append, List.reverse_reverse]
  have em : ∀ o, o ∈ (out ++ (b.extract t nb).reverse).toList → o ∈ out.toList ∨ o ∈ (b.extract t nb).toList := fun o ho => by
    rw [Array.toList_append, Array.toList_reverse] at ho
    rcases List.mem_append.mp ho with ho | ho
    · exact .inl ho
    · exact .inr (List.mem_reverse.mp ho)
  refine ⟨h.ha, by omega, ?_, ?_, ?_, ?_⟩
  · rw [er, ← List.append_assoc (b.extract 0 t).toList, ext_cut0 hk]
    exact h.pm
  · rw [er]
    refine List.pairwise_append.mpr ⟨ord_ext sb, h.so, fun p hp q hq => ?_⟩
    obtain ⟨n, h1, h2, h3, rfl⟩ := mem_ext hp
    exact h.hy q (List.mem_reverse.mp hq) n h2
  · intro o ho i h2
    rcases em o ho with ho | ho
    · exact h.hx o ho i h2
    · obtain ⟨n, h3, h4, h5, rfl⟩ := mem_ext ho
      exact hle n h3 h4 i h2
  · intro o ho j h2
    rcases em o ho with ho | ho
    · exact h.hy o ho j (by omega)
    · obtain ⟨n, h3, h4, h5, rfl⟩ := mem_ext ho
      exact sb j n (by omega) (by omega) h5
theorem ext_push' {xs : Array Keyed} {i : Nat} (h0 : 0 < i) (h : i ≤ xs.size) (o : Array Keyed) : o ++ (xs.extract (i - 1) i).reverse = o.push (gD xs (i - 1)) := by
  have e := ext_push (xs := xs) (i := i - 1) (by omega) #[]
  rw [show i - 1 + 1 = i by omega, Array.empty_append] at e
  rw [e]
  rfl
theorem MH.pushA (h : MH L a b out na nb) (sa : Seg L a 0 a.size) (hk : 0 < na) (hle : ∀ j, j < nb → L (gD a (na - 1)) (gD b j) = false) : MH L a b (out.push (gD a (na - 1))) (na - 1) nb := by
  have := h.takeA (t := na - 1) sa (by omega) fun i h1 h2 j h4 => by rw [show i = na - 1 by omega]; exact hle j h4
  rwa [ext_push' hk h.ha] at this
theorem MH.pushB (h : MH L a b out na nb) (sb : Seg L b 0 b.size) (hk : 0 < nb) (hle : ∀ i, i < na → L (gD b (nb - 1)) (gD a i) = false) : MH L a b (out.push (gD b (nb - 1))) na (nb - 1) := by
  have := h.takeB (t := nb - 1) sb (by omega) fun j h1 h2 i h4 => by rw [show j = nb - 1 by omega]; exact hle i h4
  rwa [ext_push' hk h.hb] at this
theorem MH.done (h : MH L a b out na nb) (sa : Seg L a 0 a.size) (sb : Seg L b 0 b.size) (e : na = 0 ∨ nb = 0) : Merged L a b (a.extract 0 na ++ b.extract 0 nb ++ out.reverse) := by
  refine ⟨?_, ?_⟩
  · rw [Array.toList_append, Array.toList_append, List.append_assoc, Array.toList_reverse]; exact h.pm
  · rw [Array.toList_append, Array.toList_append, List.append_assoc, Array.toList_reverse]
    refine List.pairwise_append.mpr ⟨ord_ext sa, List.pairwise_append.mpr ⟨ord_ext sb, h.so, fun p hp q hq => ?_⟩, fun p hp q hq => ?_⟩
    · obtain ⟨n, h1, h2, h3, rfl⟩ := mem_ext hp
      exact h.hy q (List.mem_reverse.mp hq) n h2
    · obtain ⟨n, h1, h2, h3, rfl⟩ := mem_ext hp
      rcases List.mem_append.mp hq with hq | hq
      · obtain ⟨m, h4, h5, h6, rfl⟩ := mem_ext hq
        exfalso; omega
      · exact h.hx q (List.mem_reverse.mp hq) n h2
theorem MH.size (h : MH L a b out na nb) : out.size + na + nb = a.size + b.size := by
  have := h.pm.length_eq
  have := h.ha
  have := h.hb
  simp only [List.length_append, List.length_reverse, Array.length_toList, Array.size_extract] at *
  omega
theorem MH.first (ha : 0 < a.size) (h : ∀ j, j < b.size → L (gD a (a.size - 1)) (gD b j) = false) (sa : Seg L a 0 a.size) : MH L a b #[gD a (a.size - 1)] (a.size - 1) b.size := by
  have m0 : MH L a b #[] a.size b.size := ⟨by omega, by omega, by simp, by simp, by simp, by simp⟩
  exact m0.pushA sa ha h
section
variable {prog : Program} {w : World} {A : Around} {E : Value → Shared → Prop} {s : Shared} {κ : SortKind} {S : Keyed → Prop}
end
end L3
set_option Elab.async false
set_option linter.all false
set_option autoImplicit false
set_option maxRecDepth 100000
namespace L3
open PySem PySem.Spec PyProof.Rows L2
abbrev over (xs : Array Keyed) (off : Nat) (l : List Keyed) (n : Nat) : Array Keyed := (l.zipIdx n).foldl (fun a (p, j) => a.setIfInBounds (off + j) p) xs
variable {L : Keyed → Keyed → Bool}
section
variable {prog : Program} {w : World} {A : Around} {E : Value → Shared → Prop} {s : Shared} {κ : SortKind} {S : Keyed → Prop}
end
end L3
set_option Elab.async false
set_option linter.all false
set_option autoImplicit false
set_option maxRecDepth 100000
namespace L3
open PySem PySem.Spec PyProof.Rows L2
variable {L : Keyed → Keyed → Bool}
def Runs (L : Keyed → Keyed → Bool) (xs : Array Keyed) : Nat → List (Nat × Nat × Nat) → Nat → Prop
  | a, [], b => a = b
  | a, r :: t, b => r.1 = a ∧ 0 < r.2.1 ∧ Seg L xs a (a + r.2.1) ∧ Runs L xs (a + r.2.1) t b
theorem runs_app {xs : Array Keyed} : ∀ {l m : List (Nat × Nat × Nat)} {a b : Nat}, Runs L xs a (l ++ m) b ↔ ∃ c, Runs L xs a l c ∧ Runs L xs c m b
  | [], m, a, b => ⟨fun h => ⟨a, rfl, h⟩, fun ⟨c, h1, h2⟩ => by have : a = c := h1; subst this; exact h2⟩
  | r :: t, m, a, b => by
    constructor
    · rintro ⟨h1, h2, h3, h4⟩
      obtain ⟨c, h5, h6⟩ := runs_app.mp h4
      exact ⟨c, ⟨h1, h2, h3, h5⟩, h6⟩
    · rintro ⟨c, ⟨h1, h2, h3, h5⟩, h6⟩
      exact ⟨h1, h2, h3, runs_app.mpr ⟨c, h5, h6⟩⟩
section
variable {prog : Program} {w : World} {A : Around} {E : Value → Shared → Prop} {s : Shared} {κ : SortKind} {S : Keyed → Prop}
structure RS (κ : SortKind) (L : Keyed → Keyed → Bool) (a0 : Array Keyed) (lo : Nat) (st : SortSt) : Prop where
  pm : (arrOf st).Perm a0
  kd : kindOf st = κ
  fl : failedOf st = none
  rn : Runs L (arrOf st) 0 (pendingOf st).toList lo
theorem RS.push {a0 : Array Keyed} {lo m : Nat} {st : SortSt} (h : RS κ L a0 lo st) (hm : 0 < m) (sg : Seg L (arrOf st) lo (lo + m)) : RS κ L a0 (lo + m) (setPending st ((pendingOf st).push (lo, m, 0))) :=
  ⟨h.pm, h.kd, h.fl, by
    show Runs L (arrOf st) 0 ((pendingOf st).push (lo, m, 0)).toList (lo + m)
    rw [Array.toList_push]
    exact runs_app.mpr ⟨lo, h.rn, rfl, hm, sg, rfl⟩⟩
end
end L3
set_option Elab.async false
set_option linter.all false
set_option autoImplicit false
set_option maxRecDepth 100000
namespace L3
open PySem PySem.Spec PyProof.Rows L2
def keyOf (h : Heap) : Value → List Int
  | .ref a => match h.get? a with
    | some o => (match o.data with
      | .seq xs _ => xs.toList.map fun v => (match v with
        | .int n _ => n
        | _ => 0)
      | _ => [])
    | none => []
  | _ => []
theorem intsAre_map : ∀ {its : List Value} {ns : List Int}, IntsAre its ns → (its.map fun v => (match v with | .int n _ => n | _ => (0 : Int))) = ns
  | _, _, .nil => rfl
  | _, _, .cons n t h => by rw [List.map_cons, intsAre_map h]
theorem keyOf_tup {h : Heap} {a : Addr} {its : List Value} {ns : List Int} (t : IsTup h a its.toArray) (i : IntsAre its ns) : keyOf h (.ref a) = ns := by
  obtain ⟨o, e, c, n, d⟩ := t
  have : keyOf h (.ref a) = its.map fun v => (match v with | .int n _ => n | _ => (0 : Int)) := by
    simp only [keyOf, e, d]
  rw [this]
  exact intsAre_map i
theorem lex_as (x y : List Int) (h : HT.lexLt x y = true) : HT.lexLt y x = false := by
  cases q : HT.lexLt y x with
  | false => rfl
  | true =>
    have := lex_tr h q
    rw [lex_irr] at this; cases this
section
variable {prog : Program} {w : World} {A : Around} {E : Value → Shared → Prop} {s : Shared}
end
theorem TupsI.keys {h : Heap} : ∀ {vs : List Value} {kss : List (List Int)}, TupsI h vs kss → vs.map (keyOf h) = kss
  | _, _, .nil => rfl
  | _, _, .cons h1 h2 t => by rw [List.map_cons, t.keys, keyOf_tup h1 h2]
section
variable {prog : Program} {w : World} {A : Around} {s : Shared}
end
end L3
set_option Elab.async false
set_option linter.all false
set_option autoImplicit false
set_option maxRecDepth 100000
namespace L3
open PySem PySem.Spec PyProof.Rows L2
section
variable {prog : Program} {w : World} {A : Around} {E : Value → Shared → Prop} {s : Shared}
end
abbrev TupAt (H : Hp) : List Addr → List (List Int) → Prop := Paired fun p ks => H p = some (.tup (ks.map V.int))
section
variable {X : Cx}
end
end L3
set_option Elab.async false
set_option linter.all false
set_option autoImplicit false
set_option maxRecDepth 100000
namespace L3
open PySem PySem.Spec PyProof.Rows L2
section
variable {prog : Program} {w : World} {A : Around} {E : Value → Shared → Prop} {s : Shared}
end
section
variable {X : Cx} {e k : Expr} {te tk : TE} {pos p2 : Pos}
end
section
variable {X : Cx} {i o : Expr} {qk qd : QE} {pos : Pos} {n : Nat}
end
end L3
set_option Elab.async false
set_option linter.all false
set_option autoImplicit false
set_option maxRecDepth 100000
namespace L3
open PySem PySem.Spec PyProof.Rows L2
theorem loopW_ix {α : Type} {body : D → (Option D → Prop) → Prop} {g : α → D} {f : α → Option D} {Q : List D → Prop} : ∀ (is : List α) (acc : List D), (∀ i ∈ is, ∀ (k : Option D → Prop), k (f i) → body (g i) k) → Q (acc ++ is.filterMap f) → loopW body (is.map g) acc Q
  | [], acc, _, hQ => by
    have hQ : Q acc := by simpa using hQ
    exact hQ
  | i :: is, acc, hb, hQ => by
    refine hb i List.mem_cons_self _ ?_
    cases h : f i with
    | none =>
      rw [show acc ++ (none : Option D).toList = acc from List.append_nil acc]
      refine loopW_ix is acc (fun j hj => hb j (List.mem_cons_of_mem _ hj)) ?_
      rw [List.filterMap_cons, h] at hQ
      exact hQ
    | some d =>
      refine loopW_ix is (acc ++ [d]) (fun j hj => hb j (List.mem_cons_of_mem _ hj)) ?_
      rw [List.filterMap_cons, h] at hQ
      rw [List.append_assoc]
      exact hQ
def colAt (rows : List (List Bool)) (x : Nat) : List Bool := rows.map fun r => r.getD x false
def atR (rows : List (List Bool)) (a b : Nat) : Bool := (rows.getD b []).getD a false
theorem colAt_at (rows : List (List Bool)) (x y : Nat) : (colAt rows x).getD y false = atR rows x y := by
  unfold colAt atR
  by_cases h : y < rows.length
  · simp [List.getD_eq_getElem?_getD, h]
  · simp [List.getD_eq_getElem?_getD, List.getElem?_eq_none (Nat.le_of_not_lt h)]
theorem atR_row {wd : Nat} {rows : List (List Bool)} (h : Sh wd rows) {a b : Nat} (e : atR rows a b = true) : a < wd ∧ b < rows.length := by
  unfold atR at e
  by_cases hb : b < rows.length
  · have e2 : rows.getD b [] = rows[b] := by simp [List.getD_eq_getElem?_getD, hb]
    rw [e2] at e
    have hl := h.each _ (List.getElem_mem hb)
    refine ⟨?_, hb⟩
    by_cases ha : a < rows[b].length
    · omega
    · rw [List.getD_eq_getElem?_getD, List.getElem?_eq_none (Nat.le_of_not_lt ha)] at e
      cases e
  · rw [List.getD_eq_getElem?_getD (l := rows), List.getElem?_eq_none (Nat.le_of_not_lt hb)] at e
    simp at e
def hgt : List Bool → Nat
  | [] => 0
  | b :: bs => if hgt bs = 0 then (if b = true then 1 else 0) else hgt bs + 1
theorem hgt_max : ∀ (bs : List Bool) (i : Nat), bs.getD i false = true → i < hgt bs
  | [], i, h => by simp at h
  | b :: bs, 0, h => by
    have h : b = true := by simpa using h
    unfold hgt
    split
    · omega
    · omega
  | b :: bs, i + 1, h => by
    have := hgt_max bs i (by simpa using h)
    unfold hgt
    rw [if_neg (by omega)]
    omega
def StrC (ps : List Cell) : Prop := ps.Pairwise fun p q => HT.lexLt (cl p) (cl q) = true
theorem StrC.up {ps : List Cell} (h : StrC ps) : UpC ps := by
  unfold UpC LexUp
  rw [List.pairwise_map]
  exact h.imp fun e => lex_as _ _ e
structure Part (rows : List (List Bool)) (b a : Nat) (cs : List Cell) : Prop where
  nd : cs.Nodup
  mem : ∀ p, p ∈ cs ↔ ∃ x y : Nat, p = ((x : Int), (y : Int)) ∧ atR rows x y = true ∧ (y < b ∨ y = b ∧ x < a)
  few : cs.length ≤ b * 10 + a
theorem has_kc (cs : List Cell) (p : Cell) : hasK (cs.map kc) (kc p) = true ↔ p ∈ cs := by
  unfold hasK
  rw [List.any_map, List.any_eq_true]
  constructor
  · rintro ⟨q, hq, e⟩
    have e : kc q = kc p := of_decide_eq_true e
    rw [← kc_inj e]; exact hq
  · exact fun h => ⟨p, h, decide_eq_true rfl⟩
theorem Part.zero (rows : List (List Bool)) : Part rows 0 0 [] := ⟨List.nodup_nil, fun p => ⟨fun h => absurd h (List.not_mem_nil), fun ⟨x, y, _, _, h⟩ => absurd h (by omega)⟩, Nat.zero_le _⟩
theorem Part.put {rows : List (List Bool)} {b a : Nat} {cs : List Cell} (h : Part rows b a cs) (e : atR rows a b = true) : ∃ cs' : List Cell, putKs (cs.map kc) (kc ((a : Int), (b : Int))) = cs'.map kc ∧ Part rows b (a + 1) cs' := by
  have hn : (((a : Int), (b : Int)) : Cell) ∉ cs := fun z => by
    obtain ⟨x, y, e1, _, h2⟩ := (h.mem _).mp z
    have e2 := (Prod.mk.inj e1).1
    have e3 := (Prod.mk.inj e1).2
    omega
  refine ⟨cs ++ [((a : Int), (b : Int))], ?_, ?_, fun p => ?_, ?_⟩
  · unfold putKs
    rw [if_neg fun z => hn ((has_kc _ _).mp z), List.map_append]
    rfl
  · rw [List.nodup_append]
    refine ⟨h.nd, by simp, fun p hp q hq z => ?_⟩
    rw [List.mem_singleton.mp hq] at z
    rw [z] at hp
    exact hn hp
  · rw [List.mem_append, List.mem_singleton, h.mem]
    constructor
    · rintro (⟨x, y, rfl, h1, h2⟩ | rfl)
      · exact ⟨x, y, rfl, h1, by omega⟩
      · exact ⟨a, b, rfl, e, by omega⟩
    · rintro ⟨x, y, rfl, h1, h2⟩
      by_cases hxy : x = a ∧ y = b
      · rw [hxy.1, hxy.2]; exact .inr rfl
      · exact .inl ⟨x, y, rfl, h1, by omega⟩
  · rw [List.length_append, List.length_singleton]
    have := h.few
    omega
theorem Part.skip {rows : List (List Bool)} {b a : Nat} {cs : List Cell} (h : Part rows b a cs) (e : atR rows a b = false) : Part rows b (a + 1) cs :=
  ⟨h.nd, fun p => (h.mem p).trans ⟨fun ⟨x, y, h1, h2, h3⟩ => ⟨x, y, h1, h2, by omega⟩, fun ⟨x, y, h1, h2, h3⟩ => ⟨x, y, h1, h2, by
    by_cases hxy : x = a ∧ y = b
    · rw [hxy.1, hxy.2, e] at h2; cases h2
    · omega⟩⟩, by have := h.few; omega⟩
theorem Part.next {wd : Nat} {rows : List (List Bool)} {b : Nat} {cs : List Cell} (hS : Sh wd rows) (h : Part rows b wd cs) : Part rows (b + 1) 0 cs :=
  ⟨h.nd, fun p => (h.mem p).trans ⟨fun ⟨x, y, h1, h2, h3⟩ => ⟨x, y, h1, h2, by omega⟩, fun ⟨x, y, h1, h2, h3⟩ => ⟨x, y, h1, h2, by
    have := (atR_row hS h2).1
    omega⟩⟩, by have := h.few; have := hS.w10; omega⟩
theorem atI_nat {α : Type} (xs : List α) (i : Nat) (h : i < xs.length) : atI xs (i : Int) = some xs[i] := by
  unfold atI ixN
  rw [if_pos (by omega), if_pos (by omega), Int.toNat_natCast]
  show xs[i]? = _
  rw [List.getElem?_eq_getElem h]
end L3
set_option Elab.async false
set_option linter.all false
set_option autoImplicit false
set_option maxRecDepth 100000
namespace L3
open PySem PySem.Spec PyProof.Rows L2
section
variable {X : Cx} {e : Expr} {q : QE} {qs : QA} {kws : List Keyword} {nm : Option Str} {kpos : Pos}
structure DK (X : Cx) (kws : List Keyword) (q : QA) : Prop where
  pk : PK X kws (lfA X.K q)
theorem PK.imp {t t' : TA} (h : PK X kws t) (k : ∀ σ H Q, t' σ H Q → t σ H Q) : PK X kws t' := fun pos pins s σ H Q I hw => h pos pins s σ H Q I (k σ H Q hw)
theorem dk_nil : DK X [] qNil := by
  refine ⟨PK.imp pk_nil ?_⟩
  rintro σ H QQ ⟨tw, H0, F, ρ, Q, st, rp, q, k⟩
  exact k [] [] F H (Stp.refl st) .nil q
theorem dk_cons (ha : DE X e q) (hr : DK X kws qs) : DK X (⟨nm, e, kpos⟩ :: kws) (qCons q qs) := by
  refine ⟨PK.imp (pk_cons ha.pe hr.pk) ?_⟩
  rintro σ H QQ ⟨tw, H0, F, ρ, Q, st, rp, q, k⟩
  refine ⟨tw, H0, F, ρ, _, st, rp, q, fun v H1 p => ?_⟩
  obtain ⟨F1, x, s1, r1, d, e, q1⟩ := p
  obtain ⟨F2, s2, sm, rp2, dv⟩ := frozen rp s1 r1 e
  refine ⟨tw, H0, F2, ρ, _, s2.st, rp2, q1, fun vs ds F3 H3 s3 a3 q3 => ?_⟩
  exact k (v :: vs) (d :: ds) F3 H3 (s2.trans s3) (.cons (dv.up s3.fz) a3) q3
end
section
variable {X : Cx} {CX : CXT} {k : Nat} {f : Addr} {fd : FuncData} {ps ks : List Str} {c : CD} {x : Str} {p pos : Pos} {kws : List Keyword} {qs : QA} {sp : Sp} {E : XK} {tk : TA} {g : List Value → List Value → List Value} {gV : List V → List V → List V} {gD : List D → List D}
def tCallK0 (sp : Sp) (gV : List V → List V → List V) (E : XK) (tk : TA) : TE := fun σ H Q => tk σ H fun zs H2 => sp (gV [] zs) H2 Q E
theorem pe_callK0 (F : FnOk X.prog X.w X.K X.mg X.base CX k f fd ps sp) (hr : Room k X.A) (hg : Gl X x) (hm : X.mg x = some (.ref f)) (hk : PySem.W.keepIn X.K (.ref f) = true) (hb : KBinds X.K fd ps ks g gV) (hx : Passes CX X E)
    (hkw : PK X kws tk) (hall : (backToKw pos (keywordEach kws X.env)).all (·.1.isSome) = true := by rfl) (hks : (backToKw pos (keywordEach kws X.env)).filterMap (·.1) = ks := by rfl)
    (hdb : (x == ("__debug__" : Str)) = false := by decide)
    (hpl : ((backTo pos (starEach [] X.env)).any (·.1) || (backToKw pos (keywordEach kws X.env)).any (·.1.isNone)) = false := by rfl) :
    PE X (.Call (.Name x p) [] kws pos) (tCallK0 sp gV E tk) := by
  intro pins s σ H Q I h
  refine wpAny_Call_Name_kw (ld_glob I hg hm ?_ hdb)
  refine PySem.W.callWith_KW0 (h₀ := X.base) I.ok.mod.kin hk hall ?_ hpl
  refine thn (hkw pos pins s σ H _ I h) fun ws s2 ⟨zs, H2, I2, rz, q2⟩ => ⟨I2.kIn, ?_⟩
  rw [hks]
  exact run_fnk F hr hb hx I2 .nil rz q2
def qCallK0 (c : CD) (gD : List D → List D) (qs : QA) : QE := fun ρ Q => qs ρ fun ds => c (gD ds) fun z => Q (.dat z)
theorem de_callK0 (G : FnOk X.prog X.w X.K X.mg X.base CX0 k f fd ps (spD X.K c)) (hr : Room k X.A) (hg : Gl X x) (hm : X.mg x = some (.ref f)) (hk : PySem.W.keepIn X.K (.ref f) = true) (hb : KBinds X.K fd ps ks g gV)
    (hgD : ∀ tw F zs es, DvAll X.K tw F zs es → DvAll X.K tw F (gV [] zs) (gD es))
    (hkw : DK X kws qs) (hall : (backToKw pos (keywordEach kws X.env)).all (·.1.isSome) = true := by rfl) (hks : (backToKw pos (keywordEach kws X.env)).filterMap (·.1) = ks := by rfl)
    (hdb : (x == ("__debug__" : Str)) = false := by decide)
    (hpl : ((backTo pos (starEach [] X.env)).any (·.1) || (backToKw pos (keywordEach kws X.env)).any (·.1.isNone)) = false := by rfl) :
    DE X (.Call (.Name x p) [] kws pos) (qCallK0 c gD qs) := by
  refine ⟨PE.imp (pe_callK0 G hr hg hm hk hb pass0 hkw.pk hall hks hdb hpl) ?_⟩
  rintro σ H QQ ⟨tw, H0, F, ρ, Q, st, rp, q, k⟩
  refine ⟨tw, H0, F, ρ, _, st, rp, q, fun vs ds F1 H1 s1 a1 q1 => ?_⟩
  exact ⟨tw, F1, gD ds, _, s1.st, hgD tw F1 _ _ a1, q1, fun v F' H' d s' dv qd => k v H' ⟨F', .dat d, s1.trans s', .dat dv, qd⟩⟩
end
section
variable {X : Cx} {a b o e : Expr} {qa qb : QE} {apos pos : Pos}
def dInS (neg : Bool) : RD2 := fun x y Q => ∃ (c : Nat) (z : Str), x.d = .str ⟨#[c]⟩ ∧ y.d = .str z ∧ Q (.dat (.bl (if neg then !decide (c ∈ z.cps.toList) else decide (c ∈ z.cps.toList))))
theorem od_notInS {K : Frag} : OpD K (fun x y H Q => ∃ (c : Nat) (z : Str), x = .str ⟨#[c]⟩ ∧ y = .str z ∧ Q (.bl (!decide (c ∈ z.cps.toList))) H) (dInS true) := by
  rintro tw Hs F H v u x y Q QQ st r1 r2 ⟨c, z, e1, e2, q⟩ k
  exact ⟨c, z, r1.str e1, r2.str e2, k _ _ (post_here st (.dat (.bl _)) q)⟩
theorem dt_notInS (ha : DE X a qa) (hb : DE X b qb) (hm : behindInMarks .NotIn b = false := by with_unfolding_all rfl) : DT X (.Compare a [.NotIn] [b] pos) (qB (qOp (dInS true) qa qb)) := dt_cmp op_notIn_sign od_notInS ha hb hm
end
end L3
set_option Elab.async false
set_option linter.all false
set_option autoImplicit false
set_option maxRecDepth 100000
namespace L3
open PySem PySem.Spec PyProof.Rows L2
def colB (wd : Nat) (x : Int) : Bool := if decide (0 ≤ x) = true then decide (x < (wd : Int)) else false
def freeB (wd : Nat) (rows : List (List Bool)) (x y : Int) : Bool := colB wd x && decide (0 ≤ y) && !atR rows x.toNat y.toNat
def mv (x y : Int) (p : Cell) : Cell := (x + p.1, y + p.2)
theorem colB_iff {wd : Nat} {x : Int} : colB wd x = true ↔ 0 ≤ x ∧ x < (wd : Int) := by
  unfold colB
  by_cases h : 0 ≤ x
  · rw [if_pos (decide_eq_true h)]; simp [h]
  · rw [if_neg (by simpa using h)]; simp [h]
theorem freeB_iff {wd : Nat} {rows : List (List Bool)} {x y : Int} : freeB wd rows x y = true ↔ 0 ≤ x ∧ x < (wd : Int) ∧ 0 ≤ y ∧ atR rows x.toNat y.toNat = false := by
  unfold freeB
  rw [Bool.and_eq_true, Bool.and_eq_true, colB_iff]
  simp [and_assoc]
theorem Sh.first {wd : Nat} {rows : List (List Bool)} (h : Sh wd rows) : ∃ r0, atI (rows.map rowD) 0 = some (rowD r0) ∧ LenD (rowD r0) wd := by
  have hsl : sizeLine = 16777216 := sizeLine_eq
  have h10 := h.w10
  obtain ⟨r0, rs, erows⟩ : ∃ r rs, rows = r :: rs := by
    cases rows with
    | nil => exact absurd rfl h.ne
    | cons r rs => exact ⟨r, rs, rfl⟩
  have hr0 := h.each r0 (by rw [erows]; exact List.mem_cons_self)
  refine ⟨r0, by rw [erows]; exact atI_nat _ 0 (by simp), ?_⟩
  rw [← hr0, ← rowS_len]
  exact .str _ (by rw [rowS_len]; omega)
theorem Sh.many {wd : Nat} {rows : List (List Bool)} (h : Sh wd rows) : LenD (shD rows) rows.length := by
  have := LenD.tup (rows.map rowD)
  rw [List.length_map] at this
  exact this
theorem for_list {g : QG} {tb : QS} {E : EndsD} {α : Type} {G : α → D} (I : List α → Ev → Prop) (step : ∀ (x : α) (xs : List α) (ρ : Ev) (E1 : EndsD), I (x :: xs) ρ → E1.rt = E.rt → (∀ ρ', I xs ρ' → E1.nx ρ') → g (G x) ρ fun ρ' => tb E1 ρ') (done : ∀ ρ, I [] ρ → E.nx ρ) :
    ∀ (xs : List α) (ρ : Ev), I xs ρ → forW g tb (xs.map G) E ρ
  | [], ρ, h => done ρ h
  | x :: xs, ρ, h => step x xs ρ _ h rfl fun ρ' h' => for_list I step done xs ρ' h'
end L3
set_option Elab.async false
set_option linter.all false
set_option autoImplicit false
set_option maxRecDepth 100000
namespace L3
open PySem PySem.Spec PyProof.Rows L2
theorem ok_int (i : Int) : (D.int i).ok := (flat_int i).ok (by decide)
theorem loopW_rel {α : Type} {body : D → (Option D → Prop) → Prop} {g : α → D} {Rel : α → D → Prop} {Q : List D → Prop} : ∀ (is : List α) (acc : List D), (∀ i ∈ is, ∀ (k : Option D → Prop), (∀ d, Rel i d → k (some d)) → body (g i) k) → (∀ ds, Paired Rel is ds → Q (acc ++ ds)) → loopW body (is.map g) acc Q
  | [], acc, _, hQ => by
    have hQ := hQ [] .nil
    rw [List.append_nil] at hQ
    exact hQ
  | i :: is, acc, hb, hQ => by
    refine hb i List.mem_cons_self _ fun d hd => ?_
    refine loopW_rel is (acc ++ [d]) (fun j hj => hb j (List.mem_cons_of_mem _ hj)) fun ds h => ?_
    rw [List.append_assoc]
    exact hQ _ (.cons hd h)
end L3
set_option Elab.async false
set_option linter.all false
set_option autoImplicit false
set_option maxRecDepth 100000
namespace L3
open PySem PySem.Spec PyProof.Rows L2
theorem ds_never {X : Cx} {st : Stmt} : DS X st (fun _ _ => False) := ⟨fun _ _ _ _ _ _ h => by
  obtain ⟨_, _, _, _, _, _, _, _, q, _⟩ := h
  exact q.elim⟩
section
variable {X : Cx} {i value : Expr} {qi qv : QE} {pos pos' : Pos}
end
end L3
set_option Elab.async false
set_option linter.all false
set_option autoImplicit false
set_option maxRecDepth 100000
namespace L3
open PySem PySem.Spec PyProof.Rows L2
def lowI (rows : List (List Bool)) (ps : List Cell) (x : Int) : Int := mx (ps.map fun p => (hgt (colAt rows (x + p.1).toNat) : Int) - p.2)
def overB (rows : List (List Bool)) (cs : List Cell) : Bool := cs.any fun p => decide ((rows.length : Int) ≤ p.2)
theorem free_of {wd : Nat} {rows : List (List Bool)} {a b : Int} (h0 : 0 ≤ a) (h1 : a < (wd : Int)) (h : (hgt (colAt rows a.toNat) : Int) ≤ b) : freeB wd rows a b = true := by
  refine freeB_iff.mpr ⟨h0, h1, by omega, ?_⟩
  cases e : atR rows a.toNat b.toNat with
  | false => rfl
  | true =>
    rw [← colAt_at] at e
    have := hgt_max _ _ e
    omega
def mc (wd : Nat) (c : Cell) : Cell := ((wd : Int) - 1 - c.1, c.2)
end L3
set_option Elab.async false
set_option linter.all false
set_option autoImplicit false
set_option maxRecDepth 100000
namespace L3
open PySem PySem.Spec PyProof.Rows L2
def cellsAt (rows : List (List Bool)) (l : List Cell) (x : Int) : List Cell := l.map (mv x (lowI rows l x))
def okX (rows : List (List Bool)) (l : List Cell) (x : Int) : Bool := !overB rows (cellsAt rows l x)
end L3
namespace L3
open PySem PySem.Spec PyProof.Rows L2
end L3
set_option Elab.async false
set_option linter.all false
set_option autoImplicit false
set_option maxRecDepth 100000
namespace L3
open PySem PySem.Spec PyProof.Rows L2
theorem obj_there {P : Program} {w : World} {H : Hp} {h : Heap} {a : Addr} : ∀ {o : HO}, ObjOk P w H h a o → ∃ ob, h.get? a = some ob
  | .lst _, ⟨_, _, _, _, e⟩ => ⟨_, e⟩
  | .tup _, ⟨_, _, _, ob, e, _⟩ => ⟨_, e⟩
  | .dK _, ⟨_, _, _, _, ob, _, _, e, _⟩ => ⟨_, e⟩
  | .dT _, ⟨_, _, _, _, ob, _, _, e, _⟩ => ⟨_, e⟩
  | .set _ _, ⟨ob, _, _, _, e, _⟩ => ⟨_, e⟩
  | .ins _ _ _, ⟨_, _, _, e, _⟩ => ⟨_, e⟩
  | .own _, ⟨ob, e⟩ => ⟨_, e⟩
  | .xd _, ⟨_, ⟨od, _, _, e, _⟩, _⟩ => ⟨_, e⟩
  | .rng _ _, ⟨_, _, _, e⟩ => ⟨_, e⟩
  | .frz _ _, ⟨e, _⟩ => ⟨_, e⟩
  | .tbl ps, e => ⟨{ cls := .none, data := .fields ps }, e⟩
  | .met f y, e => ⟨PySem.W.methodObj (.ref f) (.ref y), e⟩
  | .ext _, ⟨_, ⟨o, e⟩, _⟩ => ⟨_, e⟩
structure FlyAt (P : Program) (w : World) (outer : List Env) (H0 : Hp) (s0 : Shared) (H' : Hp) (e C : Addr) (s' : Shared) : Prop where
  os : s'.os = s0.os
  bare : AllBare s'.gens
  un : Un (frs outer) [] H0 H' s0.heap s'.heap
  hok : HOk P w H' s'.heap
  fly : ∃ (B : Heap) (t : Addr), Heap.FlyingW B outer e (.ref C) (.ref t) s'.heap ∧ (∀ b o, H' b = some o → ∃ ob, B.get? b = some ob) ∧ (∀ b o, s0.heap.get? b = some o → H0 b = none → b ∉ frs outer → B.get? b = some o) ∧ ∀ b o, s0.heap.get? b = some o → b ∉ frs outer → ∃ ob, B.get? b = some ob
def CX1 (P : Program) (w : World) : CXT := fun outer H s E ev s' => ∃ e C H', ev = .ref e ∧ FlyAt P w outer H s H' e C s' ∧ E (.ref C) none H'
section
variable {X : Cx} {pins : List (Addr × Obj)} {σ : St} {H H' : Hp} {s s' : Shared} {e C : Addr} {Q : Unit → Shared → Prop} {E : Value → Shared → Prop}
theorem hok_stay {P : Program} {w : World} {H : Hp} {h h' : Heap} (x : HOk P w H h) (k : ∀ b o ob, H b = some o → h.get? b = some ob → h'.get? b = some ob) : HOk P w H h' := fun a o ha =>
  (x a o ha).stay (fun b u hb q => by
    rcases hb with rfl | hb
    · exact k b _ u ha q
    · exact k b _ u hb q) (fun _ z => z) fun _ _ z => z
theorem not_stack (I : Inv X pins σ H s) {b : Addr} (h1 : b < X.s_0.heap.objs.size) (h2 : b ∉ X.fs) : b ∉ frs X.stack := fun z => by
  rcases List.mem_cons.mp (I.stkSub b z) with e | z
  · have := I.ok.above
    rw [← e] at this
    exact absurd h1 (Nat.not_lt.mpr this)
  · exact h2 z
theorem leave_made {h' : Heap} {vs : List Value} (I : Inv X pins σ H s) (hst : X.stack = X.env :: X.outer) (hf : X.env.frame = some X.env.locals) (hex : X.ex = []) (hx : Heap.MadeExcOf s.heap h' e (.ref C) vs)
    (hQ : ∀ s'', FlyAt X.prog X.w X.outer X.H_0 X.s_0 H e C s'' → Q () s'') : wpAny (model X.prog X.w) X.A (leaving X.env (.ref e)) Q E { s with heap := h' } := by
  have hfr : X.A.frames = some (X.env :: X.outer) := by rw [I.ok.frames, hst]
  have hin : ∀ env ∈ X.stack, ∀ a, env.frame = some a → a ∈ frs X.stack := fun env he a ha => List.mem_filterMap.mpr ⟨env, he, ha⟩
  have hl := PySem.W.funFrames_hide I.stack hin
  rw [hst] at hl
  refine wpAny_leaves_madeW (base := PySem.W.hideAll s.heap (frs X.stack)) (h := s.heap) hfr hf (fun b o q => PySem.W.of_hideAll _ q) (by rw [hst]; exact hl) hx fun h'' t fl tp bt us => hQ _ ?_
  have keepB : ∀ b o, s.heap.get? b = some o → b ∉ frs X.stack → h''.get? b = some o := fun b o q n => fl.1 b o (PySem.W.hideAll_get _ q n)
  have slotB : ∀ b o, s.heap.get? b = some o → b ∈ frs X.stack → ∃ sl, h''.get? b = some { o with slots := sl } := fun b o q n => by
    obtain ⟨_, o', ho', hnf⟩ := I.stack.mem n
    rw [q] at ho'
    cases ho'
    exact us b o (hx.keeps b o q) hnf
  have nex : ∀ b : Addr, b ∉ X.ex := fun b z => by rw [hex] at z; cases z
  have tracked : ∀ b o, H b = some o → b ∉ frs X.stack := fun b o hb z => by rw [I.stkFree b z] at hb; cases hb
  refine ⟨I.os, I.bare, ⟨fun b o q n hb _ => ?_, fun b o q n hb _ => ?_, fun b o q n _ => I.base.free b o q n (nex b), fun b o q _ => ?_, I.base.tups, I.base.frzs, I.base.tbls⟩, ?_, _, t, fl, fun b o hb => ?_, fun b o q n hb => ?_, fun b o q hb => ?_⟩
  · exact keepB b o (I.base.keep b o q n hb (nex b)) (not_stack I (Heap.lt_size q) hb)
  · obtain ⟨sl, e1⟩ := I.base.slot b o q n hb (nex b)
    have hb' : b ∈ frs X.stack := by
      rw [hst]
      show b ∈ (X.env :: X.outer).filterMap (·.frame)
      rw [List.filterMap_cons, hf]
      exact List.mem_cons_of_mem _ hb
    obtain ⟨sl', e2⟩ := slotB b _ e1 hb'
    exact ⟨sl', e2⟩
  · obtain ⟨o', e1⟩ := I.base.there b o q (nex b)
    by_cases hb : b ∈ frs X.stack
    · obtain ⟨sl, e2⟩ := slotB b o' e1 hb
      exact ⟨_, e2⟩
    · exact ⟨o', keepB b o' e1 hb⟩
  · exact hok_stay I.hok fun b o ob hb q => keepB b ob q (tracked b o hb)
  · obtain ⟨ob, q⟩ := obj_there (I.hok b o hb)
    exact ⟨ob, PySem.W.hideAll_get _ q (tracked b o hb)⟩
  · exact PySem.W.hideAll_get _ (I.base.keep b o q n hb (nex b)) (not_stack I (Heap.lt_size q) hb)
  · obtain ⟨o', e1⟩ := I.base.there b o q (nex b)
    exact ⟨o', PySem.W.hideAll_get _ e1 (not_stack I (Heap.lt_size q) hb)⟩
theorem leave_on (I : Inv X pins σ H s) (hst : X.stack = X.env :: X.outer) (hf : X.env.frame = some X.env.locals) (hex : X.ex = []) (fa : FlyAt X.prog X.w X.stack H s H' e C s')
    (hQ : ∀ s'', FlyAt X.prog X.w X.outer X.H_0 X.s_0 H' e C s'' → Q () s'') : wpAny (model X.prog X.w) X.A (leaving X.env (.ref e)) Q E s' := by
  obtain ⟨os, bare, un, hok, B, t, fl, bt, bk, bs⟩ := fa
  have hfr : X.A.frames = some (X.env :: X.outer) := by rw [I.ok.frames, hst]
  have fl0 := fl
  rw [hst] at fl
  refine wpAny_leaves_onW hfr hf fl fun h'' fl2 us => hQ _ ?_
  have nex : ∀ b : Addr, b ∉ X.ex := fun b z => by rw [hex] at z; cases z
  have inst : ∀ b, b ∈ X.fs → b ∈ frs X.stack := fun b hb => by
    rw [hst]
    show b ∈ (X.env :: X.outer).filterMap (·.frame)
    rw [List.filterMap_cons, hf]
    exact List.mem_cons_of_mem _ hb
  have sameT : ∀ b o ob, H' b = some o → s'.heap.get? b = some ob → h''.get? b = some ob := fun b o ob hb q => by
    obtain ⟨ob', e1⟩ := bt b o hb
    have e2 := fl.1 b _ e1
    rw [q] at e2
    cases e2
    exact fl2.1 b _ e1
  have keepS : ∀ b o, X.s_0.heap.get? b = some o → X.H_0 b = none → b ∉ X.fs → B.get? b = some o := fun b o q n hb =>
    bk b o (I.base.keep b o q n hb (nex b)) (I.base.free b o q n (nex b)) (not_stack I (Heap.lt_size q) hb)
  refine ⟨os.trans I.os, bare, ⟨fun b o q n hb _ => fl2.1 b o (keepS b o q n hb), fun b o q n hb _ => ?_, fun b o q n _ => ?_, fun b o q _ => ?_, fun b xs q => un.tups b xs (I.base.tups b xs q), fun b o u q => un.frzs b o u (I.base.frzs b o u q), fun b ps q => ?_⟩, hok_stay hok sameT, B, t, fl2, bt, keepS, fun b o q hb => ?_⟩
  · obtain ⟨sl, e1⟩ := I.base.slot b o q n hb (nex b)
    obtain ⟨sl2, e2⟩ := un.slot b _ e1 (I.base.free b o q n (nex b)) (inst b hb) (by simp)
    obtain ⟨_, o', ho', hnf⟩ := fl0.2.2.1.mem (inst b hb)
    rw [e2] at ho'
    cases ho'
    obtain ⟨sl3, e3⟩ := us b _ e2 hnf
    exact ⟨sl3, e3⟩
  · obtain ⟨o', e1⟩ := I.base.there b o q (nex b)
    exact un.free b o' e1 (I.base.free b o q n (nex b)) (by simp)
  · obtain ⟨o1, e1⟩ := I.base.there b o q (nex b)
    by_cases hb : b ∈ frs X.stack
    · have hn := I.stkFree b hb
      obtain ⟨sl2, e2⟩ := un.slot b _ e1 hn hb (by simp)
      obtain ⟨_, o', ho', hnf⟩ := fl0.2.2.1.mem hb
      rw [e2] at ho'
      cases ho'
      obtain ⟨sl3, e3⟩ := us b _ e2 hnf
      exact ⟨_, e3⟩
    · obtain ⟨ob, e2⟩ := bs b o1 e1 hb
      exact ⟨ob, fl2.1 b ob e2⟩
  · obtain ⟨m1, e1⟩ := I.base.tbls b ps q
    obtain ⟨m2, e2⟩ := un.tbls b _ e1
    exact ⟨m1 ++ m2, by rw [e2, Array.append_assoc]⟩
  · obtain ⟨o', e1⟩ := I.base.there b o q (nex b)
    exact bs b o' e1 (not_stack I (Heap.lt_size q) hb)
end
end L3
set_option Elab.async false
set_option linter.all false
set_option autoImplicit false
set_option maxRecDepth 100000
namespace L3
open PySem PySem.Spec PyProof.Rows L2
theorem own_at {K : Frag} {h : Heap} {mg : Str → Option Value} {x : Str} {C : Addr} {bmB : List Value} {newId : String} (kin : K.In h) (hm : mg x = some (.ref C)) (hq : PySem.W.excIn K C bmB newId = true) : OwnCls x C bmB newId mg h := by
  refine ⟨hm, ?_⟩
  unfold PySem.W.excIn at hq
  split at hq
  · rename_i dct cls slots look
    split at hq
    · rename_i C2 tl z0 z1 z2 z3 nid z5 em es
      rw [Bool.and_eq_true, Bool.and_eq_true, Bool.and_eq_true, Bool.and_eq_true, Bool.and_eq_true] at hq
      obtain ⟨⟨⟨⟨⟨eC, eN⟩, nodel⟩, tailok⟩, nsok⟩, noinit⟩ := hq
      have eC := beq_iff_eq.mp eC
      have eN := beq_iff_eq.mp eN
      have nodel : cls.hasDel = false := by simpa using nodel
      have noinit := beq_iff_eq.mp noinit
      subst eC eN
      obtain ⟨nm, bs, mro, ns, qn, hd, sn, sub, ab, col, del⟩ := cls
      have em : mro = .ref C2 :: tl := em
      have nodel : del = false := nodel
      subst em nodel
      have eslots : slots = #[z0, z1, z2, z3, some (.builtin nid), z5] := by
        obtain ⟨l⟩ := slots
        have es : l = _ := es
        rw [es]
      subst eslots
      exact ⟨tl, ns, nm, qn, bs, hd, sn, sub, ab, col, dct, z0, z1, z2, z3, z5, _, kin _ _ look, .of_isNs (PySem.W.isNs_of_in kin nsok), PySem.W.nsMap_none_of_in kin nsok noinit, PySem.W.tail_of_in kin tailok⟩
    · cases hq
  · cases hq
abbrev bmV : List Value := [.type "ValueError", .type "Exception", .type "BaseException", .type "object"]
structure XC (K : Frag) (mg : Str → Option Value) (x : Str) (C : Addr) : Prop where
  mg : mg x = some (.ref C)
  ex : PySem.W.excIn K C bmV "ValueError.__new__" = true
def RE (X : Cx) (e : Expr) (t : St → Hp → Prop) : Prop := ∀ (pins : List (Addr × Obj)) (s : Shared) (σ : St) (H : Hp), Inv X pins σ H s → t σ H → wpAny (model X.prog X.w) X.A (eval e X.env) (fun _ _ => False) X.xe s
def RA (X : Cx) (es : List Expr) (t : St → Hp → Prop) : Prop := ∀ (pos : Pos) (pins : List (Addr × Obj)) (s : Shared) (σ : St) (H : Hp), Inv X pins σ H s → t σ H → wpAny (model X.prog X.w) X.A (spliced (backTo pos (starEach es X.env))) (fun _ _ => False) X.xe s
def RSs (X : Cx) (sts : List Stmt) (t : St → Hp → Prop) : Prop := ∀ (pins : List (Addr × Obj)) (s : Shared) (σ : St) (H : Hp), Inv X pins σ H s → t σ H → wpAny (model X.prog X.w) X.A (execs sts X.env) (fun _ _ => False) X.xe s
structure XRaise (X : Cx) (W : Addr → Hp → Prop) : Prop where
  made : ∀ (pins : List (Addr × Obj)) (σ : St) (H : Hp) (s : Shared) (h' : Heap) (e C : Addr) (vs : List Value), Inv X pins σ H s → Heap.MadeExcOf s.heap h' e (.ref C) vs → W C H → X.xe (.ref e) { s with heap := h' }
  on : ∀ (pins : List (Addr × Obj)) (σ : St) (H : Hp) (s : Shared) (H' : Hp) (e C : Addr) (s' : Shared), Inv X pins σ H s → FlyAt X.prog X.w X.stack H s H' e C s' → W C H' → X.xe (.ref e) s'
theorem xraise_of {P : Program} {w : World} {K : Frag} {mg : Str → Option Value} {base : Heap} {N : List Str} {qual : Str} {scope : Scope} {f : Addr} {cd : Value} {A : Around} {outer : List Env} {s : Shared} {H : Hp} {E : XK} :
    XRaise (cxOf (CX1 P w) P w K mg base N qual scope f cd A outer s H E) (fun C H' => E (.ref C) none H') :=
  ⟨fun pins σ H1 s1 h' e C vs I hx hW => leave_made I rfl rfl rfl hx fun s'' fa => ⟨e, C, H1, rfl, fa, hW⟩, fun pins σ H1 s1 H' e C s' I fa hW => leave_on I rfl rfl rfl fa fun s'' fa' => ⟨e, C, H', rfl, fa', hW⟩⟩
abbrev QX := Ev → (Addr → Prop) → Prop
def lfX (K : Frag) (W : Addr → Hp → Prop) (x : QX) : St → Hp → Prop := fun σ H => ∃ tw H0 F ρ q, Stt tw F H ∧ Rep K tw H0 F H σ ρ ∧ x ρ q ∧ ∀ C F' H', Stp tw F H F' H' → q C → W C H'
structure DX (X : Cx) (W : Addr → Hp → Prop) (e : Expr) (x : QX) : Prop where
  re : RE X e (lfX X.K W x)
structure DXA (X : Cx) (W : Addr → Hp → Prop) (es : List Expr) (x : QX) : Prop where
  ra : RA X es (lfX X.K W x)
def lfXs (K : Frag) (W : Addr → Hp → Prop) (x : QX) : St → Hp → Prop := fun σ H => ∃ tw F0 H0 F ρ q, Stp tw F0 H0 F H ∧ Rep K tw H0 F H σ ρ ∧ x ρ q ∧ ∀ C F' H', Stp tw F0 H0 F' H' → q C → W C H'
structure DXs (X : Cx) (W : Addr → Hp → Prop) (sts : List Stmt) (x : QX) : Prop where
  rs : RSs X sts (lfXs X.K W x)
section
variable {X : Cx} {W : Addr → Hp → Prop} {e : Expr} {es : List Expr} {st : Stmt} {rest sts : List Stmt} {q : QE} {qs : QA} {x x1 x2 : QX} {t : QS} {pos : Pos}
theorem dxs_never : DXs X W sts (fun _ _ => False) := ⟨fun _ _ _ _ _ ⟨_, _, _, _, _, _, _, _, z, _⟩ => z.elim⟩
theorem lf_down {K : Frag} {σ : St} {H : Hp} (h : lfXs K W x σ H) : lfX K W x σ H := by
  obtain ⟨tw, F0, H0, F, ρ, q, sp, rp, z, k⟩ := h
  exact ⟨tw, H0, F, ρ, q, sp.st, rp, z, fun C F' H' s' hq => k C F' H' (sp.trans s') hq⟩
theorem dxs_cons (h1 : DS X st t) (h2 : DXs X W rest x) : DXs X W (st :: rest) (fun ρ q => t ⟨fun ρ' => x ρ' q, fun _ => False, fun _ => False, fun _ => False⟩ ρ) := by
  refine ⟨fun pins s σ H I ⟨tw, F0, H0, F, ρ, q, sp, rp, z, k⟩ => ?_⟩
  refine wpAny_execs_cons (thn (h1.ps pins s σ H ⟨fun σ' H' => lfXs X.K W x σ' H', fun _ _ => False, fun _ _ => False, fun _ _ => False⟩ I ⟨tw, F0, H0, F, ρ, _, sp, rp, z, ⟨fun F' σ' H' ρ' _ s' r' hq => ⟨tw, F0, H0, F', ρ', q, s', r', hq, k⟩, fun _ _ _ _ _ _ z => z.elim, fun _ _ _ _ _ _ _ z => z.elim, fun _ _ _ _ _ _ _ z => z.elim⟩⟩) fun f s1 hq => ?_)
  cases f with
  | next =>
    obtain ⟨σ', H', I', hq⟩ := hq
    exact h2.rs pins s1 σ' H' I' hq
  | ret v => obtain ⟨_, _, _, _, _, z⟩ := hq; exact z.elim
  | brk => obtain ⟨_, _, _, z⟩ := hq; exact z.elim
  | cont => obtain ⟨_, _, _, z⟩ := hq; exact z.elim
theorem dxs_if {c : Expr} {a b : List Stmt} {qc : QT} {xa : QX} {tb : QS} (hc : DT X c qc) (ha : DXs X W a xa) (hb : DSs X b tb) (hr : DXs X W rest x) :
    DXs X W (.If c a b pos :: rest) (fun ρ q => qc ρ fun k => if k = true then xa ρ q else tb ⟨fun ρ' => x ρ' q, fun _ => False, fun _ => False, fun _ => False⟩ ρ) := by
  refine ⟨fun pins s σ H I ⟨tw, F0, H0, F, ρ, q, sp, rp, z, k⟩ => ?_⟩
  refine wpAny_execs_cons (wpAny_If (thn (hc.pt pins s σ H (fun b H1 => ∃ F1, Stp tw F H F1 H1 ∧ if b = true then xa ρ q else tb ⟨fun ρ' => x ρ' q, fun _ => False, fun _ => False, fun _ => False⟩ ρ) I ⟨tw, H0, F, ρ, _, sp.st, rp, z, fun b F' H' s' hq => ⟨F', s', hq⟩⟩) fun d s1 ⟨H1, I1, F1, st1, hq⟩ => ?_))
  cases d with
  | true => exact thn (ha.rs pins s1 σ H1 I1 ⟨tw, F0, H0, F1, ρ, q, sp.trans st1, rp.step st1, hq, k⟩) fun _ _ z => z.elim
  | false =>
    refine thn (hb.pss pins s1 σ H1 ⟨fun σ' H' => lfXs X.K W x σ' H', fun _ _ => False, fun _ _ => False, fun _ _ => False⟩ I1 ⟨tw, F0, H0, F1, ρ, _, sp.trans st1, rp.step st1, hq, ⟨fun F' σ' H' ρ' _ s' r' hq => ⟨tw, F0, H0, F', ρ', q, s', r', hq, k⟩, fun _ _ _ _ _ _ z => z.elim, fun _ _ _ _ _ _ _ z => z.elim, fun _ _ _ _ _ _ _ z => z.elim⟩⟩) fun f s2 hq => ?_
    cases f with
    | next =>
      obtain ⟨σ', H', I', hq⟩ := hq
      exact hr.rs pins s2 σ' H' I' hq
    | ret v => obtain ⟨_, _, _, _, _, z⟩ := hq; exact z.elim
    | brk => obtain ⟨_, _, _, z⟩ := hq; exact z.elim
    | cont => obtain ⟨_, _, _, z⟩ := hq; exact z.elim
theorem dxs_ret (h : DX X W e x) : DXs X W (.Return (some e) pos :: rest) x := ⟨fun pins s σ H I z => wpAny_execs_cons (wpAny_Return_some (thn (h.re pins s σ H I (lf_down z)) fun _ _ z => z.elim))⟩
theorem dxs_raise {nm : Str} {C : Addr} {np cpos rpos : Pos} (R : XRaise X W) (hc : X.calm = true) (c : XC X.K X.mg nm C) (he : DE X e q) (hg : Gl X nm := by rfl) (hd : (nm == ("__debug__" : Str)) = false := by decide)
    (hs : starEach [e] X.env = (false, eval e X.env) :: starEach [] X.env := by rfl) : DXs X W (.Raise (some (.Call (.Name nm np) [e] [] cpos)) none rpos :: rest) (fun ρ k => q ρ fun _ => k C) := by
  refine ⟨fun pins s σ H I zz => ?_⟩
  obtain ⟨tw, H0, F, ρ, k, stt, rp, z, kk⟩ := lf_down zz
  have O := own_at I.ok.mod.kin c.mg c.ex
  obtain ⟨tl, N, n, qn, bs, hdct, sn, sub, ab, col, dd, k0, k1, k2, k3, k5, mN, hC, hN, hni, T⟩ := O.obj
  have FB := PySem.F.excBase_ValueError
  refine wpAny_execs_cons ?_
  refine wpAny_Raise_call_subT (C := C) (nm := n) (q := qn) (N := N) (bs := bs) (bm := tl) (hdct := hdct) (sn := sn) (sub := sub) (ab := ab) (col := col) (dd := dd) (k0 := k0) (k1 := k1) (k2 := k2) (k3 := k3) (k5 := k5) FB (mN := mN) (T.hasType FB.hasBase) (I.ok.hd hc) (by rw [hs]; rfl) hni (ld_glob I hg c.mg ⟨rfl, ?_⟩ hd)
  have ha := pa_cons he.pe pa_nil hs cpos pins s σ H (fun vs H1 => vs.length = 1 ∧ W C H1) I ⟨tw, H0, F, ρ, _, stt, rp, z, fun v H1 p => ?_⟩
  · rw [hs] at ha ⊢
    refine Calls.evalArgs_plain (thn ha fun us s2 ⟨vs, H2, I2, r2, hl, hW⟩ => ?_)
    refine ⟨rfl, ?_, I2.bk _ _ hC, hN.keeps I2.bk, T.keeps I2.bk, fun h' e hm => R.made pins σ H2 s2 h' e C us I2 hm hW⟩
    have : us.length = 1 := by rw [← r2.length]; exact hl
    rw [this]
    decide
  · obtain ⟨F1, r, s1, _, hk⟩ := p
    exact ⟨rfl, kk C F1 H1 s1 hk⟩
theorem dxa_here (h : DX X W e x) (hs : starEach (e :: es) X.env = (false, eval e X.env) :: starEach es X.env := by rfl) : DXA X W (e :: es) x := by
  refine ⟨fun pos pins s σ H I z => ?_⟩
  rw [hs]
  exact Calls.spliced_cons (thn (h.re pins s σ H I z) fun _ _ z => z.elim)
end
abbrev CDX := List D → Addr → Prop
def spX (K : Frag) (c : CDX) : Sp := fun vs H _ E => ∃ tw F ds C, Stt tw F H ∧ DvAll K tw F vs ds ∧ c ds C ∧ ∀ F' H', Stp tw F H F' H' → E (.ref C) none H'
section
variable {X : Cx} {W : Addr → Hp → Prop} {k : Nat} {f : Addr} {fd : FuncData} {ps : List Str} {c : CDX} {dvs : List V} {dds : List D} {ds : List Value} {x : Str} {p pos : Pos} {e : Expr} {es : List Expr} {qs : QA}
theorem dx_call (R : XRaise X W) (G : FnOk X.prog X.w X.K X.mg X.base (CX1 X.prog X.w) k f fd ps (spX X.K c)) (hr : Room k X.A) (hg : Gl X x) (hm : X.mg x = some (.ref f)) (hk : PySem.W.keepIn X.K (.ref f) = true) (hb : Binds X.K fd ps ds) (hd : Vals dvs ds) (hdd : ∀ tw F, DvAll X.K tw F dvs dds)
    (ha : DA X (e :: es) qs) (hdb : (x == ("__debug__" : Str)) = false := by decide) (he : starEach (e :: es) X.env = (false, eval e X.env) :: starEach es X.env := by rfl) (hpl : (backTo pos (starEach es X.env)).any (·.1) = false := by rfl) :
    DX X W (.Call (.Name x p) (e :: es) [] pos) (fun ρ q => qs ρ fun ds => ∃ C, c (ds ++ dds) C ∧ q C) := by
  refine ⟨fun pins s σ H I ⟨tw, H0, F, ρ, q, stt, rp, z, kk⟩ => ?_⟩
  have hx : Passes (CX1 X.prog X.w) X (fun c d H' => ∃ C, c = .ref C ∧ W C H') := fun pins σ H s e s' I ⟨e', C, H', ee, fa, C', eC, hW⟩ => by
    cases eC
    rw [ee]
    exact R.on pins σ H s H' e' C s' I fa hW
  refine thn (pe_call G hr hg hm hk hb hd hx ha.pa hdb he hpl pins s σ H (fun _ _ => False) I ?_) fun _ _ ⟨_, _, _, _, z⟩ => z
  refine ⟨tw, H0, F, ρ, _, stt, rp, z, fun vs ds1 F1 H1 s1 a1 q1 => ?_⟩
  obtain ⟨C, hc, hq⟩ := q1
  exact ⟨tw, F1, ds1 ++ dds, C, s1.st, a1.append (hdd tw F1), hc, fun F' H' s' => ⟨C, rfl, kk C F' H' (s1.trans s') hq⟩⟩
end
section
variable {P : Program} {w : World} {K : Frag} {mg : Str → Option Value} {base : Heap}
theorem FunG.okX {x qual : Str} {st : Stmt} {f : Addr} {fd : FuncData} {dV : Value} {N ps : List Str} {k : Nat} {c : CDX} (F : FunG K x qual st f fd dV) (S : FnScope N ps (defScope st)) (len : ∀ ds C, c ds C → ds.length = ps.length)
    (hbody : ∀ (cdv : Value) (A : Around) (outer : List Env) (s : Shared) (H : Hp) (E : XK), Room k (A.deeper (envOfC qual (defScope st) s.heap.objs.size f cdv)) → XRaise (cxOf (CX1 P w) P w K mg base N qual (defScope st) f cdv A outer s H E) (fun C H' => E (.ref C) none H') →
      ∃ t, DXs (cxOf (CX1 P w) P w K mg base N qual (defScope st) f cdv A outer s H E) (fun C H' => E (.ref C) none H') (defBody st) t ∧ ∀ ds C, c ds C → t (startD N ds) (fun C' => C' = C)) : FnOk P w K mg base (CX1 P w) (k + 1) f fd ps (spX K c) := by
  obtain ⟨oc, od, kV, doc, pm, an, cdv, ct, osl, rfl, lk, hcd⟩ := F.ex
  refine fn_of lk hcd S (fun vs H Q E h => ?_) fun A outer s H vs Q E hr h => ?_
  · obtain ⟨tw, F, ds, C, st, dv, hc, _⟩ := h
    rw [dv.length]; exact len ds C hc
  · obtain ⟨tw, F, ds, C, st, dv, hc, kk⟩ := h
    obtain ⟨t, ht, hq⟩ := hbody cdv A outer s H E hr xraise_of
    refine ⟨fun D σ H1 => lfXs K (fun C H' => E (.ref C) none H') t σ H1, fun pins s1 σ H1 D I z => thn (ht.rs pins s1 σ H1 I z) fun _ _ z => z.elim, ?_⟩
    exact ⟨tw, F, H, F, startD N ds, _, Stp.refl st, rep_start st dv, hq ds C hc, fun C' F' H' s' e => by rw [e]; exact kk F' H' s'⟩
end
end L3
set_option Elab.async false
set_option linter.all false
set_option autoImplicit false
set_option maxRecDepth 100000
namespace L3
open PySem PySem.Spec PyProof.Rows L2
abbrev envL (scope : Scope) (L f : Addr) (cd : Value) (cl : List (Str × Addr)) : Env := newEnv scope L mainGlobals cl (lamQ ++ ".<locals>.") (some f) cd none builtinsNs
def cxL (CX : CXT) (P : Program) (w : World) (K : Frag) (mg : Str → Option Value) (base : Heap) (N : List Str) (env : Env) (A : Around) (outer : List Env) (s : Shared) (H : Hp) (E : XK) : Cx where
  prog := P
  w := w
  K := K
  mg := mg
  base := base
  A := A.deeper env
  N := N
  s_0 := s
  H_0 := H
  env := env
  outer := outer
  stack := env :: outer
  ex := []
  calm := true
  fn := fun _ => false
  pn := []
  xe := fun e s' => wpAny (model P w) (A.deeper env) (leaving env e) (fun _ s'' => CX outer H s E e s'') (fun e' s'' => CX outer H s E e' s'') s'
structure Caught (H : Hp) (h : Heap) (N : List Str) (cl : List (Str × Addr)) (vs : List V) : Prop where
  len : vs.length = N.length
  inj : ∀ x y c, cl.lookup x = some c → cl.lookup y = some c → x = y
  val : ∀ (i : Nat) (x : Str), N[i]? = some x → ∃ c u v, cl.lookup x = some c ∧ h.IsCell c (some u) ∧ vs[i]? = some v ∧ RelV v u
  cell : ∀ x c, cl.lookup x = some c → (∃ v, h.IsCell c v) ∧ H c = none
structure LamScope (N : List Str) (scope : Scope) : Prop where
  kind : scope.kind = .function
  co : scope.isCoroutine = false
  gen : scope.isGenerator = false
  nocell : ∀ x ∈ scope.names, x.2 ≠ .cell
  free : ∀ x, scope.names.lookup x = some .free → x ∈ N
  vis : ∀ x ∈ N, scope.names.lookup x = some .free
theorem isCell_keep {h h' : Heap} {c : Addr} {v : Option Value} (x : h.IsCell c v) (k : ∀ o, h.get? c = some o → h'.get? c = some o) : h'.IsCell c v := by
  obtain ⟨o, e1, e2⟩ := x
  exact ⟨o, k o e1, e2⟩
theorem inv_lam {CX : CXT} {P : Program} {w : World} {K : Frag} {mg : Str → Option Value} {base : Heap} {N : List Str} {scope : Scope} {f : Addr} {cd : Value} {cl : List (Str × Addr)} {A : Around} {outer : List Env} {s : Shared} {H : Hp} {E : XK} {vs : List V} {h' : Heap} {tk : Nat}
    (S : LamScope N scope) (hd : A.handled = none) (e0 : Env0 P w K mg base A outer s H) (C : Caught H s.heap N cl vs)
    (hns : h'.Ns s.heap.objs.size fun _ => none) (hsb : Heap.SameBut s.heap.objs.size (s.heap.push { cls := .type "frame", data := .dict #[] }) h') :
    Inv (cxL CX P w K mg base N (envL scope s.heap.objs.size f cd cl) A outer s H E) [] (vs.map some) H { s with heap := h', toks := tk } := by
  have hk : ∀ b o, s.heap.get? b = some o → h'.get? b = some o := fun b o e => (hsb.2 b (Nat.ne_of_lt (Heap.lt_size e))).trans (Heap.get?_push_of_some _ e)
  have noA : ∀ b : Addr, b ∉ ([] : List Addr) := fun b z => by cases z
  refine ⟨⟨e0.mod, S.kind, rfl, rfl, Nat.le_refl _, C.inj, fun y hy => ?_, fun y c z _ => (by cases z), fun _ => hd, Around.frames_deeper e0.frames, .inr ⟨rfl, rfl⟩, fun b z => absurd z (noA b), e0.bs, e0.bsz, fun b _ _ => noA b, fun b z => absurd z (noA b), e0.funs, e0.frf⟩,
    rfl, e0.bare, Un.kept hk, ⟨_, hns, fun i y v h1 h2 h3 => ?_⟩, fun y c hc => ?_, e0.hok.fresh (Nat.le_refl _), fun y c hc => (C.cell y c hc).2, fun p hp => absurd (show p ∈ ([] : List (Addr × Obj)) from hp) (by simp), e0.hok.kept hk, by rw [List.length_map]; exact C.len⟩
  · have hy : scope.names.lookup y = some .cell ∨ scope.names.lookup y = some .free := hy
    rcases hy with hy | hy
    · exact absurd rfl (S.nocell _ (PySem.mem_of_lookup hy))
    · obtain ⟨i, hi⟩ := List.mem_iff_getElem?.mp (S.free y hy)
      obtain ⟨c, u, v, e1, _⟩ := C.val i y hi
      exact ⟨c, e1⟩
  · have h1 : N[i]? = some y := h1
    obtain ⟨c, u, v', e1, e2, e3, e4⟩ := C.val i y h1
    rw [List.getElem?_map, e3] at h2
    cases h2
    exact ⟨u, e4, .inr ⟨.inr (S.vis y (List.mem_of_getElem? h1)), c, e1, isCell_keep e2 (hk c)⟩⟩
  · obtain ⟨v, z⟩ := (C.cell y c hc).1
    exact ⟨v, isCell_keep z (hk c)⟩
theorem xraise_lam {P : Program} {w : World} {K : Frag} {mg : Str → Option Value} {base : Heap} {N : List Str} {scope : Scope} {L f : Addr} {cd : Value} {cl : List (Str × Addr)} {A : Around} {outer : List Env} {s : Shared} {H : Hp} {E : XK} :
    XRaise (cxL (CX1 P w) P w K mg base N (envL scope L f cd cl) A outer s H E) (fun C H' => E (.ref C) none H') :=
  ⟨fun pins σ H1 s1 h' e C vs I hx hW => leave_made I rfl rfl rfl hx fun s'' fa => ⟨e, C, H1, rfl, fa, hW⟩, fun pins σ H1 s1 H' e C s' I fa hW => leave_on I rfl rfl rfl fa fun s'' fa' => ⟨e, C, H', rfl, fa', hW⟩⟩
section
variable {P : Program} {w : World} {K : Frag} {mg : Str → Option Value} {base : Heap} {N : List Str} {scope : Scope} {f c' : Addr} {cl : List (Str × Addr)} {A : Around} {outer : List Env} {s : Shared} {H : Hp} {E : XK} {vs : List V} {body : Expr} {params : Arguments} {pm ctv cv : Value} {R : Result → Shared → Prop} {k : Nat}
theorem deed_run (S : LamScope N scope) (hr : Room (k + 1) A) (e0 : Env0 P w K mg base A outer s H) (C : Caught H s.heap N cl vs)
    (ho : s.heap.get? f = some { cls := .type "function", data := .func (PySem.W.kla_fn "<lambda>" lamQ params body scope cl pm cv ctv) }) (hcd : s.heap.CodeRec cv lamQ)
    (hb : bindArgs (PySem.W.kla_fn "<lambda>" lamQ params body scope cl pm cv ctv) ⟨[], []⟩ = pure [])
    (h : ∀ (h' : Heap) (tk : Nat), Inv (cxL (CX1 P w) P w K mg base N (envL scope s.heap.objs.size f cv cl) A outer s H E) [] (vs.map some) H { s with heap := h', toks := tk } →
      wpAny (model P w) (A.deeper (envL scope s.heap.objs.size f cv cl)) (eval body (envL scope s.heap.objs.size f cv cl)) (fun v s' => R (.ok (.ret v)) s')
        (fun e s' => wpAny (model P w) (A.deeper (envL scope s.heap.objs.size f cv cl)) (leaving (envL scope s.heap.objs.size f cv cl) e) (fun _ s'' => R (.error e) s'') (fun e' s'' => R (.error e') s'') s') { s with heap := h', toks := tk }) :
    codeAny (model P w) A (.call (.ref f) ⟨[], []⟩) R s := by
  have lim : s.heap.NoLimit := e0.mod.nolimit.keeps fun b o e => (e0.bs b o e).1
  refine PySem.W.kla_callFunE hr.depth ho rfl S.co S.gen rfl hcd ?_
  rw [hb]
  refine wpAny_pure (wpAny_newFunctionEnv S.nocell (fun x hx => by cases hx) (fun h' hns hsb => ⟨lim.fresh _ hsb, ?_⟩) S.kind)
  exact PySem.W.kla_codeExpr (h h' _ (inv_lam S hr.hd e0 C hns hsb))
end
end L3
set_option Elab.async false
set_option linter.all false
set_option autoImplicit false
set_option maxRecDepth 100000
namespace L3
open PySem PySem.Spec PyProof.Rows L2
def excAt (e C : Addr) : Heap → Prop := fun h => ∃ o, h.get? e = some o ∧ o.cls = .ref C
section
variable {X : Cx} {pins : List (Addr × Obj)} {σ : St} {H H' : Hp} {s s' : Shared} {e C t : Addr} {B h6 : Heap}
theorem fly_new (I : Inv X pins σ H s) (bs : ∀ b o, s.heap.get? b = some o → b ∉ frs X.stack → ∃ ob, B.get? b = some ob) (fl : Heap.FlyingW B X.stack e (.ref C) (.ref t) h6) {o : Obj} (q : s.heap.get? e = some o) : False := by
  by_cases he : e ∈ frs X.stack
  · obtain ⟨_, o', ho', hnf⟩ := fl.2.2.1.mem he
    obtain ⟨oe, vs, T, oT, ts, e1, e2, e3, _⟩ := fl.2.2.2
    rw [e1] at ho'
    cases ho'
    exact hnf vs e3
  · obtain ⟨ob, e1⟩ := bs e o q he
    rw [fl.2.1] at e1
    cases e1
theorem land_inv (I : Inv X pins σ H s) (os : s'.os = s.os) (bare : AllBare s'.gens) (un : Un (frs X.stack) [] H H' s.heap s'.heap) (hok : HOk X.prog X.w H' s'.heap) (fl0 : Heap.FlyingW B X.stack e (.ref C) (.ref t) s'.heap)
    (bt : ∀ b o, H' b = some o → ∃ ob, B.get? b = some ob) (bk : ∀ b o, s.heap.get? b = some o → H b = none → b ∉ frs X.stack → B.get? b = some o) (bs : ∀ b o, s.heap.get? b = some o → b ∉ frs X.stack → ∃ ob, B.get? b = some ob)
    (fl : Heap.FlyingW B X.stack e (.ref C) (.ref t) h6) (us : s'.heap.UpToSlots h6) : H' e = none ∧ Inv X pins σ (upd H' e (.ext (excAt e C))) { s' with heap := h6 } := by
  have hne : H' e = none := by
    cases q : H' e with
    | none => rfl
    | some o =>
      obtain ⟨ob, e1⟩ := bt e o q
      rw [fl.2.1] at e1
      cases e1
  have notE : ∀ b o, s.heap.get? b = some o → b ≠ e := fun b o q z => fly_new I bs fl (z ▸ q)
  have trE : ∀ b o, H' b = some o → b ≠ e := fun b o q z => by rw [z, hne] at q; cases q
  have sameT : ∀ b o ob, H' b = some o → s'.heap.get? b = some ob → h6.get? b = some ob := fun b o ob hb q => by
    obtain ⟨ob', e1⟩ := bt b o hb
    have e2 := fl0.1 b _ e1
    rw [q] at e2
    cases e2
    exact fl.1 b _ e1
  have slotB : ∀ b o, s'.heap.get? b = some o → b ∈ frs X.stack → ∃ sl, h6.get? b = some { o with slots := sl } := fun b o q hb => by
    obtain ⟨_, o', ho', hnf⟩ := fl0.2.2.1.mem hb
    rw [q] at ho'
    cases ho'
    exact us b o q hnf
  refine ⟨hne, I.call' (s' := { s' with heap := h6 }) (ch := []) os ⟨fun b o q n hb _ => fl.1 b o (bk b o q n hb), fun b o q n hb _ => ?_, fun b o q n _ => ?_, fun b o q _ => ?_, fun b xs q => ?_, fun b o u q => ?_, fun b ps q => ?_⟩ ?_ bare fun b z => by cases z⟩
  · obtain ⟨sl, e1⟩ := un.slot b o q n hb (by simp)
    obtain ⟨sl2, e2⟩ := slotB b _ e1 hb
    exact ⟨sl2, e2⟩
  · rw [upd_ne (notE b o q)]
    exact un.free b o q n (by simp)
  · by_cases hb : b ∈ frs X.stack
    · obtain ⟨o1, e1⟩ := un.there b o q (by simp)
      obtain ⟨sl, e2⟩ := slotB b o1 e1 hb
      exact ⟨_, e2⟩
    · obtain ⟨ob, e1⟩ := bs b o q hb
      exact ⟨ob, fl.1 b ob e1⟩
  · have := un.tups b xs q
    rw [upd_ne (trE b _ this)]; exact this
  · have := un.frzs b o u q
    rw [upd_ne (trE b _ this)]; exact this
  · obtain ⟨m, this⟩ := un.tbls b ps q
    exact ⟨m, by rw [upd_ne (trE b _ this)]; exact this⟩
  · intro a o ha
    by_cases hae : a = e
    · subst hae
      rw [upd_same] at ha
      cases ha
      obtain ⟨oe, vs, e1, e2, _⟩ := fl.first
      exact ⟨⟨oe, e1, e2⟩, ⟨oe, e1⟩, fun h1 h2 ⟨o, q1, q2⟩ k => ⟨o, k o q1, q2⟩⟩
    · rw [upd_ne hae] at ha
      refine (hok a o ha).stay (fun b u hb q => ?_) (fun b q => by rw [upd_ne (trE b _ q)]; exact q) fun b xs q => by rw [upd_ne (trE b _ q)]; exact q
      rcases hb with rfl | hb
      · exact sameT b _ u ha q
      · exact sameT b _ u hb q
theorem name_goes {M : Model} {A : Around} {E : Value → Shared → Prop} {j : Nat} {n : Str} {pos : Pos} {Q : Unit → Shared → Prop} (I : Inv X pins σ H s) (hN : X.N.Nodup) (hj : X.N[j]? = some n) (hl : X.env.scope.names.lookup n = some .local)
    (h : ∀ s', Inv X pins (σ.set j none) H s' → Q () s') : wpAny M A (do bindName X.env n .none; unbindBehindTheSuite X.env n pos) Q E s := by
  obtain ⟨m, hn, hlk⟩ := id I.loc
  have hcls : (X.env.scope.kind == .class || (X.env.scope.kind == .module && X.env.locals != X.env.globals)) = false := by rw [I.ok.kind]; rfl
  refine wpAny_nameGoes_keeps hl hn hcls fun h' v hn' hs => h _ ?_
  obtain ⟨oL, _, _, hoL, hdL, _⟩ := id hn
  have above : ∀ b o, X.s_0.heap.get? b = some o → b ≠ X.env.locals := fun b o q => Nat.ne_of_lt (Nat.lt_of_lt_of_le (Heap.lt_size q) I.ok.above)
  refine ⟨I.ok, I.os, I.bare, ⟨fun b o q n hb hx => (hs.2 b (above b o q)).trans (I.base.keep b o q n hb hx), fun b o q n hb hx => ?_, I.base.free, fun b o q hx => ?_, I.base.tups, I.base.frzs, I.base.tbls⟩, ⟨_, hn', fun i y w e1 e2 e3 => ?_⟩, fun y c hc => ?_, I.free, I.freeC, fun p hp => ?_, hok_stay I.hok fun b o ob hb q => ?_, by rw [List.length_set]; exact I.len⟩
  · obtain ⟨sl, e1⟩ := I.base.slot b o q n hb hx
    exact ⟨sl, (hs.2 b (above b o q)).trans e1⟩
  · obtain ⟨o', e1⟩ := I.base.there b o q hx
    exact ⟨o', (hs.2 b (above b o q)).trans e1⟩
  · by_cases hij : i = j
    · subst hij
      by_cases hl2 : i < σ.length
      · rw [List.getElem?_set_self hl2] at e2; cases e2
      · rw [List.getElem?_eq_none (by rw [List.length_set]; omega)] at e2; cases e2
    · rw [List.getElem?_set_ne (Ne.symm hij)] at e2
      obtain ⟨u, r, lk⟩ := hlk i y w e1 e2 e3
      refine ⟨u, r, ?_⟩
      rcases lk with ⟨k, em⟩ | ⟨k, c, ec, z⟩
      · refine .inl ⟨k, ?_⟩
        have : y ≠ n := fun z => hij (nodup_ix hN e1 (z ▸ hj))
        show (if y = n then v else m y) = some u
        rw [if_neg this]; exact em
      · refine .inr ⟨k, c, ec, z.sameBut hs ?_⟩
        exact I.cne y c ec
  · obtain ⟨w, z⟩ := I.cell y c hc
    exact ⟨w, z.sameBut hs (I.cne y c hc)⟩
  · obtain ⟨e1, e2, e3, e4, e5⟩ := I.pin p hp
    exact ⟨(hs.2 p.1 e3).trans e1, e2, e3, e4, e5⟩
  · exact (hs.2 b (fun z => by rw [z, I.free] at hb; cases hb)).trans q
theorem try_raise {W : Addr → Hp → Prop} {D : Ends} {found kept en sn : Str} {i j : Nat} {S : Addr} {ce : Expr} {pf pa pk pe pa2 np hpos pos : Pos} (I : Inv X pins σ H s) (hst : X.stack = X.env :: X.outer) (hf : X.env.frame = some X.env.locals) (hN : X.N.Nodup)
    (hi : X.N[i]? = some kept) (hik : X.env.scope.names.lookup kept = some .local) (hj : X.N[j]? = some en) (hjk : X.env.scope.names.lookup en = some .local) (hg : Gl X sn) (hm : X.mg sn = some (.ref S))
    (hx : ∀ C H', W C H' → PySem.W.exmOne X.K (.ref C) (.ref S) = some true)
    (hce : wpAny (model X.prog X.w) X.A (eval ce X.env) (fun _ _ => False) (fun ev s' => ∃ e C H', ev = .ref e ∧ FlyAt X.prog X.w X.stack H s H' e C s' ∧ W C H') s)
    (hD : ∀ e C H', W C H' → H' e = none → D.nx (((σ.set j (some (.ref e))).set i (some (.ref e))).set j none) (upd H' e (.ext (excAt e C))))
    (hs1 : swapsWith ce (some (.Name found pf)) pa.line X.env = pure false := by rfl) (hs2 : swapsWith (.Name en pe) (some (.Name kept pk)) pa2.line X.env = pure false := by rfl)
    (hd1 : (sn == ("__debug__" : Str)) = false := by decide) (hd2 : (en == ("__debug__" : Str)) = false := by decide) :
    wpAny (model X.prog X.w) X.A (exec (.Try [.Assign [.Name found pf] ce pa] [.ExceptHandler (some (.Name sn np)) (some en) [.Assign [.Name kept pk] (.Name en pe) pa2] hpos] [] [] pos) X.env) (SP X pins D) X.xe s := by
  have hfr : X.A.frames = some (X.env :: X.outer) := by rw [I.ok.frames, hst]
  refine wpAny_Try_except (wpAny_execs_cons (wpAny_Assign_Name (wpAny_mono hce (fun _ _ z => z.elim) fun ev s' hq => ?_) hs1))
  obtain ⟨e, C, H', rfl, ⟨os, bare, un, hok, B, t, fl, bt, bk, bs⟩, hW⟩ := hq
  have fl0 := fl
  rw [hst] at fl
  refine wpAny_looks_onW hfr hf fl fun h4 held us4 => ?_
  refine wpAny_landsW held fun h5 fl5 us5 => ?_
  have us45 := us4.trans us5
  rw [← hst] at fl5
  obtain ⟨hne, I5⟩ := land_inv I os bare un hok fl0 bt bk bs fl5 us45
  refine wpAny_handleBy_cons (codeAny_handlers_test ?_) (by intro q; cases q)
  refine Calls.Name_function_global I5.ok.kind hg (Calls.loadGlobal_global (by rw [I5.ok.glob]; exact I5.mod.glob.keeps I5.bk) hm ?_) hd1
  obtain ⟨oe, vs, e1, e2, _⟩ := fl5.first
  have LT : PySem.W.Looks (model X.prog X.w) h5 (typeOf (.ref e)) (.ref C) := e2 ▸ (PySem.W.Looks.ld e1).andThen .now
  refine PySem.W.Looks.here (PySem.W.exm_one I5.kIn LT (hx C H' hW)) ?_
  refine codeAny_handlers_suite_as ?_
  refine lands_againW fl5 fun h6 fl6 us6 => ?_
  obtain ⟨_, I6⟩ := land_inv I os bare un hok fl0 bt bk bs fl6 (us45.trans us6)
  have hjl : j < σ.length := by rw [I.len]; exact (List.getElem?_eq_some_iff.mp hj).1
  refine store_ok I6 hN hj (.inl hjk) (v := .ref e) rfl (fun s7 I7 => ?_) (.inr hjk)
  obtain ⟨m, hn, hl⟩ := id I7.loc
  obtain ⟨u, r, lk⟩ := hl j en (.ref e) hj (List.getElem?_set_self hjl) (.inl hjk)
  cases r
  refine wpAny_execs_cons (wpAny_Assign_Name ?_ hs2)
  have ld : m en = some (.ref e) := by
    rcases lk with ⟨_, z⟩ | ⟨k, _⟩
    · exact z
    · rcases k with k | k <;> (have k : X.env.scope.names.lookup en = _ := k; rw [hjk] at k; cases k)
  refine wpAny_Name (wpAny_loadName_local I7.ok.kind hjk hn ld ?_) hd2
  refine store_ok I7 hN hi (.inl hik) (v := .ref e) rfl (fun s8 I8 => ?_) (.inr hik)
  refine wpAny_execs_nil ?_
  exact name_goes I8 hN hj hjk fun s9 I9 => ⟨_, _, I9, hD e C H' hW hne⟩
end
end L3
set_option Elab.async false
set_option linter.all false
set_option autoImplicit false
set_option maxRecDepth 100000
namespace L3
open PySem PySem.Spec PyProof.Rows L2
section
variable {X : Cx} {pins : List (Addr × Obj)} {σ : St} {H : Hp} {s : Shared}
theorem try_ret {D : Ends} {found : Str} {i : Nat} {ce : Expr} {h₀ : ExceptHandler} {hs : List ExceptHandler} {pf pa pos : Pos} {W : VK} (I : Inv X pins σ H s) (hN : X.N.Nodup) (hi : X.N[i]? = some found) (hik : X.env.scope.names.lookup found = some .local)
    (hce : ∀ E : Value → Shared → Prop, wpAny (model X.prog X.w) X.A (eval ce X.env) (EP X pins σ W) E s) (hD : ∀ v H', W v H' → D.nx (σ.set i (some v)) H')
    (hs1 : swapsWith ce (some (.Name found pf)) pa.line X.env = pure false := by rfl) :
    wpAny (model X.prog X.w) X.A (exec (.Try [.Assign [.Name found pf] ce pa] (h₀ :: hs) [] [] pos) X.env) (SP X pins D) X.xe s := by
  refine wpAny_Try_except (wpAny_execs_cons (wpAny_Assign_Name (thn (hce _) fun u s1 ⟨v, H1, I1, r1, q1⟩ => ?_) hs1))
  refine store_ok I1 hN hi (.inl hik) r1 (fun s2 I2 => ?_) (.inr hik)
  exact wpAny_execs_nil (wpAny_execs_nil ⟨_, _, I2, hD v H1 q1⟩)
theorem deed_eval {d : Str} {i : Nat} {f : Addr} {p pos : Pos} {Q : Value → Shared → Prop} {E : Value → Shared → Prop} (I : Inv X pins σ H s) (hi : X.N[i]? = some d) (hik : X.env.scope.names.lookup d = some .local) (hv : σ[i]? = some (some (.ref f))) (hf : PySem.W.FnAt f s.heap)
    (h : codeAny (model X.prog X.w) X.A (.call (.ref f) ⟨[], []⟩) (fun r s' => match r with | .ok (.ret u) => Q u s' | .ok _ => False | .error e => E e s') s) (hd : (d == ("__debug__" : Str)) = false := by decide) :
    wpAny (model X.prog X.w) X.A (eval (.Call (.Name d p) [] [] pos) X.env) Q E s := by
  obtain ⟨m, hn, hl⟩ := id I.loc
  obtain ⟨u, r, lk⟩ := hl i d (.ref f) hi hv (.inl hik)
  cases r
  have ld : m d = some (.ref f) := by
    rcases lk with ⟨_, z⟩ | ⟨k, _⟩
    · exact z
    · rcases k with k | k <;> (have k : X.env.scope.names.lookup d = _ := k; rw [hik] at k; cases k)
  refine wpAny_Call_Name_kw (wpAny_Name (wpAny_loadName_local I.ok.kind hik hn ld ?_) hd)
  refine PySem.W.callWith_F0 hf (wpAny_call (codeAny_mono h fun r s' hq => ?_))
  cases r with
  | error e => exact hq
  | ok fl =>
    cases fl with
    | ret u => exact hq
    | next => exact False.elim hq
    | brk => exact False.elim hq
    | cont => exact False.elim hq
end
def rhoL (ds : List D) : Ev := ds.map fun d => some (.dat d)
theorem rep_lam {K : Frag} {tw : Tw} {F H : Hp} {vs : List V} {ds : List D} (st : Stt tw F H) (a : DvAll K tw F vs ds) : Rep K tw H F H (vs.map some) (rhoL ds) := by
  have := rep_start (N := vs.map fun _ => ("" : Str)) st a
  have e1 : L2.start (vs.map fun _ => ("" : Str)) vs = vs.map some := by unfold L2.start; simp
  have e2 : startD (vs.map fun _ => ("" : Str)) ds = rhoL ds := by unfold startD rhoL; rw [List.length_map, a.length, Nat.sub_self]; simp
  rw [e1, e2] at this
  exact this
section
variable {P : Program} {w : World} {K : Frag} {mg : Str → Option Value} {base : Heap} {N : List Str} {scope : Scope} {f : Addr} {cl : List (Str × Addr)} {A : Around} {outer : List Env} {s : Shared} {H F : Hp} {tw : Tw} {vs : List V} {ds : List D} {body : Expr} {params : Arguments} {pm ctv cv : Value} {k : Nat}
structure LamAt (K : Frag) (N : List Str) (scope : Scope) (params : Arguments) (body : Expr) (cl : List (Str × Addr)) (vs : List V) (f : Addr) (pm cv ctv : Value) (H : Hp) (h : Heap) : Prop where
  ob : h.get? f = some { cls := .type "function", data := .func (PySem.W.kla_fn "<lambda>" lamQ params body scope cl pm cv ctv) }
  cd : h.CodeRec cv lamQ
  ct : Caught H h N cl vs
  bd : bindArgs (PySem.W.kla_fn "<lambda>" lamQ params body scope cl pm cv ctv) ⟨[], []⟩ = pure []
theorem lam_ret {QD : D → Prop} {q : QE} (S : LamScope N scope) (hr : Room (k + 1) A) (e0 : Env0 P w K mg base A outer s H) (L : LamAt K N scope params body cl vs f pm cv ctv H s.heap) (st : Stt tw F H) (dv : DvAll K tw F vs ds)
    (hb : DE (cxL (CX1 P w) P w K mg base N (envL scope s.heap.objs.size f cv cl) A outer s H (fun _ _ _ => False)) body q) (hq : q (rhoL ds) fun r => ∃ d, r.fz = some d ∧ QD d) :
    codeAny (model P w) A (.call (.ref f) ⟨[], []⟩) (fun r s' => match r with | .ok (.ret u) => CE outer P w H s (fun v H' => ∃ F' d, Stp tw F H F' H' ∧ Dv K tw F' v d ∧ QD d) u s' | .ok _ => False | .error e => False) s := by
  refine deed_run (E := fun _ _ _ => False) S hr e0 L.ct L.ob L.cd L.bd fun h' tk I => ?_
  have rp := rep_lam st dv
  refine wpAny_mono (hb.pe [] _ _ H (fun v H' => ∃ F' d, Stp tw F H F' H' ∧ Dv K tw F' v d ∧ QD d) I ⟨tw, H, F, rhoL ds, _, st, rp, hq, fun v H1 ⟨F1, r, s1, r1, d, ed, qd⟩ => ?_⟩) (fun u s' ⟨v, H1, J, rv, z⟩ => ⟨v, H1, J.os, J.bare, J.base, J.hok, rv, z⟩) fun e s' z => ?_
  · obtain ⟨F2, s2, _, _, dv2⟩ := frozen rp s1 r1 ed
    exact ⟨F2, d, s2, dv2, qd⟩
  · exact wpAny_mono z (fun _ _ ⟨_, _, _, _, _, y⟩ => y) fun _ _ ⟨_, _, _, _, _, y⟩ => y
theorem lam_raise {x : QX} {C : Addr} (S : LamScope N scope) (hr : Room (k + 1) A) (e0 : Env0 P w K mg base A outer s H) (L : LamAt K N scope params body cl vs f pm cv ctv H s.heap) (st : Stt tw F H) (dv : DvAll K tw F vs ds)
    (hb : ∀ E : XK, XRaise (cxL (CX1 P w) P w K mg base N (envL scope s.heap.objs.size f cv cl) A outer s H E) (fun C H' => E (.ref C) none H') → DX (cxL (CX1 P w) P w K mg base N (envL scope s.heap.objs.size f cv cl) A outer s H E) (fun C H' => E (.ref C) none H') body x) (hq : x (rhoL ds) fun C' => C' = C) :
    codeAny (model P w) A (.call (.ref f) ⟨[], []⟩) (fun r s' => match r with | .ok _ => False | .error ev => ∃ e H', ev = .ref e ∧ FlyAt P w outer H s H' e C s' ∧ ∃ F', Stp tw F H F' H') s := by
  refine deed_run (E := fun c _ H' => c = .ref C ∧ ∃ F', Stp tw F H F' H') S hr e0 L.ct L.ob L.cd L.bd fun h' tk I => ?_
  have rp := rep_lam st dv
  have fin : ∀ ev s', CX1 P w outer H s (fun c _ H' => c = .ref C ∧ ∃ F', Stp tw F H F' H') ev s' → ∃ e H', ev = .ref e ∧ FlyAt P w outer H s H' e C s' ∧ ∃ F', Stp tw F H F' H' := fun ev s' ⟨e, C', H', z1, z2, z3, z4⟩ => by
    cases z3
    exact ⟨e, H', z1, z2, z4⟩
  refine wpAny_mono ((hb _ xraise_lam).re [] _ _ H I ⟨tw, H, F, rhoL ds, _, st, rp, hq, fun C' F' H' s' e => by rw [e]; exact ⟨rfl, F', s'⟩⟩) (fun _ _ z => z.elim) fun e s' z => ?_
  exact wpAny_mono z (fun _ s'' y => fin e s'' y) fun e' s'' y => fin e' s'' y
end
end L3
set_option Elab.async false
set_option linter.all false
set_option autoImplicit false
set_option maxRecDepth 100000
namespace L3
open PySem PySem.Spec PyProof.Rows L2 PySem.W Builtin Builtin.ObjectAttr Builtin.Getset_descriptor
section
variable {prog : Program} {w : World} {A : Around} {E : Value → Shared → Prop} {K : Frag} {h : Heap} {g : Array GenState} {d : Drawn} {t : Nat} {os : OsState} {e C : Addr} {o : Obj}
structure ExcCls (K : Frag) (C : Addr) : Prop where
  ga : findIn K (.ref C) "__getattribute__" = some (some (.builtin "BaseException.__getattribute__"))
  gt : findIn K (.ref C) "__getattr__" = some none
  cl : findIn K (.ref C) "__class__" = some (some (.builtin "object.__class__"))
  sb : subIn K (.ref C) (.type "BaseException") = some true
  ob : mroIn K C (.type "object") = some true
theorem exc_check {M : Model} {nameV : Value} {Q : Unit → Shared → Prop} (X : K.In h) (Z : ExcCls K C) (hx : h.get? e = some o) (hc : o.cls = .ref C) (hq : Q () ⟨h, g, d, t, os⟩) : wpAny M A (checkBuiltinCall "BaseException.__getattribute__" ⟨[.ref e, nameV], []⟩) Q E ⟨h, g, d, t, os⟩ := by
  have hk : builtinKind "BaseException.__getattribute__" = some .slot := by decide +kernel
  have hsplit : splitId "BaseException.__getattribute__" = some ("BaseException", "__getattribute__") := by decide +kernel
  have ha := F.args_bexc_ga (.ref e) nameV
  have L := looks_subIn (M := M) X Z.sb
  simp only [checkBuiltinCall, hk, hsplit]
  refine wpAny_bind ?_
  unfold isInstance
  repeat (first | (with_reducible refine wpAny_loadPart_at hx ?_; rw [hc]) | with_reducible refine L.at ?_ | wp_step)
  exact hq
theorem exc_get {R : Result → Shared → Prop} {tp : Value} (X : K.In h) (Z : ExcCls K C) (hx : h.get? e = some o) (hc : o.cls = .ref C) (hq : R (.ok (.ret (.ref C))) ⟨h, g, d, t, os⟩) :
    codeAny (model prog w) A (.call (.builtin "getset_descriptor.__get__") ⟨[.builtin "object.__class__", .ref e, tp], []⟩) R ⟨h, g, d, t, os⟩ := by
  have K0 : Looks (model prog w) h (typeOf (.ref e)) (.ref C) := hc ▸ (Looks.ld hx).andThen .now
  have K1 := looks_mroIn (M := model prog w) X Z.ob
  have tg := KF.type_class
  refine codeAny_call_builtin KF.slot_gs.plain KF.entry_gs (KF.slot_gs.check _ _ _ _ _ _ _ _ tg (KF.args_gs _ _ _) ?_)
  unfold Builtin.«getset_descriptor.__get__» descrGet
  rw [dga_obj]
  refine wpAny_bind (wpAny_pure ?_)
  unfold descrGetter descrCheckInstance descrNameAndClass isInstance
  simp only [KF.owner_class]
  repeat lk
  refine ⟨Code.quiet_builtin _ (by decide +kernel), codeAny_builtin KF.entry_class ?_⟩
  unfold Builtin.«object.__class__» shownTypeOf
  repeat lk
  exact hq
theorem exc_entry {tk : Tok} {Q : Fin → Shared → Prop} (X : K.In h) (Z : ExcCls K C) (hx : h.get? e = some o) (hc : o.cls = .ref C) (hq : Q (.done (.ret (.ref C))) ⟨h, g, d, t, os⟩) :
    wpAny (model prog w) A (Builtin.«object.__getattribute__» ⟨[.ref e, .str "__class__" tk], []⟩) Q E ⟨h, g, d, t, os⟩ := by
  have L := looks_findIn (M := model prog w) X Z.cl
  have f5 := F.typeOf_object_class
  have f6 := F.slot_gs_get.lookup
  have f7 := F.slot_gs_set.lookup
  repeat (any_goals (first | assumption | (with_reducible refine wpAny_loadPart_at hx ?_; rw [hc]) | with_reducible refine L.at ?_ | wp_step))
  refine exc_get X Z hx hc ?_
  repeat (any_goals (first | assumption | wp_step))
theorem exc_class {Q : Option Value → Shared → Prop} (X : K.In h) (Z : ExcCls K C) (hx : h.get? e = some o) (hc : o.cls = .ref C) (hq : Q (some (.ref C)) ⟨h, g, d, t + 1, os⟩) : wpAny (model prog w) A (getAttr? (.ref e) "__class__") Q E ⟨h, g, d, t, os⟩ := by
  have ga := F.attr_ValueError.ga
  have f3 := ga.bind (.ref e)
  have L1 := looks_findIn (M := model prog w) X Z.ga
  have L2 := looks_findIn (M := model prog w) X Z.gt
  unfold getAttr? getAttrBy?
  refine wpAny_bind (wpAny_mkText (wpAny_bind (wpAny_attempt ?_)))
  repeat (any_goals (first | assumption | (with_reducible refine wpAny_loadPart_at hx ?_; rw [hc]) | with_reducible refine L1.at ?_ | with_reducible refine L2.at ?_ | wp_step))
  refine codeAny_call_builtin ga.plain F.entry_bexc_ga (exc_check X Z hx hc (exc_entry X Z hx hc ?_))
  repeat (any_goals (first | assumption | wp_step))
theorem kitx_exc (Z : ExcCls K C) {c0 : Value} {dd : Option Addr} {cd : ClassData} {sl : Array (Option Value)} (hk : K.lookup C = some ⟨c0, dd, .cls cd, sl⟩) : KitX K (.ref e) (.ref C) (excAt e C) where
  ty := fun M h X ⟨o, hx, hc⟩ => hc ▸ (Looks.ld hx).andThen .now
  it := fun M h X _ => by
    intro A' Q' E' s' k q
    unfold isType loadHead
    exact wpAny_bind (wpAny_loadPart (k _ _ (X _ _ hk)) (wpAny_pure q))
  ne := fun h tp dd its n sl X htp => Bool.eq_false_iff.mpr fun q => by
    have e1 : C = tp := Value.ref.inj (beq_iff_eq.mp q)
    subst e1
    have := (X _ _ hk).symm.trans htp
    cases this
  ca := fun {prog w A E Q s} X ⟨o, hx, hc⟩ k => by
    obtain ⟨hh, g, d, t, os⟩ := s
    exact exc_class X Z hx hc k
end
section
variable {X : Cx}
def rInstX (K : Frag) : List V → Hp → VK → Prop := fun vs H Q => ∃ e C v b, vs = [.ref e, v] ∧ H e = some (.ext (excAt e C)) ∧ ExcCls K C ∧ (∃ c0 dd cd sl, K.lookup C = some ⟨c0, dd, .cls cd, sl⟩) ∧ (∀ u, RelV v u → kitOne K (.ref C) u = some b) ∧ Q (.bl b) H
theorem cr_instX : CallR X (.builtin "isinstance") (rInstX X.K) := by
  intro pins s σ H vs us Q I r hh
  obtain ⟨e, C, v, b, rfl, he, Z, ⟨c0, dd, cd, sl, hk⟩, hkit, q⟩ := hh
  cases r with
  | cons rx rr =>
    cases rr with
    | cons rt rr =>
      cases rr
      cases rx
      obtain ⟨hp, _, _⟩ := I.hok e _ he
      exact kia_one (kitx_exc Z hk) I.kIn hp (hkit _ rt) (fun z => nomatch z) fun tk => ⟨.bl b, H, I.kept (h' := s.heap) (t' := tk) fun _ _ z => z, rfl, q⟩
end
section
variable {X : Cx}
def rCountL (K : Frag) : V → List V → Hp → VK → Prop := fun x xs H Q => ∃ (a : Addr) (bs : List Bool), x = V.ref a ∧ xs = [V.bl true] ∧ SqL K H a (bs.map V.bl) ∧ Q (.int (bs.countP id : Nat)) H
theorem vals_bls {bs : List Bool} : ∀ {us : List Value}, Vals (bs.map V.bl) us → us = bs.map Value.bool := by
  induction bs with
  | nil => intro us h; cases h; rfl
  | cons b bs ih =>
    intro us h
    cases h with
    | cons h t => cases h; rw [ih t]; rfl
theorem mt_lcount : MtR X "list.count" (rCountL X.K) := by
  intro pins s σ H x xs v us Q I rx rxs h
  obtain ⟨a, bs, rfl, rfl, hs, q⟩ := h
  cases rx
  cases rxs with
  | cons ry rt =>
    cases rt
    cases ry
    obtain ⟨its, rv, ⟨⟨cls, dd, data, sl⟩, n, ho, hc, hdn, hd⟩, hlen⟩ := I.list hs
    simp only at hc hd
    subst hc hd
    have eit := vals_bls rv
    subst eit
    have fy : flatV (.bl true) = true := rfl
    have fys : (bs.map V.bl).all flatV = true := by rw [List.all_map]; exact List.all_eq_true.mpr fun _ _ => rfl
    refine call_meets PySem.F.slot_list_count ⟨_, ho, rfl⟩ PySem.F.entry_list_count (PySem.F.args_list_count_2 _ _)
      (SeqAt.list_countAt a _ n dd sl (.bool true) (eqU (.bl true))) ⟨ho, fun u' hu' => mem_eqAt (show RelV (.bl true) (.bool true) from rfl) fy rv fys u' (by simpa using hu'), ?_⟩
    have ec : (bs.map Value.bool).countP (eqU (.bl true)) = bs.countP id := by
      rw [List.countP_map]
      refine List.countP_congr fun b _ => ?_
      cases b <;> decide
    refine ⟨.int (bs.countP id : Nat), H, I.tok _, ⟨s.toks, ?_⟩, q⟩
    rw [← ec]
end
end L3
set_option Elab.async false
set_option linter.all false
set_option autoImplicit false
set_option maxRecDepth 100000
namespace L3
open PySem PySem.Spec PyProof.Rows L2
def Grow (H H' : Hp) : Prop := (∀ b o, H b = some o → H' b = some o) ∧ ∀ tw F, Stt tw F H → Stp tw F H F H'
theorem Grow.refl (H : Hp) : Grow H H := ⟨fun _ _ e => e, fun _ _ s => Stp.refl s⟩
theorem Grow.trans {H H1 H2 : Hp} (a : Grow H H1) (b : Grow H1 H2) : Grow H H2 := ⟨fun c o e => b.1 c o (a.1 c o e), fun tw F s => (a.2 tw F s).trans (b.2 tw F (a.2 tw F s).st)⟩
theorem Grow.new {H : Hp} {p : Addr} (o : HO) (h : H p = none) : Grow H (upd H p o) := ⟨fun b u e => by rw [upd_ne (ne_of_none e h)]; exact e, fun tw F s => Stp.alloc s h⟩
structure Kind (K : Frag) (S : Addr) (cs : List Addr) (C : Addr) (bs : List Bool) : Prop where
  ex : PySem.W.excIn K C bmV "ValueError.__new__" = true
  sh : PySem.W.exmOne K (.ref C) (.ref S) = some true
  kit : cs.map (fun c => PySem.W.kitOne K (.ref C) (.ref c)) = bs.map some
  val : PySem.W.kitOne K (.ref C) (.type "ValueError") = some true
  zc : ExcCls K C
  lk : ∃ c0 dd cd sl, K.lookup C = some ⟨c0, dd, .cls cd, sl⟩
def names6 : List Str := ["no place", "over", "no plan", "no piece", "no back", "no text"]
def spClass (K : Frag) (S : Addr) (cs : List Addr) : Sp := fun vs H Q _ => ∃ e C bs j nm, vs = [.ref e] ∧ H e = some (.ext (excAt e C)) ∧ Kind K S cs C bs ∧ bs.length = 6 ∧ bs.countP id = 1 ∧ bs[j]? = some true ∧ (∀ m : Nat, m < j → bs[m]? = some false) ∧ names6[j]? = some nm ∧ ∀ H', Grow H H' → Q (.str nm) H'
theorem kit_at {K : Frag} {S C : Addr} {cs : List Addr} {bs : List Bool} (k : Kind K S cs C bs) {i : Nat} {c : Addr} {b : Bool} (h1 : cs[i]? = some c) (h2 : bs[i]? = some b) : ∀ u, RelV (.ref c) u → PySem.W.kitOne K (.ref C) u = some b := fun u r => by
  cases r
  have := congrArg (fun l => l[i]?) k.kit
  simp only [List.getElem?_map, h1, h2] at this
  exact Option.some.inj this
theorem six {α : Type} {l : List α} (h : l.length = 6) : ∃ a b c d e f, l = [a, b, c, d, e, f] := match l, h with | [a, b, c, d, e, f], _ => ⟨a, b, c, d, e, f, rfl⟩
end L3
set_option Elab.async false
set_option linter.all false
set_option autoImplicit false
set_option maxRecDepth 100000
namespace L3
open PySem PySem.Spec PyProof.Rows L2
theorem fn_at {CX : CXT} {P : Program} {w : World} {K : Frag} {mg : Str → Option Value} {base : Heap} {k : Nat} {f : Addr} {name qual : Str} {params : Arguments} {body : List Stmt} {scope : Scope} {dV kV doc pm cdv ct oc : Value} {an od : Option Addr} {osl : Array (Option Value)} {N ps : List Str}
    {A : Around} {outer : List Env} {s : Shared} {H : Hp} {args : Args} {us : List Value} {vs : List V} {Q : VK} {E : XK} {t : TS}
    (look : K.lookup f = some ⟨oc, od, .func (PySem.W.fnOf name qual params body scope dV kV doc pm an cdv ct), osl⟩) (code : PySem.W.codeIn K cdv qual = true) (S : FnScope N ps scope) (room : Room (k + 1) A) (e0 : Env0 P w K mg base A outer s H)
    (bound : BindsTo s (PySem.W.fnOf name qual params body scope dV kV doc pm an cdv ct) args (ps.zip us)) (rel : Vals vs us) (hl : vs.length = ps.length)
    (ht : PSs (cxOf CX P w K mg base N qual scope f cdv A outer s H E) body t) (hq : t { nx := fun _ H' => Q .non H', rt := Q } (L2.start N vs) H) : codeAny (model P w) A (.call (.ref f) args) (CR CX outer P w H s Q E) s := by
  have kin : K.In s.heap := e0.mod.kin.keeps fun b o z => (e0.bs b o z).1
  have nolim : s.heap.NoLimit := e0.mod.nolimit.keeps fun b o z => (e0.bs b o z).1
  have kinds : ∀ y ∈ ps.zip us, scope.names.lookup y.1 = some .local ∨ (scope.names.lookup y.1 = some .cell ∧ ((cellsFrom (s.heap.objs.size + 1) scope.names []).lookup y.1).isSome = true) := fun y hy => by
    rcases S.par y.1 (List.of_mem_zip (show (y.1, y.2) ∈ ps.zip us from hy)).1 with z | z
    · exact .inl z
    · exact .inr ⟨z, PySem.W.cellsFrom_some _ _ _ (.inl z)⟩
  refine codeAny_call_function room.depth (kin _ _ look) rfl S.co S.gen rfl (PySem.W.codeRec_of kin code) (bound _ _ _ _ (wpAny_newFunctionEnv_cells S.kind kinds fun env henv s1 xx => ?_))
  subst henv
  refine ⟨nolim.keeps xx.toInCall.keep, codeAny_func ?_⟩
  have J : Inv (cxOf CX P w K mg base N qual scope f cdv A outer s H E) [] (L2.start N vs) H s1 := inv_start S room.hd e0 hl rel xx
  refine wpAny_mono (ht [] s1 _ H _ J hq) (fun fl s' z => ?_) fun _ _ z => z
  match fl, z with
  | .ret u, ⟨v, σ', H', J', rv, q⟩ => exact ⟨v, H', J'.os, J'.bare, J'.base, J'.hok, rv, q⟩
  | .next, ⟨σ', H', J', q⟩ => exact ⟨V.non, H', J'.os, J'.bare, J'.base, J'.hok, rfl, q⟩
  | .brk, ⟨_, _, _, q⟩ => exact q.elim
  | .cont, ⟨_, _, _, q⟩ => exact q.elim
section
variable {X : Cx}
def DeedRet (X : Cx) (H : Hp) (f : Addr) (W : VK) : Prop := ∀ (pins : List (Addr × Obj)) (σ : St) (s : Shared), Inv X pins σ H s → PySem.W.FnAt f s.heap ∧ codeAny (model X.prog X.w) X.A (.call (.ref f) ⟨[], []⟩) (fun r s' => match r with | .ok (.ret u) => CE X.stack X.prog X.w H s W u s' | .ok _ => False | .error _ => False) s
def DeedRaise (X : Cx) (H : Hp) (f C : Addr) (W : Hp → Prop) : Prop := ∀ (pins : List (Addr × Obj)) (σ : St) (s : Shared), Inv X pins σ H s → PySem.W.FnAt f s.heap ∧ codeAny (model X.prog X.w) X.A (.call (.ref f) ⟨[], []⟩) (fun r s' => match r with | .ok _ => False | .error ev => ∃ e H', ev = .ref e ∧ FlyAt X.prog X.w X.stack H s H' e C s' ∧ W H') s
theorem ps_tryRet {d found : Str} {a i : Nat} {p cpos pf pa pos : Pos} {h₀ : ExceptHandler} {hs : List ExceptHandler} (hN : X.N.Nodup) (ha : X.N[a]? = some d) (hak : X.env.scope.names.lookup d = some .local) (hi : X.N[i]? = some found) (hik : X.env.scope.names.lookup found = some .local)
    (hd : (d == ("__debug__" : Str)) = false := by decide) (hs1 : swapsWith (.Call (.Name d p) [] [] cpos) (some (.Name found pf)) pa.line X.env = pure false := by rfl) :
    PS X (.Try [.Assign [.Name found pf] (.Call (.Name d p) [] [] cpos) pa] (h₀ :: hs) [] [] pos) (fun D σ H => ∃ f W, σ[a]? = some (some (.ref f)) ∧ DeedRet X H f W ∧ ∀ v H', W v H' → D.nx (σ.set i (some v)) H') := by
  intro pins s σ H D I ⟨f, W, e1, dr, hD⟩
  refine try_ret I hN hi hik (W := W) (fun E => ?_) hD hs1
  obtain ⟨fa, run⟩ := dr pins σ s I
  refine deed_eval I ha hak e1 fa (codeAny_mono run fun r s' z => ?_) hd
  match r, z with
  | .ok (.ret u), z => exact I.after z
theorem ps_tryRaise {d found kept en sn : Str} {a i j : Nat} {S : Addr} {p cpos pf pa pk pe pa2 np hpos pos : Pos} (hst : X.stack = X.env :: X.outer) (hf : X.env.frame = some X.env.locals) (hN : X.N.Nodup) (ha : X.N[a]? = some d) (hak : X.env.scope.names.lookup d = some .local)
    (hi : X.N[i]? = some kept) (hik : X.env.scope.names.lookup kept = some .local) (hj : X.N[j]? = some en) (hjk : X.env.scope.names.lookup en = some .local) (hg : Gl X sn) (hm : X.mg sn = some (.ref S))
    (hd : (d == ("__debug__" : Str)) = false := by decide) (hs1 : swapsWith (.Call (.Name d p) [] [] cpos) (some (.Name found pf)) pa.line X.env = pure false := by rfl) (hs2 : swapsWith (.Name en pe) (some (.Name kept pk)) pa2.line X.env = pure false := by rfl)
    (hd1 : (sn == ("__debug__" : Str)) = false := by decide) (hd2 : (en == ("__debug__" : Str)) = false := by decide) :
    PS X (.Try [.Assign [.Name found pf] (.Call (.Name d p) [] [] cpos) pa] [.ExceptHandler (some (.Name sn np)) (some en) [.Assign [.Name kept pk] (.Name en pe) pa2] hpos] [] [] pos)
      (fun D σ H => ∃ f C W, σ[a]? = some (some (.ref f)) ∧ DeedRaise X H f C W ∧ PySem.W.exmOne X.K (.ref C) (.ref S) = some true ∧ ∀ e H', W H' → H' e = none → D.nx (((σ.set j (some (.ref e))).set i (some (.ref e))).set j none) (upd H' e (.ext (excAt e C)))) := by
  intro pins s σ H D I ⟨f, C, W, e1, dr, hx, hD⟩
  obtain ⟨fa, run⟩ := dr pins σ s I
  refine try_raise (W := fun C' H' => C' = C ∧ W H') I hst hf hN hi hik hj hjk hg hm (fun C' H' z => by rw [z.1]; exact hx) (deed_eval I ha hak e1 fa (codeAny_mono run fun r s' z => ?_) hd) (fun e C' H' z hn => by obtain ⟨rfl, z⟩ := z; exact hD e H' z hn) hs1 hs2 hd1 hd2
  match r, z with
  | .error ev, ⟨e, H', z1, z2, z3⟩ => exact ⟨e, C, H', z1, z2, rfl, z3⟩
theorem pe_never {e : Expr} : PE X e (fun _ _ _ => False) := fun _ _ _ _ _ _ z => z.elim
end
section
variable {X : Cx} {pins : List (Addr × Obj)} {σ : St} {s : Shared} {N : List Str} {scope : Scope} {params : Arguments} {body : Expr} {cl : List (Str × Addr)} {vs : List V} {f : Addr} {pm cv ctv : Value}
structure LamIn (X : Cx) (N : List Str) (scope : Scope) (params : Arguments) (body : Expr) (cl : List (Str × Addr)) (vs : List V) (f : Addr) (pm cv ctv : Value) : Prop where
  at0 : LamAt X.K N scope params body cl vs f pm cv ctv X.H_0 X.s_0.heap
  fn : X.H_0 f = none ∧ f ∉ X.fs
  cells : ∀ x c, cl.lookup x = some c → c ∉ X.fs
  code : ∃ c, cv = .ref c ∧ X.H_0 c = some (.ext (recAt c))
  ex : X.ex = []
theorem lam_keep {p : Addr} {xs : List V} (L : LamIn X N scope params body cl vs f pm cv ctv) (hp : X.H_0 p = none) (I : Inv X pins σ (upd X.H_0 p (.tup xs)) s) : LamAt X.K N scope params body cl vs f pm cv ctv (upd X.H_0 p (.tup xs)) s.heap := by
  have nex : ∀ b : Addr, b ∉ X.ex := fun b z => by rw [L.ex] at z; cases z
  obtain ⟨c, e1, e2⟩ := L.code
  obtain ⟨_, its, _, ob, eob, cob, n, dob⟩ := I.hok p _ upd_same
  have kc : ∀ x c, cl.lookup x = some c → ∀ o, X.s_0.heap.get? c = some o → s.heap.get? c = some o := fun x c hc o q => I.base.keep c o q (L.at0.ct.cell x c hc).2 (L.cells x c hc) (nex c)
  have ef := I.base.keep f _ L.at0.ob L.fn.1 L.fn.2 (nex f)
  refine ⟨ef, ?_, ⟨L.at0.ct.len, L.at0.ct.inj, fun i x hx => ?_, fun x c hc => ?_⟩, L.at0.bd⟩
  · obtain ⟨z, _, _⟩ := I.hok c _ (show upd X.H_0 p (.tup xs) c = some (.ext (recAt c)) by rw [upd_ne (ne_of_none e2 hp)]; exact e2)
    rw [e1]; exact z
  · obtain ⟨c, u, v, y1, y2, y3, y4⟩ := L.at0.ct.val i x hx
    exact ⟨c, u, v, y1, isCell_keep y2 (kc x c y1), y3, y4⟩
  · obtain ⟨⟨v, o, z1, z2⟩, hn⟩ := L.at0.ct.cell x c hc
    have z3 := kc x c hc o z1
    refine ⟨⟨v, o, z3, z2⟩, ?_⟩
    have : c ≠ p := fun z => by
      rw [z, eob] at z3
      cases z3
      rw [dob] at z2
      cases z2
    rw [upd_ne this]; exact hn
variable {tw : Tw} {F : Hp} {ds : List D} {k : Nat}
theorem deed_ret {p : Addr} {xs : List V} {QD : D → Prop} {q : QE} (L : LamIn X N scope params body cl vs f pm cv ctv) (hp : X.H_0 p = none) (S : LamScope N scope) (hr : Room (k + 1) X.A) (st : Stt tw F (upd X.H_0 p (.tup xs))) (dv : DvAll X.K tw F vs ds)
    (hb : ∀ (s' : Shared) (H : Hp), Room k (X.A.deeper (envL scope s'.heap.objs.size f cv cl)) → DE (cxL (CX1 X.prog X.w) X.prog X.w X.K X.mg X.base N (envL scope s'.heap.objs.size f cv cl) X.A X.stack s' H (fun _ _ _ => False)) body q) (hq : q (rhoL ds) fun r => ∃ d, r.fz = some d ∧ QD d) :
    DeedRet X (upd X.H_0 p (.tup xs)) f (fun v H' => ∃ F' d, Stp tw F (upd X.H_0 p (.tup xs)) F' H' ∧ Dv X.K tw F' v d ∧ QD d) := fun pins σ s I => by
  have L2 := lam_keep L hp I
  exact ⟨⟨_, _, _, _, L2.ob⟩, lam_ret S hr I.env0 L2 st dv (hb s _ (hr.deeper _)) hq⟩
theorem deed_raise {p : Addr} {xs : List V} {x : QX} {C : Addr} (L : LamIn X N scope params body cl vs f pm cv ctv) (hp : X.H_0 p = none) (S : LamScope N scope) (hr : Room (k + 1) X.A) (st : Stt tw F (upd X.H_0 p (.tup xs))) (dv : DvAll X.K tw F vs ds)
    (hb : ∀ (s' : Shared) (H : Hp) (E : XK), Room k (X.A.deeper (envL scope s'.heap.objs.size f cv cl)) → XRaise (cxL (CX1 X.prog X.w) X.prog X.w X.K X.mg X.base N (envL scope s'.heap.objs.size f cv cl) X.A X.stack s' H E) (fun C H' => E (.ref C) none H') →
      DX (cxL (CX1 X.prog X.w) X.prog X.w X.K X.mg X.base N (envL scope s'.heap.objs.size f cv cl) X.A X.stack s' H E) (fun C H' => E (.ref C) none H') body x) (hq : x (rhoL ds) fun C' => C' = C) :
    DeedRaise X (upd X.H_0 p (.tup xs)) f C (fun H' => ∃ F', Stp tw F (upd X.H_0 p (.tup xs)) F' H') := fun pins σ s I => by
  have L2 := lam_keep L hp I
  exact ⟨⟨_, _, _, _, L2.ob⟩, lam_raise S hr I.env0 L2 st dv (fun E xr => hb s _ E (hr.deeper _) xr) hq⟩
end
end L3
set_option Elab.async false
set_option linter.all false
set_option autoImplicit false
set_option maxRecDepth 100000
namespace L3
open PySem PySem.Spec PyProof.Rows L2
theorem among_snoc {a b : Int} {c : Value} (l : List Value) (h : TriplesOk l) : ∀ {pos : Pos} {cv : Value}, codeAmong pos (l ++ [rawInt a, rawInt b, c]) = some cv → codeAmong pos l = some cv ∨ cv = c := by
  fun_induction TriplesOk l with
  | case1 =>
    intro pos cv z
    right
    simp only [List.nil_append, rawInt, codeAmong] at z
    split at z
    · cases z; rfl
    · cases z
  | case2 i t j u x rest ih =>
    intro pos cv z
    simp only [List.cons_append, codeAmong] at z ⊢
    split at z
    · rename_i q
      rw [if_pos q]
      exact .inl z
    · rename_i q
      rw [if_neg q]
      exact ih h z
  | case3 => exact h.elim
section
variable {X : Cx} {pins : List (Addr × Obj)} {σ : St} {H F : Hp} {s : Shared} {P c' : Addr} {ps : Array Value} {tw : Tw}
def tabH (H : Hp) (P c' : Addr) (ps : Array Value) : Hp := upd (upd H P (.tbl ps)) c' (.ext (recAt c'))
theorem inv_tab {more : Array Value} {h' : Heap} {tk : Nat} (I : Inv X pins σ H s) (hP : H P = some (.tbl ps)) (hx : Heap.ExtBut P s.heap h') (hc : s.heap.objs.size ≤ c') (hrec : h'.CodeRec (.ref c') lamQ) (htb : h'.get? P = some (PySem.W.tabObj (ps ++ more))) :
    Inv X pins σ (tabH H P c' (ps ++ more)) { s with heap := h', toks := tk } := by
  have hcn := I.hok.fresh hc
  have cP : ∀ b, H b = none → b ≠ P := fun b n z => by rw [z, hP] at n; cases n
  have oldC : ∀ b o, s.heap.get? b = some o → b ≠ c' := fun b o e => Nat.ne_of_lt (Nat.lt_of_lt_of_le (Heap.lt_size e) hc)
  have same : ∀ b o, H b = some o → b ≠ P → tabH H P c' (ps ++ more) b = some o := fun b o e n => by
    unfold tabH
    rw [upd_ne (ne_of_none e hcn), upd_ne n]; exact e
  have PC : P ≠ c' := fun z => by rw [z, hcn] at hP; cases hP
  have atP : tabH H P c' (ps ++ more) P = some (.tbl (ps ++ more)) := by
    unfold tabH
    rw [upd_ne PC, upd_same]
  refine I.un ⟨fun b o e n _ _ => hx b o (cP b n) e, fun b o e n _ _ => ⟨o.slots, hx b o (cP b n) e⟩, fun b o e n _ => ?_, fun b o e _ => ?_, fun b xs e => same b _ e fun z => (by rw [z, hP] at e; cases e), fun b o u e => same b _ e fun z => (by rw [z, hP] at e; cases e), fun b qs e => ?_⟩ fun a o ha => ?_
  · unfold tabH
    rw [upd_ne (oldC b o e), upd_ne (cP b n)]; exact n
  · by_cases hb : b = P
    · exact ⟨_, by rw [hb]; exact htb⟩
    · exact ⟨o, hx b o hb e⟩
  · by_cases hb : b = P
    · rw [hb, hP] at e
      cases e
      exact ⟨more, by rw [hb]; exact atP⟩
    · exact ⟨#[], by rw [same b _ e hb]; simp⟩
  · by_cases h1 : a = c'
    · have ha : upd (upd H P (.tbl (ps ++ more))) c' (.ext (recAt c')) a = some o := ha
      rw [h1, upd_same] at ha
      cases ha
      rw [h1]
      obtain ⟨c, oc, vs, t, e1, e2, e3⟩ := id hrec
      cases e1
      exact ⟨hrec, ⟨oc, e2⟩, fun h1 h2 ⟨c, o, vs, t, z1, z2, z3⟩ k => by cases z1; exact ⟨_, o, vs, t, rfl, k o z2, z3⟩⟩
    · by_cases h2 : a = P
      · rw [h2, atP] at ha
        cases ha
        rw [h2]
        exact htb
      · have ha : upd (upd H P (.tbl (ps ++ more))) c' (.ext (recAt c')) a = some o := ha
        rw [upd_ne h1, upd_ne h2] at ha
        refine (I.hok a o ha).stay (fun b u hb q => hx b u ?_ q) (fun b q => same b _ q fun z => by rw [z, hP] at q; cases q) fun b xs q => same b _ q fun z => by rw [z, hP] at q; cases q
        rcases hb with z | z
        · rw [z]; exact h2
        · intro y; rw [y, hP] at z; cases z
theorem stp_tab {t r : Addr} {pos : Pos} (st : Stt (some (t, r, some P)) F H) (hP : H P = some (.tbl ps)) (hcn : H c' = none) :
    Stp (some (t, r, some P)) F H (upd F c' (.ext (recAt c'))) (tabH H P c' (ps ++ #[rawInt pos.line, rawInt pos.col, .ref c'])) := by
  obtain ⟨ne, ⟨n, h1⟩, ⟨kvs, h2, h2'⟩, h3⟩ := id st.town
  have PC : P ≠ c' := fun z => by rw [z, hcn] at hP; cases hP
  have Fc : F c' = none := by
    cases q : F c' with
    | none => rfl
    | some o => rw [st.sub _ _ q] at hcn; cases hcn
  have FP : F P = none := st.off P (.inr (.inr rfl))
  have atP : tabH H P c' (ps ++ #[rawInt pos.line, rawInt pos.col, .ref c']) P = some (.tbl (ps ++ #[rawInt pos.line, rawInt pos.col, .ref c'])) := by
    unfold tabH
    rw [upd_ne PC, upd_same]
  have same : ∀ b o, H b = some o → b ≠ P → tabH H P c' (ps ++ #[rawInt pos.line, rawInt pos.col, .ref c']) b = some o := fun b o e n => by
    unfold tabH
    rw [upd_ne (ne_of_none e hcn), upd_ne n]; exact e
  have fz : Same F (upd F c' (.ext (recAt c'))) := fun b u e => by rw [upd_ne (ne_of_none (st.sub b u e) hcn)]; exact e
  refine ⟨fz, fun b o e1 e2 _ => by rw [upd_ne (ne_of_none e2 hcn)]; exact e1, fun b o e n => same b o e fun z => n (.inr (.inr (by rw [z]))), fun b o e => ?_, ⟨fun b u e => ?_, fun b hb => ?_, ⟨ne, ⟨n, same _ _ h1 fun z => (by rw [z, hP] at h1; cases h1)⟩, ⟨kvs, same _ _ h2 fun z => (by rw [z, hP] at h2; cases h2), h2'⟩, fun q hq => ?_⟩⟩⟩
  · by_cases hb : b = P
    · exact ⟨_, by rw [hb]; exact atP⟩
    · exact ⟨o, same b o e hb⟩
  · by_cases hb : b = c'
    · rw [hb, upd_same] at e
      rw [hb]
      unfold tabH
      rw [upd_same]; exact e
    · rw [upd_ne hb] at e
      exact same b u (st.sub b u e) fun z => by rw [z, FP] at e; cases e
  · have hbc : b ≠ c' := fun z => by
      obtain ⟨o, e⟩ := st.town.there hb
      rw [z, hcn] at e; cases e
    rw [upd_ne hbc]; exact st.off b hb
  · cases hq
    obtain ⟨ps', e1, e2, e3⟩ := h3 P rfl
    rw [hP] at e1
    cases e1
    refine ⟨_, atP, ?_, fun pos' cv z => ?_⟩
    · rw [Array.toList_append]
      exact TriplesOk_snoc _ _ _ _ e2
    · rw [Array.toList_append] at z
      rcases among_snoc _ e2 z with y | y
      · obtain ⟨c, y1, y2⟩ := e3 pos' cv y
        exact ⟨c, y1, fz _ _ y2⟩
      · exact ⟨c', y, upd_same⟩
end
end L3
set_option Elab.async false
set_option linter.all false
set_option autoImplicit false
set_option maxRecDepth 100000
namespace L3
open PySem PySem.Spec PyProof.Rows L2
def BMain (mg : Str → Option Value) (base : Heap) : Prop := ∃ bm ob, mg "__builtins__" = some (.ref bm) ∧ bm ≠ builtinsNs ∧ base.get? bm = some ob ∧ ob.cls = .type "module" ∧ ob.dict = some builtinsNs ∧ ob.data = .plain
structure LamX (X : Cx) (c P : Addr) : Prop where
  code : X.env.code = .ref c
  hd : PySem.W.codeHdIn X.K c P = true
  bm : BMain X.mg X.base
  qual : X.env.qual ++ "<lambda>" = lamQ
  fn : ∀ x, X.fn x = true
section
variable {X : Cx} {pins : List (Addr × Obj)} {σ : St} {H F : Hp} {s : Shared} {P c t r : Addr} {params : Arguments} {body : Expr} {scope : Scope} {pos : Pos} {clos : List (Str × Addr)}
theorem offStack (I : Inv X pins σ H s) {f : Addr} (hf : s.heap.objs.size ≤ f) : f ∉ frs X.stack := fun z => by
  rcases List.mem_cons.mp (I.stkSub f z) with e | hb
  · rw [e] at hf
    exact absurd (Nat.lt_of_lt_of_le I.lt hf) (Nat.lt_irrefl _)
  · exact I.nofs hf hb
theorem lam_made {Q E : Value → Shared → Prop} (L : LamX X c P) (I : Inv X pins σ H s) (st : Stt (some (t, r, some P)) F H) (hcl : closureFor scope X.env = pure clos) (hdef : defaultsOf params X.env = ([], []))
    (h : ∀ (f : Addr) (F' H' : Hp) (s' : Shared) (pm cv ctv : Value), Inv X pins σ H' s' → Stp (some (t, r, some P)) F H F' H' → (∃ c, cv = .ref c ∧ F' c = some (.ext (recAt c))) →
      s'.heap.get? f = some { cls := .type "function", data := .func (PySem.W.kla_fn "<lambda>" lamQ params body scope clos pm cv ctv) } → H' f = none → f ∉ frs X.stack → Q (.ref f) s') :
    wpAny (model X.prog X.w) X.A (eval (.Lambda params body scope pos) X.env) Q E s := by
  refine PySem.W.kla_eval hdef ?_
  rw [L.qual]
  obtain ⟨ps, e1, e2, e3⟩ := st.town.tb P rfl
  have hget : s.heap.get? P = some (PySem.W.tabObj ps) := I.hok P _ e1
  have hg : s.heap.Ns mainGlobals X.mg := I.mod.glob.keeps I.bk
  have nP : ∀ b o, X.base.get? b = some o → b ≠ P := fun b o e z => by
    have := (I.bs b o e).2
    rw [z, e1] at this; cases this
  obtain ⟨bm, ob, b1, b2, b3, b4, b5, b6⟩ := L.bm
  have gP : mainGlobals ≠ P := by
    obtain ⟨o, es, ep, e, _⟩ := I.mod.glob
    exact nP _ _ e
  have hbG : bm ≠ mainGlobals := fun q => by
    obtain ⟨o, es, ep, e, hd, _⟩ := I.mod.glob
    rw [q, e] at b3; cases b3; rw [hd] at b6; cases b6
  have BA : s.heap.BuiltinsAt X.mg P := ⟨bm, ob, b1, b2, hbG, nP _ _ b3, I.bk _ _ b3, b4, b5, b6⟩
  cases q : codeAmong pos ps.toList with
  | some cv =>
    refine PySem.W.kla_makeFunctionHit (mg := X.mg) hcl I.ok.glob hg L.code (PySem.W.codeHd_of_K I.kIn L.hd) hget e2 q BA fun ctv h' tk hk hsz => ?_
    exact h _ F H _ _ cv ctv (I.kept fun b u e => Heap.get?_push_of_some _ (hk b u e)) (Stp.refl st) (e3 pos cv q) (Heap.get?_push_size _ rfl) (I.hok.fresh hsz) (offStack I hsz)
  | none =>
    refine PySem.W.kla_makeFunction (mg := X.mg) hcl I.ok.glob hg L.code (PySem.W.codeHd_of_K I.kIn L.hd) hget e2 q gP BA fun c' ctv h' tk hx hge hlt hrec htb => ?_
    have I1 := inv_tab (tk := tk) I e1 hx hge hrec htb
    have hcn := I.hok.fresh hge
    have hsz : s.heap.objs.size ≤ h'.objs.size := Nat.le_trans hge (Nat.le_of_lt hlt)
    exact h _ _ _ _ _ (.ref c') ctv (I1.kept (h' := h'.push _) (t' := tk) fun b u e => Heap.get?_push_of_some _ e) (stp_tab st e1 hcn) ⟨c', rfl, upd_same⟩ (Heap.get?_push_size _ rfl) (I1.hok.fresh (Nat.le_refl _)) (offStack I hsz)
theorem lam_caught {N : List Str} {js : List Nat} {vs : List V} (L : LamX X c P) (I : Inv X pins σ H s) (hN : js.map (fun j => X.N[j]?) = N.map some) (hk : ∀ x ∈ N, X.env.scope.names.lookup x = some .cell) (hc : clos.map (fun p => X.env.cells.lookup p.1) = clos.map (fun p => some p.2)) (hc2 : N.map (fun x => (clos.lookup x).isSome) = N.map fun _ => true)
    (hv : js.map (fun j => σ[j]?) = vs.map fun v => some (some v)) : Caught H s.heap N clos vs ∧ ∀ x c, clos.lookup x = some c → c ∉ frs X.stack := by
  have lk : ∀ x c, clos.lookup x = some c → X.env.cells.lookup x = some c := fun x c z => List.map_inj_left.mp hc (x, c) (PySem.mem_of_lookup z)
  have ln : vs.length = N.length := by
    have h1 := congrArg List.length hN
    have h2 := congrArg List.length hv
    rw [List.length_map, List.length_map] at h1 h2
    omega
  refine ⟨⟨ln, fun x y c h1 h2 => I.ok.inj x y c (lk x c h1) (lk y c h2), fun i x hi => ?_, fun x c h1 => ⟨I.cell x c (lk x c h1), I.freeC x c (lk x c h1)⟩⟩, fun x c h1 z => ?_⟩
  · have h1 := congrArg (fun l => l[i]?) hN
    have h2 := congrArg (fun l => l[i]?) hv
    simp only [List.getElem?_map, hi, Option.map_some] at h1 h2
    cases hj : js[i]? with
    | none => rw [hj] at h1; cases h1
    | some j =>
      rw [hj] at h1 h2
      simp only [Option.map_some, Option.some.injEq] at h1 h2
      cases hw : vs[i]? with
      | none => rw [hw] at h2; cases h2
      | some v =>
        rw [hw] at h2
        simp only [Option.map_some, Option.some.injEq] at h2
        have hx := hk x (List.mem_of_getElem? hi)
        obtain ⟨m, hn, hl⟩ := I.loc
        obtain ⟨u, ru, lo⟩ := hl j x v h1 h2 (.inr (.inl hx))
        rcases lo with ⟨z, _⟩ | ⟨_, c, z1, z2⟩
        · have z : X.env.scope.names.lookup x = some .local := z
          rw [hx] at z; cases z
        · have z3 : (clos.lookup x).isSome = true := List.map_inj_left.mp hc2 x (List.mem_of_getElem? hi)
          obtain ⟨c2, z4⟩ := Option.isSome_iff_exists.mp z3
          have z5 := lk x c2 z4
          rw [z1] at z5
          cases z5
          exact ⟨c, u, v, z4, z2, rfl, ru⟩
  · have h2 := lk x c h1
    rcases List.mem_cons.mp (I.stkSub c z) with e | hb
    · exact I.cne x c h2 e
    · obtain ⟨_, o, ho, _⟩ := I.ok.funs.mem hb
      exact absurd (Nat.lt_of_lt_of_le (Heap.lt_size ho) (I.ok.cab x c (L.fn x) h2)) (Nat.lt_irrefl _)
end
theorem lamScope_by {N : List Str} {scope : Scope} (h1 : scope.kind = .function) (h2 : scope.isCoroutine = false) (h3 : scope.isGenerator = false) (h4 : scope.names.all (fun p => p.2 != .cell) = true) (h5 : scope.names.all (fun p => p.2 != .free || N.contains p.1) = true) (h6 : N.map (fun x => scope.names.lookup x) = N.map fun _ => some .free) : LamScope N scope := by
  refine ⟨h1, h2, h3, fun x hx => ?_, fun x hx => ?_, fun x hx => List.map_inj_left.mp h6 x hx⟩
  · have := List.all_eq_true.mp h4 x hx
    simpa using this
  · have := List.all_eq_true.mp h5 _ (PySem.mem_of_lookup hx)
    simpa using this
end L3
set_option Elab.async false
set_option linter.all false
set_option autoImplicit false
set_option maxRecDepth 100000
namespace L3
open PySem PySem.Spec PyProof.Rows L2
def Refuses (K : Frag) (S : Addr) (cs : List Addr) (C : Addr) (nm : Str) : Prop :=
  ∃ (bs : List Bool) (j : Nat), Kind K S cs C bs ∧ bs.length = 6 ∧ bs.countP id = 1 ∧ bs[j]? = some true ∧ (∀ m : Nat, m < j → bs[m]? = some false) ∧ names6[j]? = some nm ∧ PyData.strOk nm = true ∧ (nm == ("no piece" : Str)) = false
def qHeard (K : Frag) (S : Addr) (cs : List Addr) (g : Nat) (q : Addr) (js : List Nat) (qb : QE) (xb : QX) : QE := fun ρ Q => ρ[g]? = some (some (.dat (.tab q))) ∧ ∃ ds : List D, js.map (fun j => ρ[j]?) = ds.map (fun d => some (some (.dat d))) ∧
  ((qb (rhoL ds) fun r => ∃ d, r.fz = some d ∧ Q (.dat (.tup [.str "told", d]))) ∨ ∃ C nm, Refuses K S cs C nm ∧ xb (rhoL ds) (fun C' => C' = C) ∧ Q (.dat (.tup [.str nm])))
theorem caught_vals {K : Frag} {tw : Tw} {H0 F H : Hp} {σ : St} {ρ : Ev} (rp : Rep K tw H0 F H σ ρ) : ∀ (js : List Nat) (ds : List D), js.map (fun j => ρ[j]?) = ds.map (fun d => some (some (.dat d))) → ∃ vs : List V, js.map (fun j => σ[j]?) = vs.map (fun v => some (some v)) ∧ DvAll K tw F vs ds
  | [], [], _ => ⟨[], rfl, .nil⟩
  | [], _ :: _, h => by cases h
  | _ :: _, [], h => by cases h
  | j :: js, d :: ds, h => by
    rw [List.map_cons, List.map_cons, List.cons.injEq] at h
    obtain ⟨vs, e1, e2⟩ := caught_vals rp js ds h.2
    obtain ⟨v, z1, z2⟩ := rp.get j _ h.1
    cases z2 with
    | dat z2 => exact ⟨v :: vs, by rw [List.map_cons, List.map_cons, e1, z1], .cons z2 e2⟩
end L3
set_option Elab.async false
set_option linter.all false
set_option autoImplicit false
set_option maxRecDepth 100000
namespace L3
open PySem PySem.Spec PyProof.Rows L2
theorem law_callT {P : Program} {w : World} {K : Frag} {mg mb : Str → Option Value} {k : Nat} {fa a q c : Addr} {fd : FuncData} {x : Str} {sp : Sp} {s₁ : Shared} {vs : List Value} {ns : List Int}
    (KX : K.In s₁.heap) (hns : s₁.heap.Ns mainGlobals mg) (hb : s₁.heap.Ns builtinsNs mb) (hbb : ∀ x : Str, x ≠ "__name__" → mb x = bootBuiltins x) (hlim : s₁.heap.NoLimit) (hg : s₁.gens = #[])
    (ha : s₁.heap.get? a = some { cls := .type "list", data := .seq vs.toArray }) (hi : IntsAre vs ns) (hl : ns.length ≤ sizeLine) (hr : Room k callerA)
    (hq : s₁.heap.get? q = some (PySem.W.tabObj #[])) (hqK : K.lookup q = none) (hcd : PySem.W.codeHdIn K c q = true) (hbm : BMain mg s₁.heap)
    (F : ∀ base : Heap, K.In base → base.Ns mainGlobals mg → BMain mg base → FnOk P w K mg base CX0 k fa fd [x] sp) (hbind : ∀ (s : Shared) (u : Value), BindsTo s fd ⟨[u], []⟩ [(x, u)])
    (hsp : ∀ H : Hp, SqL K H a (ns.map V.int) → q ≠ a → H q = some (.tbl #[]) → sp [.ref a] H (fun v _ => v = .bl true) fun _ _ _ => False) :
    codeAny (model P w) callerA (.call (.ref fa) ⟨[.ref a], []⟩) (fun r s' => r = .ok (.ret (.bool true)) ∧ OldK s₁.heap s'.heap ∧ s'.os = s₁.os ∧ AllBare s'.gens) s₁ := by
  have rv := vals_ints hi
  have lenV := hi.length
  have hqa : q ≠ a := fun z => by rw [z, ha] at hq; cases hq
  have core : ∀ H : Hp, SqL K H a (ns.map V.int) → HOk P w H s₁.heap → H q = some (.tbl #[]) → (∀ b, H b ≠ none → b ≠ q → b = a ∧ ∃ o xs, H b = some (.frz o (.lst xs))) → (H a ≠ none → K.lookup a = none) →
      codeAny (model P w) callerA (.call (.ref fa) ⟨[.ref a], []⟩) (fun r s' => r = .ok (.ret (.bool true)) ∧ OldK s₁.heap s'.heap ∧ s'.os = s₁.os ∧ AllBare s'.gens) s₁ := by
    intro H hS hok hHq hA hK
    have base_of : ∀ {b : Addr} {o : Obj}, s₁.heap.get? b = some o → H b = none → (hidT s₁.heap H).get? b = some o := fun e n => hidT_get e n
    have off : ∀ b : Addr, b ≠ a → b ≠ q → H b = none := fun b h1 h2 => by
      cases z : H b with
      | none => rfl
      | some u => exact absurd (hA b (by rw [z]; simp) h2).1 h1
    have noA : ∀ {b : Addr} {o : Obj} {es : Array DictEntry} {ep : Nat}, s₁.heap.get? b = some o → o.data = .dict es ep → H b = none := fun {b o es ep} e d => by
      refine off b (fun z => ?_) fun z => ?_
      · rw [z, ha] at e; cases e; cases d
      · rw [z, hq] at e; cases e; cases d
    have nsK : ∀ {b : Addr} {m : Str → Option Value}, s₁.heap.Ns b m → (hidT s₁.heap H).Ns b m := fun {b m} ⟨o, es, ep, e, d, r⟩ => ⟨o, es, ep, base_of e (noA e d), d, r⟩
    have hKb : K.In (hidT s₁.heap H) := fun b o e => base_of (KX b o e) (by
      have h2 : b ≠ q := fun z => by rw [z] at e; rw [show K.lookup q = none from hqK] at e; cases e
      by_cases h1 : b = a
      · cases z : H b with
        | none => rfl
        | some u =>
          rw [h1] at e z
          rw [hK (by rw [z]; simp)] at e; cases e
      · exact off b h1 h2)
    have hM : Mod K mg (hidT s₁.heap H) := ⟨hKb, nsK hns, ⟨mb, nsK hb, hbb⟩, let ⟨mc, h1, h2⟩ := hlim; ⟨mc, nsK h1, h2⟩⟩
    have hBM : BMain mg (hidT s₁.heap H) := by
      obtain ⟨bm, ob, b1, b2, b3, b4, b5, b6⟩ := hbm
      refine ⟨bm, ob, b1, b2, base_of b3 (off bm (fun z => ?_) fun z => ?_), b4, b5, b6⟩
      · rw [z, ha] at b3; cases b3; cases b6
      · rw [z, hq] at b3; cases b3; cases b6
    have e0 : Env0 P w K mg (hidT s₁.heap H) callerA [] s₁ H := ⟨rfl, hM, fun b o e => of_hidT e, Nat.le_of_eq (hidT_size _ _), trivial, fun b hb => absurd (show b ∈ ([] : List Addr) from hb) (by simp), hok, .of_eq hg⟩
    refine codeAny_mono ((F _ hKb (nsK hns) hBM).run callerA [] s₁ H ⟨[.ref a], []⟩ [.ref a] [.ref a] _ _ hr e0 (hbind s₁ (.ref a)) (.cons rfl .nil) (hsp H hS hqa hHq)) fun r s' h => ?_
    cases r with
    | error e => exact False.elim h
    | ok fl =>
      cases fl with
      | next => exact False.elim h
      | brk => exact False.elim h
      | cont => exact False.elim h
      | ret u =>
        obtain ⟨v, H', os, bare, un, hok', r', hv⟩ := h
        have hv' : v = .bl true := hv
        subst hv'
        obtain rfl : u = Value.bool true := r'
        have ext : Heap.ExtBut q s₁.heap s'.heap := fun b o hbq e => by
          cases z : H b with
          | none => exact un.keep b o e z (by intro y; exact absurd (show b ∈ ([] : List Addr) from y) (by simp)) (by simp)
          | some u =>
            obtain ⟨_, ob, xs, z1⟩ := hA b (by rw [z]; simp) hbq
            have z2 := un.frzs b ob _ z1
            obtain ⟨e1, _⟩ := hok b _ z1
            obtain ⟨e2, _⟩ := hok' b _ z2
            rw [e] at e1; cases e1
            exact e2
        obtain ⟨more, z3⟩ := un.tbls q _ hHq
        have z4 : s'.heap.get? q = some (PySem.W.tabObj (#[] ++ more)) := hok' q _ z3
        have C1 := PySem.W.codeHd_of_K KX hcd
        have C2 : PySem.W.CodeHd s'.heap c q := by
          obtain ⟨o, vs, file, tf, flags, tg, inF, text, tt, e, r1, r2, r3, r4, r5, r6, r7, r8, ne⟩ := C1
          exact ⟨o, vs, file, tf, flags, tg, inF, text, tt, ext _ _ ne e, r1, r2, r3, r4, r5, r6, r7, r8, ne⟩
        have nst : q ≠ cStatics := fun z => by
          obtain ⟨mc, ⟨o, es, ep, e, d, _⟩, _⟩ := hlim
          rw [← z, hq] at e
          cases e
          cases d
        exact ⟨rfl, (OldK.refl s₁.heap).step_table (C1.tab hq) (C1.tab hq) (C2.tab z4) ext nst, os, bare⟩
  have tOk : ∀ H : Hp, ObjOk P w H s₁.heap q (.tbl #[]) := fun H => hq
  cases hk : K.lookup a with
  | some o =>
    have e := KX a o hk
    rw [ha] at e
    cases e
    refine core (fun b => if b = q then some (.tbl #[]) else none) (.inr ⟨_, vs.toArray, _, hk, rfl, rfl, rfl, by rw [List.size_toArray, lenV]; exact hl, by simpa using rv⟩) (fun b u z => ?_) (if_pos rfl) (fun b z n => absurd (if_neg n) z) fun z => absurd (if_neg (Ne.symm hqa)) z
    by_cases hbq : b = q
    · have z' := (if_pos hbq).symm.trans z
      cases z'
      subst hbq
      exact tOk _
    · have z' := (if_neg hbq).symm.trans z
      cases z'
  | none =>
    refine core (fun b => if b = q then some (.tbl #[]) else if b = a then some (.frz { cls := .type "list", data := .seq vs.toArray } (.lst (ns.map V.int))) else none) (.inl (.inr ⟨{ cls := .type "list", data := .seq vs.toArray }, ?_⟩)) (fun b u z => ?_) (if_pos rfl) (fun b z n => ?_) fun _ => hk
    · show (if a = q then _ else if a = a then _ else _) = _
      rw [if_neg (Ne.symm hqa), if_pos rfl]
    · by_cases hbq : b = q
      · have z' := (if_pos hbq).symm.trans z
        cases z'
        subst hbq
        exact tOk _
      · by_cases hba : b = a
        · have z' := ((if_neg hbq).trans (if_pos hba)).symm.trans z
          cases z'
          subst hba
          exact ⟨ha, by rw [List.length_map]; exact hl, vs, _, rv, ha⟩
        · have z' := ((if_neg hbq).trans (if_neg hba)).symm.trans z
          cases z'
    · by_cases hba : b = a
      · exact ⟨hba, _, _, (if_neg n).trans (if_pos hba)⟩
      · exact absurd ((if_neg n).trans (if_neg hba)) z
theorem walk_T {l : PySem.W.OpenLaw} {n k : Nat} {pr : Program} {loose : List Str} {XP : (Str → Option Value) → Heap → Prop} {YP : World → Heap → Prop} {d : DefRec} {K : Params → Frag} {x : Str} {q : Addr}
    (hn : l.most = some n) (hn2 : n ≤ 63) (hdf : d.params.defaults = []) (hr : Room k callerA)
    (hY : ∀ (w : World) (h : Heap), YP w h → (K w.params).In h ∧ h.get? q = some (PySem.W.tabObj #[]))
    (F : ∀ (w : World) (mg : Str → Option Value) (fa : Addr) (h : Heap), (K w.params).In h → h.Ns mainGlobals mg → mg d.name = some (.ref fa) →
      ∃ (fd : FuncData) (c : Addr), (K w.params).lookup q = none ∧ PySem.W.codeHdIn (K w.params) c q = true ∧ (∀ (s : Shared) (u : Value), BindsTo s fd ⟨[u], []⟩ [(x, u)]) ∧
        ∀ base : Heap, (K w.params).In base → base.Ns mainGlobals mg → BMain mg base → FnOk l.prog w (K w.params) mg base CX0 k fa fd [x] (spLawT (K w.params) q)) :
    PySem.W.WalkO pr loose XP YP l.row.toRowW d [] (fun f vs => PySem.call f vs) := by
  refine Att.attach_call hn hdf fun w s₀ s₁ mg mb fa o pm cd doc a vs ns G Y ho hd hcd hmg hobj hints hlen hg => ?_
  obtain ⟨KX, hT⟩ := hY w _ Y
  obtain ⟨fd, c, h1, h2, hb, hF⟩ := F w mg fa _ KX G.T.g hmg
  have hl63 : ns.length ≤ 63 := Nat.le_trans hlen hn2
  exact law_callT KX G.T.g G.T.b G.T.builtins G.T.nolimit hg hobj hints (Nat.le_trans hl63 (by decide)) hr hT h1 h2 G.T.bmain hF hb fun H hS hqa hq => ⟨a, ns, rfl, hS, hqa, hq, hl63, fun _ => rfl⟩
theorem PSs.ghost {X : Cx} {st : List Stmt} {t : TS} {gn : Str} (g : Nat) (hg : X.N[g]? = some gn) (hv : X.env.scope.names.lookup gn = none) (h : PSs X st t) : PSs X st (fun D σ H => t D (σ.set g (some .non)) H) := fun pins s σ H D I hw => by
  refine h pins s (σ.set g (some .non)) H D ⟨I.ok, I.os, I.bare, I.base, ?_, I.cell, I.free, I.freeC, I.pin, I.hok, by rw [List.length_set]; exact I.len⟩ hw
  obtain ⟨m, hn, hl⟩ := I.loc
  refine ⟨m, hn, fun i x v e1 e2 e3 => ?_⟩
  by_cases hi : g = i
  · subst hi
    rw [hg] at e1
    cases e1
    rcases e3 with z | z | z <;> (rw [hv] at z; cases z)
  · rw [List.getElem?_set_ne hi] at e2
    exact hl i x v e1 e2 e3
end L3
set_option Elab.async false
set_option linter.all false
set_option autoImplicit false
set_option maxRecDepth 100000
namespace L3
open PySem PySem.Spec PyProof.Rows L2
def noneD : D → Option Bool
  | .non => some true
  | .tab _ => none
  | _ => some false
theorem Rv.none_iff {K : Frag} {tw : Tw} {Hs F H : Hp} {v : V} {r : R} {b : Bool} (h : Rv K tw Hs F H v r) (e : noneD r.d = some b) : decide (v = V.non) = b := by
  cases h with
  | dat h => cases h <;> first | (simp only [R.d, noneD] at e; cases e; rfl) | (simp [R.d, noneD] at e; subst e; simp) | (simp [R.d, noneD] at e)
  | shal _ _ h3 => cases h3 <;> first | (simp only [R.d, noneD] at e; cases e; rfl) | (simp [R.d, noneD] at e; subst e; simp) | (simp [R.d, noneD] at e)
  | fresh _ _ _ _ h3 => cases h3 <;> first | (simp only [R.d, noneD] at e; cases e; rfl) | (simp [R.d, noneD] at e; subst e; simp) | (simp [R.d, noneD] at e)
end L3
set_option Elab.async false
set_option linter.all false
set_option autoImplicit false
set_option maxRecDepth 100000
namespace L3
open PySem PySem.Spec PyProof.Rows L2
structure Grid (K : Frag) (tw : Tw) (H1 F H : Hp) (Dd : Addr) (ps : List Addr) (G : List (List D)) : Prop where
  out : H Dd = some (.lst (ps.map V.ref))
  len : ps.length = G.length
  inn : ∀ (k : Nat) (p : Addr) (ds : List D), ps[k]? = some p → G[k]? = some ds → ∃ us, H p = some (.lst us) ∧ DvAll K tw F us ds
  nd : (Dd :: ps).Nodup
  new : ∀ p ∈ Dd :: ps, H1 p = none ∧ F p = none ∧ ¬ inTw tw p
section
variable {K : Frag} {tw : Tw} {H1 F H F' H' : Hp} {Dd : Addr} {ps : List Addr} {G : List (List D)}
theorem Grid.there (g : Grid K tw H1 F H Dd ps G) {p : Addr} (hp : p ∈ Dd :: ps) : ∃ us, H p = some (.lst us) := by
  rcases List.mem_cons.mp hp with rfl | hp
  · exact ⟨_, g.out⟩
  · obtain ⟨k, hk, e⟩ := List.getElem_of_mem hp
    have h2 : k < G.length := by rw [← g.len]; exact hk
    obtain ⟨us, e1, _⟩ := g.inn k p G[k] (by rw [List.getElem?_eq_getElem hk, e]) (List.getElem?_eq_getElem h2)
    exact ⟨us, e1⟩
theorem Grid.step (g : Grid K tw H1 F H Dd ps G) (s : Stp tw F H F' H') : Grid K tw H1 F' H' Dd ps G where
  out := s.kp _ _ g.out (g.new Dd List.mem_cons_self).2.2
  len := g.len
  inn := fun k p ds h1 h2 => by
    obtain ⟨us, e1, e2⟩ := g.inn k p ds h1 h2
    exact ⟨us, s.kp _ _ e1 (g.new p (List.mem_cons_of_mem _ (List.mem_of_getElem? h1))).2.2, e2.up s.fz⟩
  nd := g.nd
  new := fun p hp => by
    obtain ⟨h1, h2, h3⟩ := g.new p hp
    obtain ⟨us, e⟩ := g.there hp
    exact ⟨h1, s.nw p _ h2 e (fun xs z => by cases z), h3⟩
theorem Grid.push (g : Grid K tw H1 F H Dd ps G) {a : Addr} {us : List V} {ds : List D} (ha : H a = some (.lst us)) (hn : a ∉ Dd :: ps) (h1 : H1 a = none) (hf : F a = none) (ht : ¬ inTw tw a) (hd : DvAll K tw F us ds) :
    Grid K tw H1 F (upd H Dd (.lst (ps.map V.ref ++ [.ref a]))) Dd (ps ++ [a]) (G ++ [ds]) where
  out := by rw [upd_same, List.map_append]; rfl
  len := by rw [List.length_append, List.length_append, g.len]; rfl
  inn := fun k p es h2 h3 => by
    have hne : p ≠ Dd := fun z => by
      have hp := List.mem_of_getElem? h2
      rw [z] at hp
      rcases List.mem_append.mp hp with hp | hp
      · exact (List.nodup_cons.mp g.nd).1 hp
      · exact hn (by rw [← List.mem_singleton.mp hp]; exact List.mem_cons_self)
    rw [upd_ne hne]
    by_cases hk : k < ps.length
    · rw [List.getElem?_append_left hk] at h2
      rw [List.getElem?_append_left (by rw [← g.len]; exact hk)] at h3
      exact g.inn k p es h2 h3
    · have hk2 : k = ps.length := by
        have := (List.getElem?_eq_some_iff.mp h2).1
        rw [List.length_append] at this
        simp at this
        omega
      subst hk2
      rw [List.getElem?_append_right (Nat.le_refl _), Nat.sub_self] at h2
      rw [g.len, List.getElem?_append_right (Nat.le_refl _), Nat.sub_self] at h3
      cases h2
      cases h3
      exact ⟨us, ha, hd⟩
  nd := by
    rw [← List.cons_append]
    exact List.nodup_append.mpr ⟨g.nd, by simp, fun x hx y hy => fun z => hn (by rw [← List.mem_singleton.mp hy, ← z]; exact hx)⟩
  new := fun p hp => by
    rw [← List.cons_append] at hp
    rcases List.mem_append.mp hp with hp | hp
    · exact g.new p hp
    · rw [List.mem_singleton.mp hp]; exact ⟨h1, hf, ht⟩
theorem Grid.put (g : Grid K tw H1 F H Dd ps G) {n m : Nat} {p : Addr} {row : List D} {us : List V} {v : V} {d : D} (hp : ps[n]? = some p) (hr : G[n]? = some row) (hu : H p = some (.lst us)) (dv : Dv K tw F v d) :
    Grid K tw H1 F (upd H p (.lst (us.set m v))) Dd ps (G.set n (row.set m d)) where
  out := by
    have hne : Dd ≠ p := fun z => (List.nodup_cons.mp g.nd).1 (by rw [z]; exact List.mem_of_getElem? hp)
    rw [upd_ne hne]; exact g.out
  len := by rw [List.length_set]; exact g.len
  inn := fun k q es h2 h3 => by
    by_cases hk : n = k
    · subst hk
      rw [hp] at h2
      cases h2
      obtain ⟨us', e1, e2⟩ := g.inn n p row hp hr
      rw [hu] at e1
      cases e1
      rw [List.getElem?_set_self (List.getElem?_eq_some_iff.mp hr).1] at h3
      cases h3
      exact ⟨_, upd_same, e2.set dv⟩
    · rw [List.getElem?_set_ne hk] at h3
      have hne : q ≠ p := fun z => hk (by
        have nd := (List.nodup_cons.mp g.nd).2
        have h4 := (List.getElem?_eq_some_iff.mp hp)
        have h5 := (List.getElem?_eq_some_iff.mp h2)
        obtain ⟨i1, j1⟩ := h4
        obtain ⟨i2, j2⟩ := h5
        exact (List.getElem_inj (h₀ := i1) (h₁ := i2) nd).mp (by rw [j1, j2, z]))
      rw [upd_ne hne]
      exact g.inn k q es h2 h3
  nd := g.nd
  new := g.new
theorem Grid.freeze (g : Grid K tw H1 F H Dd ps G) (st : Stt tw F H) : ∃ F', Same F F' ∧ (∀ b, b ∉ ps → F' b = F b) ∧ Stt tw F' H ∧ DvAll K tw F' (ps.map V.ref) (G.map D.lst) := by
  classical
  have fresh : ∀ b, b ∈ ps → F b = none := fun b hb => (g.new b (List.mem_cons_of_mem _ hb)).2.1
  let F' : Hp := fun b => if b ∈ ps then H b else F b
  have on : ∀ b, b ∈ ps → F' b = H b := fun b hb => if_pos hb
  have off : ∀ b, b ∉ ps → F' b = F b := fun b hb => if_neg hb
  have sm : Same F F' := fun b o e => by
    rw [off b fun z => by rw [fresh b z] at e; cases e]; exact e
  refine ⟨F', sm, off, ⟨fun b o e => ?_, fun b hb => ?_, st.town.keep (fun _ _ => rfl) fun b φ e => sm b _ e⟩, ?_⟩
  · by_cases hb : b ∈ ps
    · rw [on b hb] at e; exact e
    · rw [off b hb] at e; exact st.sub b o e
  · rw [off b fun z => (g.new b (List.mem_cons_of_mem _ z)).2.2 hb]; exact st.off b hb
  · have all : ∀ (qs : List Addr) (Gs : List (List D)), qs.length = Gs.length → (∀ q ∈ qs, q ∈ ps) → (∀ (k : Nat) (p : Addr) (ds : List D), qs[k]? = some p → Gs[k]? = some ds → ∃ us, H p = some (.lst us) ∧ DvAll K tw F us ds) → DvAll K tw F' (qs.map V.ref) (Gs.map D.lst) := by
      intro qs
      induction qs with
      | nil =>
        intro Gs hl _ _
        cases Gs with
        | nil => exact .nil
        | cons _ _ => cases hl
      | cons q qs ih =>
        intro Gs hl hm hi
        cases Gs with
        | nil => cases hl
        | cons ds Gs =>
          obtain ⟨us, e1, e2⟩ := hi 0 q ds rfl rfl
          refine .cons (.lst (SqL.of (by rw [on q (hm q List.mem_cons_self)]; exact e1)) (e2.up sm)) (ih Gs (by simpa using hl) (fun x hx => hm x (List.mem_cons_of_mem _ hx)) fun k p es h2 h3 => hi (k + 1) p es (by simpa using h2) (by simpa using h3))
    exact all ps G g.len (fun _ h => h) g.inn
end
theorem Rep.off {K : Frag} {tw : Tw} {H0 F H : Hp} {σ : St} {ρ : Ev} (h : Rep K tw H0 F H σ ρ) {a : Addr} {o : HO} (n : ∀ (j : Nat) (r : R) (p : Addr), ρ[j]? = some (some r) → (∀ d, r ≠ .dat d) → σ[j]? = some (some (.ref p)) → p ≠ a) : Rep K tw H0 F (upd H a o) σ ρ where
  len := h.len
  dom := fun b u e => by
    obtain ⟨o', e'⟩ := h.dom b u e
    by_cases hb : b = a
    · exact ⟨o, by rw [hb]; exact upd_same⟩
    · exact ⟨o', by rw [upd_ne hb]; exact e'⟩
  get := fun i r e => by
    obtain ⟨v, e1, e2⟩ := h.get i r e
    refine ⟨v, e1, ?_⟩
    cases e2 with
    | dat q => exact .dat q
    | shal h1 h2 h3 =>
      have hn := n i _ _ e (fun _ z => by cases z) e1
      refine .shal ?_ h2 h3
      rcases h1 with h1 | ⟨ob, h1⟩
      · exact .inl (by rw [upd_ne hn]; exact h1)
      · exact .inr ⟨ob, by rw [upd_ne hn]; exact h1⟩
    | fresh h0 hf h1 h2 h3 =>
      have hn := n i _ _ e (fun _ z => by cases z) e1
      exact .fresh h0 hf (by rw [upd_ne hn]; exact h1) h2 h3
  sep := h.sep
def KeepO (σ σi : St) (ρ ρi : Ev) : Prop := ∀ (j : Nat) (r : R), ρi[j]? = some (some r) → (∀ d, r ≠ .dat d) → ρ[j]? = some (some r) ∧ σi[j]? = σ[j]?
theorem KeepO.setD {σ σi : St} {ρ ρi : Ev} (h : KeepO σ σi ρ ρi) (i : Nat) (v : V) (d : D) : KeepO σ (σi.set i (some v)) ρ (ρi.set i (some (.dat d))) := fun j r e n => by
  have hij : i ≠ j := fun q => by
    subst q
    by_cases hl : i < ρi.length
    · rw [List.getElem?_set_self hl] at e; cases e; exact n _ rfl
    · rw [List.getElem?_eq_none (by rw [List.length_set]; omega)] at e; cases e
  rw [List.getElem?_set_ne hij] at e ⊢
  exact h j r e n
section
variable {X : Cx} {rest : List Stmt} {u : QS}
end
end L3
set_option Elab.async false
set_option linter.all false
set_option autoImplicit false
set_option maxRecDepth 100000
namespace L3
open PySem PySem.Spec PyProof.Rows L2
section
variable {X : Cx} {W : Addr → Hp → Prop} {k : Nat} {f : Addr} {fd : FuncData} {ps ks : List Str} {c : CDX} {x : Str} {p pos kpos : Pos} {e e2 : Expr} {es : List Expr} {qs : QA} {q2 : QE} {nm : Option Str} {g : List Value → List Value → List Value} {gV : List V → List V → List V} {gD : List D → List D → List D}
end
def kwG {α : Type} (n : Nat) (us ws : List α) : List α := if us.length = n ∧ ws.length = 1 then us ++ ws else []
theorem kwG_rel (n : Nat) {vs : List V} {us : List Value} {zs : List V} {ws : List Value} (h1 : Vals vs us) (h2 : Vals zs ws) : Vals (kwG n vs zs) (kwG n us ws) := by
  unfold kwG
  rw [h1.length, h2.length]
  by_cases h : us.length = n ∧ ws.length = 1
  · rw [if_pos h, if_pos h]; exact h1.append h2
  · rw [if_neg h, if_neg h]; exact .nil
theorem kwG_dv (n : Nat) {K : Frag} : ∀ (tw : Tw) (F : Hp) (vs : List V) (ds : List D) (zs : List V) (es : List D), DvAll K tw F vs ds → DvAll K tw F zs es → DvAll K tw F (kwG n vs zs) (kwG n ds es) := fun tw F vs ds zs es h1 h2 => by
  unfold kwG
  rw [h1.length, h2.length]
  by_cases h : ds.length = n ∧ es.length = 1
  · rw [if_pos h, if_pos h]; exact h1.append h2
  · rw [if_neg h, if_neg h]; exact .nil
theorem kwG_len {n m : Nat} {us ws : List Value} (h : (kwG n us ws).length = m) (hm : 0 < m) : us.length = n ∧ ws.length = 1 := by
  unfold kwG at h
  by_cases z : us.length = n ∧ ws.length = 1
  · exact z
  · rw [if_neg z] at h; simp at h; omega
end L3
set_option Elab.async false
set_option linter.all false
set_option autoImplicit false
set_option maxRecDepth 100000
namespace L3
open PySem PySem.Spec PyProof.Rows L2
section
variable {X : Cx} {W : Addr → Hp → Prop} {rest body : List Stmt} {tb : QS} {xb : QX} {pos : Pos}
end
end L3
set_option Elab.async false
set_option linter.all false
set_option autoImplicit false
set_option maxRecDepth 100000
namespace L3
open PySem PySem.Spec PyProof.Rows L2
section
variable {X : Cx} {pos : Pos}
theorem DvAll.snoc {K : Frag} {tw : Tw} {F : Hp} {d : D} : ∀ {us : List V} {ds : List D}, DvAll K tw F us (ds ++ [d]) → ∃ vs v, us = vs ++ [v] ∧ DvAll K tw F vs ds ∧ Dv K tw F v d
  | _, [], .cons h .nil => ⟨[], _, rfl, .nil, h⟩
  | _, _ :: _, .cons h t => by
    obtain ⟨vs, v, e, h1, h2⟩ := DvAll.snoc t
    exact ⟨_ :: vs, v, by rw [e]; rfl, .cons h h1, h2⟩
end
end L3
set_option Elab.async false
set_option linter.all false
set_option autoImplicit false
set_option maxRecDepth 100000
namespace L3
open PySem PySem.Spec PyProof.Rows L2
section
variable {X : Cx} {pos : Pos}
def g4 (a b c d : Nat) : QG := gT 4 (gsCons (gN a) (gsCons (gN b) (gsCons (gN c) (gsCons (gN d) gsNil))))
end
section
variable {X : Cx} {W : Addr → Hp → Prop} {e : Expr} {x : QX} {p pos : Pos} {nm : Str}
theorem dx_ty1 {T : String} (hg : Gl X nm) (hm : X.mg nm = none) (hv : bootBuiltins nm = some (.type T)) (h : DX X W e x) (hn : nm ≠ "__name__" := by decide) (hdb : (nm == ("__debug__" : Str)) = false := by decide)
    (he : starEach [e] X.env = (false, eval e X.env) :: starEach [] X.env := by rfl) (hpl : (backTo pos (starEach [] X.env)).any (·.1) = false := by rfl) : DX X W (.Call (.Name nm p) [e] [] pos) x := by
  refine ⟨fun pins s σ H I z => ?_⟩
  refine wpAny_Call_Name_kw (ld_blt I hg hm hv ?_ hn hdb)
  exact PyProof.Rows.callWith_type1 (thn ((dxa_here h he).ra pos pins s σ H I z) fun _ _ z => z.elim) he hpl
end
section
variable {X : Cx}
end
end L3
set_option Elab.async false
set_option linter.all false
set_option autoImplicit false
set_option maxRecDepth 100000
namespace L3
open PySem PySem.Spec PyProof.Rows L2
section
variable {X : Cx} {pos p : Pos} {e : Expr}
end
end L3
set_option Elab.async false
set_option linter.all false
set_option autoImplicit false
set_option maxRecDepth 100000
namespace L3
open PySem PySem.Spec PyProof.Rows L2
section
variable {X : Cx} {apos pos : Pos}
end
end L3
set_option Elab.async false
set_option linter.all false
set_option autoImplicit false
set_option maxRecDepth 100000
namespace L3
open PySem PySem.Spec PyProof.Rows L2
section
variable {X : Cx} {pos : Pos}
end
end L3
set_option Elab.async false
set_option linter.all false
set_option autoImplicit false
set_option maxRecDepth 100000
namespace L3
open PySem PySem.Spec PyProof.Rows L2
section
variable {X : Cx} {pos : Pos}
end
end L3
set_option Elab.async false
set_option linter.all false
set_option autoImplicit false
set_option maxRecDepth 100000
namespace L3
open PySem PySem.Spec PyProof.Rows L2
end L3
set_option Elab.async false
set_option linter.all false
set_option autoImplicit false
set_option maxRecDepth 100000
namespace L3
open PySem PySem.Spec PyProof.Rows L2
structure LamB (X : Cx) (c P : Addr) : Prop where
  code : X.env.code = .ref c
  hd : PySem.W.codeHdIn X.K c P = true
  bm : BMain X.mg X.base
  qual : X.env.qual ++ "<lambda>" = lamQ
section
variable {X : Cx} {pins : List (Addr × Obj)} {σ : St} {H F : Hp} {s : Shared} {P c t r : Addr} {params : Arguments} {body : Expr} {scope : Scope} {pos : Pos} {clos : List (Str × Addr)}
theorem lam_madeB {Q E : Value → Shared → Prop} (L : LamB X c P) (I : Inv X pins σ H s) (st : Stt (some (t, r, some P)) F H) (hcl : closureFor scope X.env = pure clos) (hdef : defaultsOf params X.env = ([], []))
    (h : ∀ (f : Addr) (F' H' : Hp) (s' : Shared) (pm cv ctv : Value), Inv X pins σ H' s' → Stp (some (t, r, some P)) F H F' H' → (∃ c, cv = .ref c ∧ F' c = some (.ext (recAt c))) →
      s'.heap.get? f = some { cls := .type "function", data := .func (PySem.W.kla_fn "<lambda>" lamQ params body scope clos pm cv ctv) } → H' f = none → f ∉ frs X.stack → Q (.ref f) s') :
    wpAny (model X.prog X.w) X.A (eval (.Lambda params body scope pos) X.env) Q E s := by
  refine PySem.W.kla_eval hdef ?_
  rw [L.qual]
  obtain ⟨ps, e1, e2, e3⟩ := st.town.tb P rfl
  have hget : s.heap.get? P = some (PySem.W.tabObj ps) := I.hok P _ e1
  have hg : s.heap.Ns mainGlobals X.mg := I.mod.glob.keeps I.bk
  have nP : ∀ b o, X.base.get? b = some o → b ≠ P := fun b o e z => by
    have := (I.bs b o e).2
    rw [z, e1] at this; cases this
  obtain ⟨bm, ob, b1, b2, b3, b4, b5, b6⟩ := L.bm
  have gP : mainGlobals ≠ P := by
    obtain ⟨o, es, ep, e, _⟩ := I.mod.glob
    exact nP _ _ e
  have hbG : bm ≠ mainGlobals := fun q => by
    obtain ⟨o, es, ep, e, hd, _⟩ := I.mod.glob
    rw [q, e] at b3; cases b3; rw [hd] at b6; cases b6
  have BA : s.heap.BuiltinsAt X.mg P := ⟨bm, ob, b1, b2, hbG, nP _ _ b3, I.bk _ _ b3, b4, b5, b6⟩
  cases q : codeAmong pos ps.toList with
  | some cv =>
    refine PySem.W.kla_makeFunctionHit (mg := X.mg) hcl I.ok.glob hg L.code (PySem.W.codeHd_of_K I.kIn L.hd) hget e2 q BA fun ctv h' tk hk hsz => ?_
    exact h _ F H _ _ cv ctv (I.kept fun b u e => Heap.get?_push_of_some _ (hk b u e)) (Stp.refl st) (e3 pos cv q) (Heap.get?_push_size _ rfl) (I.hok.fresh hsz) (offStack I hsz)
  | none =>
    refine PySem.W.kla_makeFunction (mg := X.mg) hcl I.ok.glob hg L.code (PySem.W.codeHd_of_K I.kIn L.hd) hget e2 q gP BA fun c' ctv h' tk hx hge hlt hrec htb => ?_
    have I1 := inv_tab (tk := tk) I e1 hx hge hrec htb
    have hcn := I.hok.fresh hge
    have hsz : s.heap.objs.size ≤ h'.objs.size := Nat.le_trans hge (Nat.le_of_lt hlt)
    exact h _ _ _ _ _ (.ref c') ctv (I1.kept (h' := h'.push _) (t' := tk) fun b u e => Heap.get?_push_of_some _ e) (stp_tab st e1 hcn) ⟨c', rfl, upd_same⟩ (Heap.get?_push_size _ rfl) (I1.hok.fresh (Nat.le_refl _)) (offStack I hsz)
theorem cell_of {j : Nat} {x : Str} {v : V} (I : Inv X pins σ H s) (hN : X.N[j]? = some x) (hk : X.env.scope.names.lookup x = some .cell) (hv : σ[j]? = some (some v)) : ∃ c u, X.env.cells.lookup x = some c ∧ s.heap.IsCell c (some u) ∧ RelV v u := by
  obtain ⟨m, hn, hl⟩ := I.loc
  obtain ⟨u, ru, lo⟩ := hl j x v hN hv (.inr (.inl hk))
  rcases lo with ⟨z, _⟩ | ⟨_, c, z1, z2⟩
  · have z : X.env.scope.names.lookup x = some .local := z
    rw [hk] at z; cases z
  · exact ⟨c, u, z1, z2, ru⟩
theorem lam_caughtB {x : Str} {j : Nat} {v : V} {cl : Addr} (I : Inv X pins σ H s) (hN : X.N[j]? = some x) (hk : X.env.scope.names.lookup x = some .cell) (hfn : X.fn x = true) (hc : X.env.cells.lookup x = some cl)
    (hv : σ[j]? = some (some v)) : Caught H s.heap [x] [(x, cl)] [v] ∧ ∀ y c, List.lookup y [(x, cl)] = some c → c ∉ frs X.stack := by
  have only : ∀ y c, List.lookup y [(x, cl)] = some c → y = x ∧ c = cl := fun y c h => by
    rw [List.lookup_cons] at h
    cases hy : y == x with
    | true => rw [hy] at h; cases h; exact ⟨by simpa using hy, rfl⟩
    | false => rw [hy] at h; cases h
  refine ⟨⟨rfl, fun y z c h1 h2 => (only y c h1).1.trans (only z c h2).1.symm, fun i y hi => ?_, fun y c h1 => ?_⟩, fun y c h1 z => ?_⟩
  · cases i with
    | zero =>
      cases hi
      obtain ⟨c, u, z1, z2, z3⟩ := cell_of I hN hk hv
      rw [hc] at z1
      cases z1
      exact ⟨cl, u, v, by simp [List.lookup_cons], z2, rfl, z3⟩
    | succ i => simp at hi
  · obtain ⟨rfl, rfl⟩ := only y c h1
    exact ⟨I.cell y c hc, I.freeC y c hc⟩
  · obtain ⟨rfl, rfl⟩ := only y c h1
    rcases List.mem_cons.mp (I.stkSub c z) with e | hb
    · exact I.cne y c hc e
    · obtain ⟨_, o, ho, _⟩ := I.ok.funs.mem hb
      exact absurd (Nat.lt_of_lt_of_le (Heap.lt_size ho) (I.ok.cab y c hfn hc)) (Nat.lt_irrefl _)
end
end L3
set_option Elab.async false
set_option linter.all false
set_option autoImplicit false
set_option maxRecDepth 100000
namespace L3
open PySem PySem.Spec PyProof.Rows L2
theorem clo_one {env : Env} {x : Str} {cl : Addr} {scope : Scope} (h : env.cells.lookup x = some cl) (hf : scope.names.filter (fun p => p.2 == .free) = [(x, .free)]) : closureFor scope env = pure [(x, cl)] := by
  have hc : cellOf env x = pure cl := by unfold cellOf; rw [h]
  have go : ∀ (names : List (Str × NameKind)) (cs : List (Str × Addr)), (names.filter fun p => p.2 == .free) = [] → (forIn (m := Sem) names cs fun p cs => if p.2 == .free then (do let c ← cellOf env p.1; pure (ForInStep.yield ((p.1, c) :: cs))) else pure (ForInStep.yield cs)) = pure cs := fun names => by
    induction names with
    | nil => intro cs _; rfl
    | cons p names ih =>
      intro cs hn
      cases hp : p.2 == NameKind.free with
      | true => rw [List.filter_cons, if_pos hp] at hn; cases hn
      | false =>
        rw [List.filter_cons, if_neg (by rw [hp]; exact Bool.false_ne_true)] at hn
        rw [List.forIn_cons, hp, if_neg Bool.false_ne_true, pure_bind]
        exact ih cs hn
  have go2 : ∀ (names : List (Str × NameKind)), (names.filter fun p => p.2 == .free) = [(x, .free)] → (forIn (m := Sem) names ([] : List (Str × Addr)) fun p cs => if p.2 == .free then (do let c ← cellOf env p.1; pure (ForInStep.yield ((p.1, c) :: cs))) else pure (ForInStep.yield cs)) = pure [(x, cl)] := fun names => by
    induction names with
    | nil => intro hn; cases hn
    | cons p names ih =>
      intro hn
      cases hp : p.2 == NameKind.free with
      | true =>
        rw [List.filter_cons, if_pos hp, List.cons.injEq] at hn
        obtain ⟨rfl, hn⟩ := hn
        rw [List.forIn_cons, if_pos hp]
        show ((cellOf env x >>= fun c => pure (ForInStep.yield [(x, c)])) >>= _) = _
        rw [hc, pure_bind, pure_bind]
        exact go names _ hn
      | false =>
        rw [List.filter_cons, if_neg (by rw [hp]; exact Bool.false_ne_true)] at hn
        rw [List.forIn_cons, hp, if_neg Bool.false_ne_true, pure_bind]
        exact ih hn
  unfold closureFor
  have := go2 scope.names hf
  first
    | (rw [this]; rfl)
    | (simp only [bind_pure]; exact this)
    | (refine Eq.trans (congrArg (· >>= _) ?_) ?_ <;> skip)
section
variable {X : Cx} {e k : Expr} {te tk : TE} {pos p2 : Pos}
theorem dv_strsL {K : Frag} {tw : Tw} {F : Hp} : ∀ ys : List Str, DvAll K tw F (ys.map V.str) (ys.map D.str)
  | [] => .nil
  | y :: ys => .cons (.str y) (dv_strsL ys)
def dSplit : RD2 := fun x y Q => ∃ a b : Str, x.d = .str a ∧ y.d = .str b ∧ (b.length == 0) = false ∧ a.length + 2 ≤ sizeLine ∧ Q (.fresh (.lst ((Txt.split a b).map D.str)))
theorem de_split {o : Expr} {qa qb : QE} {apos : Pos} (ho : DE X o qa) (he : DE X e qb) (hs : starEach [e] X.env = [(false, eval e X.env)] := by rfl) (hbase : attributeBase o "split" X.env (eval o X.env) = eval o X.env := by rfl) (hline : (apos.endLine == pos.line) = true := by rfl) :
    DE X (.Call (.Attribute o "split" apos) [e] [] pos) (qM1 dSplit qa qb) := ⟨PE.imp (pe_split ho.pe he.pe hs hbase hline) (lf_m1 (by
  rintro tw Hs F H v u x y Q QQ st r1 r2 ⟨a, b, e1, e2, h1, h2, q⟩ k
  exact ⟨a, b, r1.str e1, by rw [r2.str e2], h1, h2, fun p hp => k _ _ (post_lst st (dv_strsL _) hp q)⟩))⟩
end
section
variable {X : Cx} {W : Addr → Hp → Prop} {k : Nat} {f : Addr} {fd : FuncData} {ps ks : List Str} {x : Str} {c : CDX} {g : List Value → List Value → List Value} {gV : List V → List V → List V} {gD : List D → List D} {kws : List Keyword} {qs : QA} {p pos : Pos}
theorem dx_callK0 (R : XRaise X W) (G : FnOk X.prog X.w X.K X.mg X.base (CX1 X.prog X.w) k f fd ps (spX X.K c)) (hr : Room k X.A) (hg : Gl X x) (hm : X.mg x = some (.ref f)) (hk : PySem.W.keepIn X.K (.ref f) = true) (hb : KBinds X.K fd ps ks g gV)
    (hgD : ∀ tw F zs es, DvAll X.K tw F zs es → DvAll X.K tw F (gV [] zs) (gD es))
    (hkw : DK X kws qs) (hall : (backToKw pos (keywordEach kws X.env)).all (·.1.isSome) = true := by rfl) (hks : (backToKw pos (keywordEach kws X.env)).filterMap (·.1) = ks := by rfl)
    (hdb : (x == ("__debug__" : Str)) = false := by decide)
    (hpl : ((backTo pos (starEach [] X.env)).any (·.1) || (backToKw pos (keywordEach kws X.env)).any (·.1.isNone)) = false := by rfl) :
    DX X W (.Call (.Name x p) [] kws pos) (fun ρ q => qs ρ fun ds => ∃ C, c (gD ds) C ∧ q C) := by
  refine ⟨fun pins s σ H I ⟨tw, H0, F, ρ, q, stt, rp, z, kk⟩ => ?_⟩
  have hx : Passes (CX1 X.prog X.w) X (fun c d H' => ∃ C, c = .ref C ∧ W C H') := fun pins σ H s e s' I ⟨e', C, H', ee, fa, C', eC, hW⟩ => by
    cases eC
    rw [ee]
    exact R.on pins σ H s H' e' C s' I fa hW
  refine thn (pe_callK0 G hr hg hm hk hb hx hkw.pk hall hks hdb hpl pins s σ H (fun _ _ => False) I ?_) fun _ _ ⟨_, _, _, _, z⟩ => z
  refine ⟨tw, H0, F, ρ, _, stt, rp, z, fun vs ds1 F1 H1 s1 a1 q1 => ?_⟩
  obtain ⟨C, hc, hq⟩ := q1
  exact ⟨tw, F1, gD ds1, C, s1.st, hgD tw F1 _ _ a1, hc, fun F' H' s' => ⟨C, rfl, kk C F' H' (s1.trans s') hq⟩⟩
end
end L3
set_option Elab.async false
set_option linter.all false
set_option autoImplicit false
set_option maxRecDepth 100000
namespace L3
open PySem PySem.Spec PyProof.Rows L2
theorem sok_lit {x : Str} (h : x.cps.toList.all (fun c => decide (c < 0x110000)) = true) : StrOk x := by
  show x.cps.all _ = true
  rw [← Array.all_toList]
  exact h
theorem flat_told : Flat 0 (D.str (Str.ofString "told")) := flat_str (sok_lit (by decide))
end L3
set_option Elab.async false
set_option linter.all false
set_option autoImplicit false
set_option maxRecDepth 100000
namespace L3
open PySem PySem.Spec PyProof.Rows L2
end L3
set_option Elab.async false
set_option linter.all false
set_option autoImplicit false
set_option maxRecDepth 100000
namespace L3
open PySem PySem.Spec PyProof.Rows L2
def inCB (wd : Nat) (l : List Cell) (x : Int) : Bool := l.all fun p => colB wd (x + p.1)
def okD (wd : Nat) (rows : List (List Bool)) (l : List Cell) (x : Nat) : Bool := inCB wd l (x : Int) && okX rows l (x : Int)
end L3
set_option Elab.async false
set_option linter.all false
set_option autoImplicit false
set_option maxRecDepth 100000
namespace L3
open PySem PySem.Spec PyProof.Rows L2
theorem eqD_lnil (ds : List D) : eqD (.lst ds) (.lst []) = ds.isEmpty := by
  cases ds with
  | nil => rfl
  | cons d ds => rfl
theorem eqD_int (a b : Int) : eqD (.int a) (.int b) = decide (a = b) := rfl
end L3
set_option Elab.async false
set_option linter.all false
set_option autoImplicit false
set_option maxRecDepth 100000
namespace L3
open PySem PySem.Spec PyProof.Rows L2
theorem toList_join (sep : Str) : ∀ (p : Str) (r : List Str), r ≠ [] → (Str.join sep (p :: r)).cps.toList = p.cps.toList ++ (sep.cps.toList ++ (Str.join sep r).cps.toList)
  | p, q :: r, _ => by
    show (p ++ sep ++ Str.join sep (q :: r)).cps.toList = _
    simp only [Str.cps_append, Array.toList_append, List.append_assoc]
theorem free_cut {c : Nat} : ∀ {a b x y : List Nat}, c ∉ a → c ∉ b → a ++ c :: x = b ++ c :: y → a = b ∧ x = y
  | [], [], x, y, _, _, h => by simpa using h
  | [], b :: bs, x, y, _, hb, h => by
    rw [List.nil_append, List.cons_append, List.cons.injEq] at h
    exact absurd (by rw [← h.1]; exact List.mem_cons_self) hb
  | a :: as, [], x, y, ha, _, h => by
    rw [List.nil_append, List.cons_append, List.cons.injEq] at h
    exact absurd (by rw [h.1]; exact List.mem_cons_self) ha
  | a :: as, b :: bs, x, y, ha, hb, h => by
    rw [List.cons_append, List.cons_append, List.cons.injEq] at h
    obtain ⟨e1, e2⟩ := free_cut (fun z => ha (List.mem_cons_of_mem _ z)) (fun z => hb (List.mem_cons_of_mem _ z)) h.2
    rw [h.1, e1]
    exact ⟨rfl, e2⟩
theorem free_not {c : Nat} {a b x : List Nat} (ha : c ∉ a) (h : a = b ++ c :: x) : False := by
  subst h
  exact ha (List.mem_append_right _ List.mem_cons_self)
theorem str_ext {x y : Str} (h : x.cps.toList = y.cps.toList) : x = y := Str.ext' (Array.toList_inj.mp h)
theorem join_inj (c : Nat) : ∀ (xs ys : List Str), xs ≠ [] → ys ≠ [] → (∀ x ∈ xs, c ∉ x.cps.toList) → (∀ y ∈ ys, c ∉ y.cps.toList) → Str.join ⟨#[c]⟩ xs = Str.join ⟨#[c]⟩ ys → xs = ys
  | [], _, h, _, _, _, _ => absurd rfl h
  | _ :: _, [], _, h, _, _, _ => absurd rfl h
  | [x], [y], _, _, _, _, h => by
    have h : x = y := h
    rw [h]
  | [x], y :: y2 :: ys, _, _, hx, _, h => by
    have h := congrArg (fun z : Str => z.cps.toList) h
    rw [toList_join ⟨#[c]⟩ y (y2 :: ys) (by simp)] at h
    exact (free_not (hx x List.mem_cons_self) h).elim
  | x :: x2 :: xs, [y], _, _, _, hy, h => by
    have h := congrArg (fun z : Str => z.cps.toList) h
    rw [toList_join ⟨#[c]⟩ x (x2 :: xs) (by simp)] at h
    exact (free_not (hy y List.mem_cons_self) h.symm).elim
  | x :: x2 :: xs, y :: y2 :: ys, _, _, hx, hy, h => by
    have h := congrArg (fun z : Str => z.cps.toList) h
    rw [toList_join ⟨#[c]⟩ x (x2 :: xs) (by simp), toList_join ⟨#[c]⟩ y (y2 :: ys) (by simp)] at h
    obtain ⟨e1, e2⟩ := free_cut (hx x List.mem_cons_self) (hy y List.mem_cons_self) h
    rw [str_ext e1, join_inj c (x2 :: xs) (y2 :: ys) (by simp) (by simp) (fun z hz => hx z (List.mem_cons_of_mem _ hz)) (fun z hz => hy z (List.mem_cons_of_mem _ hz)) (str_ext e2)]
theorem split_ne (x y : Str) : Txt.split x y ≠ [] := by
  unfold Txt.split
  split
  · simp
  · split
    · simp
    · rw [StrLaws.partsBetween_eq]
      obtain ⟨p, r, e⟩ := StrLaws.partsFrom_ne x y.length 0 (Builtin.Str.occurrences x y 0 x.length (x.length + 1))
      rw [e]
      simp
theorem split_join {c : Nat} {ys : List Str} (hne : ys ≠ []) (hf : ∀ y ∈ ys, c ∉ y.cps.toList) : Txt.split (Txt.join ⟨#[c]⟩ ys) ⟨#[c]⟩ = ys := by
  have ej : Txt.join ⟨#[c]⟩ ys = Str.join ⟨#[c]⟩ ys := StrLaws.glued_eq_join _ _
  rw [ej]
  exact join_inj c _ _ (split_ne _ _) hne (StrLaws.split_free _ c) hf (StrLaws.join_split _ _)
theorem mem_join {sep p : Str} : ∀ {ps : List Str}, p ∈ ps → (∀ c ∈ p.cps.toList, c ∈ (Str.join sep ps).cps.toList) ∧ p.length ≤ (Str.join sep ps).length
  | [q], h => by
    rw [List.mem_singleton.mp h]
    exact ⟨fun c hc => hc, Nat.le_refl _⟩
  | q :: q2 :: ps, h => by
    have e := toList_join sep q (q2 :: ps) (by simp)
    have el : (Str.join sep (q :: q2 :: ps)).length = q.length + (sep.length + (Str.join sep (q2 :: ps)).length) := by
      have := congrArg List.length e
      simpa [Str.length] using this
    rcases List.mem_cons.mp h with rfl | h
    · exact ⟨fun c hc => by rw [e]; exact List.mem_append_left _ hc, by omega⟩
    · obtain ⟨h1, h2⟩ := mem_join (sep := sep) h
      exact ⟨fun c hc => by rw [e]; exact List.mem_append_right _ (List.mem_append_right _ (h1 c hc)), by omega⟩
theorem split_part {z sep p : Str} (h : p ∈ Txt.split z sep) : (∀ c ∈ p.cps.toList, c ∈ z.cps.toList) ∧ p.length ≤ z.length := by
  have := mem_join (sep := sep) h
  rw [StrLaws.join_split] at this
  exact this
theorem strOk_sub {p z : Str} (h : StrOk z) (hs : ∀ c ∈ p.cps.toList, c ∈ z.cps.toList) : StrOk p := by
  unfold StrOk at *
  rw [Array.all_eq_true_iff_forall_mem] at *
  intro c hc
  exact h c (by simpa using hs c (by simpa using hc))
structure TxIn (z : Str) : Prop where
  few : z.length ≤ 1000
  ok : StrOk z
theorem cutS_le (z : Str) (lo hi : Option Int) : (cutS z lo hi).length ≤ z.length := by
  show (List.toArray _).size ≤ _
  rw [List.size_toArray, List.length_take, List.length_drop]
  have : z.cps.toList.length = z.length := by simp [Str.length]
  omega
theorem str_len_app (a b : Str) : (a ++ b).length = a.length + b.length := by
  show (a ++ b).cps.size = _
  rw [Str.cps_append, Array.size_append]
  rfl
theorem sign_at {z : Str} (hz : StrOk z) {i : Int} (h0 : 0 ≤ i) (h1 : i < z.length) : ∃ c, atI z.cps.toList i = some c ∧ StrOk ⟨#[c]⟩ := by
  have hl : z.cps.toList.length = z.length := by simp [Str.length]
  have := atI_nat z.cps.toList i.toNat (by omega)
  rw [Int.toNat_of_nonneg h0] at this
  exact ⟨_, this, strOk_one hz (List.getElem_mem _)⟩
def ntD : D := .tup [.str (Str.ofString "no text")]
theorem flat_notext : Flat 0 (D.str (Str.ofString "no text")) := flat_str (sok_lit (by decide))
theorem flat_nt : Flat 1 ntD := flat_tup (n := 0) (by simp; exact flat_notext)
theorem ok_nt : ntD.ok := flat_nt.ok (by decide)
def ntL (zs : List Str) : D := .lst (zs.filterMap fun _ => some ntD)
theorem ok_ntL (zs : List Str) : (ntL zs).ok := (flat_lst (n := 1) fun d hd => by
  obtain ⟨z, _, e⟩ := List.mem_filterMap.mp hd
  cases e
  exact flat_nt).ok (by decide)
end L3
set_option Elab.async false
set_option linter.all false
set_option autoImplicit false
set_option maxRecDepth 100000
namespace L3
open PySem PySem.Spec PyProof.Rows L2
section
variable {X : Cx}
end
end L3
set_option Elab.async false
set_option linter.all false
set_option autoImplicit false
set_option maxRecDepth 100000
namespace L3
open PySem PySem.Spec PyProof.Rows L2
section
variable {prog : Program} {w : World} {Kk : Type} [DecidableEq Kk] {knd : HeapKind prog w Kk} {A : Around} {E : Value → Shared → Prop} {s : Shared}
end
theorem Paired.erase {α β : Type} {R : α → β → Prop} : ∀ {xs : List α} {ys : List β}, Paired R xs ys → ∀ j, Paired R (xs.eraseIdx j) (ys.eraseIdx j)
  | _, _, .nil, _ => .nil
  | _, _, .cons _ t, 0 => t
  | _, _, .cons h t, j + 1 => .cons h (Paired.erase t j)
theorem Paired.atR {α β : Type} {R : α → β → Prop} : ∀ {xs : List α} {ys : List β}, Paired R xs ys → ∀ {j : Nat} {y : β}, ys[j]? = some y → ∃ x, xs[j]? = some x ∧ R x y
  | _, _, .nil, _, _, h => by simp at h
  | _, _, .cons h t, 0, _, e => by cases e; exact ⟨_, rfl, h⟩
  | _, _, .cons h t, j + 1, _, e => Paired.atR t (by simpa using e)
section
variable {X : Cx} {pins : List (Addr × Obj)} {σ : St} {H : Hp} {s : Shared}
theorem DvAll.erase {K : Frag} {tw : Tw} {F : Hp} : ∀ {us : List V} {ds : List D}, DvAll K tw F us ds → ∀ j, DvAll K tw F (us.eraseIdx j) (ds.eraseIdx j)
  | _, _, .nil, _ => .nil
  | _, _, .cons _ t, 0 => t
  | _, _, .cons h t, j + 1 => .cons h (DvAll.erase t j)
end
end L3
set_option Elab.async false
set_option linter.all false
set_option autoImplicit false
set_option maxRecDepth 100000
namespace L3
open PySem PySem.Spec PyProof.Rows L2
structure EndsD0 where
  nx : Ev → Prop
  rt : Ev → D → Prop
  bk : Ev → Prop
  ct : Ev → Prop
abbrev QS0 := EndsD0 → Ev → Prop
structure EndsOk0 (K : Frag) (tw : Tw) (F0 H0 F : Hp) (z : Option (Option V)) (E : EndsD0) (DD : Ends) : Prop where
  nx : ∀ F' σ' H' ρ', Same F F' → Stp tw F0 H0 F' H' → Rep K tw H0 F' H' σ' ρ' → σ'[0]? = z → E.nx ρ' → DD.nx σ' H'
  rt : ∀ F' v H' d σ' ρ', Stp tw F0 H0 F' H' → Rep K tw H0 F' H' σ' ρ' → σ'[0]? = z → Dv K tw F' v d → E.rt ρ' d → DD.rt v H'
  bk : ∀ F' σ' H' ρ', Same F F' → Stp tw F0 H0 F' H' → Rep K tw H0 F' H' σ' ρ' → σ'[0]? = z → E.bk ρ' → DD.bk σ' H'
  ct : ∀ F' σ' H' ρ', Same F F' → Stp tw F0 H0 F' H' → Rep K tw H0 F' H' σ' ρ' → σ'[0]? = z → E.ct ρ' → DD.ct σ' H'
theorem EndsOk0.later {K : Frag} {tw : Tw} {F0 H0 F F1 : Hp} {z : Option (Option V)} {E : EndsD0} {DD : Ends} (h : EndsOk0 K tw F0 H0 F z E DD) (s : Same F F1) : EndsOk0 K tw F0 H0 F1 z E DD :=
  ⟨fun F' σ' H' ρ' e => h.nx F' σ' H' ρ' (s.trans e), h.rt, fun F' σ' H' ρ' e => h.bk F' σ' H' ρ' (s.trans e), fun F' σ' H' ρ' e => h.ct F' σ' H' ρ' (s.trans e)⟩
def lfS0 (K : Frag) (t : QS0) : TS := fun DD σ H => ∃ tw F0 H0 F ρ E, Stp tw F0 H0 F H ∧ Rep K tw H0 F H σ ρ ∧ t E ρ ∧ EndsOk0 K tw F0 H0 F σ[0]? E DD
structure DSs0 (X : Cx) (st : List Stmt) (t : QS0) : Prop where
  pss : PSs X st (lfS0 X.K t)
section
variable {X : Cx} {st : Stmt} {rest : List Stmt} {t u : QS0} {e : Expr} {q : QE} {pos : Pos}
end
abbrev CM := D → List D → (D → D → Prop) → Prop
def spM (K : Frag) (c : CM) : Sp := fun vs H Q _ => ∃ tw F a o d0 ws ds QD, vs = .ref a :: ws ∧ Stt tw F H ∧ H a = some o ∧ F a = none ∧ ¬ inTw tw a ∧ Cont K tw F o d0 ∧ DvAll K tw F ws ds ∧ c d0 ds QD ∧
  ∀ v F' H' o' d' r, Stp tw F H F' (upd H' a o) → H' a = some o' → Cont K tw F' o' d' → Dv K tw F' v r → QD d' r → Q v H'
def hide (H : Hp) (a : Addr) : Hp := fun b => if b = a then none else H b
theorem hide_at {H : Hp} {a : Addr} : hide H a a = none := by unfold hide; rw [if_pos rfl]
theorem hide_ne {H : Hp} {a b : Addr} (h : b ≠ a) : hide H a b = H b := by unfold hide; rw [if_neg h]
theorem hide_some {H : Hp} {a b : Addr} {o : HO} (h : hide H a b = some o) : b ≠ a ∧ H b = some o := by
  by_cases e : b = a
  · subst e; rw [hide_at] at h; cases h
  · rw [hide_ne e] at h; exact ⟨e, h⟩
theorem stp_hide {tw : Tw} {F H : Hp} {a : Addr} (st : Stt tw F H) : Stp tw F (hide H a) F H := ⟨Same.refl _, fun _ _ h _ _ => h, fun b o h _ => (hide_some h).2, fun b o h => ⟨o, (hide_some h).2⟩, st⟩
theorem stp_unhide {tw : Tw} {F H F' H' : Hp} {a : Addr} {o : HO} (h : H a = some o) (s : Stp tw F (hide H a) F' H') (hf : F' a = none) (hn : ¬ inTw tw a) : Stp tw F H F' (upd H' a o) := by
  have m := s.mut (o := o) hide_at hf hn
  refine ⟨s.fz, fun b u e1 e2 e3 => ?_, fun b u e n => ?_, fun b u e => ?_, m.st⟩
  · by_cases hb : b = a
    · subst hb; exact hf
    · exact s.nw b u e1 (by rw [hide_ne hb]; exact e2) e3
  · by_cases hb : b = a
    · subst hb; rw [h] at e; cases e; exact upd_same
    · rw [upd_ne hb]; exact s.kp b u (by rw [hide_ne hb]; exact e) n
  · by_cases hb : b = a
    · subst hb; exact ⟨o, upd_same⟩
    · rw [upd_ne hb]; exact s.kt b u (by rw [hide_ne hb]; exact e)
def startM (N : List Str) (d0 : D) (ds : List D) : Ev := some (.fresh d0) :: (ds.map (fun d => some (.dat d)) ++ List.replicate (N.length - (ds.length + 1)) none)
theorem rep_startM {K : Frag} {tw : Tw} {F H : Hp} {N : List Str} {a : Addr} {o : HO} {d0 : D} {ws : List V} {ds : List D} (st : Stt tw F H) (h1 : H a = some o) (hf : F a = none) (hn : ¬ inTw tw a) (hc : Cont K tw F o d0) (al : DvAll K tw F ws ds) : Rep K tw (hide H a) F H (L2.start N (.ref a :: ws)) (startM N d0 ds) where
  len := by simp [L2.start, startM, al.length]
  dom := fun b o e => ⟨o, (hide_some e).2⟩
  get := fun i r e => by
    cases i with
    | zero => cases e; exact ⟨.ref a, rfl, .fresh hide_at hf h1 hn hc⟩
    | succ i =>
      have e : (ds.map (fun d => some (R.dat d)) ++ List.replicate (N.length - (ds.length + 1)) none)[i]? = some (some r) := e
      have hi : i < ds.length := by
        by_cases hi : i < ds.length
        · exact hi
        · rw [List.getElem?_append_right (by simpa using hi), List.getElem?_replicate] at e
          split at e <;> cases e
      rw [List.getElem?_append_left (by simpa using hi), List.getElem?_map, List.getElem?_eq_getElem hi] at e
      cases e
      obtain ⟨v, e1, e2⟩ := al.get (List.getElem?_eq_getElem hi)
      refine ⟨v, ?_, .dat e2⟩
      show ((ws.map some ++ List.replicate _ none) : St)[i]? = _
      rw [List.getElem?_append_left (by simpa [al.length] using hi), List.getElem?_map, e1]
      rfl
  sep := fun i j a' d r h1 h2 h3 _ _ => by
    have only : ∀ (i : Nat) (r : R), (startM N d0 ds)[i]? = some (some r) → (∀ d', r ≠ .dat d') → i = 0 := fun i r e hr => by
      cases i with
      | zero => rfl
      | succ i =>
        exfalso
        have e : (ds.map (fun d => some (R.dat d)) ++ List.replicate (N.length - (ds.length + 1)) none)[i]? = some (some r) := e
        by_cases hi : i < ds.length
        · rw [List.getElem?_append_left (by simpa using hi), List.getElem?_map, List.getElem?_eq_getElem hi] at e
          cases e
          exact hr _ rfl
        · rw [List.getElem?_append_right (by simpa using hi), List.getElem?_replicate] at e
          split at e <;> cases e
    rw [only i _ h1 (fun _ z => by cases z), only j r h2 h3]
section
variable {P : Program} {w : World} {K : Frag} {mg : Str → Option Value} {base : Heap}
theorem FunG.okM {x qual : Str} {st : Stmt} {f : Addr} {fd : FuncData} {dV : Value} {N ps : List Str} {k : Nat} {c : CM} (F : FunG K x qual st f fd dV) (S : FnScope N ps (defScope st)) (len : ∀ d0 ds Q, c d0 ds Q → ds.length + 1 = ps.length)
    (hbody : ∀ (cdv : Value) (A : Around) (outer : List Env) (s : Shared) (H : Hp) (E : XK), Room k (A.deeper (envOfC qual (defScope st) s.heap.objs.size f cdv)) →
      ∃ t, DSs0 (cxOf CX0 P w K mg base N qual (defScope st) f cdv A outer s H E).nox (defBody st) t ∧ ∀ d0 ds QD, c d0 ds QD → t ⟨fun ρ => ∃ d', ρ[0]? = some (some (.fresh d')) ∧ QD d' .non, fun ρ r => ∃ d', ρ[0]? = some (some (.fresh d')) ∧ QD d' r, fun _ => False, fun _ => False⟩ (startM N d0 ds)) : FnOk P w K mg base CX0 (k + 1) f fd ps (spM K c) := by
  obtain ⟨oc, od, kV, doc, pm, an, cdv, ct, osl, rfl, lk, hcd⟩ := F.ex
  refine fn_of lk hcd S (fun vs H Q E h => ?_) fun A outer s H vs Q E hr h => ?_
  · obtain ⟨tw, F, a, o, d0, ws, ds, QD, rfl, st, h1, hf, hn, hc, dv, cc, _⟩ := h
    rw [List.length_cons, dv.length]
    exact len d0 ds QD cc
  · obtain ⟨tw, F, a, o, d0, ws, ds, QD, rfl, st, h1, hf, hn, hc, dv, cc, kk⟩ := h
    obtain ⟨t, ht, hq⟩ := hbody cdv A outer s H E hr
    have fin : ∀ {F' : Hp} {v : V} {H' : Hp} {r : D} {σ' : St} {ρ' : Ev} {d' : D}, Stp tw F (hide H a) F' H' → Rep K tw (hide H a) F' H' σ' ρ' → σ'[0]? = some (some (.ref a)) → Dv K tw F' v r → ρ'[0]? = some (some (.fresh d')) → QD d' r → Q v H' := fun {F' v H' r σ' ρ' d'} s' rp' z dd e0 hQ => by
      obtain ⟨v0, g1, g2⟩ := rp'.get 0 _ e0
      rw [z] at g1
      cases g1
      cases g2 with
      | @fresh _ o' _ _ hf' h1' _ hc' => exact kk v F' H' o' d' r (stp_unhide h1 s' hf' hn) h1' hc' dd hQ
    refine ⟨_, ht.pss.nox, tw, F, hide H a, F, startM N d0 ds, _, stp_hide st, rep_startM st h1 hf hn hc dv, hq d0 ds QD cc, ⟨fun F' σ' H' ρ' _ s' rp' z ⟨d', e0, hQ⟩ => fin s' rp' z .non e0 hQ, fun F' v H' r σ' ρ' s' rp' z dd ⟨d', e0, hQ⟩ => fin s' rp' z dd e0 hQ, fun _ _ _ _ _ _ _ _ z => z.elim, fun _ _ _ _ _ _ _ _ z => z.elim⟩⟩
end
end L3
set_option Elab.async false
set_option linter.all false
set_option autoImplicit false
set_option maxRecDepth 100000
namespace L3
open PySem PySem.Spec PyProof.Rows L2
section
variable {X : Cx} {pos : Pos}
end
end L3
set_option Elab.async false
set_option linter.all false
set_option autoImplicit false
set_option maxRecDepth 100000
namespace L3
open PySem PySem.Spec PyProof.Rows L2
def keyOf2 (h : Heap) : Value → List Int
  | .ref a => match h.get? a with
    | some o => (match o.data with
      | .seq xs _ => (xs.toList.map (keyOf h)).flatten
      | _ => [])
    | none => []
  | _ => []
theorem keyOf2_tup {h : Heap} {a : Addr} {its : List Value} {kss : List (List Int)} (t : IsTup h a its.toArray) (i : TupsI h its kss) : keyOf2 h (.ref a) = kss.flatten := by
  obtain ⟨o, e, c, n, d⟩ := t
  have : keyOf2 h (.ref a) = (its.map (keyOf h)).flatten := by simp only [keyOf2, e, d]
  rw [this, i.keys]
def Two (kss : List (List Int)) : Prop := ∀ ns ∈ kss, ∃ a b, ns = [a, b]
section
variable {prog : Program} {w : World} {A : Around} {E : Value → Shared → Prop} {s : Shared}
end
inductive TupsN (h : Heap) : List Value → List (List (List Int)) → Prop
  | nil : TupsN h [] []
  | cons {a : Addr} {its : List Value} {kss : List (List Int)} {vs : List Value} {ksss : List (List (List Int))} : IsTup h a its.toArray → TupsI h its kss → Two kss → kss ≠ [] → TupsN h vs ksss → TupsN h (.ref a :: vs) (kss :: ksss)
theorem TupsN.length {h : Heap} : ∀ {vs : List Value} {ksss : List (List (List Int))}, TupsN h vs ksss → vs.length = ksss.length
  | _, _, .nil => rfl
  | _, _, .cons _ _ _ _ t => by rw [List.length_cons, List.length_cons, t.length]
theorem TupsN.up {h h' : Heap} (k : ∀ b o, h.get? b = some o → h'.get? b = some o) : ∀ {vs : List Value} {ksss : List (List (List Int))}, TupsN h vs ksss → TupsN h' vs ksss
  | _, _, .nil => .nil
  | _, _, .cons h1 h2 h3 h4 t => .cons (h1.keeps k) (h2.up k) h3 h4 (t.up k)
theorem TupsN.keys {h : Heap} : ∀ {vs : List Value} {ksss : List (List (List Int))}, TupsN h vs ksss → vs.map (keyOf2 h) = ksss.map List.flatten
  | _, _, .nil => rfl
  | _, _, .cons h1 h2 _ _ t => by rw [List.map_cons, List.map_cons, t.keys, keyOf2_tup h1 h2]
section
variable {prog : Program} {w : World} {A : Around} {s : Shared}
end
def TupAt2 (H : Hp) (as : List Addr) (ksss : List (List (List Int))) : Prop := Paired (fun a kss => (∃ ps : List Addr, H a = some (.tup (ps.map V.ref)) ∧ TupAt H ps kss) ∧ Two kss ∧ kss ≠ []) as ksss
section
variable {X : Cx}
end
theorem TupAt2.mono {F H : Hp} (k : ∀ b o, F b = some o → H b = some o) : ∀ {as : List Addr} {ksss : List (List (List Int))}, TupAt2 F as ksss → TupAt2 H as ksss
  | _, _, .nil => .nil
  | _, _, .cons ⟨⟨ps, h1, h2⟩, h3⟩ t => .cons ⟨⟨ps, k _ _ h1, Paired.mapP h2 fun a b z => k _ _ z⟩, h3⟩ (TupAt2.mono k t)
end L3
set_option Elab.async false
set_option linter.all false
set_option autoImplicit false
set_option maxRecDepth 100000
namespace L3
open PySem PySem.Spec PyProof.Rows L2
section
variable {K : Frag} {tw : Tw} {F0 H0 F H F' H' : Hp} {σ : St} {ρ : Ev} {d : Addr} {od : Obj} {u : HO}
end
section
variable {X : Cx}
theorem PS.or {st : Stmt} {t t' : TS} (h : PS X st t) (h' : PS X st t') : PS X st (fun D σ H => t D σ H ∨ t' D σ H) := fun pins s σ H D I hw => hw.elim (h pins s σ H D I) (h' pins s σ H D I)
theorem PS.len {st : Stmt} {t : TS} (h : PS X st t) : PS X st (fun D σ H => ∀ (_ : ∀ d kvs, Rd H d (.dT kvs) → kvs.length ≤ sizeLine), t D σ H) := fun pins s σ H D I hw => h pins s σ H D I (hw fun d kvs r => dT_len I r)
end
end L3
set_option Elab.async false
set_option linter.all false
set_option autoImplicit false
set_option maxRecDepth 100000
namespace L3
open PySem PySem.Spec PyProof.Rows L2
def mergedH (acc : List (List Key × Addr × Value)) (rest : List (List Key × Addr × Value)) : List (List Key × Addr × Value) := rest.foldl (fun m q => storedH m q.1 q.2.1 q.2.2) acc
section
variable {prog : Program} {w : World} {A : Around} {E : Value → Shared → Prop}
end
def mergeT (kvs more : List (List Key × V)) : List (List Key × V) := more.foldl (fun acc kv => putK acc kv.1 kv.2) kvs
theorem KT.merge {H : Hp} : ∀ {more : List (List Key × V)} {rs : List (List Key × Addr × Value)} {kvs : List (List Key × V)} {xs : List (List Key × Addr × Value)}, KT H more rs → KT H kvs xs → KT H (mergeT kvs more) (mergedH xs rs)
  | _, _, _, _, .nil, h => h
  | _, _, _, _, .cons (a := p) (b := q) ⟨h1, h2, h3⟩ t, h => by
    refine KT.merge (kvs := putK _ p.1 p.2) (xs := storedH _ q.1 q.2.1 q.2.2) t ?_
    rw [← h1]
    exact h.put p.1 h2 h3
section
variable {X : Cx}
end
theorem Paired.mapQ {α β : Type} {p q : α → β → Prop} (h : ∀ a b, p a b → q a b) : ∀ {l : List α} {m : List β}, Paired p l m → Paired q l m
  | _, _, .nil => .nil
  | _, _, .cons a t => .cons (h _ _ a) (Paired.mapQ h t)
end L3
set_option Elab.async false
set_option linter.all false
set_option autoImplicit false
set_option maxRecDepth 100000
namespace L3
open PySem PySem.Spec PyProof.Rows L2
section
variable {prog : Program} {w : World} {A : Around} {E : Value → Shared → Prop} {s : Shared}
end
section
variable {X : Cx}
theorem KT.keys {H : Hp} : ∀ {kvs : List (List Key × V)} {xs : List (List Key × Addr × Value)}, KT H kvs xs → xs.map (·.1) = kvs.map (·.1)
  | _, _, .nil => rfl
  | _, _, .cons h t => by rw [List.map_cons, List.map_cons, KT.keys t, h.1]
end
end L3
set_option Elab.async false
set_option linter.all false
set_option autoImplicit false
set_option maxRecDepth 100000
namespace L3
open PySem PySem.Spec PyProof.Rows L2
section
variable {prog : Program} {w : World} {A : Around} {E : Value → Shared → Prop} {s : Shared}
end
section
variable {X : Cx}
theorem KT.mem {H : Hp} : ∀ {kvs : List (List Key × V)} {xs : List (List Key × Addr × Value)}, KT H kvs xs → ∀ x ∈ xs, ∃ p ∈ kvs, p.1 = x.1 ∧ RelV p.2 x.2.2
  | _, _, .nil, x, h => by cases h
  | _, _, .cons h t, x, hx => by
    rcases List.mem_cons.mp hx with rfl | hx
    · exact ⟨_, List.mem_cons_self, h.1, h.2.2⟩
    · obtain ⟨p, h1, h2⟩ := KT.mem t x hx
      exact ⟨p, List.mem_cons_of_mem _ h1, h2⟩
theorem KT.all {H : Hp} {P : List Key → Bool} : ∀ {kvs : List (List Key × V)} {xs : List (List Key × Addr × Value)}, KT H kvs xs → (xs.all fun x => P x.1) = kvs.all fun p => P p.1
  | _, _, .nil => rfl
  | _, _, .cons h t => by rw [List.all_cons, List.all_cons, KT.all t, h.1]
end
end L3
set_option Elab.async false
set_option linter.all false
set_option autoImplicit false
set_option maxRecDepth 100000
namespace L3
open PySem PySem.Spec PyProof.Rows L2
section
variable {prog : Program} {w : World} {A : Around} {R : Result → Shared → Prop} {I l : Addr} {h0 : Heap} {items : Array Value} {bt : Nat → Nat → Bool}
end
section
variable {X : Cx}
end
end L3
set_option Elab.async false
set_option linter.all false
set_option autoImplicit false
set_option maxRecDepth 100000
namespace L3
open PySem PySem.Spec PyProof.Rows L2
section
variable {prog : Program} {w : World} {A : Around} {R : Result → Shared → Prop} {s : Shared} {kx vx t0 i0 t1 i1 : Expr} {ifs0 ifs1 : List Expr} {scope : Scope} {pos : Pos} {it acc : Value} {D : Addr} {env : Env}
end
section
variable {X : Cx}
end
end L3
set_option Elab.async false
set_option linter.all false
set_option autoImplicit false
set_option maxRecDepth 100000
namespace L3
open PySem PySem.Spec PyProof.Rows L2
section
variable {X : Cx} {a : Expr} {ta : TE} {i : Int} {y z : Str} {j j2 j3 : Nat} {p1 p2 p3 p4 apos pos : Pos}
end
end L3
set_option Elab.async false
set_option linter.all false
set_option autoImplicit false
set_option maxRecDepth 100000
namespace L3
open PySem PySem.Spec PyProof.Rows L2
open AutoSeq1 (wpAny_loadPart')
section
variable {X : Cx} {e : Expr} {q : QE}
end
end L3
set_option Elab.async false
set_option linter.all false
set_option autoImplicit false
set_option maxRecDepth 100000
namespace L3
open PySem PySem.Spec PyProof.Rows L2
theorem note_cong {x : Value} {env env' : Env} (h : env.frame = env'.frame) : noteFrame x env = noteFrame x env' := by
  unfold noteFrame PySem.frameOf
  rw [h]
section
variable {M : Model} {A : Around} {E : Value → Shared → Prop} {s : Shared}
theorem leaves_any {base : Heap} {env : Env} {outer : List Env} {L e : Addr} {cls a0 fl : Value} {Q : Unit → Shared → Prop}
    (hfr : A.frames = some (env :: outer)) (hl : s.heap.FunFrames base (env :: outer)) (hf : env.frame = some L) (ht : s.heap.TracedAtW base e cls a0 fl) (hkb : base.StaysIn s.heap) (hen : base.get? e = none)
    (h : ∀ h', Heap.FlyingW base outer e cls a0 h' → s.heap.UpToSlots h' → Q () { s with heap := h' }) : wpAny M A (leaving env (.ref e)) Q E s := by
  have ht0 := ht
  obtain ⟨oe, vs, T, oT, ts, he, ⟨hcls, h0⟩, hd, h1, hnT, hTe, hT, hdT, h3⟩ := ht
  subst hcls
  unfold leaving noteFrame
  simp only [hf]
  by_cases hc : (fl == rawInt L) = true
  · refine wpAny_bind (wpAny_bind (wpAny_field he hd h1 ?_))
    rw [if_pos (show (Value.ref T != Value.none) = true from by simp)]
    refine wpAny_bind (wpAny_field hT hdT h3 ?_)
    rw [if_pos hc]
    refine wpAny_pure ?_
    refine wpAny_setFlight_noneW hkb hl ht0 fun h' k1 k2 k3 k4 => ?_
    exact h h' ⟨k1, hen, k2.2.2, k3⟩ fun b o hb hn => ⟨o.slots, k4 b o hb hn⟩
  · refine wpAny_bind (wpAny_bind (wpAny_field he hd h1 ?_))
    rw [if_pos (show (Value.ref T != Value.none) = true from by simp)]
    refine wpAny_bind (wpAny_field hT hdT h3 ?_)
    rw [if_neg hc]
    refine wpAny_bind (wpAny_setField hT hdT (Array.getElem?_eq_some_iff.mp h3).1 ?_)
    have other : ∀ b, b ≠ T → (s.heap.update T (Obj.mapFields (·.setIfInBounds 3 Value.none))).get? b = s.heap.get? b := fun b hb => Heap.get?_update_other _ _ (Ne.symm hb)
    have noRecord : ∀ b o, s.heap.get? b = some o → (∀ vs, o.data ≠ .fields vs) → b ≠ T := fun b o hb hnf q => by
      rw [q, hT] at hb; injection hb with hb; subst hb; exact hnf ts hdT
    refine wpAny_newEntryW hfr (hl.of_keeps fun b o hb hnf => ⟨o, (other b (noRecord b o hb hnf)).trans hb, rfl⟩) hf ((other e (Ne.symm hTe)).trans he)
      (fun b o hbo => (other b fun q => by rw [q, hnT] at hbo; cases hbo).trans (hkb b o hbo)) hen hd (Array.getElem?_eq_some_iff.mp h1).1 h0
      fun h' ⟨x1, x2, x3, x4⟩ => h h' ⟨x1, hen, x2.2.2, x3⟩ fun b o hb hnf => x4 b o ((other b (noRecord b o hb hnf)).trans hb) hnf
end
theorem frames_base {h B B' : Heap} (k : ∀ b, B.get? b = none → B'.get? b = none) : ∀ {l : List Env}, h.FunFrames B l → h.FunFrames B' l
  | [], x => x
  | env :: l, ⟨h1, ⟨L, o, h2, h3, h4, h5⟩, h6⟩ => ⟨h1, ⟨L, o, h2, k _ h3, h4, h5⟩, frames_base k h6⟩
theorem frames_keep {h h' B : Heap} : ∀ {l : List Env}, (∀ b ∈ frs l, ∀ o, h.get? b = some o → (∀ vs, o.data ≠ .fields vs) → ∃ o', h'.get? b = some o' ∧ o'.data = o.data) → h.FunFrames B l → h'.FunFrames B l
  | [], _, x => x
  | env :: l, k, ⟨h1, ⟨L, o, h2, h3, h4, h5⟩, h6⟩ => by
    have hm : frs (env :: l) = L :: frs l := by unfold frs; rw [List.filterMap_cons, h2]
    obtain ⟨o', e1, e2⟩ := k L (by rw [hm]; exact List.mem_cons_self) o h4 h5
    exact ⟨h1, ⟨L, o', h2, h3, e1, fun vs z => h5 vs (by rw [← e2]; exact z)⟩, frames_keep (fun b hb => k b (by rw [hm]; exact List.mem_cons_of_mem _ hb)) h6⟩
structure HeldAt (P : Program) (w : World) (stk : List Env) (D : Addr) (H0 : Hp) (s0 : Shared) (H' : Hp) (e C : Addr) (s' : Shared) : Prop where
  os : s'.os = s0.os
  bare : AllBare s'.gens
  un : Un (frs stk) [D] H0 H' s0.heap s'.heap
  hok : HOk P w H' s'.heap
  fly : ∃ (B : Heap) (t : Addr) (fl : Value), B.StaysIn s'.heap ∧ B.get? e = none ∧ s'.heap.FunFrames B stk ∧ s'.heap.TracedAtW B e (.ref C) (.ref t) fl ∧ (∀ b o, H' b = some o → ∃ ob, B.get? b = some ob) ∧ (∀ b o, s0.heap.get? b = some o → H0 b = none → b ∉ frs stk → b ≠ D → B.get? b = some o) ∧ ∀ b o, s0.heap.get? b = some o → b ∉ frs stk → b ≠ D → ∃ ob, B.get? b = some ob
section
variable {X : Cx} {pins : List (Addr × Obj)} {σ : St} {H H' : Hp} {s s' : Shared} {e C D : Addr} {Q : Unit → Shared → Prop} {E : Value → Shared → Prop}
theorem leave_held (I : Inv X pins σ H s) (hst : X.stack = X.env :: X.outer) (hf : X.env.frame = some X.env.locals) (hex : X.ex = []) (hD : X.s_0.heap.objs.size ≤ D) (fa : HeldAt X.prog X.w X.stack D H s H' e C s')
    (hQ : ∀ s'', FlyAt X.prog X.w X.outer X.H_0 X.s_0 H' e C s'' → Q () s'') : wpAny (model X.prog X.w) X.A (leaving X.env (.ref e)) Q E s' := by
  obtain ⟨os, bare, un, hok, B, t, fv, f1, f2, f3, f4, bt, bk, bs⟩ := fa
  have hfr : X.A.frames = some (X.env :: X.outer) := by rw [I.ok.frames, hst]
  have f3' := f3
  rw [hst] at f3'
  refine leaves_any hfr f3' hf f4 f1 f2 fun h'' fl2 us => hQ _ ?_
  have nex : ∀ b : Addr, b ∉ X.ex := fun b z => by rw [hex] at z; cases z
  have old : ∀ b o, X.s_0.heap.get? b = some o → b ≠ D := fun b o q z => by
    have := Heap.lt_size q
    rw [z] at this
    exact absurd this (Nat.not_lt.mpr hD)
  have nD : ∀ b o, X.s_0.heap.get? b = some o → b ∉ [D] := fun b o q z => old b o q (List.mem_singleton.mp z)
  have inst : ∀ b, b ∈ X.fs → b ∈ frs X.stack := fun b hb => by
    rw [hst]
    show b ∈ (X.env :: X.outer).filterMap (·.frame)
    rw [List.filterMap_cons, hf]
    exact List.mem_cons_of_mem _ hb
  have sameT : ∀ b o ob, H' b = some o → s'.heap.get? b = some ob → h''.get? b = some ob := fun b o ob hb q => by
    obtain ⟨ob', e1⟩ := bt b o hb
    have e2 := f1 b _ e1
    rw [q] at e2
    cases e2
    exact fl2.1 b _ e1
  have keepS : ∀ b o, X.s_0.heap.get? b = some o → X.H_0 b = none → b ∉ X.fs → B.get? b = some o := fun b o q n hb =>
    bk b o (I.base.keep b o q n hb (nex b)) (I.base.free b o q n (nex b)) (not_stack I (Heap.lt_size q) hb) (old b o q)
  refine ⟨os.trans I.os, bare, ⟨fun b o q n hb _ => fl2.1 b o (keepS b o q n hb), fun b o q n hb _ => ?_, fun b o q n _ => ?_, fun b o q _ => ?_, fun b xs q => un.tups b xs (I.base.tups b xs q), fun b o u q => un.frzs b o u (I.base.frzs b o u q), fun b ps q => ?_⟩, hok_stay hok sameT, B, t, fl2, bt, keepS, fun b o q hb => ?_⟩
  · obtain ⟨sl, e1⟩ := I.base.slot b o q n hb (nex b)
    obtain ⟨sl2, e2⟩ := un.slot b _ e1 (I.base.free b o q n (nex b)) (inst b hb) (nD b o q)
    obtain ⟨_, o', ho', hnf⟩ := f3.mem (inst b hb)
    rw [e2] at ho'
    cases ho'
    obtain ⟨sl3, e3⟩ := us b _ e2 hnf
    exact ⟨sl3, e3⟩
  · obtain ⟨o', e1⟩ := I.base.there b o q (nex b)
    exact un.free b o' e1 (I.base.free b o q n (nex b)) (nD b o q)
  · obtain ⟨o1, e1⟩ := I.base.there b o q (nex b)
    by_cases hb : b ∈ frs X.stack
    · have hn := I.stkFree b hb
      obtain ⟨sl2, e2⟩ := un.slot b _ e1 hn hb (nD b o q)
      obtain ⟨_, o', ho', hnf⟩ := f3.mem hb
      rw [e2] at ho'
      cases ho'
      obtain ⟨sl3, e3⟩ := us b _ e2 hnf
      exact ⟨_, e3⟩
    · obtain ⟨ob, e2⟩ := bs b o1 e1 hb (old b o q)
      exact ⟨ob, fl2.1 b ob e2⟩
  · obtain ⟨m1, e1⟩ := I.base.tbls b ps q
    obtain ⟨m2, e2⟩ := un.tbls b _ e1
    exact ⟨m1 ++ m2, by rw [e2, Array.append_assoc]⟩
  · obtain ⟨o', e1⟩ := I.base.there b o q (nex b)
    exact bs b o' e1 (not_stack I (Heap.lt_size q) hb) (old b o q)
structure XHeld (X : Cx) (W : Addr → Hp → Prop) : Prop where
  stk : X.stack = X.env :: X.outer
  frm : X.env.frame = some X.env.locals
  held : ∀ (pins : List (Addr × Obj)) (σ : St) (H : Hp) (s : Shared) (H' : Hp) (D e C : Addr) (s' : Shared), Inv X pins σ H s → X.s_0.heap.objs.size ≤ D → HeldAt X.prog X.w X.stack D H s H' e C s' → W C H' → X.xe (.ref e) s'
end
theorem xheld_of {P : Program} {w : World} {K : Frag} {mg : Str → Option Value} {base : Heap} {N : List Str} {qual : Str} {scope : Scope} {f : Addr} {cd : Value} {A : Around} {outer : List Env} {s : Shared} {H : Hp} {E : XK} :
    XHeld (cxOf (CX1 P w) P w K mg base N qual scope f cd A outer s H E) (fun C H' => E (.ref C) none H') :=
  ⟨rfl, rfl, fun pins σ H1 s1 H' D e C s' I hD fa hW => leave_held I rfl rfl rfl hD fa fun s'' fa' => ⟨e, C, H', rfl, fa', hW⟩⟩
section
variable {X : Cx} {W : Addr → Hp → Prop} {pins : List (Addr × Obj)} {σ : St} {H H' : Hp} {s s' : Shared} {e Cl C : Addr} {E : Value → Shared → Prop} {m : Str → Option Value} {ce : Env} {α : Type}
theorem comp_raise (xh : XHeld X W) (Io : Inv X pins σ H s) (hce : ce.frame = X.env.frame) (hD : X.s_0.heap.objs.size ≤ C) (hC : s.heap.Ns C m) (hn : H C = none) (hs : C ∉ frs X.stack) (fa : FlyAt X.prog X.w X.stack H s H' e Cl s') (hW : W Cl H') :
    wpAny (model X.prog X.w) X.A (noteFrame (.ref e) ce) (fun _ s1 => ∃ m, s1.heap.Ns C m ∧ ∀ h', Heap.SameBut C s1.heap h' → ∀ cenv : Env, cenv.locals = C → wpAny (model X.prog X.w) X.A (PySem.passOn "comprehension.variables-let-go" (.ref e) cenv : Sem α) (fun _ _ => False) X.xe { s1 with heap := h' }) E s' := by
  obtain ⟨os, bare, un, hok, B, t, fl, bt, bk, bs⟩ := fa
  have hfr : X.A.frames = some (X.env :: X.outer) := by rw [Io.ok.frames, xh.stk]
  have fl' := fl
  rw [xh.stk] at fl'
  rw [note_cong hce]
  refine wpAny_looks_onW hfr xh.frm fl' fun h1 hh us => ?_
  obtain ⟨st, ben, ff, tr⟩ := hh
  rw [← xh.stk] at ff
  obtain ⟨oC, es, ep, hoC, hdC, rC⟩ := hC
  have hBC := bk C oC hoC hn hs
  have nC : ∀ b, B.get? b = none → b ≠ C := fun b hb z => by rw [z, hBC] at hb; cases hb
  refine ⟨m, ⟨oC, es, ep, st C oC hBC, hdC, rC⟩, fun h' sb cenv hcl => ?_⟩
  obtain ⟨oe, vs, T, oT, ts, he, hcl0, hd, h1v, hnT, hTe, hT, hdT, h3⟩ := tr
  have eC := nC e ben
  have tC := nC T hnT
  have he' : h'.get? e = some oe := (sb.2 e eC).trans he
  have hT' : h'.get? T = some oT := (sb.2 T tC).trans hT
  unfold PySem.passOn
  refine wpAny_bind (wpAny_field he' hd h1v ?_)
  rw [if_neg (show ¬ (Value.ref T == Value.none) = true from by simp)]
  refine wpAny_bind ?_
  unfold setFlight
  refine wpAny_bind (wpAny_field he' hd h1v ?_)
  rw [if_pos (show (Value.ref T != Value.none) = true from by simp)]
  refine wpAny_setField hT' hdT (Array.getElem?_eq_some_iff.mp h3).1 (wpAny_throw ?_)
  generalize hfv : (cenv.frame.elim Value.none fun f => rawInt f) = fv
  have other : ∀ b, b ≠ T → (h'.update T (Obj.mapFields (·.setIfInBounds 3 fv))).get? b = h'.get? b := fun b hb => Heap.get?_update_other _ _ (Ne.symm hb)
  have noRecord : ∀ b o, h1.get? b = some o → (∀ vs, o.data ≠ .fields vs) → b ≠ T := fun b o hb hnf q => by
    rw [q, hT] at hb; injection hb with hb; subst hb; exact hnf ts hdT
  have keepB : ∀ b o, B.get? b = some o → b ≠ C → (h'.update T (Obj.mapFields (·.setIfInBounds 3 fv))).get? b = some o := fun b o hb hbC =>
    ((other b fun z => by rw [z, hnT] at hb; cases hb).trans (sb.2 b hbC)).trans (st b o hb)
  have hid : ∀ b o, (PySem.W.hideAll B [C]).get? b = some o → B.get? b = some o ∧ b ≠ C := fun b o hb => ⟨PySem.W.of_hideAll _ hb, fun z => by
    rw [z, PySem.W.hideAll_none [C] List.mem_cons_self] at hb; cases hb⟩
  have unh : ∀ b o, B.get? b = some o → b ≠ C → (PySem.W.hideAll B [C]).get? b = some o := fun b o hb hbC => PySem.W.hideAll_get _ hb fun z => hbC (List.mem_singleton.mp z)
  have hidN : ∀ b, B.get? b = none → (PySem.W.hideAll B [C]).get? b = none := fun b hb => by
    cases q : (PySem.W.hideAll B [C]).get? b with
    | none => rfl
    | some o => rw [(hid b o q).1] at hb; cases hb
  have hC' : H' C = none := un.free C oC hoC hn (by simp)
  have nHC : ∀ b o, H' b = some o → b ≠ C := fun b o hb z => by rw [z, hC'] at hb; cases hb
  have frmv : ∀ b ∈ frs X.stack, ∀ o, s'.heap.get? b = some o → ∃ sl, (h'.update T (Obj.mapFields (·.setIfInBounds 3 fv))).get? b = some { o with slots := sl } := fun b hb o ho => by
    obtain ⟨_, o', ho', hnf⟩ := fl.2.2.1.mem hb
    rw [ho] at ho'
    cases ho'
    obtain ⟨sl, e1⟩ := us b o ho hnf
    refine ⟨sl, ((other b (noRecord b _ e1 hnf)).trans (sb.2 b fun z => hs (by rw [← z]; exact hb))).trans e1⟩
  refine xh.held pins σ H s H' C e Cl _ Io hD ⟨os, bare, ⟨fun b o q n hb hx => ?_, fun b o q n hb hx => ?_, fun b o q n hx => ?_, fun b o q hx => ?_, un.tups, un.frzs, un.tbls⟩, ?_, PySem.W.hideAll B [C], t, fv, fun b o hb => ?_, hidN e ben, ?_, ?_, fun b o hb => ?_, fun b o q n hb hbC => ?_, fun b o q hb hbC => ?_⟩ hW
  · exact keepB b o (bk b o q n hb) fun z => hx (List.mem_singleton.mpr z)
  · obtain ⟨sl, e1⟩ := un.slot b o q n hb (by simp)
    obtain ⟨sl2, e2⟩ := frmv b hb _ e1
    exact ⟨sl2, e2⟩
  · exact un.free b o q n (by simp)
  · by_cases hb : b ∈ frs X.stack
    · obtain ⟨o', e1⟩ := un.there b o q (by simp)
      obtain ⟨sl, e2⟩ := frmv b hb o' e1
      exact ⟨_, e2⟩
    · obtain ⟨ob, e1⟩ := bs b o q hb
      exact ⟨ob, keepB b ob e1 fun z => hx (List.mem_singleton.mpr z)⟩
  · refine hok_stay hok fun b o ob hb q => ?_
    obtain ⟨ob', e1⟩ := bt b o hb
    have e2 := fl.1 b _ e1
    rw [q] at e2
    cases e2
    exact keepB b _ e1 (nHC b o hb)
  · obtain ⟨h1', h2'⟩ := hid b o hb
    exact keepB b o h1' h2'
  · refine frames_base hidN (frames_keep (fun b hm o hb hnf => ?_) ff)
    exact ⟨o, ((other b (noRecord b o hb hnf)).trans (sb.2 b fun z => hs (by rw [← z]; exact hm))).trans hb, rfl⟩
  · refine ⟨oe, vs, T, _, _, (other e (Ne.symm hTe)).trans he', hcl0, hd, h1v, hidN T hnT, hTe, Heap.get?_update_self _ hT' (Obj.isFreed_of_fields (Obj.data_mapFields hdT _)), Obj.data_mapFields hdT _, ?_⟩
    have hsz3 : 3 < ts.size := (Array.getElem?_eq_some_iff.mp h3).1
    simp [hsz3]
  · obtain ⟨ob, e1⟩ := bt b o hb
    exact ⟨ob, unh b ob e1 (nHC b o hb)⟩
  · exact unh b o (bk b o q n hb) hbC
  · obtain ⟨ob, e1⟩ := bs b o q hb
    exact ⟨ob, unh b ob e1 hbC⟩
end
end L3
set_option Elab.async false
set_option linter.all false
set_option autoImplicit false
set_option maxRecDepth 100000
namespace L3
open PySem PySem.Spec PyProof.Rows L2
def EBlk (X : Cx) (W : Addr → Hp → Prop) (s3 : Shared) (H3 : Hp) (scope : Scope) (ce : Env) (fp : List Addr) (ev : Value) (s' : Shared) : Prop :=
  ∃ pins σ H s e C H', ev = .ref e ∧ Inv (X.blk s3 H3 scope ce fp) pins σ H s ∧ FlyAt X.prog X.w X.stack H s H' e C s' ∧ W C H'
abbrev blkE (X : Cx) (W : Addr → Hp → Prop) (s : Shared) (H : Hp) (scope : Scope) (ce : Env) (fp : List Addr) : Cx := { X.blk s H scope ce fp with xe := EBlk X W s H scope ce fp }
theorem invE {X : Cx} {W : Addr → Hp → Prop} {s3 : Shared} {H3 : Hp} {scope : Scope} {ce : Env} {fp : List Addr} {pins : List (Addr × Obj)} {σ : St} {H : Hp} {s : Shared} (I : Inv (X.blk s3 H3 scope ce fp) pins σ H s) : Inv (blkE X W s3 H3 scope ce fp) pins σ H s :=
  ⟨⟨I.ok.mod, I.ok.kind, I.ok.glob, I.ok.blt, I.ok.above, I.ok.inj, I.ok.has, I.ok.cab, I.ok.hd, I.ok.frames, I.ok.stk, I.ok.exf, I.ok.bs, I.ok.bsz, I.ok.noex, I.ok.exfs, I.ok.funs, I.ok.frf⟩, I.os, I.bare, I.base, I.loc, I.cell, I.free, I.freeC, I.pin, I.hok, I.len⟩
theorem invB {X : Cx} {W : Addr → Hp → Prop} {s3 : Shared} {H3 : Hp} {scope : Scope} {ce : Env} {fp : List Addr} {pins : List (Addr × Obj)} {σ : St} {H : Hp} {s : Shared} (I : Inv (blkE X W s3 H3 scope ce fp) pins σ H s) : Inv (X.blk s3 H3 scope ce fp) pins σ H s :=
  ⟨⟨I.ok.mod, I.ok.kind, I.ok.glob, I.ok.blt, I.ok.above, I.ok.inj, I.ok.has, I.ok.cab, I.ok.hd, I.ok.frames, I.ok.stk, I.ok.exf, I.ok.bs, I.ok.bsz, I.ok.noex, I.ok.exfs, I.ok.funs, I.ok.frf⟩, I.os, I.bare, I.base, I.loc, I.cell, I.free, I.freeC, I.pin, I.hok, I.len⟩
section
variable {X : Cx}
def tLcX (wi : TI) (g : TG) (tt : TT) (te : TE) (tx : St → Hp → Prop) (vs : List Nat) : St → Hp → Prop := fun σ H => wi σ H fun J H1 => ∀ D, H1 D = none → ∃ W : Nat → Nat → Hp → Prop, (∃ m, W 0 m (upd H1 D (.lst []))) ∧ ∀ i m H, W i m H →
  (J.go i H ∧ ∃ Nx : Hp → Prop, (∀ H', Nx H' → ∃ m', m' < m ∧ W (i + 1) m' H') ∧ ∀ x H', J.yld i H x H' → g x (wipe σ vs) H' fun σ2 H2 => wipe σ2 vs = wipe σ vs ∧ tt σ2 H2 fun b H3 =>
    if b = true then (tx σ2 H3 ∨ te σ2 H3 fun y H4 => ∃ acc, H4 D = some (.lst acc) ∧ acc.length < sizeLine ∧ Nx (upd H4 D (.lst (acc ++ [y])))) else Nx H3)
theorem lcx_core {WX : Addr → Hp → Prop} {tx : St → Hp → Prop} {pins : List (Addr × Obj)} {s : Shared} {σ : St} {H : Hp} {elt tg iter : Expr} {ifs : List Expr} {scope : Scope} {own : List (Str × Nat)} {pos pos' : Pos} {wi : TI} {g : TG} {tt : TT} {te : TE}
    (xh : XHeld X WX) (hc : X.calm = true) (hN : X.N.Nodup) (I : Inv X pins σ H s) (hi : PI X tg iter wi) (ok : BlkOk X.N X.env.scope scope own)
    (hg : ∀ (s : Shared) (H : Hp) (C : Addr) (cl : List (Str × Addr)) (fp : List Addr), PG (X.blk s H scope (compEnvC scope cl C X.env) fp) tg g) (ht : ∀ (s : Shared) (H : Hp) (C : Addr) (cl : List (Str × Addr)) (fp : List Addr), PTs (X.blk s H scope (compEnvC scope cl C X.env) fp) ifs tt)
    (he : ∀ (s : Shared) (H : Hp) (C : Addr) (cl : List (Str × Addr)) (fp : List Addr), PE (X.blk s H scope (compEnvC scope cl C X.env) fp) elt te)
    (hxr : ∀ (s : Shared) (H : Hp) (C : Addr) (cl : List (Str × Addr)) (fp : List Addr), RE (blkE X WX s H scope (compEnvC scope cl C X.env) fp) elt tx) (hs : ∀ x, foldedSetIterable iter X.env x = pure x)
    (h : tLcX wi g tt te tx (own.map (·.2)) σ H) :
    wpAny (model X.prog X.w) X.A (comprehension (.ListComp elt [⟨tg, iter, ifs, 0⟩] scope pos) scope X.env pos' (newList []) false (eval iter X.env) none) (fun _ _ => False) X.xe s := by
  have hfree : ∀ y ∈ scope.names, y.2 = .free → ∃ c, X.env.cells.lookup y.1 = some c := fun y hy e => by
    rcases ok.free y hy e with k | k
    · exact I.ok.has _ (.inl k)
    · exact I.ok.has _ (.inr k)
  refine wpAny_comprehension_free (use := none) rfl hs (closure_ok hfree) ok.kind (fun y hy e => by rw [ok.uniq y hy, e])
    (thn (hi pins s σ H _ I h) fun xv s1 hx => thn hx fun itv s2 h2 => ?_)
  obtain ⟨it, fp, tn, J, H2, e, I2, T, st2, f2, q⟩ := h2
  subst e
  refine wpAny_newObj_type (newEnv_comp ?_) (by show 0 ≤ sizeLine; decide)
  generalize hD : s2.heap.objs.size = D
  have hDn : H2 D = none := I2.hok.fresh (Nat.le_of_eq hD)
  obtain ⟨W, ⟨m0, w0⟩, turn⟩ := q D hDn
  generalize hs3 : ({ s2 with heap := s2.heap.push { cls := .type "list", data := .seq ([] : List Value).toArray } } : Shared) = s3
  have I3 : Inv X pins σ (upd H2 D (.lst [])) s3 := by
    rw [← hs3]
    refine I2.laid (t' := s2.toks) (fun b o e => Heap.get?_push_of_some _ e) (Nat.le_of_eq hD) ⟨Nat.zero_le _, [], 0, .nil, ?_⟩
    rw [← hD]
    exact Heap.get?_push_size _ rfl
  have h3 : s3.heap = s2.heap.push { cls := .type "list", data := .seq ([] : List Value).toArray } := by rw [← hs3]
  have sz : ∀ b ∈ fp, b < s2.heap.objs.size := fun b hb => by
    obtain ⟨o, e, _⟩ := T.obj _ _ st2 b hb
    exact Heap.lt_size e
  have f3 : ∀ b ∈ fp, FpOk X pins (upd H2 D (.lst [])) b ∧ b < s3.heap.objs.size := fun b hb => by
    have hlt := sz b hb
    refine ⟨⟨?_, (f2 b hb).2⟩, by rw [h3, Heap.size_push]; exact Nat.lt_succ_of_lt hlt⟩
    rw [upd_ne (by rw [← hD]; exact Nat.ne_of_lt hlt)]
    exact (f2 b hb).1
  have st3 : tn 0 s3.heap := T.keep _ _ _ st2 fun b _ o e => by rw [h3]; exact Heap.get?_push_of_some _ e
  have I4 := block_start I3 ok hN f3
  have pg := hg s3 (upd H2 D (.lst [])) s3.heap.objs.size (cellsFrom (s3.heap.objs.size + 1) scope.names (cloFrom X.env.cells scope.names [])) fp
  have pt := ht s3 (upd H2 D (.lst [])) s3.heap.objs.size (cellsFrom (s3.heap.objs.size + 1) scope.names (cloFrom X.env.cells scope.names [])) fp
  have pe := he s3 (upd H2 D (.lst [])) s3.heap.objs.size (cellsFrom (s3.heap.objs.size + 1) scope.names (cloFrom X.env.cells scope.names [])) fp
  have px := hxr s3 (upd H2 D (.lst [])) s3.heap.objs.size (cellsFrom (s3.heap.objs.size + 1) scope.names (cloFrom X.env.cells scope.names [])) fp
  show codeAny _ _ (.compStart (.ListComp elt [⟨tg, iter, ifs, 0⟩] scope pos) 0 (.ref it) (.ref D) (compEnvC scope (cellsFrom (s3.heap.objs.size + 1) scope.names (cloFrom X.env.cells scope.names [])) s3.heap.objs.size X.env)) (compPost (model X.prog X.w) X.A X.xe none (fun _ _ => False) (.ref D) s3.heap.objs.size) { s3 with heap := pushCells (s3.heap.push { cls := .type "dict", data := .dict #[] }) scope.names }
  have nfp : ∀ b ∈ fp, (upd H2 D (.lst [])) b = none := fun b hb => (f3 b hb).1.1
  generalize hce : compEnvC scope (cellsFrom (s3.heap.objs.size + 1) scope.names (cloFrom X.env.cells scope.names [])) s3.heap.objs.size X.env = ce at I4 pg pt pe px ⊢
  have cL : ce.locals = s3.heap.objs.size := by subst hce; rfl
  have cF : ce.frame = X.env.frame := by subst hce; rfl
  generalize hH3 : upd H2 D (.lst []) = H3 at I3 I4 pg pt pe px w0 nfp f3
  generalize hs4 : ({ s3 with heap := pushCells (s3.heap.push { cls := .type "dict", data := .dict #[] }) scope.names } : Shared) = s4 at I4 ⊢
  have st4 : tn 0 s4.heap := T.keep _ _ _ st3 fun b _ o e => by rw [← hs4]; exact pushCells_keeps _ _ _ _ (Heap.get?_push_of_some _ e)
  have stat : ∀ {σ' : St} {H' : Hp} {s' : Shared}, Inv (X.blk s3 H3 scope ce fp) [] σ' H' s' → (∀ b ∈ fp, H' b = none) → ∀ b ∈ fp, FpOk (X.blk s3 H3 scope ce fp) [] H' b := fun {σ' H' s'} I' hn b hb =>
    ⟨hn b hb, (I'.ok.exf b hb).1, I'.ok.exfs b hb, .inl hb, fun x c e => (I'.ok.exf b hb).2 x c e, fun p hp => absurd (show p ∈ ([] : List (Addr × Obj)) ++ [] from hp) (by simp)⟩
  have loop : codeAny (model X.prog X.w) X.A (.compLoop (.ListComp elt [⟨tg, iter, ifs, 0⟩] scope pos) 0 (.ref it) (.ref D) ce) (compPost (model X.prog X.w) X.A X.xe none (fun _ _ => False) (.ref D) s3.heap.objs.size) s4 := by
    refine compLoop_any (fun n s' => ∃ i H', Inv (X.blk s3 H3 scope ce fp) [] (wipe σ (own.map (·.2))) H' s' ∧ tn i s'.heap ∧ (∀ b ∈ fp, H' b = none) ∧ W i n H') ?_ m0 ⟨0, H3, I4, st4, nfp, w0⟩
    rintro n s5 ⟨i, H5, I5, st5, n5, w5⟩
    have esc : ∀ ev s', EBlk X WX s3 H3 scope ce fp ev s' → notedBy (model X.prog X.w) X.A ce (fun e s' => compPost (model X.prog X.w) X.A X.xe none (fun _ _ => False) (.ref D) s3.heap.objs.size (.error e) s') ev s' := by
      rintro ev s' ⟨pinsb, σb, Hb, sb, eb, Cl, H', rfl, Ib, fa, hW⟩
      have Io : Inv X pins σ Hb sb := I3.call' (ch := fp) Ib.os Ib.base Ib.hok Ib.bare fun b hb => ⟨(f3 b hb).1.2.2.2.1, (f3 b hb).1.2.1, (f3 b hb).1.2.2.2.2.1, (f3 b hb).1.2.2.2.2.2⟩
      have nC : Hb s3.heap.objs.size = none := by
        have z : Hb ce.locals = none := Ib.free
        rw [cL] at z
        exact z
      obtain ⟨m, hn, _⟩ := Ib.loc
      have hn : sb.heap.Ns ce.locals m := hn
      rw [cL] at hn
      have hD' : X.s_0.heap.objs.size ≤ s3.heap.objs.size := by
        obtain ⟨m3, hn3, _⟩ := I3.loc
        obtain ⟨o3, _, _, ho3, _⟩ := hn3
        exact Nat.le_trans I3.ok.above (Nat.le_of_lt (Heap.lt_size ho3))
      have hs' : s3.heap.objs.size ∉ frs X.stack := fun z => by
        obtain ⟨_, o, ho, _⟩ := I3.stack.mem z
        exact Nat.lt_irrefl _ (Heap.lt_size ho)
      exact comp_raise xh Io cF hD' hn nC hs' fa hW
    obtain ⟨go, Nx, hNx, step⟩ := turn i n H5 w5
    have ti := T.item (X.blk s3 H3 scope ce fp) rfl rfl rfl hc i [] s5 _ H5 (fun _ _ => False) I5 (stat I5 n5) st5 go
    refine thnF ti fun r s6 ⟨u, hr, h6⟩ => ?_
    subst hr
    refine thnF h6 fun _ s7 ⟨x, H7, I7, r7, y7, st7, n7⟩ => ?_
    have I7' := I7.pinned (stat I7 n7) (T.obj _ _ st7)
    refine thnF (pg _ s7 _ H7 x u _ I7' r7 (step x H7 y7)) fun _ s8 ⟨σ8, H8, I8, hw8, q8⟩ => ?_
    refine thnF (pt _ s8 σ8 H8 _ I8 q8) fun b s9 ⟨H9, I9, q9⟩ => ?_
    have fin : ∀ {s' : Shared} {H' : Hp}, Inv (X.blk s3 H3 scope ce fp) ([] ++ pinsAt fp s7.heap) σ8 H' s' → Nx H' → ∃ m, m < n ∧ ∃ i H', Inv (X.blk s3 H3 scope ce fp) [] (wipe σ (own.map (·.2))) H' s' ∧ tn i s'.heap ∧ (∀ b ∈ fp, H' b = none) ∧ W i m H' := fun {s' H'} I' nx => by
      obtain ⟨m', hm, w'⟩ := hNx H' nx
      have pin' : ∀ b ∈ fp, ∀ o, s7.heap.get? b = some o → s'.heap.get? b = some o ∧ H' b = none := fun b hb o e =>
        let z := I'.pin (b, o) (List.mem_append_right _ (List.mem_append_right _ (mem_pinsAt hb e)))
        ⟨z.1, z.2.1⟩
      have hl : (wipe σ (own.map (·.2))).length = σ8.length := by rw [← hw8, wipe_length]
      refine ⟨m', hm, i + 1, H', (I'.unpinned (pins := [])).weak hl (fun j v e => ?_), T.keep _ _ _ st7 fun b hb o e => (pin' b hb o e).1, fun b hb => ?_, w'⟩
      · rw [← hw8] at e
        exact (wipe_some e).1
      · obtain ⟨o, e, _⟩ := T.obj _ _ st7 b hb
        exact (pin' b hb o e).2
    cases b with
    | false =>
      simp only [Bool.false_eq_true, if_false] at q9 ⊢
      exact fin I9 q9
    | true =>
      simp only [if_true] at q9 ⊢
      rcases q9 with q9 | q9
      · exact wpAny_mono (px _ s9 σ8 H9 (invE I9) q9) (fun _ _ z => z.elim) esc
      refine thnF (pe _ s9 σ8 H9 _ I9 q9) fun z s10 ⟨yv, H10, I10, r10, acc, hD10, hz10, nx⟩ => ?_
      exact app_ok (X := X.blk s3 H3 scope ce fp) I10 hD10 hz10 r10 fun s11 I11 => fin I11 nx
  exact codeAny_compStart_list loop (T.self X.A 0 _ _ _ st4 loop)
end
def loopX (body : D → Prop → Prop) : List D → Prop
  | [] => False
  | x :: xs => body x (loopX body xs)
def qLcX (qi : QI) (g : QG) (qt : QT) (qe : QE) (x : QX) (vs : List Nat) : QX := fun ρ q => qi ρ fun _ xs => xs.length ≤ sizeLine →
  loopX (fun y k => g y (wipeE ρ vs) fun ρ2 => qt ρ2 fun b => if b = true then x ρ2 q ∨ qe ρ2 fun r => (∃ d, r.fz = some d) ∧ k else k) xs
theorem lf_lcX {K : Frag} {W : Addr → Hp → Prop} {qi : QI} {g : QG} {qt : QT} {qe : QE} {x : QX} {vs : List Nat} : ∀ σ H, lfX K W (qLcX qi g qt qe x vs) σ H → tLcX (lfI K qi) (lfG K vs g) (lfT K qt) (lfE K qe) (lfX K W x) vs σ H := by
  rintro σ H ⟨tw, H0, F, ρ, q, st, rp, qq, k⟩
  refine ⟨tw, H0, F, ρ, _, st, rp, qq, fun fr xs J G F1 H1 s1 rp1 ok sG offG _ hlen q1 => ?_⟩
  have q1 := q1 hlen
  intro D hD
  have nTw := s1.st.notTw hD
  generalize hbody : (fun y k => g y (wipeE ρ vs) fun ρ2 => qt ρ2 fun b => if b = true then x ρ2 q ∨ qe ρ2 fun r => (∃ d, r.fz = some d) ∧ k else k : L3.D → Prop → Prop) = body at q1
  refine ⟨fun i m Hi => ∃ Fi acc accD, m = xs.length - i ∧ i ≤ xs.length ∧ acc.length ≤ i ∧ Stp tw F1 H1 Fi Hi ∧ Hi D = some (.lst acc) ∧ Fi D = none ∧ DvAll K tw Fi acc accD ∧ loopX body (xs.drop i),
    ⟨xs.length, F1, [], [], rfl, Nat.zero_le _, Nat.le_refl _, (Stp.refl s1.st).mut hD (s1.st.freeOf hD) nTw, upd_same, s1.st.freeOf hD, .nil, by simpa using q1⟩, ?_⟩
  rintro i m Hi ⟨Fi, acc, accD, rfl, hi, hacc, si, hDi, hFi, ha, hw⟩
  have okI := ok Fi Hi si.fz si.st (fun b o e => si.kp b o (sG b o e) fun z => by rw [offG b z] at e; cases e)
  have hlt : i < xs.length := by
    refine Nat.lt_of_not_le fun z => ?_
    rw [List.drop_eq_nil_of_le z] at hw
    exact hw
  obtain ⟨go, yl⟩ := okI.1 i xs[i] (List.getElem?_eq_getElem hlt)
  refine ⟨go, fun H' => ∃ Fi acc accD, i + 1 ≤ xs.length ∧ acc.length ≤ i + 1 ∧ Stp tw F1 H1 Fi H' ∧ H' D = some (.lst acc) ∧ Fi D = none ∧ DvAll K tw Fi acc accD ∧ loopX body (xs.drop (i + 1)), fun H' ⟨Fn, ac, acD, z1, z2, z3, z4, z5, z6, z7⟩ => ⟨xs.length - (i + 1), by omega, Fn, ac, acD, rfl, z1, z2, z3, z4, z5, z6, z7⟩, fun v H2 hy => ?_⟩
  obtain ⟨F2, s2, dv⟩ := yl v H2 hy
  rw [List.drop_eq_getElem_cons hlt] at hw
  have hw : body xs[i] (loopX body (xs.drop (i + 1))) := hw
  rw [← hbody] at hw
  have hD2 := s2.kp _ _ hDi nTw
  have hF2 := s2.nw _ _ hFi hDi (fun xs z => by cases z)
  refine ⟨tw, H0, F2, wipeE ρ vs, xs[i], _, s2.st, (((rp1.step si).step s2).wipe vs), dv, hw, fun σ2 ρ2 rp2 off2 q2 => ⟨wipe_off off2, ?_⟩⟩
  refine ⟨tw, H0, F2, ρ2, _, s2.st, rp2, q2, fun b F3 H3 s3 q3 => ?_⟩
  have hD3 := s3.kp _ _ hD2 nTw
  have hF3 := s3.nw _ _ hF2 hD2 (fun xs z => by cases z)
  cases b with
  | false => exact ⟨F3, acc, accD, hlt, by omega, (si.trans s2).trans s3, hD3, hF3, (ha.up s2.fz).up s3.fz, by rw [← hbody]; exact q3⟩
  | true =>
    rcases (show x ρ2 q ∨ qe ρ2 fun r => (∃ d, r.fz = some d) ∧ _ from q3) with q3 | q3
    · exact .inl ⟨tw, H0, F3, ρ2, q, s3.st, rp2.step s3, q3, fun C F' H' s' hq => k C F' H' (((s1.trans si).trans s2).trans (s3.trans s')) hq⟩
    · refine .inr ⟨tw, H0, F3, ρ2, _, s3.st, rp2.step s3, q3, fun y H4 p => ?_⟩
      obtain ⟨F4, r, s4, r4, ⟨d, e4⟩, q4⟩ := p
      obtain ⟨F5, s5, sm, rp5, dv5⟩ := frozen (rp2.step s3) s4 r4 e4
      have hD4 := s5.kp _ _ hD3 nTw
      have hF5 := s5.nw _ _ hF3 hD3 (fun xs z => by cases z)
      exact ⟨acc, hD4, by omega, F5, acc ++ [y], accD ++ [d], hlt, by rw [List.length_append]; simp; omega, (((si.trans s2).trans s3).trans s5).mut hD hF5 nTw, upd_same, hF5, (((ha.up s2.fz).up s3.fz).up s5.fz).append (.cons dv5 .nil), by rw [← hbody]; exact q4⟩
theorem dx_lc {X : Cx} {W : Addr → Hp → Prop} {elt tg iter : Expr} {ifs : List Expr} {scope : Scope} {own : List (Str × Nat)} {pos : Pos} {qi : QI} {g : QG} {qt : QT} {qe : QE} {x : QX} {vs : List Nat} (xh : XHeld X W) (hc : X.calm = true) (hN : X.N.Nodup) (hi : DI X tg iter qi) (ok : BlkOk X.N X.env.scope scope own)
    (hg : ∀ (s : Shared) (H : Hp) (C : Addr) (cl : List (Str × Addr)) (fp : List Addr), DG (X.blk s H scope (compEnvC scope cl C X.env) fp) tg vs g) (ht : ∀ (s : Shared) (H : Hp) (C : Addr) (cl : List (Str × Addr)) (fp : List Addr), DTs (X.blk s H scope (compEnvC scope cl C X.env) fp) ifs qt)
    (he : ∀ (s : Shared) (H : Hp) (C : Addr) (cl : List (Str × Addr)) (fp : List Addr), DE (X.blk s H scope (compEnvC scope cl C X.env) fp) elt qe) (hx : ∀ (s : Shared) (H : Hp) (C : Addr) (cl : List (Str × Addr)) (fp : List Addr), DX (blkE X W s H scope (compEnvC scope cl C X.env) fp) W elt x)
    (hv : own.map (·.2) = vs := by rfl) (hs : ∀ x, foldedSetIterable iter X.env x = pure x := by intro _; rfl) :
    DX X W (.ListComp elt [⟨tg, iter, ifs, 0⟩] scope pos) (qLcX qi g qt qe x vs) := by
  subst hv
  refine ⟨fun pins s σ H I h => ?_⟩
  rw [eval_ListComp]
  exact lcx_core xh hc hN I hi.pi ok (fun s H C cl fp => (hg s H C cl fp).pg) (fun s H C cl fp => (ht s H C cl fp).pts) (fun s H C cl fp => (he s H C cl fp).pe) (fun s H C cl fp => (hx s H C cl fp).re) hs (lf_lcX σ H h)
theorem dx_callC {X : Cx} {W : Addr → Hp → Prop} {s3 : Shared} {H3 : Hp} {scope : Scope} {ce : Env} {fp : List Addr} {k : Nat} {f : Addr} {fd : FuncData} {ps : List Str} {nm : Str} {c : CDX} {ds : List Value} {dvs : List V} {dds : List D} {e : Expr} {es : List Expr} {qs : QA} {p pos : Pos}
    (G : FnOk X.prog X.w X.K X.mg X.base (CX1 X.prog X.w) k f fd ps (spX X.K c)) (hr : Room k X.A) (hg : Gl (blkE X W s3 H3 scope ce fp) nm) (hm : X.mg nm = some (.ref f)) (hk : PySem.W.keepIn X.K (.ref f) = true) (hb : Binds X.K fd ps ds) (hd : Vals dvs ds) (hdd : ∀ tw F, DvAll X.K tw F dvs dds)
    (ha : DA (blkE X W s3 H3 scope ce fp) (e :: es) qs) (hdb : (nm == ("__debug__" : Str)) = false := by decide) (he : starEach (e :: es) ce = (false, eval e ce) :: starEach es ce := by rfl) (hpl : (backTo pos (starEach es ce)).any (·.1) = false := by rfl) :
    DX (blkE X W s3 H3 scope ce fp) W (.Call (.Name nm p) (e :: es) [] pos) (fun ρ q => qs ρ fun ds => ∃ C, c (ds ++ dds) C ∧ q C) := by
  refine ⟨fun pins s σ H I ⟨tw, H0, F, ρ, q, stt, rp, z, kk⟩ => ?_⟩
  have hx : Passes (CX1 X.prog X.w) (blkE X W s3 H3 scope ce fp) (fun c d H' => ∃ C, c = .ref C ∧ W C H') := fun pins σ H s e s' I ⟨e', C, H', ee, fa, C', eC, hW⟩ => by
    cases eC
    rw [ee]
    exact ⟨pins, σ, H, s, e', C, H', rfl, invB I, fa, hW⟩
  refine thn (pe_call (X := blkE X W s3 H3 scope ce fp) G hr hg hm hk hb hd hx ha.pa hdb he hpl pins s σ H (fun _ _ => False) I ?_) fun _ _ ⟨_, _, _, _, z⟩ => z
  refine ⟨tw, H0, F, ρ, _, stt, rp, z, fun vs ds1 F1 H1 s1 a1 q1 => ?_⟩
  obtain ⟨C, hc, hq⟩ := q1
  exact ⟨tw, F1, ds1 ++ dds, C, s1.st, a1.append (hdd tw F1), hc, fun F' H' s' => ⟨C, rfl, kk C F' H' (s1.trans s') hq⟩⟩
end L3
set_option Elab.async false
set_option linter.all false
set_option autoImplicit false
set_option maxRecDepth 100000
namespace L3
open PySem PySem.Spec PyProof.Rows L2
def digS (i : Nat) : Str := ⟨#[48 + i]⟩
theorem dig_text : ∀ i : Fin 10, (toString ((i.val : Nat) : Int) : Str) = digS i.val := by decide +kernel
theorem dig_int : ∀ i : Fin 10, PySem.intText? (digS i.val) = some ((i.val : Nat) : Int) := by decide +kernel
theorem dig_str {i : Nat} (h : i < 10) : (toString ((i : Nat) : Int) : Str) = digS i := dig_text ⟨i, h⟩
theorem dig_of {i : Nat} (h : i < 10) : PySem.intText? (digS i) = some ((i : Nat) : Int) := dig_int ⟨i, h⟩
theorem dig_log : ∀ i : Fin 10, (((i.val : Nat) : Int)).natAbs.log2 < 1920 := by decide +kernel
theorem dig_len (i : Nat) : (digS i).length = 1 := rfl
theorem empty_app (x : Str) : Str.empty ++ x = x := Str.ext' (Array.toList_inj.mp (by show (Str.empty.cps ++ x.cps).toList = _; rw [Array.toList_append]; rfl))
theorem nodup_inr : ∀ {l : List Str}, l.Nodup → (l.map fun x => (Sum.inr x : Key)).Nodup
  | [], _ => .nil
  | a :: l, h => by
    rw [List.nodup_cons] at h
    rw [List.map_cons, List.nodup_cons]
    refine ⟨fun z => ?_, nodup_inr h.2⟩
    obtain ⟨b, hb, e⟩ := List.mem_map.mp z
    rw [Sum.inr.inj e] at hb
    exact h.1 hb
section
variable {X : Cx} {a b : Expr} {ta tb : TE} {y : Str} {j : Nat} {p1 p2 p3 pos : Pos}
theorem str_app_len (a b : Str) : (a ++ b).length = a.length + b.length := by
  show (a.cps ++ b.cps).size = a.cps.size + b.cps.size
  exact Array.size_append
def tFs3 (y : Str) (ta tb : TE) : TE := fun σ H Q => ta σ H fun x H1 => ∃ i : Nat, x = .int (i : Nat) ∧ i < 10 ∧ y.length ≤ 1000 ∧ tb σ H1 fun z H2 => ∃ k : Nat, z = .int (k : Nat) ∧ k < 10 ∧ Q (.str (digS i ++ y ++ digS k)) H2
theorem pe_fs3 (ha : PE X a ta) (hb : PE X b tb) (hev : evalEach [.FormattedValue a (-1) none p1, .Constant (.str y) j p2, .FormattedValue b (-1) none p3] X.env = [eval (.FormattedValue a (-1) none p1) X.env, eval (.Constant (.str y) j p2) X.env, eval (.FormattedValue b (-1) none p3) X.env]) :
    PE X (.JoinedStr [.FormattedValue a (-1) none p1, .Constant (.str y) j p2, .FormattedValue b (-1) none p3] pos) (tFs3 y ta tb) := by
  intro pins s σ H Q I h
  have hsl : sizeLine = 16777216 := sizeLine_eq
  refine wpAny_JoinedStr ?_
  rw [hev]
  refine wpAny_FormattedValue_plain (thn (ha pins s σ H _ I h) fun v s1 ⟨x, H1, I1, r1, i, ex, hi, hy, q1⟩ => ?_)
  subst ex
  obtain ⟨t1, rfl⟩ := r1
  refine wpAny_formatField_int (dig_log ⟨i, hi⟩) ?_
  refine ⟨_, _, rfl, ?_, ?_⟩
  · rw [dig_str hi, str_app_len, dig_len]
    show 0 + 1 ≤ _
    omega
  rw [dig_str hi, empty_app]
  refine Calls.Constant_str ⟨_, _, rfl, ?_, ?_⟩
  · rw [str_app_len, dig_len]; omega
  refine wpAny_FormattedValue_plain (thn (hb pins _ σ H1 _ (((I1.tok _).tok _)) q1) fun v2 s2 ⟨z, H2, I2, r2, k, ez, hk, q2⟩ => ?_)
  subst ez
  obtain ⟨t2, rfl⟩ := r2
  refine wpAny_formatField_int (dig_log ⟨k, hk⟩) ?_
  rw [dig_str hk]
  refine ⟨_, _, rfl, ?_, ?_, ?_⟩
  · rw [str_app_len, str_app_len, dig_len, dig_len]; omega
  · rw [str_app_len, str_app_len, dig_len, dig_len]; omega
  · exact ⟨.str _, H2, (((I2.tok _).tok _)).tok _, ⟨_, rfl⟩, q2⟩
def qFs3 (y : Str) (qa qb : QE) : QE := fun ρ Q => qa ρ fun x => ∃ i : Nat, x.d = .int (i : Nat) ∧ i < 10 ∧ y.length ≤ 1000 ∧ qb ρ fun z => ∃ k : Nat, z.d = .int (k : Nat) ∧ k < 10 ∧ Q (.dat (.str (digS i ++ y ++ digS k)))
theorem de_fs3 {qa qb : QE} (ha : DE X a qa) (hb : DE X b qb) (hev : evalEach [.FormattedValue a (-1) none p1, .Constant (.str y) j p2, .FormattedValue b (-1) none p3] X.env = [eval (.FormattedValue a (-1) none p1) X.env, eval (.Constant (.str y) j p2) X.env, eval (.FormattedValue b (-1) none p3) X.env] := by rfl) :
    DE X (.JoinedStr [.FormattedValue a (-1) none p1, .Constant (.str y) j p2, .FormattedValue b (-1) none p3] pos) (qFs3 y qa qb) := by
  refine ⟨PE.imp (pe_fs3 ha.pe hb.pe hev) ?_⟩
  rintro σ H QQ ⟨tw, H0, F, ρ, Q, st, rp, q, kk⟩
  refine ⟨tw, H0, F, ρ, _, st, rp, q, fun v H1 p => ?_⟩
  obtain ⟨F1, x, s1, r1, i, e1, hi, hy, q1⟩ := p
  refine ⟨i, r1.int e1, hi, hy, tw, H0, F1, ρ, _, s1.st, rp.step s1, q1, fun u H2 p => ?_⟩
  obtain ⟨F2, z, s2, r2, k, e2, hk, q2⟩ := p
  exact ⟨k, r2.int e2, hk, kk _ _ ((post_here s2.st (.dat (.str _)) q2).pre (s1.trans s2))⟩
def dStrN : RD1 := fun x Q => ∃ i : Nat, x.d = .int (i : Nat) ∧ i < 10 ∧ Q (.dat (.str (digS i)))
theorem de_strN {e : Expr} {p : Pos} {qa : QE} (hm : X.mg "str" = none) (ha : DE X e qa) (hg : Gl X "str" := by rfl) (he : starEach [e] X.env = (false, eval e X.env) :: starEach [] X.env := by rfl) : DE X (.Call (.Name "str" p) [e] [] pos) (qB1 dStrN qa) :=
  de_ty1 call_str_int (by
    rintro tw Hs F H v x Q QQ st r1 ⟨i, e, hi, q⟩ k
    refine ⟨_, by rw [r1.int e], dig_log ⟨i, hi⟩, k _ _ (post_here st (.dat ?_) q)⟩
    rw [dig_str hi]
    exact .str _) hg hm (by decide +kernel) ha (he := he)
def dIntN : RD1 := fun x Q => ∃ i : Nat, x.d = .str (digS i) ∧ i < 10 ∧ Q (.dat (.int (i : Nat)))
theorem de_intN {e : Expr} {p : Pos} {qa : QE} (hm : X.mg "int" = none) (ha : DE X e qa) (hg : Gl X "int" := by rfl) (he : starEach [e] X.env = (false, eval e X.env) :: starEach [] X.env := by rfl) : DE X (.Call (.Name "int" p) [e] [] pos) (qB1 dIntN qa) :=
  de_ty1 call_int_str (by
    rintro tw Hs F H v x Q QQ st r1 ⟨i, e, hi, q⟩ k
    exact ⟨_, _, by rw [r1.str e], dig_of hi, by rw [dig_len]; omega, k _ _ (post_here st (.dat (.int _)) q)⟩) hg hm (by decide +kernel) ha (he := he)
end
def pairS (kd : Str × D) : D := .tup [.str kd.1, kd.2]
theorem mergeK_new : ∀ (kvs acc : List (Key × V)), ((acc ++ kvs).map (·.1)).Nodup → mergeK acc kvs = acc ++ kvs
  | [], acc, _ => by rw [List.append_nil]; rfl
  | kv :: kvs, acc, h => by
    have hk : ¬ (acc.any fun x => decide (x.1 = kv.1)) = true := fun z => by
      obtain ⟨x, hx, e⟩ := List.any_eq_true.mp z
      rw [List.map_append, List.map_cons] at h
      exact (List.nodup_append.mp h).2.2 x.1 (List.mem_map_of_mem hx) kv.1 List.mem_cons_self (of_decide_eq_true e)
    have e : putK acc kv.1 kv.2 = acc ++ [kv] := by
      unfold putK
      rw [if_neg hk]
    show mergeK (putK acc kv.1 kv.2) kvs = _
    rw [e, mergeK_new kvs (acc ++ [kv]) (by rw [List.append_assoc]; exact h), List.append_assoc]
    rfl
theorem pairsS {K : Frag} {tw : Tw} {F : Hp} : ∀ {kds : List (Str × D)} {us : List V}, DvAll K tw F us (kds.map pairS) → ∃ (ps : List Addr) (vs : List V), us = ps.map V.ref ∧ vs.length = kds.length ∧ Paired (fun p (kv : Key × V) => F p = some (.tup [kV kv.1, kv.2])) ps ((kds.map fun kd => (Sum.inr kd.1 : Key)).zip vs) ∧ DvAll K tw F vs (kds.map (·.2))
  | [], us, h => by
    rw [List.map_nil] at h
    cases h
    exact ⟨[], [], rfl, rfl, .nil, .nil⟩
  | kd :: kds, us, h => by
    rw [List.map_cons] at h
    cases h with
    | cons h t =>
      obtain ⟨ps, vs, e, hl, h1, h2⟩ := pairsS t
      obtain ⟨a, us2, rfl, g1, g2⟩ := Rv.tup (Hs := F) (H := F) (r := .dat (pairS kd)) (.dat h) rfl
      cases g2 with
      | cons g3 g4 =>
        cases g4 with
        | cons g5 g6 =>
          cases g6
          have g3' := Rv.str (Hs := F) (H := F) (r := .dat (.str kd.1)) (.dat g3) rfl
          subst g3'
          exact ⟨a :: ps, _ :: vs, by rw [e]; rfl, by rw [List.length_cons, List.length_cons, hl], .cons g1 h1, .cons g5 h2⟩
def dDictS : RD1 := fun x Q => ∃ kds : List (Str × D), x.d = .lst (kds.map pairS) ∧ (kds.map (·.1)).Nodup ∧ Q (.fresh (.dK (kds.map fun kd => Sum.inr kd.1) (kds.map (·.2))))
theorem post_dK {K : Frag} {tw : Tw} {F H : Hp} {Q : R → Prop} {p : Addr} {ks : List Key} {us : List V} {ds : List D} (st : Stt tw F H) (hl : ks.length = us.length) (a : DvAll K tw F us ds) (h : H p = none) (q : Q (.fresh (.dK ks ds))) : Post K tw F H Q (.ref p) (upd H p (.dK (ks.zip us))) := by
  have s := Stp.alloc (o := HO.dK (ks.zip us)) st h
  refine ⟨_, _, s, .fresh h ?_ upd_same (st.notTw h) (.dK hl a), q⟩
  cases e : F p with
  | none => rfl
  | some o => have := st.sub p o e; rw [h] at this; cases this
theorem de_dictS {X : Cx} {p pos : Pos} {e : Expr} {qa : QE} (hc : X.calm = true) (hm : X.mg "dict" = none) (ha : DE X e qa) (hg : Gl X "dict" := by rfl) (he : starEach [e] X.env = (false, eval e X.env) :: starEach [] X.env := by rfl) : DE X (.Call (.Name "dict" p) [e] [] pos) (qB1 dDictS qa) :=
  de_ty1 (call_dictP hc) (by
    rintro tw Hs F H v x Q QQ st r1 ⟨kds, e, hnd, q⟩ k
    obtain ⟨a, us, rfl, h1, h2⟩ := r1.lst st.sub e
    obtain ⟨ps, vs, rfl, hl, h3, h4⟩ := pairsS h2
    have hl2 : (kds.map fun kd => (Sum.inr kd.1 : Key)).length = vs.length := by rw [List.length_map, hl]
    refine ⟨a, ps, (kds.map fun kd => (Sum.inr kd.1 : Key)).zip vs, rfl, h1, Paired.mapQ (fun p kv g => .inl (.inl (st.sub _ _ g))) h3, fun p hp => ?_⟩
    have hz : ((kds.map fun kd => (Sum.inr kd.1 : Key)).zip vs).map (·.1) = kds.map fun kd => (Sum.inr kd.1 : Key) := List.map_fst_zip (Nat.le_of_eq hl2)
    have e2 : mergeK [] ((kds.map fun kd => (Sum.inr kd.1 : Key)).zip vs) = (kds.map fun kd => (Sum.inr kd.1 : Key)).zip vs := by
      refine mergeK_new _ [] ?_
      rw [List.nil_append, hz]
      have := nodup_inr hnd
      rw [List.map_map] at this
      exact this
    rw [e2]
    exact k _ _ (post_dK st hl2 h4 hp q)) hg hm (by decide +kernel) ha (he := he)
def hasS (ks : List Str) (k : Str) : Bool := ks.any fun x => decide (x = k)
def lookS (ks : List Str) (vs : List D) (k : Str) : Option D := ((ks.zip vs).find? fun p => decide (p.1 = k)).map (·.2)
theorem val_S {k : Str} : ∀ {ks : List Str} {us : List V}, ks.length = us.length → (valV ((ks.map fun k => (Sum.inr k : Key)).zip us) (.inr k)).isSome = hasS ks k
  | [], _, _ => rfl
  | _ :: _, [], hl => by cases hl
  | k1 :: ks, u :: us, hl => by
    have ih := val_S (k := k) (ks := ks) (us := us) (by simpa using hl)
    by_cases h : k1 = k
    · subst h
      rw [List.map_cons, List.zip_cons_cons, valV_pos rfl]
      simp [hasS]
    · rw [List.map_cons, List.zip_cons_cons, valV_neg (fun z => h (Sum.inr.inj z)), ih]
      simp [hasS, h]
theorem look_S {K : Frag} {tw : Tw} {F : Hp} {k : Str} {d : D} : ∀ {ks : List Str} {us : List V} {vs : List D}, ks.length = us.length → DvAll K tw F us vs → lookS ks vs k = some d → ∃ v, valV ((ks.map fun k => (Sum.inr k : Key)).zip us) (.inr k) = some v ∧ Dv K tw F v d
  | [], _, _, _, _, h => by cases h
  | _ :: _, [], _, hl, _, _ => by cases hl
  | k1 :: ks, u :: us, _, hl, .cons hv ht, h => by
    rename_i d1 vs
    by_cases hk : k1 = k
    · subst hk
      refine ⟨u, by rw [List.map_cons, List.zip_cons_cons, valV_pos rfl], ?_⟩
      have : d1 = d := by simpa [lookS] using h
      rw [← this]; exact hv
    · have h' : lookS ks vs k = some d := by simpa [lookS, hk] using h
      obtain ⟨v, e1, e2⟩ := look_S (by simpa using hl) ht h'
      exact ⟨v, by rw [List.map_cons, List.zip_cons_cons, valV_neg (fun z => hk (Sum.inr.inj z))]; exact e1, e2⟩
section
variable {X : Cx} {i o : Expr} {qk qd : QE} {pos : Pos} {n : Nat}
def qNotInS (qk qd : QE) : QT := fun ρ Q => qk ρ fun rk => qd ρ fun rd => ∃ k ks vs, rk.d = .str k ∧ rd.d = .dK (ks.map fun k => Sum.inr k) vs ∧ Q (!hasS ks k)
theorem dt_dnotinS (hr : Room n X.A) (hk : DE X i qk) (hd : DE X o qd) (hm : behindInMarks .NotIn o = false := by with_unfolding_all rfl) : DT X (.Compare i [.NotIn] [o] pos) (qNotInS qk qd) := by
  refine ⟨PT.imp (pt_cmp (pc_dnotin (hu_of hr) hk.pe hd.pe) hm) ?_⟩
  rintro σ H QQ ⟨tw, H0, F, ρ, Q, st, rp, q, k⟩
  refine lf_two st rp q fun v u x y F2 H2 s2 r1 r2 p => ?_
  obtain ⟨kk, ks, vs, e1, e2, q2⟩ := p
  obtain ⟨a, us, rfl, hR, hl, ha⟩ := r2.dK s2.st.sub e2
  have hl' : ks.length = us.length := by rw [List.length_map] at hl; exact hl
  refine ⟨a, _, rfl, .inl ⟨_, .inr kk, hR, r1.str e1, rfl⟩, _, rfl, ?_⟩
  rw [val_S hl']
  exact k _ _ _ s2 q2
def qDGetS (qd qk : QE) : QE := fun ρ Q => qd ρ fun rd => qk ρ fun rk => ∃ k ks vs d, rk.d = .str k ∧ rd.d = .dK (ks.map fun k => Sum.inr k) vs ∧ lookS ks vs k = some d ∧ Q (.dat d)
theorem de_dgetS (hr : Room n X.A) (hd : DE X o qd) (hk : DE X i qk) (hs : NoSl i := by intro _ _; rfl) : DE X (.Subscript o i pos) (qDGetS qd qk) := by
  refine ⟨PE.imp (pe_dget (hu_of hr) hd.pe hk.pe hs) ?_⟩
  rintro σ H QQ ⟨tw, H0, F, ρ, Q, st, rp, q, k⟩
  refine lf_two st rp q fun u v y x F2 H2 s2 r2 r1 p => ?_
  obtain ⟨kk, ks, vs, d, e1, e2, el, q2⟩ := p
  obtain ⟨a, us, rfl, hR, hl, ha⟩ := r2.dK s2.st.sub e2
  have hl' : ks.length = us.length := by rw [List.length_map] at hl; exact hl
  obtain ⟨z, ez, dz⟩ := look_S hl' ha el
  exact ⟨a, z, rfl, .inl ⟨_, .inr kk, hR, r1.str e1, ez.symm⟩, k _ _ ((post_here s2.st (.dat dz) q2).pre s2)⟩
end
end L3
set_option Elab.async false
set_option linter.all false
set_option autoImplicit false
set_option maxRecDepth 100000
namespace L3
open PySem PySem.Spec PyProof.Rows L2
def parseW (w : Str) : Option (Nat × Nat) := match w.cps.toList with
  | [a, b, c] => if 48 ≤ a ∧ a < 52 ∧ b = 64 ∧ 48 ≤ c ∧ c < 58 then some (a - 48, c - 48) else none
  | _ => none
def atS : Str := Str.ofString "@"
theorem at_is : atS = ⟨#[64]⟩ := by decide
def wdS (p : Nat × Nat) : Str := digS p.1 ++ atS ++ digS p.2
def Ok1 (p : Nat × Nat) : Prop := p.1 < 4 ∧ p.2 < 10
theorem wd_cps (p : Nat × Nat) : (wdS p).cps.toList = [48 + p.1, 64, 48 + p.2] := by
  unfold wdS
  rw [at_is]
  show ((#[48 + p.1] ++ #[64]) ++ #[48 + p.2] : Array Nat).toList = _
  simp
theorem wd_len (p : Nat × Nat) : (wdS p).length = 3 := by
  have := congrArg List.length (wd_cps p)
  simpa [Str.length] using this
theorem parse_wd {p : Nat × Nat} (h : Ok1 p) : parseW (wdS p) = some p := by
  unfold parseW
  rw [wd_cps]
  obtain ⟨h1, h2⟩ := h
  simp only
  rw [if_pos ⟨by omega, by omega, by first | rfl | trivial, by omega, by omega⟩, show 48 + p.1 - 48 = p.1 by omega, show 48 + p.2 - 48 = p.2 by omega]
theorem parse_some {w : Str} {p : Nat × Nat} (h : parseW w = some p) : Ok1 p ∧ w = wdS p := by
  unfold parseW at h
  split at h
  · rename_i a b c e
    split at h
    · rename_i hc
      obtain ⟨h1, h2, h3, h4, h5⟩ := hc
      cases h
      refine ⟨⟨by show a - 48 < 4; omega, by show c - 48 < 10; omega⟩, str_ext ?_⟩
      rw [wd_cps, e, h3]
      show _ = [48 + (a - 48), 64, 48 + (c - 48)]
      rw [show 48 + (a - 48) = a by omega, show 48 + (c - 48) = c by omega]
    · cases h
  · cases h
def allP : List Str → Option (List (Nat × Nat))
  | [] => some []
  | w :: ws => match parseW w, allP ws with
    | some p, some ps => some (p :: ps)
    | _, _ => none
def spS : Str := Str.ofString " "
theorem sp_is : spS = ⟨#[32]⟩ := by decide
def readPl (z : Str) : Option (List (Nat × Nat)) := if z.length = 0 then some [] else allP (Txt.split z spS)
def drD (p : Nat × Nat) : D := .tup [.int (p.1 : Nat), .int (p.2 : Nat)]
def plnD (ps : List (Nat × Nat)) : D := .tup (ps.map drD)
def lineP (ps : List (Nat × Nat)) : Str := Txt.join spS (ps.map wdS)
def toldP (ps : List (Nat × Nat)) : D := .tup [.str (Str.ofString "told"), plnD ps]
def meantD (z : Str) : D := match readPl z with
  | some ps => toldP ps
  | none => ntD
theorem allP_map : ∀ {ps : List (Nat × Nat)}, (∀ p ∈ ps, Ok1 p) → allP (ps.map wdS) = some ps
  | [], _ => rfl
  | p :: ps, h => by
    rw [List.map_cons, allP, parse_wd (h p List.mem_cons_self), allP_map fun q hq => h q (List.mem_cons_of_mem _ hq)]
theorem wd_free (p : Nat × Nat) : 32 ∉ (wdS p).cps.toList := by
  rw [wd_cps]
  simp
  omega
theorem line_ne {ps : List (Nat × Nat)} (h : ps ≠ []) : 3 ≤ (lineP ps).length := by
  cases ps with
  | nil => exact absurd rfl h
  | cons p ps =>
    have := (mem_join (sep := spS) (p := wdS p) (ps := (p :: ps).map wdS) List.mem_cons_self).2
    rw [wd_len] at this
    have e : lineP (p :: ps) = Str.join spS ((p :: ps).map wdS) := StrLaws.glued_eq_join _ _
    rw [e]
    exact this
theorem read_plan_line {ps : List (Nat × Nat)} (h : ∀ p ∈ ps, Ok1 p) : readPl (lineP ps) = some ps := by
  unfold readPl
  by_cases hp : ps = []
  · subst hp; rfl
  · have := line_ne hp
    rw [if_neg (by omega)]
    unfold lineP
    rw [sp_is, split_join (by simpa using hp) fun y hy => by
      obtain ⟨p, _, rfl⟩ := List.mem_map.mp hy
      exact wd_free p, allP_map h]
theorem wd_ok {p : Nat × Nat} (h : Ok1 p) : StrOk (wdS p) := by
  unfold StrOk
  rw [← Array.all_toList, wd_cps]
  obtain ⟨h1, h2⟩ := h
  simp
  omega
theorem join_ok {sep : Str} (h3 : StrOk sep) : ∀ ps : List Str, (∀ p ∈ ps, StrOk p) → StrOk (Str.join sep ps) := fun ps => by
  induction ps with
  | nil => intro _; unfold StrOk; rw [Array.all_eq_true_iff_forall_mem]; intro c hc; have hc : c ∈ (#[] : Array Nat) := hc; simp at hc
  | cons p ps ih =>
    intro hp
    cases ps with
    | nil => exact hp p List.mem_cons_self
    | cons q ps =>
      have h1 := hp p List.mem_cons_self
      have h2 := ih fun x hx => hp x (List.mem_cons_of_mem _ hx)
      unfold StrOk at *
      rw [Array.all_eq_true_iff_forall_mem] at *
      intro c hc
      have hc : c ∈ (Str.join sep (p :: q :: ps)).cps.toList := by simpa using hc
      rw [toList_join _ p (q :: ps) (by simp)] at hc
      rcases List.mem_append.mp hc with hc | hc
      · exact h1 c (by simpa using hc)
      · rcases List.mem_append.mp hc with hc | hc
        · exact h3 c (by simpa using hc)
        · exact h2 c (by simpa using hc)
theorem wd_sum (ps : List (Nat × Nat)) : ((ps.map wdS).map (·.length)).sum = 3 * ps.length := by
  induction ps with
  | nil => rfl
  | cons p ps ih => rw [List.map_cons, List.map_cons, List.sum_cons, ih, wd_len, List.length_cons]; omega
theorem sp_len : spS.length = 1 := by decide
theorem linep_in {ps : List (Nat × Nat)} (h : ∀ p ∈ ps, Ok1 p) (hl : ps.length ≤ 10) : (lineP ps).length ≤ 40 ∧ StrOk (lineP ps) := by
  have ej : lineP ps = Str.join spS (ps.map wdS) := StrLaws.glued_eq_join _ _
  rw [ej]
  constructor
  · have := StrLaws.join_length_le spS (ps.map wdS)
    rw [wd_sum, List.length_map, sp_len] at this
    omega
  · exact join_ok (sok_lit (by decide)) _ fun p hp => by
      obtain ⟨q, hq, rfl⟩ := List.mem_map.mp hp
      exact wd_ok (h q hq)
theorem split_in {z p : Str} (h : TxIn z) (hp : p ∈ Txt.split z spS) : TxIn p := by
  obtain ⟨h1, h2⟩ := split_part hp
  exact ⟨Nat.le_trans h2 h.few, strOk_sub h.ok h1⟩
theorem flat_dr (p : Nat × Nat) : Flat 1 (drD p) := flat_tup (n := 0) (by simp; exact ⟨flat_int _, flat_int _⟩)
theorem flat_plan (ps : List (Nat × Nat)) : Flat 2 (plnD ps) := flat_tup (n := 1) fun d hd => by
  obtain ⟨p, _, rfl⟩ := List.mem_map.mp hd
  exact flat_dr p
theorem ok_plan (ps : List (Nat × Nat)) : (plnD ps).ok := (flat_plan ps).ok (by decide)
theorem ok_toldP (ps : List (Nat × Nat)) : (toldP ps).ok := (flat_tup (n := 2) (by simp; exact ⟨flat_told.up (by decide), flat_plan ps⟩)).ok (by decide)
theorem ok_meant (z : Str) : (meantD z).ok := by
  unfold meantD
  split
  · exact ok_toldP _
  · exact ok_nt
def good40 : List (Nat × Nat) := (List.range 40).map fun i => (i / 10, i % 10)
theorem good_all {p : Nat × Nat} : p ∈ good40 ↔ Ok1 p := by
  unfold good40
  rw [List.mem_map]
  constructor
  · rintro ⟨i, hi, rfl⟩
    have := List.mem_range.mp hi
    exact ⟨by show i / 10 < 4; omega, by show i % 10 < 10; omega⟩
  · rintro ⟨h1, h2⟩
    obtain ⟨a, b⟩ := p
    simp only at h1 h2
    refine ⟨a * 10 + b, List.mem_range.mpr (by omega), ?_⟩
    rw [show (a * 10 + b) / 10 = a by omega, show (a * 10 + b) % 10 = b by omega]
theorem wd_inj {p q : Nat × Nat} (h : wdS p = wdS q) : p = q := by
  have := congrArg (fun s : Str => s.cps.toList) h
  simp only [wd_cps] at this
  obtain ⟨a, b⟩ := p
  obtain ⟨c, d⟩ := q
  simp at this
  rw [this.1, this.2]
theorem good_nd : (good40.map wdS).Nodup := by
  have h : good40.Nodup := by decide +kernel
  unfold List.Nodup at h ⊢
  rw [List.pairwise_map]
  exact h.imp fun hne e => hne (wd_inj e)
theorem hasS_good (w : Str) : hasS (good40.map wdS) w = (parseW w).isSome := by
  refine Bool.eq_iff_iff.mpr ?_
  unfold hasS
  rw [List.any_eq_true, Option.isSome_iff_exists]
  constructor
  · rintro ⟨x, hx, e⟩
    obtain ⟨p, hp, rfl⟩ := List.mem_map.mp hx
    rw [← of_decide_eq_true e]
    exact ⟨p, parse_wd (good_all.mp hp)⟩
  · rintro ⟨p, hp⟩
    obtain ⟨h1, rfl⟩ := parse_some hp
    exact ⟨_, List.mem_map_of_mem (good_all.mpr h1), decide_eq_true rfl⟩
theorem lookS_map {f : Nat × Nat → D} : ∀ {ps : List (Nat × Nat)} {p : Nat × Nat}, p ∈ ps → lookS (ps.map wdS) (ps.map f) (wdS p) = some (f p)
  | [], p, h => by cases h
  | a :: ps, p, h => by
    unfold lookS
    rw [List.map_cons, List.map_cons, List.zip_cons_cons, List.find?_cons]
    by_cases e : a = p
    · subst e
      rw [decide_eq_true rfl]
      rfl
    · have e' : decide (wdS a = wdS p) = false := decide_eq_false fun z => e (wd_inj z)
      simp only [e']
      rcases List.mem_cons.mp h with h | h
      · exact absurd h.symm e
      · exact lookS_map h
theorem allP_none : ∀ {ws : List Str}, allP ws = none ↔ ∃ w ∈ ws, parseW w = none
  | [] => ⟨(fun h => by cases h), (fun ⟨w, h, _⟩ => by cases h)⟩
  | w :: ws => by
    unfold allP
    constructor
    · intro h
      split at h
      · cases h
      · rename_i hx
        cases hp : parseW w with
        | none => exact ⟨w, List.mem_cons_self, hp⟩
        | some p =>
          cases hq : allP ws with
          | none =>
            obtain ⟨v, hv, e⟩ := allP_none.mp hq
            exact ⟨v, List.mem_cons_of_mem _ hv, e⟩
          | some ps => exact absurd hq (hx p ps hp)
    · rintro ⟨v, hv, e⟩
      split
      · rename_i p ps hp hq
        rcases List.mem_cons.mp hv with rfl | hv
        · rw [hp] at e; cases e
        · rw [allP_none.mpr ⟨v, hv, e⟩] at hq; cases hq
      · rfl
def cDropR : CD := fun ds Q => ∃ (w : Str) (p : Nat × Nat), ds = [.str w] ∧ TxIn w ∧ parseW w = some p ∧ Q (drD p)
def cDropRX (CN : Addr) : CDX := fun ds C => ∃ w : Str, ds = [.str w] ∧ TxIn w ∧ parseW w = none ∧ C = CN
def cReadP : CD := fun ds Q => ∃ (z : Str) (ps : List (Nat × Nat)), ds = [.str z] ∧ TxIn z ∧ readPl z = some ps ∧ Q (plnD ps)
def cReadPX (CN : Addr) : CDX := fun ds C => ∃ z : Str, ds = [.str z] ∧ TxIn z ∧ readPl z = none ∧ C = CN
def cPlanT : CD := fun ds Q => ∃ ps : List (Nat × Nat), ds = [plnD ps] ∧ (∀ p ∈ ps, Ok1 p) ∧ ps.length ≤ 10 ∧ Q (.str (lineP ps))
def cMeantP : CD := fun ds Q => ∃ z : Str, ds = [.str z] ∧ TxIn z ∧ Q (meantD z)
theorem eqD_str (a b : Str) : eqD (.str a) (.str b) = decide (a = b) := by
  show PyData.eqv (.str a) (.str b) = _
  unfold PyData.eqv
  refine Bool.eq_iff_iff.mpr ?_
  rw [decide_eq_true_iff]
  exact ⟨fun h => eq_of_beq h, fun h => by rw [h]; exact beq_self_eq_true b⟩
theorem times_in (a : Nat) : decide (a ∈ (Str.ofString "0123").cps.toList) = decide (48 ≤ a ∧ a < 52) := by
  have e : (Str.ofString "0123").cps.toList = [48, 49, 50, 51] := by decide
  rw [e]
  refine Bool.eq_iff_iff.mpr ?_
  rw [decide_eq_true_iff, decide_eq_true_iff]
  simp only [List.mem_cons, List.not_mem_nil, or_false]
  omega
theorem figs_in (a : Nat) : decide (a ∈ (Str.ofString "0123456789").cps.toList) = decide (48 ≤ a ∧ a < 58) := by
  have e : (Str.ofString "0123456789").cps.toList = [48, 49, 50, 51, 52, 53, 54, 55, 56, 57] := by decide
  rw [e]
  refine Bool.eq_iff_iff.mpr ?_
  rw [decide_eq_true_iff, decide_eq_true_iff]
  simp only [List.mem_cons, List.not_mem_nil, or_false]
  omega
theorem three_of {z : Str} (h : z.length = 3) : ∃ a b c, z.cps.toList = [a, b, c] := by
  have hl : z.cps.toList.length = 3 := by rw [← h]; simp [Str.length]
  match hz : z.cps.toList, hl with
  | [a, b, c], _ => exact ⟨a, b, c, rfl⟩
theorem one_eq (b : Nat) : decide ((⟨#[b]⟩ : Str) = Str.ofString "@") = decide (b = 64) := by
  have e : Str.ofString "@" = ⟨#[64]⟩ := at_is
  rw [e]
  refine Bool.eq_iff_iff.mpr ?_
  rw [decide_eq_true_iff, decide_eq_true_iff]
  constructor
  · intro h
    have := congrArg (fun s : Str => s.cps.toList) h
    simpa using this
  · intro h; rw [h]
theorem none_parse {z : Str} {a b c : Nat} (e : z.cps.toList = [a, b, c]) (h : parseW z = none) : ¬ (48 ≤ a ∧ a < 52 ∧ b = 64 ∧ 48 ≤ c ∧ c < 58) := fun hc => by
  unfold parseW at h
  rw [e] at h
  simp only at h
  rw [if_pos hc] at h
  cases h
theorem empty_len {z : Str} : z = Str.ofString "" ↔ z.length = 0 := by
  constructor
  · intro h; rw [h]; decide
  · intro h
    refine str_ext ?_
    have : z.cps.toList = [] := List.length_eq_zero_iff.mp (by rw [← h]; simp [Str.length])
    rw [this]
    decide
theorem ok_emptyS : (D.str (Str.ofString "")).ok := (flat_str (sok_lit (by decide))).ok (by decide)
theorem ok_S {z : Str} (h : TxIn z) : (D.str z).ok := (flat_str h.ok).ok (by decide)
theorem allP_each : ∀ {ws : List Str} {ps : List (Nat × Nat)}, allP ws = some ps → (∀ w ∈ ws, ∃ p, parseW w = some p) ∧ ws.filterMap (fun w => (parseW w).map drD) = ps.map drD
  | [], ps, h => by cases h; exact ⟨(fun w h => by cases h), rfl⟩
  | w :: ws, ps, h => by
    unfold allP at h
    split at h
    · rename_i p qs e1 e2
      cases h
      obtain ⟨h1, h2⟩ := allP_each e2
      refine ⟨fun v hv => ?_, ?_⟩
      · rcases List.mem_cons.mp hv with rfl | hv
        · exact ⟨p, e1⟩
        · exact h1 v hv
      · rw [List.filterMap_cons, e1]
        simp only [Option.map_some, List.map_cons, h2]
    · cases h
theorem loopX_bad {body : D → Prop → Prop} : ∀ (ws : List Str), (∃ w ∈ ws, parseW w = none) → (∀ w ∈ ws, ∀ k : Prop, (parseW w = none → body (.str w) k) ∧ (∀ p, parseW w = some p → k → body (.str w) k)) → loopX body (ws.map D.str)
  | [], ⟨w, h, _⟩, _ => by cases h
  | w :: ws, ⟨v, hv, e⟩, hb => by
    show body (.str w) (loopX body (ws.map D.str))
    obtain ⟨h1, h2⟩ := hb w List.mem_cons_self (loopX body (ws.map D.str))
    cases hp : parseW w with
    | none => exact h1 hp
    | some p =>
      refine h2 p hp (loopX_bad ws ?_ fun u hu => hb u (List.mem_cons_of_mem _ hu))
      rcases List.mem_cons.mp hv with rfl | hv
      · rw [hp] at e; cases e
      · exact ⟨v, hv, e⟩
def kds40 : List (Str × D) := good40.map fun p => (wdS p, drD p)
theorem kds_lst : (List.range 40).filterMap (fun i => some (pairS (wdS (i / 10, i % 10), drD (i / 10, i % 10)))) = kds40.map pairS := by
  rw [show (fun (i : Nat) => some (pairS (wdS (i / 10, i % 10), drD (i / 10, i % 10)))) = some ∘ (fun (i : Nat) => pairS (wdS (i / 10, i % 10), drD (i / 10, i % 10))) from rfl, List.filterMap_eq_map]
  unfold kds40 good40
  rw [List.map_map, List.map_map]
  rfl
theorem kds_1 : kds40.map (·.1) = good40.map wdS := by unfold kds40; rw [List.map_map]; rfl
theorem kds_k : (kds40.map fun kd => (Sum.inr kd.1 : Key)) = (good40.map wdS).map fun k => Sum.inr k := by unfold kds40; rw [List.map_map, List.map_map]; rfl
theorem kds_2 : kds40.map (·.2) = good40.map drD := by unfold kds40; rw [List.map_map]; rfl
theorem bad_words {ws : List Str} : (ws.filterMap fun w => if (parseW w).isNone = true then some (D.str w) else none) = (ws.filter fun w => (parseW w).isNone).map D.str := by
  induction ws with
  | nil => rfl
  | cons w ws ih =>
    rw [List.filterMap_cons, List.filter_cons]
    cases h : (parseW w).isNone with
    | true => simp only [if_true, List.map_cons, ih]
    | false => simp only [Bool.false_eq_true, if_false, ih]
theorem bad_none {ws : List Str} : (ws.filter fun w => (parseW w).isNone).isEmpty = (allP ws).isSome := by
  refine Bool.eq_iff_iff.mpr ?_
  rw [List.isEmpty_iff, List.filter_eq_nil_iff]
  constructor
  · intro h
    cases e : allP ws with
    | some _ => rfl
    | none =>
      obtain ⟨w, hw, e1⟩ := allP_none.mp e
      exact absurd (by rw [e1]; rfl) (h w hw)
  · intro h w hw z
    have : parseW w = none := by simpa using z
    rw [allP_none.mpr ⟨w, hw, this⟩] at h
    cases h
theorem ok_strs {ws : List Str} (h : ∀ w ∈ ws, StrOk w) : (D.lst (ws.map D.str)).ok := (flat_lst (n := 0) fun d hd => by
  obtain ⟨w, hw, rfl⟩ := List.mem_map.mp hd
  exact flat_str (h w hw)).ok (by decide)
def badP : List Str := [Str.ofString " ", Str.ofString "4@0", Str.ofString "0@10", Str.ofString "0@", Str.ofString "@0", Str.ofString "0 0", Str.ofString "0@@0", Str.ofString "00@0", Str.ofString "0@00", Str.ofString "0@-1", Str.ofString "0@0 ", Str.ofString " 0@0", Str.ofString "0@0  1@1", Str.ofString "0@0,1@1", Str.ofString "@"]
theorem badP_all : (badP.all fun z => (readPl z).isNone && decide (z.length ≤ 1000) && z.cps.toList.all (fun c => decide (c < 0x110000))) = true := by decide +kernel
theorem badP_in {z : Str} (h : z ∈ badP) : TxIn z ∧ readPl z = none := by
  have := List.all_eq_true.mp badP_all z h
  rw [Bool.and_eq_true, Bool.and_eq_true] at this
  obtain ⟨⟨h1, h2⟩, h3⟩ := this
  refine ⟨⟨of_decide_eq_true h2, ?_⟩, by simpa using h1⟩
  unfold StrOk
  rw [← Array.all_toList]
  exact h3
end L3
set_option Elab.async false
set_option linter.all false
set_option maxRecDepth 100000
set_option maxHeartbeats 4000000
namespace K41
open PySem PySem.Spec PyProof.Rows L2 L3
def top (i : Nat) : Stmt := PySem.Challenge.pw_shaftfall_k41_plan_texts.main.body.getD i (.Pass ⟨0, 0, 0, 0⟩)
abbrev s_plan_text : Stmt := top 11
abbrev N_plan_text : List Str := ["plan", "times", "x"]
abbrev P_plan_text : List Str := ["plan"]
theorem sc_plan_text : FnScope N_plan_text P_plan_text (defScope s_plan_text) := ⟨rfl, rfl, rfl, by decide +kernel, rfl, by decide +kernel, by decide +kernel⟩
abbrev s_read_plan : Stmt := top 12
abbrev N_read_plan : List Str := ["text", "word"]
abbrev P_read_plan : List Str := ["text"]
theorem sc_read_plan : FnScope N_read_plan P_read_plan (defScope s_read_plan) := ⟨rfl, rfl, rfl, by decide +kernel, rfl, by decide +kernel, by decide +kernel⟩
abbrev s_read_drop : Stmt := top 13
abbrev N_read_drop : List Str := ["word"]
abbrev P_read_drop : List Str := ["word"]
theorem sc_read_drop : FnScope N_read_drop P_read_drop (defScope s_read_drop) := ⟨rfl, rfl, rfl, by decide +kernel, rfl, by decide +kernel, by decide +kernel⟩
abbrev s__law_draw : Stmt := top 15
abbrev N__law_draw : List Str := ["_law_script", "_law_town", "_law_many", "_law_at", "_law_rest", "_law_number"]
abbrev P__law_draw : List Str := ["_law_script", "_law_town", "_law_many"]
theorem sc__law_draw : FnScope N__law_draw P__law_draw (defScope s__law_draw) := ⟨rfl, rfl, rfl, by decide +kernel, rfl, by decide +kernel, by decide +kernel⟩
abbrev s__law_begun : Stmt := top 16
abbrev N__law_begun : List Str := []
abbrev P__law_begun : List Str := []
theorem sc__law_begun : FnScope N__law_begun P__law_begun (defScope s__law_begun) := ⟨rfl, rfl, rfl, by decide +kernel, rfl, by decide +kernel, by decide +kernel⟩
abbrev s__law_class : Stmt := top 17
abbrev N__law_class : List Str := ["_law_kept", "_law_kinds"]
abbrev P__law_class : List Str := ["_law_kept"]
theorem sc__law_class : FnScope N__law_class P__law_class (defScope s__law_class) := ⟨rfl, rfl, rfl, by decide +kernel, rfl, by decide +kernel, by decide +kernel⟩
abbrev s__law_heard : Stmt := top 18
abbrev N__law_heard : List Str := ["_law_deed", "_law_kept", "_law_found", "e", "_law_name"]
abbrev P__law_heard : List Str := ["_law_deed"]
theorem sc__law_heard : FnScope N__law_heard P__law_heard (defScope s__law_heard) := ⟨rfl, rfl, rfl, by decide +kernel, rfl, by decide +kernel, by decide +kernel⟩
abbrev s__law_meant : Stmt := top 19
abbrev N__law_meant : List Str := ["_law_line", "_law_good", "_law_words", "_law_at", "_law_word"]
abbrev P__law_meant : List Str := ["_law_line"]
theorem sc__law_meant : FnScope N__law_meant P__law_meant (defScope s__law_meant) := ⟨rfl, rfl, rfl, by decide +kernel, rfl, by decide +kernel, by decide +kernel⟩
abbrev s_law : Stmt := top 20
abbrev N_law : List Str := ["_law_script", "_law_town", "_law_k", "_law_size", "_law_some", "_law_line", "_law_j", "_law_at", "_law_sign", "_law_other", "_law_bad", "_law_often", "_law_left", "zz_tab"]
abbrev P_law : List Str := ["_law_script"]
theorem sc_law : FnScope N_law P_law (defScope s_law) := ⟨rfl, rfl, rfl, by decide +kernel, rfl, by decide +kernel, by decide +kernel⟩
structure Adr where
  f_plan_text : Addr
  f_read_plan : Addr
  f_read_drop : Addr
  f__law_draw : Addr
  f__law_begun : Addr
  f__law_class : Addr
  f__law_heard : Addr
  f__law_meant : Addr
  f_law : Addr
  q_FIGURES : Tok
  q_TIMES : Tok
  C_ShaftError : Addr
  C_NoPlace : Addr
  C_Over : Addr
  C_NoPlan : Addr
  C_NoPiece : Addr
  C_NoBack : Addr
  C_NoText : Addr
structure Txt (K : Frag) (mg : Str → Option Value) (t : Adr) : Prop where
  b_ValueError : mg "ValueError" = none
  b_dict : mg "dict" = none
  b_int : mg "int" = none
  b_isinstance : mg "isinstance" = none
  b_len : mg "len" = none
  b_range : mg "range" = none
  b_str : mg "str" = none
  b_tuple : mg "tuple" = none
  c_FIGURES : mg "FIGURES" = some (.str "0123456789" t.q_FIGURES)
  c_TIMES : mg "TIMES" = some (.str "0123" t.q_TIMES)
  C_ShaftError : mg "ShaftError" = some (.ref t.C_ShaftError)
  C_NoPlace : mg "NoPlace" = some (.ref t.C_NoPlace)
  C_Over : mg "Over" = some (.ref t.C_Over)
  C_NoPlan : mg "NoPlan" = some (.ref t.C_NoPlan)
  C_NoPiece : mg "NoPiece" = some (.ref t.C_NoPiece)
  C_NoBack : mg "NoBack" = some (.ref t.C_NoBack)
  C_NoText : mg "NoText" = some (.ref t.C_NoText)
  f_plan_text : mg "plan_text" = some (.ref t.f_plan_text)
  k_plan_text : PySem.W.keepIn K (.ref t.f_plan_text) = true
  f_read_plan : mg "read_plan" = some (.ref t.f_read_plan)
  k_read_plan : PySem.W.keepIn K (.ref t.f_read_plan) = true
  f_read_drop : mg "read_drop" = some (.ref t.f_read_drop)
  k_read_drop : PySem.W.keepIn K (.ref t.f_read_drop) = true
  f__law_draw : mg "_law_draw" = some (.ref t.f__law_draw)
  k__law_draw : PySem.W.keepIn K (.ref t.f__law_draw) = true
  f__law_begun : mg "_law_begun" = some (.ref t.f__law_begun)
  k__law_begun : PySem.W.keepIn K (.ref t.f__law_begun) = true
  f__law_class : mg "_law_class" = some (.ref t.f__law_class)
  k__law_class : PySem.W.keepIn K (.ref t.f__law_class) = true
  f__law_heard : mg "_law_heard" = some (.ref t.f__law_heard)
  k__law_heard : PySem.W.keepIn K (.ref t.f__law_heard) = true
  f__law_meant : mg "_law_meant" = some (.ref t.f__law_meant)
  k__law_meant : PySem.W.keepIn K (.ref t.f__law_meant) = true
  f_law : mg "law" = some (.ref t.f_law)
  k_law : PySem.W.keepIn K (.ref t.f_law) = true
section
variable {P : Program} {w : World} {K : Frag} {mg : Str → Option Value} {base : Heap} {t : Adr}
theorem ok__law_draw {fd : FuncData} (F : FunG K "_law_draw" "_law_draw" s__law_draw t.f__law_draw fd .none) (T : Txt K mg t) : FnOk P w K mg base CX0 1 t.f__law_draw fd P__law_draw (spD K cDraw) := by
  obtain ⟨oc, od, kV, doc, pm, an, cdv, ct, osl, rfl, lk, hcd⟩ := F.ex
  refine fn_of lk hcd sc__law_draw (fun vs H Q E h => ?_) fun A outer s H vs Q E hr h => ?_
  · obtain ⟨tw, F, ds, QD, st, dv, ⟨ns, many, rfl, _⟩, _⟩ := h
    rw [dv.length]; rfl
  · have hu := hu_of hr
    have nd := sc__law_draw.nd
    refine ⟨drawT K, PSs.nox (pss_cons (ps_dput hu (pv 1) pe_str (pe_op op_add (pe_dget hu (pv 1) pe_str (fun _ _ => rfl)) pe_int) rfl)
      (pss_cons (ps_set (i := 3) nd rfl (Or.inl rfl) (pe_ifExp (pt_truth (pv 0) (by intro _; rfl)) (pe_op op_mod (pe_dget hu (pv 1) pe_str (fun _ _ => rfl)) (pe_callB call_len (by rfl) T.b_len PySem.boot_len (pa_cons (pv 0) pa_nil))) pe_int))
      (pss_cons (ps_set (i := 4) nd rfl (Or.inl rfl) (pe_dget2 hu (pe_dget hu (pv 1) pe_str (fun _ _ => rfl)) (pv 3) (pe_ifExp (pt_truth (pv 0) (by intro _; rfl)) (pe_ix ix_list (pv 0) (pv 3) (fun _ _ => rfl)) pe_int) ⟨rfl, rfl, rfl, rfl⟩))
      (pss_cons (ps_if (pt_cmpR op_ge (pv 4) (pe_op op_pow pe_int pe_int) (nomark _)) (pss_cons (ps_dput hu (pe_dget hu (pv 1) pe_str (fun _ _ => rfl)) (pv 3) (pe_op op_fdiv (pv 4) (pv 2)) rfl) (pss_one (ps_ret (pe_op op_mod (pv 4) (pv 2))))) pss_nil)
      (pss_cons (ps_set (i := 5) nd rfl (Or.inl rfl) (pe_op op_mod (pe_op op_add (pv 4) (pe_op op_mul pe_int (pe_dget hu (pv 1) pe_str (fun _ _ => rfl)))) pe_int))
      (pss_cons (ps_set (i := 5) nd rfl (Or.inl rfl) (pe_op op_mod (pe_op op_pow (pv 5) pe_int) pe_int))
      (pss_one (ps_ret (pe_op op_mod (pe_op op_fdiv (pe_op op_mod (pe_op op_add (pe_op op_mul (pe_op op_fdiv (pv 5) pe_int) pe_int) (pv 5)) pe_int) pe_int) (pv 2)))))))))), draw_read rfl h⟩
theorem ok__law_begun {fd : FuncData} (F : FunG K "_law_begun" "_law_begun" s__law_begun t.f__law_begun fd .none) (T : Txt K mg t) : FnOk P w K mg base CX0 1 t.f__law_begun fd P__law_begun spBegun := by
  obtain ⟨oc, od, kV, doc, pm, an, cdv, ct, osl, rfl, lk, hcd⟩ := F.ex
  refine fn_of lk hcd sc__law_begun (fun vs H Q E h => ?_) fun A outer s H vs Q E hr h => ?_
  · rw [h.1]; rfl
  · refine ⟨begunT, ?_, begun_read h⟩
    refine PSs.nox ?_
    unfold begunT
    refine pss_one ?_
    refine ps_ret ?_
    refine pe_disp ?_ ?_ ?_ ?_ ?_
    · refine pps_cons pe_str pe_int ?_
      refine pps_cons pe_str pe_dnewK ?_
      exact pps_nil
    · rfl
    · rfl
    · intro z; cases z
    · decide
theorem ok_plan_text {fd : FuncData} (F : FunG K "plan_text" "plan_text" s_plan_text t.f_plan_text fd .none) (T : Txt K mg t) : FnOk P w K mg base CX0 1 t.f_plan_text fd P_plan_text (spD K cPlanT) := by
  refine F.okD sc_plan_text (fun ds Q h => ?_) (fun cdv A outer s H E hr => ⟨_, (dss_one (ds_ret (de_join de_str (de_lc rfl sc_plan_text.nd (di_seq (dv 0)) (blkOk_by (own := [("times", 1), ("x", 2)]) (N := N_plan_text) (sc := defScope s_plan_text) (by decide +kernel)) (fun _ _ _ _ _ => (dg_tup (n := 2) rfl (dgs_cons (dg_name (i := 1) sc_plan_text.nd) (dgs_cons (dg_name (i := 2) sc_plan_text.nd) dgs_nil)))) (fun _ _ _ _ _ => dts_nil) (fun _ _ _ _ _ => (de_fs3 (dv 1) (dv 2))))))), ?_⟩)
  · obtain ⟨ps, rfl, _⟩ := h; rfl
  · rintro ds QD ⟨ps, rfl, hok, hl, hq⟩
    refine ⟨⟨_, rfl⟩, _, rfl, .inl ⟨ps.map drD, .inr rfl, fun _ => ?_⟩⟩
    refine loopW_ix (f := fun p => some (.str (wdS p))) ps [] (fun p hp k hk => ?_) ?_
    · obtain ⟨h1, h2⟩ := hok p hp
      exact ⟨_, rfl, rfl, _, _, rfl, _, _, rfl, rfl, _, rfl, p.1, rfl, by omega, by decide, _, rfl, p.2, rfl, h2, _, rfl, hk⟩
    · rw [List.nil_append, show (fun p => some (D.str (wdS p))) = some ∘ (fun p => D.str (wdS p)) from rfl, List.filterMap_eq_map]
      refine ⟨Str.ofString " ", ps.map wdS, rfl, .inl (by show D.lst _ = D.lst _; rw [List.map_map]; rfl), ?_, _, rfl, hq⟩
      rw [wd_sum, List.length_map]
      have : (Str.ofString " ").length = 1 := by decide
      rw [this]
      omega
theorem ok_read_drop {fd : FuncData} (F : FunG K "read_drop" "read_drop" s_read_drop t.f_read_drop fd .none) (T : Txt K mg t) : FnOk P w K mg base CX0 1 t.f_read_drop fd P_read_drop (spD K cDropR) := by
  refine F.okD sc_read_drop (fun ds Q h => ?_) (fun cdv A outer s H E hr => ⟨_, (dss_cons (ds_if (DW.dt (dw_or (dt_ne hr (de_len T.b_len (dv 0)) de_int) (dw_or (dt_notInS (de_ix (dv 0) de_int) (de_globS rfl T.c_TIMES ⟨_, rfl⟩)) (dw_or (dt_ne hr (de_ix (dv 0) de_int) de_str) (dw_or1 (dt_notInS (de_ix (dv 0) de_int) (de_globS rfl T.c_FIGURES ⟨_, rfl⟩))))))) (dss_one ds_never) dss_nil)
      (dss_one (ds_ret (de_tup (da_cons (de_intN T.b_int (de_ix (dv 0) de_int)) (da_cons (de_intN T.b_int (de_ix (dv 0) de_int)) da_nil)))))), ?_⟩)
  · obtain ⟨z, p, rfl, _⟩ := h; rfl
  · rintro ds QD ⟨z, p, rfl, hz, hp, hq⟩
    have hsl : sizeLine = 16777216 := sizeLine_eq
    have two : (2 : Nat) ≤ sizeLine := by decide
    obtain ⟨⟨h1, h2⟩, rfl⟩ := parse_some hp
    have hlen := wd_len p
    have hle : (wdS p).length ≤ sizeLine := by rw [hlen]; omega
    have a0 : atI (wdS p).cps.toList 0 = some (48 + p.1) := by rw [wd_cps]; rfl
    have a1 : atI (wdS p).cps.toList 1 = some 64 := by rw [wd_cps]; rfl
    have a2 : atI (wdS p).cps.toList 2 = some (48 + p.2) := by rw [wd_cps]; rfl
    have okat : (D.str (⟨#[64]⟩ : Str)).ok := (flat_str (sok_lit (by decide))).ok (by decide)
    refine ⟨_, rfl, _, .str _ hle, ok_int _, ok_int _, _, rfl, ne_no (by rw [hlen]; rfl) (ok_int _) ?_⟩
    refine ⟨_, rfl, 0, rfl, .inr ⟨_, _, rfl, hle, a0, _, _, rfl, rfl, _, rfl, ?_⟩⟩
    show if (!decide (48 + p.1 ∈ (Str.ofString "0123").cps.toList)) = true then _ else _
    rw [times_in, decide_eq_true ⟨by omega, by omega⟩]
    refine ⟨_, rfl, 1, rfl, .inr ⟨_, _, rfl, hle, a1, okat, by show (D.str (Str.ofString "@")).ok; rw [show Str.ofString "@" = ⟨#[64]⟩ from at_is]; exact okat, _, rfl, ne_no (by show D.str _ = D.str (Str.ofString "@"); rw [show Str.ofString "@" = ⟨#[64]⟩ from at_is]) okat ?_⟩⟩
    refine ⟨_, rfl, 2, rfl, .inr ⟨_, _, rfl, hle, a2, _, _, rfl, rfl, _, rfl, ?_⟩⟩
    show if (!decide (48 + p.2 ∈ (Str.ofString "0123456789").cps.toList)) = true then _ else _
    rw [figs_in, decide_eq_true ⟨by omega, by omega⟩]
    exact ⟨_, rfl, 0, rfl, .inr ⟨_, _, rfl, hle, a0, p.1, rfl, by omega, _, rfl, _, rfl, 2, rfl, .inr ⟨_, _, rfl, hle, a2, p.2, rfl, h2, _, rfl, two, _, rfl, hq⟩⟩⟩
theorem okX_read_drop {fd : FuncData} (F : FunG K "read_drop" "read_drop" s_read_drop t.f_read_drop fd .none) (T : Txt K mg t) (x_NoText : PySem.W.excIn K t.C_NoText bmV "ValueError.__new__" = true) : FnOk P w K mg base (CX1 P w) 1 t.f_read_drop fd P_read_drop (spX K (cDropRX t.C_NoText)) := by
  refine F.okX (k := 0) sc_read_drop (fun ds C h => ?_) (fun cdv A outer s H E hr xr => ⟨_, (dxs_if (DW.dt (dw_or (dt_ne hr (de_len T.b_len (dv 0)) de_int) (dw_or (dt_notInS (de_ix (dv 0) de_int) (de_globS rfl T.c_TIMES ⟨_, rfl⟩)) (dw_or (dt_ne hr (de_ix (dv 0) de_int) de_str) (dw_or1 (dt_notInS (de_ix (dv 0) de_int) (de_globS rfl T.c_FIGURES ⟨_, rfl⟩))))))) (dxs_raise xr rfl ⟨T.C_NoText, x_NoText⟩ de_str) dss_nil dxs_never), ?_⟩)
  · obtain ⟨z, rfl, _⟩ := h; rfl
  · rintro ds C ⟨z, rfl, hz, hp, rfl⟩
    have hsl : sizeLine = 16777216 := sizeLine_eq
    have hf := hz.few
    have hle : z.length ≤ sizeLine := by omega
    refine ⟨_, rfl, _, .str _ hle, ok_int _, ok_int _, _, rfl, ?_⟩
    show if (!eqD (.int ((z.length : Nat) : Int)) (.int 3)) = true then _ else _
    rw [eqD_int]
    by_cases hl : z.length = 3
    · rw [decide_eq_true (by omega)]
      obtain ⟨a, b, c, e⟩ := three_of hl
      have a0 : atI z.cps.toList 0 = some a := by rw [e]; rfl
      have a1 : atI z.cps.toList 1 = some b := by rw [e]; rfl
      have a2 : atI z.cps.toList 2 = some c := by rw [e]; rfl
      have hn := none_parse e hp
      have okb : (D.str (⟨#[b]⟩ : Str)).ok := (flat_str (strOk_one hz.ok (by rw [e]; simp))).ok (by decide)
      refine ⟨_, rfl, 0, rfl, .inr ⟨_, _, rfl, hle, a0, _, _, rfl, rfl, _, rfl, ?_⟩⟩
      show if (!decide (a ∈ (Str.ofString "0123").cps.toList)) = true then _ else _
      rw [times_in]
      by_cases h1 : 48 ≤ a ∧ a < 52
      · rw [decide_eq_true h1]
        refine ⟨_, rfl, 1, rfl, .inr ⟨_, _, rfl, hle, a1, okb, by show (D.str (Str.ofString "@")).ok; exact (flat_str (sok_lit (by decide))).ok (by decide), _, rfl, ?_⟩⟩
        show if (!eqD (.str (⟨#[b]⟩ : Str)) (.str (Str.ofString "@"))) = true then _ else _
        rw [eqD_str, one_eq]
        by_cases h2 : b = 64
        · rw [decide_eq_true h2]
          refine ⟨_, rfl, 2, rfl, .inr ⟨_, _, rfl, hle, a2, _, _, rfl, rfl, _, rfl, ?_⟩⟩
          show if (!decide (c ∈ (Str.ofString "0123456789").cps.toList)) = true then _ else _
          rw [figs_in, decide_eq_false fun h3 => hn ⟨h1.1, h1.2, h2, h3.1, h3.2⟩]
          rfl
        · rw [decide_eq_false h2]
          rfl
      · rw [decide_eq_false h1]
        rfl
    · rw [decide_eq_false (by omega)]
      rfl
theorem ok_read_plan {fd f1 : FuncData} (F : FunG K "read_plan" "read_plan" s_read_plan t.f_read_plan fd .none) (T : Txt K mg t)
    (G_read_drop : FnOk P w K mg base CX0 1 t.f_read_drop f1 P_read_drop (spD K cDropR)) (b_read_drop : Binds K f1 P_read_drop []) : FnOk P w K mg base CX0 2 t.f_read_plan fd P_read_plan (spD K cReadP) := by
  refine F.okD sc_read_plan (fun ds Q h => ?_) (fun cdv A outer s H E hr => ⟨_, (dss_cons (ds_if (dt_eq hr (dv 0) de_str) (dss_one (ds_ret (de_tup da_nil))) dss_nil)
      (dss_one (ds_ret (de_tuple T.b_tuple (de_lc rfl sc_read_plan.nd (di_seq (de_split (dv 0) de_str)) (blkOk_by (own := [("word", 1)]) (N := N_read_plan) (sc := defScope s_read_plan) (by decide +kernel)) (fun _ _ _ _ _ => (dg_name (i := 1) sc_read_plan.nd)) (fun _ _ _ _ _ => dts_nil) (fun _ _ _ _ _ => (de_call G_read_drop (hr.mono (by decide)) rfl T.f_read_drop T.k_read_drop b_read_drop .nil (fun _ _ => .nil) (da_cons (dv 1) da_nil)))))))), ?_⟩)
  · obtain ⟨z, p, rfl, _⟩ := h; rfl
  · rintro ds QD ⟨z, ps, rfl, hz, hp, hq⟩
    have hsl : sizeLine = 16777216 := sizeLine_eq
    have hf := hz.few
    refine ⟨_, rfl, ok_S hz, ok_emptyS, _, rfl, ?_⟩
    show if eqD (.str z) (.str (Str.ofString "")) = true then _ else _
    rw [eqD_str]
    unfold readPl at hp
    by_cases hl : z.length = 0
    · rw [decide_eq_true (empty_len.mpr hl)]
      rw [if_pos hl] at hp
      cases hp
      exact ⟨Nat.zero_le _, _, rfl, hq⟩
    · rw [decide_eq_false fun h => hl (empty_len.mp h)]
      rw [if_neg hl] at hp
      obtain ⟨h1, h2⟩ := allP_each hp
      refine ⟨_, rfl, ⟨_, rfl⟩, z, Str.ofString " ", rfl, rfl, by decide, by omega, .inl ⟨_, .inl rfl, fun _ => ?_⟩⟩
      refine loopW_ix (g := D.str) (f := fun w => (parseW w).map drD) (Txt.split z spS) [] (fun w hw k hk => ?_) ?_
      · obtain ⟨p, hp'⟩ := h1 w hw
        rw [hp'] at hk
        exact ⟨_, rfl, _, rfl, w, p, rfl, split_in hz hw, hp', _, rfl, hk⟩
      · rw [List.nil_append, h2]
        exact .inl ⟨_, rfl, _, rfl, hq⟩
theorem okX_read_plan {fd f1 : FuncData} (F : FunG K "read_plan" "read_plan" s_read_plan t.f_read_plan fd .none) (T : Txt K mg t)
    (G_read_drop : FnOk P w K mg base CX0 1 t.f_read_drop f1 P_read_drop (spD K cDropR)) (b_read_drop : Binds K f1 P_read_drop []) (X_read_drop : FnOk P w K mg base (CX1 P w) 1 t.f_read_drop f1 P_read_drop (spX K (cDropRX t.C_NoText))) : FnOk P w K mg base (CX1 P w) 2 t.f_read_plan fd P_read_plan (spX K (cReadPX t.C_NoText)) := by
  refine F.okX (k := 1) sc_read_plan (fun ds C h => ?_) (fun cdv A outer s H E hr xr => ⟨_, (dxs_cons (ds_if (dt_eq hr (dv 0) de_str) (dss_one (ds_ret (de_tup da_nil))) dss_nil) (dxs_ret (dx_ty1 (T := "tuple") rfl T.b_tuple (by decide +kernel) (dx_lc xheld_of rfl sc_read_plan.nd (di_seq (de_split (dv 0) de_str)) (blkOk_by (own := [("word", 1)]) (N := N_read_plan) (sc := defScope s_read_plan) (by decide +kernel)) (fun _ _ _ _ _ => (dg_name (i := 1) sc_read_plan.nd)) (fun _ _ _ _ _ => dts_nil) (fun _ _ _ _ _ => (de_call G_read_drop (hr.mono (by decide)) rfl T.f_read_drop T.k_read_drop b_read_drop .nil (fun _ _ => .nil) (da_cons (dv 1) da_nil))) (fun _ _ _ _ _ => (dx_callC X_read_drop (hr.mono (by decide)) rfl T.f_read_drop T.k_read_drop b_read_drop .nil (fun _ _ => .nil) (da_cons (dv 1) da_nil))))))), ?_⟩)
  · obtain ⟨z, rfl, _⟩ := h; rfl
  · rintro ds C ⟨z, rfl, hz, hp, rfl⟩
    have hsl : sizeLine = 16777216 := sizeLine_eq
    have hf := hz.few
    refine ⟨_, rfl, ok_S hz, ok_emptyS, _, rfl, ?_⟩
    show if eqD (.str z) (.str (Str.ofString "")) = true then _ else _
    rw [eqD_str]
    unfold readPl at hp
    by_cases hl : z.length = 0
    · rw [if_pos hl] at hp
      cases hp
    · rw [decide_eq_false fun h => hl (empty_len.mp h)]
      rw [if_neg hl] at hp
      refine ⟨_, rfl, ⟨_, rfl⟩, z, Str.ofString " ", rfl, rfl, by decide, by omega, .inl ⟨_, .inl rfl, fun _ => ?_⟩⟩
      refine loopX_bad (Txt.split z spS) (allP_none.mp hp) fun w hw k => ⟨fun hw0 => ?_, fun p hp' hk => ?_⟩
      · exact .inl ⟨_, rfl, _, rfl, t.C_NoText, ⟨w, rfl, split_in hz hw, hw0, rfl⟩, rfl⟩
      · exact .inr ⟨_, rfl, _, rfl, w, p, rfl, split_in hz hw, hp', ⟨_, rfl⟩, hk⟩
theorem ok__law_class {fd : FuncData} (F : FunG K "_law_class" "_law_class" s__law_class t.f__law_class fd .none) (T : Txt K mg t) : FnOk P w K mg base CX0 1 t.f__law_class fd P__law_class (spClass K t.C_ShaftError [t.C_NoPlace, t.C_Over, t.C_NoPlan, t.C_NoPiece, t.C_NoBack, t.C_NoText]) := by
  obtain ⟨oc, od, kV, doc, pm, an, cdv, ct, osl, rfl, lk', hcd⟩ := F.ex
  refine fn_of lk' hcd sc__law_class (fun vs H Q E h => ?_) fun A outer s H vs Q E hr h => ?_
  · obtain ⟨e, C, bs, j, nm, rfl, _⟩ := h; rfl
  · obtain ⟨e, C, bs, j, nm, rfl, he, hk, h6, hc, hj, hm, hn, q⟩ := h
    refine ⟨_, PSs.nox (pss_cons (ps_set (i := 1) sc__law_class.nd rfl (.inl rfl) (pe_lst (pa_cons (pe_callB cr_instX (by rfl) T.b_isinstance (by decide +kernel) (pa_cons (pe_var (i := 0) rfl (.inl rfl)) (pa_cons (pe_glob (v := .ref t.C_NoPlace) (by rfl) T.C_NoPlace rfl) pa_nil)))
        (pa_cons (pe_callB cr_instX (by rfl) T.b_isinstance (by decide +kernel) (pa_cons (pe_var (i := 0) rfl (.inl rfl)) (pa_cons (pe_glob (v := .ref t.C_Over) (by rfl) T.C_Over rfl) pa_nil)))
        (pa_cons (pe_callB cr_instX (by rfl) T.b_isinstance (by decide +kernel) (pa_cons (pe_var (i := 0) rfl (.inl rfl)) (pa_cons (pe_glob (v := .ref t.C_NoPlan) (by rfl) T.C_NoPlan rfl) pa_nil))) pa_nil)))))
      (pss_cons (ps_set (i := 1) sc__law_class.nd rfl (.inl rfl) (pe_op op_cat (pe_var (i := 1) rfl (.inl rfl)) (pe_lst (pa_cons (pe_callB cr_instX (by rfl) T.b_isinstance (by decide +kernel) (pa_cons (pe_var (i := 0) rfl (.inl rfl)) (pa_cons (pe_glob (v := .ref t.C_NoPiece) (by rfl) T.C_NoPiece rfl) pa_nil)))
        (pa_cons (pe_callB cr_instX (by rfl) T.b_isinstance (by decide +kernel) (pa_cons (pe_var (i := 0) rfl (.inl rfl)) (pa_cons (pe_glob (v := .ref t.C_NoBack) (by rfl) T.C_NoBack rfl) pa_nil)))
        (pa_cons (pe_callB cr_instX (by rfl) T.b_isinstance (by decide +kernel) (pa_cons (pe_var (i := 0) rfl (.inl rfl)) (pa_cons (pe_glob (v := .ref t.C_NoText) (by rfl) T.C_NoText rfl) pa_nil))) pa_nil))))))
      (pss_cons (ps_if (PW.pt (pw_or (pt_cmp (pc_neI (pe_bm PySem.F.plainAttrs_list PySem.F.slot_list_count PySem.F.type_list_count mt_lcount (pe_var (i := 1) rfl (.inl rfl)) (pa_cons pe_bl pa_nil)) pe_int)) (pw_or1 (pt_not (pt_val (pe_callB cr_instX (by rfl) T.b_isinstance (by decide +kernel) (pa_cons (pe_var (i := 0) rfl (.inl rfl)) (pa_cons (pe_bltn (v := .ty "ValueError") (by rfl) T.b_ValueError (by decide +kernel) rfl) pa_nil)))))))) (pss_one (ps_ret pe_str)) pss_nil)
      (pss_one (ps_ret (pe_ix ix_list (pe_lst (pa_cons pe_str (pa_cons pe_str (pa_cons pe_str (pa_cons pe_str (pa_cons pe_str (pa_cons pe_str pa_nil))))))) (pe_bm PySem.F.plainAttrs_list PySem.F.slot_list_index PySem.F.type_list_index mt_index (pe_var (i := 1) rfl (.inl rfl)) (pa_cons pe_bl pa_nil)) (fun _ _ => rfl))))))), ?_⟩
    obtain ⟨b1, b2, b3, b4, b5, b6, rfl⟩ := six h6
    have three : (3 : Nat) ≤ sizeLine := by decide
    have six' : (6 : Nat) ≤ sizeLine := by decide
    refine ⟨_, rfl, e, C, _, b1, rfl, he, hk.zc, hk.lk, kit_at hk (i := 0) rfl rfl, _, rfl, e, C, _, b2, rfl, he, hk.zc, hk.lk, kit_at hk (i := 1) rfl rfl, _, rfl, e, C, _, b3, rfl, he, hk.zc, hk.lk, kit_at hk (i := 2) rfl rfl, three, fun p1 hp1 => ?_⟩
    have g1 := Grow.new (.lst [V.bl b1, .bl b2, .bl b3]) hp1
    have he1 := g1.1 _ _ he
    have hl1 : upd H p1 (.lst [V.bl b1, .bl b2, .bl b3]) p1 = some (.lst [V.bl b1, .bl b2, .bl b3]) := upd_same
    generalize upd H p1 (.lst [V.bl b1, .bl b2, .bl b3]) = H1 at g1 he1 hl1 ⊢
    refine ⟨_, rfl, _, rfl, e, C, _, b4, rfl, he1, hk.zc, hk.lk, kit_at hk (i := 3) rfl rfl, _, rfl, e, C, _, b5, rfl, he1, hk.zc, hk.lk, kit_at hk (i := 4) rfl rfl, _, rfl, e, C, _, b6, rfl, he1, hk.zc, hk.lk, kit_at hk (i := 5) rfl rfl, three, fun p2 hp2 => ?_⟩
    have g2 := Grow.new (.lst [V.bl b4, .bl b5, .bl b6]) hp2
    have hl2 : upd H1 p2 (.lst [V.bl b4, .bl b5, .bl b6]) p2 = some (.lst [V.bl b4, .bl b5, .bl b6]) := upd_same
    have hl12 := g2.1 _ _ hl1
    have he2 := g2.1 _ _ he1
    generalize upd H1 p2 (.lst [V.bl b4, .bl b5, .bl b6]) = H2 at g2 he2 hl12 hl2 ⊢
    refine ⟨p1, p2, _, _, rfl, rfl, hl12, hl2, six', fun p3 hp3 => ?_⟩
    have g3 := Grow.new (.lst [V.bl b1, .bl b2, .bl b3, .bl b4, .bl b5, .bl b6]) hp3
    have hl3 : upd H2 p3 (.lst [V.bl b1, .bl b2, .bl b3, .bl b4, .bl b5, .bl b6]) p3 = some (.lst ([b1, b2, b3, b4, b5, b6].map V.bl)) := upd_same
    have he3 := g3.1 _ _ he2
    show _
    generalize hH3 : upd H2 p3 (.lst ([V.bl b1, .bl b2, .bl b3] ++ [V.bl b4, .bl b5, .bl b6])) = H3
    have g3 : Grow H2 H3 := by rw [← hH3]; exact g3
    have hl3 : H3 p3 = some (.lst ([b1, b2, b3, b4, b5, b6].map V.bl)) := by rw [← hH3]; exact hl3
    have he3 : H3 e = some (.ext (excAt e C)) := g3.1 _ _ he2
    refine ⟨_, rfl, .inl ⟨rfl, _, SqL.of hl3⟩, p3, [b1, b2, b3, b4, b5, b6], rfl, rfl, SqL.of hl3, _, _, rfl, rfl, _, rfl, ?_⟩
    rw [hc]
    refine ⟨_, rfl, e, C, _, true, rfl, he3, hk.zc, hk.lk, fun u r => by cases r; exact hk.val, _, rfl, ?_⟩
    refine ⟨six', fun p4 hp4 => ?_⟩
    have g4 := Grow.new (.lst (names6.map V.str)) hp4
    have hl4 : upd H3 p4 (.lst (names6.map V.str)) p4 = some (.lst (names6.map V.str)) := upd_same
    have hl34 := g4.1 _ _ hl3
    have hg := ((g1.trans g2).trans g3).trans g4
    show _
    refine ⟨_, rfl, .inl ⟨rfl, _, SqL.of hl34⟩, p3, _, .bl true, j, .bl true, rfl, rfl, SqL.of hl34, rfl, rfl, ?_, rfl, fun m z hmj hz => ?_, p4, names6.map V.str, _, .str nm, rfl, rfl, SqL.of hl4, ?_, q _ hg⟩
    · rw [List.getElem?_map, hj]; rfl
    · rw [List.getElem?_map, hm m hmj] at hz
      cases hz
      rfl
    · have hjl : j < names6.length := (List.getElem?_eq_some_iff.mp hn).1
      have := atI_nat (names6.map V.str) j (by rw [List.length_map]; exact hjl)
      rw [this, List.getElem_map]
      rw [List.getElem?_eq_getElem hjl] at hn
      cases hn
      rfl
theorem strOk_of {x : Str} (h : x.cps.toList.all (fun c => decide (c < 0x110000)) = true) : PyData.strOk x = true := by
  unfold PyData.strOk
  rw [← Array.all_toList]
  exact h
abbrev hCx (P : Program) (w : World) (K : Frag) (mg : Str → Option Value) (base : Heap) (t : Adr) (cdv : Value) (A : Around) (outer : List Env) (s : Shared) (H : Hp) : Cx := cxOf CX0 P w K mg base N__law_heard "_law_heard" (defScope s__law_heard) t.f__law_heard cdv A outer s H E0
theorem heard_ret {fd : FuncData} (F : FunG K "_law_heard" "_law_heard" s__law_heard t.f__law_heard fd .none) (T : Txt K mg t) :
    ∃ cdv, ∀ {A : Around} {outer : List Env} {s : Shared} {H F0 : Hp} {tw : Tw} {f : Addr} {QD : D → Prop} {k : Nat}, Room (k + 1) A → Env0 P w K mg base A outer s H → Stt tw F0 H → (∀ p, H p = none → DeedRet (hCx P w K mg base t cdv A outer s H) (upd H p (.tup [.non, .non])) f (fun v H' => ∃ F' d, Stp tw F0 (upd H p (.tup [.non, .non])) F' H' ∧ Dv K tw F' v d ∧ QD (.tup [.str "told", d]))) →
      codeAny (model P w) A (.call (.ref t.f__law_heard) ⟨[.ref f], []⟩) (CR CX0 outer P w H s (fun v H' => ∃ F' d, Stp tw F0 H F' H' ∧ Dv K tw F' v d ∧ QD d) E0) s := by
  obtain ⟨oc, od, kV, doc, pm, an, cdv, ct, osl, rfl, lk', hcd⟩ := F.ex
  refine ⟨cdv, fun {A outer s H F0 tw f QD k} hr e0 st dr => ?_⟩
  refine fn_at lk' hcd sc__law_heard hr e0 (us := [.ref f]) (vs := [.ref f]) (.of_eq rfl) (.cons rfl .nil) rfl
    (pss_cons (ps_asg (pe_tup (pa_cons pe_non (pa_cons pe_non pa_nil))) (pg_tup (n := 2) rfl (pgs_cons (pg_name (i := 1) sc__law_heard.nd rfl (.inl rfl)) (pgs_cons (pg_name (i := 2) sc__law_heard.nd rfl (.inl rfl)) pgs_nil))))
    (pss_cons (ps_tryRet (a := 0) (i := 2) sc__law_heard.nd rfl rfl rfl rfl)
    (pss_cons (ps_if (pt_cmp (pc_isN (pe_var (i := 1) rfl (.inl rfl)))) (pss_one (ps_ret (pe_tup (pa_cons pe_str (pa_cons (pe_var (i := 2) rfl (.inl rfl)) pa_nil))))) pss_nil) pss_never))) ?_
  refine ⟨(by decide), fun p0 hp0 => ?_⟩
  have s0 := Stp.alloc (o := HO.tup [V.non, V.non]) st hp0
  refine ⟨p0, _, rfl, SqT.of upd_same, rfl, _, _, rfl, _, _, rfl, rfl, f, _, rfl, dr p0 hp0, fun v H' ⟨F1, d, s1, dv, q⟩ => ?_⟩
  have s1 := s0.trans s1
  refine ⟨_, rfl, _, rfl, ?_⟩
  refine ⟨_, rfl, (by show 2 ≤ sizeLine; decide), fun p hp => ?_⟩
  have s2 := Stp.lay (o := HO.tup [V.str "told", v]) s1.st hp
  exact ⟨_, _, s1.trans s2, .tup upd_same (.cons (.str _) (.cons (dv.up s2.fz) .nil)), q⟩
theorem heard_raise {fd fC : FuncData} (F : FunG K "_law_heard" "_law_heard" s__law_heard t.f__law_heard fd .none) (T : Txt K mg t)
    (G__law_class : FnOk P w K mg base CX0 1 t.f__law_class fC P__law_class (spClass K t.C_ShaftError [t.C_NoPlace, t.C_Over, t.C_NoPlan, t.C_NoPiece, t.C_NoBack, t.C_NoText])) (b__law_class : Binds K fC P__law_class []) :
    ∃ cdv, ∀ {A : Around} {outer : List Env} {s : Shared} {H F0 : Hp} {tw : Tw} {f C : Addr} {QD : D → Prop} {bs : List Bool} {j k : Nat} {nm : Str}, Room (k + 2) A → Env0 P w K mg base A outer s H → Stt tw F0 H → (∀ p, H p = none → DeedRaise (hCx P w K mg base t cdv A outer s H) (upd H p (.tup [.non, .non])) f C (fun H' => ∃ F', Stp tw F0 (upd H p (.tup [.non, .non])) F' H')) →
      Kind K t.C_ShaftError [t.C_NoPlace, t.C_Over, t.C_NoPlan, t.C_NoPiece, t.C_NoBack, t.C_NoText] C bs → bs.length = 6 → bs.countP id = 1 → bs[j]? = some true → (∀ m : Nat, m < j → bs[m]? = some false) → names6[j]? = some nm → PyData.strOk nm = true → (nm == ("no piece" : Str)) = false → QD (.tup [.str nm]) →
      codeAny (model P w) A (.call (.ref t.f__law_heard) ⟨[.ref f], []⟩) (CR CX0 outer P w H s (fun v H' => ∃ F' d, Stp tw F0 H F' H' ∧ Dv K tw F' v d ∧ QD d) E0) s := by
  obtain ⟨oc, od, kV, doc, pm, an, cdv, ct, osl, rfl, lk', hcd⟩ := F.ex
  refine ⟨cdv, fun {A outer s H F0 tw f C QD bs j k nm} hr e0 st dr hk h6 hc hj hm hn sok hne hq => ?_⟩
  have hr2 : Room 1 (A.deeper (envOfC "_law_heard" (defScope s__law_heard) s.heap.objs.size t.f__law_heard cdv)) := (hr.deeper _).mono (by omega)
  refine fn_at lk' hcd sc__law_heard hr e0 (us := [.ref f]) (vs := [.ref f]) (.of_eq rfl) (.cons rfl .nil) rfl
    (pss_cons (ps_asg (pe_tup (pa_cons pe_non (pa_cons pe_non pa_nil))) (pg_tup (n := 2) rfl (pgs_cons (pg_name (i := 1) sc__law_heard.nd rfl (.inl rfl)) (pgs_cons (pg_name (i := 2) sc__law_heard.nd rfl (.inl rfl)) pgs_nil))))
    (pss_cons (ps_tryRaise (a := 0) (i := 1) (j := 3) (S := t.C_ShaftError) rfl rfl sc__law_heard.nd rfl rfl rfl rfl rfl rfl rfl T.C_ShaftError)
    (pss_cons (ps_if (pt_cmp (pc_isN (pe_var (i := 1) rfl (.inl rfl)))) pss_never pss_nil)
    (pss_cons (ps_set (i := 4) sc__law_heard.nd rfl (.inl rfl) (pe_call (E := E0) G__law_class hr2 rfl T.f__law_class T.k__law_class b__law_class .nil pass0 (pa_cons (pe_var (i := 1) rfl (.inl rfl)) pa_nil)))
    (pss_one (ps_ret (pe_ifExp (pt_cmpR (op_eqD hr2.units) (pe_var (i := 4) rfl (.inl rfl)) pe_str (nomark _)) pe_never (pe_tup (pa_cons (pe_var (i := 4) rfl (.inl rfl)) pa_nil))))))))) ?_
  refine ⟨(by decide), fun p0 hp0 => ?_⟩
  have s0 := Stp.alloc (o := HO.tup [V.non, V.non]) st hp0
  refine ⟨p0, _, rfl, SqT.of upd_same, rfl, _, _, rfl, _, _, rfl, rfl, f, C, _, rfl, dr p0 hp0, hk.sh, fun e H' ⟨F1, s1⟩ hne' => ?_⟩
  have s1 := s0.trans s1
  have s2 := Stp.alloc (o := HO.ext (excAt e C)) s1.st hne'
  refine ⟨_, rfl, _, rfl, ?_⟩
  refine ⟨_, rfl, e, C, bs, j, nm, rfl, upd_same, hk, h6, hc, hj, hm, hn, fun H2 g => ?_⟩
  have s3 := g.2 tw F1 s2.st
  refine ⟨_, rfl, .str nm, .str "no piece", .str nm, .str _, by simp [SeqAt.shaped, PyData.canLay0, PyData.depth, sok], by simp [SeqAt.shaped, PyData.canLay0, PyData.depth, strOk_of (x := Str.ofString "no piece") (by decide)], _, rfl, ?_⟩
  have en : PyData.eqv (.str nm) (.str "no piece") = false := hne
  rw [en]
  refine ⟨_, rfl, (by show 1 ≤ sizeLine; decide), fun p hp => ?_⟩
  have s4 := Stp.lay (o := HO.tup [V.str nm]) s3.st hp
  exact ⟨_, _, ((s1.trans s2).trans s3).trans s4, .tup upd_same (.cons (.str _) .nil), hq⟩
abbrev cs6 (t : Adr) : List Addr := [t.C_NoPlace, t.C_Over, t.C_NoPlan, t.C_NoPiece, t.C_NoBack, t.C_NoText]
theorem de_heard {X : Cx} {fd fC : FuncData} (F : FunG X.K "_law_heard" "_law_heard" s__law_heard t.f__law_heard fd .none) (bF : Binds X.K fd P__law_heard []) (T : Txt X.K X.mg t)
    (G__law_class : FnOk X.prog X.w X.K X.mg X.base CX0 1 t.f__law_class fC P__law_class (spClass X.K t.C_ShaftError (cs6 t))) (b__law_class : Binds X.K fC P__law_class [])
    {c q : Addr} (L : LamX X c q) {k : Nat} (hr : Room (k + 3) X.A) (hg : Gl X "_law_heard") {N : List Str} {js : List Nat} {scope : Scope} {params : Arguments} {body : Expr} {lpos p pos : Pos} {clos : List (Str × Addr)} (S : LamScope N scope)
    (hcl : closureFor scope X.env = pure clos) (hdef : defaultsOf params X.env = ([], [])) (hbd : ∀ pm cv ctv, bindArgs (PySem.W.kla_fn "<lambda>" lamQ params body scope clos pm cv ctv) ⟨[], []⟩ = pure [])
    (hN : js.map (fun j => X.N[j]?) = N.map some) (hk : N.map (fun x => X.env.scope.names.lookup x) = N.map fun _ => some .cell) (hc : clos.map (fun p => X.env.cells.lookup p.1) = clos.map (fun p => some p.2)) (hc2 : N.map (fun x => (clos.lookup x).isSome) = N.map fun _ => true) {g : Nat} {qb : QE} {xb : QX}
    (hb : ∀ (A' : Around) (o' : List Env) (s' : Shared) (H' : Hp) (f : Addr) (cv : Value), Room k (A'.deeper (envL scope s'.heap.objs.size f cv clos)) → DE (cxL (CX1 X.prog X.w) X.prog X.w X.K X.mg X.base N (envL scope s'.heap.objs.size f cv clos) A' o' s' H' (fun _ _ _ => False)) body qb)
    (hx : ∀ (A' : Around) (o' : List Env) (s' : Shared) (H' : Hp) (f : Addr) (cv : Value) (E : XK), Room k (A'.deeper (envL scope s'.heap.objs.size f cv clos)) → XRaise (cxL (CX1 X.prog X.w) X.prog X.w X.K X.mg X.base N (envL scope s'.heap.objs.size f cv clos) A' o' s' H' E) (fun C H' => E (.ref C) none H') →
      DX (cxL (CX1 X.prog X.w) X.prog X.w X.K X.mg X.base N (envL scope s'.heap.objs.size f cv clos) A' o' s' H' E) (fun C H' => E (.ref C) none H') body xb)
    (he : starEach [.Lambda params body scope lpos] X.env = [(false, eval (.Lambda params body scope lpos) X.env)] := by rfl) :
    DE X (.Call (.Name "_law_heard" p) [.Lambda params body scope lpos] [] pos) (qHeard X.K t.C_ShaftError (cs6 t) g q js qb xb) := by
  refine ⟨fun pins s σ H QQ I ⟨tw, H0, F0, ρ, Q, st, rp, ⟨hgt, ds, hds, hw⟩, kk⟩ => ?_⟩
  obtain ⟨_, _, zt⟩ := rp.get g _ hgt
  obtain ⟨tt, r, etw⟩ : ∃ tt r, tw = some (tt, r, some q) := by
    cases zt with
    | dat z => cases z with | tab z => exact ⟨_, _, z⟩
  subst etw
  refine wpAny_Call_Name_kw (ld_glob I hg T.f__law_heard ?_ (by decide))
  refine PySem.W.callWith_K (h₀ := X.base) I.ok.mod.kin T.k__law_heard ?_ he rfl
  rw [he]
  show wpAny _ _ (spliced ((false, eval (.Lambda params body scope lpos) X.env) :: [])) _ _ s
  refine Calls.spliced_cons (lam_made L I st hcl hdef fun f F1 H1 s1 pm cv ctv I1 s01 hcv hob hfn hfs => ?_)
  refine Calls.spliced_nil ⟨I1.kIn, ?_⟩
  obtain ⟨vs, hvs, dvs⟩ := caught_vals rp js ds hds
  have dvs := dvs.up s01.fz
  obtain ⟨ct, cfs⟩ := lam_caught (clos := clos) L I1 hN (fun x hx => List.map_inj_left.mp hk x hx) hc hc2 hvs
  have cdr : s1.heap.CodeRec cv lamQ := by
    obtain ⟨c1, rfl, z⟩ := hcv
    exact (I1.hok c1 _ (s01.st.sub _ _ z)).1
  have cod : ∃ c1, cv = .ref c1 ∧ H1 c1 = some (.ext (recAt c1)) := by
    obtain ⟨c1, z1, z⟩ := hcv
    exact ⟨c1, z1, s01.st.sub _ _ z⟩
  have la : LamAt X.K N scope params body clos vs f pm cv ctv H1 s1.heap := ⟨hob, cdr, ct, hbd _ _ _⟩
  have fin : ∀ {QD : D → Prop}, codeAny (model X.prog X.w) X.A (.call (.ref t.f__law_heard) ⟨[.ref f], []⟩) (CR CX0 X.stack X.prog X.w H1 s1 (fun v H' => ∃ F' d, Stp (some (tt, r, some q)) F1 H1 F' H' ∧ Dv X.K (some (tt, r, some q)) F' v d ∧ QD d) E0) s1 → (∀ d, QD d → Q (.dat d)) →
      wpAny (model X.prog X.w) X.A (call (.ref t.f__law_heard) [.ref f]) (EP X pins σ QQ) X.xe s1 := fun {QD} hh hQ => by
    refine wpAny_call (codeAny_mono hh fun r s' hq => ?_)
    cases r with
    | error e => exact hq.elim
    | ok fl =>
      cases fl with
      | ret u =>
        obtain ⟨v, H', J, rv, F', d, s2, dv, qd⟩ := I1.after hq
        exact ⟨v, H', J, rv, kk v H' ⟨F', .dat d, s01.trans s2, .dat dv, hQ d qd⟩⟩
      | next => exact False.elim hq
      | brk => exact False.elim hq
      | cont => exact False.elim hq
  rcases hw with hw | ⟨C, nm, ⟨bs, j, h1, h2, h3, h4, h5, h6, h7, h8⟩, hw, hQ⟩
  · obtain ⟨cdv, hh⟩ := heard_ret (P := X.prog) (w := X.w) (base := X.base) F T
    refine fin (QD := fun d => Q (.dat d)) (hh (k := k + 2) hr I1.env0 s01.st fun p hp => ?_) fun d z => z
    have LI : LamIn (hCx X.prog X.w X.K X.mg X.base t cdv X.A X.stack s1 H1) N scope params body clos vs f pm cv ctv := ⟨la, ⟨hfn, hfs⟩, cfs, cod, rfl⟩
    exact deed_ret (k := k) LI hp S ((hr.deeper _).mono (by omega)) (Stp.alloc s01.st hp).st dvs (fun s' H' hr' => hb _ _ s' H' f cv hr') hw
  · obtain ⟨cdv, hh⟩ := heard_raise (P := X.prog) (w := X.w) (base := X.base) F T G__law_class b__law_class
    refine fin (QD := fun d => Q (.dat d)) (hh (k := k + 1) hr I1.env0 s01.st (fun p hp => ?_) h1 h2 h3 h4 h5 h6 h7 h8 hQ) fun d z => z
    have LI : LamIn (hCx X.prog X.w X.K X.mg X.base t cdv X.A X.stack s1 H1) N scope params body clos vs f pm cv ctv := ⟨la, ⟨hfn, hfs⟩, cfs, cod, rfl⟩
    exact deed_raise (k := k) LI hp S ((hr.deeper _).mono (by omega)) (Stp.alloc s01.st hp).st dvs (fun s' H' E hr' xr => hx _ _ s' H' f cv E hr' xr) hw
theorem de_heardB {X : Cx} {fd fC : FuncData} (F : FunG X.K "_law_heard" "_law_heard" s__law_heard t.f__law_heard fd .none) (T : Txt X.K X.mg t)
    (G__law_class : FnOk X.prog X.w X.K X.mg X.base CX0 1 t.f__law_class fC P__law_class (spClass X.K t.C_ShaftError (cs6 t))) (b__law_class : Binds X.K fC P__law_class [])
    {c q : Addr} (L : LamB X c q) {k : Nat} (hr : Room (k + 3) X.A) (hg : Gl X "_law_heard") {x : Str} {j : Nat} {scope : Scope} {params : Arguments} {body : Expr} {lpos p pos : Pos} (S : LamScope [x] scope)
    (hcl : ∀ cl, X.env.cells.lookup x = some cl → closureFor scope X.env = pure [(x, cl)]) (hdef : defaultsOf params X.env = ([], [])) (hbd : ∀ cl pm cv ctv, bindArgs (PySem.W.kla_fn "<lambda>" lamQ params body scope [(x, cl)] pm cv ctv) ⟨[], []⟩ = pure [])
    (hN : X.N[j]? = some x) (hk : X.env.scope.names.lookup x = some .cell) (hfn : X.fn x = true) {g : Nat} {qb : QE} {xb : QX}
    (hb : ∀ (clos : List (Str × Addr)) (A' : Around) (o' : List Env) (s' : Shared) (H' : Hp) (f : Addr) (cv : Value), Room k (A'.deeper (envL scope s'.heap.objs.size f cv clos)) → DE (cxL (CX1 X.prog X.w) X.prog X.w X.K X.mg X.base [x] (envL scope s'.heap.objs.size f cv clos) A' o' s' H' (fun _ _ _ => False)) body qb)
    (hx : ∀ (clos : List (Str × Addr)) (A' : Around) (o' : List Env) (s' : Shared) (H' : Hp) (f : Addr) (cv : Value) (E : XK), Room k (A'.deeper (envL scope s'.heap.objs.size f cv clos)) → XRaise (cxL (CX1 X.prog X.w) X.prog X.w X.K X.mg X.base [x] (envL scope s'.heap.objs.size f cv clos) A' o' s' H' E) (fun C H' => E (.ref C) none H') →
      DX (cxL (CX1 X.prog X.w) X.prog X.w X.K X.mg X.base [x] (envL scope s'.heap.objs.size f cv clos) A' o' s' H' E) (fun C H' => E (.ref C) none H') body xb)
    {K' : Frag} (hK : X.K = K' := by rfl) (he : starEach [.Lambda params body scope lpos] X.env = [(false, eval (.Lambda params body scope lpos) X.env)] := by rfl) :
    DE X (.Call (.Name "_law_heard" p) [.Lambda params body scope lpos] [] pos) (qHeard K' t.C_ShaftError (cs6 t) g q [j] qb xb) := by
  subst hK
  refine ⟨fun pins s σ H QQ I ⟨tw, H0, F0, ρ, Q, st, rp, ⟨hgt, ds, hds, hw⟩, kk⟩ => ?_⟩
  obtain ⟨_, _, zt⟩ := rp.get g _ hgt
  obtain ⟨tt, r, etw⟩ : ∃ tt r, tw = some (tt, r, some q) := by
    cases zt with
    | dat z => cases z with | tab z => exact ⟨_, _, z⟩
  subst etw
  obtain ⟨vs, hvs, dvs0⟩ := caught_vals rp [j] ds hds
  obtain ⟨v0, rfl⟩ : ∃ v0, vs = [v0] := by
    have := congrArg List.length hvs
    rw [List.length_map, List.length_map] at this
    match vs, this with
    | [v0], _ => exact ⟨v0, rfl⟩
  have hv0 : σ[j]? = some (some v0) := by simpa using hvs
  obtain ⟨cl, u0, hlk, _, _⟩ := cell_of I hN hk hv0
  refine wpAny_Call_Name_kw (ld_glob I hg T.f__law_heard ?_ (by decide))
  refine PySem.W.callWith_K (h₀ := X.base) I.ok.mod.kin T.k__law_heard ?_ he rfl
  rw [he]
  show wpAny _ _ (spliced ((false, eval (.Lambda params body scope lpos) X.env) :: [])) _ _ s
  refine Calls.spliced_cons (lam_madeB L I st (hcl cl hlk) hdef fun f F1 H1 s1 pm cv ctv I1 s01 hcv hob hfn1 hfs => ?_)
  refine Calls.spliced_nil ⟨I1.kIn, ?_⟩
  have dvs := dvs0.up s01.fz
  obtain ⟨ct, cfs⟩ := lam_caughtB I1 hN hk hfn hlk hv0
  have cdr : s1.heap.CodeRec cv lamQ := by
    obtain ⟨c1, rfl, z⟩ := hcv
    exact (I1.hok c1 _ (s01.st.sub _ _ z)).1
  have cod : ∃ c1, cv = .ref c1 ∧ H1 c1 = some (.ext (recAt c1)) := by
    obtain ⟨c1, z1, z⟩ := hcv
    exact ⟨c1, z1, s01.st.sub _ _ z⟩
  have la : LamAt X.K [x] scope params body [(x, cl)] [v0] f pm cv ctv H1 s1.heap := ⟨hob, cdr, ct, hbd _ _ _ _⟩
  have fin : ∀ {QD : D → Prop}, codeAny (model X.prog X.w) X.A (.call (.ref t.f__law_heard) ⟨[.ref f], []⟩) (CR CX0 X.stack X.prog X.w H1 s1 (fun v H' => ∃ F' d, Stp (some (tt, r, some q)) F1 H1 F' H' ∧ Dv X.K (some (tt, r, some q)) F' v d ∧ QD d) E0) s1 → (∀ d, QD d → Q (.dat d)) →
      wpAny (model X.prog X.w) X.A (call (.ref t.f__law_heard) [.ref f]) (EP X pins σ QQ) X.xe s1 := fun {QD} hh hQ => by
    refine wpAny_call (codeAny_mono hh fun r s' hq => ?_)
    cases r with
    | error e => exact hq.elim
    | ok fl =>
      cases fl with
      | ret u =>
        obtain ⟨v, H', J, rv, F', d, s2, dv, qd⟩ := I1.after hq
        exact ⟨v, H', J, rv, kk v H' ⟨F', .dat d, s01.trans s2, .dat dv, hQ d qd⟩⟩
      | next => exact False.elim hq
      | brk => exact False.elim hq
      | cont => exact False.elim hq
  rcases hw with hw | ⟨C, nm, ⟨bs, j', h1, h2, h3, h4, h5, h6, h7, h8⟩, hw, hQ⟩
  · obtain ⟨cdv, hh⟩ := heard_ret (P := X.prog) (w := X.w) (base := X.base) F T
    refine fin (QD := fun d => Q (.dat d)) (hh (k := k + 2) hr I1.env0 s01.st fun p hp => ?_) fun d z => z
    have LI : LamIn (hCx X.prog X.w X.K X.mg X.base t cdv X.A X.stack s1 H1) [x] scope params body [(x, cl)] [v0] f pm cv ctv := ⟨la, ⟨hfn1, hfs⟩, cfs, cod, rfl⟩
    exact deed_ret (k := k) LI hp S ((hr.deeper _).mono (by omega)) (Stp.alloc s01.st hp).st dvs (fun s' H' hr' => hb _ _ _ s' H' f cv hr') hw
  · obtain ⟨cdv, hh⟩ := heard_raise (P := X.prog) (w := X.w) (base := X.base) F T G__law_class b__law_class
    refine fin (QD := fun d => Q (.dat d)) (hh (k := k + 1) hr I1.env0 s01.st (fun p hp => ?_) h1 h2 h3 h4 h5 h6 h7 h8 hQ) fun d z => z
    have LI : LamIn (hCx X.prog X.w X.K X.mg X.base t cdv X.A X.stack s1 H1) [x] scope params body [(x, cl)] [v0] f pm cv ctv := ⟨la, ⟨hfn1, hfs⟩, cfs, cod, rfl⟩
    exact deed_raise (k := k) LI hp S ((hr.deeper _).mono (by omega)) (Stp.alloc s01.st hp).st dvs (fun s' H' E hr' xr => hx _ _ _ s' H' f cv E hr' xr) hw
theorem ok__law_meant {fd : FuncData} (F : FunG K "_law_meant" "_law_meant" s__law_meant t.f__law_meant fd .none) (T : Txt K mg t) : FnOk P w K mg base CX0 1 t.f__law_meant fd P__law_meant (spD K cMeantP) := by
  refine F.okD sc__law_meant (fun ds Q h => ?_) (fun cdv A outer s H E hr => ⟨_, (dss_cons (ds_if (dt_eq hr (dv 0) de_str) (dss_one (ds_ret (de_tup (da_cons de_str (da_cons (de_tup da_nil) da_nil))))) dss_nil)
      (dss_cons (ds_set false (i := 1) sc__law_meant.nd (de_dictS rfl T.b_dict (de_lc rfl sc__law_meant.nd (di_range1 T.b_range de_int) (blkOk_by (own := [("_law_at", 3)]) (N := N__law_meant) (sc := defScope s__law_meant) (by decide +kernel)) (fun _ _ _ _ _ => (dg_name (i := 3) sc__law_meant.nd)) (fun _ _ _ _ _ => dts_nil) (fun _ _ _ _ _ => (de_tup (da_cons (de_addS (de_addS (de_strN T.b_str (de_div (dv 3) de_int)) de_str) (de_strN T.b_str (de_mod (dv 3) de_int))) (da_cons (de_tup (da_cons (de_div (dv 3) de_int) (da_cons (de_mod (dv 3) de_int) da_nil))) da_nil)))))))
      (dss_cons (ds_set false (i := 2) sc__law_meant.nd (de_split (dv 0) de_str))
      (dss_cons (ds_if (dt_ne hr (de_lc rfl sc__law_meant.nd (di_seq (dv 2)) (blkOk_by (own := [("_law_word", 4)]) (N := N__law_meant) (sc := defScope s__law_meant) (by decide +kernel)) (fun _ _ _ _ _ => (dg_name (i := 4) sc__law_meant.nd)) (fun _ _ _ _ _ => dts_one (dt_dnotinS hr (dv 4) (dv 1))) (fun _ _ _ _ _ => (dv 4))) (de_lst da_nil)) (dss_one (ds_ret (de_tup (da_cons de_str da_nil)))) dss_nil)
      (dss_one (ds_ret (de_tup (da_cons de_str (da_cons (de_tuple T.b_tuple (de_lc rfl sc__law_meant.nd (di_seq (dv 2)) (blkOk_by (own := [("_law_word", 4)]) (N := N__law_meant) (sc := defScope s__law_meant) (by decide +kernel)) (fun _ _ _ _ _ => (dg_name (i := 4) sc__law_meant.nd)) (fun _ _ _ _ _ => dts_nil) (fun _ _ _ _ _ => (de_dgetS hr (dv 1) (dv 4))))) da_nil))))))))), ?_⟩)
  · obtain ⟨z, rfl, _⟩ := h; rfl
  · rintro ds QD ⟨z, rfl, hz, hq⟩
    have hsl : sizeLine = 16777216 := sizeLine_eq
    have two : (2 : Nat) ≤ sizeLine := by decide
    have one : (1 : Nat) ≤ sizeLine := by decide
    have hf := hz.few
    refine ⟨_, rfl, ok_S hz, ok_emptyS, _, rfl, ?_⟩
    show if eqD (.str z) (.str (Str.ofString "")) = true then _ else _
    rw [eqD_str]
    unfold meantD readPl at hq
    by_cases hl : z.length = 0
    · rw [decide_eq_true (empty_len.mpr hl)]
      rw [if_pos hl] at hq
      exact ⟨_, rfl, Nat.zero_le _, _, rfl, two, _, rfl, hq⟩
    · rw [decide_eq_false fun h => hl (empty_len.mp h)]
      rw [if_neg hl] at hq
      refine ⟨_, rfl, by decide, by decide, fun _ => ?_⟩
      refine loopW_ix (g := fun (i : Nat) => D.int (0 + (i : Nat))) (f := fun i => some (pairS (wdS (i / 10, i % 10), drD (i / 10, i % 10)))) (List.range 40) [] (fun i hi k hk => ?_) ?_
      · have hi := List.mem_range.mp hi
        have e0 : (0 + ((i : Nat) : Int)) = ((i : Nat) : Int) := Int.zero_add _
        rw [e0]
        have at1 : (Str.ofString "@").length = 1 := by decide
        have hdv : CDiv ((i : Nat) : Int) 10 := by
          unfold CDiv
          omega
        have hmd : (0 : Int) < 10 := by decide
        refine ⟨_, rfl, _, _, rfl, rfl, hdv, i / 10, rfl, by omega, _, _, rfl, rfl, by rw [dig_len, at1]; omega, _, rfl, _, _, rfl, rfl, hmd, i % 10, rfl, by omega, _, _, rfl, rfl, by rw [str_len_app, dig_len, dig_len, at1]; omega, _, rfl, ?_⟩
        exact ⟨_, rfl, _, _, rfl, rfl, hdv, _, rfl, _, rfl, _, _, rfl, rfl, hmd, _, rfl, two, _, rfl, two, _, rfl, hk⟩
      rw [List.nil_append, kds_lst]
      refine ⟨kds40, rfl, by rw [kds_1]; exact good_nd, ?_⟩
      rw [kds_k, kds_2]
      refine ⟨_, rfl, ?_⟩
      refine ⟨_, rfl, ⟨_, rfl⟩, z, Str.ofString " ", rfl, rfl, by decide, by omega, _, rfl, ?_⟩
      refine ⟨_, rfl, .inl ⟨_, .inl rfl, fun _ => ?_⟩⟩
      refine loopW_ix (g := D.str) (f := fun w => if (parseW w).isNone = true then some (D.str w) else none) (Txt.split z spS) [] (fun w hw k hk => ?_) ?_
      · refine ⟨_, rfl, _, rfl, w, good40.map wdS, _, rfl, rfl, ?_⟩
        rw [hasS_good]
        cases hp : parseW w with
        | none =>
          rw [hp] at hk
          exact ⟨_, rfl, _, rfl, hk⟩
        | some p =>
          rw [hp] at hk
          exact hk
      rw [List.nil_append, bad_words]
      have okb : (D.lst (((Txt.split z spS).filter fun w => (parseW w).isNone).map D.str)).ok := ok_strs fun w hw => (split_in hz (List.mem_filter.mp hw).1).ok
      refine ⟨Nat.zero_le _, okb, ok_strs (ws := []) (fun w h => by cases h), _, rfl, ?_⟩
      show if (!eqD (.lst _) (.lst [])) = true then _ else _
      rw [eqD_lnil, List.isEmpty_map, bad_none]
      cases ha : allP (Txt.split z spS) with
      | none =>
        rw [ha] at hq
        exact ⟨_, rfl, one, _, rfl, hq⟩
      | some ps =>
        rw [ha] at hq
        obtain ⟨h1, h2⟩ := allP_each ha
        refine ⟨_, rfl, _, rfl, .inl ⟨_, .inl rfl, fun _ => ?_⟩⟩
        refine loopW_ix (g := D.str) (f := fun w => (parseW w).map drD) (Txt.split z spS) [] (fun w hw k hk => ?_) ?_
        · obtain ⟨p, hp'⟩ := h1 w hw
          rw [hp'] at hk
          obtain ⟨g1, rfl⟩ := parse_some hp'
          exact ⟨_, rfl, _, rfl, wdS p, good40.map wdS, _, drD p, rfl, rfl, lookS_map (good_all.mpr g1), _, rfl, hk⟩
        · rw [List.nil_append, h2]
          exact .inl ⟨_, rfl, _, rfl, two, _, rfl, hq⟩
end
end K41
set_option Elab.async false
set_option linter.all false
set_option maxRecDepth 100000
set_option maxHeartbeats 4000000
namespace K41
open PySem PySem.Spec PyProof.Rows L2 L3
section
variable {P : Program} {w : World} {K : Frag} {mg : Str → Option Value} {base : Heap} {t : Adr}
theorem ok_law {fG fW fP fR fH fC fM : FuncData} {oc kV doc pm ct : Value} {od an : Option Addr} {osl : Array (Option Value)} {c q : Addr}
    (lk' : K.lookup t.f_law = some ⟨oc, od, .func (PySem.W.fnOf "law" "law" (defArgs s_law) (defBody s_law) (defScope s_law) .none kV doc pm an (.ref c) ct), osl⟩) (hcd : PySem.W.codeIn K (.ref c) "law" = true) (hch : PySem.W.codeHdIn K c q = true) (bm : BMain mg base) (T : Txt K mg t)
    (G_begun : FnOk P w K mg base CX0 1 t.f__law_begun fG P__law_begun spBegun) (b_begun : Binds K fG P__law_begun [])
    (G__law_draw : FnOk P w K mg base CX0 1 t.f__law_draw fW P__law_draw (spD K cDraw)) (b__law_draw : Binds K fW P__law_draw [])
    (G_plan_text : FnOk P w K mg base CX0 1 t.f_plan_text fP P_plan_text (spD K cPlanT)) (b_plan_text : Binds K fP P_plan_text [])
    (G_read_plan : FnOk P w K mg base CX0 2 t.f_read_plan fR P_read_plan (spD K cReadP)) (b_read_plan : Binds K fR P_read_plan []) (X_read_plan : FnOk P w K mg base (CX1 P w) 2 t.f_read_plan fR P_read_plan (spX K (cReadPX t.C_NoText)))
    (kb_read_plan : KBinds K fR P_read_plan ["text"] (kwG 0) (kwG 0))
    (G__law_meant : FnOk P w K mg base CX0 1 t.f__law_meant fM P__law_meant (spD K cMeantP)) (b__law_meant : Binds K fM P__law_meant [])
    (F__law_heard : FunG K "_law_heard" "_law_heard" s__law_heard t.f__law_heard fH .none) (b__law_heard : Binds K fH P__law_heard []) (G__law_class : FnOk P w K mg base CX0 1 t.f__law_class fC P__law_class (spClass K t.C_ShaftError (cs6 t))) (b__law_class : Binds K fC P__law_class [])
    (ref1 : Refuses K t.C_ShaftError (cs6 t) t.C_NoText "no text") : FnOk P w K mg base CX0 8 t.f_law (PySem.W.fnOf "law" "law" (defArgs s_law) (defBody s_law) (defScope s_law) .none kV doc pm an (.ref c) ct) P_law (spLawT K q) := by
  have kg_read_plan : ∀ (tw : Tw) (F : Hp) (zs : List V) (es : List D), DvAll K tw F zs es → DvAll K tw F (kwG 0 [] zs) (kwG 0 [] es) := fun tw F zs es h => kwG_dv 0 tw F [] [] zs es .nil h
  refine fn_of lk' hcd sc_law (fun vs H Q E h => ?_) fun A outer s H vs Q E hr h => ?_
  · obtain ⟨a, ns, rfl, _⟩ := h; rfl
  · refine ⟨_, PSs.ghost 13 rfl rfl (PSs.nox (pss_cons (ps_set (i := 1) sc_law.nd rfl (Or.inr rfl) (pe_call0 G_begun (hr.mono (by decide)) rfl T.f__law_begun T.k__law_begun b_begun .nil pass0)) (DSs.pss (dss_cons (ds_for PassesOwn.never rfl (di_range1 T.b_range de_int) (dg_name (i := 2) sc_law.nd) (dss_cons (ds_set false (i := 3) sc_law.nd (de_call G__law_draw (hr.mono (by decide)) rfl T.f__law_draw T.k__law_draw b__law_draw .nil (fun _ _ => .nil) (da_cons (dv 0) (da_cons (dv 1) (da_cons de_int da_nil)))))
      (dss_cons (ds_set false (i := 4) sc_law.nd (de_tuple T.b_tuple (de_lc rfl sc_law.nd (di_range1 T.b_range (dv 3)) (blkOk_by (own := [("_law_j", 6)]) (N := N_law) (sc := defScope s_law) (by decide +kernel)) (fun _ _ _ _ _ => (dg_name (i := 6) sc_law.nd)) (fun _ _ _ _ _ => dts_nil) (fun _ _ _ _ _ => (de_tup (da_cons (de_call G__law_draw (hr.mono (by decide)) rfl T.f__law_draw T.k__law_draw b__law_draw .nil (fun _ _ => .nil) (da_cons (dv 0) (da_cons (dv 1) (da_cons de_int da_nil)))) (da_cons (de_call G__law_draw (hr.mono (by decide)) rfl T.f__law_draw T.k__law_draw b__law_draw .nil (fun _ _ => .nil) (da_cons (dv 0) (da_cons (dv 1) (da_cons de_int da_nil)))) da_nil)))))))
      (dss_cons (ds_set false (i := 5) sc_law.nd (de_join de_str (de_lc rfl sc_law.nd (di_seq (dv 4)) (blkOk_by (own := [("_law_often", 11), ("_law_left", 12)]) (N := N_law) (sc := defScope s_law) (by decide +kernel)) (fun _ _ _ _ _ => (dg_tup (n := 2) rfl (dgs_cons (dg_name (i := 11) sc_law.nd) (dgs_cons (dg_name (i := 12) sc_law.nd) dgs_nil)))) (fun _ _ _ _ _ => dts_nil) (fun _ _ _ _ _ => (de_addS (de_addS (de_strN T.b_str (dv 11)) de_str) (de_strN T.b_str (dv 12)))))))
      (dss_cons (ds_if (DW.dt (dw_or (dt_ne hr (de_call G_plan_text (hr.mono (by decide)) rfl T.f_plan_text T.k_plan_text b_plan_text .nil (fun _ _ => .nil) (da_cons (dv 4) da_nil)) (dv 5)) (dw_or1 (dt_ne hr (de_call G_read_plan (hr.mono (by decide)) rfl T.f_read_plan T.k_read_plan b_read_plan .nil (fun _ _ => .nil) (da_cons (dv 5) da_nil)) (dv 4))))) (dss_one (ds_ret de_bl)) dss_nil)
      (dss_one (ds_for PassesOwn.never rfl (di_range1 T.b_range de_int) (dg_name (i := 6) sc_law.nd) (dss_cons (ds_par false false (i := 7) (j := 8) rfl sc_law.nd (de_call G__law_draw (hr.mono (by decide)) rfl T.f__law_draw T.k__law_draw b__law_draw .nil (fun _ _ => .nil) (da_cons (dv 0) (da_cons (dv 1) (da_cons (de_add (de_len T.b_len (dv 5)) de_int) da_nil)))) (de_ix de_str (de_call G__law_draw (hr.mono (by decide)) rfl T.f__law_draw T.k__law_draw b__law_draw .nil (fun _ _ => .nil) (da_cons (dv 0) (da_cons (dv 1) (da_cons de_int da_nil))))))
      (dss_one (ds_for PassesOwn.never rfl (di_seq (de_lst (da_cons (de_addS (de_addS (de_slice (dv 5) do_none (do_some (dv 7))) (dv 8)) (de_slice (dv 5) (do_some (dv 7)) do_none)) (da_cons (de_addS (de_slice (dv 5) do_none (do_some (dv 7))) (de_slice (dv 5) (do_some (de_add (dv 7) de_int)) do_none)) (da_cons (de_addS (de_addS (de_slice (dv 5) do_none (do_some (dv 7))) (dv 8)) (de_slice (dv 5) (do_some (de_add (dv 7) de_int)) do_none)) da_nil))))) (dg_name (i := 9) sc_law.nd) (dss_one (ds_if (dt_ne hr (de_heard (k := 4) F__law_heard b__law_heard T G__law_class b__law_class (by exact ⟨rfl, hch, bm, rfl, fun _ => rfl⟩) (hr.mono (by decide)) (by rfl) (N := ["_law_other"]) (js := [9]) (by exact lamScope_by rfl rfl rfl (by decide +kernel) (by decide +kernel) rfl) (by rfl) (by rfl) (by exact fun _ _ _ => rfl) (by rfl) (by rfl) (by rfl) (by rfl) (g := 13) (fun A' o' s' H' f cv hr => (de_callK0 G_read_plan (hr.mono (by decide)) rfl T.f_read_plan T.k_read_plan kb_read_plan kg_read_plan (dk_cons (dv 0) dk_nil))) (fun A' o' s' H' f cv E hr xr => (dx_callK0 xr X_read_plan (hr.mono (by decide)) rfl T.f_read_plan T.k_read_plan kb_read_plan kg_read_plan (dk_cons (dv 0) dk_nil)))) (de_call G__law_meant (hr.mono (by decide)) rfl T.f__law_meant T.k__law_meant b__law_meant .nil (fun _ _ => .nil) (da_cons (dv 9) da_nil))) (dss_one (ds_ret de_bl)) dss_nil))))))))))))
      (dss_cons (ds_set false (i := 10) sc_law.nd (de_lst (da_cons de_str (da_cons de_str (da_cons de_str (da_cons de_str (da_cons de_str (da_cons de_str (da_cons de_str (da_cons de_str (da_cons de_str (da_cons de_str (da_cons de_str (da_cons de_str da_nil))))))))))))))
      (dss_cons (ds_set false (i := 10) sc_law.nd (de_addL (dv 10) (de_lst (da_cons de_str (da_cons de_str (da_cons de_str da_nil))))))
      (dss_one (ds_ret (de_eq hr (de_lc rfl sc_law.nd (di_seq (dv 10)) (blkOk_by (own := [("_law_line", 5)]) (N := N_law) (sc := defScope s_law) (by decide +kernel)) (fun _ _ _ _ _ => (dg_name (i := 5) sc_law.nd)) (fun _ _ _ _ _ => dts_nil) (fun _ _ _ _ _ => (de_heardB (K' := K) (k := 4) F__law_heard T G__law_class b__law_class (by exact ⟨rfl, hch, bm, rfl⟩) (hr.mono (by decide)) (by rfl) (x := "_law_line") (j := 5) (by exact lamScope_by rfl rfl rfl (by decide +kernel) (by decide +kernel) rfl) (by exact fun _ h => clo_one h (by decide +kernel)) (by rfl) (by exact fun _ _ _ _ => rfl) (by rfl) (by rfl) (by rfl) (g := 13) (by exact (fun clos A' o' s' H' f cv hr => (de_call G_read_plan (hr.mono (by decide)) rfl T.f_read_plan T.k_read_plan b_read_plan .nil (fun _ _ => .nil) (da_cons (dv 0) da_nil)))) (by exact (fun clos A' o' s' H' f cv E hr xr => (dx_call xr X_read_plan (hr.mono (by decide)) rfl T.f_read_plan T.k_read_plan b_read_plan .nil (fun _ _ => .nil) (da_cons (dv 0) da_nil))))))) (de_lc rfl sc_law.nd (di_seq (dv 10)) (blkOk_by (own := [("_law_line", 5)]) (N := N_law) (sc := defScope s_law) (by decide +kernel)) (fun _ _ _ _ _ => (dg_name (i := 5) sc_law.nd)) (fun _ _ _ _ _ => dts_nil) (fun _ _ _ _ _ => (de_tup (da_cons de_str da_nil))))))))))))), law_readT 13 (by decide) (by decide) h fun ns hns => ?_⟩
    have hsl : sizeLine = 16777216 := sizeLine_eq
    have two : (2 : Nat) ≤ sizeLine := by decide
    have one : (1 : Nat) ≤ sizeLine := by decide
    refine ⟨2, rfl, by decide, by decide, rfl, fun _ => ?_⟩
    refine for_inv (fun ρ => ∃ s2 s3 s4 s5 s6 s7 s8 s9, ρ = [some (.dat (.lst (ns.map D.int))), some (.dat .town), s2, s3, s4, s5, s6, s7, s8, s9, none, none, none, some (.dat (.tab q))]) ?_ ?_ _ _ ⟨_, _, _, _, _, _, _, _, rfl⟩
    · rintro x ρ E1 ⟨s2, s3, s4, s5, s6, s7, s8, s9, rfl⟩ hrt hnx
      refine ⟨_, rfl, _, rfl, _, rfl, _, rfl, _, rfl, ns, 7, rfl, hns, by decide, by decide, fun sz z0 z1 => ⟨_, rfl, ?_⟩⟩
      refine ⟨_, rfl, _, rfl, by omega, by omega, fun _ => ?_⟩
      refine loopW_rel (g := fun (i : Nat) => D.int (0 + (i : Nat))) (Rel := fun _ d => ∃ p : Nat × Nat, Ok1 p ∧ d = drD p) (List.range sz.toNat) [] (fun i hi k hk => ?_) fun ds hds => ?_
      · refine ⟨_, rfl, _, rfl, _, rfl, _, rfl, _, rfl, ns, 4, rfl, hns, by decide, by decide, fun a a0 a1 => ⟨_, rfl, _, rfl, _, rfl, _, rfl, _, rfl, _, rfl, ns, 10, rfl, hns, by decide, by decide, fun b b0 b1 => ⟨_, rfl, two, _, rfl, hk _ ⟨(a.toNat, b.toNat), ⟨by show a.toNat < 4; omega, by show b.toNat < 10; omega⟩, ?_⟩⟩⟩⟩
        show D.tup [.int a, .int b] = D.tup [.int ((a.toNat : Nat) : Int), .int ((b.toNat : Nat) : Int)]
        rw [Int.toNat_of_nonneg a0, Int.toNat_of_nonneg b0]
      obtain ⟨ps, rfl, hok, hl⟩ : ∃ ps : List (Nat × Nat), ds = ps.map drD ∧ (∀ p ∈ ps, Ok1 p) ∧ ps.length ≤ 10 := by
        have key : ∀ {is : List Nat} {ds : List D}, Paired (fun _ d => ∃ p : Nat × Nat, Ok1 p ∧ d = drD p) is ds → ∃ ps : List (Nat × Nat), ds = ps.map drD ∧ (∀ p ∈ ps, Ok1 p) ∧ ps.length = is.length := by
          intro is ds h
          induction h with
          | nil => exact ⟨[], rfl, (fun p h => by cases h), rfl⟩
          | cons h t ih =>
            obtain ⟨p, hp, rfl⟩ := h
            obtain ⟨ps, rfl, he, hl⟩ := ih
            refine ⟨p :: ps, rfl, fun r hr => ?_, by rw [List.length_cons, List.length_cons, hl]⟩
            rcases List.mem_cons.mp hr with rfl | hr
            · exact hp
            · exact he r hr
        obtain ⟨ps, e, he, hl⟩ := key hds
        exact ⟨ps, e, he, by rw [hl, List.length_range]; omega⟩
      rw [List.nil_append]
      clear hds
      refine .inl ⟨_, rfl, _, rfl, ?_⟩
      refine ⟨⟨_, rfl⟩, _, rfl, .inl ⟨ps.map drD, .inr rfl, fun _ => ?_⟩⟩
      refine loopW_ix (f := fun p => some (.str (wdS p))) ps [] (fun p hp k hk => ?_) ?_
      · obtain ⟨h1, h2⟩ := hok p hp
        have at1 : (Str.ofString "@").length = 1 := by decide
        exact ⟨_, rfl, rfl, _, _, rfl, _, _, rfl, rfl, _, rfl, p.1, rfl, by omega, _, _, rfl, rfl, by rw [dig_len, at1]; omega, _, rfl, p.2, rfl, h2, _, _, rfl, rfl, by rw [str_len_app, dig_len, dig_len, at1]; omega, _, rfl, hk⟩
      rw [List.nil_append, show (fun p => some (D.str (wdS p))) = some ∘ (fun p => D.str (wdS p)) from rfl, List.filterMap_eq_map]
      have sp1 : (Str.ofString " ").length = 1 := by decide
      refine ⟨Str.ofString " ", ps.map wdS, rfl, .inl (by show D.lst _ = D.lst _; rw [List.map_map]; rfl), by rw [wd_sum, List.length_map, sp1]; omega, .dat (.str (lineP ps)), rfl, ?_⟩
      obtain ⟨hl1, hl2⟩ := linep_in hok hl
      have hlin : TxIn (lineP ps) := ⟨by omega, hl2⟩
      have okL := ok_S hlin
      have erd := read_plan_line hok
      refine ⟨_, rfl, _, rfl, ps, rfl, hok, hl, _, rfl, okL, okL, _, rfl, ?_⟩
      refine ne_no rfl okL ?_
      refine ⟨_, rfl, _, rfl, lineP ps, ps, rfl, hlin, erd, _, rfl, ok_plan ps, ok_plan ps, _, rfl, ne_no rfl (ok_plan ps) ?_⟩
      refine ⟨6, rfl, by decide, by decide, rfl, fun _ => ?_⟩
      refine for_inv (fun ρ => ∃ s2 s3 s6 s7 s8 s9, ρ = [some (.dat (.lst (ns.map D.int))), some (.dat .town), s2, s3, some (.dat (plnD ps)), some (.dat (.str (lineP ps))), s6, s7, s8, s9, none, none, none, some (.dat (.tab q))]) ?_ ?_ _ _ ⟨_, _, _, _, _, _, rfl⟩
      · rintro x2 ρ E2 ⟨s2, s3, s6, s7, s8, s9, rfl⟩ hrt2 hnx2
        refine ⟨_, rfl, _, rfl, _, rfl, _, rfl, _, rfl, _, .str _ (by omega), _, _, rfl, rfl, _, rfl, ns, (lineP ps).length + 1, rfl, hns, by omega, by omega, fun a0 a1 a2 => ?_⟩
        refine ⟨.dat (.int a0), rfl, _, rfl, _, rfl, _, rfl, _, rfl, _, rfl, ns, 13, rfl, hns, by decide, by decide, fun b0 b1 b2 => ?_⟩
        have h13 : (Str.ofString "0123459@ @ a-").length = 13 := by decide
        obtain ⟨sg0, hsg, oksg⟩ := sign_at (z := Str.ofString "0123459@ @ a-") (sok_lit (by decide)) b1 (by rw [h13]; omega)
        refine ⟨b0, rfl, .inr ⟨Str.ofString "0123459@ @ a-", sg0, rfl, by decide, hsg, _, rfl, ?_⟩⟩
        have hlz : (lineP ps).length ≤ sizeLine := by omega
        have hone : (⟨#[sg0]⟩ : Str).length = 1 := rfl
        have c1 := cutS_le (lineP ps) none (some a0)
        have c2 := cutS_le (lineP ps) (some a0) none
        have c3 := cutS_le (lineP ps) (some (a0 + 1)) none
        refine ⟨_, rfl, _, rfl, _, rfl, .inr (.inr ⟨_, rfl, hlz, _, rfl, _, _, rfl, rfl, by rw [hone]; omega, _, rfl, _, rfl, _, rfl, .inr (.inr ⟨_, rfl, hlz, _, _, rfl, rfl, by rw [str_len_app, hone]; omega, _, rfl, ?_⟩)⟩)⟩
        refine ⟨_, rfl, _, rfl, _, rfl, .inr (.inr ⟨_, rfl, hlz, _, rfl, _, rfl, _, _, rfl, rfl, _, rfl, .inr (.inr ⟨_, rfl, hlz, _, _, rfl, rfl, by omega, _, rfl, ?_⟩)⟩)⟩
        refine ⟨_, rfl, _, rfl, _, rfl, .inr (.inr ⟨_, rfl, hlz, _, rfl, _, _, rfl, rfl, by rw [hone]; omega, _, rfl, _, rfl, _, _, rfl, rfl, _, rfl, .inr (.inr ⟨_, rfl, hlz, _, _, rfl, rfl, by rw [str_len_app, hone]; omega, _, rfl, ?_⟩)⟩)⟩
        refine ⟨(by show 3 ≤ sizeLine; decide), .inl ⟨_, .inl rfl, rfl, fun _ => ?_⟩⟩
        have ok1 := strOk_cut hl2 none (some a0)
        have ok2 := strOk_cut hl2 (some a0) none
        have ok3 := strOk_cut hl2 (some (a0 + 1)) none
        refine for_list (G := D.str) (fun zs ρ => ∃ s2 s3 s6 s7 s8 s9, ρ = [some (.dat (.lst (ns.map D.int))), some (.dat .town), s2, s3, some (.dat (plnD ps)), some (.dat (.str (lineP ps))), s6, s7, s8, s9, none, none, none, some (.dat (.tab q))] ∧ ∀ z ∈ zs, TxIn z) ?_ ?_ [cutS (lineP ps) none (some a0) ++ ⟨#[sg0]⟩ ++ cutS (lineP ps) (some a0) none, cutS (lineP ps) none (some a0) ++ cutS (lineP ps) (some (a0 + 1)) none, cutS (lineP ps) none (some a0) ++ ⟨#[sg0]⟩ ++ cutS (lineP ps) (some (a0 + 1)) none] _ ⟨_, _, _, _, _, _, rfl, fun z hz => ?_⟩
        · rintro z zs ρ E3 ⟨s2, s3, s6, s7, s8, s9, rfl, hzs⟩ hrt3 hnx3
          have hz := hzs z List.mem_cons_self
          have okM := ok_meant z
          cases hrd : readPl z with
          | some ps2 =>
            have em : meantD z = toldP ps2 := by unfold meantD; rw [hrd]
            refine ⟨rfl, [.str z], rfl, .inl ⟨_, rfl, _, rfl, z, ps2, rfl, hz, hrd, _, rfl, ?_⟩⟩
            refine ⟨_, rfl, _, rfl, z, rfl, hz, ?_⟩
            rw [em]
            exact ⟨ok_toldP ps2, ok_toldP ps2, _, rfl, ne_no rfl (ok_toldP ps2) (hnx3 _ ⟨_, _, _, _, _, _, rfl, fun y hy => hzs y (List.mem_cons_of_mem _ hy)⟩)⟩
          | none =>
            have em : meantD z = ntD := by unfold meantD; rw [hrd]
            refine ⟨rfl, [.str z], rfl, .inr ⟨t.C_NoText, "no text", ref1, ⟨_, rfl, _, rfl, t.C_NoText, ⟨z, rfl, hz, hrd, rfl⟩, rfl⟩, ?_⟩⟩
            refine ⟨_, rfl, _, rfl, z, rfl, hz, ?_⟩
            rw [em]
            exact ⟨ok_nt, ok_nt, _, rfl, ne_no rfl ok_nt (hnx3 _ ⟨_, _, _, _, _, _, rfl, fun y hy => hzs y (List.mem_cons_of_mem _ hy)⟩)⟩
        · rintro ρ ⟨s2, s3, s6, s7, s8, s9, rfl, _⟩
          exact hnx2 _ ⟨_, _, _, _, _, _, rfl⟩
        · rcases List.mem_cons.mp hz with rfl | hz
          · exact ⟨by rw [str_len_app, str_len_app, hone]; omega, strOk_app (strOk_app ok1 oksg) ok2⟩
          · rcases List.mem_cons.mp hz with rfl | hz
            · exact ⟨by rw [str_len_app]; omega, strOk_app ok1 ok3⟩
            · rw [List.mem_singleton.mp hz]
              exact ⟨by rw [str_len_app, str_len_app, hone]; omega, strOk_app (strOk_app ok1 oksg) ok3⟩
      · rintro ρ ⟨s2, s3, s6, s7, s8, s9, rfl⟩
        exact hnx _ ⟨_, _, _, _, _, _, _, _, rfl⟩
    · rintro ρ ⟨s2, s3, s4, s5, s6, s7, s8, s9, rfl⟩
      refine ⟨_, rfl, _, rfl, _, rfl, _, rfl, _, rfl, _, rfl, _, rfl, _, rfl, _, rfl, _, rfl, _, rfl, _, rfl, (by show 12 ≤ sizeLine; decide), _, rfl, ?_⟩
      refine ⟨_, rfl, _, rfl, _, rfl, _, rfl, (by show 3 ≤ sizeLine; decide), _, _, rfl, rfl, by decide, .dat (.lst (badP.map D.str)), rfl, ?_⟩
      refine ⟨_, rfl, .inl ⟨_, .inl rfl, fun _ => ?_⟩⟩
      refine loopW_ix (f := fun _ => some ntD) badP [] (fun z hz k hk => ?_) ?_
      · obtain ⟨h1, h2⟩ := badP_in hz
        exact ⟨rfl, [.str z], rfl, .inr ⟨t.C_NoText, "no text", ref1, ⟨_, rfl, _, rfl, t.C_NoText, ⟨z, rfl, h1, h2, rfl⟩, rfl⟩, _, rfl, hk⟩⟩
      rw [List.nil_append]
      refine ⟨_, rfl, .inl ⟨_, .inl rfl, fun _ => ?_⟩⟩
      refine loopW_ix (f := fun _ => some ntD) badP [] (fun z hz k hk => ?_) ?_
      · exact ⟨_, rfl, one, _, rfl, hk⟩
      rw [List.nil_append]
      refine ⟨ok_ntL badP, ok_ntL badP, _, rfl, ?_⟩
      show D.bl (eqD (ntL badP) (ntL badP)) = D.bl true
      rw [eqD_refl (ok_ntL badP)]
end
end K41
set_option Elab.async false
set_option linter.all false
set_option maxRecDepth 100000
set_option maxHeartbeats 4000000
namespace K41
open PySem PySem.Spec PyProof.Rows L2 L3
theorem all_mk {l : PySem.W.OpenLaw} {w : World} {K : Frag} {h : Heap} {mg : Str → Option Value} {fa q : Addr} (X : K.In h) (G : h.Ns mainGlobals mg) (hfa : mg "law" = some (.ref fa))
    {f0 : Addr} {od0 an0 : Option Addr} {sl0 : Array (Option Value)} {oc0 kV0 dc0 pm0 cd0 ct0 : Value}
    (a0 : PySem.W.nsIn K mainGlobals "plan_text" = some (some (.ref f0))) (l0 : K.lookup f0 = some ⟨oc0, od0, .func (PySem.W.fnOf "plan_text" "plan_text" (defArgs s_plan_text) (defBody s_plan_text) (defScope s_plan_text) .none kV0 dc0 pm0 an0 cd0 ct0), sl0⟩) (c0 : PySem.W.codeIn K cd0 "plan_text" = true) (k0 : PySem.W.keepIn K (.ref f0) = true)
    {f1 : Addr} {od1 an1 : Option Addr} {sl1 : Array (Option Value)} {oc1 kV1 dc1 pm1 cd1 ct1 : Value}
    (a1 : PySem.W.nsIn K mainGlobals "read_plan" = some (some (.ref f1))) (l1 : K.lookup f1 = some ⟨oc1, od1, .func (PySem.W.fnOf "read_plan" "read_plan" (defArgs s_read_plan) (defBody s_read_plan) (defScope s_read_plan) .none kV1 dc1 pm1 an1 cd1 ct1), sl1⟩) (c1 : PySem.W.codeIn K cd1 "read_plan" = true) (k1 : PySem.W.keepIn K (.ref f1) = true)
    {f2 : Addr} {od2 an2 : Option Addr} {sl2 : Array (Option Value)} {oc2 kV2 dc2 pm2 cd2 ct2 : Value}
    (a2 : PySem.W.nsIn K mainGlobals "read_drop" = some (some (.ref f2))) (l2 : K.lookup f2 = some ⟨oc2, od2, .func (PySem.W.fnOf "read_drop" "read_drop" (defArgs s_read_drop) (defBody s_read_drop) (defScope s_read_drop) .none kV2 dc2 pm2 an2 cd2 ct2), sl2⟩) (c2 : PySem.W.codeIn K cd2 "read_drop" = true) (k2 : PySem.W.keepIn K (.ref f2) = true)
    {f3 : Addr} {od3 an3 : Option Addr} {sl3 : Array (Option Value)} {oc3 kV3 dc3 pm3 cd3 ct3 : Value}
    (a3 : PySem.W.nsIn K mainGlobals "_law_draw" = some (some (.ref f3))) (l3 : K.lookup f3 = some ⟨oc3, od3, .func (PySem.W.fnOf "_law_draw" "_law_draw" (defArgs s__law_draw) (defBody s__law_draw) (defScope s__law_draw) .none kV3 dc3 pm3 an3 cd3 ct3), sl3⟩) (c3 : PySem.W.codeIn K cd3 "_law_draw" = true) (k3 : PySem.W.keepIn K (.ref f3) = true)
    {f4 : Addr} {od4 an4 : Option Addr} {sl4 : Array (Option Value)} {oc4 kV4 dc4 pm4 cd4 ct4 : Value}
    (a4 : PySem.W.nsIn K mainGlobals "_law_begun" = some (some (.ref f4))) (l4 : K.lookup f4 = some ⟨oc4, od4, .func (PySem.W.fnOf "_law_begun" "_law_begun" (defArgs s__law_begun) (defBody s__law_begun) (defScope s__law_begun) .none kV4 dc4 pm4 an4 cd4 ct4), sl4⟩) (c4 : PySem.W.codeIn K cd4 "_law_begun" = true) (k4 : PySem.W.keepIn K (.ref f4) = true)
    {f5 : Addr} {od5 an5 : Option Addr} {sl5 : Array (Option Value)} {oc5 kV5 dc5 pm5 cd5 ct5 : Value}
    (a5 : PySem.W.nsIn K mainGlobals "_law_class" = some (some (.ref f5))) (l5 : K.lookup f5 = some ⟨oc5, od5, .func (PySem.W.fnOf "_law_class" "_law_class" (defArgs s__law_class) (defBody s__law_class) (defScope s__law_class) .none kV5 dc5 pm5 an5 cd5 ct5), sl5⟩) (c5 : PySem.W.codeIn K cd5 "_law_class" = true) (k5 : PySem.W.keepIn K (.ref f5) = true)
    {f6 : Addr} {od6 an6 : Option Addr} {sl6 : Array (Option Value)} {oc6 kV6 dc6 pm6 cd6 ct6 : Value}
    (a6 : PySem.W.nsIn K mainGlobals "_law_heard" = some (some (.ref f6))) (l6 : K.lookup f6 = some ⟨oc6, od6, .func (PySem.W.fnOf "_law_heard" "_law_heard" (defArgs s__law_heard) (defBody s__law_heard) (defScope s__law_heard) .none kV6 dc6 pm6 an6 cd6 ct6), sl6⟩) (c6 : PySem.W.codeIn K cd6 "_law_heard" = true) (k6 : PySem.W.keepIn K (.ref f6) = true)
    {f7 : Addr} {od7 an7 : Option Addr} {sl7 : Array (Option Value)} {oc7 kV7 dc7 pm7 cd7 ct7 : Value}
    (a7 : PySem.W.nsIn K mainGlobals "_law_meant" = some (some (.ref f7))) (l7 : K.lookup f7 = some ⟨oc7, od7, .func (PySem.W.fnOf "_law_meant" "_law_meant" (defArgs s__law_meant) (defBody s__law_meant) (defScope s__law_meant) .none kV7 dc7 pm7 an7 cd7 ct7), sl7⟩) (c7 : PySem.W.codeIn K cd7 "_law_meant" = true) (k7 : PySem.W.keepIn K (.ref f7) = true)
    {f8 : Addr} {od8 an8 : Option Addr} {sl8 : Array (Option Value)} {oc8 kV8 dc8 pm8  ct8 : Value} {cL : Addr}
    (a8 : PySem.W.nsIn K mainGlobals "law" = some (some (.ref f8))) (l8 : K.lookup f8 = some ⟨oc8, od8, .func (PySem.W.fnOf "law" "law" (defArgs s_law) (defBody s_law) (defScope s_law) .none kV8 dc8 pm8 an8 (.ref cL) ct8), sl8⟩) (c8 : PySem.W.codeIn K (.ref cL) "law" = true) (k8 : PySem.W.keepIn K (.ref f8) = true)
    {u0 : Tok} (q0 : PySem.W.nsIn K mainGlobals "FIGURES" = some (some (.str "0123456789" u0)))
    {u1 : Tok} (q1 : PySem.W.nsIn K mainGlobals "TIMES" = some (some (.str "0123" u1)))
    (z0 : PySem.W.nsIn K mainGlobals "ValueError" = some none)
    (z1 : PySem.W.nsIn K mainGlobals "dict" = some none)
    (z2 : PySem.W.nsIn K mainGlobals "int" = some none)
    (z3 : PySem.W.nsIn K mainGlobals "isinstance" = some none)
    (z4 : PySem.W.nsIn K mainGlobals "len" = some none)
    (z5 : PySem.W.nsIn K mainGlobals "range" = some none)
    (z6 : PySem.W.nsIn K mainGlobals "str" = some none)
    (z7 : PySem.W.nsIn K mainGlobals "tuple" = some none)
    {C_ShaftError : Addr} (n_ShaftError : PySem.W.nsIn K mainGlobals "ShaftError" = some (some (.ref C_ShaftError)))
    {C_NoPlace : Addr} (n_NoPlace : PySem.W.nsIn K mainGlobals "NoPlace" = some (some (.ref C_NoPlace)))
    {C_Over : Addr} (n_Over : PySem.W.nsIn K mainGlobals "Over" = some (some (.ref C_Over)))
    {C_NoPlan : Addr} (n_NoPlan : PySem.W.nsIn K mainGlobals "NoPlan" = some (some (.ref C_NoPlan)))
    {C_NoPiece : Addr} (n_NoPiece : PySem.W.nsIn K mainGlobals "NoPiece" = some (some (.ref C_NoPiece)))
    {C_NoBack : Addr} (n_NoBack : PySem.W.nsIn K mainGlobals "NoBack" = some (some (.ref C_NoBack)))
    {C_NoText : Addr} (n_NoText : PySem.W.nsIn K mainGlobals "NoText" = some (some (.ref C_NoText)))
    (x_NoText : PySem.W.excIn K C_NoText bmV "ValueError.__new__" = true) (sh_NoText : PySem.W.exmOne K (.ref C_NoText) (.ref C_ShaftError) = some true) (va_NoText : PySem.W.kitOne K (.ref C_NoText) (.type "ValueError") = some true)
    (i_NoText_NoPlace : PySem.W.kitOne K (.ref C_NoText) (.ref C_NoPlace) = some false)
    (i_NoText_Over : PySem.W.kitOne K (.ref C_NoText) (.ref C_Over) = some false)
    (i_NoText_NoPlan : PySem.W.kitOne K (.ref C_NoText) (.ref C_NoPlan) = some false)
    (i_NoText_NoPiece : PySem.W.kitOne K (.ref C_NoText) (.ref C_NoPiece) = some false)
    (i_NoText_NoBack : PySem.W.kitOne K (.ref C_NoText) (.ref C_NoBack) = some false)
    (i_NoText_NoText : PySem.W.kitOne K (.ref C_NoText) (.ref C_NoText) = some true)
    (ga_NoText : PySem.W.findIn K (.ref C_NoText) "__getattribute__" = some (some (.builtin "BaseException.__getattribute__")))
    (gt_NoText : PySem.W.findIn K (.ref C_NoText) "__getattr__" = some none)
    (cl_NoText : PySem.W.findIn K (.ref C_NoText) "__class__" = some (some (.builtin "object.__class__")))
    (sb_NoText : PySem.W.subIn K (.ref C_NoText) (.type "BaseException") = some true)
    (ob_NoText : PySem.W.mroIn K C_NoText (.type "object") = some true)
    {c0_NoText : Value} {dd_NoText : Option Addr} {cc_NoText : ClassData} {cs_NoText : Array (Option Value)} (lk_NoText : K.lookup C_NoText = some ⟨c0_NoText, dd_NoText, .cls cc_NoText, cs_NoText⟩)
    (tq : K.lookup q = none) (tc : PySem.W.codeHdIn K cL q = true)
    : ∃ (fd : FuncData) (c : Addr), K.lookup q = none ∧ PySem.W.codeHdIn K c q = true ∧ (∀ (s : Shared) (v : Value), BindsTo s fd ⟨[v], []⟩ [("_law_script", v)]) ∧ ∀ base : Heap, K.In base → base.Ns mainGlobals mg → BMain mg base → FnOk l.prog w K mg base CX0 8 fa fd ["_law_script"] (spLawT K q) := by
  have e := hfa.symm.trans (PySem.W.mg_of X G a8)
  cases e
  have T : Txt K mg ⟨f0, f1, f2, f3, f4, f5, f6, f7, fa, u0, u1, C_ShaftError, C_NoPlace, C_Over, C_NoPlan, C_NoPiece, C_NoBack, C_NoText⟩ := ⟨PySem.W.mg_none_of X G z0, PySem.W.mg_none_of X G z1, PySem.W.mg_none_of X G z2, PySem.W.mg_none_of X G z3, PySem.W.mg_none_of X G z4, PySem.W.mg_none_of X G z5, PySem.W.mg_none_of X G z6, PySem.W.mg_none_of X G z7, PySem.W.mg_of X G q0, PySem.W.mg_of X G q1, PySem.W.mg_of X G n_ShaftError, PySem.W.mg_of X G n_NoPlace, PySem.W.mg_of X G n_Over, PySem.W.mg_of X G n_NoPlan, PySem.W.mg_of X G n_NoPiece, PySem.W.mg_of X G n_NoBack, PySem.W.mg_of X G n_NoText, PySem.W.mg_of X G a0, k0, PySem.W.mg_of X G a1, k1, PySem.W.mg_of X G a2, k2, PySem.W.mg_of X G a3, k3, PySem.W.mg_of X G a4, k4, PySem.W.mg_of X G a5, k5, PySem.W.mg_of X G a6, k6, PySem.W.mg_of X G a7, k7, PySem.W.mg_of X G a8, k8⟩
  have kd_NoText : Kind K C_ShaftError [C_NoPlace, C_Over, C_NoPlan, C_NoPiece, C_NoBack, C_NoText] C_NoText [false, false, false, false, false, true] := ⟨x_NoText, sh_NoText, by rw [List.map_cons, List.map_cons, List.map_cons, List.map_cons, List.map_cons, List.map_cons, i_NoText_NoPlace, i_NoText_Over, i_NoText_NoPlan, i_NoText_NoPiece, i_NoText_NoBack, i_NoText_NoText]; rfl, va_NoText, ⟨ga_NoText, gt_NoText, cl_NoText, sb_NoText, ob_NoText⟩, _, _, _, _, lk_NoText⟩
  have ref_NoText : Refuses K C_ShaftError [C_NoPlace, C_Over, C_NoPlan, C_NoPiece, C_NoBack, C_NoText] C_NoText "no text" := ⟨_, 5, kd_NoText, rfl, rfl, rfl, fun m hm => by match m, hm with | 0, _ => rfl | 1, _ => rfl | 2, _ => rfl | 3, _ => rfl | 4, _ => rfl, rfl, strOk_of (by decide), by decide⟩
  have F_plan_text := fun_mkG (st := s_plan_text) l0 c0 k0
  have b_plan_text := F_plan_text.binds (ps := P_plan_text) fun _ _ _ _ _ _ us hl => match us, hl with | [_], _ => rfl
  have F_read_plan := fun_mkG (st := s_read_plan) l1 c1 k1
  have b_read_plan := F_read_plan.binds (ps := P_read_plan) fun _ _ _ _ _ _ us hl => match us, hl with | [_], _ => rfl
  have F_read_drop := fun_mkG (st := s_read_drop) l2 c2 k2
  have b_read_drop := F_read_drop.binds (ps := P_read_drop) fun _ _ _ _ _ _ us hl => match us, hl with | [_], _ => rfl
  have F__law_draw := fun_mkG (st := s__law_draw) l3 c3 k3
  have b__law_draw := F__law_draw.binds (ps := P__law_draw) fun _ _ _ _ _ _ us hl => match us, hl with | [_, _, _], _ => rfl
  have F__law_begun := fun_mkG (st := s__law_begun) l4 c4 k4
  have b__law_begun := F__law_begun.binds (ps := P__law_begun) fun _ _ _ _ _ _ us hl => match us, hl with | [], _ => rfl
  have F__law_class := fun_mkG (st := s__law_class) l5 c5 k5
  have b__law_class := F__law_class.binds (ps := P__law_class) fun _ _ _ _ _ _ us hl => match us, hl with | [_], _ => rfl
  have F__law_heard := fun_mkG (st := s__law_heard) l6 c6 k6
  have b__law_heard := F__law_heard.binds (ps := P__law_heard) fun _ _ _ _ _ _ us hl => match us, hl with | [_], _ => rfl
  have F__law_meant := fun_mkG (st := s__law_meant) l7 c7 k7
  have b__law_meant := F__law_meant.binds (ps := P__law_meant) fun _ _ _ _ _ _ us hl => match us, hl with | [_], _ => rfl
  have kb_read_plan : KBinds K (PySem.W.fnOf "read_plan" "read_plan" (defArgs s_read_plan) (defBody s_read_plan) (defScope s_read_plan) .none kV1 dc1 pm1 an1 cd1 ct1) P_read_plan ["text"] (kwG 0) (kwG 0) := by
    refine ⟨fun s us ws KX hl => ?_, fun h1 h2 => kwG_rel 0 h1 h2⟩
    match us, ws, kwG_len hl (by decide) with
    | [], [d], _ => exact .of_eq rfl
  refine ⟨(PySem.W.fnOf "law" "law" (defArgs s_law) (defBody s_law) (defScope s_law) .none kV8 dc8 pm8 an8 (.ref cL) ct8), cL, tq, tc, fun s v => .of_eq rfl, fun base kb nb bm => ?_⟩
  have G6 := ok__law_draw (P := l.prog) (w := w) (base := base) F__law_draw T
  have G7 := ok__law_begun (P := l.prog) (w := w) (base := base) F__law_begun T
  have E1 := ok_plan_text (P := l.prog) (w := w) (base := base) F_plan_text T
  have E2 := ok_read_drop (P := l.prog) (w := w) (base := base) F_read_drop T
  have X2 := okX_read_drop (P := l.prog) (w := w) (base := base) F_read_drop T x_NoText
  have E4 := ok_read_plan (P := l.prog) (w := w) (base := base) F_read_plan T E2 b_read_drop
  have X4 := okX_read_plan (P := l.prog) (w := w) (base := base) F_read_plan T E2 b_read_drop X2
  have I9 := ok__law_class (P := l.prog) (w := w) (base := base) F__law_class T
  have M1 := ok__law_meant (P := l.prog) (w := w) (base := base) F__law_meant T
  exact ok_law l8 c8 tc bm T G7 b__law_begun G6 b__law_draw E1 b_plan_text E4 b_read_plan X4 kb_read_plan M1 b__law_meant F__law_heard b__law_heard I9 b__law_class ref_NoText
end K41
open PySem PySem.W PyProof.Rows
set_option maxRecDepth 100000 in
set_option maxHeartbeats 0 in
theorem PySem.Challenge.cw_shaftfall_k41_plan_texts_holds : PySem.Challenge.rw_shaftfall_k41_plan_texts.Holds := by
  w_on; o_law; k_head; (case hw => w_witness2)
  k_fill
  refine L3.walk_T (l := PySem.Challenge.rw_shaftfall_k41_plan_texts) (n := 63) (k := 8) (x := "_law_script") rfl (by decide) rfl ⟨rfl, by decide, by decide⟩ (fun w h Y => ⟨PySem.W.km_in_of Y, PySem.W.km_tabs_of Y _ List.mem_cons_self⟩) ?F
  case F =>
    intro w mg fa h KX G hmg
    refine' K41.all_mk KX G hmg ?ya0 ?yl0 ?yc0 ?yk0 ?ya1 ?yl1 ?yc1 ?yk1 ?ya2 ?yl2 ?yc2 ?yk2 ?ya3 ?yl3 ?yc3 ?yk3 ?ya4 ?yl4 ?yc4 ?yk4 ?ya5 ?yl5 ?yc5 ?yk5 ?ya6 ?yl6 ?yc6 ?yk6 ?ya7 ?yl7 ?yc7 ?yk7 ?ya8 ?yl8 ?yc8 ?yk8 ?yq0 ?yq1 ?yz0 ?yz1 ?yz2 ?yz3 ?yz4 ?yz5 ?yz6 ?yz7 ?yn_ShaftError ?yn_NoPlace ?yn_Over ?yn_NoPlan ?yn_NoPiece ?yn_NoBack ?yn_NoText ?yx_NoText ?ysh_NoText ?yva_NoText ?yi_NoText_NoPlace ?yi_NoText_Over ?yi_NoText_NoPlan ?yi_NoText_NoPiece ?yi_NoText_NoBack ?yi_NoText_NoText ?yga_NoText ?ygt_NoText ?ycl_NoText ?ysb_NoText ?yob_NoText ?ylk_NoText ?ytq ?ytc
    (case ya0 => k_is)
    (case yl0 => k_is)
    (case yc0 => k_is)
    (case yk0 => k_is)
    (case ya1 => k_is)
    (case yl1 => k_is)
    (case yc1 => k_is)
    (case yk1 => k_is)
    (case ya2 => k_is)
    (case yl2 => k_is)
    (case yc2 => k_is)
    (case yk2 => k_is)
    (case ya3 => k_is)
    (case yl3 => k_is)
    (case yc3 => k_is)
    (case yk3 => k_is)
    (case ya4 => k_is)
    (case yl4 => k_is)
    (case yc4 => k_is)
    (case yk4 => k_is)
    (case ya5 => k_is)
    (case yl5 => k_is)
    (case yc5 => k_is)
    (case yk5 => k_is)
    (case ya6 => k_is)
    (case yl6 => k_is)
    (case yc6 => k_is)
    (case yk6 => k_is)
    (case ya7 => k_is)
    (case yl7 => k_is)
    (case yc7 => k_is)
    (case yk7 => k_is)
    (case ya8 => k_is)
    (case yl8 => k_is)
    (case yc8 => k_is)
    (case yk8 => k_is)
    (case yq0 => k_is)
    (case yq1 => k_is)
    (case yz0 => k_is)
    (case yz1 => k_is)
    (case yz2 => k_is)
    (case yz3 => k_is)
    (case yz4 => k_is)
    (case yz5 => k_is)
    (case yz6 => k_is)
    (case yz7 => k_is)
    (case yn_ShaftError => k_is)
    (case yn_NoPlace => k_is)
    (case yn_Over => k_is)
    (case yn_NoPlan => k_is)
    (case yn_NoPiece => k_is)
    (case yn_NoBack => k_is)
    (case yn_NoText => k_is)
    (case yx_NoText => k_exc)
    (case ysh_NoText => kts_exm)
    (case yva_NoText => kit_is)
    (case yi_NoText_NoPlace => kit_is)
    (case yi_NoText_Over => kit_is)
    (case yi_NoText_NoPlan => kit_is)
    (case yi_NoText_NoPiece => kit_is)
    (case yi_NoText_NoBack => kit_is)
    (case yi_NoText_NoText => kit_is)
    (case yga_NoText => k_is)
    (case ygt_NoText => k_is)
    (case ycl_NoText => k_is)
    (case ysb_NoText => k_is)
    (case yob_NoText => k_is)
    (case ylk_NoText => k_is)
    (case ytq => kernel_rfl)
    (case ytc => kernel_rfl)
