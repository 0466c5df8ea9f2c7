import PyProof.Rows.All
import Wide.All
import OpenK.AllK
import Wide.FinOn
import PyProof.EqAt
import PyProof.EqKinds
import PyProof.TupleCall
import KE.BitLaws
import PyProof.ExcBaseAll.ValueError
import PySem.Challenge.RW_probeties_k04_whole_things_as_routes
-- CHANGE: your row's module here, as the last of these rows
set_option Elab.async false
set_option linter.all false
set_option maxRecDepth 100000
namespace L2
open PySem PySem.Spec PyProof.Rows
abbrev Key := Sum Int Str
def keyIs : Key → Value → Bool
  | .inl k, v => Value.isInt k v
  | .inr x, v => Value.isStrOf x v
def keyH (w : World) : Key → Int
  | .inl k => hashInt k
  | .inr x => hashStr w x
theorem keyIs_shape : ∀ {k : Key} {v : Value}, keyIs k v = true → (∃ i t, k = Sum.inl i ∧ v = Value.int i t) ∨ (∃ x t, k = Sum.inr x ∧ v = Value.str x t)
  | .inl i, v, h => by
    obtain ⟨t, e⟩ := Value.isInt_shape (k := i) (v := v) h
    exact .inl ⟨i, t, rfl, e⟩
  | .inr x, v, h => by
    obtain ⟨t, e⟩ := Value.isStrOf_shape (x := x) (v := v) h
    exact .inr ⟨x, t, rfl, e⟩
theorem keyIs_int (i : Int) (t : Tok) : keyIs (.inl i) (.int i t) = true := by simp [keyIs, Value.isInt]
theorem keyIs_str (x : Str) (t : Tok) : keyIs (.inr x) (.str x t) = true := by simp [keyIs, Value.isStrOf]
theorem key_ll (a b : Int) : decide ((Sum.inl a : Key) = Sum.inl b) = (a == b) := by
  by_cases e : a = b
  · subst e; simp
  · have h : ¬ (Sum.inl a : Key) = Sum.inl b := fun q => e (Sum.inl.inj q)
    rw [decide_eq_false h]
    exact (beq_eq_false_iff_ne.mpr e).symm
theorem key_rr (a b : Str) : decide ((Sum.inr a : Key) = Sum.inr b) = decide (a = b) := by
  by_cases e : a = b
  · subst e; simp
  · have h : ¬ (Sum.inr a : Key) = Sum.inr b := fun q => e (Sum.inr.inj q)
    rw [decide_eq_false h, decide_eq_false e]
theorem key_lr (a : Int) (b : Str) : decide ((Sum.inl a : Key) = Sum.inr b) = false := decide_eq_false (fun q => nomatch q)
theorem key_rl (a : Str) (b : Int) : decide ((Sum.inr a : Key) = Sum.inl b) = false := decide_eq_false (fun q => nomatch q)
def mixKind (prog : Program) (w : World) : PySem.KeyKind prog w Key where
  is := keyIs
  hash := keyH w
  inj := fun v a b ha hb => by
    rcases keyIs_shape ha with ⟨i, t, rfl, rfl⟩ | ⟨x, t, rfl, rfl⟩
    · rcases keyIs_shape hb with ⟨j, u, rfl, e⟩ | ⟨y, u, rfl, e⟩
      · injection e with e1 _; rw [e1]
      · exact nomatch e
    · rcases keyIs_shape hb with ⟨j, u, rfl, e⟩ | ⟨y, u, rfl, e⟩
      · exact nomatch e
      · injection e with e1 _; rw [e1]
  byValue := fun k v h => by
    rcases keyIs_shape h with ⟨i, t, rfl, rfl⟩ | ⟨x, t, rfl, rfl⟩ <;> rfl
  pyHash := fun hv h => by
    rcases keyIs_shape hv with ⟨i, t, rfl, rfl⟩ | ⟨x, t, rfl, rfl⟩
    · exact wpAny_pyHash_int h
    · exact wpAny_pyHash_str h
  eqBool := fun hu hv h => by
    rcases keyIs_shape hu with ⟨i, t, rfl, rfl⟩ | ⟨x, t, rfl, rfl⟩
    · rcases keyIs_shape hv with ⟨j, u, rfl, rfl⟩ | ⟨y, u, rfl, rfl⟩
      · rw [key_ll] at h; exact wpAny_eqBool_int h
      · rw [key_lr] at h; exact SeqAt.EqAt.int_str i t y u _ _ _ _ h
    · rcases keyIs_shape hv with ⟨j, u, rfl, rfl⟩ | ⟨y, u, rfl, rfl⟩
      · rw [key_rl] at h; exact SeqAt.EqAt.str_int x t j u _ _ _ _ h
      · rw [key_rr] at h; exact wpAny_eqBool_str h
  «strs» := fun k x t v h => by
    rcases keyIs_shape h with ⟨i, u, rfl, e⟩ | ⟨y, u, rfl, e⟩
    · exact nomatch e
    · injection e with e1 _
      subst e1
      cases v <;> rfl
theorem mixKind_int (prog : Program) (w : World) (i : Int) (t : Tok) : (mixKind prog w).is (.inl i) (.int i t) = true := keyIs_int i t
theorem mixKind_str (prog : Program) (w : World) (x : Str) (t : Tok) : (mixKind prog w).is (.inr x) (.str x t) = true := keyIs_str x t
end L2
namespace L2
open PySem PySem.Spec PyProof.Rows
inductive V where
  | non | bl (b : Bool) | int (i : Int) | str (x : Str) | byt (b : Array UInt8) | flt (b : UInt64) | ref (a : Addr) | ty (n : String)
  deriving DecidableEq
def RelV : V → Value → Prop
  | .non, u => u = Value.none
  | .bl b, u => u = Value.bool b
  | .int i, u => ∃ t, u = Value.int i t
  | .str x, u => ∃ t, u = Value.str x t
  | .byt b, u => ∃ t, u = Value.bytes b t
  | .flt b, u => ∃ t, u = Value.float b t
  | .ref a, u => u = Value.ref a
  | .ty n, u => u = Value.type n
abbrev Vals : List V → List Value → Prop := Paired RelV
theorem Vals.length {xs : List V} {us : List Value} (r : Vals xs us) : xs.length = us.length := Paired.length r
theorem Vals.get : ∀ {xs : List V} {us : List Value} {i : Nat} {x : V}, Vals xs us → xs[i]? = some x → ∃ u, us[i]? = some u ∧ RelV x u
  | _, _, _, _, .nil, e => by simp at e
  | _, _, 0, _, .cons r _, e => by simp at e; subst e; exact ⟨_, rfl, r⟩
  | _, _, i + 1, x, .cons _ t, e => by
    obtain ⟨u, h1, h2⟩ := Vals.get (i := i) (x := x) t (by simpa using e)
    exact ⟨u, by simpa using h1, h2⟩
theorem Vals.set {x : V} {u : Value} (r : RelV x u) : ∀ {xs : List V} {us : List Value} (i : Nat), Vals xs us → Vals (xs.set i x) (us.set i u)
  | _, _, _, .nil => .nil
  | _, _, 0, .cons _ t => .cons r t
  | _, _, i + 1, .cons q t => .cons q (Vals.set r i t)
theorem Vals.append : ∀ {xs ys : List V} {us ws : List Value}, Vals xs us → Vals ys ws → Vals (xs ++ ys) (us ++ ws)
  | _, _, _, _, .nil, s => s
  | _, _, _, _, .cons r t, s => .cons r (Vals.append t s)
theorem Vals.take : ∀ {xs : List V} {us : List Value} (n : Nat), Vals xs us → Vals (xs.take n) (us.take n)
  | _, _, 0, _ => .nil
  | _, _, _ + 1, .nil => .nil
  | _, _, n + 1, .cons r t => .cons r (Vals.take n t)
theorem Vals.drop : ∀ {xs : List V} {us : List Value} (n : Nat), Vals xs us → Vals (xs.drop n) (us.drop n)
  | _, _, 0, r => r
  | _, _, _ + 1, .nil => .nil
  | _, _, n + 1, .cons _ t => Vals.drop n t
def RelO : Option V → Option Value → Prop
  | some v, some u => RelV v u
  | none, none => True
  | _, _ => False
def KV {κ : Type} : List (κ × V) → List (κ × Value) → Prop := Paired fun (p : κ × V) (q : κ × Value) => p.1 = q.1 ∧ RelV p.2 q.2
def kV : Key → V
  | .inl i => .int i
  | .inr x => .str x
inductive HO where
  /-- a list -/
  | lst (xs : List V)
  /-- a tuple (never changes) -/
  | tup (xs : List V)
  /-- a dict whose keys are ints and texts; one whose keys are tuples of ints and texts (the empty one is both) -/
  | dK (kvs : List (Key × V)) | dT (kvs : List (List Key × V))
  /-- a set of ints: its members, its size -/
  | set (S : Int → Bool) (n : Nat)
  /-- an instance of the class at C, its dict at dx, its attributes -/
  | ins (C dx : Addr) (fs : List (Str × V))
  /-- the dict of the instance at x -/
  | own (x : Addr)
  /-- the dict of an exception -/
  | xd (fs : List (Str × V))
  /-- a bound method, f of x -/
  | met (f x : Addr)
  /-- a range object lo, lo + 1, .. below hi -/
  | rng (lo hi : Int)
  /-- a thing that is known to the object (the script; a dict while a loop walks it): read, never written while it is so -/
  | frz (o : Obj) (u : HO)
  /-- a code object's table -/
  | tbl (ps : Array Value)
  /-- any other thing, by what is true of its one object (a def of one's own: SetO a S n := HO.ext fun h => ..) -/
  | ext (φ : Heap → Prop)
abbrev Hp := Addr → Option HO
def upd (H : Hp) (a : Addr) (o : HO) : Hp := fun b => if b = a then some o else H b
theorem upd_same {H : Hp} {a : Addr} {o : HO} : upd H a o a = some o := by unfold upd; rw [if_pos rfl]
theorem upd_ne {H : Hp} {a b : Addr} {o : HO} (h : b ≠ a) : upd H a o b = H b := by unfold upd; rw [if_neg h]
theorem upd_upd {H : Hp} {a : Addr} {o u : HO} : upd (upd H a o) a u = upd H a u := by
  funext b; unfold upd; split <;> rfl
theorem ne_of {H : Hp} {a b : Addr} {o u : HO} (h : H a = some o) (h' : H b = some u) (d : o ≠ u) : a ≠ b := by
  intro e; subst e; rw [h] at h'; exact d (Option.some.inj h')
theorem ne_of_none {H : Hp} {a b : Addr} {o : HO} (h : H a = some o) (h' : H b = none) : a ≠ b := by
  intro e; subst e; rw [h] at h'; cases h'
def IsTD (h : Heap) (a : Addr) (xs : Array Value) : Prop := ∃ o, h.get? a = some o ∧ o.cls = .type "tuple" ∧ ∃ n, (o.data, o.dict) = (Data.seq xs n, none)
theorem IsTD.tup {h : Heap} {a : Addr} {xs : Array Value} (x : IsTD h a xs) : IsTup h a xs := by
  obtain ⟨o, e, c, n, d⟩ := x
  exact ⟨o, e, c, n, (Prod.mk.inj d).1⟩
theorem IsTD.bare {h : Heap} {a : Addr} {xs : Array Value} (x : IsTD h a xs) : ∃ o, h.get? a = some o ∧ o.dict = none := by
  obtain ⟨o, e, c, n, d⟩ := x
  exact ⟨o, e, (Prod.mk.inj d).2⟩
theorem IsTD.new (h : Heap) (xs : Array Value) : IsTD (h.push { cls := .type "tuple", data := .seq xs }) h.objs.size xs := ⟨_, Heap.get?_push_size _ rfl, rfl, _, rfl⟩
theorem IsTD.lt {h : Heap} {a : Addr} {xs : Array Value} (x : IsTD h a xs) : a < h.objs.size := x.tup.lt
section
variable (P : Program) (w : World)
def ObjOk (H : Hp) (h : Heap) (a : Addr) : HO → Prop
  | .lst xs => xs.length ≤ sizeLine ∧ ∃ (its : List Value) (n : Nat), Vals xs its ∧ h.get? a = some { cls := .type "list", data := .seq its.toArray n }
  | .tup xs => xs.length ≤ sizeLine ∧ ∃ its : List Value, Vals xs its ∧ IsTD h a its.toArray
  | .dK kvs => kvs.length ≤ sizeLine ∧ (a == sysModules) = false ∧ ∃ vs, KV kvs vs ∧ h.DictOf (mixKind P w) a vs
  | .dT kvs => kvs.length ≤ sizeLine ∧ (a == sysModules) = false ∧ ∃ xs : List (List Key × Addr × Value),
      Paired (fun (p : List Key × V) (q : List Key × Addr × Value) => p.1 = q.1 ∧ H q.2.1 = some (.tup (p.1.map kV)) ∧ RelV p.2 q.2.2) kvs xs ∧
      ∃ o es ep, h.get? a = some o ∧ o.ExactDict ∧ o.data = .dict es ep ∧ es.toList = xs.map (entryOfKey (tupleKind (mixKind P w))) ∧ (xs.map (·.1)).Nodup
  | .set S n => h.SetOf (intKind P w) a S n
  | .ins C dx fs => H dx = some (.own a) ∧ fs.length ≤ 1000 ∧ dx ≠ a ∧ h.get? a = some (PySem.W.instObj C dx) ∧
      ∃ mA, h.Ns1 dx mA ∧ (∀ f, RelO (fs.lookup f) (mA f)) ∧ PySem.Within mA (fs.map (·.1))
  | .own _ => ∃ o, h.get? a = some o
  | .xd fs => ∃ mA, h.Ns1 a mA ∧ ∀ f, RelO (fs.lookup f) (mA f)
  | .rng lo hi => ∃ t u v, h.get? a = some { cls := .type "range", data := .fields #[.int lo t, .int hi u, .int 1 v] }
  | .frz o u => h.get? a = some o ∧ ObjOk H h a u
  | .tbl ps => h.get? a = some { cls := .none, data := .fields ps }
  | .met f x => h.get? a = some (PySem.W.methodObj (.ref f) (.ref x))
  | .ext φ => φ h ∧ (∃ o, h.get? a = some o) ∧ ∀ h1 h2 : Heap, φ h1 → (∀ o, h1.get? a = some o → h2.get? a = some o) → φ h2
def HOk (H : Hp) (h : Heap) : Prop := ∀ a o, H a = some o → ObjOk P w H h a o
end
section
variable {P : Program} {w : World} {H H' : Hp} {h h' : Heap} {a : Addr} {o : HO}
theorem ObjOk.lt (x : ObjOk P w H h a o) : a < h.objs.size := by
  cases o with
  | lst xs => obtain ⟨_, _, _, _, e⟩ := x; exact Heap.lt_size e
  | tup xs => obtain ⟨_, _, _, p⟩ := x; exact p.lt
  | dK kvs => obtain ⟨_, _, _, _, o, _, _, e, _⟩ := x; exact Heap.lt_size e
  | dT kvs => obtain ⟨_, _, _, _, o, _, _, e, _⟩ := x; exact Heap.lt_size e
  | set S n => obtain ⟨o, _, _, _, e, _⟩ := x; exact Heap.lt_size e
  | ins C dx fs => obtain ⟨_, _, _, e, _⟩ := x; exact Heap.lt_size e
  | own y => obtain ⟨_, e⟩ := x; exact Heap.lt_size e
  | xd fs => obtain ⟨_, ⟨_, _, _, e, _⟩, _⟩ := x; exact Heap.lt_size e
  | rng lo hi => obtain ⟨_, _, _, e⟩ := x; exact Heap.lt_size e
  | frz ob u => obtain ⟨e, _⟩ := x; exact Heap.lt_size e
  | tbl ps => exact Heap.lt_size (show h.get? a = some _ from x)
  | met f y => exact Heap.lt_size (show h.get? a = some _ from x)
  | ext φ => obtain ⟨_, ⟨_, e⟩, _⟩ := x; exact Heap.lt_size e
theorem Paired.mapP {α β : Type} {F G : α → β → Prop} : ∀ {l₁ : List α} {l₂ : List β}, Paired F l₁ l₂ → (∀ a b, F a b → G a b) → Paired G l₁ l₂
  | _, _, .nil, _ => .nil
  | _, _, .cons r t, f => .cons (f _ _ r) (Paired.mapP t f)
theorem Paired.imp' {α β : Type} {F G : α → β → Prop} (f : ∀ a b, F a b → G a b) {l₁ : List α} {l₂ : List β} (r : Paired F l₁ l₂) : Paired G l₁ l₂ := Paired.mapP r f
theorem ObjOk.stay (x : ObjOk P w H h a o) (k : ∀ b u, (b = a ∨ H b = some (.own a)) → h.get? b = some u → h'.get? b = some u)
    (ho : ∀ b, H b = some (.own a) → H' b = some (.own a)) (ht : ∀ b xs, H b = some (.tup xs) → H' b = some (.tup xs)) : ObjOk P w H' h' a o := by
  induction o with
  | lst xs => obtain ⟨z, its, n, r, e⟩ := x; exact ⟨z, its, n, r, k _ _ (.inl rfl) e⟩
  | tup xs => obtain ⟨z, its, r, ob, e, c⟩ := x; exact ⟨z, its, r, ob, k _ _ (.inl rfl) e, c⟩
  | dK kvs => obtain ⟨z, y, vs, r, ob, es, ep, e, c⟩ := x; exact ⟨z, y, vs, r, ob, es, ep, k _ _ (.inl rfl) e, c⟩
  | dT kvs =>
    obtain ⟨z, y, xs, r, ob, es, ep, e, c⟩ := x
    exact ⟨z, y, xs, Paired.mapP r fun p q z => ⟨z.1, ht _ _ z.2.1, z.2.2⟩, ob, es, ep, k _ _ (.inl rfl) e, c⟩
  | set S n => obtain ⟨ob, es, ep, t, e, c⟩ := x; exact ⟨ob, es, ep, t, k _ _ (.inl rfl) e, c⟩
  | ins C dx fs =>
    obtain ⟨d, z, ne, e, mA, ⟨od, es, ep, e2, c⟩, r⟩ := x
    exact ⟨ho _ d, z, ne, k _ _ (.inl rfl) e, mA, ⟨od, es, ep, k _ _ (.inr d) e2, c⟩, r⟩
  | own y => obtain ⟨ob, e⟩ := x; exact ⟨ob, k _ _ (.inl rfl) e⟩
  | xd fs => obtain ⟨mA, ⟨od, es, ep, e, c⟩, r⟩ := x; exact ⟨mA, ⟨od, es, ep, k _ _ (.inl rfl) e, c⟩, r⟩
  | rng lo hi => obtain ⟨t, u, v, e⟩ := x; exact ⟨t, u, v, k _ _ (.inl rfl) e⟩
  | frz ob u ih => obtain ⟨e, q⟩ := x; exact ⟨k _ _ (.inl rfl) e, ih q⟩
  | tbl ps =>
    have e : h.get? a = some { cls := .none, data := .fields ps } := x
    show h'.get? a = some { cls := .none, data := .fields ps }
    exact k a _ (.inl rfl) e
  | met f y =>
    have e : h.get? a = some (PySem.W.methodObj (.ref f) (.ref y)) := x
    show h'.get? a = some (PySem.W.methodObj (.ref f) (.ref y))
    exact k a _ (.inl rfl) e
  | ext φ => obtain ⟨p, ⟨o, e⟩, st⟩ := x; exact ⟨st _ _ p fun o q => k _ _ (.inl rfl) q, ⟨o, k _ _ (.inl rfl) e⟩, st⟩
theorem HOk.lt (x : HOk P w H h) (e : H a = some o) : a < h.objs.size := (x a o e).lt
theorem HOk.fresh (x : HOk P w H h) (e : h.objs.size ≤ a) : H a = none := by
  cases q : H a with
  | none => rfl
  | some u => exact absurd (Nat.lt_of_lt_of_le (x.lt q) e) (Nat.lt_irrefl _)
theorem HOk.kept (x : HOk P w H h) (k : ∀ b u, h.get? b = some u → h'.get? b = some u) : HOk P w H h' := fun a o e =>
  (x a o e).stay (fun b u _ q => k b u q) (fun _ q => q) fun _ _ q => q
theorem HOk.laid (x : HOk P w H h) (k : ∀ b u, h.get? b = some u → h'.get? b = some u) (hp : h.objs.size ≤ a) (new : ObjOk P w (upd H a o) h' a o) : HOk P w (upd H a o) h' := fun b u e => by
  have hn := x.fresh hp
  by_cases hb : b = a
  · subst hb; rw [upd_same] at e; cases e; exact new
  · rw [upd_ne hb] at e
    exact (x b u e).stay (fun c v _ q => k c v q) (fun c q => by rw [upd_ne (ne_of_none q hn)]; exact q) fun c xs q => by rw [upd_ne (ne_of_none q hn)]; exact q
end
def Rd (H : Hp) (a : Addr) (u : HO) : Prop := H a = some u ∨ ∃ o, H a = some (.frz o u)
theorem Rd.of {H : Hp} {a : Addr} {u : HO} (h : H a = some u) : Rd H a u := .inl h
theorem Rd.ok {P : Program} {w : World} {H : Hp} {h : Heap} {a : Addr} {u : HO} (r : Rd H a u) (x : HOk P w H h) : ObjOk P w H h a u := by
  rcases r with r | ⟨o, r⟩
  · exact x a u r
  · obtain ⟨_, q⟩ := x a _ r
    exact q
def Mut : Option HO → Prop
  | some (.lst _) => True
  | some (.dK _) => True
  | some (.dT _) => True
  | some (.set _ _) => True
  | some (.ins _ _ _) => True
  | some (.ext _) => True
  | _ => False
section
variable {P : Program} {w : World} {H : Hp} {h h' : Heap} {x e : Addr} {o' : HO}
theorem HOk.write (ok : HOk P w H h) (mu : Mut (H x)) (he : e = x ∨ H e = some (.own x)) (k : ∀ b u, b ≠ e → h.get? b = some u → h'.get? b = some u) (heo : ∃ u, h'.get? e = some u)
    (new : ObjOk P w (upd H x o') h' x o') : HOk P w (upd H x o') h' := fun b u q => by
  have nown : ∀ c y, H c = some (.own y) → c ≠ x := fun c y r z => by subst z; rw [r] at mu; exact mu
  have ntup : ∀ c xs, H c = some (.tup xs) → c ≠ x := fun c xs r z => by subst z; rw [r] at mu; exact mu
  by_cases hb : b = x
  · subst hb; rw [upd_same] at q; cases q; exact new
  · rw [upd_ne hb] at q
    by_cases hbe : b = e
    · have q' : H b = some (.own x) := by
        rcases he with z | z
        · exact absurd (hbe.trans z) hb
        · rw [hbe]; exact z
      rw [q] at q'; cases q'
      obtain ⟨v, hv⟩ := heo
      exact ⟨v, by rw [hbe]; exact hv⟩
    · refine (ok b u q).stay (fun c v hc r => k c v ?_ r) (fun c r => by rw [upd_ne (nown c b r)]; exact r) fun c xs r => by rw [upd_ne (ntup c xs r)]; exact r
      rcases hc with rfl | hc
      · exact hbe
      · rintro rfl
        rcases he with z | z
        · exact nown c b hc z
        · rw [hc] at z; cases z; exact hb rfl
end
structure Un (fs ex : List Addr) (H H' : Hp) (h h' : Heap) : Prop where
  keep : ∀ b o, h.get? b = some o → H b = none → b ∉ fs → b ∉ ex → h'.get? b = some o
  slot : ∀ b o, h.get? b = some o → H b = none → b ∈ fs → b ∉ ex → ∃ sl, h'.get? b = some { o with slots := sl }
  free : ∀ b o, h.get? b = some o → H b = none → b ∉ ex → H' b = none
  there : ∀ b o, h.get? b = some o → b ∉ ex → ∃ o', h'.get? b = some o'
  tups : ∀ b xs, H b = some (.tup xs) → H' b = some (.tup xs)
  frzs : ∀ b o u, H b = some (.frz o u) → H' b = some (.frz o u)
  tbls : ∀ b ps, H b = some (.tbl ps) → ∃ more, H' b = some (.tbl (ps ++ more))
section
variable {fs fs' ex ex' : List Addr} {H H1 H2 : Hp} {h h1 h2 h' : Heap} {a x e : Addr} {o : HO}
theorem Un.any (u : Un fs ex H H1 h h1) {b : Addr} {ob : Obj} (q : h.get? b = some ob) (n : H b = none) (hx : b ∉ ex) : ∃ sl, h1.get? b = some { ob with slots := sl } := by
  by_cases hb : b ∈ fs
  · exact u.slot b ob q n hb hx
  · exact ⟨ob.slots, u.keep b ob q n hb hx⟩
theorem Un.trans (a : Un fs ex H H1 h h1) (b : Un fs ex H1 H2 h1 h2) : Un fs ex H H2 h h2 where
  keep := fun c ob q n hc hx => b.keep c ob (a.keep c ob q n hc hx) (a.free c ob q n hx) hc hx
  slot := fun c ob q n hc hx => by
    obtain ⟨sl, e1⟩ := a.slot c ob q n hc hx
    obtain ⟨sl', e2⟩ := b.slot c _ e1 (a.free c ob q n hx) hc hx
    exact ⟨sl', e2⟩
  free := fun c ob q n hx => by
    obtain ⟨o', e1⟩ := a.there c ob q hx
    exact b.free c o' e1 (a.free c ob q n hx) hx
  there := fun c ob q hx => by
    obtain ⟨o', e1⟩ := a.there c ob q hx
    exact b.there c o' e1 hx
  tups := fun c xs q => b.tups c xs (a.tups c xs q)
  frzs := fun c ob xs q => b.frzs c ob xs (a.frzs c ob xs q)
  tbls := fun c ps q => by
    obtain ⟨m1, e1⟩ := a.tbls c ps q
    obtain ⟨m2, e2⟩ := b.tbls c _ e1
    exact ⟨m1 ++ m2, by rw [e2, Array.append_assoc]⟩
theorem Un.kept (k : ∀ b u, h.get? b = some u → h'.get? b = some u) : Un fs ex H H h h' :=
  ⟨fun b ob q _ _ _ => k b ob q, fun b ob q _ _ _ => ⟨ob.slots, k b ob q⟩, fun _ _ _ n _ => n, fun b ob q _ => ⟨ob, k b ob q⟩, fun _ _ q => q, fun _ _ _ q => q, fun _ ps q => ⟨#[], by rw [q]; simp⟩⟩
theorem Un.refl : Un fs ex H H h h := Un.kept fun _ _ q => q
theorem Un.laid (k : ∀ b u, h.get? b = some u → h'.get? b = some u) (hp : h.objs.size ≤ a) (hn : H a = none) : Un fs ex H (upd H a o) h h' where
  keep := fun b u q _ _ _ => k b u q
  slot := fun b u q _ _ _ => ⟨u.slots, k b u q⟩
  free := fun b u q n _ => by rw [upd_ne (Nat.ne_of_lt (Nat.lt_of_lt_of_le (Heap.lt_size q) hp))]; exact n
  there := fun b u q _ => ⟨u, k b u q⟩
  tups := fun b xs q => by rw [upd_ne (ne_of_none q hn)]; exact q
  frzs := fun b u xs q => by rw [upd_ne (ne_of_none q hn)]; exact q
  tbls := fun b ps q => ⟨#[], by rw [upd_ne (ne_of_none q hn), q]; simp⟩
theorem Un.write (mu : Mut (H x)) (he : e = x ∨ H e = some (.own x)) (k : ∀ b u, b ≠ e → h.get? b = some u → h'.get? b = some u) (heo : ∃ u, h'.get? e = some u) : Un fs ex H (upd H x o) h h' := by
  have hx : ∀ b, H b = none → b ≠ x := fun b n z => by subst z; rw [n] at mu; exact mu
  have hb : ∀ b, H b = none → b ≠ e := fun b n z => by
    subst z
    rcases he with r | r
    · exact hx b n r
    · rw [n] at r; cases r
  have hm : ∀ b u, H b = some u → ¬ Mut (some u) → b ≠ x := fun b u q nm z => by subst z; rw [q] at mu; exact nm mu
  refine ⟨fun b u q n _ _ => k b u (hb b n) q, fun b u q n _ _ => ⟨u.slots, k b u (hb b n) q⟩, fun b u q n _ => by rw [upd_ne (hx b n)]; exact n, fun b u q _ => ?_,
    fun b xs q => by rw [upd_ne (hm b _ q fun z => z)]; exact q, fun b u xs q => by rw [upd_ne (hm b _ q fun z => z)]; exact q, fun b ps q => ⟨#[], by rw [upd_ne (hm b _ q fun z => z), q]; simp⟩⟩
  by_cases hbe : b = e
  · subst hbe; exact heo
  · exact ⟨u, k b u hbe q⟩
theorem Un.mono (u : Un fs ex H H1 h h1) (hs : ∀ b ∈ fs, b ∈ fs') (hx : ∀ b ∈ ex, b ∈ ex') : Un fs' ex' H H1 h h1 :=
  ⟨fun b ob q n hb he => u.keep b ob q n (fun z => hb (hs b z)) fun z => he (hx b z), fun _ _ q n _ he => u.any q n fun z => he (hx _ z), fun b ob q n he => u.free b ob q n fun z => he (hx b z), fun b ob q he => u.there b ob q fun z => he (hx b z), u.tups, u.frzs, u.tbls⟩
end
def trk (h : Heap) (H : Hp) : List Addr := (List.range h.objs.size).filter fun a => (H a).isSome
def hidT (h : Heap) (H : Hp) : Heap := PySem.W.hideAll h (trk h H)
theorem hidT_size (h : Heap) (H : Hp) : (hidT h H).objs.size = h.objs.size := PySem.W.hideAll_size _ _
theorem hidT_get {h : Heap} {H : Hp} {b : Addr} {o : Obj} (e : h.get? b = some o) (n : H b = none) : (hidT h H).get? b = some o :=
  PySem.W.hideAll_get _ e fun hm => by
    have q : (H b).isSome = true := (List.mem_filter.mp hm).2
    rw [n] at q; simp at q
theorem of_hidT {h : Heap} {H : Hp} {b : Addr} {o : Obj} (e : (hidT h H).get? b = some o) : h.get? b = some o ∧ H b = none := by
  have e' : h.get? b = some o := PySem.W.of_hideAll (trk h H) e
  refine ⟨e', ?_⟩
  cases q : H b with
  | none => rfl
  | some x =>
    have hm : b ∈ trk h H := List.mem_filter.mpr ⟨List.mem_range.mpr (Heap.lt_size e'), by simp [q]⟩
    have z : (hidT h H).get? b = none := PySem.W.hideAll_none (trk h H) hm
    rw [z] at e; cases e
def allNews (g h : Heap) (L : Addr) : List (Addr × Obj) := (List.range h.objs.size).filterMap fun a => if a = L ∨ (g.get? a).isSome = true then none else (h.get? a).map fun o => (a, o)
theorem mem_allNews {g h : Heap} {L a : Addr} {o : Obj} (h1 : a ≠ L) (h2 : g.get? a = none) (h3 : h.get? a = some o) : (a, o) ∈ allNews g h L :=
  List.mem_filterMap.mpr ⟨a, List.mem_range.mpr (Heap.lt_size h3), by simp [h1, h2, h3]⟩
theorem of_mem_allNews {g h : Heap} {L : Addr} {p : Addr × Obj} (hp : p ∈ allNews g h L) : p.1 ≠ L ∧ g.get? p.1 = none ∧ h.get? p.1 = some p.2 := by
  obtain ⟨b, _, e⟩ := List.mem_filterMap.mp hp
  split at e
  · cases e
  · rename_i hn
    cases q : h.get? b with
    | none => rw [q] at e; simp at e
    | some u =>
      rw [q] at e
      simp only [Option.map_some, Option.some.injEq] at e
      subst e
      refine ⟨fun z => hn (.inl z), ?_, q⟩
      show g.get? b = none
      cases r : g.get? b with
      | none => rfl
      | some v => exact (hn (.inr (by simp [r]))).elim
def rest (g h : Heap) (L d : Addr) : List (Addr × Obj) := (allNews g h L).filter fun p => decide (p.1 ≠ d)
theorem rest_ne {g h : Heap} {L d : Addr} : ∀ p ∈ rest g h L d, p.1 ≠ d := fun p hp => of_decide_eq_true (List.mem_filter.mp hp).2
theorem mem_rest {g h : Heap} {L d a : Addr} {o : Obj} (h1 : a ≠ L) (h2 : g.get? a = none) (h3 : h.get? a = some o) (h4 : a ≠ d) : (a, o) ∈ rest g h L d :=
  List.mem_filter.mpr ⟨mem_allNews h1 h2 h3, decide_eq_true h4⟩
theorem news_all {g h : Heap} {L : Addr} : News g L h (allNews g h L) := fun p hp => let ⟨a, b, c⟩ := of_mem_allNews hp; ⟨c, a, b⟩
theorem news_at {g h : Heap} {L d : Addr} {o : Obj} (h1 : d ≠ L) (h2 : g.get? d = none) (h3 : h.get? d = some o) : News g L h ((d, o) :: rest g h L d) := fun p hp => by
  rcases List.mem_cons.mp hp with rfl | hp
  · exact ⟨h3, h1, h2⟩
  · exact news_all p (List.mem_filter.mp hp).1
theorem kept_of_news {g h h' : Heap} {L d : Addr} {m : Str → Option Value} (k : ∀ b o, g.get? b = some o → h.get? b = some o) (F : Fr g L h' m) (N : News g L h' (rest g h L d)) :
    ∀ b o, b ≠ L → b ≠ d → h.get? b = some o → h'.get? b = some o := fun b o h1 h2 e => by
  cases q : g.get? b with
  | some u =>
    have := k b u q
    rw [e] at this; cases this
    exact F.keep b _ q
  | none => exact (N (b, o) (mem_rest h1 q e h2)).1
end L2
namespace L2
open PySem PySem.Spec PyProof.Rows
structure Mod (K : PySem.W.Frag) (mg : Str → Option Value) (base : Heap) : Prop where
  kin : K.In base
  glob : base.Ns mainGlobals mg
  blt : ∃ mb, base.Ns builtinsNs mb ∧ ∀ x : Str, x ≠ "__name__" → mb x = bootBuiltins x
  nolimit : base.NoLimit
structure Cx where
  prog : Program
  w : World
  K : PySem.W.Frag
  mg : Str → Option Value
  base : Heap
  A : Around
  N : List Str
  s_0 : Shared
  H_0 : Hp
  env : Env
  outer : List Env
  stack : List Env
  ex : List Addr
  fn : Str → Bool
  calm : Bool
  pn : List (Addr × Obj)
  xe : Value → Shared → Prop
def frs (l : List Env) : List Addr := l.filterMap (·.frame)
abbrev Cx.fs (X : Cx) : List Addr := frs X.outer
def Vis (sc : Scope) (x : Str) : Prop := sc.names.lookup x = some .local ∨ sc.names.lookup x = some .cell ∨ sc.names.lookup x = some .free
def Loc (sc : Scope) (x : Str) : Prop := sc.names.lookup x = some .local ∨ sc.names.lookup x = some .cell
def Look (env : Env) (h : Heap) (m : Str → Option Value) (x : Str) (u : Value) : Prop :=
  (env.kindOf x = some .local ∧ m x = some u) ∨ ((env.kindOf x = some .cell ∨ env.kindOf x = some .free) ∧ ∃ c, env.cells.lookup x = some c ∧ h.IsCell c (some u))
structure Cx.Ok (X : Cx) : Prop where
  mod : Mod X.K X.mg X.base
  kind : X.env.scope.kind = .function
  glob : X.env.globals = mainGlobals
  blt : X.env.builtins = builtinsNs
  above : X.s_0.heap.objs.size ≤ X.env.locals
  inj : ∀ x y c, X.env.cells.lookup x = some c → X.env.cells.lookup y = some c → x = y
  has : ∀ x, (X.env.kindOf x = some .cell ∨ X.env.kindOf x = some .free) → ∃ c, X.env.cells.lookup x = some c
  cab : ∀ x c, X.fn x = true → X.env.cells.lookup x = some c → X.s_0.heap.objs.size ≤ c
  hd : X.calm = true → X.A.handled = none
  frames : X.A.frames = some X.stack
  stk : X.stack = X.outer ∨ (X.stack = X.env :: X.outer ∧ X.env.frame = some X.env.locals)
  exf : ∀ b ∈ X.ex, b ≠ X.env.locals ∧ ∀ x c, X.env.cells.lookup x = some c → c ≠ b
  bs : ∀ b o, X.base.get? b = some o → X.s_0.heap.get? b = some o ∧ X.H_0 b = none
  bsz : X.base.objs.size ≤ X.s_0.heap.objs.size
  noex : ∀ b o, X.base.get? b = some o → b ∉ X.ex
  exfs : ∀ b ∈ X.ex, b ∉ X.fs
  funs : X.s_0.heap.FunFrames X.base X.outer
  frf : ∀ b ∈ X.fs, X.H_0 b = none
structure Inv (X : Cx) (pins : List (Addr × Obj)) (σ : List (Option V)) (H : Hp) (s : Shared) : Prop where
  ok : X.Ok
  os : s.os = X.s_0.os
  bare : AllBare s.gens
  base : Un X.fs X.ex X.H_0 H X.s_0.heap s.heap
  loc : ∃ m, s.heap.Ns X.env.locals m ∧ ∀ (i : Nat) (x : Str) (v : V), X.N[i]? = some x → σ[i]? = some (some v) → Vis X.env.scope x → ∃ u, RelV v u ∧ Look X.env s.heap m x u
  cell : ∀ x c, X.env.cells.lookup x = some c → ∃ v, s.heap.IsCell c v
  free : H X.env.locals = none
  freeC : ∀ x c, X.env.cells.lookup x = some c → H c = none
  pin : ∀ p ∈ X.pn ++ pins, s.heap.get? p.1 = some p.2 ∧ H p.1 = none ∧ p.1 ≠ X.env.locals ∧ p.1 ∉ X.fs ∧ ∀ v, p.2.data ≠ .cell v
  hok : HOk X.prog X.w H s.heap
  len : σ.length = X.N.length
section
variable {X : Cx} {pins : List (Addr × Obj)} {σ : List (Option V)} {H H' : Hp} {s : Shared} {h' : Heap}
theorem Cx.Ok.nofr (ok : X.Ok) {b : Addr} {o : Obj} (e : X.base.get? b = some o) : b ∉ X.fs := fun hb => by
  have := (ok.funs.mem hb).1
  rw [e] at this; cases this
theorem Inv.bs (I : Inv X pins σ H s) : ∀ b o, X.base.get? b = some o → s.heap.get? b = some o ∧ H b = none := fun b o e =>
  ⟨I.base.keep b o (I.ok.bs b o e).1 (I.ok.bs b o e).2 (I.ok.nofr e) (I.ok.noex b o e), I.base.free b o (I.ok.bs b o e).1 (I.ok.bs b o e).2 (I.ok.noex b o e)⟩
theorem Inv.bk (I : Inv X pins σ H s) : ∀ b o, X.base.get? b = some o → s.heap.get? b = some o := fun b o e => (I.bs b o e).1
theorem Inv.mod (I : Inv X pins σ H s) : Mod X.K X.mg X.base := I.ok.mod
theorem Inv.kIn (I : Inv X pins σ H s) : X.K.In s.heap := I.ok.mod.kin.keeps I.bk
theorem Inv.nolimit (I : Inv X pins σ H s) : s.heap.NoLimit := I.ok.mod.nolimit.keeps I.bk
theorem Inv.fr (I : Inv X pins σ H s) : ∃ m, Fr X.base X.env.locals s.heap m :=
  let ⟨m, hn, _⟩ := I.loc
  ⟨m, hn, I.bk, Nat.le_trans I.ok.bsz I.ok.above⟩
theorem Inv.lt (I : Inv X pins σ H s) : X.env.locals < s.heap.objs.size := let ⟨_, hn, _⟩ := I.loc; hn.lt
theorem Inv.sz (I : Inv X pins σ H s) : X.s_0.heap.objs.size ≤ s.heap.objs.size := Nat.le_trans I.ok.above (Nat.le_of_lt I.lt)
theorem Inv.nofs (I : Inv X pins σ H s) {a : Addr} (h : s.heap.objs.size ≤ a) : a ∉ X.fs := fun hb => by
  obtain ⟨_, o, ho, _⟩ := I.ok.funs.mem hb
  exact absurd (Nat.lt_of_lt_of_le (Heap.lt_size ho) (Nat.le_trans I.sz h)) (Nat.lt_irrefl _)
theorem Inv.cne (I : Inv X pins σ H s) : ∀ x c, X.env.cells.lookup x = some c → c ≠ X.env.locals := fun x c e z => by
  obtain ⟨v, o, ho, hd⟩ := I.cell x c e
  obtain ⟨m, ⟨o', es, ep, ho', hd', _⟩, _⟩ := I.loc
  rw [z, ho'] at ho; cases ho; rw [hd'] at hd; cases hd
theorem Inv.funs (I : Inv X pins σ H s) : s.heap.FunFrames X.base X.outer := by
  have all : ∀ (l : List Env), (∀ b ∈ frs l, b ∈ X.fs) → X.s_0.heap.FunFrames X.base l → s.heap.FunFrames X.base l := by
    intro l
    induction l with
    | nil => intro _ _; trivial
    | cons env r ih =>
      intro hs hl
      obtain ⟨hk, ⟨L, o, hf, hn, ho, hd⟩, hr⟩ := hl
      have hL : L ∈ X.fs := hs L (by unfold frs; rw [List.filterMap_cons, hf]; exact List.mem_cons_self)
      obtain ⟨sl, e⟩ := I.base.slot L o ho (I.ok.frf L hL) hL fun z => I.ok.exfs L z hL
      exact ⟨hk, ⟨L, _, hf, hn, e, hd⟩, ih (fun b hb => hs b (by unfold frs; rw [List.filterMap_cons, hf]; exact List.mem_cons_of_mem _ hb)) hr⟩
  exact all X.outer (fun _ hb => hb) I.ok.funs
theorem Inv.stack (I : Inv X pins σ H s) : s.heap.FunFrames X.base X.stack := by
  rcases I.ok.stk with e | ⟨e, hf⟩
  · rw [e]; exact I.funs
  · rw [e]
    obtain ⟨m, hn, _⟩ := I.loc
    refine .cons (by rw [I.ok.kind]; decide) hf hn ?_ I.funs
    exact Heap.get?_none_of_le (Nat.le_trans I.ok.bsz I.ok.above)
theorem Inv.stkSub (I : Inv X pins σ H s) : ∀ b ∈ frs X.stack, b ∈ X.env.locals :: X.fs := fun b hb => by
  rcases I.ok.stk with e | ⟨e, hf⟩
  · rw [e] at hb; exact List.mem_cons_of_mem _ hb
  · rw [e] at hb
    unfold frs at hb
    rw [List.filterMap_cons, hf] at hb
    exact hb
theorem Inv.stkFree (I : Inv X pins σ H s) : ∀ b ∈ frs X.stack, H b = none := fun b hb => by
  rcases List.mem_cons.mp (I.stkSub b hb) with e | hb
  · rw [e]; exact I.free
  · obtain ⟨_, o, ho, _⟩ := I.ok.funs.mem hb
    exact I.base.free b o ho (I.ok.frf b hb) fun z => I.ok.exfs b z hb
theorem Inv.step {g' : Array GenState} {t' : Nat} {d' : Drawn} {ch : List Addr} (I : Inv X pins σ H s)
    (hch : ∀ b ∈ ch, (b ∈ X.ex ∨ X.s_0.heap.objs.size ≤ b) ∧ b ≠ X.env.locals ∧ (∀ x c, X.env.cells.lookup x = some c → c ≠ b) ∧ ∀ p ∈ X.pn ++ pins, p.1 ≠ b)
    (keep : ∀ b o, b ≠ X.env.locals → b ∉ X.fs → b ∉ ch → s.heap.get? b = some o → H b = none → h'.get? b = some o)
    (slot : ∀ b o, b ≠ X.env.locals → b ∈ X.fs → b ∉ ch → s.heap.get? b = some o → H b = none → ∃ sl, h'.get? b = some { o with slots := sl }) (free : ∀ b o, b ∉ ch → s.heap.get? b = some o → H b = none → H' b = none)
    (there : ∀ b o, b ∉ ch → s.heap.get? b = some o → ∃ o', h'.get? b = some o')
    (tups : ∀ b xs, H b = some (.tup xs) → H' b = some (.tup xs)) (frzs : ∀ b o u, H b = some (.frz o u) → H' b = some (.frz o u)) (tbls : ∀ b ps, H b = some (.tbl ps) → ∃ more, H' b = some (.tbl (ps ++ more)))
    (ns : ∀ m, s.heap.Ns X.env.locals m → h'.Ns X.env.locals m) (hok : HOk X.prog X.w H' h') (hg : AllBare g') :
    Inv X pins σ H' { s with heap := h', gens := g', drawn := d', toks := t' } := by
  have neL : ∀ b o, X.s_0.heap.get? b = some o → b ≠ X.env.locals := fun b o e => Nat.ne_of_lt (Nat.lt_of_lt_of_le (Heap.lt_size e) I.ok.above)
  have neC : ∀ b o, X.s_0.heap.get? b = some o → b ∉ X.ex → b ∉ ch := fun b o e hx hb => by
    rcases (hch b hb).1 with z | z
    · exact hx z
    · exact absurd (Nat.lt_of_lt_of_le (Heap.lt_size e) z) (Nat.lt_irrefl _)
  have cellK : ∀ x c, X.env.cells.lookup x = some c → ∀ v, s.heap.IsCell c v → h'.IsCell c v := fun x c e v ⟨o, ho, hd⟩ => by
    have nch : c ∉ ch := fun z => (hch c z).2.2.1 x c e rfl
    by_cases hc : c ∈ X.fs
    · obtain ⟨sl, q⟩ := slot c o (I.cne x c e) hc nch ho (I.freeC x c e)
      exact ⟨_, q, hd⟩
    · exact ⟨o, keep c o (I.cne x c e) hc nch ho (I.freeC x c e), hd⟩
  refine ⟨I.ok, I.os, hg, ⟨fun b o e n hb hx => ?_, fun b o e n hb hx => ?_, fun b o e n hx => ?_, fun b o e hx => ?_, fun b xs e => tups b xs (I.base.tups b xs e), fun b o xs e => frzs b o xs (I.base.frzs b o xs e), fun b ps e => ?_⟩, ?_, fun x c e => ?_, ?_, fun x c e => ?_, fun p hp => ?_, hok, I.len⟩
  · exact keep b o (neL b o e) hb (neC b o e hx) (I.base.keep b o e n hb hx) (I.base.free b o e n hx)
  · obtain ⟨sl, e1⟩ := I.base.slot b o e n hb hx
    obtain ⟨sl', e2⟩ := slot b _ (neL b o e) hb (neC b o e hx) e1 (I.base.free b o e n hx)
    exact ⟨sl', e2⟩
  · obtain ⟨o', e1⟩ := I.base.there b o e hx
    exact free b o' (neC b o e hx) e1 (I.base.free b o e n hx)
  · obtain ⟨o', e1⟩ := I.base.there b o e hx
    exact there b o' (neC b o e hx) e1
  · obtain ⟨m1, e1⟩ := I.base.tbls b ps e
    obtain ⟨m2, e2⟩ := tbls b _ e1
    exact ⟨m1 ++ m2, by rw [e2, Array.append_assoc]⟩
  · obtain ⟨m, hn, hl⟩ := I.loc
    refine ⟨m, ns m hn, fun i x v e1 e2 e3 => ?_⟩
    obtain ⟨u, r, l⟩ := hl i x v e1 e2 e3
    refine ⟨u, r, ?_⟩
    rcases l with l | ⟨k, c, e, z⟩
    · exact .inl l
    · exact .inr ⟨k, c, e, cellK x c e _ z⟩
  · obtain ⟨v, z⟩ := I.cell x c e
    exact ⟨v, cellK x c e v z⟩
  · obtain ⟨m, ⟨o, _, _, ho, _⟩, _⟩ := I.loc
    exact free _ o (fun z => (hch _ z).2.1 rfl) ho I.free
  · obtain ⟨v, o, ho, hd⟩ := I.cell x c e
    exact free c o (fun z => (hch c z).2.2.1 x c e rfl) ho (I.freeC x c e)
  · obtain ⟨e, n, ne, nf, d⟩ := I.pin p hp
    have nch : p.1 ∉ ch := fun z => (hch p.1 z).2.2.2 p hp rfl
    exact ⟨keep p.1 p.2 ne nf nch e n, free p.1 p.2 nch e n, ne, nf, d⟩
theorem Inv.un {t' : Nat} (I : Inv X pins σ H s) (u : Un X.fs [] H H' s.heap h') (hok : HOk X.prog X.w H' h') : Inv X pins σ H' { s with heap := h', toks := t' } := by
  obtain ⟨m, ⟨o, es, ep, ho, r⟩, _⟩ := id I.loc
  obtain ⟨sl, hL⟩ := u.any ho I.free (by simp)
  exact I.step (g' := s.gens) (d' := s.drawn) (ch := []) (fun _ z => nomatch z) (fun b o _ hb _ e n => u.keep b o e n hb (by simp)) (fun b o _ hb _ e n => u.slot b o e n hb (by simp)) (fun b o _ e n => u.free b o e n (by simp)) (fun b o _ e => u.there b o e (by simp)) u.tups u.frzs u.tbls (fun m' hm => by
    obtain ⟨o', es', ep', ho', r'⟩ := hm
    rw [ho] at ho'; cases ho'
    exact ⟨_, es', ep', hL, r'⟩) hok I.bare
theorem Inv.call {g' : Array GenState} {t' : Nat} {d' : Drawn} {ch : List Addr} (I : Inv X pins σ H s) (u : Un (frs X.stack) ch H H' s.heap h') (hok : HOk X.prog X.w H' h') (hg : AllBare g')
    (hch : ∀ b ∈ ch, (b ∈ X.ex ∨ X.s_0.heap.objs.size ≤ b) ∧ b ≠ X.env.locals ∧ (∀ x c, X.env.cells.lookup x = some c → c ≠ b) ∧ ∀ p ∈ X.pn ++ pins, p.1 ≠ b) :
    Inv X pins σ H' { s with heap := h', gens := g', drawn := d', toks := t' } := by
  obtain ⟨m, ⟨o, es, ep, ho, r⟩, _⟩ := id I.loc
  obtain ⟨sl, hL⟩ := u.any ho I.free fun z => (hch _ z).2.1 rfl
  exact I.step (ch := ch) hch (fun b o hL hb hc e n => u.keep b o e n (fun z => (List.mem_cons.mp (I.stkSub b z)).elim hL hb) hc) (fun b o _ _ hc e n => u.any e n hc) (fun b o hc e n => u.free b o e n hc) (fun b o hc e => u.there b o e hc) u.tups u.frzs u.tbls (fun m' hm => by
    obtain ⟨o', es', ep', ho', r'⟩ := hm
    rw [ho] at ho'; cases ho'
    exact ⟨_, es', ep', hL, r'⟩) hok hg
theorem Inv.turned {t' : Nat} {it : Addr} (I : Inv X pins σ H s) (k : ∀ b o, b ≠ it → s.heap.get? b = some o → h'.get? b = some o) (hn : H it = none) (hL : it ≠ X.env.locals)
    (h1 : it ∈ X.ex ∨ X.s_0.heap.objs.size ≤ it) (h2 : ∀ x c, X.env.cells.lookup x = some c → c ≠ it) (h3 : ∀ p ∈ X.pn ++ pins, p.1 ≠ it) : Inv X pins σ H { s with heap := h', toks := t' } := by
  have nit : ∀ b u, H b = some u → b ≠ it := fun b u e z => by rw [z, hn] at e; cases e
  refine I.step (g' := s.gens) (d' := s.drawn) (ch := [it]) (fun b hb => ?_) (fun b o _ _ hc e _ => k b o (fun z => hc (by simp [z])) e) (fun b o _ _ hc e _ => ⟨o.slots, k b o (fun z => hc (by simp [z])) e⟩) (fun _ _ _ _ n => n)
    (fun b o hc e => ⟨o, k b o (fun z => hc (by simp [z])) e⟩) (fun _ _ e => e) (fun _ _ _ e => e) (fun b ps e => ⟨#[], by rw [e]; simp⟩) (fun m hm => ?_) (fun b u e => ?_) I.bare
  · have e : b = it := by simpa using hb
    subst e
    exact ⟨h1, hL, h2, h3⟩
  · obtain ⟨o, es, ep, ho, r⟩ := hm
    exact ⟨o, es, ep, k _ o (Ne.symm hL) ho, r⟩
  · refine (I.hok b u e).stay (fun c v hc q => k c v ?_ q) (fun _ q => q) fun _ _ q => q
    rcases hc with z | z
    · rw [z]; exact nit b u e
    · exact nit c _ z
theorem Inv.tok (I : Inv X pins σ H s) (t : Nat) : Inv X pins σ H { s with toks := t } := I.un (h' := s.heap) (t' := t) Un.refl I.hok
theorem Inv.kept {t' : Nat} (I : Inv X pins σ H s) (k : ∀ b u, s.heap.get? b = some u → h'.get? b = some u) : Inv X pins σ H { s with heap := h', toks := t' } := I.un (Un.kept k) (I.hok.kept k)
theorem Inv.laid {a : Addr} {o : HO} {t' : Nat} (I : Inv X pins σ H s) (k : ∀ b u, s.heap.get? b = some u → h'.get? b = some u) (hp : s.heap.objs.size ≤ a) (new : ObjOk X.prog X.w (upd H a o) h' a o) :
    Inv X pins σ (upd H a o) { s with heap := h', toks := t' } := I.un (Un.laid k hp (I.hok.fresh hp)) (I.hok.laid k hp new)
theorem Inv.write {x e : Addr} {o : HO} {t' : Nat} (I : Inv X pins σ H s) (mu : Mut (H x)) (he : e = x ∨ H e = some (.own x)) (k : ∀ b u, b ≠ e → s.heap.get? b = some u → h'.get? b = some u) (heo : ∃ u, h'.get? e = some u)
    (new : ObjOk X.prog X.w (upd H x o) h' x o) : Inv X pins σ (upd H x o) { s with heap := h', toks := t' } := I.un (Un.write mu he k heo) (I.hok.write mu he k heo new)
theorem Inv.weak {σ' : List (Option V)} (I : Inv X pins σ H s) (hl : σ'.length = σ.length) (w : ∀ (i : Nat) v, σ'[i]? = some (some v) → σ[i]? = some (some v)) : Inv X pins σ' H s :=
  ⟨I.ok, I.os, I.bare, I.base, let ⟨m, hn, hl'⟩ := I.loc; ⟨m, hn, fun i x v e1 e2 e3 => hl' i x v e1 (w i v e2) e3⟩, I.cell, I.free, I.freeC, I.pin, I.hok, hl.trans I.len⟩
theorem Inv.pins_of {pins' : List (Addr × Obj)} (I : Inv X pins σ H s) (h : ∀ p ∈ pins', s.heap.get? p.1 = some p.2 ∧ H p.1 = none ∧ p.1 ≠ X.env.locals ∧ p.1 ∉ X.fs ∧ ∀ v, p.2.data ≠ .cell v) : Inv X pins' σ H s :=
  ⟨I.ok, I.os, I.bare, I.base, I.loc, I.cell, I.free, I.freeC, fun p hp => (List.mem_append.mp hp).elim (fun z => I.pin p (List.mem_append_left _ z)) (h p), I.hok, I.len⟩
theorem nodup_ix {N : List Str} (hN : N.Nodup) {i j : Nat} {x : Str} (a : N[i]? = some x) (b : N[j]? = some x) : i = j := by
  obtain ⟨h1, e1⟩ := List.getElem?_eq_some_iff.mp a
  obtain ⟨h2, e2⟩ := List.getElem?_eq_some_iff.mp b
  exact (List.getElem_inj hN).mp (e1.trans e2.symm)
theorem store_ok2 {M : Model} {A : Around} {E : Value → Shared → Prop} {i : Nat} {x : Str} {v : V} {u : Value} {Q : Unit → Shared → Prop} (I : Inv X pins σ H s) (hN : X.N.Nodup) (hi : X.N[i]? = some x) (hx : Loc X.env.scope x) (r : RelV v u)
    (h : ∀ s', Inv X pins (σ.set i (some v)) H s' → (∃ a, Heap.SameBut a s.heap s'.heap ∧ (a = X.env.locals ∨ X.env.cells.lookup x = some a)) → Q () s') (hf : X.fn x = true ∨ X.env.scope.names.lookup x = some .local := by first | exact .inl rfl | exact .inr rfl | assumption) : wpAny M A (storeName X.env x u) Q E s := by
  obtain ⟨m, hn, hl⟩ := id I.loc
  have hcls : (X.env.scope.kind == .class || (X.env.scope.kind == .module && X.env.locals != X.env.globals)) = false := by rw [I.ok.kind]; rfl
  have hiσ : i < σ.length := by rw [I.len]; exact (List.getElem?_eq_some_iff.mp hi).1
  have cne := I.cne
  have tracked : ∀ {a : Addr} {h' : Heap}, (∃ o, s.heap.get? a = some o ∧ H a = none) → Heap.SameBut a s.heap h' → HOk X.prog X.w H h' := fun {a h'} ha hs b ob e => by
    obtain ⟨_, _, hfree⟩ := ha
    refine (I.hok b ob e).stay (fun c w' hc q => (hs.2 c ?_).trans q) (fun _ q => q) fun _ _ q => q
    rintro rfl
    rcases hc with rfl | hc
    · rw [hfree] at e; cases e
    · rw [hfree] at hc; cases hc
  rcases hx with hk | hk
  · refine wpAny_storeName_local hk hn (fun h' hn' hs => ?_) hcls
    obtain ⟨oL, _, _, hoL, _⟩ := id hn
    refine h _ ⟨I.ok, I.os, I.bare, ⟨fun b o e n hb hx => ?_, fun b o e n hb hx => ?_, I.base.free, fun b o e hx => ?_, I.base.tups, I.base.frzs, I.base.tbls⟩, ⟨_, hn', fun j y v' e1 e2 e3 => ?_⟩, fun y c e => ?_, I.free, I.freeC, fun p hp => ?_, tracked ⟨oL, hoL, I.free⟩ hs, by simpa using I.len⟩ ⟨_, hs, .inl rfl⟩
    · exact (hs.2 b (Nat.ne_of_lt (Nat.lt_of_lt_of_le (Heap.lt_size e) I.ok.above))).trans (I.base.keep b o e n hb hx)
    · obtain ⟨sl, e1⟩ := I.base.slot b o e n hb hx
      exact ⟨sl, (hs.2 b (Nat.ne_of_lt (Nat.lt_of_lt_of_le (Heap.lt_size e) I.ok.above))).trans e1⟩
    · obtain ⟨o', e1⟩ := I.base.there b o e hx
      exact ⟨o', (hs.2 b (Nat.ne_of_lt (Nat.lt_of_lt_of_le (Heap.lt_size e) I.ok.above))).trans e1⟩
    · by_cases hj : j = i
      · subst hj
        rw [hi] at e1; cases e1
        rw [List.getElem?_set_self hiσ] at e2
        cases e2
        exact ⟨u, r, .inl ⟨hk, by simp⟩⟩
      · rw [List.getElem?_set_ne (Ne.symm hj)] at e2
        obtain ⟨u', r', q⟩ := hl j y v' e1 e2 e3
        refine ⟨u', r', ?_⟩
        rcases q with ⟨k, e⟩ | ⟨k, c, e, z⟩
        · refine .inl ⟨k, ?_⟩
          have : y ≠ x := fun e => hj (nodup_ix hN e1 (e ▸ hi))
          simp [this, e]
        · exact .inr ⟨k, c, e, z.sameBut hs (cne y c e)⟩
    · obtain ⟨w', z⟩ := I.cell y c e
      exact ⟨w', z.sameBut hs (cne y c e)⟩
    · obtain ⟨e, n, ne, nf, d⟩ := I.pin p hp
      exact ⟨(hs.2 p.1 ne).trans e, n, ne, nf, d⟩
  · have hfn : X.fn x = true := by
      rcases hf with z | z
      · exact z
      · rw [z] at hk; cases hk
    obtain ⟨c, hc⟩ := I.ok.has x (.inl hk)
    obtain ⟨w', z⟩ := I.cell x c hc
    refine wpAny_storeName_cell I.ok.kind hk hc z (fun h' hc' hs => ?_)
    obtain ⟨oc, hoc, hocd⟩ := id z
    refine h { s with heap := h' } ⟨I.ok, I.os, I.bare, ⟨fun b o e n hb hx => ?_, fun b o e n hb hx => ?_, I.base.free, fun b o e hx => ?_, I.base.tups, I.base.frzs, I.base.tbls⟩, ⟨m, hn.sameBut hs (Ne.symm (cne x c hc)), fun j y v' e1 e2 e3 => ?_⟩, fun y c' e => ?_, I.free, I.freeC, fun p hp => ?_, tracked ⟨oc, hoc, I.freeC x c hc⟩ hs, by simpa using I.len⟩ ⟨c, hs, .inr hc⟩
    · exact (hs.2 b (Nat.ne_of_lt (Nat.lt_of_lt_of_le (Heap.lt_size e) (I.ok.cab x c hfn hc)))).trans (I.base.keep b o e n hb hx)
    · obtain ⟨sl, e1⟩ := I.base.slot b o e n hb hx
      exact ⟨sl, (hs.2 b (Nat.ne_of_lt (Nat.lt_of_lt_of_le (Heap.lt_size e) (I.ok.cab x c hfn hc)))).trans e1⟩
    · obtain ⟨o', e1⟩ := I.base.there b o e hx
      exact ⟨o', (hs.2 b (Nat.ne_of_lt (Nat.lt_of_lt_of_le (Heap.lt_size e) (I.ok.cab x c hfn hc)))).trans e1⟩
    · by_cases hj : j = i
      · subst hj
        rw [hi] at e1; cases e1
        rw [List.getElem?_set_self hiσ] at e2
        cases e2
        exact ⟨u, r, .inr ⟨.inl hk, c, hc, hc'⟩⟩
      · rw [List.getElem?_set_ne (Ne.symm hj)] at e2
        obtain ⟨u', r', q⟩ := hl j y v' e1 e2 e3
        refine ⟨u', r', ?_⟩
        rcases q with q | ⟨k, c', e, z'⟩
        · exact .inl q
        · refine .inr ⟨k, c', e, z'.sameBut hs ?_⟩
          rintro rfl
          exact hj (nodup_ix hN e1 (I.ok.inj _ _ _ e hc ▸ hi))
    · by_cases hcc : c' = c
      · subst hcc; exact ⟨_, hc'⟩
      · obtain ⟨w2, z2⟩ := I.cell y c' e
        exact ⟨w2, z2.sameBut hs hcc⟩
    · obtain ⟨e, n, ne, nf, d⟩ := I.pin p hp
      refine ⟨(hs.2 p.1 ?_).trans e, n, ne, nf, d⟩
      intro q
      rw [q, hoc] at e
      have q' : oc = p.2 := Option.some.inj e
      exact d w' (by rw [← q']; exact hocd)
theorem store_ok {M : Model} {A : Around} {E : Value → Shared → Prop} {i : Nat} {x : Str} {v : V} {u : Value} {Q : Unit → Shared → Prop} (I : Inv X pins σ H s) (hN : X.N.Nodup) (hi : X.N[i]? = some x) (hx : Loc X.env.scope x) (r : RelV v u)
    (h : ∀ s', Inv X pins (σ.set i (some v)) H s' → Q () s') (hf : X.fn x = true ∨ X.env.scope.names.lookup x = some .local := by first | exact .inl rfl | exact .inr rfl | assumption) : wpAny M A (storeName X.env x u) Q E s :=
  store_ok2 I hN hi hx r (fun s' I' _ => h s' I') hf
theorem Inv.call' {s' : Shared} {ch : List Addr} (I : Inv X pins σ H s) (ho : s'.os = s.os) (u : Un (frs X.stack) ch H H' s.heap s'.heap) (hok : HOk X.prog X.w H' s'.heap) (hg : AllBare s'.gens)
    (hch : ∀ b ∈ ch, (b ∈ X.ex ∨ X.s_0.heap.objs.size ≤ b) ∧ b ≠ X.env.locals ∧ (∀ x c, X.env.cells.lookup x = some c → c ≠ b) ∧ ∀ p ∈ X.pn ++ pins, p.1 ≠ b) : Inv X pins σ H' s' := by
  obtain ⟨h', g', d', t', o'⟩ := s'
  have e : o' = s.os := ho
  subst e
  exact I.call (g' := g') (t' := t') (d' := d') u hok hg hch
end
abbrev XK := Value → Option Addr → Hp → Prop
abbrev St := List (Option V)
abbrev VK := V → Hp → Prop
abbrev TE := St → Hp → VK → Prop
abbrev TT := St → Hp → (Bool → Hp → Prop) → Prop
abbrev TA := St → Hp → (List V → Hp → Prop) → Prop
structure Ends where
  nx : St → Hp → Prop
  rt : VK
  bk : St → Hp → Prop := fun _ _ => False
  ct : St → Hp → Prop := fun _ _ => False
abbrev TS := Ends → St → Hp → Prop
def EP (X : Cx) (pins : List (Addr × Obj)) (σ : St) (Q : VK) (u : Value) (s' : Shared) : Prop := ∃ v H', Inv X pins σ H' s' ∧ RelV v u ∧ Q v H'
def TP (X : Cx) (pins : List (Addr × Obj)) (σ : St) (Q : Bool → Hp → Prop) (b : Bool) (s' : Shared) : Prop := ∃ H', Inv X pins σ H' s' ∧ Q b H'
def AP (X : Cx) (pins : List (Addr × Obj)) (σ : St) (Q : List V → Hp → Prop) (us : List Value) (s' : Shared) : Prop := ∃ vs H', Inv X pins σ H' s' ∧ Vals vs us ∧ Q vs H'
def SP (X : Cx) (pins : List (Addr × Obj)) (D : Ends) (f : Flow) (s' : Shared) : Prop :=
  match f with
  | .next => ∃ σ' H', Inv X pins σ' H' s' ∧ D.nx σ' H'
  | .brk => ∃ σ' H', Inv X pins σ' H' s' ∧ D.bk σ' H'
  | .cont => ∃ σ' H', Inv X pins σ' H' s' ∧ D.ct σ' H'
  | .ret u => ∃ v σ' H', Inv X pins σ' H' s' ∧ RelV v u ∧ D.rt v H'
def PE (X : Cx) (e : Expr) (t : TE) : Prop :=
  ∀ (pins : List (Addr × Obj)) (s : Shared) (σ : St) (H : Hp) (Q : VK), Inv X pins σ H s → t σ H Q → wpAny (model X.prog X.w) X.A (eval e X.env) (EP X pins σ Q) X.xe s
def PT (X : Cx) (e : Expr) (t : TT) : Prop :=
  ∀ (pins : List (Addr × Obj)) (s : Shared) (σ : St) (H : Hp) (Q : Bool → Hp → Prop), Inv X pins σ H s → t σ H Q → wpAny (model X.prog X.w) X.A (isTrue e X.env (eval e X.env)) (TP X pins σ Q) X.xe s
def PW (X : Cx) (e : Expr) (t : TT) : Prop :=
  ∀ (whole : Sem Value) (pins : List (Addr × Obj)) (s : Shared) (σ : St) (H : Hp) (Q : Bool → Hp → Prop), Inv X pins σ H s → t σ H Q → wpAny (model X.prog X.w) X.A (isTrue e X.env whole) (TP X pins σ Q) X.xe s
theorem PW.pt {X : Cx} {e : Expr} {t : TT} (h : PW X e t) : PT X e t := h _
def PA (X : Cx) (es : List Expr) (t : TA) : Prop :=
  ∀ (pos : Pos) (pins : List (Addr × Obj)) (s : Shared) (σ : St) (H : Hp) (Q : List V → Hp → Prop), Inv X pins σ H s → t σ H Q → wpAny (model X.prog X.w) X.A (spliced (backTo pos (starEach es X.env))) (AP X pins σ Q) X.xe s
def PS (X : Cx) (st : Stmt) (t : TS) : Prop :=
  ∀ (pins : List (Addr × Obj)) (s : Shared) (σ : St) (H : Hp) (D : Ends), Inv X pins σ H s → t D σ H → wpAny (model X.prog X.w) X.A (exec st X.env) (SP X pins D) X.xe s
def PSs (X : Cx) (st : List Stmt) (t : TS) : Prop :=
  ∀ (pins : List (Addr × Obj)) (s : Shared) (σ : St) (H : Hp) (D : Ends), Inv X pins σ H s → t D σ H → wpAny (model X.prog X.w) X.A (execs st X.env) (SP X pins D) X.xe s
theorem thn {α : Type} {t : Sem α} {Q Q' : α → Shared → Prop} {M : Model} {A : Around} {E : Value → Shared → Prop} {s : Shared} (h : wpAny M A t Q E s) (hQ : ∀ a s, Q a s → Q' a s) : wpAny M A t Q' E s := wpAny_mono h hQ fun _ _ x => x
end L2
namespace L2
open PySem PySem.Spec PyProof.Rows
section
variable {X : Cx}
def tVar (i : Nat) : TE := fun σ H Q => ∃ v, σ[i]? = some (some v) ∧ Q v H
def tC (v : V) : TE := fun _ H Q => Q v H
theorem pe_var {i : Nat} {x : Str} {pos : Pos} (hN : X.N[i]? = some x) (hv : Vis X.env.scope x) (hd : (x == ("__debug__" : Str)) = false := by decide) (hcd : (x == ("__classdict__" : Str)) = false := by decide) : PE X (.Name x pos) (tVar i) := by
  intro pins s σ H Q I h
  obtain ⟨v, e, h⟩ := h
  obtain ⟨m, hn, hl⟩ := I.loc
  obtain ⟨u, r, l⟩ := hl i x v hN e hv
  have fin : EP X pins σ Q u s := ⟨v, H, I, r, h⟩
  rcases l with ⟨hk, hm⟩ | ⟨hk, c, hc, hcell⟩
  · exact wpAny_Name (wpAny_loadName_local I.ok.kind hk hn hm fin) hd
  · rcases hk with hk | hk
    · exact wpAny_Name (wpAny_loadName_cell I.ok.kind hk hc hcell fin) hd
    · exact wpAny_Name (wpAny_loadName_free I.ok.kind hk hc hcell fin hcd) hd
theorem pe_int {i j pos} : PE X (.Constant (.int i) j pos) (tC (.int i)) := fun _ _ _ H _ I h => wpAny_Constant_int ⟨.int i, H, I.tok _, ⟨_, rfl⟩, h⟩
theorem pe_bl {b j pos} : PE X (.Constant (.bool b) j pos) (tC (.bl b)) := fun _ _ _ H _ I h => Constant_bool ⟨.bl b, H, I, rfl, h⟩
theorem pe_non {j pos} : PE X (.Constant .none j pos) (tC .non) := fun _ _ _ H _ I h => Constant_none ⟨.non, H, I, rfl, h⟩
theorem pe_str {x j pos} : PE X (.Constant (.str x) j pos) (tC (.str x)) := fun _ _ _ H _ I h => Calls.Constant_str ⟨.str x, H, I.tok _, ⟨_, rfl⟩, h⟩
def Gl (X : Cx) (x : Str) : Prop := X.env.kindOf x = some .globalImplicit
theorem ld_glob {E : Value → Shared → Prop} {pins : List (Addr × Obj)} {s : Shared} {σ : St} {H : Hp} {x : Str} {u : Value} {pos : Pos} {Q : Value → Shared → Prop} (I : Inv X pins σ H s) (hg : Gl X x) (hm : X.mg x = some u) (h : Q u s)
    (hd : (x == ("__debug__" : Str)) = false := by decide) : wpAny (model X.prog X.w) X.A (eval (.Name x pos) X.env) Q E s :=
  Calls.Name_function_global I.ok.kind hg (Calls.loadGlobal_global (by rw [I.ok.glob]; exact I.mod.glob.keeps I.bk) hm h) hd
theorem ld_blt {E : Value → Shared → Prop} {pins : List (Addr × Obj)} {s : Shared} {σ : St} {H : Hp} {x : Str} {u : Value} {pos : Pos} {Q : Value → Shared → Prop} (I : Inv X pins σ H s) (hg : Gl X x) (hm : X.mg x = none) (hv : bootBuiltins x = some u) (h : Q u s)
    (hn : x ≠ "__name__" := by decide) (hd : (x == ("__debug__" : Str)) = false := by decide) : wpAny (model X.prog X.w) X.A (eval (.Name x pos) X.env) Q E s := by
  obtain ⟨mb, h1, h2⟩ := I.mod.blt
  exact Calls.Name_function_global I.ok.kind hg (Calls.loadGlobal_builtin (by rw [I.ok.glob]; exact I.mod.glob.keeps I.bk) hm (by rw [I.ok.blt]; exact h1.keeps I.bk) ((h2 x hn).trans hv) h) hd
theorem pe_bltn {x : Str} {v : V} {u : Value} {pos : Pos} (hg : Gl X x) (hm : X.mg x = none) (hv : bootBuiltins x = some u) (r : RelV v u) (hn : x ≠ "__name__" := by decide) (hd : (x == ("__debug__" : Str)) = false := by decide) : PE X (.Name x pos) (tC v) :=
  fun _ _ _ H _ I h => ld_blt I hg hm hv ⟨v, H, I, r, h⟩ hn hd
variable {a b : Expr} {ta tb : TE} {pos : Pos}
variable {tA tB' : TT} {rest : List Expr}
def tAnd (t u : TT) : TT := fun σ H Q => t σ H fun c H1 => if c = true then u σ H1 Q else Q false H1
def tOr (t u : TT) : TT := fun σ H Q => t σ H fun c H1 => if c = true then Q true H1 else u σ H1 Q
def tNot (t : TT) : TT := fun σ H Q => t σ H fun c H1 => Q (!c) H1
theorem pw_and1 (ha : PT X a tA) : PW X (.BoolOp .And [a] pos) tA := by
  intro wh pins s σ H Q I h
  refine isTrue_and (thn (ha pins s σ H Q I h) fun c s1 e => ?_)
  cases c with
  | true => exact isTrue_and_nil e
  | false => exact e
theorem pw_or1 (ha : PT X a tA) : PW X (.BoolOp .Or [a] pos) tA := by
  intro wh pins s σ H Q I h
  refine isTrue_or (thn (ha pins s σ H Q I h) fun c s1 e => ?_)
  cases c with
  | false => exact isTrue_or_nil e
  | true => exact e
theorem pw_and (ha : PT X a tA) (hb : PW X (.BoolOp .And (b :: rest) pos) tB') : PW X (.BoolOp .And (a :: b :: rest) pos) (tAnd tA tB') := by
  intro wh pins s σ H Q I h
  refine isTrue_and (thn (ha pins s σ H _ I h) fun c s1 ⟨H1, I1, q1⟩ => ?_)
  cases c with
  | true => exact hb wh pins s1 σ H1 Q I1 q1
  | false => exact ⟨H1, I1, q1⟩
theorem pw_or (ha : PT X a tA) (hb : PW X (.BoolOp .Or (b :: rest) pos) tB') : PW X (.BoolOp .Or (a :: b :: rest) pos) (tOr tA tB') := by
  intro wh pins s σ H Q I h
  refine isTrue_or (thn (ha pins s σ H _ I h) fun c s1 ⟨H1, I1, q1⟩ => ?_)
  cases c with
  | true => exact ⟨H1, I1, q1⟩
  | false => exact hb wh pins s1 σ H1 Q I1 q1
theorem pt_not (ha : PT X a tA) : PT X (.UnaryOp .Not a pos) (tNot tA) := by
  intro pins s σ H Q I h
  exact isTrue_not (ha pins s σ H (fun c H1 => Q (!c) H1) I h)
def tAndV (ta tb : TE) : TE := fun σ H Q => ta σ H fun x H1 => ∃ c, x = .bl c ∧ if c = true then tb σ H1 Q else Q (.bl false) H1
def tNotV (ta : TE) : TE := fun σ H Q => ta σ H fun x H1 => ∃ c, x = .bl c ∧ Q (.bl (!c)) H1
theorem pe_one {op} {t : TE} (h : PE X a t) : PE X (.BoolOp op [a] pos) t := fun pins s σ H Q I hw => BoolOp_one (h pins s σ H Q I hw)
theorem pe_and (ha : PE X a ta) (hb : PE X (.BoolOp .And (b :: rest) pos) tb) : PE X (.BoolOp .And (a :: b :: rest) pos) (tAndV ta tb) := by
  intro pins s σ H Q I h
  refine BoolOp_and (thn (ha pins s σ H _ I h) fun v s1 ⟨x, H1, I1, r1, q1⟩ => ?_)
  obtain ⟨c, rfl, q1⟩ := q1
  cases r1
  refine wpAny_truthy_bool ?_
  cases c with
  | true => exact hb pins s1 σ H1 Q I1 q1
  | false => exact ⟨.bl false, H1, I1, rfl, q1⟩
theorem pe_not (ha : PE X a ta) : PE X (.UnaryOp .Not a pos) (tNotV ta) := by
  intro pins s σ H Q I h
  refine UnaryOp_ (thn (ha pins s σ H _ I h) fun v s1 ⟨x, H1, I1, r1, q1⟩ => ?_)
  obtain ⟨c, rfl, q1⟩ := q1
  cases r1
  exact not_of (wpAny_truthy_bool ⟨.bl (!c), H1, I1, rfl, q1⟩)
def tIf (t : TT) (ta tb : TE) : TE := fun σ H Q => t σ H fun c H1 => if c = true then ta σ H1 Q else tb σ H1 Q
theorem pe_ifExp {c : Expr} (hc : PT X c tA) (ha : PE X a ta) (hb : PE X b tb) : PE X (.IfExp c a b pos) (tIf tA ta tb) := by
  intro pins s σ H Q I h
  refine wpAny_IfExp (thn (hc pins s σ H _ I h) fun d s1 ⟨H1, I1, q1⟩ => ?_)
  cases d with
  | true => exact ha pins s1 σ H1 Q I1 q1
  | false => exact hb pins s1 σ H1 Q I1 q1
end
end L2
namespace L2
open PySem PySem.Spec PyProof.Rows
def SqL (K : PySem.W.Frag) (H : Hp) (a : Addr) (xs : List V) : Prop :=
  Rd H a (.lst xs) ∨
    ∃ (o : Obj) (its : Array Value) (n : Nat), K.lookup a = some o ∧ o.cls = .type "list" ∧ o.dict = none ∧ o.data = .seq its n ∧ its.size ≤ sizeLine ∧ Vals xs its.toList
def SqT (K : PySem.W.Frag) (H : Hp) (a : Addr) (xs : List V) : Prop :=
  Rd H a (.tup xs) ∨
    ∃ (o : Obj) (its : Array Value) (n : Nat), K.lookup a = some o ∧ o.cls = .type "tuple" ∧ o.data = .seq its n ∧ its.size ≤ sizeLine ∧ Vals xs its.toList
def absV : Value → Option V
  | .none => some .non
  | .bool b => some (.bl b)
  | .int i _ => some (.int i)
  | .str x _ => some (.str x)
  | .bytes b _ => some (.byt b)
  | .float b _ => some (.flt b)
  | .ref a => some (.ref a)
  | .type n => some (.ty n)
  | _ => none
theorem RelV.abs {x : V} {u : Value} (r : RelV x u) : absV u = some x := by
  cases x with
  | non => cases r; rfl
  | bl _ => cases r; rfl
  | int _ => obtain ⟨t, rfl⟩ := r; rfl
  | str _ => obtain ⟨t, rfl⟩ := r; rfl
  | byt _ => obtain ⟨t, rfl⟩ := r; rfl
  | flt _ => obtain ⟨t, rfl⟩ := r; rfl
  | ref _ => cases r; rfl
  | ty _ => cases r; rfl
theorem RelV.inj {x y : V} {u : Value} (r : RelV x u) (q : RelV y u) : x = y := Option.some.inj (r.abs.symm.trans q.abs)
theorem Vals.inj : ∀ {xs ys : List V} {us : List Value}, Vals xs us → Vals ys us → xs = ys
  | _, _, _, .nil, .nil => rfl
  | _, _, _, .cons r t, .cons r' t' => by rw [r.inj r', Vals.inj t t']
section
variable {X : Cx} {pins : List (Addr × Obj)} {σ : St} {H : Hp} {s : Shared} {a : Addr} {xs ys : List V}
theorem SqL.of {K : PySem.W.Frag} (h : H a = some (.lst xs)) : SqL K H a xs := .inl (.inl h)
theorem SqT.of {K : PySem.W.Frag} (h : H a = some (.tup xs)) : SqT K H a xs := .inl (.inl h)
theorem Inv.list (I : Inv X pins σ H s) (h : SqL X.K H a xs) : ∃ its : List Value, Vals xs its ∧ PlainL s.heap a its.toArray ∧ xs.length ≤ sizeLine := by
  rcases h with h | ⟨o, its, n, hk, hc, hd, hs, hz, r⟩
  · obtain ⟨z, its, n, r, e⟩ := h.ok I.hok
    exact ⟨its, r, ⟨_, n, e, rfl, rfl, rfl⟩, z⟩
  · refine ⟨its.toList, r, ⟨o, n, I.kIn a o hk, hc, hd, by simpa using hs⟩, ?_⟩
    have e := r.length
    simp only [Array.length_toList] at e
    omega
theorem Inv.tuple (I : Inv X pins σ H s) (h : SqT X.K H a xs) : ∃ its : List Value, Vals xs its ∧ IsTup s.heap a its.toArray ∧ xs.length ≤ sizeLine := by
  rcases h with h | ⟨o, its, n, hk, hc, hs, hz, r⟩
  · obtain ⟨z, its, r, p⟩ := h.ok I.hok
    exact ⟨its, r, p.tup, z⟩
  · refine ⟨its.toList, r, ⟨o, I.kIn a o hk, hc, n, by simpa using hs⟩, ?_⟩
    have e := r.length
    simp only [Array.length_toList] at e
    omega
theorem Inv.list_inj (I : Inv X pins σ H s) (h : SqL X.K H a xs) (h' : SqL X.K H a ys) : xs = ys := by
  obtain ⟨its, r, ⟨o, n, e, _, _, d⟩, _⟩ := I.list h
  obtain ⟨its', r', ⟨o', n', e', _, _, d'⟩, _⟩ := I.list h'
  rw [e] at e'; cases e'
  rw [d] at d'
  injection d' with d1 _
  have : its = its' := by simpa using congrArg Array.toList d1
  subst this
  exact r.inj r'
theorem Inv.tuple_inj (I : Inv X pins σ H s) (h : SqT X.K H a xs) (h' : SqT X.K H a ys) : xs = ys := by
  obtain ⟨its, r, ⟨o, e, _, n, d⟩, _⟩ := I.tuple h
  obtain ⟨its', r', ⟨o', e', _, n', d'⟩, _⟩ := I.tuple h'
  rw [e] at e'; cases e'
  rw [d] at d'
  injection d' with d1 _
  have : its = its' := by simpa using congrArg Array.toList d1
  subst this
  exact r.inj r'
end
abbrev Cx.wish (X : Cx) (E : Value → Shared → Prop) : Cx := { X with xe := E }
abbrev Cx.nox (X : Cx) : Cx := X.wish fun _ _ => False
theorem Cx.Ok.wish {X : Cx} (ok : X.Ok) (E : Value → Shared → Prop) : (X.wish E).Ok :=
  ⟨ok.mod, ok.kind, ok.glob, ok.blt, ok.above, ok.inj, ok.has, ok.cab, ok.hd, ok.frames, ok.stk, ok.exf, ok.bs, ok.bsz, ok.noex, ok.exfs, ok.funs, ok.frf⟩
theorem Cx.Ok.unwish {X : Cx} {E : Value → Shared → Prop} (ok : (X.wish E).Ok) : X.Ok :=
  ⟨ok.mod, ok.kind, ok.glob, ok.blt, ok.above, ok.inj, ok.has, ok.cab, ok.hd, ok.frames, ok.stk, ok.exf, ok.bs, ok.bsz, ok.noex, ok.exfs, ok.funs, ok.frf⟩
section
variable {X : Cx} {pins : List (Addr × Obj)} {σ : St} {H : Hp} {s : Shared} {E : Value → Shared → Prop}
theorem Inv.wish (I : Inv X pins σ H s) (E : Value → Shared → Prop) : Inv (X.wish E) pins σ H s := ⟨I.ok.wish E, I.os, I.bare, I.base, I.loc, I.cell, I.free, I.freeC, I.pin, I.hok, I.len⟩
theorem Inv.unwish (I : Inv (X.wish E) pins σ H s) : Inv X pins σ H s := ⟨I.ok.unwish, I.os, I.bare, I.base, I.loc, I.cell, I.free, I.freeC, I.pin, I.hok, I.len⟩
theorem SP.unwish {D : Ends} {f : Flow} {s' : Shared} (h : SP (X.wish E) pins D f s') : SP X pins D f s' := by
  cases f with
  | next => obtain ⟨σ', H', I, q⟩ := h; exact ⟨σ', H', I.unwish, q⟩
  | brk => obtain ⟨σ', H', I, q⟩ := h; exact ⟨σ', H', I.unwish, q⟩
  | cont => obtain ⟨σ', H', I, q⟩ := h; exact ⟨σ', H', I.unwish, q⟩
  | ret u => obtain ⟨v, σ', H', I, r, q⟩ := h; exact ⟨v, σ', H', I.unwish, r, q⟩
theorem PE.nox {e : Expr} {t : TE} (h : PE X.nox e t) : PE X e t := fun pins s σ H Q I hw =>
  wpAny_mono (h pins s σ H Q (I.wish _) hw) (fun _ _ ⟨v, H', I', r, q⟩ => ⟨v, H', I'.unwish, r, q⟩) fun _ _ z => False.elim z
theorem PT.nox {e : Expr} {t : TT} (h : PT X.nox e t) : PT X e t := fun pins s σ H Q I hw =>
  wpAny_mono (h pins s σ H Q (I.wish _) hw) (fun _ _ ⟨H', I', q⟩ => ⟨H', I'.unwish, q⟩) fun _ _ z => False.elim z
theorem PSs.nox {st : List Stmt} {t : TS} (h : PSs X.nox st t) : PSs X st t := fun pins s σ H D I hw =>
  wpAny_mono (h pins s σ H D (I.wish _) hw) (fun _ _ q => q.unwish) fun _ _ z => False.elim z
end
section
variable {X : Cx} {st : Stmt} {rest : List Stmt} {t u : TS} {e : Expr} {te : TE} {pos : Pos}
def tNext : TS := fun D σ H => D.nx σ H
def tSeq (t u : TS) : TS := fun D σ H => t { D with nx := u D } σ H
theorem pss_nil : PSs X [] tNext := fun _ _ σ H _ I h => wpAny_execs_nil ⟨σ, H, I, h⟩
theorem pss_cons (h1 : PS X st t) (h2 : PSs X rest u) : PSs X (st :: rest) (tSeq t u) := by
  intro pins s σ H D I h
  refine wpAny_execs_cons (thn (h1 pins s σ H { D with nx := u D } I h) fun f s1 q => ?_)
  cases f with
  | next =>
    obtain ⟨σ', H', I', q⟩ := q
    exact h2 pins s1 σ' H' D I' q
  | ret v => exact q
  | brk => exact q
  | cont => exact q
theorem pss_one (h1 : PS X st t) : PSs X [st] t := by
  intro pins s σ H D I h
  refine wpAny_execs_cons (thn (h1 pins s σ H D I h) fun f s1 q => ?_)
  cases f with
  | next => exact wpAny_execs_nil q
  | ret v => exact q
  | brk => exact q
  | cont => exact q
theorem Inv.quiet {pins : List (Addr × Obj)} {σ : St} {H : Hp} {s : Shared} (I : Inv X pins σ H s) : interactive X.env = false := by simp [interactive, I.ok.kind]
def tDrop (te : TE) : TS := fun D σ H => te σ H fun _ H1 => D.nx σ H1
theorem ps_expr (he : PE X e te) (hs : swapsWith e none pos.line X.env = pure false := by rfl) : PS X (.Expr e pos) (tDrop te) := by
  intro pins s σ H D I h
  exact wpAny_Expr_any (thn (he pins s σ H _ I h) fun v s1 ⟨x, H1, I1, r1, q1⟩ => ⟨σ, H1, I1, q1⟩) I.quiet hs
def tRet (te : TE) : TS := fun D σ H => te σ H D.rt
theorem ps_ret (he : PE X e te) : PS X (.Return (some e) pos) (tRet te) := by
  intro pins s σ H D I h
  exact wpAny_Return_some (thn (he pins s σ H _ I h) fun v s1 ⟨x, H1, I1, r1, q1⟩ => ⟨x, σ, H1, I1, r1, q1⟩)
def tIfS (c : TT) (t u : TS) : TS := fun D σ H => c σ H fun b H1 => if b = true then t D σ H1 else u D σ H1
theorem ps_if {c : Expr} {a b : List Stmt} {tc : TT} (hc : PT X c tc) (ha : PSs X a t) (hb : PSs X b u) : PS X (.If c a b pos) (tIfS tc t u) := by
  intro pins s σ H D I h
  refine wpAny_If (thn (hc pins s σ H _ I h) fun d s1 ⟨H1, I1, q1⟩ => ?_)
  cases d with
  | true => exact ha pins s1 σ H1 D I1 q1
  | false => exact hb pins s1 σ H1 D I1 q1
def tNever : TS := fun _ _ _ => False
theorem ps_never : PS X st tNever := fun _ _ _ _ _ _ h => h.elim
end
abbrev TG := V → St → Hp → (St → Hp → Prop) → Prop
abbrev TGs := List V → St → Hp → (St → Hp → Prop) → Prop
def PG (X : Cx) (target : Expr) (t : TG) : Prop :=
  ∀ (pins : List (Addr × Obj)) (s : Shared) (σ : St) (H : Hp) (v : V) (u : Value) (Q : St → Hp → Prop), Inv X pins σ H s → RelV v u → t v σ H Q →
    wpAny (model X.prog X.w) X.A (assign target X.env u) (fun _ s' => ∃ σ' H', Inv X pins σ' H' s' ∧ Q σ' H') X.xe s
def PGs (X : Cx) (ts : List Expr) (t : TGs) : Prop :=
  ∀ (pins : List (Addr × Obj)) (s : Shared) (σ : St) (H : Hp) (vs : List V) (us : List Value) (Q : St → Hp → Prop), Inv X pins σ H s → Vals vs us → t vs σ H Q →
    wpAny (model X.prog X.w) X.A (assignInOrder ((assignEach ts X.env).map (·.2)) us) (fun _ s' => ∃ σ' H', Inv X pins σ' H' s' ∧ Q σ' H') X.xe s
section
variable {X : Cx} {pos : Pos}
def gName (i : Nat) : TG := fun v σ H Q => Q (σ.set i (some v)) H
theorem pg_name {i : Nat} {x : Str} (hN : X.N.Nodup) (hi : X.N[i]? = some x) (hx : Loc X.env.scope x) (hf : X.fn x = true ∨ X.env.scope.names.lookup x = some .local := by first | exact .inl rfl | exact .inr rfl | assumption) : PG X (.Name x pos) (gName i) := by
  intro pins s σ H v u Q I r h
  exact wpAny_assign_Name (store_ok I hN hi hx r (fun s' I' => ⟨_, H, I', h⟩) hf)
def gNil : TGs := fun vs σ H Q => vs = [] ∧ Q σ H
def gCons (t : TG) (u : TGs) : TGs := fun vs σ H Q => ∃ v r, vs = v :: r ∧ t v σ H fun σ' H' => u r σ' H' Q
theorem pgs_nil : PGs X [] gNil := by
  intro pins s σ H vs us Q I r h
  obtain ⟨e, h⟩ := h
  subst e
  cases r
  exact assignInOrder_nil ⟨σ, H, I, h⟩
theorem pgs_cons {e : Expr} {es : List Expr} {t : TG} {u : TGs} (h1 : PG X e t) (h2 : PGs X es u)
    (hs : (assignEach (e :: es) X.env).map (·.2) = assign e X.env :: (assignEach es X.env).map (·.2) := by rfl) : PGs X (e :: es) (gCons t u) := by
  intro pins s σ H vs us Q I r h
  obtain ⟨v, vr, e1, h⟩ := h
  subst e1
  cases r with
  | cons r rr =>
    rw [hs]
    refine assignInOrder_cons (thn (h1 pins s σ H _ _ _ I r h) fun _ s1 ⟨σ1, H1, I1, q1⟩ => ?_)
    exact h2 pins s1 σ1 H1 _ _ Q I1 rr q1
def gTup (K : PySem.W.Frag) (n : Nat) (t : TGs) : TG := fun v σ H Q => ∃ a xs, v = .ref a ∧ SqT K H a xs ∧ xs.length = n ∧ t xs σ H Q
theorem pg_tup {es : List Expr} {k : Nat} {t : TGs} {n : Nat} (hc : X.calm = true) (h : PGs X es t)
    (hn : (assignEach es X.env).length = n := by rfl) (hst : (assignEach es X.env).findIdx? (·.1) = none := by rfl) : PG X (.Tuple es k pos) (gTup X.K n t) := by
  intro pins s σ H v u Q I r hw
  obtain ⟨a, xs, e1, hq, hl, hw⟩ := hw
  subst e1
  cases r
  obtain ⟨its, rv, ht, hz⟩ := I.tuple hq
  refine assign_Tuple_tuple (I.ok.hd hc) ht (by simp [hn, ← hl, rv.length]) hst fun h' hx => ?_
  have I1 : Inv X pins σ H { s with heap := h' } := I.kept (t' := s.toks) fun b o e => hx b o (Nat.ne_of_lt (Heap.lt_size e)) e
  exact h pins _ σ H xs _ Q I1 (by simpa using rv) hw
def tAsg (te : TE) (g : TG) : TS := fun D σ H => te σ H fun x H1 => g x σ H1 D.nx
theorem ps_set {i : Nat} {x : Str} {e : Expr} {te : TE} {pos' : Pos} (hN : X.N.Nodup) (hi : X.N[i]? = some x) (hx : Loc X.env.scope x) (he : PE X e te) (hs : swapsWith e (some (.Name x pos')) pos.line X.env = pure false := by rfl) (hf : X.fn x = true ∨ X.env.scope.names.lookup x = some .local := by first | exact .inl rfl | exact .inr rfl | assumption) :
    PS X (.Assign [.Name x pos'] e pos) (tAsg te (gName i)) := by
  intro pins s σ H D I h
  refine wpAny_Assign_Name (thn (he pins s σ H _ I h) fun v s1 ⟨y, H1, I1, r1, q1⟩ => ?_) hs
  exact store_ok I1 hN hi hx r1 (fun s2 I2 => ⟨_, H1, I2, q1⟩) hf
end
section
variable {X : Cx} {pos : Pos}
def tWhile (c : TT) (tb : TS) : TS := fun D σ H => ∃ W : Nat → St → Hp → Prop, (∃ m, W m σ H) ∧ ∀ m σ H, W m σ H →
  c σ H fun b H1 => if b = true then ∃ N : St → Hp → Prop, (∀ σ' H', N σ' H' → ∃ m', m' < m ∧ W m' σ' H') ∧ tb { D with nx := N, ct := N, bk := D.nx } σ H1 else D.nx σ H1
theorem ps_while {c : Expr} {body : List Stmt} {tc : TT} {tb : TS} (hp : PassesOwn (model X.prog X.w) X.A X.env X.xe) (hc : PT X c tc) (hb : PSs X body tb) : PS X (.While c body [] pos) (tWhile tc tb) := by
  intro pins s σ H D I h
  obtain ⟨W, ⟨m0, w0⟩, turn⟩ := h
  refine wpAny_While (codeAny_whileLoop (fun n s' => ∃ σ' H', Inv X pins σ' H' s' ∧ W n σ' H') ?_ m0 ⟨σ, H, I, w0⟩)
  rintro n s1 ⟨σ1, H1, I1, w1⟩
  refine wpAny_passesOwn hp (thn (hc pins s1 σ1 H1 _ I1 (turn n σ1 H1 w1)) fun b s2 ⟨H2, I2, q2⟩ => ?_)
  cases b with
  | true =>
    obtain ⟨N, hN, q2⟩ := q2
    rw [if_pos rfl]
    refine wpAny_passesOwn hp (thn (hb pins s2 σ1 H2 _ I2 q2) fun f s3 q3 => ?_)
    cases f with
    | next =>
      obtain ⟨σ3, H3, I3, n3⟩ := q3
      obtain ⟨m', hm, w3⟩ := hN σ3 H3 n3
      exact ⟨m', hm, σ3, H3, I3, w3⟩
    | cont =>
      obtain ⟨σ3, H3, I3, n3⟩ := q3
      obtain ⟨m', hm, w3⟩ := hN σ3 H3 n3
      exact ⟨m', hm, σ3, H3, I3, w3⟩
    | brk => exact q3
    | ret v => exact q3
  | false =>
    rw [if_neg Bool.false_ne_true]
    exact wpAny_execs_nil ⟨σ1, H2, I2, q2⟩
end
structure It where
  go : Nat → Hp → Prop
  yld : Nat → Hp → V → Hp → Prop
  stop : Nat → Hp → Prop
def FpOk (X : Cx) (pins : List (Addr × Obj)) (H : Hp) (b : Addr) : Prop :=
  H b = none ∧ b ≠ X.env.locals ∧ b ∉ X.fs ∧ (b ∈ X.ex ∨ X.s_0.heap.objs.size ≤ b) ∧ (∀ x c, X.env.cells.lookup x = some c → c ≠ b) ∧ ∀ p ∈ X.pn ++ pins, p.1 ≠ b
theorem Inv.fpOk {X : Cx} {pins : List (Addr × Obj)} {σ : St} {H H' : Hp} {s : Shared} {b : Addr} (I : Inv X pins σ H s) (hb : s.heap.objs.size ≤ b) (hn : H' b = none) : FpOk X pins H' b := by
  refine ⟨hn, Nat.ne_of_gt (Nat.lt_of_lt_of_le I.lt hb), I.nofs hb, .inr (Nat.le_trans I.sz hb), fun x c e z => ?_, fun p hp z => ?_⟩
  · obtain ⟨v, q⟩ := I.cell x c e
    exact absurd (Nat.lt_of_lt_of_le q.lt (by rw [z]; exact hb)) (Nat.lt_irrefl _)
  · exact absurd (Nat.lt_of_lt_of_le (Heap.lt_size (I.pin p hp).1) (by rw [z]; exact hb)) (Nat.lt_irrefl _)
structure Turn (P : Program) (w : World) (K : PySem.W.Frag) (tg : Expr) (J : It) (fp : List Addr) (it : Addr) (tn : Nat → Heap → Prop) : Prop where
  mem : it ∈ fp
  obj : ∀ i h, tn i h → ∀ b ∈ fp, ∃ o, h.get? b = some o ∧ ∀ v, o.data ≠ .cell v
  keep : ∀ i h h', tn i h → (∀ b ∈ fp, ∀ o, h.get? b = some o → h'.get? b = some o) → tn i h'
  item : ∀ (X : Cx), X.prog = P → X.w = w → X.K = K → X.calm = true → ∀ (i : Nat) (pins : List (Addr × Obj)) (s : Shared) (σ : St) (H : Hp) (E : Value → Shared → Prop), Inv X pins σ H s → (∀ b ∈ fp, FpOk X pins H b) → tn i s.heap → J.go i H →
    wpAny (model P w) X.A (pyNext (.ref it)) (fun r s1 => ∃ u, r = some u ∧
      wpAny (model P w) X.A (letOwnedTupleGo tg (.ref it) u) (fun _ s2 => ∃ x H', Inv X pins σ H' s2 ∧ RelV x u ∧ J.yld i H x H' ∧ tn (i + 1) s2.heap ∧ ∀ b ∈ fp, H' b = none) E s1) E s
  done : ∀ (X : Cx), X.prog = P → X.w = w → X.K = K → X.calm = true → ∀ (i : Nat) (pins : List (Addr × Obj)) (s : Shared) (σ : St) (H : Hp) (E : Value → Shared → Prop), Inv X pins σ H s → (∀ b ∈ fp, FpOk X pins H b) → tn i s.heap → J.stop i H →
    wpAny (model P w) X.A (pyNext (.ref it)) (fun r s1 => r = none ∧ Inv X pins σ H s1) E s
  self : ∀ (A : Around) (i : Nat) (s : Shared) (Q : Value → Shared → Prop) (E : Value → Shared → Prop), tn i s.heap → Q (.ref it) s → wpAny (model P w) A (pyIter (.ref it)) Q E s
abbrev TI := St → Hp → (It → Hp → Prop) → Prop
def PIE (X : Cx) (pins : List (Addr × Obj)) (σ : St) (tg : Expr) (R : It → Hp → Prop) (itv : Value) (s2 : Shared) : Prop :=
  ∃ (it : Addr) (fp : List Addr) (tn : Nat → Heap → Prop) (J : It) (H' : Hp), itv = .ref it ∧ Inv X pins σ H' s2 ∧ Turn X.prog X.w X.K tg J fp it tn ∧ tn 0 s2.heap ∧ (∀ b ∈ fp, FpOk X pins H' b) ∧ R J H'
def PI (X : Cx) (tg iter : Expr) (wi : TI) : Prop :=
  ∀ (pins : List (Addr × Obj)) (s : Shared) (σ : St) (H : Hp) (R : It → Hp → Prop), Inv X pins σ H s → wi σ H R →
    wpAny (model X.prog X.w) X.A (eval iter X.env) (fun v s1 => wpAny (model X.prog X.w) X.A (pyIter v) (PIE X pins σ tg R) X.xe s1) X.xe s
theorem go_of {M : Model} {A : Around} {E : Value → Shared → Prop} {s : Shared} {tg : Expr} {it : Addr} {u : Value} {o : Obj} {n : String} {vs : Array Value} {Q : Unit → Shared → Prop} (ho : s.heap.get? it = some o) (hc : o.cls = .type n) (hd : o.data = .fields vs)
    (hn : ["enumerate", "zip", "dict_itemiterator", "dict_reverseitemiterator", "odict_iterator", "itertools.zip_longest", "itertools.pairwise"].contains n = false) (hQ : Q () s) : wpAny M A (letOwnedTupleGo tg (.ref it) u) Q E s := by
  unfold letOwnedTupleGo
  cases tg <;> first
    | exact wpAny_pure hQ
    | (cases u <;> first
        | exact wpAny_pure hQ
        | (refine wpAny_bind (wpAny_load ho ?_)
           rw [hc, hd]
           show wpAny M A (if (["enumerate", "zip", "dict_itemiterator", "dict_reverseitemiterator", "odict_iterator", "itertools.zip_longest", "itertools.pairwise"].contains n && vs[0]? == some (rawInt _)) = true then _ else _) Q E s
           rw [if_neg (by intro h; rw [hn, Bool.false_and] at h; cases h)]
           exact wpAny_pure hQ))
def Itl (K : PySem.W.Frag) (a : Addr) : It :=
  ⟨fun i H => ∃ xs x, SqL K H a xs ∧ xs[i]? = some x, fun i H x H' => H' = H ∧ ∀ xs, SqL K H a xs → xs[i]? = some x, fun i H => ∃ xs, SqL K H a xs ∧ xs.length ≤ i⟩
def Itt (K : PySem.W.Frag) (a : Addr) : It :=
  ⟨fun i H => ∃ xs x, SqT K H a xs ∧ xs[i]? = some x, fun i H x H' => H' = H ∧ ∀ xs, SqT K H a xs → xs[i]? = some x, fun i H => ∃ xs, SqT K H a xs ∧ xs.length ≤ i⟩
def Itr (lo : Int) (n : Nat) : It := ⟨fun i _ => i < n, fun i H x H' => H' = H ∧ x = .int (lo + i), fun i _ => n ≤ i⟩
theorem turn_list {P : Program} {w : World} {K : PySem.W.Frag} {tg : Expr} (a it : Addr) : Turn P w K tg (Itl K a) [it] it (fun i h => h.IsListIter it a i) where
  mem := by simp
  obj := fun i h st b hb => by
    have e : b = it := by simpa using hb
    subst e
    obtain ⟨o, e, c, d⟩ := st
    exact ⟨o, e, fun v z => by rw [d] at z; cases z⟩
  keep := fun i h h' st k => st.at fun o e => k it (by simp) o e
  item := by
    intro X hP hw hK hc i pins s σ H E I hf st hg
    subst hP hw hK
    obtain ⟨xs, x, hq, hx⟩ := hg
    obtain ⟨its, rv, p, hz⟩ := I.list hq
    obtain ⟨u, hu, ru⟩ := rv.get hx
    obtain ⟨f0, f1, f2, f3, f4, f5⟩ := hf it (by simp)
    refine wpAny_pyNext_list_item st p.isList (x := u) (by simpa using hu) fun h' st' sb => ?_
    have I1 : Inv X pins σ H { s with heap := h' } := I.turned (t' := s.toks) (fun b o hb e => (sb.2 b hb).trans e) f0 f1 f3 f4 f5
    obtain ⟨o, e, c, d⟩ := id st'
    exact ⟨u, rfl, go_of (s := { s with heap := h' }) e c d (by decide) ⟨x, H, I1, ru, ⟨rfl, fun ys hy => by rw [I.list_inj hy hq]; exact hx⟩, st', fun b hb => (hf b hb).1⟩⟩
  done := by
    intro X hP hw hK hc i pins s σ H E I hf st hg
    subst hP hw hK
    obtain ⟨xs, hq, hx⟩ := hg
    obtain ⟨its, rv, p, hz⟩ := I.list hq
    obtain ⟨f0, f1, f2, f3, f4, f5⟩ := hf it (by simp)
    have hl := rv.length
    exact wpAny_pyNext_list_end (I.ok.hd hc) st p.isList (by simp; omega) fun h' eb => ⟨rfl, I.turned (t' := s.toks) (fun b o hb e => eb b o hb e) f0 f1 f3 f4 f5⟩
  self := fun _ _ _ _ _ st h => wpAny_pyIter_listiter st h
theorem turn_tuple {P : Program} {w : World} {K : PySem.W.Frag} {tg : Expr} (a it : Addr) : Turn P w K tg (Itt K a) [it] it (fun i h => h.IsTupleIter it a i) where
  mem := by simp
  obj := fun i h st b hb => by
    have e : b = it := by simpa using hb
    subst e
    obtain ⟨o, e, c, d⟩ := st
    exact ⟨o, e, fun v z => by rw [d] at z; cases z⟩
  keep := fun i h h' st k => st.at fun o e => k it (by simp) o e
  item := by
    intro X hP hw hK hc i pins s σ H E I hf st hg
    subst hP hw hK
    obtain ⟨xs, x, hq, hx⟩ := hg
    obtain ⟨its, rv, p, hz⟩ := I.tuple hq
    obtain ⟨u, hu, ru⟩ := rv.get hx
    obtain ⟨f0, f1, f2, f3, f4, f5⟩ := hf it (by simp)
    refine wpAny_pyNext_tuple_item st (show s.heap.IsTuple a its.toArray from p) (x := u) (by simpa using hu) fun h' st' sb => ?_
    have I1 : Inv X pins σ H { s with heap := h' } := I.turned (t' := s.toks) (fun b o hb e => (sb.2 b hb).trans e) f0 f1 f3 f4 f5
    obtain ⟨o, e, c, d⟩ := id st'
    exact ⟨u, rfl, go_of (s := { s with heap := h' }) e c d (by decide) ⟨x, H, I1, ru, ⟨rfl, fun ys hy => by rw [I.tuple_inj hy hq]; exact hx⟩, st', fun b hb => (hf b hb).1⟩⟩
  done := by
    intro X hP hw hK hc i pins s σ H E I hf st hg
    subst hP hw hK
    obtain ⟨xs, hq, hx⟩ := hg
    obtain ⟨its, rv, p, hz⟩ := I.tuple hq
    obtain ⟨f0, f1, f2, f3, f4, f5⟩ := hf it (by simp)
    have hl := rv.length
    exact wpAny_pyNext_tuple_end (I.ok.hd hc) st (show s.heap.IsTuple a its.toArray from p) (by simp; omega) fun h' eb => ⟨rfl, I.turned (t' := s.toks) (fun b o hb e => eb b o hb e) f0 f1 f3 f4 f5⟩
  self := fun _ _ _ _ _ st h => wpAny_pyIter_tupleiter st h
theorem turn_range {P : Program} {w : World} {K : PySem.W.Frag} {tg : Expr} (it : Addr) (lo : Int) (n : Nat) : Turn P w K tg (Itr lo n) [it] it (fun i h => IsRangeIter h it (lo + (i : Nat) * 1) ((n : Int) - (i : Nat)) 1) where
  mem := by simp
  obj := fun i h st b hb => by
    have e : b = it := by simpa using hb
    subst e
    exact ⟨_, st, fun v z => by
      have z' : Data.fields _ = Data.cell v := z
      cases z'⟩
  keep := fun i h h' st k => k it (by simp) _ st
  item := by
    intro X hP hw hK hc i pins s σ H E I hf st hg
    subst hP hw hK
    obtain ⟨f0, f1, f2, f3, f4, f5⟩ := hf it (by simp)
    have W := Walks.range (prog := X.prog) (w := X.w) (I.ok.hd hc) it lo 1 n
    refine W.item i s _ _ hg st fun v h' tk hv st' kk => ?_
    obtain ⟨t, rfl⟩ := hv
    have I1 : Inv X pins σ H { s with heap := h', toks := tk } := I.turned (fun b o hb e => kk b o (by simpa using hb) e) f0 f1 f3 f4 f5
    refine ⟨_, rfl, go_of (s := { s with heap := h', toks := tk }) (n := "range_iterator") st' rfl rfl (by decide) ⟨.int (lo + i), H, I1, ⟨t, ?_⟩, ⟨rfl, rfl⟩, st', fun b hb => (hf b hb).1⟩⟩
    rw [Int.mul_one]
  done := by
    intro X hP hw hK hc i pins s σ H E I hf st hg
    subst hP hw hK
    obtain ⟨f0, f1, f2, f3, f4, f5⟩ := hf it (by simp)
    exact wpAny_pyNext_range_end (I.ok.hd hc) st (by have : n ≤ i := hg; omega) fun h' eb => ⟨rfl, I.turned (t' := s.toks) (fun b o hb e => eb b o hb e) f0 f1 f3 f4 f5⟩
  self := fun _ _ _ _ _ st h => wpAny_pyIter_rangeiter st h
end L2
namespace L2
open PySem PySem.Spec PyProof.Rows
section
variable {X : Cx} {tg : Expr}
theorem range_it {pins : List (Addr × Obj)} {σ : St} {H : Hp} {s : Shared} {R : It → Hp → Prop} {E : Value → Shared → Prop} {lo hi : Int} {t u v : Tok} {tk : Nat} (I : Inv X pins σ H s) (h1 : -(2 ^ 62) ≤ lo) (h2 : lo < 2 ^ 62) (h3 : -(2 ^ 62) ≤ hi) (h4 : hi < 2 ^ 62)
    (q : R (Itr lo (hi - lo).toNat) H) : wpAny (model X.prog X.w) X.A (pyIter (.ref s.heap.objs.size)) (PIE X pins σ tg R) E { s with heap := s.heap.push { cls := .type "range", data := .fields #[.int lo t, .int hi u, .int 1 v] }, toks := tk } := by
  refine wpAny_pyIter_range (IsRange.new ..) (small_one h1 h2 h3 h4) ?_
  have I1 : Inv X pins σ H { s with heap := s.heap.push { cls := .type "range", data := .fields #[.int lo t, .int hi u, .int 1 v] }, toks := tk } := I.kept fun b o e => Heap.get?_push_of_some _ e
  refine ⟨(s.heap.push { cls := .type "range", data := .fields #[.int lo t, .int hi u, .int 1 v] }).objs.size, [(s.heap.push { cls := .type "range", data := .fields #[.int lo t, .int hi u, .int 1 v] }).objs.size], _, _, H, rfl,
    I1.kept (t' := tk) fun b o e => Heap.get?_push_of_some _ e, turn_range _ lo (hi - lo).toNat, ?_, fun b hb => ?_, q⟩
  · have e1 : lo + ((0 : Nat) : Int) * 1 = lo := by simp
    have e2 : (((hi - lo).toNat : Nat) : Int) - ((0 : Nat) : Int) = Builtin.Range.rangeSize lo hi 1 := by rw [rangeSize_one]; split <;> omega
    show IsRangeIter _ _ (lo + ((0 : Nat) : Int) * 1) ((((hi - lo).toNat : Nat) : Int) - ((0 : Nat) : Int)) 1
    rw [e1, e2]
    exact Heap.get?_push_size _ rfl
  · have e : b = (s.heap.push { cls := .type "range", data := .fields #[.int lo t, .int hi u, .int 1 v] }).objs.size := by simpa using hb
    subst e
    exact I1.fpOk (Nat.le_refl _) (I1.hok.fresh (Nat.le_refl _))
def iRng1 (ta : TA) : TI := fun σ H R => ta σ H fun vs H1 => ∃ j : Int, vs = [.int j] ∧ -(2 ^ 62) ≤ j ∧ j < 2 ^ 62 ∧ R (Itr 0 j.toNat) H1
def iRng2 (ta : TA) : TI := fun σ H R => ta σ H fun vs H1 => ∃ i j : Int, vs = [.int i, .int j] ∧ (-(2 ^ 62) ≤ i ∧ i < 2 ^ 62 ∧ -(2 ^ 62) ≤ j ∧ j < 2 ^ 62) ∧ R (Itr i (j - i).toNat) H1
theorem pi_range1 {a : Expr} {ta : TA} {p pos : Pos} (hg : Gl X "range") (hm : X.mg "range" = none) (ha : PA X [a] ta) (hs : starEach [a] X.env = [(false, eval a X.env)] := by rfl) : PI X tg (.Call (.Name "range" p) [a] [] pos) (iRng1 ta) := by
  intro pins s σ H R I h
  refine Call_ (ld_blt I hg hm boot_range (PyProof.Rows.callWith_type1 (thn (ha pos pins s σ H _ I h) fun us s1 ⟨vs, H1, I1, r1, q1⟩ => ?_) hs rfl))
  obtain ⟨j, e, q1, q2, q⟩ := q1
  subst e
  cases r1 with
  | cons r rr =>
    cases rr
    obtain ⟨t, rfl⟩ := r
    exact call_range_1 (range_it I1 (by omega) (by omega) q1 q2 (by simpa using q))
theorem pi_range2 {a b : Expr} {ta : TA} {p pos : Pos} (hg : Gl X "range") (hm : X.mg "range" = none) (ha : PA X [a, b] ta) (hs : starEach [a, b] X.env = [(false, eval a X.env), (false, eval b X.env)] := by rfl) (hs2 : starEach [b] X.env = [(false, eval b X.env)] := by rfl) :
    PI X tg (.Call (.Name "range" p) [a, b] [] pos) (iRng2 ta) := by
  intro pins s σ H R I h
  refine Call_ (ld_blt I hg hm boot_range (PyProof.Rows.callWith_type1 (thn (ha pos pins s σ H _ I h) fun us s1 ⟨vs, H1, I1, r1, q1⟩ => ?_) (by rw [hs, hs2]) (by rw [hs2]; rfl)))
  obtain ⟨i, j, e, ⟨q1, q2, q3, q4⟩, q⟩ := q1
  subst e
  cases r1 with
  | cons r rr =>
    cases rr with
    | cons r' rr =>
      cases rr
      obtain ⟨t, rfl⟩ := r
      obtain ⟨t', rfl⟩ := r'
      exact call_range_2 (range_it I1 q1 q2 q3 q4 q)
def tFor (wi : TI) (g : TG) (tb : TS) : TS := fun D σ H => wi σ H fun J H1 => ∃ W : Nat → Nat → St → Hp → Prop, (∃ m, W 0 m σ H1) ∧ ∀ i m σ H, W i m σ H →
  (J.stop i H ∧ D.nx σ H) ∨ (J.go i H ∧ ∃ N : St → Hp → Prop, (∀ σ' H', N σ' H' → ∃ m', m' < m ∧ W (i + 1) m' σ' H') ∧ ∀ x H', J.yld i H x H' → g x σ H' fun σ2 H2 => tb { D with nx := N, ct := N, bk := D.nx } σ2 H2)
def pinsAt (fp : List Addr) (h : Heap) : List (Addr × Obj) := fp.filterMap fun b => (h.get? b).map fun o => (b, o)
theorem mem_pinsAt {fp : List Addr} {h : Heap} {b : Addr} {o : Obj} (hb : b ∈ fp) (e : h.get? b = some o) : (b, o) ∈ pinsAt fp h := List.mem_filterMap.mpr ⟨b, hb, by rw [e]; rfl⟩
theorem of_pinsAt {fp : List Addr} {h : Heap} {p : Addr × Obj} (hp : p ∈ pinsAt fp h) : p.1 ∈ fp ∧ h.get? p.1 = some p.2 := by
  obtain ⟨b, hb, e⟩ := List.mem_filterMap.mp hp
  cases q : h.get? b with
  | none => rw [q] at e; cases e
  | some o =>
    rw [q] at e
    have e' : (b, o) = p := Option.some.inj e
    subst e'
    exact ⟨hb, q⟩
theorem Inv.pinned {pins : List (Addr × Obj)} {σ : St} {H : Hp} {s : Shared} {fp : List Addr} (I : Inv X pins σ H s) (hf : ∀ b ∈ fp, FpOk X pins H b) (ho : ∀ b ∈ fp, ∃ o, s.heap.get? b = some o ∧ ∀ v, o.data ≠ .cell v) : Inv X (pins ++ pinsAt fp s.heap) σ H s :=
  I.pins_of fun p hp => (List.mem_append.mp hp).elim (fun z => I.pin p (List.mem_append_right _ z)) fun z => by
    obtain ⟨hb, e⟩ := of_pinsAt z
    obtain ⟨f0, f1, f2, _⟩ := hf p.1 hb
    obtain ⟨o, e', d⟩ := ho p.1 hb
    rw [e] at e'; cases e'
    exact ⟨e, f0, f1, f2, d⟩
theorem Inv.unpinned {pins pl : List (Addr × Obj)} {σ : St} {H : Hp} {s : Shared} (I : Inv X (pins ++ pl) σ H s) : Inv X pins σ H s := I.pins_of fun p hp => I.pin p (List.mem_append_right _ (List.mem_append_left _ hp))
theorem ps_for {iter : Expr} {body : List Stmt} {wi : TI} {g : TG} {tb : TS} {pos : Pos} (hp : PassesOwn (model X.prog X.w) X.A X.env X.xe) (hc : X.calm = true) (hi : PI X tg iter wi) (hg : PG X tg g) (hb : PSs X body tb)
    (hs : ∀ x, foldedSetIterable iter X.env x = pure x := by intro _; rfl) : PS X (.For tg iter body [] pos) (tFor wi g tb) := by
  intro pins s σ H D I h
  refine wpAny_For (thn (hi pins s σ H _ I h) fun v s1 h1 => thn h1 fun itv s2 h2 => ?_) hs
  obtain ⟨it, fp, tn, J, H2, e, I2, T, st2, f2, W, ⟨m0, w0⟩, turn⟩ := h2
  subst e
  -- what stays true of the iterator's objects through the loop
  have stat : ∀ {H' : Hp}, (∀ b ∈ fp, H' b = none) → ∀ b ∈ fp, FpOk X pins H' b := fun hn b hb => ⟨hn b hb, (f2 b hb).2⟩
  refine codeAny_forLoop_any (fun n s' => ∃ i σ' H', Inv X pins σ' H' s' ∧ tn i s'.heap ∧ (∀ b ∈ fp, H' b = none) ∧ W i n σ' H') ?_ m0 ⟨0, σ, H2, I2, st2, fun b hb => (f2 b hb).1, w0⟩
  rintro n s3 ⟨i, σ3, H3, I3, st3, fr3, w3⟩
  rcases turn i n σ3 H3 w3 with ⟨stop, qn⟩ | ⟨go, N, hN, step⟩
  · refine wpAny_passesOwn hp (thn (T.done X rfl rfl rfl hc i pins s3 σ3 H3 X.xe I3 (stat fr3) st3 stop) fun r s4 ⟨hr, I4⟩ => ?_)
    subst hr
    exact wpAny_execs_nil ⟨σ3, H3, I4, qn⟩
  · refine wpAny_passesOwn hp (thn (T.item X rfl rfl rfl hc i pins s3 σ3 H3 X.xe I3 (stat fr3) st3 go) fun r s4 ⟨u, hr, h4⟩ => ?_)
    subst hr
    refine wpAny_passesOwn hp (thn h4 fun _ s5 ⟨x, H5, I5, r5, y5, st5, fr5⟩ => ?_)
    have I5' := I5.pinned (stat fr5) (T.obj _ _ st5)
    refine wpAny_passesOwn hp (thn (hg _ s5 σ3 H5 x u _ I5' r5 (step x H5 y5)) fun _ s6 ⟨σ6, H6, I6, q6⟩ => ?_)
    refine wpAny_passesOwn hp (thn (hb _ s6 σ6 H6 _ I6 q6) fun f s7 q7 => ?_)
    have again : ∀ {σ7 : St} {H7 : Hp}, Inv X (pins ++ pinsAt fp s5.heap) σ7 H7 s7 → N σ7 H7 → ∃ m, m < n ∧ ∃ i σ' H', Inv X pins σ' H' s7 ∧ tn i s7.heap ∧ (∀ b ∈ fp, H' b = none) ∧ W i m σ' H' := fun {σ7 H7} I7 n7 => by
      obtain ⟨m', hm, w7⟩ := hN σ7 H7 n7
      refine ⟨m', hm, i + 1, σ7, H7, I7.unpinned, T.keep _ _ _ st5 fun b hb o e => (I7.pin (b, o) (List.mem_append_right _ (List.mem_append_right _ (mem_pinsAt hb e)))).1, fun b hb => ?_, w7⟩
      obtain ⟨o, e, d⟩ := T.obj _ _ st5 b hb
      exact (I7.pin (b, o) (List.mem_append_right _ (List.mem_append_right _ (mem_pinsAt hb e)))).2.1
    cases f with
    | next => obtain ⟨σ7, H7, I7, n7⟩ := q7; exact again I7 n7
    | cont => obtain ⟨σ7, H7, I7, n7⟩ := q7; exact again I7 n7
    | brk => obtain ⟨σ7, H7, I7, q7⟩ := q7; exact ⟨σ7, H7, I7.unpinned, q7⟩
    | ret v => obtain ⟨x7, σ7, H7, I7, r7, q7⟩ := q7; exact ⟨x7, σ7, H7, I7.unpinned, r7, q7⟩
end
end L2
namespace L2
open PySem PySem.Spec PyProof.Rows
abbrev R2 := V → V → Hp → VK → Prop
def OpR (X : Cx) (f : Value → Value → Sem Value) (r : R2) : Prop :=
  ∀ (pins : List (Addr × Obj)) (s : Shared) (σ : St) (H : Hp) (x y : V) (v u : Value) (Q : VK), Inv X pins σ H s → RelV x v → RelV y u → r x y H Q →
    wpAny (model X.prog X.w) X.A (f v u) (EP X pins σ Q) X.xe s
def UnR (X : Cx) (f : Value → Sem Value) (r : V → Hp → VK → Prop) : Prop :=
  ∀ (pins : List (Addr × Obj)) (s : Shared) (σ : St) (H : Hp) (x : V) (v : Value) (Q : VK), Inv X pins σ H s → RelV x v → r x H Q →
    wpAny (model X.prog X.w) X.A (f v) (EP X pins σ Q) X.xe s
def CallR (X : Cx) (f : Value) (r : List V → Hp → VK → Prop) : Prop :=
  ∀ (pins : List (Addr × Obj)) (s : Shared) (σ : St) (H : Hp) (xs : List V) (us : List Value) (Q : VK), Inv X pins σ H s → Vals xs us → r xs H Q →
    wpAny (model X.prog X.w) X.A (call f us) (EP X pins σ Q) X.xe s
def TruR (X : Cx) (r : V → Hp → (Bool → Hp → Prop) → Prop) : Prop :=
  ∀ (pins : List (Addr × Obj)) (s : Shared) (σ : St) (H : Hp) (x : V) (v : Value) (Q : Bool → Hp → Prop), Inv X pins σ H s → RelV x v → r x H Q →
    wpAny (model X.prog X.w) X.A (truthy v) (TP X pins σ Q) X.xe s
def tOp (r : R2) (ta tb : TE) : TE := fun σ H Q => ta σ H fun x H1 => tb σ H1 fun y H2 => r x y H2 Q
def tUn (r : V → Hp → VK → Prop) (ta : TE) : TE := fun σ H Q => ta σ H fun x H1 => r x H1 Q
def rI (C : Int → Int → Prop) (g : Int → Int → V) : R2 := fun x y H Q => ∃ i j, x = .int i ∧ y = .int j ∧ C i j ∧ Q (g i j) H
def rI0 (g : Int → Int → V) : R2 := fun x y H Q => ∃ i j, x = .int i ∧ y = .int j ∧ Q (g i j) H
def rU (g : Int → V) : V → Hp → VK → Prop := fun x H Q => ∃ i, x = .int i ∧ Q (g i) H
section
variable {X : Cx} {a b c : Expr} {ta tb tc : TE} {pos : Pos}
theorem binT (ha : PE X a ta) (hb : PE X b tb) {pins : List (Addr × Obj)} {s : Shared} {σ : St} {H : Hp} {R : V → V → Hp → Prop} (I : Inv X pins σ H s)
    (h : ta σ H fun x H1 => tb σ H1 fun y H2 => R x y H2) {Q : Value → Shared → Prop} {f : Value → Value → Sem Value}
    (hf : ∀ v u s2 x y H2, Inv X pins σ H2 s2 → RelV x v → RelV y u → R x y H2 → wpAny (model X.prog X.w) X.A (f v u) Q X.xe s2) :
    wpAny (model X.prog X.w) X.A (eval a X.env) (fun v s₁ => wpAny (model X.prog X.w) X.A (eval b X.env) (fun u s₂ => wpAny (model X.prog X.w) X.A (f v u) Q X.xe s₂) X.xe s₁) X.xe s := by
  refine thn (ha pins s σ H _ I h) fun v s1 ⟨x, H1, I1, r1, q1⟩ => ?_
  refine thn (hb pins s1 σ H1 _ I1 q1) fun u s2 ⟨y, H2, I2, r2, q2⟩ => ?_
  exact hf v u s2 x y H2 I2 r1 r2 q2
theorem pe_op {op : Operator} {r : R2} (ho : OpR X (binaryOp op) r) (ha : PE X a ta) (hb : PE X b tb) : PE X (.BinOp a op b pos) (tOp r ta tb) := by
  intro pins s σ H Q I h
  exact wpAny_BinOp (binT ha hb I h fun v u s2 x y H2 I2 rx ry q => ho pins s2 σ H2 x y v u Q I2 rx ry q)
theorem pe_un {op : UnaryOp} {r : V → Hp → VK → Prop} (ho : UnR X (unaryOp op) r) (ha : PE X a ta) : PE X (.UnaryOp op a pos) (tUn r ta) := by
  intro pins s σ H Q I h
  exact UnaryOp_ (thn (ha pins s σ H _ I h) fun v s1 ⟨x, H1, I1, r1, q1⟩ => ho pins s1 σ H1 x v Q I1 r1 q1)
theorem opI {f : Value → Value → Sem Value} {C : Int → Int → Prop} {g : Int → Int → Int}
    (rule : ∀ (i j : Int) (t u : Tok) (s : Shared) (Q : Value → Shared → Prop) (E : Value → Shared → Prop), C i j → Q (.int (g i j) s.toks) { s with toks := s.toks + 1 } → wpAny (model X.prog X.w) X.A (f (.int i t) (.int j u)) Q E s) :
    OpR X f (rI C fun i j => .int (g i j)) := by
  intro pins s σ H x y v u Q I rx ry h
  obtain ⟨i, j, rfl, rfl, hc, q⟩ := h
  obtain ⟨t, rfl⟩ := rx
  obtain ⟨t', rfl⟩ := ry
  exact rule i j t t' s _ _ hc ⟨.int (g i j), H, I.tok _, ⟨_, rfl⟩, q⟩
theorem opI0 {f : Value → Value → Sem Value} {g : Int → Int → Int}
    (rule : ∀ (i j : Int) (t u : Tok) (s : Shared) (Q : Value → Shared → Prop) (E : Value → Shared → Prop), Q (.int (g i j) s.toks) { s with toks := s.toks + 1 } → wpAny (model X.prog X.w) X.A (f (.int i t) (.int j u)) Q E s) :
    OpR X f (rI0 fun i j => .int (g i j)) := by
  intro pins s σ H x y v u Q I rx ry h
  obtain ⟨i, j, rfl, rfl, q⟩ := h
  obtain ⟨t, rfl⟩ := rx
  obtain ⟨t', rfl⟩ := ry
  exact rule i j t t' s _ _ ⟨.int (g i j), H, I.tok _, ⟨_, rfl⟩, q⟩
theorem opB0 {f : Value → Value → Sem Value} {g : Int → Int → Bool}
    (rule : ∀ (i j : Int) (t u : Tok) (s : Shared) (Q : Value → Shared → Prop) (E : Value → Shared → Prop), Q (.bool (g i j)) s → wpAny (model X.prog X.w) X.A (f (.int i t) (.int j u)) Q E s) :
    OpR X f (rI0 fun i j => .bl (g i j)) := by
  intro pins s σ H x y v u Q I rx ry h
  obtain ⟨i, j, rfl, rfl, q⟩ := h
  obtain ⟨t, rfl⟩ := rx
  obtain ⟨t', rfl⟩ := ry
  exact rule i j t t' s _ _ ⟨.bl (g i j), H, I, rfl, q⟩
def CDiv (i j : Int) : Prop := 0 < j ∧ j < 1073741824
def CMul (i j : Int) : Prop := (-(2 ^ 64) < i ∧ i < 2 ^ 64) ∨ (-(2 ^ 64) < j ∧ j < 2 ^ 64)
theorem CMul.ok {i j : Int} (h : CMul i j) : IntMulOk i j := by
  rcases h with ⟨h1, h2⟩ | ⟨h1, h2⟩
  · exact .of_left (intBits_le_64 h1 h2)
  · exact .of_right (intBits_le_64 h1 h2)
theorem op_add : OpR X (binaryOp .Add) (rI0 fun i j => .int (i + j)) := opI0 fun _ _ _ _ _ _ _ q => add_int q
theorem op_sub : OpR X (binaryOp .Sub) (rI0 fun i j => .int (i - j)) := opI0 fun _ _ _ _ _ _ _ q => sub_int q
theorem op_mul : OpR X (binaryOp .Mult) (rI CMul fun i j => .int (i * j)) := opI fun _ _ _ _ _ _ _ hc q => mul_int q hc.ok
theorem op_fdiv : OpR X (binaryOp .FloorDiv) (rI CDiv fun i j => .int (i / j)) := opI fun i j _ _ _ _ _ hc q => by
  have h1 : (0 : Int) < j := hc.1
  have h2 : j < 1073741824 := hc.2
  exact floordiv_int (by omega) (by rw [Int.fdiv_eq_ediv_of_nonneg i (by omega)]; exact q) (.inl (PyProof.noPylong_small (by omega)))
theorem op_mod : OpR X (binaryOp .Mod) (rI (fun _ j => 0 < j) fun i j => .int (i % j)) := opI fun i j _ _ _ _ _ hc q => by
  have h1 : (0 : Int) < j := hc
  exact mod_int' (by omega) (by rw [Int.fmod_eq_emod_of_nonneg i (by omega)]; exact q)
theorem unI {f : Value → Sem Value} {g : Int → Int}
    (rule : ∀ (i : Int) (t : Tok) (s : Shared) (Q : Value → Shared → Prop) (E : Value → Shared → Prop), Q (.int (g i) s.toks) { s with toks := s.toks + 1 } → wpAny (model X.prog X.w) X.A (f (.int i t)) Q E s) :
    UnR X f (rU fun i => .int (g i)) := by
  intro pins s σ H x v Q I rx h
  obtain ⟨i, rfl, q⟩ := h
  obtain ⟨t, rfl⟩ := rx
  exact rule i t s _ _ ⟨.int (g i), H, I.tok _, ⟨_, rfl⟩, q⟩
theorem un_neg : UnR X (unaryOp .USub) (rU fun i => .int (-i)) := unI fun _ _ _ _ _ q => neg_int q
end
section
variable {X : Cx} {a b c : Expr} {ta tb tc : TE} {pos : Pos}
theorem fin_bl {pins : List (Addr × Obj)} {σ : St} {H : Hp} {s : Shared} {Q : VK} {k k' : Bool} (I : Inv X pins σ H s) (q : Q (.bl k) H) (e : k = k') : EP X pins σ Q (.bool k') s := by
  subst e
  exact ⟨.bl k, H, I, rfl, q⟩
theorem op_lt : OpR X (compareOp .Lt) (rI0 fun i j => .bl (decide (i < j))) := opB0 fun _ _ _ _ _ _ _ q => lt_int q
theorem op_le : OpR X (compareOp .LtE) (rI0 fun i j => .bl (decide (i ≤ j))) := opB0 fun _ _ _ _ _ _ _ q => le_int q
theorem op_gt : OpR X (compareOp .Gt) (rI0 fun i j => .bl (decide (j < i))) := opB0 fun _ _ _ _ _ _ _ q => gt_int q
theorem op_isN : OpR X (compareOp .Is) (fun x y H Q => y = .non ∧ Q (.bl (decide (x = .non))) H) := by
  intro pins s σ H x y v u Q I rx ry h
  obtain ⟨rfl, q⟩ := h
  cases ry
  refine is_none_gen (fin_bl I q ?_)
  cases x <;> first
    | (cases rx; rfl)
    | (obtain ⟨t, rfl⟩ := rx; rfl)
def isObj : HO → Bool
  | .lst _ => true
  | .ins _ _ _ => true
  | _ => false
theorem obj_there {pins : List (Addr × Obj)} {s : Shared} {σ : St} {H : Hp} {a : Addr} {o : HO} (I : Inv X pins σ H s) (h : H a = some o) (p : isObj o = true) : ∃ ob, s.heap.get? a = some ob ∧ ob.cls ≠ .type "tuple" := by
  cases o with
  | lst xs =>
    obtain ⟨_, its, n, _, e⟩ : xs.length ≤ sizeLine ∧ ∃ (its : List Value) (n : Nat), Vals xs its ∧ s.heap.get? a = some { cls := .type "list", data := .seq its.toArray n } := I.hok a _ h
    exact ⟨_, e, (by show Value.type "list" ≠ .type "tuple"; decide +kernel)⟩
  | ins C dx fs =>
    have x := I.hok a _ h
    obtain ⟨_, _, _, e, _⟩ := x
    exact ⟨_, e, (by show Value.ref C ≠ .type "tuple"; exact fun z => by cases z)⟩
  | _ => exact absurd (show false = true from p) Bool.false_ne_true
theorem OpR.or {f : Value → Value → Sem Value} {r r' : R2} (h : OpR X f r) (h' : OpR X f r') : OpR X f (fun x y H Q => r x y H Q ∨ r' x y H Q) := by
  intro pins s σ H x y v u Q I rx ry q
  rcases q with q | q
  · exact h pins s σ H x y v u Q I rx ry q
  · exact h' pins s σ H x y v u Q I rx ry q
theorem nomark (b : Expr) {op : CmpOp} (h : op ≠ .In := by decide) (h2 : op ≠ .NotIn := by decide) : behindInMarks op b = false := by
  have e1 : (op == CmpOp.In) = false := by cases op <;> first | rfl | exact absurd rfl h
  have e2 : (op == CmpOp.NotIn) = false := by cases op <;> first | rfl | exact absurd rfl h2
  cases b <;> simp [behindInMarks, e1, e2]
theorem pe_cmpR {op : CmpOp} {r : R2} (ho : OpR X (compareOp op) r) (ha : PE X a ta) (hb : PE X b tb) (hm : behindInMarks op b = false) : PE X (.Compare a [op] [b] pos) (tOp r ta tb) := by
  intro pins s σ H Q I h
  exact wpAny_Compare1 (binT ha hb I h fun v u s2 x y H2 I2 rx ry q => ho pins s2 σ H2 x y v u Q I2 rx ry q) hm
def tTest (t : TE) : TT := fun σ H Q => t σ H fun x H' => ∃ k, x = .bl k ∧ Q k H'
theorem pt_cmpR {op : CmpOp} {r : R2} (ho : OpR X (compareOp op) r) (ha : PE X a ta) (hb : PE X b tb) (hm : behindInMarks op b = false) : PT X (.Compare a [op] [b] pos) (tTest (tOp r ta tb)) := by
  intro pins s σ H Q I h
  refine wpAny_isTrue_Compare1 (thn (ha pins s σ H _ I h) fun v s1 ⟨x, H1, I1, r1, q1⟩ => thn (hb pins s1 σ H1 _ I1 q1) fun u s2 ⟨y, H2, I2, r2, q2⟩ =>
    thn (ho pins s2 σ H2 x y v u _ I2 r1 r2 q2) fun c s3 ⟨z, H3, I3, r3, k, e, q3⟩ => ?_) hm
  subst e
  cases r3
  exact wpAny_truthy_bool ⟨H3, I3, q3⟩
def tChain (r r' : R2) (ta tb tc : TE) : TE := fun σ H Q => ta σ H fun x H1 => tb σ H1 fun y H2 => r x y H2 fun z H3 => ∃ k, z = .bl k ∧
  (if k = true then tc σ H3 fun w' H4 => r' y w' H4 Q else Q (.bl false) H3)
theorem pe_chain {op op' : CmpOp} {r r' : R2} (ho : OpR X (compareOp op) r) (ho' : OpR X (compareOp op') r') (ha : PE X a ta) (hb : PE X b tb) (hc : PE X c tc)
    (hm : lastMarks [op, op'] [b, c] = false := by with_unfolding_all rfl) : PE X (.Compare a [op, op'] [b, c] pos) (tChain r r' ta tb tc) := by
  intro pins s σ H Q I h
  refine Compare_chain (thn (ha pins s σ H _ I h) fun v s1 ⟨x, H1, I1, r1, q1⟩ => chain_link (thn (hb pins s1 σ H1 _ I1 q1) fun u s2 ⟨y, H2, I2, r2, q2⟩ =>
    thn (ho pins s2 σ H2 x y v u _ I2 r1 r2 q2) fun d s3 ⟨z, H3, I3, r3, k, e, q3⟩ => ?_)) hm
  subst e
  cases r3
  refine wpAny_truthy_bool ?_
  cases k with
  | false => exact ite_ff ⟨.bl false, H3, I3, rfl, q3⟩
  | true => exact ite_tt (chain_last (thn (hc pins s3 σ H3 _ I3 q3) fun w' s4 ⟨z', H4, I4, r4, q4⟩ => ho' pins s4 σ H4 y z' u w' Q I4 r2 r4 q4))
theorem pt_chain {op op' : CmpOp} {r r' : R2} (ho : OpR X (compareOp op) r) (ho' : OpR X (compareOp op') r') (ha : PE X a ta) (hb : PE X b tb) (hc : PE X c tc)
    (hm : lastMarks [op, op'] [b, c] = false := by with_unfolding_all rfl) : PT X (.Compare a [op, op'] [b, c] pos) (tTest (tChain r r' ta tb tc)) := by
  intro pins s σ H Q I h
  refine isTrue_chain (thn (ha pins s σ H _ I h) fun v s1 ⟨x, H1, I1, r1, q1⟩ => test_link (thn (hb pins s1 σ H1 _ I1 q1) fun u s2 ⟨y, H2, I2, r2, q2⟩ =>
    thn (ho pins s2 σ H2 x y v u _ I2 r1 r2 q2) fun d s3 ⟨z, H3, I3, r3, k, e, q3⟩ => ?_)) hm
  subst e
  cases r3
  refine wpAny_truthy_bool ?_
  cases k with
  | false =>
    obtain ⟨k', e', q'⟩ := q3
    cases e'
    exact ite_ff ⟨H3, I3, q'⟩
  | true =>
    refine ite_tt (test_last (thn (hc pins s3 σ H3 _ I3 q3) fun w' s4 ⟨z', H4, I4, r4, q4⟩ => thn (ho' pins s4 σ H4 y z' u w' _ I4 r2 r4 q4) fun d' s5 ⟨z2, H5, I5, r5, k2, e2, q5⟩ => ?_))
    subst e2
    cases r5
    exact wpAny_truthy_bool ⟨H5, I5, q5⟩
def TruV (K : PySem.W.Frag) (x : V) (H : Hp) (k : Bool) : Prop :=
  match x with
  | .non => k = false
  | .bl b => k = b
  | .int i => k = (i != 0)
  | .str y => y.length ≤ sizeLine ∧ k = ((y.length : Int) != 0)
  | .byt y => y.size ≤ sizeLine ∧ k = ((y.size : Int) != 0)
  | .ref p => (∃ xs, SqL K H p xs ∧ k = !xs.isEmpty) ∨ (∃ xs, SqT K H p xs ∧ k = !xs.isEmpty) ∨ ∃ kvs, H p = some (.dK kvs) ∧ k = !kvs.isEmpty
  | _ => False
theorem isEmpty_kv {κ : Type} {kvs : List (κ × V)} {vs : List (κ × Value)} (r : KV kvs vs) : (!vs.isEmpty) = !kvs.isEmpty := by
  cases r <;> rfl
theorem isEmpty_of {xs : List V} {its : List Value} (r : Vals xs its) : (!its.toArray.isEmpty) = !xs.isEmpty := by
  cases r <;> simp
theorem line63 : (sizeLine : Nat) < 2 ^ 63 := by rw [sizeLine_eq]; decide
theorem tru_ok : TruR X (fun x H Q => ∃ k, TruV X.K x H k ∧ Q k H) := by
  intro pins s σ H x v Q I rx h
  obtain ⟨k, e, q⟩ := h
  have hl := line63
  have hs : sizeLine = 16777216 := sizeLine_eq
  cases x with
  | non =>
    cases rx
    have e' : k = false := e
    subst e'
    exact truthy_none ⟨H, I, q⟩
  | bl b =>
    cases rx
    have e' : k = b := e
    subst e'
    exact wpAny_truthy_bool ⟨H, I, q⟩
  | int i =>
    obtain ⟨t, rfl⟩ := rx
    have e' : k = (i != 0) := e
    subst e'
    exact PySem.P.truthy_int ⟨H, I, q⟩
  | str y =>
    obtain ⟨t, rfl⟩ := rx
    obtain ⟨hy, e'⟩ : y.length ≤ sizeLine ∧ k = ((y.length : Int) != 0) := e
    subst e'
    exact PySem.P.truthy_str (by omega) ⟨H, I.tok _, q⟩
  | byt y =>
    obtain ⟨t, rfl⟩ := rx
    obtain ⟨hy, e'⟩ : y.size ≤ sizeLine ∧ k = ((y.size : Int) != 0) := e
    subst e'
    exact PySem.W.truthy_bytes (by omega) ⟨H, I.tok _, q⟩
  | ref p =>
    cases rx
    have e' : (∃ xs, SqL X.K H p xs ∧ k = !xs.isEmpty) ∨ (∃ xs, SqT X.K H p xs ∧ k = !xs.isEmpty) ∨ ∃ kvs, H p = some (.dK kvs) ∧ k = !kvs.isEmpty := e
    rcases e' with ⟨xs, hx, e'⟩ | ⟨xs, hx, e'⟩ | ⟨kvs, hx, e'⟩
    · subst e'
      obtain ⟨its, r, pl, hz⟩ := I.list hx
      have hlen := r.length
      exact wpAny_truthy_list pl.isList (by simp only [List.size_toArray]; omega) ⟨H, I.tok _, by rw [isEmpty_of r]; exact q⟩
    · subst e'
      obtain ⟨its, r, pl, hz⟩ := I.tuple hx
      have hlen := r.length
      exact truthy_tuple pl (by simp only [List.size_toArray]; omega) ⟨H, I.tok _, by rw [isEmpty_of r]; exact q⟩
    · subst e'
      obtain ⟨hz, hS, vs, r, m⟩ : kvs.length ≤ sizeLine ∧ (p == sysModules) = false ∧ ∃ vs, KV kvs vs ∧ s.heap.DictOf (mixKind X.prog X.w) p vs := I.hok p _ hx
      have hlen : kvs.length = vs.length := Paired.length r
      exact wpAny_truthy_dict hS m (by omega) ⟨H, I.tok _, by rw [isEmpty_kv r]; exact q⟩
  | _ => exact (show False from e).elim
theorem pt_truth (ha : PE X a ta) (he : ∀ whole, isTrue a X.env whole = (do let v ← whole; standAt a.pos; holding [v] (truthy v))) :
    PT X a (fun σ H Q => ta σ H fun x H' => ∃ k, TruV X.K x H' k ∧ Q k H') := by
  intro pins s σ H Q I h
  exact isTrue_plain (thn (ha pins s σ H _ I h) fun v s1 ⟨x, H1, I1, r1, q1⟩ => tru_ok pins s1 σ H1 x v Q I1 r1 q1) (he _)
theorem vals1 {x : V} {us : List Value} (r : Vals [x] us) : ∃ u, us = [u] ∧ RelV x u := by
  cases r with
  | cons r1 r2 => cases r2; exact ⟨_, rfl, r1⟩
theorem vals2 {x y : V} {us : List Value} (r : Vals [x, y] us) : ∃ u w', us = [u, w'] ∧ RelV x u ∧ RelV y w' := by
  cases r with
  | cons r1 r2 =>
    cases r2 with
    | cons r3 r4 => cases r4; exact ⟨_, _, rfl, r1, r3⟩
theorem call_max2 (hc : X.calm = true) : CallR X (.builtin "max") (fun xs H Q => ∃ i j, xs = [.int i, .int j] ∧ Q (.int (if j > i then j else i)) H) := by
  intro pins s σ H xs us Q I r h
  obtain ⟨i, j, rfl, q⟩ := h
  obtain ⟨u, w', rfl, ⟨t, rfl⟩, ⟨t', rfl⟩⟩ := vals2 r
  refine max_two_ints (I.ok.hd hc) fun h' tk k => ⟨_, H, I.kept k, ?_, q⟩
  by_cases hj : j > i
  · rw [if_pos hj, if_pos hj]; exact ⟨_, rfl⟩
  · rw [if_neg hj, if_neg hj]; exact ⟨_, rfl⟩
theorem call_min2 (hc : X.calm = true) : CallR X (.builtin "min") (fun xs H Q => ∃ i j, xs = [.int i, .int j] ∧ Q (.int (if j < i then j else i)) H) := by
  intro pins s σ H xs us Q I r h
  obtain ⟨i, j, rfl, q⟩ := h
  obtain ⟨u, w', rfl, ⟨t, rfl⟩, ⟨t', rfl⟩⟩ := vals2 r
  refine min_two_ints (I.ok.hd hc) fun h' tk k => ⟨_, H, I.kept k, ?_, q⟩
  by_cases hj : j < i
  · rw [if_pos hj, if_pos hj]; exact ⟨_, rfl⟩
  · rw [if_neg hj, if_neg hj]; exact ⟨_, rfl⟩
theorem call_int1 : CallR X (.type "int") (fun xs H Q => (∃ i, xs = [.int i] ∧ Q (.int i) H) ∨ ∃ k, xs = [.bl k] ∧ Q (.int (if k then 1 else 0)) H) := by
  intro pins s σ H xs us Q I r h
  rcases h with ⟨i, rfl, q⟩ | ⟨k, rfl, q⟩
  · obtain ⟨u, rfl, t, rfl⟩ := vals1 r
    exact call_int_int ⟨.int i, H, I, ⟨_, rfl⟩, q⟩
  · obtain ⟨u, rfl, r1⟩ := vals1 r
    cases r1
    exact call_int_bool ⟨.int (if k then 1 else 0), H, I.tok _, ⟨_, rfl⟩, q⟩
end
end L2
namespace L2
open PySem PySem.Spec PyProof.Rows
structure ObjM (h : Heap) (x dx C : Addr) (mA : Str → Option Value) : Prop where
  obj : h.get? x = some (PySem.W.instObj C dx)
  ns : h.Ns1 dx mA
  ne : dx ≠ x
theorem lookIn_ns {h : Heap} {dx : Addr} {mA : Str → Option Value} (n : h.Ns1 dx mA) : ∃ od, h.get? dx = some od ∧ ∀ name, PySem.W.lookIn name od = some (mA name) := by
  obtain ⟨o, es, ep, ho, hd, hk, _, hm⟩ := n
  refine ⟨o, ho, fun name => ?_⟩
  have e := hm name
  unfold nsFind findBy at e
  rw [← Array.find?_toList] at e
  unfold PySem.W.lookIn
  rw [hd]
  dsimp only
  split
  · rename_i y q
    rw [q] at e
    exact congrArg some e
  · rename_i q
    rw [q] at e
    have a : es.toList.any (·.refKey) = false := by
      rw [List.any_eq_false]
      intro y hy
      obtain ⟨z, t, hkey⟩ := hk y (Array.mem_toList_iff.mp hy)
      simp [DictEntry.refKey, hkey]
    have a' : ¬ es.toList.any (·.refKey) = true := by rw [a]; exact Bool.false_ne_true
    rw [if_neg a']
    exact congrArg some e
theorem ObjM.look {h : Heap} {x dx C : Addr} {mA : Str → Option Value} (I : ObjM h x dx C mA) : ∃ od, PySem.W.InstAt h x (PySem.W.instObj C dx) C (some od) ∧ ∀ name, PySem.W.lookIn name od = some (mA name) :=
  let ⟨od, ho, hl⟩ := lookIn_ns I.ns
  ⟨od, ⟨I.obj, rfl, rfl, ho⟩, hl⟩
section
variable {prog : Program} {w : World} {A : Around} {E : Value → Shared → Prop} {s : Shared} {K : PySem.W.Frag} {x dx C f : Addr} {mA : Str → Option Value} {name : Str} {v : Value}
end
section
variable {P : Program} {w : World} {H H' : Hp} {h h' : Heap} {a C dx : Addr} {fs fs' : List (Str × V)}
theorem ins_get (hok : HOk P w H h) (e : H a = some (.ins C dx fs)) : ∃ mA, ObjM h a dx C mA ∧ (∀ f, RelO (fs.lookup f) (mA f)) ∧ PySem.Within mA (fs.map (·.1)) ∧ fs.length ≤ 1000 ∧ H dx = some (.own a) := by
  obtain ⟨d, z, ne, ob, mA, n, r, q⟩ := (show ObjOk P w H h a (.ins C dx fs) from hok a _ e)
  exact ⟨mA, ⟨ob, n, ne⟩, r, q, z, d⟩
end
structure Cls (K : PySem.W.Frag) (C : Addr) : Prop where
  pg : PySem.W.plainGet K C Str.empty = true
  hd : PySem.W.hasDictIn K C = true
  po : PySem.W.plainOver K C = true
  sa : PySem.W.findIn K (.ref C) "__setattr__" = some (some (.builtin "object.__setattr__"))
theorem Cls.get {K : PySem.W.Frag} {C : Addr} (c : Cls K C) (f : Str) : PySem.W.plainGet K C f = true := c.pg
section
variable {X : Cx} {pins : List (Addr × Obj)} {σ : St} {H : Hp} {s : Shared} {a C dx : Addr} {fs : List (Str × V)} {f : Str} {v : V} {A : Around} {E : Value → Shared → Prop}
end
section
variable {X : Cx} {o e value : Expr} {f : Str} {pos pos' tpos : Pos} {ta tv : TE}
end
section
variable {X : Cx} {pins : List (Addr × Obj)} {σ : St} {H : Hp} {s : Shared} {A : Around} {E : Value → Shared → Prop} {Q : Value → Shared → Prop} {c : Value} {b : Bool}
inductive TyOf (K : PySem.W.Frag) (H : Hp) : V → Value → Prop where
  | non : TyOf K H .non (.type "NoneType")
  | bl (x : Bool) : TyOf K H (.bl x) (.type "bool")
  | int (i : Int) : TyOf K H (.int i) (.type "int")
  | str (x : Str) : TyOf K H (.str x) (.type "str")
  | flt (x : UInt64) : TyOf K H (.flt x) (.type "float")
  | lst {a : Addr} {xs : List V} (e : H a = some (.lst xs)) : TyOf K H (.ref a) (.type "list")
  | frz {a : Addr} {o : Obj} {xs : List V} (e : H a = some (.frz o (.lst xs))) : TyOf K H (.ref a) (.type "list")
  | tup {a : Addr} {xs : List V} (e : H a = some (.tup xs)) : TyOf K H (.ref a) (.type "tuple")
  | dK {a : Addr} {kvs : List (Key × V)} (e : H a = some (.dK kvs)) : TyOf K H (.ref a) (.type "dict")
  | dT {a : Addr} {kvs : List (List Key × V)} (e : H a = some (.dT kvs)) : TyOf K H (.ref a) (.type "dict")
  | ins {a C dx : Addr} {fs : List (Str × V)} (e : H a = some (.ins C dx fs)) (cl : Cls K C) (ha : PySem.W.findIn K (.ref C) "__class__" = some (some (.builtin "object.__class__")))
      (hn : PySem.W.specialIn K (.builtin "object.__class__") "__get__" = some (some (.builtin "getset_descriptor.__get__"))) (htk : PySem.W.takesIn K (.builtin "object.__class__") = some true)
      (hm : PySem.W.mroIn K C (.type "object") = some true) : TyOf K H (.ref a) (.ref C)
theorem isinst_ok {x : V} {u t : Value} (I : Inv X pins σ H s) (rx : RelV x u) (ty : TyOf X.K H x t) (e : PySem.W.kitOne X.K t c = some b) (h : ∀ tk, Q (.bool b) { s with toks := tk }) :
    wpAny (model X.prog X.w) A (call (.builtin "isinstance") [u, c]) Q E s := by
  cases ty with
  | non => cases (show u = Value.none from rx); exact PySem.W.kia_one PySem.W.kitx_none I.kIn True.intro e (fun z => nomatch z) h
  | bl y => cases (show u = Value.bool y from rx); exact PySem.W.kia_one PySem.W.kitx_bool I.kIn True.intro e (fun z => nomatch z) h
  | int i => obtain ⟨t, q⟩ := (show ∃ t, u = Value.int i t from rx); cases q; exact PySem.W.kia_one PySem.W.kitx_int I.kIn True.intro e (fun z => nomatch z) h
  | str y => obtain ⟨t, q⟩ := (show ∃ t, u = Value.str y t from rx); cases q; exact PySem.W.kia_one PySem.W.kitx_str I.kIn True.intro e (fun z => nomatch z) h
  | flt y => obtain ⟨t, q⟩ := (show ∃ t, u = Value.float y t from rx); cases q; exact PySem.W.kia_one PySem.W.kitx_float I.kIn True.intro e (fun z => nomatch z) h
  | @lst a xs ea =>
    cases (show u = Value.ref a from rx)
    obtain ⟨_, _, n, _, h1⟩ := (show ObjOk X.prog X.w H s.heap a (.lst xs) from I.hok a _ ea)
    exact PySem.W.kia_one PySem.W.kitx_list I.kIn ⟨_, h1, rfl⟩ e (fun z => nomatch z) h
  | @frz a ob xs ea =>
    cases (show u = Value.ref a from rx)
    obtain ⟨_, _, _, n, _, h1⟩ := (show ObjOk X.prog X.w H s.heap a (.frz ob (.lst xs)) from I.hok a _ ea)
    exact PySem.W.kia_one PySem.W.kitx_list I.kIn ⟨_, h1, rfl⟩ e (fun z => nomatch z) h
  | @tup a xs ea =>
    cases (show u = Value.ref a from rx)
    obtain ⟨_, _, _, p⟩ := (show ObjOk X.prog X.w H s.heap a (.tup xs) from I.hok a _ ea)
    obtain ⟨o, h1, h2, _⟩ := p
    exact PySem.W.kia_one PySem.W.kitx_tuple I.kIn ⟨o, h1, h2⟩ e (fun z => nomatch z) h
  | @dK a kvs ea =>
    cases (show u = Value.ref a from rx)
    obtain ⟨_, _, vs, _, p⟩ := (show ObjOk X.prog X.w H s.heap a (.dK kvs) from I.hok a _ ea)
    obtain ⟨o, es, ep, h1, h2, _⟩ := p
    exact PySem.W.kia_one PySem.W.kitx_dict I.kIn ⟨o, h1, h2.1⟩ e (fun z => nomatch z) h
  | @dT a kvs ea =>
    cases (show u = Value.ref a from rx)
    obtain ⟨_, _, xs, _, o, es, ep, h1, h2, _⟩ := (show ObjOk X.prog X.w H s.heap a (.dT kvs) from I.hok a _ ea)
    exact PySem.W.kia_one PySem.W.kitx_dict I.kIn ⟨o, h1, h2.1⟩ e (fun z => nomatch z) h
  | @ins a C dx fs ea cl ha hn htk hm =>
    cases (show u = Value.ref a from rx)
    obtain ⟨mA, O, _⟩ := ins_get I.hok ea
    obtain ⟨od, J, _⟩ := O.look
    exact PySem.W.kia_one (PySem.W.kitx_own (cl.get _) cl.hd ha hn htk hm) I.kIn J e (fun z => nomatch z) h
end
end L2
namespace L2
open PySem PySem.Spec PyProof.Rows
structure Room (k : Nat) (A : Around) : Prop where
  hd : A.handled = none
  dp : A.depth + 3 * k + 5 < recursionLimit
  un : A.units + 16 * k + 200 < cLine
  gd : A.guards = some []
theorem Room.mono {j k : Nat} {A : Around} (r : Room k A) (h : j ≤ k) : Room j A := ⟨r.hd, by have := r.dp; omega, by have := r.un; omega, by first | exact r.gd | (show pushGuards _ _ = _; rw [r.gd]; rfl) | simp [Around.under, Around.over, Around.deeper, Around.in1, Code.guards, Code.isGuard, guardIds, pushGuards, r.gd]⟩
theorem Room.deeper {k : Nat} {A : Around} (r : Room (k + 1) A) (env : Env) : Room k (A.deeper env) :=
  ⟨r.hd, by have := r.dp; show A.depth + 1 + 3 * k + 5 < _; omega, by have := r.un; show A.units + 3 + 16 * k + 200 < _; omega, by first | exact r.gd | (show pushGuards _ _ = _; rw [r.gd]; rfl) | simp [Around.under, Around.over, Around.deeper, Around.in1, Code.guards, Code.isGuard, guardIds, pushGuards, r.gd]⟩
theorem Room.in1 {k : Nat} {A : Around} (r : Room (k + 1) A) : Room k A.in1 :=
  ⟨r.hd, by have := r.dp; show A.depth + 3 * k + 5 < _; omega, by have := r.un; show A.units + 1 + 16 * k + 200 < _; omega, by first | exact r.gd | (show pushGuards _ _ = _; rw [r.gd]; rfl) | simp [Around.under, Around.over, Around.deeper, Around.in1, Code.guards, Code.isGuard, guardIds, pushGuards, r.gd]⟩
theorem Room.depth {k : Nat} {A : Around} (r : Room k A) : A.depth < recursionLimit := by have := r.dp; omega
theorem Room.units {k : Nat} {A : Around} (r : Room k A) : A.units + 64 < cLine := by have := r.un; omega
def tNil : TA := fun _ H Q => Q [] H
def tCons (ta : TE) (tr : TA) : TA := fun σ H Q => ta σ H fun x H1 => tr σ H1 fun xs H2 => Q (x :: xs) H2
section
variable {X : Cx} {e : Expr} {es : List Expr} {te : TE} {t : TA} {pos : Pos}
theorem pa_nil : PA X [] tNil := fun _ _ _ _ H Q I h => Calls.spliced_nil ⟨[], H, I, .nil, h⟩
theorem pa_cons (ha : PE X e te) (hr : PA X es t) (hs : starEach (e :: es) X.env = (false, eval e X.env) :: starEach es X.env := by rfl) : PA X (e :: es) (tCons te t) := by
  intro pos pins s σ H Q I h
  rw [hs]
  show wpAny _ _ (spliced ((false, eval e X.env) :: backTo pos (starEach es X.env))) _ _ s
  refine Calls.spliced_cons (thn (ha pins s σ H _ I h) fun u s1 ⟨x, H1, I1, r1, q1⟩ => ?_)
  exact thn (hr pos pins s1 σ H1 _ I1 q1) fun us s2 ⟨xs, H2, I2, r2, q2⟩ => ⟨x :: xs, H2, I2, .cons r1 r2, q2⟩
def tTup (t : TA) : TE := fun σ H Q => t σ H fun xs H1 => xs.length ≤ sizeLine ∧ ∀ p, H1 p = none → Q (.ref p) (upd H1 p (.tup xs))
def tLst (t : TA) : TE := fun σ H Q => t σ H fun xs H1 => xs.length ≤ sizeLine ∧ ∀ p, H1 p = none → Q (.ref p) (upd H1 p (.lst xs))
theorem pe_tup {x1} (h : PA X es t) : PE X (.Tuple es x1 pos) (tTup t) := by
  intro pins s σ H Q I hq
  refine wpAny_Tuple_spliced (thn (h pos pins s σ H _ I hq) fun us s1 ⟨xs, H1, I1, r, z, q⟩ => ⟨by rw [← r.length]; exact z, ?_⟩)
  have hf : H1 s1.heap.objs.size = none := I1.hok.fresh (Nat.le_refl _)
  refine ⟨.ref s1.heap.objs.size, upd H1 s1.heap.objs.size (.tup xs), I1.laid (t' := s1.toks) (fun b u e => Heap.get?_push_of_some _ e) (Nat.le_refl _) ?_, rfl, q _ hf⟩
  exact ⟨z, us, r, ⟨_, Heap.get?_push_size _ rfl, rfl, _, rfl⟩⟩
theorem pe_lst (h : PA X es t) : PE X (.List es pos) (tLst t) := by
  intro pins s σ H Q I hq
  refine wpAny_List_spliced (thn (h pos pins s σ H _ I hq) fun us s1 ⟨xs, H1, I1, r, z, q⟩ => ⟨by rw [← r.length]; exact z, ?_⟩)
  have hf : H1 s1.heap.objs.size = none := I1.hok.fresh (Nat.le_refl _)
  refine ⟨.ref s1.heap.objs.size, upd H1 s1.heap.objs.size (.lst xs), I1.laid (t' := s1.toks) (fun b u e => Heap.get?_push_of_some _ e) (Nat.le_refl _) ?_, rfl, q _ hf⟩
  exact ⟨z, us, 0, r, Heap.get?_push_size _ rfl⟩
end
abbrev Sp := List V → Hp → VK → XK → Prop
abbrev CXT := List Env → Hp → Shared → XK → Value → Shared → Prop
structure Env0 (P : Program) (w : World) (K : PySem.W.Frag) (mg : Str → Option Value) (base : Heap) (A : Around) (outer : List Env) (s : Shared) (H : Hp) : Prop where
  frames : A.frames = some outer
  mod : Mod K mg base
  bs : ∀ b o, base.get? b = some o → s.heap.get? b = some o ∧ H b = none
  bsz : base.objs.size ≤ s.heap.objs.size
  funs : s.heap.FunFrames base outer
  frf : ∀ b ∈ frs outer, H b = none
  hok : HOk P w H s.heap
  bare : AllBare s.gens
def CE (outer : List Env) (P : Program) (w : World) (H : Hp) (s : Shared) (Q : VK) (u : Value) (s' : Shared) : Prop :=
  ∃ v H', s'.os = s.os ∧ AllBare s'.gens ∧ Un (frs outer) [] H H' s.heap s'.heap ∧ HOk P w H' s'.heap ∧ RelV v u ∧ Q v H'
def CR (CX : CXT) (outer : List Env) (P : Program) (w : World) (H : Hp) (s : Shared) (Q : VK) (E : XK) (r : Result) (s' : Shared) : Prop :=
  match r with
  | .ok (.ret u) => CE outer P w H s Q u s'
  | .ok _ => False
  | .error e => CX outer H s E e s'
structure FnOk (P : Program) (w : World) (K : PySem.W.Frag) (mg : Str → Option Value) (base : Heap) (CX : CXT) (k : Nat) (f : Addr) (fd : FuncData) (ps : List Str) (sp : Sp) : Prop where
  len : ∀ vs H Q E, sp vs H Q E → vs.length = ps.length
  run : ∀ (A : Around) (outer : List Env) (s : Shared) (H : Hp) (args : Args) (us : List Value) (vs : List V) (Q : VK) (E : XK), Room k A → Env0 P w K mg base A outer s H → BindsTo s fd args (ps.zip us) → Vals vs us → sp vs H Q E →
    codeAny (model P w) A (.call (.ref f) args) (CR CX outer P w H s Q E) s
theorem FnOk.mono {P : Program} {w : World} {K : PySem.W.Frag} {mg : Str → Option Value} {base : Heap} {CX : CXT} {j k : Nat} {f : Addr} {fd : FuncData} {ps : List Str} {sp : Sp} (F : FnOk P w K mg base CX j f fd ps sp) (h : j ≤ k) :
    FnOk P w K mg base CX k f fd ps sp := ⟨F.len, fun A outer s H args us vs Q E hr => F.run A outer s H args us vs Q E (hr.mono h)⟩
theorem FnOk.imp {P : Program} {w : World} {K : PySem.W.Frag} {mg : Str → Option Value} {base : Heap} {CX : CXT} {k : Nat} {f : Addr} {fd : FuncData} {ps : List Str} {sp sp' : Sp} (F : FnOk P w K mg base CX k f fd ps sp)
    (h : ∀ vs H Q E, sp' vs H Q E → sp vs H Q E) : FnOk P w K mg base CX k f fd ps sp' :=
  ⟨fun vs H Q E q => F.len vs H Q E (h _ _ _ _ q), fun A outer s H args us vs Q E hr he hb hv hs => F.run A outer s H args us vs Q E hr he hb hv (h _ _ _ _ hs)⟩
theorem Env0.in1 {P : Program} {w : World} {K : PySem.W.Frag} {mg : Str → Option Value} {base : Heap} {A : Around} {outer : List Env} {s : Shared} {H : Hp} (e : Env0 P w K mg base A outer s H) :
    Env0 P w K mg base A.in1 outer s H := ⟨e.frames, e.mod, e.bs, e.bsz, e.funs, e.frf, e.hok, e.bare⟩
section
variable {X : Cx} {pins : List (Addr × Obj)} {σ : St} {H : Hp} {s s' : Shared}
theorem Inv.env0 (I : Inv X pins σ H s) : Env0 X.prog X.w X.K X.mg X.base X.A X.stack s H :=
  ⟨I.ok.frames, I.ok.mod, I.bs, Nat.le_trans I.ok.bsz I.sz, I.stack, I.stkFree, I.hok, I.bare⟩
theorem Inv.after {Q : VK} {u : Value} (I : Inv X pins σ H s) (h : CE X.stack X.prog X.w H s Q u s') : EP X pins σ Q u s' := by
  obtain ⟨v, H', os, bare, un, hok, r, q⟩ := h
  obtain ⟨hh, g, d, t, os'⟩ := s'
  obtain rfl : os' = s.os := os
  exact ⟨v, H', I.call (h' := hh) (g' := g) (d' := d) (t' := t) (ch := []) un hok bare (fun b z => absurd z (by simp)), r, q⟩
end
def tCall (sp : Sp) (dvs : List V) (E : XK) (t : TA) : TE := fun σ H Q => t σ H fun vs H1 => sp (vs ++ dvs) H1 Q E
def Binds (K : PySem.W.Frag) (fd : FuncData) (ps : List Str) (ds : List Value) : Prop :=
  ∀ (s : Shared) (us : List Value), K.In s.heap → (us ++ ds).length = ps.length → BindsTo s fd ⟨us, []⟩ (ps.zip (us ++ ds))
theorem Binds.all {K : PySem.W.Frag} {fd : FuncData} {ps : List Str} (h : ∀ us : List Value, us.length = ps.length → bindArgs fd ⟨us, []⟩ = pure (ps.zip us)) : Binds K fd ps [] := fun s us _ hl => by
  rw [List.append_nil] at hl ⊢
  exact .of_eq (h us hl)
def Passes (CX : CXT) (X : Cx) (E : XK) : Prop := ∀ (pins : List (Addr × Obj)) (σ : St) (H : Hp) (s : Shared) (e : Value) (s' : Shared), Inv X pins σ H s → CX X.stack H s E e s' → X.xe e s'
section
variable {X : Cx} {CX : CXT} {k : Nat} {f C : Addr} {fd : FuncData} {ps : List Str} {sp : Sp} {dvs : List V} {ds : List Value} {E : XK} {x m : Str} {p pos apos : Pos} {e o : Expr} {es : List Expr} {ta : TE} {t : TA}
theorem run_fn {pins : List (Addr × Obj)} {σ : St} {H : Hp} {s : Shared} {Q : VK} {us : List Value} {vs : List V} (F : FnOk X.prog X.w X.K X.mg X.base CX k f fd ps sp) (hr : Room k X.A) (hb : Binds X.K fd ps ds) (hd : Vals dvs ds) (hx : Passes CX X E)
    (I : Inv X pins σ H s) (r : Vals vs us) (h : sp (vs ++ dvs) H Q E) : wpAny (model X.prog X.w) X.A (call (.ref f) us) (EP X pins σ Q) X.xe s := by
  have r2 : Vals (vs ++ dvs) (us ++ ds) := r.append hd
  have hl : (us ++ ds).length = ps.length := by rw [← r2.length]; exact F.len _ _ _ _ h
  refine wpAny_call (codeAny_mono (F.run X.A X.stack s H ⟨us, []⟩ (us ++ ds) (vs ++ dvs) Q E hr I.env0 (hb s us I.kIn hl) r2 h) fun r s' hq => ?_)
  cases r with
  | error e => exact hx pins σ H s e s' I hq
  | ok fl =>
    cases fl with
    | ret u => exact I.after hq
    | next => exact False.elim hq
    | brk => exact False.elim hq
    | cont => exact False.elim hq
theorem pe_call (F : FnOk X.prog X.w X.K X.mg X.base CX k f fd ps sp) (hr : Room k X.A) (hg : Gl X x) (hm : X.mg x = some (.ref f)) (hk : PySem.W.keepIn X.K (.ref f) = true) (hb : Binds X.K fd ps ds) (hd : Vals dvs ds) (hx : Passes CX X E)
    (ha : PA X (e :: es) t) (hdb : (x == ("__debug__" : Str)) = false := by decide) (he : starEach (e :: es) X.env = (false, eval e X.env) :: starEach es X.env := by rfl) (hpl : (backTo pos (starEach es X.env)).any (·.1) = false := by rfl) :
    PE X (.Call (.Name x p) (e :: es) [] pos) (tCall sp dvs E t) := by
  intro pins s σ H Q I h
  refine wpAny_Call_Name_kw (ld_glob I hg hm ?_ hdb)
  refine PySem.W.callWith_K (h₀ := X.base) I.ok.mod.kin hk (thn (ha pos pins s σ H _ I h) fun us s1 ⟨vs, H1, I1, r, q⟩ => ⟨I1.kIn, ?_⟩) he hpl
  exact run_fn F hr hb hd hx I1 r q
end
section
variable {X : Cx} {CX : CXT} {k : Nat} {f C : Addr} {fd : FuncData} {ps ks : List Str} {sp : Sp} {E : XK} {x m : Str} {p pos apos kpos : Pos} {e o : Expr} {es : List Expr} {kws : List Keyword} {te ta : TE} {t tk : TA} {nm : Option Str}
variable {g : List Value → List Value → List Value} {gV : List V → List V → List V}
end
structure FnScope (N P : List Str) (sc : Scope) : Prop where
  kind : sc.kind = .function
  co : sc.isCoroutine = false
  gen : sc.isGenerator = false
  nd : N.Nodup
  pre : N.take P.length = P
  par : ∀ x ∈ P, sc.names.lookup x = some .local ∨ sc.names.lookup x = some .cell
  nofree : ∀ y ∈ sc.names, y.2 ≠ .free
theorem bindL_out {kindOf : Str → Option NameKind} {x : Str} : ∀ {binds : List (Str × Value)} {m : Str → Option Value}, (∀ v, (x, v) ∉ binds) → bindL kindOf binds m x = m x
  | [], _, _ => rfl
  | (n, v) :: r, m, h => by
    unfold bindL
    rw [bindL_out fun w hw => h w (List.mem_cons_of_mem _ hw)]
    split
    · have : x ≠ n := by rintro rfl; exact h v List.mem_cons_self
      simp [this]
    · rfl
theorem bindC_out {kindOf : Str → Option NameKind} {x : Str} : ∀ {binds : List (Str × Value)} {m : Str → Option Value}, (∀ v, (x, v) ∉ binds) → bindC kindOf binds m x = m x
  | [], _, _ => rfl
  | (n, v) :: r, m, h => by
    unfold bindC
    rw [bindC_out fun w hw => h w (List.mem_cons_of_mem _ hw)]
    split
    · rfl
    · have : x ≠ n := by rintro rfl; exact h v List.mem_cons_self
      simp [this]
theorem bindL_get {kindOf : Str → Option NameKind} {x : Str} {v : Value} : ∀ {P : List Str} {vs : List Value} {i : Nat} {m : Str → Option Value}, P.Nodup → P[i]? = some x → vs[i]? = some v → kindOf x = some .local →
    bindL kindOf (P.zip vs) m x = some v
  | [], _, _, _, _, h, _, _ => by simp at h
  | _ :: _, [], _, _, _, _, h, _ => by simp at h
  | p :: P, w :: vs, 0, m, nd, h1, h2, hk => by
    simp at h1 h2; subst h1; subst h2
    show bindL kindOf ((p, w) :: P.zip vs) m p = _
    unfold bindL
    rw [bindL_out fun v hv => (List.nodup_cons.mp nd).1 (List.of_mem_zip hv).1, if_pos hk]
    simp
  | p :: P, w :: vs, i + 1, m, nd, h1, h2, hk => by
    show bindL kindOf ((p, w) :: P.zip vs) m x = _
    unfold bindL
    exact bindL_get (i := i) (List.nodup_cons.mp nd).2 (by simpa using h1) (by simpa using h2) hk
theorem bindC_get {kindOf : Str → Option NameKind} {x : Str} {v : Value} : ∀ {P : List Str} {vs : List Value} {i : Nat} {m : Str → Option Value}, P.Nodup → P[i]? = some x → vs[i]? = some v → kindOf x ≠ some .local →
    bindC kindOf (P.zip vs) m x = some v
  | [], _, _, _, _, h, _, _ => by simp at h
  | _ :: _, [], _, _, _, _, h, _ => by simp at h
  | p :: P, w :: vs, 0, m, nd, h1, h2, hk => by
    simp at h1 h2; subst h1; subst h2
    show bindC kindOf ((p, w) :: P.zip vs) m p = _
    unfold bindC
    rw [bindC_out fun v hv => (List.nodup_cons.mp nd).1 (List.of_mem_zip hv).1, if_neg hk]
    simp
  | p :: P, w :: vs, i + 1, m, nd, h1, h2, hk => by
    show bindC kindOf ((p, w) :: P.zip vs) m x = _
    unfold bindC
    exact bindC_get (i := i) (List.nodup_cons.mp nd).2 (by simpa using h1) (by simpa using h2) hk
def start (N : List Str) (vs : List V) : St := vs.map some ++ List.replicate (N.length - vs.length) none
def cxOf (CX : CXT) (P : Program) (w : World) (K : PySem.W.Frag) (mg : Str → Option Value) (base : Heap) (N : List Str) (qual : Str) (scope : Scope) (f : Addr) (cd : Value) (A : Around) (outer : List Env) (s : Shared) (H : Hp) (E : XK) : Cx where
  prog := P
  w := w
  K := K
  mg := mg
  base := base
  A := A.deeper (envOfC qual scope s.heap.objs.size f cd)
  N := N
  s_0 := s
  H_0 := H
  env := envOfC qual scope s.heap.objs.size f cd
  outer := outer
  stack := envOfC qual scope s.heap.objs.size f cd :: outer
  ex := []
  calm := true
  fn := fun _ => true
  pn := []
  xe := fun e s' => wpAny (model P w) (A.deeper (envOfC qual scope s.heap.objs.size f cd)) (leaving (envOfC qual scope s.heap.objs.size f cd) e) (fun _ s'' => CX outer H s E e s'') (fun e' s'' => CX outer H s E e' s'') s'
theorem cell_has {sc : Scope} {n : Nat} {x : Str} (h : sc.names.lookup x = some .cell) : ∃ c, (cellsFrom n sc.names []).lookup x = some c := by
  have q := PySem.W.cellsFrom_some sc.names n [] (.inl h)
  exact Option.isSome_iff_exists.mp q
theorem inv_start {CX : CXT} {P : Program} {w : World} {K : PySem.W.Frag} {mg : Str → Option Value} {base : Heap} {N ps : List Str} {qual : Str} {scope : Scope} {f : Addr} {cd : Value} {A : Around} {outer : List Env} {s s1 : Shared} {H : Hp} {E : XK} {us : List Value} {vs : List V}
    (S : FnScope N ps scope) (hd : A.handled = none) (e0 : Env0 P w K mg base A outer s H) (hl : vs.length = ps.length) (r : Vals vs us)
    (x : InCallC s s.heap.objs.size (bindL (envOfC qual scope s.heap.objs.size f cd).kindOf (ps.zip us) fun _ => none) (cellsFrom (s.heap.objs.size + 1) scope.names []) (bindC (envOfC qual scope s.heap.objs.size f cd).kindOf (ps.zip us) fun _ => none) s1) :
    Inv (cxOf CX P w K mg base N qual scope f cd A outer s H E) [] (start N vs) H s1 := by
  have hpl : ps.length ≤ N.length := by have := congrArg List.length S.pre; rw [List.length_take] at this; omega
  obtain ⟨h1, tk, rfl, hk⟩ := x.done
  have noA : ∀ b : Addr, b ∉ (cxOf CX P w K mg base N qual scope f cd A outer s H E).ex := fun b z => absurd (show b ∈ ([] : List Addr) from z) (by simp)
  refine ⟨⟨e0.mod, S.kind, rfl, rfl, Nat.le_refl _, fun y z c h1 h2 => ?_, fun y hy => ?_, fun y c _ h => ?_, fun _ => hd, Around.frames_deeper e0.frames, .inr ⟨rfl, rfl⟩, fun b z => absurd z (noA b), e0.bs, e0.bsz, fun b _ _ => noA b, fun b z => absurd z (noA b), e0.funs, e0.frf⟩,
    rfl, e0.bare, Un.kept hk, ⟨_, x.toInCall.ns, fun i y v h1 h2 h3 => ?_⟩, fun y c h => ⟨_, x.cell y c h⟩, e0.hok.fresh (Nat.le_refl _), fun y c h => ?_, fun p hp => absurd (show p ∈ ([] : List (Addr × Obj)) from hp) (by simp), e0.hok.kept hk, ?_⟩
  · exact name_of_addr x.apart (PySem.mem_of_lookup h1) (PySem.mem_of_lookup h2)
  · have hy : scope.names.lookup y = some .cell ∨ scope.names.lookup y = some .free := hy
    rcases hy with hy | hy
    · exact cell_has hy
    · exact absurd rfl (S.nofree _ (PySem.mem_of_lookup hy))
  · exact Nat.le_of_lt (x.above y c (PySem.mem_of_lookup h))
  · have hi : i < vs.length := by
      unfold start at h2
      by_cases hi : i < vs.length
      · exact hi
      · rw [List.getElem?_append_right (by simpa using hi)] at h2
        rw [List.getElem?_replicate] at h2
        split at h2 <;> cases h2
    have ha : vs[i]? = some v := by
      unfold start at h2
      rw [List.getElem?_append_left (by simpa using hi), List.getElem?_map] at h2
      cases e : vs[i]? with
      | none => rw [e] at h2; cases h2
      | some a => rw [e] at h2; cases h2; rfl
    obtain ⟨u, hu, rv⟩ := r.get ha
    have hp : ps[i]? = some y := by
      rw [← S.pre, List.getElem?_take_of_lt (by omega)]; exact h1
    have ndP : ps.Nodup := by rw [← S.pre]; exact S.nd.sublist (List.take_sublist _ _)
    refine ⟨u, rv, ?_⟩
    rcases S.par y (List.mem_of_getElem? hp) with k | k
    · exact .inl ⟨k, bindL_get ndP hp hu k⟩
    · obtain ⟨c, e⟩ := cell_has (n := s.heap.objs.size + 1) k
      refine .inr ⟨.inl k, c, e, ?_⟩
      have q := x.cell y c e
      rw [bindC_get ndP hp hu (by show scope.names.lookup y ≠ _; rw [k]; decide)] at q
      exact q
  · exact e0.hok.fresh (Nat.le_of_lt (x.above y c (PySem.mem_of_lookup h)))
  · unfold start
    show _ = N.length
    rw [List.length_append, List.length_map, List.length_replicate]
    omega
theorem fn_of {CX : CXT} {P : Program} {w : World} {K : PySem.W.Frag} {mg : Str → Option Value} {base : Heap} {k : Nat} {f : Addr} {name qual : Str} {params : Arguments} {body : List Stmt} {scope : Scope} {dV kV doc pm cdv ct oc : Value} {an od : Option Addr}
    {osl : Array (Option Value)} {N ps : List Str} {sp : Sp} (lk : K.lookup f = some ⟨oc, od, .func (PySem.W.fnOf name qual params body scope dV kV doc pm an cdv ct), osl⟩) (hcd : PySem.W.codeIn K cdv qual = true) (S : FnScope N ps scope)
    (len : ∀ vs H Q E, sp vs H Q E → vs.length = ps.length)
    (hbody : ∀ (A : Around) (outer : List Env) (s : Shared) (H : Hp) (vs : List V) (Q : VK) (E : XK), Room k (A.deeper (envOfC qual scope s.heap.objs.size f cdv)) → sp vs H Q E →
      ∃ t, PSs (cxOf CX P w K mg base N qual scope f cdv A outer s H E) body t ∧ t { nx := fun _ H' => Q .non H', rt := Q } (start N vs) H) :
    FnOk P w K mg base CX (k + 1) f (PySem.W.fnOf name qual params body scope dV kV doc pm an cdv ct) ps sp := by
  refine ⟨len, fun A outer s H args us vs Q E hr e0 hb r hsp => ?_⟩
  have hl := len _ _ _ _ hsp
  have KX : K.In s.heap := e0.mod.kin.keeps fun b o e => (e0.bs b o e).1
  have lim : s.heap.NoLimit := e0.mod.nolimit.keeps fun b o e => (e0.bs b o e).1
  have hkind : ∀ y ∈ ps.zip us, scope.names.lookup y.1 = some .local ∨ (scope.names.lookup y.1 = some .cell ∧ ((cellsFrom (s.heap.objs.size + 1) scope.names []).lookup y.1).isSome = true) := fun ⟨n, v⟩ hy => by
    rcases S.par n (List.of_mem_zip hy).1 with q | q
    · exact .inl q
    · exact .inr ⟨q, PySem.W.cellsFrom_some _ _ _ (.inl q)⟩
  refine codeAny_call_function hr.depth (KX _ _ lk) rfl S.co S.gen rfl (PySem.W.codeRec_of KX hcd) (hb _ _ _ _ ?_)
  refine wpAny_newFunctionEnv_cells S.kind hkind fun env he s1 x => ?_
  subst he
  refine ⟨lim.keeps x.toInCall.keep, codeAny_func ?_⟩
  obtain ⟨t, ht, hq⟩ := hbody A outer s H vs Q E (hr.deeper _) hsp
  have I : Inv (cxOf CX P w K mg base N qual scope f cdv A outer s H E) [] (start N vs) H s1 := inv_start S hr.hd e0 hl r x
  refine wpAny_mono (ht [] s1 (start N vs) H _ I hq) (fun fl s' hs => ?_) fun e s' hs => hs
  have fin : ∀ {σ' : St} {H' : Hp} {v : V} {u : Value}, Inv (cxOf CX P w K mg base N qual scope f cdv A outer s H E) [] σ' H' s' → RelV v u → Q v H' → CE outer P w H s Q u s' :=
    fun {σ' H' v u} J rv q => ⟨v, H', J.os, J.bare, J.base, J.hok, rv, q⟩
  cases fl with
  | ret u =>
    obtain ⟨v, σ', H', J, rv, q⟩ := hs
    exact fin J rv q
  | next =>
    obtain ⟨σ', H', J, q⟩ := hs
    exact fin (v := V.non) (u := Value.none) J rfl q
  | brk =>
    obtain ⟨_, _, _, q⟩ := hs
    exact False.elim q
  | cont =>
    obtain ⟨_, _, _, q⟩ := hs
    exact False.elim q
end L2
namespace L2
open PySem PySem.Spec PyProof.Rows
section
variable {X : Cx} {x : Str} {p pos : Pos} {e : Expr} {es : List Expr} {t : TA} {id T : String} {r : List V → Hp → VK → Prop}
def tCB (r : List V → Hp → VK → Prop) (t : TA) : TE := fun σ H Q => t σ H fun vs H1 => r vs H1 Q
theorem pe_callB (hc : CallR X (.builtin id) r) (hg : Gl X x) (hm : X.mg x = none) (hv : bootBuiltins x = some (.builtin id)) (ha : PA X (e :: es) t) (hn : x ≠ "__name__" := by decide) (hdb : (x == ("__debug__" : Str)) = false := by decide)
    (he : starEach (e :: es) X.env = (false, eval e X.env) :: starEach es X.env := by rfl) (hpl : (backTo pos (starEach es X.env)).any (·.1) = false := by rfl) : PE X (.Call (.Name x p) (e :: es) [] pos) (tCB r t) := by
  intro pins s σ H Q I h
  refine wpAny_Call_Name_kw (ld_blt I hg hm hv ?_ hn hdb)
  exact PyProof.Rows.callWith_builtin1 (thn (ha pos pins s σ H _ I h) fun us s1 ⟨vs, H1, I1, r1, q1⟩ => hc pins s1 σ H1 vs us Q I1 r1 q1) he hpl
theorem pe_callTy (hc : CallR X (.type T) r) (hg : Gl X x) (hm : X.mg x = none) (hv : bootBuiltins x = some (.type T)) (ha : PA X (e :: es) t) (hn : x ≠ "__name__" := by decide) (hdb : (x == ("__debug__" : Str)) = false := by decide)
    (he : starEach (e :: es) X.env = (false, eval e X.env) :: starEach es X.env := by rfl) (hpl : (backTo pos (starEach es X.env)).any (·.1) = false := by rfl) : PE X (.Call (.Name x p) (e :: es) [] pos) (tCB r t) := by
  intro pins s σ H Q I h
  refine wpAny_Call_Name_kw (ld_blt I hg hm hv ?_ hn hdb)
  exact PyProof.Rows.callWith_type1 (thn (ha pos pins s σ H _ I h) fun us s1 ⟨vs, H1, I1, r1, q1⟩ => hc pins s1 σ H1 vs us Q I1 r1 q1) he hpl
end
end L2
namespace HT
open PySem PyProof.Rows
def lexLt : List Int → List Int → Bool
  | [], [] => false
  | [], _ :: _ => true
  | _ :: _, [] => false
  | x :: xs, y :: ys => if x = y then lexLt xs ys else decide (x < y)
theorem lexLt_cons (x y : Int) (xs ys : List Int) : lexLt (x :: xs) (y :: ys) = if x = y then lexLt xs ys else decide (x < y) := rfl
section
open PySem.SeqAt
open PySem.AutoSeq1 (wpAny_loadPart')
open PySem.MeetsSeq PySem.MeetsSeq2 PySem.MeetsSeq3
end
section
variable {prog : Program} {w : World} {A : Around} {E : Value → Shared → Prop} {s : Shared}
theorem cat_tup {t b : Addr} {vs ws : List Value} {Q : Value → Shared → Prop} (ht : IsTup s.heap t vs.toArray) (hb : IsTup s.heap b ws.toArray) (hv : vs ≠ [])
    (h1 : ws = [] → Q (.ref t) s) (h2 : ws ≠ [] → Q (.ref s.heap.objs.size) { s with heap := s.heap.push { cls := .type "tuple", data := .seq (vs ++ ws).toArray } })
    (hsz : vs.length + ws.length ≤ sizeLine) : wpAny (model prog w) A (binaryOp .Add (.ref t) (.ref b)) Q E s := by
  obtain ⟨⟨cls, dd, data, sl⟩, ho, hc, n, hd⟩ := id ht
  obtain ⟨⟨cls2, dd2, data2, sl2⟩, ho2, hc2, n2, hd2⟩ := id hb
  simp only at hc hd hc2 hd2
  subst hc hd hc2 hd2
  have e : vs.toArray ++ ws.toArray = (vs ++ ws).toArray := by simp
  by_cases hw : ws = []
  · exact concat_meets ⟨_, ho, rfl⟩ ⟨_, ho2, rfl⟩ noFill_tuple_add seq_tuple_add PySem.F.slot_tuple_add PySem.F.entry_tuple_add (PySem.F.args_tuple_add_2 _ _)
      (tuple_addW1 t b vs.toArray ws.toArray n n2 dd dd2 sl sl2 (by simpa using hv) (by simp [hw])) ⟨ho, ho2, h1 hw⟩
  · refine concat_meets ⟨_, ho, rfl⟩ ⟨_, ho2, rfl⟩ noFill_tuple_add seq_tuple_add PySem.F.slot_tuple_add PySem.F.entry_tuple_add (PySem.F.args_tuple_add_2 _ _)
      (tuple_addW2 t b vs.toArray ws.toArray n n2 dd dd2 sl sl2 (by simpa using hv) (by simpa using hw) (by rw [List.size_toArray, List.size_toArray]; exact hsz)) ⟨ho, ho2, ?_⟩
    rw [e]
    exact h2 hw
def sIx (n d : Nat) : Option Int → Nat
  | none => d
  | some v => if v < 0 then (v + (n : Int)).toNat else min v.toNat n
theorem sIx_none (n d : Nat) : sIx n d none = d := rfl
theorem sIx_nat (n d k : Nat) : sIx n d (some (k : Int)) = min k n := by
  show (if (k : Int) < 0 then ((k : Int) + (n : Int)).toNat else min (k : Int).toNat n) = min k n
  rw [if_neg (by omega), Int.toNat_natCast]
theorem sIx_le (n d : Nat) (hd : d ≤ n) (o : Option Int) : sIx n d o ≤ n := by
  cases o with
  | none => exact hd
  | some v =>
    show (if v < 0 then (v + (n : Int)).toNat else min v.toNat n) ≤ n
    by_cases hv : v < 0
    · rw [if_pos hv]; omega
    · rw [if_neg hv]; exact Nat.min_le_right _ _
theorem clip_eq (v : Int) (n d : Nat) : (if v < 0 then max (v + (n : Int)) 0 else min v (n : Int)) = ((sIx n d (some v) : Nat) : Int) := by
  show (if v < 0 then max (v + (n : Int)) 0 else min v (n : Int)) = (((if v < 0 then (v + (n : Int)).toNat else min v.toNat n) : Nat) : Int)
  by_cases hv : v < 0
  · simp only [if_pos hv]; omega
  · simp only [if_neg hv]; omega
theorem adjust_gen (lo hi : Option Int) (n : Nat) : Builtin.Slice.sliceAdjust lo hi 1 (n : Int) = (((sIx n 0 lo : Nat) : Int), ((sIx n n hi : Nat) : Int)) := by
  have h1 : ¬ ((1 : Int) < 0) := by omega
  unfold Builtin.Slice.sliceAdjust
  simp only [h1, if_false]
  refine Prod.ext ?_ ?_
  · cases lo with
    | none => rfl
    | some v => exact clip_eq v n 0
  · cases hi with
    | none => rfl
    | some v => exact clip_eq v n n
theorem places_gen (i j : Nat) : Builtin.Slice.slicePlaces (i : Int) (j : Int) 1 = j - i := by
  unfold Builtin.Slice.slicePlaces
  have h1 : (1 : Int) > 0 := by omega
  simp only [h1, if_true, Int.ediv_one]
  split <;> omega
theorem slicePart_ {v : Value} {o : Option Int} {Q : Option Int → Shared → Prop} (p : IsPart v o) (h : Q o s) : wpAny (model prog w) A (Builtin.Slice.slicePartIndex v) Q E s := by
  cases p with
  | none => exact slicePart_none h
  | int i t => exact slicePart_int h
theorem sliceApplied_gen {sl : Addr} {vl vu : Value} {lo hi : Option Int} {n : Nat} {Q : Int × Int × Nat → Shared → Prop} (hs : s.heap.IsSliceOf sl vl vu .none) (pl : IsPart vl lo) (pu : IsPart vu hi)
    (h : Q (((sIx n 0 lo : Nat) : Int), 1, sIx n n hi - sIx n 0 lo) s) : wpAny (model prog w) A (Builtin.Slice.sliceApplied (.ref sl) (pure (n : Int))) Q E s := by
  obtain ⟨os, hos, hcs, hds⟩ := id hs
  unfold Builtin.Slice.sliceApplied Builtin.Slice.sliceFields
  refine wpAny_bind (wpAny_bind (wpAny_field hos hds (x := vl) rfl (wpAny_bind (wpAny_field hos hds (x := vu) rfl (wpAny_bind (wpAny_field hos hds (x := .none) rfl (wpAny_pure ?_)))))))
  refine wpAny_bind (slicePart_none ?_)
  show wpAny _ _ (if ((1 : Int) == 0) = true then _ else _) _ _ s
  rw [if_neg (by decide)]
  refine wpAny_bind (slicePart_ pl (wpAny_bind (slicePart_ pu (wpAny_bind (wpAny_pure ?_)))))
  show wpAny _ _ (match Builtin.Slice.sliceAdjust lo hi 1 (n : Int) with | (lo, hi) => pure (lo, (1 : Int), Builtin.Slice.slicePlaces lo hi 1)) _ _ s
  rw [adjust_gen lo hi n]
  show wpAny _ _ (pure (((sIx n 0 lo : Nat) : Int), (1 : Int), Builtin.Slice.slicePlaces ((sIx n 0 lo : Nat) : Int) ((sIx n n hi : Nat) : Int) 1)) _ _ s
  rw [places_gen]
  exact wpAny_pure h
theorem pick_gen (xs : Array Value) (i k : Nat) : ((List.range k).filterMap fun (m : Nat) => xs[((i : Int) + (m : Int) * 1).toNat]?).toArray = ((xs.toList.drop i).take k).toArray := by
  have e : (fun (m : Nat) => xs[((i : Int) + (m : Int) * 1).toNat]?) = fun m => xs[i + m]? := by
    funext m
    have : ((i : Int) + (m : Int) * 1).toNat = i + m := by omega
    rw [this]
  rw [e]
  have := pick_run xs i k
  rw [List.filterMap_map] at this
  have e2 : ((fun x => xs[x]?) ∘ fun x => i + x) = fun m => xs[i + m]? := rfl
  rw [e2] at this
  rw [this]
theorem getItem_tuple_cut {t sl : Addr} {items : Array Value} {vl vu : Value} {lo hi : Option Int} {Q : Value → Shared → Prop} (ht : IsTup s.heap t items) (hs : s.heap.IsSliceOf sl vl vu .none) (pl : IsPart vl lo) (pu : IsPart vu hi)
    (hw : ¬ (sIx items.size 0 lo = 0 ∧ sIx items.size items.size hi = items.size))
    (h : Q (.ref s.heap.objs.size) { s with heap := s.heap.push { cls := .type "tuple", data := .seq ((items.toList.drop (sIx items.size 0 lo)).take (sIx items.size items.size hi - sIx items.size 0 lo)).toArray } })
    (hsz : items.size ≤ sizeLine) : wpAny (model prog w) A (getItem (.ref t) (.ref sl)) Q E s := by
  have htake : sizeOk (.seq ((items.toList.drop (sIx items.size 0 lo)).take (sIx items.size items.size hi - sIx items.size 0 lo)).toArray) := by
    show ((items.toList.drop (sIx items.size 0 lo)).take (sIx items.size items.size hi - sIx items.size 0 lo)).toArray.size ≤ sizeLine
    rw [List.size_toArray, List.length_take, List.length_drop, Array.length_toList]
    omega
  have hj : sIx items.size items.size hi ≤ items.size := sIx_le _ _ (Nat.le_refl _) hi
  obtain ⟨os, hos, hcs, hds⟩ := id hs
  have hTs : s.TypeIs (.ref sl) "slice" := ⟨os, hos, hcs⟩
  unfold getItem
  try with_reducible refine wpAny_holding ?_
  first | refine wpAny_bind (wpAny_pure ?_) | skip
  refine wpAny_bind (wpAny_sequenceKey ht.typeIs (by decide) ?_)
  refine wpAny_bind (wpAny_callSpecial?_slot (name := Str.ofString "__getitem__") ht.typeIs PyProof.Rows.slot_tuple_getitem
    (wpAny_call_entry PyProof.Rows.slot_tuple_getitem ht.typeIs entry_tuple_getitem ?_ (args_tuple_getitem _ _)))
  show wpAny _ _ (Builtin.Tuple.tupleItemsOf (.ref t) >>= _) _ _ s
  refine wpAny_bind (tupleItemsOf_ ht ?_)
  refine wpAny_bind (wpAny_typeOf hTs ?_)
  rw [if_pos (by decide)]
  refine wpAny_bind (sliceApplied_gen hs pl pu ?_)
  have hno : ¬ ((((sIx items.size 0 lo : Nat) : Int) == 0 && (1 : Int) == 1 && (sIx items.size items.size hi - sIx items.size 0 lo) == items.size) = true) := by
    intro q
    rw [Bool.and_eq_true, Bool.and_eq_true] at q
    have q1 : ((sIx items.size 0 lo : Nat) : Int) = 0 := eq_of_beq q.1.1
    have q2 : sIx items.size items.size hi - sIx items.size 0 lo = items.size := eq_of_beq q.2
    exact hw ⟨by omega, by omega⟩
  show wpAny _ _ (if (((sIx items.size 0 lo : Nat) : Int) == 0 && (1 : Int) == 1 && (sIx items.size items.size hi - sIx items.size 0 lo) == items.size) = true then _ else _) _ _ s
  rw [if_neg hno, pick_gen]
  first
    | exact wpAny_bind (m := Builtin.Tuple.tupleExact _) (wpAny_newObj_type (wpAny_pure ⟨_, rfl, wpAny_pure h⟩) htake)
    | exact wpAny_bind (m := Builtin.Tuple.tupleExact _) (wpAny_newObj_type (wpAny_bind (wpAny_pure (wpAny_pure ⟨_, rfl, wpAny_pure h⟩))) htake)
    | exact wpAny_bind (wpAny_bind (m := Builtin.Tuple.tupleExact _) (wpAny_newObj_type (wpAny_pure (wpAny_pure ⟨_, rfl, wpAny_pure h⟩)) htake))
    | exact wpAny_bind (wpAny_bind (m := Builtin.Tuple.tupleExact _) (wpAny_newObj_type (wpAny_pure ⟨_, rfl, wpAny_pure h⟩) htake))
end
end HT
namespace L2
open PySem PySem.Spec PyProof.Rows
abbrev TO := St → Hp → (Option Int → Hp → Prop) → Prop
def PO (X : Cx) (e : Option Expr) (t : TO) : Prop :=
  ∀ (pins : List (Addr × Obj)) (s : Shared) (σ : St) (H : Hp) (Q : Option Int → Hp → Prop), Inv X pins σ H s → t σ H Q →
    wpAny (model X.prog X.w) X.A (evalPart e X.env) (fun u s' => ∃ o H', Inv X pins σ H' s' ∧ IsPart u o ∧ Q o H') X.xe s
def tNoPart : TO := fun _ H Q => Q none H
def tPart (t : TE) : TO := fun σ H Q => t σ H fun x H1 => ∃ i, x = .int i ∧ Q (some i) H1
section
variable {X : Cx} {e : Expr} {te : TE} {lo hi : Option Expr} {tl th : TO} {pos p2 : Pos}
theorem po_none : PO X none tNoPart := by
  intro pins s σ H Q I h
  rw [evalPart_none]
  exact wpAny_pure ⟨none, H, I, .none, h⟩
theorem po_some (h : PE X e te) : PO X (some e) (tPart te) := by
  intro pins s σ H Q I hw
  rw [evalPart_some]
  refine thn (h pins s σ H _ I hw) fun u s1 ⟨x, H1, I1, r1, q1⟩ => ?_
  obtain ⟨i, rfl, q⟩ := q1
  obtain ⟨t, rfl⟩ := r1
  exact ⟨some i, H1, I1, .int i t, q⟩
def SlR (X : Cx) (r : V → Option Int → Option Int → Hp → VK → Prop) : Prop :=
  ∀ (pins : List (Addr × Obj)) (s : Shared) (σ : St) (H : Hp) (x : V) (v vl vu : Value) (lo hi : Option Int) (sl : Addr) (Q : VK), Inv X pins σ H s → RelV x v → s.heap.IsSliceOf sl vl vu .none → IsPart vl lo → IsPart vu hi → r x lo hi H Q →
    ∃ T id, typeLookup (.type T) "__getitem__" = pure (some (.builtin id)) ∧ s.TypeIs v T ∧ wpAny (model X.prog X.w) X.A (getItem v (.ref sl)) (EP X pins σ Q) X.xe s
theorem SlR.or {r r' : V → Option Int → Option Int → Hp → VK → Prop} (h : SlR X r) (h' : SlR X r') : SlR X (fun x lo hi H Q => r x lo hi H Q ∨ r' x lo hi H Q) := by
  intro pins s σ H x v vl vu lo hi sl Q I rx hs pl pu q
  rcases q with q | q
  · exact h pins s σ H x v vl vu lo hi sl Q I rx hs pl pu q
  · exact h' pins s σ H x v vl vu lo hi sl Q I rx hs pl pu q
def tSl (r : V → Option Int → Option Int → Hp → VK → Prop) (te : TE) (tl th : TO) : TE := fun σ H Q => te σ H fun x H1 => tl σ H1 fun l H2 => th σ H2 fun u H3 => r x l u H3 Q
theorem pe_slice {r : V → Option Int → Option Int → Hp → VK → Prop} (hr : SlR X r) (he : PE X e te) (hl : PO X lo tl) (hu : PO X hi th) : PE X (.Subscript e (.Slice lo hi none p2) pos) (tSl r te tl th) := by
  intro pins s σ H Q I h
  refine Subscript_ (thn (he pins s σ H _ I h) fun v s1 ⟨x, H1, I1, r1, q1⟩ => ?_)
  refine wpAny_Slice (thn (hl pins s1 σ H1 _ I1 q1) fun vl s2 ⟨l, H2, I2, pl, q2⟩ => thn (hu pins s2 σ H2 _ I2 q2) fun vu s3 ⟨u, H3, I3, pu, q3⟩ => ?_)
  rw [evalPart_none]
  refine wpAny_pure ?_
  have I4 : Inv X pins σ H3 { s3 with heap := s3.heap.push { cls := .type "slice", data := .fields #[vl, vu, .none] } } := I3.kept (t' := s3.toks) fun b ob q => Heap.get?_push_of_some _ q
  obtain ⟨T, id, hT, ht, hg⟩ := hr pins { s3 with heap := s3.heap.push { cls := .type "slice", data := .fields #[vl, vu, .none] } } σ H3 x v vl vu l u s3.heap.objs.size Q I4 r1 (Heap.IsSliceOf.new ..) pl pu q3
  show wpAny (model X.prog X.w) X.A (subscriptTail e (.Slice lo hi none p2) v (.ref s3.heap.objs.size)) (EP X pins σ Q) X.xe { s3 with heap := s3.heap.push { cls := .type "slice", data := .fields #[vl, vu, .none] } }
  exact tail_any (ops := [.ref s3.heap.objs.size, v]) ht hT hg (by with_unfolding_all rfl)
def cutV (xs : List V) (lo hi : Option Int) : List V := (xs.drop (HT.sIx xs.length 0 lo)).take (HT.sIx xs.length xs.length hi - HT.sIx xs.length 0 lo)
theorem cutV_length (xs : List V) (lo hi : Option Int) : (cutV xs lo hi).length ≤ xs.length := by
  unfold cutV
  rw [List.length_take, List.length_drop]
  omega
def rSlT (K : PySem.W.Frag) : V → Option Int → Option Int → Hp → VK → Prop := fun x lo hi H Q => ∃ a xs, x = .ref a ∧ SqT K H a xs ∧
  ¬ (HT.sIx xs.length 0 lo = 0 ∧ HT.sIx xs.length xs.length hi = xs.length) ∧ ∀ p, H p = none → Q (.ref p) (upd H p (.tup (cutV xs lo hi)))
theorem sl_tup : SlR X (rSlT X.K) := by
  intro pins s σ H x v vl vu lo hi sl Q I rx hs pl pu h
  obtain ⟨a, xs, rfl, hx, hw, q⟩ := h
  cases rx
  obtain ⟨its, r, ht, hz⟩ := I.tuple hx
  have hlen : its.toArray.size = xs.length := by rw [List.size_toArray]; exact r.length.symm
  refine ⟨"tuple", _, PyProof.Rows.slot_tuple_getitem.lookup, ht.typeIs, ?_⟩
  refine HT.getItem_tuple_cut ht hs pl pu (by rw [hlen]; exact hw) ?_ (by rw [hlen]; exact hz)
  rw [hlen]
  refine ⟨.ref s.heap.objs.size, _, I.laid (t' := s.toks) (o := .tup (cutV xs lo hi)) (fun b ob q => Heap.get?_push_of_some _ q) (Nat.le_refl _) ?_, rfl, q _ (I.hok.fresh (Nat.le_refl _))⟩
  exact ⟨Nat.le_trans (cutV_length xs lo hi) hz, _, (r.drop (HT.sIx xs.length 0 lo)).take (HT.sIx xs.length xs.length hi - HT.sIx xs.length 0 lo), IsTD.new _ _⟩
def rCatT (K : PySem.W.Frag) : R2 := fun x y H Q => ∃ a b xs ys, x = .ref a ∧ y = .ref b ∧ SqT K H a xs ∧ SqT K H b ys ∧ xs ≠ [] ∧ xs.length + ys.length ≤ sizeLine ∧
  (ys = [] → Q (.ref a) H) ∧ (ys ≠ [] → ∀ p, H p = none → Q (.ref p) (upd H p (.tup (xs ++ ys))))
theorem Vals.nil_iff {xs : List V} {us : List Value} (r : Vals xs us) : us = [] ↔ xs = [] := by
  cases r with
  | nil => simp
  | cons _ _ => simp
theorem op_catT : OpR X (binaryOp .Add) (rCatT X.K) := by
  intro pins s σ H x y v u Q I rx ry h
  obtain ⟨a, b, xs, ys, rfl, rfl, ha, hb, hx, hz, q1, q2⟩ := h
  cases rx
  cases ry
  obtain ⟨its, r1, p1, _⟩ := I.tuple ha
  obtain ⟨its2, r2, p2, _⟩ := I.tuple hb
  refine HT.cat_tup p1 p2 (fun z => hx (r1.nil_iff.mp z)) (fun z => ⟨.ref a, H, I, rfl, q1 (r2.nil_iff.mp z)⟩) (fun z => ?_) (by rw [← r1.length, ← r2.length]; exact hz)
  refine ⟨.ref s.heap.objs.size, _, I.laid (t' := s.toks) (o := .tup (xs ++ ys)) (fun b ob q => Heap.get?_push_of_some _ q) (Nat.le_refl _) ?_, rfl, q2 (fun w => z (r2.nil_iff.mpr w)) _ (I.hok.fresh (Nat.le_refl _))⟩
  exact ⟨by rw [List.length_append]; exact hz, _, r1.append r2, IsTD.new _ _⟩
end
end L2
namespace L2
open PySem PySem.Spec PyProof.Rows
def ixN (n : Nat) (i : Int) : Option Nat := if 0 ≤ i then (if i < n then some i.toNat else none) else if -(n : Int) ≤ i then some (i + n).toNat else none
def atI {α : Type} (xs : List α) (i : Int) : Option α := (ixN xs.length i).bind fun j => xs[j]?
theorem ixN_seq {n : Nat} {i : Int} {j : Nat} (h : ixN n i = some j) : seqIndex? i n = some j ∧ j < n ∧ -(n : Int) ≤ i ∧ i < n := by
  unfold ixN at h
  by_cases h0 : 0 ≤ i
  · rw [if_pos h0] at h
    by_cases h1 : i < n
    · rw [if_pos h1] at h
      have e : i.toNat = j := Option.some.inj h
      exact ⟨by rw [seqIndex_of h0 h1, e], by omega, by omega, h1⟩
    · rw [if_neg h1] at h; cases h
  · rw [if_neg h0] at h
    by_cases h1 : -(n : Int) ≤ i
    · rw [if_pos h1] at h
      have e : (i + n).toNat = j := Option.some.inj h
      exact ⟨by rw [seqIndex_neg (by omega) h1, e], by omega, h1, by omega⟩
    · rw [if_neg h1] at h; cases h
theorem atI_get {α : Type} {xs : List α} {i : Int} {v : α} (h : atI xs i = some v) : ∃ j, seqIndex? i xs.length = some j ∧ xs[j]? = some v ∧ j < xs.length ∧ -(xs.length : Int) ≤ i ∧ i < xs.length := by
  unfold atI at h
  cases e : ixN xs.length i with
  | none => rw [e] at h; cases h
  | some j =>
    rw [e] at h
    obtain ⟨h1, h2, h3, h4⟩ := ixN_seq e
    exact ⟨j, h1, h, h2, h3, h4⟩
theorem atI_nat {α : Type} {xs : List α} {j : Nat} {v : α} (h : xs[j]? = some v) : atI xs (j : Int) = some v := by
  have hj : j < xs.length := (List.getElem?_eq_some_iff.mp h).1
  have e : ixN xs.length (j : Int) = some j := by
    unfold ixN
    rw [if_pos (by omega), if_pos (by omega)]; simp
  unfold atI; rw [e]; exact h
def PlainIx (b : Expr) : Prop := ∀ o i, subscripted b false o i = operate [o, i] (getItem o i)
def IxR (X : Cx) (r : R2) : Prop :=
  ∀ (value slice : Expr) (pins : List (Addr × Obj)) (s : Shared) (σ : St) (H : Hp) (x y : V) (v u : Value) (Q : VK), Inv X pins σ H s → RelV x v → RelV y u → r x y H Q →
    subscripted slice false v u = operate [v, u] (getItem v u) → wpAny (model X.prog X.w) X.A (subscriptTail value slice v u) (EP X pins σ Q) X.xe s
def MtR (X : Cx) (id : String) (r : V → List V → Hp → VK → Prop) : Prop :=
  ∀ (pins : List (Addr × Obj)) (s : Shared) (σ : St) (H : Hp) (x : V) (xs : List V) (v : Value) (us : List Value) (Q : VK), Inv X pins σ H s → RelV x v → Vals xs us → r x xs H Q →
    wpAny (model X.prog X.w) X.A (call (.builtin id) (v :: us)) (EP X pins σ Q) X.xe s
section
variable {X : Cx} {a b : Expr} {ta tb : TE} {pos : Pos}
theorem IxR.or {r r' : R2} (h : IxR X r) (h' : IxR X r') : IxR X (fun x y H Q => r x y H Q ∨ r' x y H Q) := by
  intro value slice pins s σ H x y v u Q I rx ry q hs
  rcases q with q | q
  · exact h value slice pins s σ H x y v u Q I rx ry q hs
  · exact h' value slice pins s σ H x y v u Q I rx ry q hs
theorem MtR.or {id : String} {r r' : V → List V → Hp → VK → Prop} (h : MtR X id r) (h' : MtR X id r') : MtR X id (fun x xs H Q => r x xs H Q ∨ r' x xs H Q) := by
  intro pins s σ H x xs v us Q I rx rs q
  rcases q with q | q
  · exact h pins s σ H x xs v us Q I rx rs q
  · exact h' pins s σ H x xs v us Q I rx rs q
theorem pe_ix {r : R2} (hr : IxR X r) (ha : PE X a ta) (hb : PE X b tb) (hs : PlainIx b) : PE X (.Subscript a b pos) (tOp r ta tb) := by
  intro pins s σ H Q I h
  exact Subscript_ (binT ha hb I h fun v u s2 x y H2 I2 rx ry q => hr a b pins s2 σ H2 x y v u Q I2 rx ry q (hs _ _))
def rIxL (K : PySem.W.Frag) : R2 := fun x y H Q => ∃ p xs i v, x = .ref p ∧ y = .int i ∧ SqL K H p xs ∧ atI xs i = some v ∧ Q v H
def rIxT (K : PySem.W.Frag) : R2 := fun x y H Q => ∃ p xs i v, x = .ref p ∧ y = .int i ∧ SqT K H p xs ∧ atI xs i = some v ∧ Q v H
theorem ix_list : IxR X (rIxL X.K) := by
  intro value slice pins s σ H x y v u Q I rx ry h hs
  obtain ⟨p, xs, i, z, rfl, rfl, hq, he, q⟩ := h
  cases rx
  obtain ⟨t, rfl⟩ := ry
  obtain ⟨its, r, pl, hz⟩ := I.list hq
  obtain ⟨j, h1, h2, h3, h4, h5⟩ := atI_get he
  obtain ⟨w, ew, rw'⟩ := r.get h2
  have hl := r.length
  have hn := line63
  have fin : EP X pins σ Q w s := ⟨z, H, I, rw', q⟩
  by_cases h0 : 0 ≤ i
  · have hj : i.toNat = j := by
      rw [seqIndex_of h0 h5] at h1
      exact Option.some.inj h1
    exact item_listR pl.isList h0 (by omega) (by rw [hj]; simpa using ew) fin hs
  · have hj : (i + (its.toArray.size : Int)).toNat = j := by
      rw [seqIndex_neg (by omega) h4] at h1
      rw [List.size_toArray, ← hl]
      exact Option.some.inj h1
    exact subscriptTail_builtinR (x := w) pl.isList.typeIs slot_list_getitem.lookup
      (wpAny_getItem_list_neg (Q := fun r s' => r = w ∧ EP X pins σ Q r s') pl.isList (by omega) (by rw [List.size_toArray] <;> omega) (by omega) (by rw [hj]; simpa using ew) ⟨rfl, fin⟩) hs
theorem ix_tup : IxR X (rIxT X.K) := by
  intro value slice pins s σ H x y v u Q I rx ry h hs
  obtain ⟨p, xs, i, z, rfl, rfl, hq, he, q⟩ := h
  cases rx
  obtain ⟨t, rfl⟩ := ry
  obtain ⟨its, r, pl, hz⟩ := I.tuple hq
  obtain ⟨j, h1, h2, h3, h4, h5⟩ := atI_get he
  obtain ⟨w, ew, rw'⟩ := r.get h2
  have hl := r.length
  have hn := line63
  have fin : EP X pins σ Q w s := ⟨z, H, I, rw', q⟩
  exact subscriptTail_builtinR (x := w) pl.typeIs slot_tuple_getitem.lookup
    (getItem_tuple (j := j) (Q := fun r s' => r = w ∧ EP X pins σ Q r s') pl (by omega) (by omega) (by rw [List.size_toArray, ← hl]; exact h1) (by simpa using ew) ⟨rfl, fin⟩) hs
theorem Inv.lst {pins : List (Addr × Obj)} {σ : St} {H : Hp} {s : Shared} {p : Addr} {xs : List V} (I : Inv X pins σ H s) (h : H p = some (.lst xs)) :
    ∃ (its : List Value) (n : Nat), Vals xs its ∧ s.heap.get? p = some { cls := .type "list", data := .seq its.toArray n } ∧ xs.length ≤ sizeLine := by
  obtain ⟨z, its, n, r, e⟩ := I.hok p _ h
  exact ⟨its, n, r, e, z⟩
theorem slice_bounds (lo hi : Option Int) (n : Nat) : (sliceBounds lo hi none n).1 = ((HT.sIx n 0 lo : Nat) : Int) ∧ (sliceBounds lo hi none n).2.1 = ((HT.sIx n n hi : Nat) : Int) ∧ (sliceBounds lo hi none n).2.2 = 1 := by
  refine ⟨?_, ?_, rfl⟩
  · cases lo with
    | none => simp [sliceBounds, HT.sIx]
    | some i =>
      simp only [sliceBounds, HT.sIx, Option.getD_none, show (1 : Int) > 0 by decide, if_true]
      by_cases h : i < 0
      · simp only [h, if_true] <;> omega
      · simp only [h, if_false] <;> omega
  · cases hi with
    | none => simp [sliceBounds, HT.sIx]
    | some i =>
      simp only [sliceBounds, HT.sIx, Option.getD_none, show (1 : Int) > 0 by decide, if_true]
      by_cases h : i < 0
      · simp only [h, if_true] <;> omega
      · simp only [h, if_false] <;> omega
theorem slicePick_cut (its : List Value) (lo hi : Option Int) : slicePick its.toArray lo hi none = ((its.drop (HT.sIx its.length 0 lo)).take (HT.sIx its.length its.length hi - HT.sIx its.length 0 lo)).toArray := by
  obtain ⟨h1, h2, h3⟩ := slice_bounds lo hi its.toArray.size
  unfold slicePick
  rw [h1, h2, h3]
  simp only [sliceRange_one, pick_run, List.size_toArray] <;> rfl
def rSlL (K : PySem.W.Frag) : V → Option Int → Option Int → Hp → VK → Prop := fun x lo hi H Q => ∃ a xs, x = .ref a ∧ SqL K H a xs ∧ ∀ p, H p = none → Q (.ref p) (upd H p (.lst (cutV xs lo hi)))
theorem sl_list : SlR X (rSlL X.K) := by
  intro pins s σ H x v vl vu lo hi sl Q I rx hs pl pu h
  obtain ⟨a, xs, rfl, hx, q⟩ := h
  cases rx
  obtain ⟨its, r, ht, hz⟩ := I.list hx
  have hlen := r.length
  refine ⟨"list", _, slot_list_getitem.lookup, ht.isList.typeIs, ?_⟩
  refine wpAny_getItem_list_slice ht.isList hs pl pu .none (by simp) ?_ (by rw [List.size_toArray] <;> omega)
  rw [slicePick_cut, ← hlen]
  refine ⟨.ref s.heap.objs.size, _, I.laid (t' := s.toks) (o := .lst (cutV xs lo hi)) (fun b ob q => Heap.get?_push_of_some _ q) (Nat.le_refl _) ?_, rfl, q _ (I.hok.fresh (Nat.le_refl _))⟩
  exact ⟨Nat.le_trans (cutV_length xs lo hi) hz, _, 0, (r.drop (HT.sIx xs.length 0 lo)).take (HT.sIx xs.length xs.length hi - HT.sIx xs.length 0 lo), Heap.get?_push_size _ rfl⟩
def flatV : V → Bool
  | .non => true
  | .bl _ => true
  | .int _ => true
  | .str _ => true
  | _ => false
def eqV : V → V → Bool
  | .non, .non => true
  | .bl a, .bl b => a == b
  | .bl a, .int b => (if a then 1 else 0) == b
  | .int a, .bl b => a == (if b then 1 else 0)
  | .int a, .int b => a == b
  | .str a, .str b => a == b
  | _, _ => false
def inV (x : V) (xs : List V) : Bool := xs.any fun y => eqV y x
def rIn (K : PySem.W.Frag) (neg : Bool) : R2 := fun x y H Q => ∃ p xs, y = .ref p ∧ (SqL K H p xs ∨ SqT K H p xs) ∧ flatV x = true ∧ xs.all flatV = true ∧ Q (.bl (if neg then !inV x xs else inV x xs)) H
theorem call_len_seq : CallR X (.builtin "len") (fun xs H Q => ∃ p ys, xs = [.ref p] ∧ (SqL X.K H p ys ∨ SqT X.K H p ys) ∧ Q (.int ys.length) H) := by
  intro pins s σ H xs us Q I r h
  obtain ⟨p, ys, rfl, hq, q⟩ := h
  obtain ⟨u, rfl, rx⟩ := vals1 r
  cases rx
  have hn := line63
  rcases hq with hq | hq
  · obtain ⟨its, r', pl, hz⟩ := I.list hq
    have hlen := r'.length
    exact Calls.call_len_list pl.isList (by simp only [List.size_toArray] <;> omega) ⟨.int ys.length, H, I.tok _, ⟨s.toks + 1, by rw [List.size_toArray, hlen]⟩, q⟩
  · obtain ⟨its, r', pl, hz⟩ := I.tuple hq
    have hlen := r'.length
    exact len_tuple pl (by simp only [List.size_toArray] <;> omega) ⟨.int ys.length, H, I.tok _, ⟨s.toks + 1, by rw [List.size_toArray, hlen]⟩, q⟩
theorem CallR.or {f : Value} {r r' : List V → Hp → VK → Prop} (h : CallR X f r) (h' : CallR X f r') : CallR X f (fun xs H Q => r xs H Q ∨ r' xs H Q) := by
  intro pins s σ H xs us Q I rs q
  rcases q with q | q
  · exact h pins s σ H xs us Q I rs q
  · exact h' pins s σ H xs us Q I rs q
theorem call_list_of : CallR X (.type "list") (fun xs H Q => ∃ p ys, xs = [.ref p] ∧ (SqL X.K H p ys ∨ SqT X.K H p ys) ∧ ∀ l, H l = none → Q (.ref l) (upd H l (.lst ys))) := by
  intro pins s σ H xs us Q I r h
  obtain ⟨p, ys, rfl, hq, q⟩ := h
  obtain ⟨u, rfl, rx⟩ := vals1 r
  cases rx
  have fin : ∀ (its : List Value), Vals ys its → ys.length ≤ sizeLine → ∀ (h' : Heap) (c' : Nat), (∀ b o', s.heap.get? b = some o' → h'.get? b = some o') →
      h'.get? s.heap.objs.size = some { cls := .type "list", dict := none, data := .seq its.toArray c', slots := #[] } → EP X pins σ Q (.ref s.heap.objs.size) { s with heap := h' } := fun its r' hz h' c' kp e =>
    ⟨.ref s.heap.objs.size, _, I.laid (t' := s.toks) kp (Nat.le_refl _) (show ObjOk X.prog X.w _ h' _ (.lst ys) from ⟨hz, its, c', r', e⟩), rfl, q _ (I.hok.fresh (Nat.le_refl _))⟩
  rcases hq with hq | hq
  · obtain ⟨its, r', pl, hz⟩ := I.list hq
    have hlen := r'.length
    obtain ⟨o, ho, hc, n, hd⟩ := pl.isList
    exact call_list_seq p (.inl rfl) ho hc hd (fun h' c' kp e => fin its r' hz h' c' kp e) (by simp only [List.size_toArray] <;> omega)
  · obtain ⟨its, r', pl, hz⟩ := I.tuple hq
    have hlen := r'.length
    obtain ⟨o, ho, hc, n, hd⟩ := pl
    exact call_list_seq p (.inr rfl) ho hc hd (fun h' c' kp e => fin its r' hz h' c' kp e) (by simp only [List.size_toArray] <;> omega)
theorem call_tuple_of : CallR X (.type "tuple") (fun xs H Q => ∃ p ys, xs = [.ref p] ∧ ((SqL X.K H p ys ∧ ∀ l, H l = none → Q (.ref l) (upd H l (.tup ys))) ∨ (SqT X.K H p ys ∧ Q (.ref p) H))) := by
  intro pins s σ H xs us Q I r h
  obtain ⟨p, ys, rfl, h⟩ := h
  obtain ⟨u, rfl, rx⟩ := vals1 r
  cases rx
  rcases h with ⟨hq, q⟩ | ⟨hq, q⟩
  · obtain ⟨its, r', pl, hz⟩ := I.list hq
    have hlen := r'.length
    refine call_tuple_list pl.isList (fun h' kp => ?_) (by simp only [List.size_toArray] <;> omega)
    have I1 : Inv X pins σ H { s with heap := h' } := I.kept (t' := s.toks) kp
    have I2 : Inv X pins σ (upd H h'.objs.size (.tup ys)) { s with heap := h'.push { cls := .type "tuple", data := .seq its.toArray } } :=
      I1.laid (t' := s.toks) (fun b o e => Heap.get?_push_of_some _ e) (Nat.le_refl _) (show ObjOk X.prog X.w _ _ _ (.tup ys) from ⟨hz, its, r', IsTD.new _ _⟩)
    exact ⟨.ref h'.objs.size, _, I2, rfl, q _ (I1.hok.fresh (Nat.le_refl _))⟩
  · obtain ⟨its, r', pl, hz⟩ := I.tuple hq
    exact call_tuple_same pl ⟨.ref p, H, I, rfl, q⟩
def tyV (K : PySem.W.Frag) (T : String) (x : V) (H : Hp) : Prop := match x with
  | .str _ => T = "str"
  | .int _ => T = "int"
  | .ref p => (T = "list" ∧ ∃ xs, SqL K H p xs) ∨ (T = "tuple" ∧ ∃ o, K.lookup p = some o ∧ o.cls = .type "tuple" ∧ o.dict = none) ∨
      (T = "dict" ∧ ((∃ kvs, H p = some (.dK kvs)) ∨ ∃ kvs, H p = some (.dT kvs))) ∨ (T = "set" ∧ ∃ S n, H p = some (.set S n))
  | _ => False
theorem tyV_is {pins : List (Addr × Obj)} {σ : St} {H : Hp} {s : Shared} {T : String} {x : V} {v : Value} (I : Inv X pins σ H s) (r : RelV x v) (ty : tyV X.K T x H) :
    s.TypeIs v T ∧ ∀ a, v = .ref a → ∃ ob, s.heap.get? a = some ob ∧ ob.dict = none := by
  cases x with
  | str z =>
    obtain ⟨t, rfl⟩ := r
    cases (show T = "str" from ty)
    exact ⟨typeIs_str s z t, fun _ e => nomatch e⟩
  | int i =>
    obtain ⟨t, rfl⟩ := r
    cases (show T = "int" from ty)
    exact ⟨typeIs_int s i t, fun _ e => nomatch e⟩
  | ref p =>
    cases r
    rcases ty with ⟨rfl, xs, hq⟩ | ⟨rfl, o, hk, hc, hd⟩ | ⟨rfl, hk⟩ | ⟨rfl, S, n, hk⟩
    · obtain ⟨its, _, pl, _⟩ := I.list hq
      refine ⟨pl.isList.typeIs, fun a e => ?_⟩
      cases e
      obtain ⟨o, n, e, c, hd, _⟩ := pl
      exact ⟨o, e, hd⟩
    · refine ⟨⟨o, I.kIn p o hk, hc⟩, fun a e => ?_⟩
      cases e
      exact ⟨o, I.kIn _ o hk, hd⟩
    · have z : ∃ o, s.heap.get? p = some o ∧ o.ExactDict := by
        rcases hk with ⟨kvs, hk⟩ | ⟨kvs, hk⟩
        · obtain ⟨_, _, _, _, o, _, _, e, ex, _⟩ := I.hok p _ hk
          exact ⟨o, e, ex⟩
        · obtain ⟨_, _, _, _, o, _, _, e, ex, _⟩ := I.hok p _ hk
          exact ⟨o, e, ex⟩
      obtain ⟨o, e, ex⟩ := z
      refine ⟨⟨o, e, ex.1⟩, fun a e2 => ?_⟩
      cases e2
      exact ⟨o, e, ex.2.1⟩
    · obtain ⟨o, _, _, _, e, ex, _⟩ := I.hok p _ hk
      refine ⟨⟨o, e, ex.1⟩, fun a e2 => ?_⟩
      cases e2
      exact ⟨o, e, ex.2.1⟩
  | _ => exact False.elim ty
def tBM (K : PySem.W.Frag) (T : String) (r : V → List V → Hp → VK → Prop) (to : TE) (t : TA) : TE := fun σ H Q => to σ H fun x H1 => tyV K T x H1 ∧ t σ H1 fun xs H2 => r x xs H2 Q
variable {o e : Expr} {es : List Expr} {to : TE} {t : TA} {name : Str} {apos cpos : Pos} {T id : String} {r : V → List V → Hp → VK → Prop}
theorem pe_bm (pa : PlainAttrs T) (slot : Slot T name id) (hty : typeOf (.builtin id) = pure (.type "method_descriptor")) (hm : MtR X id r) (ho : PE X o to) (ha : PA X (e :: es) t)
    (hbase : attributeBase o name X.env (eval o X.env) = eval o X.env := by rfl)
    (hfew : ((backTo cpos (starEach (e :: es) X.env)).all (fun x => !x.1) && (backToKw cpos (keywordEach [] X.env)).all (fun x => x.1.isSome)
      && decide ((e :: es).length + ([] : List Keyword).length + (if ([] : List Keyword).isEmpty then 0 else 1) < 30)) = true := by rfl)
    (hline : (apos.endLine == cpos.line) = true := by rfl) (hs : starEach (e :: es) X.env = (false, eval e X.env) :: starEach es X.env := by rfl) (hplain : (backTo cpos (starEach es X.env)).any (·.1) = false := by rfl) :
    PE X (.Call (.Attribute o name apos) (e :: es) [] cpos) (tBM X.K T r to t) := by
  intro pins s σ H Q I h
  refine wpAny_Call_method_late hbase hfew hline rfl (thn (ho pins s σ H _ I h) fun v s1 ⟨x, H1, I1, r1, ty, q1⟩ => ?_)
  obtain ⟨h1, h2⟩ := tyV_is I1 r1 ty
  refine ⟨T, id, pa, slot, hty, h1, h2, ?_⟩
  have hA := ha cpos pins s1 σ H1 _ I1 q1
  rw [hs] at hA ⊢
  refine Calls.callWith_builtin (by show (false || (backTo cpos (starEach es X.env)).any (·.1)) = false; rw [hplain] <;> rfl) (Calls.evalArgs_plain ?_)
  exact thn hA fun us s2 ⟨vs, H2, I2, r2, q2⟩ => hm pins s2 σ H2 x vs v us Q I2 r1 r2 q2
end
end L2
namespace L2
open PySem PySem.Spec PyProof.Rows
def MtM (X : Cx) (id : String) (r : V → List V → Hp → VK → Prop) : Prop :=
  ∀ (pins : List (Addr × Obj)) (s : Shared) (σ : St) (H : Hp) (x : V) (xs : List V) (v : Value) (us : List Value) (Q : VK), Inv X pins σ H s → RelV x v → Vals xs us → r x xs H Q →
    wpAny (model X.prog X.w) X.A (call (.builtin id) (v :: us)) (EP X pins σ Q) X.xe s
theorem Vals.one : ∀ {x : V} {us : List Value}, Vals [x] us → ∃ u, us = [u] ∧ RelV x u
  | _, _, .cons r .nil => ⟨_, rfl, r⟩
theorem Vals.two : ∀ {x y : V} {us : List Value}, Vals [x, y] us → ∃ u v, us = [u, v] ∧ RelV x u ∧ RelV y v
  | _, _, _, .cons r (.cons q .nil) => ⟨_, _, rfl, r, q⟩
theorem Vals.zero : ∀ {us : List Value}, Vals [] us → us = []
  | _, .nil => rfl
theorem Vals.dropLast {xs : List V} {us : List Value} (h : Vals xs us) : Vals xs.dropLast us.dropLast := by
  induction h with
  | nil => exact .nil
  | cons r t ih =>
    cases t with
    | nil => exact .nil
    | cons q t' => exact .cons r ih
theorem Vals.reverse {xs : List V} {us : List Value} (h : Vals xs us) : Vals xs.reverse us.reverse := by
  induction h with
  | nil => exact .nil
  | cons r t ih => rw [List.reverse_cons, List.reverse_cons]; exact Vals.append ih (.cons r .nil)
section
variable {X : Cx} {pins : List (Addr × Obj)} {σ : St} {H : Hp} {s : Shared} {l b : Addr} {xs ys zs : List V}
theorem Inv.lset {its its' : List Value} {n : Nat} {f : Array Value → Array Value} {t' : Nat} (I : Inv X pins σ H s) (hH : H l = some (.lst xs))
    (e : s.heap.get? l = some { cls := .type "list", data := .seq its.toArray n }) (hf : f its.toArray = its'.toArray) (hv : Vals ys its') (hz : ys.length ≤ sizeLine) :
    Inv X pins σ (upd H l (.lst ys)) { s with heap := s.heap.update l (Obj.mapSeq f), toks := t' } := by
  have q := PySem.IsL.update e f
  rw [hf] at q
  refine I.write (x := l) (e := l) (by rw [hH]; exact trivial) (.inl rfl) (fun b' u hb hu => (Heap.get?_update_other s.heap (Obj.mapSeq f) (Ne.symm hb)).trans hu) ⟨_, q⟩ ?_
  exact ⟨hz, its', _, hv, q⟩
theorem Inv.lnew {its : List Value} {t' : Nat} (I : Inv X pins σ H s) (hv : Vals ys its) (hz : ys.length ≤ sizeLine) :
    Inv X pins σ (upd H s.heap.objs.size (.lst ys)) { s with heap := s.heap.push { cls := .type "list", data := .seq its.toArray }, toks := t' } :=
  I.laid (fun _ _ q => Heap.get?_push_of_some _ q) (Nat.le_refl _) ⟨hz, its, 0, hv, Heap.get?_push_size _ rfl⟩
theorem Inv.fresh (I : Inv X pins σ H s) : H s.heap.objs.size = none := I.hok.fresh (Nat.le_refl _)
theorem Inv.lstM (I : Inv X pins σ H s) (hH : H l = some (.lst xs)) : xs.length ≤ sizeLine ∧ ∃ (its : List Value) (n : Nat), Vals xs its ∧ xs.length = its.length ∧ s.heap.get? l = some { cls := .type "list", data := .seq its.toArray n } := by
  obtain ⟨z, its, n, r, e⟩ := I.hok l _ hH
  exact ⟨z, its, n, r, r.length, e⟩
end
section
variable {X : Cx}
def rAppend : V → List V → Hp → VK → Prop := fun x vs H Q => ∃ l xs y, x = .ref l ∧ vs = [y] ∧ H l = some (.lst xs) ∧ xs.length < sizeLine ∧ Q .non (upd H l (.lst (xs ++ [y])))
theorem mt_append : MtM X "list.append" rAppend := by
  intro pins s σ H x vs v us Q I rx rv h
  obtain ⟨l, xs, y, rfl, rfl, hH, hz, q⟩ := h
  cases rx
  obtain ⟨u, rfl, ru⟩ := rv.one
  obtain ⟨z, its, n, r, hl, e⟩ := I.lstM hH
  refine call_meets F.slot_list_append ⟨_, e, rfl⟩ F.entry_list_append (F.args_list_append_2 _ _) (PySem.list_append l its.toArray n u (by rw [List.size_toArray]; omega)) ⟨e, ?_⟩
  refine ⟨.non, _, I.lset (its' := its ++ [u]) hH e (by simp) (r.append (.cons ru .nil)) ?_, rfl, q⟩
  rw [List.length_append, List.length_singleton]
  omega
def rCat : R2 := fun x y H Q => ∃ l b xs zs, x = .ref l ∧ y = .ref b ∧ H l = some (.lst xs) ∧ H b = some (.lst zs) ∧ xs.length + zs.length ≤ sizeLine ∧ ∀ p, H p = none → Q (.ref p) (upd H p (.lst (xs ++ zs)))
theorem op_cat : OpR X (binaryOp .Add) rCat := by
  intro pins s σ H x y v u Q I rx ry h
  obtain ⟨l, b, xs, zs, rfl, rfl, hH, hB, hz, q⟩ := h
  cases rx
  cases ry
  obtain ⟨z, its, n, r, hl, e⟩ := I.lstM hH
  obtain ⟨z2, its2, n2, r2, hl2, e2⟩ := I.lstM hB
  refine PySem.P.add_list e e2 ?_ (by rw [List.size_toArray, List.size_toArray]; omega)
  have ea : its.toArray ++ its2.toArray = (its ++ its2).toArray := by simp
  rw [ea]
  exact ⟨.ref _, _, I.lnew (t' := s.toks) (r.append r2) (by rw [List.length_append]; omega), rfl, q _ I.fresh⟩
end
section
variable {prog : Program} {w : World} {A : Around} {E : Value → Shared → Prop} {s : Shared}
end
section
variable {X : Cx}
end
end L2
namespace L2
open PySem PySem.Spec PyProof.Rows
theorem Vals.ints : ∀ {ns : List Int} {us : List Value}, Vals (ns.map V.int) us → IntsAre us ns
  | [], us, h => by
    rw [List.map_nil] at h
    cases h
    exact IntsAre.nil
  | n :: ns, us, h => by
    rw [List.map_cons] at h
    cases h with
    | cons r t =>
      obtain ⟨k, rfl⟩ := r
      exact IntsAre.cons n k (Vals.ints t)
theorem vals_of_ints : ∀ {us : List Value} {ns : List Int}, IntsAre us ns → Vals (ns.map V.int) us
  | _, _, .nil => by rw [List.map_nil]; exact Paired.nil
  | _, _, .cons n t h => by rw [List.map_cons]; exact Paired.cons (show RelV (V.int n) (Value.int n t) from ⟨t, rfl⟩) (vals_of_ints h)
theorem Vals.strs : ∀ {xs : List Str} {us : List Value}, Vals (xs.map V.str) us → StrsAre us xs
  | [], us, h => by
    rw [List.map_nil] at h
    cases h
    exact StrsAre.nil
  | x :: xs, us, h => by
    rw [List.map_cons] at h
    cases h with
    | cons r t =>
      obtain ⟨k, rfl⟩ := r
      exact StrsAre.cons x k (Vals.strs t)
theorem Vals.ref1 {a : Addr} {us : List Value} (r : Vals [V.ref a] us) : us = [Value.ref a] := by
  cases r with
  | cons r t =>
    cases t
    cases r
    rfl
section
variable {prog : Program} {w : World} {A : Around} {E : Value → Shared → Prop} {s : Shared} {l : Addr} {its : List Value} {ns : List Int} {Q : Value → Shared → Prop}
end
section
variable {X : Cx}
def rSorted (K : PySem.W.Frag) : List V → Hp → VK → Prop := fun vs H Q => ∃ (a : Addr) (ns : List Int), vs = [V.ref a] ∧ SqL K H a (ns.map V.int) ∧ ns.length < 64 ∧
  ∀ (ns' : List Int) (p : Addr), ns'.Perm ns → ns'.Pairwise (· ≤ ·) → H p = none → Q (.ref p) (upd H p (.lst (ns'.map V.int)))
theorem small64 {n : Nat} (h : n < 64) : n ≤ sizeLine := by rw [sizeLine_eq]; omega
theorem cr_sorted : CallR X (.builtin "sorted") (rSorted X.K) := by
  intro pins s σ H vs us Q I r h
  obtain ⟨a, ns, rfl, hs, h64, q⟩ := h
  obtain ⟨its, rv, hl, _⟩ := I.list hs
  rw [Vals.ref1 r]
  have hi := rv.ints
  refine PyProof.Rows.sorted_ints hl.isList hi (by rw [hi.length]; exact h64) fun out ns' h1 h2 h3 => ?_
  obtain ⟨ep, he'⟩ := PyProof.Rows.sortedAll_at s.heap its out
  have hlen : (ns'.map V.int).length ≤ sizeLine := by rw [List.length_map, h2.length_eq]; exact small64 h64
  exact ⟨.ref _, upd H (s.heap.objs.size + 1) (.lst (ns'.map V.int)), I.laid (t' := s.toks) (fun _ _ => PyProof.Rows.sortedAll_old) (Nat.le_succ _) ⟨hlen, out.toList, ep, vals_of_ints h1, he'⟩, rfl, q ns' _ h2 h3 (I.hok.fresh (Nat.le_succ _))⟩
end
section
variable {X : Cx}
end
section
variable {X : Cx}
end
section
variable {X : Cx}
end
mutual
inductive Dp (K : PySem.W.Frag) (H : Hp) : V → PyData → Prop
  | non : Dp K H .non .none
  | bl (b : Bool) : Dp K H (.bl b) (.bool b)
  | int (i : Int) : Dp K H (.int i) (.int i)
  | str (x : Str) : Dp K H (.str x) (.str x)
  | lst {a : Addr} {xs : List V} {ds : List PyData} : SqL K H a xs → DpAll K H xs ds → Dp K H (.ref a) (.list ds)
  | tup {a : Addr} {xs : List V} {ds : List PyData} : SqT K H a xs → DpAll K H xs ds → Dp K H (.ref a) (.tuple ds)
inductive DpAll (K : PySem.W.Frag) (H : Hp) : List V → List PyData → Prop
  | nil : DpAll K H [] []
  | cons {v : V} {vs : List V} {d : PyData} {ds : List PyData} : Dp K H v d → DpAll K H vs ds → DpAll K H (v :: vs) (d :: ds)
end
section
variable {X : Cx} {pins : List (Addr × Obj)} {σ : St} {H : Hp} {s : Shared}
mutual
theorem Dp.reads (I : Inv X pins σ H s) : ∀ (d : PyData) (v : V) (u : Value), Dp X.K H v d → RelV v u → ∃ as, Reads s.heap u d as
  | .none, _, _, h, r => by
    cases h
    cases r
    exact ⟨_, Reads.none⟩
  | .bool b, _, _, h, r => by
    cases h
    cases r
    exact ⟨_, Reads.bool b⟩
  | .int i, _, _, h, r => by
    cases h
    obtain ⟨t, rfl⟩ := r
    exact ⟨_, Reads.int i t⟩
  | .str x, _, _, h, r => by
    cases h
    obtain ⟨t, rfl⟩ := r
    exact ⟨_, Reads.str x t⟩
  | .list ds, _, _, h, r => by
    cases h with
    | lst hs ha =>
      cases r
      obtain ⟨its, rv, ⟨o, n, ho, hc, _, hd⟩, _⟩ := I.list hs
      obtain ⟨as, hr⟩ := Dp.readsAll I ds _ its ha rv
      exact ⟨_, Reads.list ho hc hd hr⟩
  | .tuple ds, _, _, h, r => by
    cases h with
    | tup hs ha =>
      cases r
      obtain ⟨its, rv, ⟨o, ho, hc, n, hd⟩, _⟩ := I.tuple hs
      obtain ⟨as, hr⟩ := Dp.readsAll I ds _ its ha rv
      exact ⟨_, Reads.tuple ho hc hd hr⟩
  | .dict _, _, _, h, _ => by cases h
theorem Dp.readsAll (I : Inv X pins σ H s) : ∀ (ds : List PyData) (vs : List V) (us : List Value), DpAll X.K H vs ds → Vals vs us → ∃ as, ReadsAll s.heap us ds as
  | [], _, _, h, r => by
    cases h
    cases r
    exact ⟨_, ReadsAll.nil⟩
  | d :: ds, _, _, h, r => by
    cases h with
    | cons h1 h2 =>
      cases r with
      | cons r1 r2 =>
        obtain ⟨as, q1⟩ := Dp.reads I d _ _ h1 r1
        obtain ⟨bs, q2⟩ := Dp.readsAll I ds _ _ h2 r2
        exact ⟨_, ReadsAll.cons q1 q2⟩
end
end
section
variable {X : Cx}
def rEqD (K : PySem.W.Frag) : R2 := fun x y H Q => ∃ d e, Dp K H x d ∧ Dp K H y e ∧ SeqAt.shaped d = true ∧ SeqAt.shaped e = true ∧ Q (.bl (PyData.eqv d e)) H
def rNeD (K : PySem.W.Frag) : R2 := fun x y H Q => ∃ d e, Dp K H x d ∧ Dp K H y e ∧ SeqAt.shaped d = true ∧ SeqAt.shaped e = true ∧ Q (.bl (!PyData.eqv d e)) H
theorem op_eqD (hu : X.A.units + 64 < cLine) : OpR X (compareOp .Eq) (rEqD X.K) := by
  intro pins s σ H x y v u Q I rx ry h
  obtain ⟨d, e, hd, he, sd, se, q⟩ := h
  obtain ⟨as, r1⟩ := Dp.reads I d x v hd rx
  obtain ⟨bs, r2⟩ := Dp.reads I e y u he ry
  exact SeqAt.compareEq_shaped r1 r2 sd se hu ⟨.bl _, H, I, rfl, q⟩
theorem op_neD (hu : X.A.units + 64 < cLine) : OpR X (compareOp .NotEq) (rNeD X.K) := by
  intro pins s σ H x y v u Q I rx ry h
  obtain ⟨d, e, hd, he, sd, se, q⟩ := h
  obtain ⟨as, r1⟩ := Dp.reads I d x v hd rx
  obtain ⟨bs, r2⟩ := Dp.reads I e y u he ry
  exact SeqAt.compareNe_shaped r1 r2 sd se hu ⟨.bl _, H, I, rfl, q⟩
end
end L2
namespace L2
open PySem PySem.Spec PyProof.Rows
abbrev CellAt (h : Heap) (c : Addr) (v : Option Value) : Prop := h.IsCell c v
def relS (scope sc : Scope) : Scope :=
  { scope with names := scope.names.map fun (n, k) => if (k == .free && sc.kind == .function && sc.names.lookup n == some .cell) then (n, .cell) else (n, k) }
def cloFrom (cells : List (Str × Addr)) : List (Str × NameKind) → List (Str × Addr) → List (Str × Addr)
  | [], acc => acc
  | (n, k) :: r, acc => if k == .free then cloFrom cells r ((n, (cells.lookup n).getD 0) :: acc) else cloFrom cells r acc
theorem closure_loop (env : Env) (f : Str × NameKind → List (Str × Addr) → Sem (ForInStep (List (Str × Addr))))
    (hf : ∀ n k c, f (n, k) c = if k == .free then (do let a ← cellOf env n; pure (.yield ((n, a) :: c))) else pure (.yield c)) :
    ∀ (names : List (Str × NameKind)) (acc : List (Str × Addr)), (∀ y ∈ names, y.2 = .free → ∃ c, env.cells.lookup y.1 = some c) → forIn names acc f = pure (cloFrom env.cells names acc)
  | [], acc, _ => by rw [List.forIn_nil]; rfl
  | (n, k) :: r, acc, h => by
    rw [List.forIn_cons, hf]
    have ih := fun acc => closure_loop env f hf r acc fun y hy => h y (List.mem_cons_of_mem _ hy)
    unfold cloFrom
    by_cases hk : (k == NameKind.free) = true
    · rw [if_pos hk, if_pos hk]
      obtain ⟨c, hc⟩ := h (n, k) List.mem_cons_self (by simpa using hk)
      have e : cellOf env n = pure c := by unfold cellOf; rw [hc]
      rw [e]
      have e2 : (env.cells.lookup n).getD 0 = c := by rw [hc]; rfl
      rw [e2]
      exact ih _
    · rw [if_neg hk, if_neg hk]
      exact ih _
theorem closure_ok {scope : Scope} {env : Env} (h : ∀ y ∈ scope.names, y.2 = .free → ∃ c, env.cells.lookup y.1 = some c) : closureFor scope env = pure (cloFrom env.cells scope.names []) := by
  simp only [closureFor]
  rw [closure_loop env _ (fun n k c => rfl) scope.names [] h]
  rfl
theorem mem_lookup {α : Type} : ∀ {l : List (Str × α)} {n : Str} {c : α}, (n, c) ∈ l → ∃ c', l.lookup n = some c'
  | (k, v) :: r, n, c, h => by
    rw [List.lookup_cons]
    cases hb : n == k with
    | true => exact ⟨_, rfl⟩
    | false =>
      rcases List.mem_cons.mp h with e | h
      · cases e; simp at hb
      · exact mem_lookup h
theorem cloFrom_mem {cells : List (Str × Addr)} : ∀ {names : List (Str × NameKind)} {acc : List (Str × Addr)} {n : Str} {c : Addr}, (n, c) ∈ cloFrom cells names acc → (n, c) ∈ acc ∨ ((n, .free) ∈ names ∧ c = (cells.lookup n).getD 0)
  | [], _, _, _, h => .inl h
  | (m, k) :: r, acc, n, c, h => by
    unfold cloFrom at h
    split at h
    · rename_i hk
      have hk : k = .free := by simpa using hk
      rcases cloFrom_mem h with h | ⟨h1, h2⟩
      · rcases List.mem_cons.mp h with e | h
        · cases e; exact .inr ⟨hk ▸ List.mem_cons_self, rfl⟩
        · exact .inl h
      · exact .inr ⟨List.mem_cons_of_mem _ h1, h2⟩
    · rcases cloFrom_mem h with h | ⟨h1, h2⟩
      · exact .inl h
      · exact .inr ⟨List.mem_cons_of_mem _ h1, h2⟩
theorem cloFrom_acc {cells : List (Str × Addr)} : ∀ {names : List (Str × NameKind)} {acc : List (Str × Addr)} {p : Str × Addr}, p ∈ acc → p ∈ cloFrom cells names acc
  | [], _, _, h => h
  | (m, k) :: r, acc, p, h => by
    unfold cloFrom
    split
    · exact cloFrom_acc (List.mem_cons_of_mem _ h)
    · exact cloFrom_acc h
theorem cloFrom_has {cells : List (Str × Addr)} : ∀ {names : List (Str × NameKind)} {acc : List (Str × Addr)} {n : Str}, (n, .free) ∈ names → (n, (cells.lookup n).getD 0) ∈ cloFrom cells names acc
  | (m, k) :: r, acc, n, h => by
    unfold cloFrom
    rcases List.mem_cons.mp h with e | h
    · cases e
      exact cloFrom_acc List.mem_cons_self
    · split
      · exact cloFrom_has h
      · exact cloFrom_has h
theorem cells_mem : ∀ {names : List (Str × NameKind)} {h : Heap} {acc : List (Str × Addr)} {x : Str} {c : Addr}, (x, c) ∈ cellsFrom h.objs.size names acc →
    (x, c) ∈ acc ∨ ((x, .cell) ∈ names ∧ h.objs.size ≤ c ∧ CellAt (pushCells h names) c none)
  | [], _, _, _, _, h => .inl h
  | (n, k) :: r, h, acc, x, c, hm => by
    unfold cellsFrom at hm
    unfold pushCells
    split at hm
    · rename_i hk
      rw [if_pos hk]
      have hk : k = .cell := by simpa using hk
      rw [← Heap.size_push h { cls := .type "cell", data := .cell none }] at hm
      rcases cells_mem hm with hm | ⟨h1, h2, h3⟩
      · rcases List.mem_cons.mp hm with e | hm
        · cases e
          exact .inr ⟨hk ▸ List.mem_cons_self, Nat.le_refl _, _, pushCells_keeps r _ _ _ (Heap.get?_push_size _ rfl), rfl⟩
        · exact .inl hm
      · rw [Heap.size_push] at h2
        exact .inr ⟨List.mem_cons_of_mem _ h1, Nat.le_of_succ_le h2, h3⟩
    · rename_i hk
      rw [if_neg hk]
      rcases cells_mem hm with hm | ⟨h1, h2, h3⟩
      · exact .inl hm
      · exact .inr ⟨List.mem_cons_of_mem _ h1, h2, h3⟩
theorem cells_acc : ∀ {names : List (Str × NameKind)} {n : Nat} {acc : List (Str × Addr)} {p : Str × Addr}, p ∈ acc → p ∈ cellsFrom n names acc
  | [], _, _, _, h => h
  | (m, k) :: r, n, acc, p, h => by
    unfold cellsFrom
    split
    · exact cells_acc (List.mem_cons_of_mem _ h)
    · exact cells_acc h
theorem cells_has : ∀ {names : List (Str × NameKind)} {n : Nat} {acc : List (Str × Addr)} {x : Str}, (x, .cell) ∈ names → ∃ c, (x, c) ∈ cellsFrom n names acc
  | (m, k) :: r, n, acc, x, h => by
    unfold cellsFrom
    rcases List.mem_cons.mp h with e | h
    · cases e
      exact ⟨n, cells_acc List.mem_cons_self⟩
    · split
      · exact cells_has h
      · exact cells_has h
theorem cells_inj : ∀ {names : List (Str × NameKind)} {h : Heap} {acc : List (Str × Addr)} {x y : Str} {c : Addr}, (∀ p ∈ acc, p.2 < h.objs.size) → (∀ x y c, (x, c) ∈ acc → (y, c) ∈ acc → x = y) →
    (x, c) ∈ cellsFrom h.objs.size names acc → (y, c) ∈ cellsFrom h.objs.size names acc → x = y
  | [], _, _, _, _, _, _, hi, h1, h2 => hi _ _ _ h1 h2
  | (n, k) :: r, h, acc, x, y, c, hl, hi, h1, h2 => by
    unfold cellsFrom at h1 h2
    split at h1
    · rename_i hk
      rw [if_pos hk] at h2
      rw [← Heap.size_push h { cls := .type "cell", data := .cell none }] at h1 h2
      refine cells_inj (h := h.push _) (fun p hp => ?_) (fun x y c a b => ?_) h1 h2
      · rw [Heap.size_push]
        rcases List.mem_cons.mp hp with rfl | hp
        · exact Nat.lt_succ_self _
        · exact Nat.lt_succ_of_lt (hl p hp)
      · rcases List.mem_cons.mp a with e | a <;> rcases List.mem_cons.mp b with e' | b
        · cases e; cases e'; rfl
        · cases e; exact absurd (hl _ b) (Nat.lt_irrefl _)
        · cases e'; exact absurd (hl _ a) (Nat.lt_irrefl _)
        · exact hi _ _ _ a b
    · rename_i hk
      rw [if_neg hk] at h2
      exact cells_inj hl hi h1 h2
theorem newEnv_comp {M : Model} {A : Around} {E : Value → Shared → Prop} {s : Shared} {scope : Scope} {globals : Addr} {closure : List (Str × Addr)} {qual : Str} {func : Option Addr} {code : Value} {around : Env} {builtins : Addr} {Q : Env → Shared → Prop}
    (h : Q (newEnv scope s.heap.objs.size globals (cellsFrom (s.heap.objs.size + 1) scope.names closure) qual func code (some around) builtins)
      { s with heap := pushCells (s.heap.push { cls := .type "dict", data := .dict #[] }) scope.names }) :
    wpAny M A (newFunctionEnv scope globals closure [] qual func code (some around) builtins) Q E s := by
  simp only [newFunctionEnv, Option.isSome_some, if_true]
  refine wpAny_bind (wpAny_alloc ?_)
  refine wpAny_bind (wpAny_layCells _ (fun n k c => rfl) scope.names closure _ _ ?_)
  rw [show ({ s with heap := s.heap.push { cls := .type "dict", data := .dict #[] } } : Shared).heap.objs.size = s.heap.objs.size + 1 from Heap.size_push ..]
  rw [List.forIn_nil]
  exact wpAny_bind (wpAny_pure (wpAny_pure h))
theorem lookup_relS {sc : Scope} : ∀ {names : List (Str × NameKind)} {x : Str} {k : NameKind},
    (names.map fun (n, k) => if (k == NameKind.free && sc.kind == .function && sc.names.lookup n == some .cell) then (n, NameKind.cell) else (n, k)).lookup x = some k →
    ∃ k', names.lookup x = some k' ∧ (k = k' ∨ (k' = .free ∧ k = .cell))
  | [], _, _, h => by simp at h
  | (n, k₀) :: r, x, k, h => by
    have ih := @lookup_relS sc r x k
    have h' : List.lookup x ((if (k₀ == NameKind.free && sc.kind == .function && sc.names.lookup n == some .cell) = true then (n, NameKind.cell) else (n, k₀)) :: (r.map _)) = some k := h
    cases hx : x == n with
    | true =>
      simp only [List.lookup_cons, hx]
      by_cases hc : (k₀ == NameKind.free && sc.kind == .function && sc.names.lookup n == some .cell) = true
      · rw [if_pos hc] at h'
        simp only [List.lookup_cons, hx] at h'
        cases h'
        simp only [Bool.and_eq_true, beq_iff_eq] at hc
        exact ⟨k₀, rfl, .inr ⟨hc.1.1, rfl⟩⟩
      · rw [if_neg hc] at h'
        simp only [List.lookup_cons, hx] at h'
        cases h'
        exact ⟨_, rfl, .inl rfl⟩
    | false =>
      simp only [List.lookup_cons, hx]
      by_cases hc : (k₀ == NameKind.free && sc.kind == .function && sc.names.lookup n == some .cell) = true
      · rw [if_pos hc] at h'
        simp only [List.lookup_cons, hx] at h'
        exact ih h'
      · rw [if_neg hc] at h'
        simp only [List.lookup_cons, hx] at h'
        exact ih h'
structure BlkOk (N : List Str) (sc scope : Scope) (own : List (Str × Nat)) : Prop where
  kind : scope.kind = .function
  uniq : ∀ y ∈ scope.names, scope.names.lookup y.1 = some y.2
  ix : ∀ p ∈ own, N[p.2]? = some p.1
  free : ∀ y ∈ scope.names, y.2 = .free → sc.names.lookup y.1 = some .cell ∨ sc.names.lookup y.1 = some .free
  own : ∀ y ∈ scope.names, y.2 = .local ∨ y.2 = .cell → y.1 ∈ own.map (·.1) ∨ y.1 ∉ N
def wipe (σ : St) : List Nat → St
  | [] => σ
  | v :: vs => (wipe σ vs).set v none
theorem wipe_length (σ : St) : ∀ vs : List Nat, (wipe σ vs).length = σ.length
  | [] => rfl
  | v :: vs => by unfold wipe; rw [List.length_set, wipe_length σ vs]
theorem wipe_some {σ : St} {i : Nat} {x : V} : ∀ {vs : List Nat}, (wipe σ vs)[i]? = some (some x) → σ[i]? = some (some x) ∧ i ∉ vs
  | [], h => ⟨h, by simp⟩
  | v :: vs, h => by
    unfold wipe at h
    by_cases hi : v = i
    · subst hi
      by_cases hv : v < (wipe σ vs).length
      · rw [List.getElem?_set_self hv] at h; cases h
      · rw [List.getElem?_eq_none (by simpa using hv)] at h; cases h
    · rw [List.getElem?_set_ne hi] at h
      obtain ⟨h1, h2⟩ := wipe_some h
      exact ⟨h1, by simp only [List.mem_cons, not_or]; exact ⟨fun e => hi e.symm, h2⟩⟩
abbrev Cx.blk (X : Cx) (s : Shared) (H : Hp) (scope : Scope) (cenv : Env) (fp : List Addr) : Cx := { X with s_0 := s, H_0 := H, env := cenv, outer := X.stack, ex := fp, fn := fun x => scope.names.lookup x == some .cell, pn := [], xe := fun _ _ => False }
section
variable {X : Cx} {pins : List (Addr × Obj)} {σ : St} {H : Hp} {s : Shared}
theorem block_start {scope : Scope} {own : List (Str × Nat)} {fp : List Addr} (I : Inv X pins σ H s) (ok : BlkOk X.N X.env.scope scope own) (hN : X.N.Nodup) (hfp : ∀ b ∈ fp, FpOk X pins H b ∧ b < s.heap.objs.size) :
    Inv (X.blk s H scope (compEnvC scope (cellsFrom (s.heap.objs.size + 1) scope.names (cloFrom X.env.cells scope.names [])) s.heap.objs.size X.env) fp) [] (wipe σ (own.map (·.2))) H { s with heap := pushCells (s.heap.push { cls := .type "dict", data := .dict #[] }) scope.names } := by
  have hfree : ∀ y ∈ scope.names, y.2 = .free → ∃ c, X.env.cells.lookup y.1 = some c := fun y hy e => by
    rcases ok.free y hy e with k | k
    · exact I.ok.has _ (.inl k)
    · exact I.ok.has _ (.inr k)
  generalize hcenv : compEnvC scope (cellsFrom (s.heap.objs.size + 1) scope.names (cloFrom X.env.cells scope.names [])) s.heap.objs.size X.env = cenv
  have kp : ∀ b o, s.heap.get? b = some o → (pushCells (s.heap.push { cls := .type "dict", data := .dict #[] }) scope.names).get? b = some o := fun b o e => pushCells_keeps _ _ _ _ (Heap.get?_push_of_some _ e)
  have hL : cenv.locals = s.heap.objs.size := by rw [← hcenv]; rfl
  have hcl : cenv.cells = cellsFrom (s.heap.objs.size + 1) scope.names (cloFrom X.env.cells scope.names []) := by rw [← hcenv]; rfl
  have hsc : cenv.scope = relS scope X.env.scope := by rw [← hcenv]; rfl
  rw [← Heap.size_push s.heap { cls := .type "dict", data := .dict #[] }] at hcl
  have cm : ∀ {y c}, (y, c) ∈ cloFrom X.env.cells scope.names [] → X.env.cells.lookup y = some c ∧ c < s.heap.objs.size := fun {y c} hm => by
    rcases cloFrom_mem hm with hm | ⟨h1, rfl⟩
    · cases hm
    · obtain ⟨c, hc⟩ := hfree _ h1 rfl
      rw [hc]
      obtain ⟨w, z⟩ := I.cell _ _ hc
      exact ⟨rfl, z.lt⟩
  have mem : ∀ {y c}, cenv.cells.lookup y = some c → (X.env.cells.lookup y = some c ∧ c < s.heap.objs.size) ∨ (s.heap.objs.size + 1 ≤ c ∧ CellAt (pushCells (s.heap.push { cls := .type "dict", data := .dict #[] }) scope.names) c none) := fun {y c} e => by
    rw [hcl] at e
    rcases cells_mem (PySem.mem_of_lookup e) with hm | ⟨_, h2, h3⟩
    · exact .inl (cm hm)
    · rw [Heap.size_push] at h2; exact .inr ⟨h2, h3⟩
  have look : ∀ {y}, scope.names.lookup y = some .free → ∃ c, cenv.cells.lookup y = some c ∧ X.env.cells.lookup y = some c := fun {y} hl => by
    have hy : (y, NameKind.free) ∈ scope.names := PySem.mem_of_lookup hl
    obtain ⟨c', e'⟩ := mem_lookup (cells_acc (names := scope.names) (n := (s.heap.push { cls := .type "dict", data := .dict #[] }).objs.size) (cloFrom_has (cells := X.env.cells) (acc := []) hy))
    rw [← hcl] at e'
    refine ⟨c', e', ?_⟩
    rw [hcl] at e'
    rcases cells_mem (PySem.mem_of_lookup e') with hm | ⟨h1, _, _⟩
    · exact (cm hm).1
    · have := ok.uniq _ h1
      rw [hl] at this; cases this
  have okB : (X.blk s H scope cenv fp).Ok := by
    refine ⟨I.ok.mod, by show cenv.scope.kind = _; rw [hsc]; exact ok.kind, by show cenv.globals = _; rw [← hcenv]; exact I.ok.glob, by show cenv.builtins = _; rw [← hcenv]; exact I.ok.blt, by show s.heap.objs.size ≤ cenv.locals; rw [hL]; exact Nat.le_refl _,
      fun y z c e1 e2 => ?_, fun y hy => ?_, fun y c z e => ?_, I.ok.hd, I.ok.frames, .inl rfl, fun b hb => ⟨?_, fun y c e z => ?_⟩, I.bs, Nat.le_trans I.ok.bsz I.sz, fun b o e hb => ?_, fun b hb z => ?_, I.stack, I.stkFree⟩
    · have e1 : cenv.cells.lookup y = some c := e1
      have e2 : cenv.cells.lookup z = some c := e2
      rw [hcl] at e1 e2
      refine cells_inj (fun p hp => ?_) (fun y z c a b => I.ok.inj y z c (cm a).1 (cm b).1) (PySem.mem_of_lookup e1) (PySem.mem_of_lookup e2)
      rw [Heap.size_push]
      exact Nat.lt_succ_of_lt (cm (y := p.1) (c := p.2) hp).2
    · show ∃ c, cenv.cells.lookup y = some c
      have key : ∀ k, cenv.kindOf y = some k → (k = .cell ∨ k = .free) → ∃ c, cenv.cells.lookup y = some c := fun k hk hk' => by
        unfold Env.kindOf at hk
        rw [hsc] at hk
        obtain ⟨k', e, r⟩ := lookup_relS hk
        have : k' = .cell ∨ k' = .free := by
          rcases r with rfl | ⟨rfl, _⟩
          · exact hk'
          · exact .inr rfl
        rcases this with rfl | rfl
        · obtain ⟨c, hm⟩ := cells_has (n := (s.heap.push { cls := .type "dict", data := .dict #[] }).objs.size) (acc := cloFrom X.env.cells scope.names []) (PySem.mem_of_lookup e)
          obtain ⟨c', e'⟩ := mem_lookup hm
          exact ⟨c', by rw [hcl]; exact e'⟩
        · obtain ⟨c, h1, _⟩ := look e
          exact ⟨c, h1⟩
      rcases hy with hy | hy
      · exact key _ hy (.inl rfl)
      · exact key _ hy (.inr rfl)
    · have z : (scope.names.lookup y == some NameKind.cell) = true := z
      have z : scope.names.lookup y = some .cell := by simpa using z
      have e : cenv.cells.lookup y = some c := e
      rw [hcl] at e
      rcases cells_mem (PySem.mem_of_lookup e) with hm | ⟨_, h2, _⟩
      · rcases cloFrom_mem hm with hm | ⟨h1, _⟩
        · cases hm
        · have q := ok.uniq _ h1
          rw [z] at q; cases q
      · rw [Heap.size_push] at h2
        exact Nat.le_of_succ_le h2
    · show b ≠ cenv.locals
      rw [hL]; exact Nat.ne_of_lt (hfp b hb).2
    · have e : cenv.cells.lookup y = some c := e
      rcases mem e with ⟨h1, _⟩ | ⟨h1, _⟩
      · exact (hfp b hb).1.2.2.2.2.1 y c h1 z
      · have h2 : s.heap.objs.size + 1 ≤ b := by rw [← z]; exact h1
        exact absurd (Nat.lt_of_lt_of_le (hfp b hb).2 (Nat.le_of_succ_le h2)) (Nat.lt_irrefl _)
    · rcases (hfp b hb).1.2.2.2.1 with z | z
      · exact I.ok.noex b o e z
      · exact absurd (Nat.lt_of_lt_of_le (Heap.lt_size e) (Nat.le_trans I.ok.bsz z)) (Nat.lt_irrefl _)
    · rcases List.mem_cons.mp (I.stkSub b z) with z | z
      · exact (hfp b hb).1.2.1 z
      · exact (hfp b hb).1.2.2.1 z
  refine ⟨okB, rfl, I.bare, Un.kept kp, ⟨fun _ => none, ?_, fun i y av e1 e2 e3 => ?_⟩, fun y c e => ?_, ?_, fun y c e => ?_, fun p hp => ?_, I.hok.kept kp, by rw [wipe_length]; exact I.len⟩
  · show Heap.Ns _ cenv.locals _
    rw [hL]
    exact Heap.Ns.keeps (Heap.Ns.new ..) fun b o e => pushCells_keeps _ _ _ _ e
  · obtain ⟨e2, hne⟩ := wipe_some e2
    have hfr : scope.names.lookup y = some .free ∧ (cenv.kindOf y = some .cell ∨ cenv.kindOf y = some .free) := by
      have key : ∀ k, cenv.scope.names.lookup y = some k → k = .local ∨ k = .cell ∨ k = .free → scope.names.lookup y = some .free ∧ (cenv.kindOf y = some .cell ∨ cenv.kindOf y = some .free) := fun k hk hk' => by
        have hk0 := hk
        rw [hsc] at hk
        obtain ⟨k', e, r⟩ := lookup_relS hk
        have no : ¬ (k' = .local ∨ k' = .cell) := fun hh => by
          rcases ok.own _ (PySem.mem_of_lookup e) hh with e' | e'
          · obtain ⟨p, hp, hpy⟩ := List.mem_map.mp e'
            have e3 := ok.ix p hp
            have : p.1 = y := hpy
            rw [this] at e3
            exact hne (List.mem_map.mpr ⟨p, hp, nodup_ix hN e3 e1⟩)
          · exact e' (List.mem_of_getElem? e1)
        rcases r with rfl | ⟨rfl, rfl⟩
        · rcases hk' with rfl | rfl | rfl
          · exact absurd (.inl rfl) no
          · exact absurd (.inr rfl) no
          · exact ⟨e, .inr hk0⟩
        · exact ⟨e, .inl hk0⟩
      have e3 : Vis cenv.scope y := e3
      rcases e3 with e3 | e3 | e3
      · exact key _ e3 (.inl rfl)
      · exact key _ e3 (.inr (.inl rfl))
      · exact key _ e3 (.inr (.inr rfl))
    obtain ⟨m, hn, hl⟩ := I.loc
    have hvis : Vis X.env.scope y := (ok.free _ (PySem.mem_of_lookup hfr.1) rfl).elim (fun k => .inr (.inl k)) (fun k => .inr (.inr k))
    obtain ⟨w, r, q⟩ := hl i y av e1 e2 hvis
    refine ⟨w, r, .inr ⟨hfr.2, ?_⟩⟩
    obtain ⟨c, h1, h2⟩ := look hfr.1
    rcases q with ⟨k, _⟩ | ⟨_, c', e', z⟩
    · have k : X.env.scope.names.lookup y = some .local := k
      rcases ok.free _ (PySem.mem_of_lookup hfr.1) rfl with k' | k' <;> rw [show X.env.scope.names.lookup y = _ from k'] at k <;> cases k
    · rw [h2] at e'; cases e'
      exact ⟨c, h1, z.keeps kp⟩
  · have e : cenv.cells.lookup y = some c := e
    rcases mem e with ⟨h1, _⟩ | ⟨_, z⟩
    · obtain ⟨w, z⟩ := I.cell y c h1
      exact ⟨w, z.keeps kp⟩
    · exact ⟨_, z⟩
  · show H cenv.locals = none
    rw [hL]; exact I.hok.fresh (Nat.le_refl _)
  · have e : cenv.cells.lookup y = some c := e
    rcases mem e with ⟨h1, _⟩ | ⟨h1, _⟩
    · exact I.freeC y c h1
    · exact I.hok.fresh (Nat.le_of_succ_le h1)
  · exact absurd (show p ∈ ([] : List (Addr × Obj)) ++ [] from hp) (by simp)
theorem app_ok {E : Value → Shared → Prop} {D : Addr} {xs : List V} {y : V} {v : Value} {Q : Value → Shared → Prop} (I : Inv X pins σ H s) (hD : H D = some (.lst xs)) (hz : xs.length < sizeLine) (r : RelV y v)
    (h : ∀ s', Inv X pins σ (upd H D (.lst (xs ++ [y]))) s' → Q .none s') : wpAny (model X.prog X.w) X.A (call (.builtin "list.append") [.ref D, v]) Q E s := by
  obtain ⟨hz', its, n, ri, e⟩ := I.hok D _ hD
  have hl := ri.length
  refine append_at (hsz := by rw [List.size_toArray]; omega) e fun h' sb ho' => ?_
  refine h { s with heap := h' } (I.write (t' := s.toks) (by rw [hD]; trivial) (.inl rfl) (fun b u hb q => (sb.2 b hb).trans q) ⟨_, ho'⟩ ⟨by rw [List.length_append]; exact hz, its ++ [v], n + 1, ri.append (.cons r .nil), ?_⟩)
  rw [ho']
  simp
def PTs (X : Cx) (ifs : List Expr) (t : TT) : Prop :=
  ∀ (pins : List (Addr × Obj)) (s : Shared) (σ : St) (H : Hp) (Q : Bool → Hp → Prop), Inv X pins σ H s → t σ H Q →
    wpAny (model X.prog X.w) X.A (forIn ifs true fun c r => if r = true then do let ok ← isTrue c X.env (eval c X.env); pure (ForInStep.yield ok) else pure (ForInStep.yield r)) (TP X pins σ Q) X.xe s
def tYes : TT := fun _ H Q => Q true H
theorem pts_nil : PTs X [] tYes := fun _ _ _ H _ I h => wpAny_tests_nil ⟨H, I, h⟩
theorem pts_one {c : Expr} {t : TT} (h : PT X c t) : PTs X [c] t := fun pins s σ H Q I hw => wpAny_tests_one (h pins s σ H Q I hw)
end
theorem thnF {α : Type} {t : Sem α} {Q Q' : α → Shared → Prop} {M : Model} {A : Around} {E : Value → Shared → Prop} {s : Shared} (h : wpAny M A t Q (fun _ _ => False) s) (hQ : ∀ a s, Q a s → Q' a s) : wpAny M A t Q' E s := wpAny_mono h hQ fun _ _ z => False.elim z
theorem compLoop_any {prog : Program} {w : World} {A : Around} {R : Result → Shared → Prop} {s : Shared} {elt target iter : Expr} {ifs : List Expr} {scope : Scope} {pos : Pos} {it acc : Value} {env : Env} (I : Nat → Shared → Prop)
    (turn : ∀ n s, I n s → wpAny (model prog w) A (pyNext it) (fun r s₁ => match r with
      | none => R (.ok .next) s₁
      | some v => wpAny (model prog w) A (letOwnedTupleGo target it v) (fun _ s₁' => wpAny (model prog w) A (assign target env v) (fun _ s₂ =>
          wpAny (model prog w) A (forIn ifs true fun c r => if r = true then do let ok ← isTrue c env (eval c env); pure (ForInStep.yield ok) else pure (ForInStep.yield r)) (fun ok s₃ =>
            if ok = true then wpAny (model prog w) A (eval elt env) (fun x s₄ =>
              wpAny (model prog w) A (call (.builtin "list.append") [acc, x]) (fun _ s₅ => ∃ m, m < n ∧ I m s₅) (notedBy (model prog w) A env fun e s' => R (.error e) s') s₄) (notedBy (model prog w) A env fun e s' => R (.error e) s') s₃
            else ∃ m, m < n ∧ I m s₃) (notedBy (model prog w) A env fun e s' => R (.error e) s') s₂) (notedBy (model prog w) A env fun e s' => R (.error e) s') s₁') (notedBy (model prog w) A env fun e s' => R (.error e) s') s₁) (notedBy (model prog w) A env fun e s' => R (.error e) s') s)
    (n : Nat) (h : I n s) :
    codeAny (model prog w) A (.compLoop (.ListComp elt [⟨target, iter, ifs, 0⟩] scope pos) 0 it acc env) R s := by
  refine codeAny_loop rfl I (fun n s hI => ?_) n h
  show wpAny _ A ((compTurn (.ListComp elt [⟨target, iter, ifs, 0⟩] scope pos) 0 it acc env).onRaise (fun x => do noteFrame x env; theTreesLotGoes x)) _ _ s
  refine wpAny_noted ?_
  rw [compTurn_list]
  refine wpAny_bind (wpAny_standAt (wpAny_bind (wpAny_mono (turn n s hI) (fun r s₁ h₁ => ?_) fun _ _ h' => h')))
  cases r with
  | none => exact wpAny_pure h₁
  | some v =>
    refine wpAny_bind (wpAny_mono h₁ (fun _ s₁' h₁' => ?_) fun _ _ h' => h')
    refine wpAny_bind (wpAny_mono h₁' (fun _ s₂ h₂ => wpAny_bind (wpAny_mono h₂ (fun ok s₃ h₃ => ?_) fun _ _ h' => h')) fun _ _ h' => h')
    cases ok with
    | false => exact wpAny_pure ⟨rfl, h₃⟩
    | true =>
      exact wpAny_bind (wpAny_bind (wpAny_mono h₃ (fun x s₄ h₄ => wpAny_bind (wpAny_mono h₄ (fun _ s₅ h₅ => wpAny_pure (wpAny_pure ⟨rfl, h₅⟩)) fun _ _ h' => h')) fun _ _ h' => h'))
section
variable {X : Cx}
def tLc (wi : TI) (g : TG) (tt : TT) (te : TE) (vs : List Nat) : TE := fun σ H Q => wi σ H fun J H1 => ∀ D, H1 D = none → ∃ W : Nat → Nat → Hp → Prop, (∃ m, W 0 m (upd H1 D (.lst []))) ∧ ∀ i m H, W i m H →
  (J.stop i H ∧ Q (.ref D) H) ∨ (J.go i H ∧ ∃ Nx : Hp → Prop, (∀ H', Nx H' → ∃ m', m' < m ∧ W (i + 1) m' H') ∧ ∀ x H', J.yld i H x H' → g x (wipe σ vs) H' fun σ2 H2 => wipe σ2 vs = wipe σ vs ∧ tt σ2 H2 fun b H3 =>
    if b = true then te σ2 H3 fun y H4 => ∃ acc, H4 D = some (.lst acc) ∧ acc.length < sizeLine ∧ Nx (upd H4 D (.lst (acc ++ [y]))) else Nx H3)
theorem lc_core {pins : List (Addr × Obj)} {s : Shared} {σ : St} {H : Hp} {Q : VK} {elt tg iter : Expr} {ifs : List Expr} {scope : Scope} {own : List (Str × Nat)} {pos pos' : Pos} {wi : TI} {g : TG} {tt : TT} {te : TE} {use : Option (Value → Sem Unit)} {Qf : Value → Shared → Prop}
    (hc : X.calm = true) (hN : X.N.Nodup) (I : Inv X pins σ H s) (hi : PI X tg iter wi) (ok : BlkOk X.N X.env.scope scope own)
    (hg : ∀ (s : Shared) (H : Hp) (C : Addr) (cl : List (Str × Addr)) (fp : List Addr), PG (X.blk s H scope (compEnvC scope cl C X.env) fp) tg g) (ht : ∀ (s : Shared) (H : Hp) (C : Addr) (cl : List (Str × Addr)) (fp : List Addr), PTs (X.blk s H scope (compEnvC scope cl C X.env) fp) ifs tt)
    (he : ∀ (s : Shared) (H : Hp) (C : Addr) (cl : List (Str × Addr)) (fp : List Addr), PE (X.blk s H scope (compEnvC scope cl C X.env) fp) elt te) (hs : ∀ x, foldedSetIterable iter X.env x = pure x)
    (h : tLc wi g tt te (own.map (·.2)) σ H Q)
    (hRR : ∀ D C s' m H', Inv X pins σ H' s' → Q (.ref D) H' → s'.heap.Ns C m → FpOk X pins H' C → compPost (model X.prog X.w) X.A X.xe use Qf (.ref D) C (.ok .next) s') :
    wpAny (model X.prog X.w) X.A (comprehension (.ListComp elt [⟨tg, iter, ifs, 0⟩] scope pos) scope X.env pos' (newList []) false (eval iter X.env) use) Qf X.xe s := by
  have hfree : ∀ y ∈ scope.names, y.2 = .free → ∃ c, X.env.cells.lookup y.1 = some c := fun y hy e => by
    rcases ok.free y hy e with k | k
    · exact I.ok.has _ (.inl k)
    · exact I.ok.has _ (.inr k)
  refine wpAny_comprehension_free (use := use) rfl hs (closure_ok hfree) ok.kind (fun y hy e => by rw [ok.uniq y hy, e])
    (thn (hi pins s σ H _ I h) fun xv s1 hx => thn hx fun itv s2 h2 => ?_)
  obtain ⟨it, fp, tn, J, H2, e, I2, T, st2, f2, q⟩ := h2
  subst e
  refine wpAny_newObj_type (newEnv_comp ?_) (by show 0 ≤ sizeLine; decide)
  generalize hD : s2.heap.objs.size = D
  have hDn : H2 D = none := I2.hok.fresh (Nat.le_of_eq hD)
  obtain ⟨W, ⟨m0, w0⟩, turn⟩ := q D hDn
  -- the new list
  generalize hs3 : ({ s2 with heap := s2.heap.push { cls := .type "list", data := .seq ([] : List Value).toArray } } : Shared) = s3
  have I3 : Inv X pins σ (upd H2 D (.lst [])) s3 := by
    rw [← hs3]
    refine I2.laid (t' := s2.toks) (fun b o e => Heap.get?_push_of_some _ e) (Nat.le_of_eq hD) ⟨Nat.zero_le _, [], 0, .nil, ?_⟩
    rw [← hD]
    exact Heap.get?_push_size _ rfl
  have h3 : s3.heap = s2.heap.push { cls := .type "list", data := .seq ([] : List Value).toArray } := by rw [← hs3]
  have sz : ∀ b ∈ fp, b < s2.heap.objs.size := fun b hb => by
    obtain ⟨o, e, _⟩ := T.obj _ _ st2 b hb
    exact Heap.lt_size e
  have f3 : ∀ b ∈ fp, FpOk X pins (upd H2 D (.lst [])) b ∧ b < s3.heap.objs.size := fun b hb => by
    have hlt := sz b hb
    refine ⟨⟨?_, (f2 b hb).2⟩, by rw [h3, Heap.size_push]; exact Nat.lt_succ_of_lt hlt⟩
    rw [upd_ne (by rw [← hD]; exact Nat.ne_of_lt hlt)]
    exact (f2 b hb).1
  have st3 : tn 0 s3.heap := T.keep _ _ _ st2 fun b _ o e => by rw [h3]; exact Heap.get?_push_of_some _ e
  have I4 := block_start I3 ok hN f3
  have pg := hg s3 (upd H2 D (.lst [])) s3.heap.objs.size (cellsFrom (s3.heap.objs.size + 1) scope.names (cloFrom X.env.cells scope.names [])) fp
  have pt := ht s3 (upd H2 D (.lst [])) s3.heap.objs.size (cellsFrom (s3.heap.objs.size + 1) scope.names (cloFrom X.env.cells scope.names [])) fp
  have pe := he s3 (upd H2 D (.lst [])) s3.heap.objs.size (cellsFrom (s3.heap.objs.size + 1) scope.names (cloFrom X.env.cells scope.names [])) fp
  show codeAny _ _ (.compStart (.ListComp elt [⟨tg, iter, ifs, 0⟩] scope pos) 0 (.ref it) (.ref D) (compEnvC scope (cellsFrom (s3.heap.objs.size + 1) scope.names (cloFrom X.env.cells scope.names [])) s3.heap.objs.size X.env)) (compPost (model X.prog X.w) X.A X.xe use Qf (.ref D) s3.heap.objs.size) { s3 with heap := pushCells (s3.heap.push { cls := .type "dict", data := .dict #[] }) scope.names }
  have nfp : ∀ b ∈ fp, (upd H2 D (.lst [])) b = none := fun b hb => (f3 b hb).1.1
  generalize hce : compEnvC scope (cellsFrom (s3.heap.objs.size + 1) scope.names (cloFrom X.env.cells scope.names [])) s3.heap.objs.size X.env = ce at I4 pg pt pe ⊢
  have cL : ce.locals = s3.heap.objs.size := by subst hce; rfl
  generalize hH3 : upd H2 D (.lst []) = H3 at I3 I4 pg pt pe w0 nfp f3
  generalize hs4 : ({ s3 with heap := pushCells (s3.heap.push { cls := .type "dict", data := .dict #[] }) scope.names } : Shared) = s4 at I4 ⊢
  have st4 : tn 0 s4.heap := T.keep _ _ _ st3 fun b _ o e => by rw [← hs4]; exact pushCells_keeps _ _ _ _ (Heap.get?_push_of_some _ e)
  have stat : ∀ {σ' : St} {H' : Hp} {s' : Shared}, Inv (X.blk s3 H3 scope ce fp) [] σ' H' s' → (∀ b ∈ fp, H' b = none) → ∀ b ∈ fp, FpOk (X.blk s3 H3 scope ce fp) [] H' b := fun {σ' H' s'} I' hn b hb =>
    ⟨hn b hb, (I'.ok.exf b hb).1, I'.ok.exfs b hb, .inl hb, fun x c e => (I'.ok.exf b hb).2 x c e, fun p hp => absurd (show p ∈ ([] : List (Addr × Obj)) ++ [] from hp) (by simp)⟩
  have loop : codeAny (model X.prog X.w) X.A (.compLoop (.ListComp elt [⟨tg, iter, ifs, 0⟩] scope pos) 0 (.ref it) (.ref D) ce) (compPost (model X.prog X.w) X.A X.xe use Qf (.ref D) s3.heap.objs.size) s4 := by
    refine compLoop_any (fun n s' => ∃ i H', Inv (X.blk s3 H3 scope ce fp) [] (wipe σ (own.map (·.2))) H' s' ∧ tn i s'.heap ∧ (∀ b ∈ fp, H' b = none) ∧ W i n H') ?_ m0 ⟨0, H3, I4, st4, nfp, w0⟩
    rintro n s5 ⟨i, H5, I5, st5, n5, w5⟩
    rcases turn i n H5 w5 with ⟨stop, qq⟩ | ⟨go, Nx, hNx, step⟩
    · have td := T.done (X.blk s3 H3 scope ce fp) rfl rfl rfl hc i [] s5 _ H5 (fun _ _ => False) I5 (stat I5 n5) st5 stop
      refine thnF td fun r s6 ⟨hr, I6⟩ => ?_
      subst hr
      -- back in the def's context
      have I7 : Inv X pins σ H5 s6 := I3.call' (ch := fp) I6.os I6.base I6.hok I6.bare fun b hb => ⟨(f3 b hb).1.2.2.2.1, (f3 b hb).1.2.1, (f3 b hb).1.2.2.2.2.1, (f3 b hb).1.2.2.2.2.2⟩
      have nC : H5 s3.heap.objs.size = none := by
        have z : H5 ce.locals = none := I6.free
        rw [cL] at z
        exact z
      obtain ⟨m, hn, _⟩ := I6.loc
      have hn : s6.heap.Ns ce.locals m := hn
      rw [cL] at hn
      exact hRR D s3.heap.objs.size s6 m H5 I7 qq hn (I3.fpOk (Nat.le_refl _) nC)
    · have ti := T.item (X.blk s3 H3 scope ce fp) rfl rfl rfl hc i [] s5 _ H5 (fun _ _ => False) I5 (stat I5 n5) st5 go
      refine thnF ti fun r s6 ⟨u, hr, h6⟩ => ?_
      subst hr
      refine thnF h6 fun _ s7 ⟨x, H7, I7, r7, y7, st7, n7⟩ => ?_
      have I7' := I7.pinned (stat I7 n7) (T.obj _ _ st7)
      refine thnF (pg _ s7 _ H7 x u _ I7' r7 (step x H7 y7)) fun _ s8 ⟨σ8, H8, I8, hw8, q8⟩ => ?_
      refine thnF (pt _ s8 σ8 H8 _ I8 q8) fun b s9 ⟨H9, I9, q9⟩ => ?_
      -- the turn's end
      have fin : ∀ {s' : Shared} {H' : Hp}, Inv (X.blk s3 H3 scope ce fp) ([] ++ pinsAt fp s7.heap) σ8 H' s' → Nx H' → ∃ m, m < n ∧ ∃ i H', Inv (X.blk s3 H3 scope ce fp) [] (wipe σ (own.map (·.2))) H' s' ∧ tn i s'.heap ∧ (∀ b ∈ fp, H' b = none) ∧ W i m H' := fun {s' H'} I' nx => by
        obtain ⟨m', hm, w'⟩ := hNx H' nx
        have pin' : ∀ b ∈ fp, ∀ o, s7.heap.get? b = some o → s'.heap.get? b = some o ∧ H' b = none := fun b hb o e =>
          let z := I'.pin (b, o) (List.mem_append_right _ (List.mem_append_right _ (mem_pinsAt hb e)))
          ⟨z.1, z.2.1⟩
        have hl : (wipe σ (own.map (·.2))).length = σ8.length := by rw [← hw8, wipe_length]
        refine ⟨m', hm, i + 1, H', (I'.unpinned (pins := [])).weak hl (fun j v e => ?_), T.keep _ _ _ st7 fun b hb o e => (pin' b hb o e).1, fun b hb => ?_, w'⟩
        · rw [← hw8] at e
          exact (wipe_some e).1
        · obtain ⟨o, e, _⟩ := T.obj _ _ st7 b hb
          exact (pin' b hb o e).2
      cases b with
      | false =>
        simp only [Bool.false_eq_true, if_false] at q9 ⊢
        exact fin I9 q9
      | true =>
        simp only [if_true] at q9 ⊢
        refine thnF (pe _ s9 σ8 H9 _ I9 q9) fun z s10 ⟨yv, H10, I10, r10, acc, hD10, hz10, nx⟩ => ?_
        exact app_ok (X := X.blk s3 H3 scope ce fp) I10 hD10 hz10 r10 fun s11 I11 => fin I11 nx
  exact codeAny_compStart_list loop (T.self X.A 0 _ _ _ st4 loop)
theorem pe_lc {elt tg iter : Expr} {ifs : List Expr} {scope : Scope} {own : List (Str × Nat)} {pos : Pos} {wi : TI} {g : TG} {tt : TT} {te : TE} (hc : X.calm = true) (hN : X.N.Nodup) (hi : PI X tg iter wi) (ok : BlkOk X.N X.env.scope scope own)
    (hg : ∀ (s : Shared) (H : Hp) (C : Addr) (cl : List (Str × Addr)) (fp : List Addr), PG (X.blk s H scope (compEnvC scope cl C X.env) fp) tg g) (ht : ∀ (s : Shared) (H : Hp) (C : Addr) (cl : List (Str × Addr)) (fp : List Addr), PTs (X.blk s H scope (compEnvC scope cl C X.env) fp) ifs tt)
    (he : ∀ (s : Shared) (H : Hp) (C : Addr) (cl : List (Str × Addr)) (fp : List Addr), PE (X.blk s H scope (compEnvC scope cl C X.env) fp) elt te) (hs : ∀ x, foldedSetIterable iter X.env x = pure x := by intro _; rfl) :
    PE X (.ListComp elt [⟨tg, iter, ifs, 0⟩] scope pos) (tLc wi g tt te (own.map (·.2))) := by
  intro pins s σ H Q I h
  rw [eval_ListComp]
  refine lc_core hc hN I hi ok hg ht he hs h fun D C s' m H' I' q hn f => ⟨m, hn, fun h'' sb => ?_⟩
  obtain ⟨f0, f1, f2, f3, f4, f5⟩ := f
  exact ⟨.ref D, H', I'.turned (t' := s'.toks) (fun b o hb e => (sb.2 b hb).trans e) f0 f1 f3 f4 f5, rfl, q⟩
theorem ps_setLc {i : Nat} {y : Str} {py : Pos} {elt tg iter : Expr} {ifs : List Expr} {scope : Scope} {own : List (Str × Nat)} {pos spos : Pos} {wi : TI} {g : TG} {tt : TT} {te : TE} (hc : X.calm = true) (hN : X.N.Nodup) (hy : X.N[i]? = some y) (hyl : X.env.scope.names.lookup y = some .local)
    (hsw : swapsWith (.ListComp elt [⟨tg, iter, ifs, 0⟩] scope pos) (some (.Name y py)) spos.line X.env = pure true) (hi : PI X tg iter wi) (ok : BlkOk X.N X.env.scope scope own)
    (hg : ∀ (s : Shared) (H : Hp) (C : Addr) (cl : List (Str × Addr)) (fp : List Addr), PG (X.blk s H scope (compEnvC scope cl C X.env) fp) tg g) (ht : ∀ (s : Shared) (H : Hp) (C : Addr) (cl : List (Str × Addr)) (fp : List Addr), PTs (X.blk s H scope (compEnvC scope cl C X.env) fp) ifs tt)
    (he : ∀ (s : Shared) (H : Hp) (C : Addr) (cl : List (Str × Addr)) (fp : List Addr), PE (X.blk s H scope (compEnvC scope cl C X.env) fp) elt te) (hs : ∀ x, foldedSetIterable iter X.env x = pure x := by intro _; rfl) :
    PS X (.Assign [.Name y py] (.ListComp elt [⟨tg, iter, ifs, 0⟩] scope pos) spos) (tAsg (tLc wi g tt te (own.map (·.2))) (gName i)) := by
  intro pins s σ H D I h
  rw [exec_Assign_Name_used _ _ _ _ hsw]
  refine wpAny_bind (wpAny_standAt (wpAny_bind ?_))
  show wpAny _ X.A (do let _ ← comprehension (.ListComp elt [⟨tg, iter, ifs, 0⟩] scope pos) scope X.env (firstIterPos [⟨tg, iter, ifs, 0⟩] pos) (newList []) false (eval iter X.env) (some (assign (.Name y py) X.env))) _ _ s
  have h : tLc wi g tt te (own.map (·.2)) σ H (fun x H1 => gName i x σ H1 D.nx) := h
  refine wpAny_bind (thn (lc_core (Qf := fun _ s' => SP X pins D .next s') hc hN I hi ok hg ht he hs h fun L C s' m H' I' q hn f => ?_) fun _ s' hq => wpAny_pure (wpAny_pure hq))
  show wpAny _ _ (assign (.Name y py) X.env (.ref L)) _ _ _
  refine wpAny_assign_Name (store_ok2 (v := V.ref L) I' hN hy (.inl hyl) rfl (fun s2 I2 ⟨a, sb, ha⟩ => ?_) (.inr hyl))
  obtain ⟨f0, f1, f2, f3, f4, f5⟩ := f
  have haC : C ≠ a := by
    rcases ha with z | z
    · rw [z]; exact f1
    · exact fun e => f4 y a z e.symm
  refine ⟨m, hn.sameBut sb haC, fun h3 sb3 => ?_⟩
  exact ⟨_, H', I2.turned (t' := s2.toks) (fun b o hb e => (sb3.2 b hb).trans e) f0 f1 f3 f4 f5, q⟩
end
end L2
namespace L2
open PySem PySem.Spec PyProof.Rows
section
variable {prog : Program} {w : World} {A : Around} {R : Result → Shared → Prop} {s : Shared} {elt t0 i0 t1 i1 : Expr} {ifs0 ifs1 : List Expr} {scope : Scope} {pos : Pos} {it acc : Value} {env : Env}
end
theorem wipe_out {σ : St} {i : Nat} : ∀ {vs : List Nat}, i ∉ vs → (wipe σ vs)[i]? = σ[i]?
  | [], _ => rfl
  | v :: vs, h => by
    have h1 : v ≠ i := fun e => h (by rw [e]; exact List.mem_cons_self)
    have h2 : i ∉ vs := fun m => h (List.mem_cons_of_mem _ m)
    unfold wipe
    rw [List.getElem?_set_ne h1]
    exact wipe_out h2
section
variable {X : Cx}
end
end L2
namespace L2
open PySem PySem.Spec PyProof.Rows
section
variable {κ : Type} [DecidableEq κ]
def valV (kvs : List (κ × V)) (k : κ) : Option V := (kvs.find? fun kv => decide (kv.1 = k)).map (·.2)
def putK (kvs : List (κ × V)) (k : κ) (v : V) : List (κ × V) :=
  if (kvs.any fun kv => decide (kv.1 = k)) = true then kvs.map (fun kv => if kv.1 = k then (kv.1, v) else kv) else kvs ++ [(k, v)]
def dropK (kvs : List (κ × V)) (k : κ) : List (κ × V) := kvs.filter fun kv => decide (kv.1 ≠ k)
theorem valV_pos {p : κ × V} {r : List (κ × V)} {k : κ} (e : p.1 = k) : valV (p :: r) k = some p.2 := by simp [valV, List.find?_cons, e]
theorem valV_neg {p : κ × V} {r : List (κ × V)} {k : κ} (e : ¬ p.1 = k) : valV (p :: r) k = valV r k := by simp [valV, List.find?_cons, e]
theorem valV_any (k : κ) : ∀ kvs : List (κ × V), (kvs.any fun kv => decide (kv.1 = k)) = (valV kvs k).isSome
  | [] => rfl
  | p :: r => by
    rw [List.any_cons]
    by_cases e : p.1 = k
    · simp only [valV_pos e, decide_eq_true e, Bool.true_or, Option.isSome_some]
    · rw [valV_neg e, decide_eq_false e, Bool.false_or]; exact valV_any k r
theorem length_putK (kvs : List (κ × V)) (k : κ) (v : V) : (putK kvs k v).length ≤ kvs.length + 1 := by
  unfold putK
  split
  · rw [List.length_map]; omega
  · rw [List.length_append, List.length_cons, List.length_nil]; omega
theorem RelO.isSome_eq {o : Option V} {u : Option Value} (r : RelO o u) : o.isSome = u.isSome := by
  cases o with
  | none => cases u with
    | none => rfl
    | some _ => exact (show False from r).elim
  | some _ => cases u with
    | none => exact (show False from r).elim
    | some _ => rfl
theorem RelO.getD {o : Option V} {u : Option Value} {d : V} {d' : Value} (r : RelO o u) (rd : RelV d d') : RelV (o.getD d) (u.getD d') := by
  cases o with
  | none => cases u with
    | none => exact rd
    | some _ => exact (show False from r).elim
  | some _ => cases u with
    | none => exact (show False from r).elim
    | some _ => exact r
theorem KV.val {kvs : List (κ × V)} {vs : List (κ × Value)} (r : KV kvs vs) (k : κ) : RelO (valV kvs k) (valueAt vs k) := by
  unfold KV at r
  induction r with
  | nil => exact True.intro
  | @cons p q ps qs h t ih =>
    obtain ⟨h1, h2⟩ := h
    by_cases e : p.1 = k
    · have e' : q.1 = k := h1.symm.trans e
      have b : valueAt (q :: qs) k = some q.2 := by simp [valueAt, List.find?_cons, e']
      rw [valV_pos e, b]; exact h2
    · have e' : ¬ q.1 = k := fun z => e (h1.trans z)
      have b : valueAt (q :: qs) k = valueAt qs k := by simp [valueAt, List.find?_cons, e']
      rw [valV_neg e, b]; exact ih
theorem KV.any {kvs : List (κ × V)} {vs : List (κ × Value)} (r : KV kvs vs) (k : κ) : (kvs.any fun kv => decide (kv.1 = k)) = vs.any fun kv => decide (kv.1 = k) := by
  unfold KV at r
  induction r with
  | nil => rfl
  | cons h t ih => rw [List.any_cons, List.any_cons, ih, h.1]
theorem KV.repl {kvs : List (κ × V)} {vs : List (κ × Value)} (r : KV kvs vs) (k : κ) {y : V} {u : Value} (ry : RelV y u) :
    KV (kvs.map fun kv => if kv.1 = k then (kv.1, y) else kv) (vs.map fun kv => if kv.1 = k then (kv.1, u) else kv) := by
  unfold KV at r ⊢
  induction r with
  | nil => exact .nil
  | @cons p q ps qs h t ih =>
    rw [List.map_cons, List.map_cons]
    refine .cons ?_ ih
    obtain ⟨h1, h2⟩ := h
    by_cases e : p.1 = k
    · rw [if_pos e, if_pos (h1.symm.trans e)]; exact ⟨h1, ry⟩
    · rw [if_neg e, if_neg (fun z => e (h1.trans z))]; exact ⟨h1, h2⟩
theorem KV.put {kvs : List (κ × V)} {vs : List (κ × Value)} (r : KV kvs vs) (k : κ) {y : V} {u : Value} (ry : RelV y u) : KV (putK kvs k y) (stored vs k u) := by
  unfold putK stored
  rw [r.any k]
  by_cases e : (vs.any fun kv => decide (kv.1 = k)) = true
  · rw [if_pos e, if_pos e]; exact r.repl k ry
  · rw [if_neg e, if_neg e]; exact Paired.snoc r ⟨rfl, ry⟩
theorem KV.drop {kvs : List (κ × V)} {vs : List (κ × Value)} (r : KV kvs vs) (k : κ) : KV (dropK kvs k) (without vs k) := by
  unfold KV at r ⊢
  unfold dropK without
  induction r with
  | nil => exact .nil
  | @cons p q ps qs h t ih =>
    obtain ⟨h1, h2⟩ := h
    rw [List.filter_cons, List.filter_cons]
    by_cases e : p.1 = k
    · have a : ¬ decide (p.1 ≠ k) = true := by simp [e]
      have b : ¬ decide (q.1 ≠ k) = true := by simp [h1.symm.trans e]
      rw [if_neg a, if_neg b]; exact ih
    · have e' : ¬ q.1 = k := fun z => e (h1.trans z)
      have a : decide (p.1 ≠ k) = true := by simp [e]
      have b : decide (q.1 ≠ k) = true := by simp [e']
      rw [if_pos a, if_pos b]; exact .cons ⟨h1, h2⟩ ih
theorem KV.keys {kvs : List (κ × V)} {vs : List (κ × Value)} (r : KV kvs vs) : kvs.map (·.1) = vs.map (·.1) := by
  unfold KV at r
  induction r with
  | nil => rfl
  | cons h t ih => rw [List.map_cons, List.map_cons, ih, h.1]
theorem KV.length {kvs : List (κ × V)} {vs : List (κ × Value)} (r : KV kvs vs) : kvs.length = vs.length := Paired.length r
end
theorem kV_is {P : Program} {w : World} {k : Key} {u : Value} (r : RelV (kV k) u) : (mixKind P w).is k u = true := by
  cases k with
  | inl i => obtain ⟨t, e⟩ := (show ∃ t, u = Value.int i t from r); subst e; exact mixKind_int P w i t
  | inr x => obtain ⟨t, e⟩ := (show ∃ t, u = Value.str x t from r); subst e; exact mixKind_str P w x t
theorem items_are {P : Program} {w : World} : ∀ {ks : List Key} {us : List Value}, Vals (ks.map kV) us → ItemsAre (mixKind P w) ks us
  | [], _, r => by rw [List.map_nil] at r; cases r; exact .nil
  | k :: ks, _, r => by
    rw [List.map_cons] at r
    cases r with
    | cons h t => exact .cons (kV_is h) (items_are t)
abbrev KT (H : Hp) : List (List Key × V) → List (List Key × Addr × Value) → Prop := Paired fun p q => p.1 = q.1 ∧ H q.2.1 = some (.tup (p.1.map kV)) ∧ RelV p.2 q.2.2
theorem KT.val {H : Hp} {kvs : List (List Key × V)} {xs : List (List Key × Addr × Value)} (r : KT H kvs xs) (k : List Key) : RelO (valV kvs k) ((atKey xs k).map (·.2)) := by
  induction r with
  | nil => exact True.intro
  | @cons p q ps qs h t ih =>
    obtain ⟨h1, _, h2⟩ := h
    by_cases e : p.1 = k
    · have e' : q.1 = k := h1.symm.trans e
      have b : atKey (q :: qs) k = some q.2 := by simp [atKey, List.find?_cons, e']
      rw [valV_pos e, b]; exact h2
    · have e' : ¬ q.1 = k := fun z => e (h1.trans z)
      have b : atKey (q :: qs) k = atKey qs k := by simp [atKey, List.find?_cons, e']
      rw [valV_neg e, b]; exact ih
theorem KT.repl {H : Hp} {kvs : List (List Key × V)} {xs : List (List Key × Addr × Value)} (r : KT H kvs xs) (k : List Key) {y : V} {u : Value} (ry : RelV y u) :
    KT H (kvs.map fun kv => if kv.1 = k then (kv.1, y) else kv) (xs.map (putAt k u)) := by
  induction r with
  | nil => exact .nil
  | @cons p q ps qs h t ih =>
    rw [List.map_cons, List.map_cons]
    refine .cons ?_ ih
    obtain ⟨h1, h2, h3⟩ := h
    unfold putAt
    by_cases e : p.1 = k
    · rw [if_pos e, if_pos (h1.symm.trans e)]; exact ⟨h1, h2, ry⟩
    · rw [if_neg e, if_neg (fun z => e (h1.trans z))]; exact ⟨h1, h2, h3⟩
theorem KT.put {H : Hp} {kvs : List (List Key × V)} {xs : List (List Key × Addr × Value)} (r : KT H kvs xs) (k : List Key) {b : Addr} {y : V} {u : Value} (hb : H b = some (.tup (k.map kV))) (ry : RelV y u) :
    KT H (putK kvs k y) (storedH xs k b u) := by
  have e : (kvs.any fun kv => decide (kv.1 = k)) = (atKey xs k).isSome := by
    rw [valV_any, (r.val k).isSome_eq, Option.isSome_map]
  unfold putK storedH
  rw [e]
  by_cases q : (atKey xs k).isSome = true
  · rw [if_pos q, if_pos q]; exact r.repl k ry
  · rw [if_neg q, if_neg q]; exact Paired.snoc r ⟨rfl, hb, ry⟩
theorem KT.keeps {H H' : Hp} {kvs : List (List Key × V)} {xs : List (List Key × Addr × Value)} (r : KT H kvs xs) (ht : ∀ b ys, H b = some (.tup ys) → H' b = some (.tup ys)) : KT H' kvs xs :=
  Paired.mapP r fun _ _ z => ⟨z.1, ht _ _ z.2.1, z.2.2⟩
section
variable {P : Program} {w : World} {H : Hp} {h : Heap} {a : Addr}
theorem rd_of {u : HO} (ok : HOk P w H h) (e : Rd H a u) : ObjOk P w H h a u := e.ok ok
theorem dk_rd {kvs : List (Key × V)} (ok : HOk P w H h) (e : Rd H a (.dK kvs)) : kvs.length ≤ sizeLine ∧ (a == sysModules) = false ∧ ∃ vs, KV kvs vs ∧ h.DictOf (mixKind P w) a vs :=
  show ObjOk P w H h a (.dK kvs) from rd_of ok e
theorem dk_of {kvs : List (Key × V)} (ok : HOk P w H h) (e : H a = some (.dK kvs)) : kvs.length ≤ sizeLine ∧ (a == sysModules) = false ∧ ∃ vs, KV kvs vs ∧ h.DictOf (mixKind P w) a vs := dk_rd ok (.inl e)
theorem key_of {ks : List Key} (ok : HOk P w H h) (e : H a = some (.tup (ks.map kV))) : (tupleKind (mixKind P w)).is h ks a := by
  obtain ⟨_, its, r, o, h1, h2, n, h3⟩ := (show ObjOk P w H h a (.tup (ks.map kV)) from ok a _ e)
  exact ⟨o, its.toArray, n, h1, h2, (Prod.mk.inj h3).1, by simpa using items_are r⟩
theorem dt_rd {kvs : List (List Key × V)} (ok : HOk P w H h) (e : Rd H a (.dT kvs)) : kvs.length ≤ sizeLine ∧ (a == sysModules) = false ∧
    ∃ xs, KT H kvs xs ∧ h.DictOfH (tupleKind (mixKind P w)) a xs := by
  obtain ⟨z, y, xs, r, o, es, ep, h1, h2, h3, h4, h5⟩ := (show ObjOk P w H h a (.dT kvs) from rd_of ok e)
  refine ⟨z, y, xs, r, o, es, ep, h1, h2, h3, h4, fun x hx => ?_, h5⟩
  have all : ∀ {l : List (List Key × V)} {m : List (List Key × Addr × Value)}, KT H l m → ∀ x ∈ m, (tupleKind (mixKind P w)).is h x.1 x.2.1 := by
    intro l m q
    induction q with
    | nil => intro x hx; exact nomatch hx
    | @cons p q ps qs hq t ih =>
      intro x hx
      rcases List.mem_cons.mp hx with e | hx
      · subst e
        exact key_of ok (by rw [← hq.1]; exact hq.2.1)
      · exact ih x hx
  exact all r x hx
theorem dt_of {kvs : List (List Key × V)} (ok : HOk P w H h) (e : H a = some (.dT kvs)) : kvs.length ≤ sizeLine ∧ (a == sysModules) = false ∧
    ∃ xs, KT H kvs xs ∧ h.DictOfH (tupleKind (mixKind P w)) a xs := dt_rd ok (.inl e)
end
def DGet (H : Hp) (a : Addr) (y : V) (r : Option V) : Prop :=
  (∃ kvs k, Rd H a (.dK kvs) ∧ y = kV k ∧ r = valV kvs k) ∨ ∃ kvs k b, Rd H a (.dT kvs) ∧ y = .ref b ∧ H b = some (.tup (k.map kV)) ∧ r = valV kvs k
def DPut (H : Hp) (a : Addr) (y v : V) (H' : Hp) : Prop :=
  (∃ kvs k, H a = some (.dK kvs) ∧ y = kV k ∧ kvs.length < sizeLine ∧ H' = upd H a (.dK (putK kvs k v))) ∨
  ∃ kvs k b, H a = some (.dT kvs) ∧ y = .ref b ∧ H b = some (.tup (k.map kV)) ∧ kvs.length < sizeLine ∧ H' = upd H a (.dT (putK kvs k v))
theorem DGet.k {H : Hp} {a : Addr} {kvs : List (Key × V)} {k : Key} (e : H a = some (.dK kvs)) : DGet H a (kV k) (valV kvs k) := .inl ⟨kvs, k, .inl e, rfl, rfl⟩
theorem DGet.t {H : Hp} {a b : Addr} {kvs : List (List Key × V)} {k : List Key} (e : H a = some (.dT kvs)) (eb : H b = some (.tup (k.map kV))) : DGet H a (.ref b) (valV kvs k) := .inr ⟨kvs, k, b, .inl e, rfl, eb, rfl⟩
theorem DPut.k {H : Hp} {a : Addr} {kvs : List (Key × V)} {k : Key} {v : V} (e : H a = some (.dK kvs)) (hl : kvs.length < sizeLine) : DPut H a (kV k) v (upd H a (.dK (putK kvs k v))) := .inl ⟨kvs, k, e, rfl, hl, rfl⟩
theorem DPut.t {H : Hp} {a b : Addr} {kvs : List (List Key × V)} {k : List Key} {v : V} (e : H a = some (.dT kvs)) (eb : H b = some (.tup (k.map kV))) (hl : kvs.length < sizeLine) :
    DPut H a (.ref b) v (upd H a (.dT (putK kvs k v))) := .inr ⟨kvs, k, b, e, rfl, eb, hl, rfl⟩
section
variable {X : Cx} {pins : List (Addr × Obj)} {σ : St} {H : Hp} {s : Shared} {a : Addr} {y v : V} {u r : Value} {o : Option V} {A : Around} {E : Value → Shared → Prop}
theorem Inv.big (I : Inv X pins σ H s) : sysModules < s.heap.objs.size := by
  have h : mainGlobals < s.heap.objs.size := (I.mod.glob.keeps I.bk).lt
  exact Nat.lt_trans (by decide) h
theorem d_write {h' : Heap} {t' : Nat} {ob : HO} (I : Inv X pins σ H s) (mu : Mut (H a)) (hs : Heap.SameBut a s.heap h') (he : ∃ q, h'.get? a = some q) (new : ObjOk X.prog X.w (upd H a ob) h' a ob) :
    Inv X pins σ (upd H a ob) { s with heap := h', toks := t' } :=
  I.write (x := a) (e := a) mu (.inl rfl) (fun b q hb z => (hs.2 b hb).trans z) he new
theorem dk_new {P : Program} {w : World} {H' : Hp} {h' : Heap} {kvs : List (Key × V)} {vs : List (Key × Value)} (z : kvs.length ≤ sizeLine) (hd : (a == sysModules) = false) (rel : KV kvs vs) (dd : h'.DictOf (mixKind P w) a vs) :
    ObjOk P w H' h' a (.dK kvs) := ⟨z, hd, vs, rel, dd⟩
theorem d_setItem {H' : Hp} {Q : Unit → Shared → Prop} (hu : A.units + 1 < cLine) (I : Inv X pins σ H s) (g : DPut H a y v H') (ry : RelV y u) (rv : RelV v r) (h : ∀ s', Inv X pins σ H' s' → Q () s') :
    wpAny (model X.prog X.w) A (setItem (.ref a) u r) Q E s := by
  rcases g with ⟨kvs, k, e, ey, l, eH⟩ | ⟨kvs, k, b, e, ey, eb, l, eH⟩
  · subst ey eH
    obtain ⟨z, hd, vs, rel, dd⟩ := dk_of I.hok e
    have hz : vs.length ≤ sizeLine := by rw [← rel.length]; exact z
    have hl : (putK kvs k v).length ≤ sizeLine := by have := length_putK kvs k v; omega
    refine wpAny_setItem_pairs (hsz := hz) (kV_is ry) dd fun h' dd' hs => h _ ?_
    have he : ∃ q, h'.get? a = some q := let ⟨q, _, _, hq, _⟩ := dd'; ⟨q, hq⟩
    exact d_write I (by rw [e]; exact True.intro) hs he (dk_new hl hd (rel.put k rv) dd')
  · subst ey eH
    cases (show u = Value.ref b from ry)
    obtain ⟨z, hd, xs, rel, dd⟩ := dt_of I.hok e
    have hz : xs.length ≤ sizeLine := by rw [← Paired.length rel]; exact z
    have hl : (putK kvs k v).length ≤ sizeLine := by have := length_putK kvs k v; omega
    refine wpAny_setItem_heap (hsz := hz) (tupleKind_room_in1 hu) (key_of I.hok eb) dd fun h' dd' hs => h _ ?_
    obtain ⟨q, es, ep, hq, h2, h3, h4, _, h5⟩ := dd'
    refine d_write I (by rw [e]; exact True.intro) hs ⟨q, hq⟩ ⟨hl, hd, _, (rel.put k eb rv).keeps fun c ys ec => ?_, q, es, ep, hq, h2, h3, h4, h5⟩
    rw [upd_ne (ne_of ec e (fun z => nomatch z))]
    exact ec
end
section
variable {X : Cx} {pins : List (Addr × Obj)} {σ : St} {H : Hp} {s : Shared} {a : Addr} {kvs : List (Key × V)} {k : Key} {u : Value} {A : Around} {E : Value → Shared → Prop}
theorem d_len {Q : Value → Shared → Prop} (I : Inv X pins σ H s) (e : Rd H a (.dK kvs)) (h : ∀ t s', Inv X pins σ H s' → Q (.int kvs.length t) s') : wpAny (model X.prog X.w) A (call (.builtin "len") [.ref a]) Q E s := by
  obtain ⟨z, hd, vs, rel, dd⟩ := dk_rd I.hok e
  refine call_len_dict hd dd (by rw [← rel.length]; rw [sizeLine_eq] at z; omega) ?_
  rw [← rel.length]
  exact h _ _ (I.tok _)
end
def sDPut (td ty tv : TE) : TS := fun D σ H => tv σ H fun v H1 => td σ H1 fun x H2 => ty σ H2 fun y H3 => ∃ a H4, x = .ref a ∧ DPut H3 a y v H4 ∧ D.nx σ H4
section
variable {X : Cx} {o i e value : Expr} {pos pos' tpos : Pos} {td ty tv : TE}
theorem ps_dput (hu : X.A.units + 1 < cLine) (ho : PE X o td) (hi : PE X i ty) (hv : PE X value tv) (hs : swapsWith value (some (.Subscript o i pos')) pos.line X.env = pure false) :
    PS X (.Assign [.Subscript o i pos'] value pos) (sDPut td ty tv) := by
  intro pins s σ H D I h
  refine wpAny_Assign_Subscript (thn (hv pins s σ H _ I h) fun r s1 ⟨v, H1, I1, rv, q1⟩ => thn (ho pins s1 σ H1 _ I1 q1) fun u s2 ⟨x, H2, I2, rx, q2⟩ => thn (hi pins s2 σ H2 _ I2 q2) fun iv s3 ⟨y, H3, I3, ry, a, H4, ex, g, q3⟩ => ?_) hs
  subst ex
  obtain rfl : u = Value.ref a := rx
  exact d_setItem hu I3 g ry rv fun s4 I4 => ⟨σ, H4, I4, q3⟩
end
theorem dt_empty {P : Program} {w : World} {H : Hp} (h : Heap) (hb : sysModules < h.objs.size) : ObjOk P w H (h.push { cls := .type "dict", data := .dict #[] }) h.objs.size (.dT []) :=
  ⟨Nat.zero_le _, beq_eq_false_iff_ne.mpr (Ne.symm (Nat.ne_of_lt hb)), [], .nil, _, #[], 0, Heap.get?_push_size _ rfl, ⟨rfl, rfl, rfl⟩, rfl, rfl, List.nodup_nil⟩
def tDNewT : TE := fun _ H Q => ∀ p, H p = none → Q (.ref p) (upd H p (.dT []))
section
variable {X : Cx} {pos : Pos}
theorem pe_dnewT : PE X (.Dict [] [] pos) tDNewT := fun pins s σ H Q I h =>
  wpAny_Dict_empty ⟨.ref s.heap.objs.size, _, I.laid (a := s.heap.objs.size) (o := .dT []) (t' := s.toks) (fun _ _ q => Heap.get?_push_of_some _ q) (Nat.le_refl _) (dt_empty s.heap I.big), rfl, h _ (I.hok.fresh (Nat.le_refl _))⟩
end
def mergeK (kvs more : List (Key × V)) : List (Key × V) := more.foldl (fun acc kv => putK acc kv.1 kv.2) kvs
theorem KV.merge : ∀ {more : List (Key × V)} {rs : List (Key × Value)} {kvs : List (Key × V)} {vs : List (Key × Value)}, KV more rs → KV kvs vs → KV (mergeK kvs more) (merged vs rs) := by
  intro more rs kvs vs r
  unfold KV at r
  induction r generalizing kvs vs with
  | nil => intro q; exact q
  | @cons p q ps qs h t ih =>
    intro r0
    have e : KV (putK kvs p.1 p.2) (stored vs q.1 q.2) := by
      have := r0.put p.1 h.2
      rw [← h.1]; exact this
    exact ih e
section
variable {X : Cx} {pins : List (Addr × Obj)} {σ : St} {H : Hp} {s : Shared} {a : Addr} {y d : V} {u r : Value} {o : Option V} {A : Around} {E : Value → Shared → Prop}
end
section
variable {X : Cx} {o e f : Expr} {apos cpos : Pos} {td ty tx : TE}
end
section
variable {X : Cx} {pins : List (Addr × Obj)} {σ : St} {H : Hp} {s : Shared} {a : Addr} {kvs : List (Key × V)} {A : Around} {E : Value → Shared → Prop}
end
section
variable {X : Cx} {pins : List (Addr × Obj)} {σ : St} {H : Hp} {s : Shared} {a : Addr} {y : V} {u : Value} {A : Around} {E : Value → Shared → Prop}
end
end L2
namespace L2
open PySem PySem.Spec PyProof.Rows
section
variable {prog : Program} {w : World} {A : Around} {E : Value → Shared → Prop}
end
section
variable {X : Cx}
end
end L2
namespace L2
open PySem PySem.Spec PyProof.Rows
section
variable {X : Cx} {pins : List (Addr × Obj)} {σ : St} {H : Hp} {s : Shared} {h' : Heap}
theorem Inv.turnedL {t' : Nat} {ch : List Addr} (I : Inv X pins σ H s) (k : ∀ b o, b ∉ ch → s.heap.get? b = some o → h'.get? b = some o) (hf : ∀ b ∈ ch, FpOk X pins H b) : Inv X pins σ H { s with heap := h', toks := t' } := by
  have nit : ∀ b u, H b = some u → b ∉ ch := fun b u e z => by
    have q := (hf b z).1
    rw [q] at e; cases e
  refine I.step (g' := s.gens) (d' := s.drawn) (ch := ch) (fun b hb => ⟨(hf b hb).2.2.2.1, (hf b hb).2.1, (hf b hb).2.2.2.2.1, (hf b hb).2.2.2.2.2⟩) (fun b o _ _ hc e _ => k b o hc e) (fun b o _ _ hc e _ => ⟨o.slots, k b o hc e⟩)
    (fun _ _ _ _ n => n) (fun b o hc e => ⟨o, k b o hc e⟩) (fun _ _ e => e) (fun _ _ _ e => e) (fun b ps e => ⟨#[], by rw [e]; simp⟩) (fun m hm => ?_) (fun b u e => ?_) I.bare
  · obtain ⟨o, es, ep, ho, r⟩ := hm
    exact ⟨o, es, ep, k _ o (fun z => (hf _ z).2.1 rfl) ho, r⟩
  · refine (I.hok b u e).stay (fun c v hc q => k c v ?_ q) (fun _ q => q) fun _ _ q => q
    rcases hc with z | z
    · rw [z]; exact nit b u e
    · exact nit c _ z
theorem Inv.turnedNew {t' : Nat} {ch : List Addr} {T : Addr} {ob : HO} (I : Inv X pins σ H s) (k : ∀ b o, b ∉ ch → s.heap.get? b = some o → h'.get? b = some o) (hf : ∀ b ∈ ch, FpOk X pins H b) (hT : s.heap.objs.size ≤ T)
    (new : ObjOk X.prog X.w (upd H T ob) h' T ob) : Inv X pins σ (upd H T ob) { s with heap := h', toks := t' } := by
  have hn : H T = none := I.hok.fresh hT
  have nit : ∀ b u, H b = some u → b ∉ ch := fun b u e z => by
    have q := (hf b z).1
    rw [q] at e; cases e
  refine I.step (g' := s.gens) (d' := s.drawn) (ch := ch) (fun b hb => ⟨(hf b hb).2.2.2.1, (hf b hb).2.1, (hf b hb).2.2.2.2.1, (hf b hb).2.2.2.2.2⟩) (fun b o _ _ hc e _ => k b o hc e) (fun b o _ _ hc e _ => ⟨o.slots, k b o hc e⟩)
    (fun b o _ e n => ?_) (fun b o hc e => ⟨o, k b o hc e⟩) (fun b xs e => ?_) (fun b o u e => ?_) (fun b ps e => ⟨#[], ?_⟩) (fun m hm => ?_) (fun b u e => ?_) I.bare
  · rw [upd_ne (Nat.ne_of_lt (Nat.lt_of_lt_of_le (Heap.lt_size e) hT))]; exact n
  · rw [upd_ne (ne_of_none e hn)]; exact e
  · rw [upd_ne (ne_of_none e hn)]; exact e
  · rw [upd_ne (ne_of_none e hn), e]; simp
  · obtain ⟨o, es, ep, ho, r⟩ := hm
    exact ⟨o, es, ep, k _ o (fun z => (hf _ z).2.1 rfl) ho, r⟩
  · by_cases hb : b = T
    · subst hb
      rw [upd_same] at e
      cases e
      exact new
    · rw [upd_ne hb] at e
      refine (I.hok b u e).stay (fun c v hc q => k c v ?_ q) (fun c q => by rw [upd_ne (ne_of_none q hn)]; exact q) fun c xs q => by rw [upd_ne (ne_of_none q hn)]; exact q
      rcases hc with z | z
      · rw [z]; exact nit b u e
      · exact nit c _ z
end
section
variable {X : Cx}
end
def RgC (i j c : Int) (n : Nat) : Prop := c ≠ 0 ∧ c.natAbs < 1073741824 ∧ Builtin.Range.small i j c = true ∧ Builtin.Range.rangeSize i j c = n
theorem RgC.neg {i j : Int} (ha : -(2 ^ 62) ≤ i) (ha' : i < 2 ^ 62) (hb : -(2 ^ 62) ≤ j) (hb' : j < 2 ^ 62) : RgC i j (-1) (i - j).toNat :=
  ⟨by decide, by decide, PySem.W.small_down ha ha' hb hb', PySem.W.rangeSize_downNat i j⟩
section
variable {X : Cx} {tg : Expr}
end
section
variable {X : Cx} {tg : Expr}
end
section
variable {prog : Program} {w : World} {A : Around} {E : Value → Shared → Prop} {s : Shared}
theorem iter_keys {d : Addr} {o : Obj} {es : Array DictEntry} {ep : Nat} {Q : Value → Shared → Prop} (hd : (d == sysModules) = false) (ho : s.heap.get? d = some o) (hc : o.ExactDict) (hdat : o.data = .dict es ep)
    (hQ : Q (.ref s.heap.objs.size) { s with heap := s.heap.push { cls := .type "dict_keyiterator", data := .fields #[.ref d, .int 0 0, .int es.size 0, .int ep 0] } }) :
    wpAny (model prog w) A (pyIter (.ref d)) Q E s := by
  have hT : s.TypeIs (.ref d) "dict" := ⟨o, ho, hc.1⟩
  refine wpAny_pyIter_slot hT F.slot_dict_iter (wpAny_call_entry F.slot_dict_iter hT F.entry_dict_iter ?_ (F.args_dict_iter_1 _))
  unfold Builtin.«dict.__iter__»
  refine wpAny_bind ?_
  unfold Builtin.Dict.dictSlotNone
  refine wpAny_bind (wpAny_notOrdered_dict hT ?_)
  show wpAny _ _ (pure (Value.ref d)) _ _ s
  refine wpAny_pure ?_
  show wpAny _ _ (Builtin.Dict.showsAll d >>= _) _ _ s
  unfold Builtin.Dict.showsAll
  rw [if_neg (by rw [hd]; exact Bool.false_ne_true)]
  refine wpAny_bind (wpAny_pure ?_)
  refine wpAny_bind (wpAny_dictEntries ho hdat ?_)
  refine wpAny_bind (wpAny_dictEpoch ho hdat ?_)
  refine wpAny_bind (wpAny_newObj_type (wpAny_pure ⟨_, rfl, "dict_keyiterator", _, ⟨_, Heap.get?_push_size _ rfl, rfl⟩, F.slot_dict_keyiterator_next.lookup, ?_⟩))
  simpa [rawInt] using hQ
theorem next_key_item {it d : Addr} {i n ep : Nat} {od : Obj} {es : Array DictEntry} {en : DictEntry} {Q : Option Value → Shared → Prop} (hit : s.heap.IsKeyIter it d i n ep) (hod : s.heap.get? d = some od) (hdd : od.data = .dict es ep)
    (hsz : es.size = n) (hx : es[i]? = some en) (hQ : ∀ h', h'.IsKeyIter it d (i + 1) n ep → Heap.SameBut it s.heap h' → Q (some en.key) { s with heap := h' }) : wpAny (model prog w) A (pyNext (.ref it)) Q E s := by
  obtain ⟨o, ho, hc, hd⟩ := id hit
  unfold pyNext
  refine wpAny_bind (wpAny_attempt (wpAny_callSpecial?_slot (name := Str.ofString "__next__") hit.typeIs F.slot_dict_keyiterator_next
    (wpAny_call_entry F.slot_dict_keyiterator_next hit.typeIs F.entry_dict_keyiterator_next ?_ (F.args_dict_keyiterator_next_1 _))))
  refine wpAny_bind (wpAny_pure ?_)
  refine wpAny_bind ?_
  refine wpAny_bind ?_
  first | refine wpAny_bind (wpAny_typeNameOfWhole_keyiter hit.typeIs (wpAny_pure ?_)) | refine wpAny_bind (wpAny_typeNameOf_keyiter hit.typeIs (wpAny_pure ?_))
  refine wpAny_bind (wpAny_fieldsOf ho hd ?_)
  have hown : Builtin.Dict_items.ownsTuple "dict_keyiterator" = false := by decide
  simp only [hown, Bool.false_eq_true, if_false]
  show wpAny _ _ (if (Value.ref d == Value.none) = true then _ else _) _ _ s
  rw [if_neg (show ¬ ((Value.ref d == Value.none) = true) from Bool.false_ne_true)]
  refine wpAny_bind (wpAny_pure ?_)
  refine wpAny_bind (wpAny_dictEntries hod hdd ?_)
  rw [if_neg (by rw [hsz]; simp)]
  refine wpAny_bind (wpAny_pure ?_)
  refine wpAny_bind (wpAny_dictEpoch hod hdd ?_)
  rw [if_neg (by simp)]
  refine wpAny_pure ?_
  obtain ⟨hlt', hen⟩ := Array.getElem?_eq_some_iff.mp hx
  simp only [show ¬ ((i : Int) < 0) from by omega, if_false, Int.toNat_natCast, Array.getElem?_eq_getElem hlt']
  refine wpAny_bind ?_
  first | refine wpAny_bind (wpAny_typeNameOfWhole_keyiter hit.typeIs (wpAny_pure ?_)) | refine wpAny_bind (wpAny_typeNameOf_keyiter hit.typeIs (wpAny_pure ?_))
  refine wpAny_bind (wpAny_isOneOf_keyiter hit.typeIs ?_)
  show wpAny _ _ (setField (.ref it) 1 (rawInt ((i : Int) + 1)) >>= _) _ _ s
  refine wpAny_bind (wpAny_setField ho hd (by simp) ?_)
  have hit' : (s.heap.update it (Obj.mapFields (·.setIfInBounds 1 (rawInt ((i : Int) + 1))))).IsKeyIter it d (i + 1) n ep :=
    ⟨_, Heap.get?_update_self _ ho (Obj.isFreed_of_fields (Obj.data_mapFields hd _)), (Obj.cls_mapFields ..).trans hc, by rw [Obj.data_mapFields hd]; simp [rawInt]⟩
  refine wpAny_bind (wpAny_holding ?_)
  refine wpAny_bind (wpAny_isOneOf_keyiter (s := { s with heap := s.heap.update it (Obj.mapFields (·.setIfInBounds 1 (rawInt ((i : Int) + 1)))) }) hit'.typeIs ?_)
  show wpAny _ _ (pure es[i].key) _ _ _
  rw [hen]
  exact wpAny_pure (wpAny_pure ⟨_, rfl, wpAny_pure (hQ _ hit' (Heap.SameBut.update ..))⟩)
theorem next_key_end {it d : Addr} {i n ep : Nat} {od : Obj} {es : Array DictEntry} {Q : Option Value → Shared → Prop} (hh : A.handled = none) (hit : s.heap.IsKeyIter it d i n ep) (hod : s.heap.get? d = some od) (hdd : od.data = .dict es ep)
    (hsz : es.size = n) (hge : n ≤ i) (hQ : ∀ h', Heap.ExtBut it s.heap h' → Q none { s with heap := h' }) : wpAny (model prog w) A (pyNext (.ref it)) Q E s := by
  obtain ⟨o, ho, hc, hd⟩ := id hit
  unfold pyNext
  refine wpAny_bind (wpAny_attempt (wpAny_callSpecial?_slot (name := Str.ofString "__next__") hit.typeIs F.slot_dict_keyiterator_next
    (wpAny_call_entry F.slot_dict_keyiterator_next hit.typeIs F.entry_dict_keyiterator_next ?_ (F.args_dict_keyiterator_next_1 _))))
  refine wpAny_bind (wpAny_pure ?_)
  refine wpAny_bind ?_
  refine wpAny_bind ?_
  first | refine wpAny_bind (wpAny_typeNameOfWhole_keyiter hit.typeIs (wpAny_pure ?_)) | refine wpAny_bind (wpAny_typeNameOf_keyiter hit.typeIs (wpAny_pure ?_))
  refine wpAny_bind (wpAny_fieldsOf ho hd ?_)
  have hown : Builtin.Dict_items.ownsTuple "dict_keyiterator" = false := by decide
  simp only [hown, Bool.false_eq_true, if_false]
  show wpAny _ _ (if (Value.ref d == Value.none) = true then _ else _) _ _ s
  rw [if_neg (show ¬ ((Value.ref d == Value.none) = true) from Bool.false_ne_true)]
  refine wpAny_bind (wpAny_pure ?_)
  refine wpAny_bind (wpAny_dictEntries hod hdd ?_)
  rw [if_neg (by rw [hsz]; simp)]
  refine wpAny_bind (wpAny_pure ?_)
  refine wpAny_bind (wpAny_dictEpoch hod hdd ?_)
  rw [if_neg (by simp)]
  refine wpAny_pure ?_
  have hge' : es.size ≤ i := by rw [hsz]; exact hge
  simp only [show ¬ ((i : Int) < 0) from by omega, if_false, Int.toNat_natCast, Array.getElem?_eq_none hge']
  refine wpAny_bind ?_
  first | refine wpAny_bind (wpAny_typeNameOfWhole_keyiter hit.typeIs (wpAny_pure ?_)) | refine wpAny_bind (wpAny_typeNameOf_keyiter hit.typeIs (wpAny_pure ?_))
  show wpAny _ _ (setField (.ref it) 0 .none >>= _) _ _ s
  refine wpAny_bind (wpAny_setField ho hd (by simp) ?_)
  show wpAny _ _ (newExc (.type "StopIteration") [] >>= _) _ _ _
  refine wpAny_bind ?_
  simp only [newExc, newTuple]
  refine wpAny_bind (wpAny_newObj_type ?_ (by size_fits))
  refine wpAny_bind (m := firstArgMember _ _) (wpAny_of_eq (a := Value.none) (by first | rfl | (simp only [firstArgMember]; rfl)) ?_)
  refine wpAny_newObj_type ?_ (by size_fits)
  simp only [raiseNew]
  refine wpAny_bind (wpAny_handled ?_)
  rw [show A.in1.handled = none from hh]
  refine wpAny_bind (wpAny_pure (wpAny_throw ?_))
  refine wpAny_bind (wpAny_isInstance (T := "StopIteration") (b := true) ⟨_, Heap.get?_push_size _ rfl, rfl⟩ isSubtype_stop ?_)
  exact wpAny_pure (hQ _ (((Heap.SameBut.update ..).extBut.push _).push _))
end
theorem paired_get {α β : Type} {G : α → β → Prop} {l₁ : List α} {l₂ : List β} (h : Paired G l₁ l₂) : ∀ {i : Nat} {a : α}, l₁[i]? = some a → ∃ b, l₂[i]? = some b ∧ G a b := by
  induction h with
  | nil => intro i a e; simp at e
  | @cons a b l₁ l₂ r t ih =>
    intro i a' e
    cases i with
    | zero =>
      simp only [List.getElem?_cons_zero, Option.some.injEq] at e
      subst e
      exact ⟨b, rfl, r⟩
    | succ j =>
      simp only [List.getElem?_cons_succ] at e ⊢
      exact ih e
section
variable {X : Cx} {pins : List (Addr × Obj)} {σ : St} {H : Hp} {s : Shared} {d : Addr} {o : Obj}
end
section
variable {P : Program} {w : World} {K : PySem.W.Frag} {tg : Expr} {d : Addr} {o : Obj} {es : Array DictEntry} {ep : Nat}
end
section
variable {X : Cx} {tg e : Expr} {td : TE} {apos cpos : Pos}
end
theorem boot_zip5 : bootBuiltins "zip" = some (.type "zip") := by decide +kernel
end L2
section 
namespace Bits
open PySem PyProof.Rows
end Bits
end 
section 
namespace TL
open PySem PySem.Builtin PySem.Builtin.Str PySem.StrLaws
abbrev tl (x : Str) : List Nat := x.cps.toList
def pre (S l : List Nat) : Bool := l.take S.length == S
def par (S : List Nat) : List Nat → List Nat → Option (List Nat × List Nat)
  | _, [] => none
  | acc, c :: r => if pre S (c :: r) = true then some (acc, (c :: r).drop S.length) else par S (acc ++ [c]) r
theorem pre_of_head {s c : Nat} (S r : List Nat) (h : c ≠ s) : pre (s :: S) (c :: r) = false := by
  cases hp : pre (s :: S) (c :: r) with
  | false => rfl
  | true =>
    have e : (c :: r).take (s :: S).length = s :: S := eq_of_beq hp
    rw [List.length_cons, List.take_succ_cons] at e
    injection e with e1 e2
    exact absurd e1 h
theorem free_of {s : Nat} {S p q : List Nat} (h : s ∉ p) : ∀ i, i < p.length → pre (s :: S) ((p ++ q).drop i) = false := fun i hi => by
  have hlt : i < (p ++ q).length := by rw [List.length_append]; omega
  have e : (p ++ q).drop i = (p ++ q)[i] :: (p ++ q).drop (i + 1) := List.drop_eq_getElem_cons hlt
  rw [e]
  refine pre_of_head _ _ fun z => h ?_
  have e1 : (p ++ q)[i] = p[i] := List.getElem_append_left hi
  rw [← z, e1]
  exact List.getElem_mem hi
end TL
end 
namespace L2
open PySem PySem.Spec PyProof.Rows
section
variable {X : Cx} {pins : List (Addr × Obj)} {σ : St} {H : Hp} {s : Shared} {Q : VK}
end
section
variable {X : Cx}
end
section
variable {X : Cx} {o e : Expr} {to te : TE}
end
end L2
namespace L2
open PySem PySem.Spec PyProof.Rows
section
variable {X : Cx}
end
end L2
namespace Att
open PySem PySem.W PySem.Calls PyProof.Rows
theorem ints_of_wellAll {P : Params} {h : Heap} : ∀ (ns : List Int) (vs : List Value), WellAll P h vs (ns.map WData.int) → IntsAre vs ns := by
  intro ns
  induction ns with
  | nil =>
    intro vs w
    rw [List.map_nil] at w
    cases w
    exact .nil
  | cons n ns ih =>
    intro vs w
    rw [List.map_cons] at w
    cases w with
    | cons a b =>
      cases a
      exact .cons _ _ (ih _ b)
theorem script_of {l : OpenLaw} {n : Nat} (hn : l.most = some n) {P : Params} {h : Heap} {args : List WData} {vals : List Value}
    (hpre : l.row.toRowW.claim.pre args = true) (hwl : WellAll P h vals args) :
    ∃ a vs ns, vals = [Value.ref a] ∧ args = [WData.list (ns.map WData.int)] ∧ h.get? a = some { cls := .type "list", data := .seq vs.toArray } ∧ IntsAre vs ns ∧ ns.length ≤ n := by
  have hsh : WShape.hasAll [] args [.list .int] = true := (pre_splitW hpre).1
  have hc : l.pre.holds [] { args := args } = true := (pre_splitW hpre).2
  obtain ⟨d, r, rfl, h1, h2⟩ := hasAllW_cons hsh
  obtain rfl := hasAllW_nil h2
  obtain ⟨xs, rfl, h3⟩ := hasW_list h1
  obtain ⟨ns, rfl⟩ := items_int h3
  have hlen : ns.length ≤ n := by
    unfold OpenLaw.pre at hc
    have h4 : (WTm.not (.lt (.lit (.int (n : Int))) (.len (.arg 0)))).holds [] { args := [.list (ns.map .int)] } = true := by
      have h4 := (holds_andW hc).1
      rw [hn] at h4
      exact h4
    have h5 := condW_of h4 (w_not (w_lt w_lit (w_len_list (w_arg rfl))))
    rw [List.length_map] at h5
    refine Nat.le_of_not_lt fun q => ?_
    have q' : (n : Int) < ((ns.length : Nat) : Int) := by omega
    first
      | (rw [decide_eq_true q'] at h5; exact absurd h5 (by decide))
      | (simp at h5; omega)
  cases hwl with
  | cons w1 w2 =>
    cases w2
    cases w1 with
    | list ho hall => exact ⟨_, _, ns, rfl, rfl, ho, ints_of_wellAll ns _ hall, hlen⟩
theorem post_true (l : OpenLaw) (args : List WData) : l.row.toRowW.claim.post args (.bool true) args = true :=
  postW_of (r := l.row.toRowW) (X := (true == true))
    (show WShape.has [] (.bool true) .bool = true by first | rfl | decide | simp [WShape.has, WShape.arms, WShape.armsAll])
    (show (WTm.eq .res (.lit (.bool true))).value [] { args := args, res := some (.bool true), after := args } = some (.bool (true == true)) from w_eq_bool (w_res rfl) w_lit) rfl
theorem attach_call {l : OpenLaw} {n : Nat} {q : Program} {loose : List Str} {XP : (Str → Option Value) → Heap → Prop} {YP : World → Heap → Prop} {d : DefRec}
    (hn : l.most = some n) (hdf : d.params.defaults = [])
    (call : ∀ (w : World) (s₀ s₁ : Shared) (mg mb : Str → Option Value) (fa : Addr) (o : Obj) (pm cd doc : Value) (a : Addr) (vs : List Value) (ns : List Int),
      Ground q loose [] XP w s₀ mg mb s₁.heap → YP w s₁.heap →
      s₁.heap.get? fa = some o → o.data = .func (docDef d.name d.params d.body d.scope pm cd doc) → s₁.heap.CodeRec cd d.name → mg d.name = some (.ref fa) →
      s₁.heap.get? a = some { cls := .type "list", data := .seq vs.toArray } → IntsAre vs ns → ns.length ≤ n → s₁.gens = #[] →
      codeAny (model l.prog w) callerA (.call (.ref fa) ⟨[.ref a], []⟩) (fun r s' => r = .ok (.ret (.bool true)) ∧ OldK s₁.heap s'.heap ∧ s'.os = s₁.os ∧ AllBare s'.gens) s₁) :
    WalkO q loose XP YP l.row.toRowW d [] (fun f vs => PySem.call f vs) := by
  intro w s₀ s₁ mg mb G Y fa o pm cd doc dV kV ho hd hcd hD hmg hg args vals as hpre hlay hrd hwl hlo
  obtain rfl : dV = .none := Dflts.none hD hdf
  obtain rfl : kV = .none := Dflts.noKw hD
  obtain ⟨a, vs, ns, rfl, rfl, hobj, hints, hlen⟩ := script_of hn hpre hwl
  refine enter_call (codeAny_mono (call w s₀ s₁ mg mb fa o pm cd doc a vs ns G Y ho (fd_plain hd) hcd hmg hobj hints hlen hg) fun r s' hq => ?_)
  obtain ⟨rfl, h2, h3, h4⟩ := hq
  exact ⟨.inl ⟨.bool true, .bool true, [], rfl, fun _ => rfl, .bool true, post_true l _, fun _ => ⟨List.Pairwise.nil, fun _ hm => (nomatch hm)⟩⟩, h2, h3, h4⟩
section
variable {prog : Program} {w : World} {A : Around} {E : Value → Shared → Prop} {s : Shared} {K : Frag}
end
end Att
namespace L2
open PySem PySem.Spec PyProof.Rows
theorem vals_ints : ∀ {vs : List Value} {ns : List Int}, IntsAre vs ns → Vals (ns.map V.int) vs
  | _, _, .nil => .nil
  | _, _, .cons n t h => .cons ⟨t, rfl⟩ (vals_ints h)
end L2
namespace L2
open PySem PySem.Spec PyProof.Rows
end L2
namespace L2
open PySem PySem.Spec PyProof.Rows
def defArgs (s : Stmt) : Arguments := match s with
  | .FunctionDef _ a _ _ _ _ _ _ _ _ => a
  | _ => { posonlyargs := [], args := [], vararg := none, kwonlyargs := [], kw_defaults := [], kwarg := none, defaults := [] }
def defBody (s : Stmt) : List Stmt := match s with
  | .FunctionDef _ _ b _ _ _ _ _ _ _ => b
  | _ => []
def defScope (s : Stmt) : Scope := match s with
  | .FunctionDef _ _ _ _ _ _ sc _ _ _ => sc
  | _ => { kind := .function, names := [], isGenerator := false, isCoroutine := false }
abbrev CX0 : CXT := fun _ _ _ _ _ _ => False
abbrev E0 : XK := fun _ _ _ => False
theorem pass0 {X : Cx} : Passes CX0 X E0 := fun _ _ _ _ _ _ _ h => h.elim
structure Fun (K : PySem.W.Frag) (x qual : Str) (st : Stmt) (f : Addr) (fd : FuncData) : Prop where
  ex : ∃ (oc : Value) (od : Option Addr) (kV doc pm : Value) (an : Option Addr) (cdv ct : Value) (osl : Array (Option Value)),
    fd = PySem.W.fnOf x qual (defArgs st) (defBody st) (defScope st) .none kV doc pm an cdv ct ∧ K.lookup f = some ⟨oc, od, .func fd, osl⟩ ∧ PySem.W.codeIn K cdv qual = true
  kp : PySem.W.keepIn K (.ref f) = true
section
variable {P : Program} {w : World} {K : PySem.W.Frag} {mg : Str → Option Value} {base : Heap}
theorem Fun.ok {x qual : Str} {st : Stmt} {f : Addr} {fd : FuncData} {N ps : List Str} {k : Nat} {sp : Sp} (F : Fun K x qual st f fd) (S : FnScope N ps (defScope st)) (len : ∀ vs H Q E, sp vs H Q E → vs.length = ps.length)
    (hbody : ∀ (cdv : Value) (A : Around) (outer : List Env) (s : Shared) (H : Hp) (vs : List V) (Q : VK) (E : XK), Room k (A.deeper (envOfC qual (defScope st) s.heap.objs.size f cdv)) → sp vs H Q E →
      ∃ t, PSs (cxOf CX0 P w K mg base N qual (defScope st) f cdv A outer s H E).nox (defBody st) t ∧ t { nx := fun _ H' => Q .non H', rt := Q } (start N vs) H) : FnOk P w K mg base CX0 (k + 1) f fd ps sp := by
  obtain ⟨oc, od, kV, doc, pm, an, cdv, ct, osl, rfl, lk, hcd⟩ := F.ex
  refine fn_of lk hcd S len fun A outer s H vs Q E hr hsp => ?_
  obtain ⟨t, h, q⟩ := hbody cdv A outer s H vs Q E hr hsp
  exact ⟨t, h.nox, q⟩
theorem Fun.binds {x qual : Str} {st : Stmt} {f : Addr} {fd : FuncData} {ps : List Str} (F : Fun K x qual st f fd)
    (h : ∀ (kV doc pm : Value) (an : Option Addr) (cdv ct : Value) (us : List Value), us.length = ps.length → bindArgs (PySem.W.fnOf x qual (defArgs st) (defBody st) (defScope st) .none kV doc pm an cdv ct) ⟨us, []⟩ = pure (ps.zip us)) : Binds K fd ps [] := by
  obtain ⟨oc, od, kV, doc, pm, an, cdv, ct, osl, rfl, lk, hcd⟩ := F.ex
  exact .all (h kV doc pm an cdv ct)
end
theorem hu_of {A : Around} {k : Nat} (hr : Room k A) : A.units + 1 < cLine := Nat.lt_of_le_of_lt (Nat.add_le_add_left (by decide : 1 ≤ 64) _) hr.units
section
variable {X : Cx}
theorem pv (i : Nat) {x : Str} {pos : Pos} (hN : X.N[i]? = some x := by rfl) (hv : Vis X.env.scope x := by first | exact Or.inl rfl | exact Or.inr (Or.inl rfl) | exact Or.inr (Or.inr rfl)) (hd : (x == ("__debug__" : Str)) = false := by decide)
    (hcd : (x == ("__classdict__" : Str)) = false := by decide) : PE X (.Name x pos) (tVar i) := pe_var hN hv hd hcd
theorem call_lenD : CallR X (.builtin "len") (fun xs H Q => ∃ a kvs, xs = [V.ref a] ∧ H a = some (.dK kvs) ∧ Q (.int kvs.length) H) := by
  intro pins s σ H xs us Q I r h
  obtain ⟨a, kvs, rfl, ha, q⟩ := h
  obtain ⟨u, rfl, ru⟩ := vals1 r
  cases ru
  exact d_len I (.inl ha) fun t s' I' => ⟨.int kvs.length, H, I', ⟨t, rfl⟩, q⟩
end
def Same (H H' : Hp) : Prop := ∀ b o, H b = some o → H' b = some o
theorem Same.refl (H : Hp) : Same H H := fun _ _ h => h
theorem Same.trans {H H1 H2 : Hp} (a : Same H H1) (b : Same H1 H2) : Same H H2 := fun c o h => b c o (a c o h)
theorem Same.free {H H' : Hp} (e : Same H H') {l : Addr} (h : H' l = Option.none) : H l = Option.none := by
  cases q : H l with
  | none => rfl
  | some o =>
    rw [e l o q] at h
    cases h
theorem Same.seq {K : PySem.W.Frag} {H H' : Hp} {a : Addr} {xs : List V} (e : Same H H') (h : SqL K H a xs) : SqL K H' a xs := by
  rcases h with (h | ⟨o, h⟩) | h
  · exact .inl (.inl (e _ _ h))
  · exact .inl (.inr ⟨o, e _ _ h⟩)
  · exact .inr h
section
variable {κ : Type} [DecidableEq κ]
end
end L2
set_option Elab.async false
set_option linter.all false
set_option maxRecDepth 100000
namespace Q
open PySem PySem.Spec PyProof.Rows L2
abbrev D := PyData
theorem limE : ∃ n : Nat, n = 1000000 := ⟨_, rfl⟩
noncomputable def lim : Nat := Classical.choose limE
theorem lim_eq : lim = 1000000 := Classical.choose_spec limE
theorem le_lim {n : Nat} (h : n ≤ 1000000) : n ≤ lim := by rw [lim_eq]; exact h
theorem lt_lim {n : Nat} (h : n < 1000000) : n < lim := by rw [lim_eq]; exact h
abbrev Fg := PySem.W.Frag
def scr (ds : List PyData) : PyData := .dict [(.bool true, .list ds)]
def hd (n : Nat) : D := .dict [(.none, .int n)]
def kd : Key → D
  | .inl i => .int i
  | .inr x => .str x
abbrev Le (F F' : Hp) : Prop := Same F F'
mutual
inductive Rl (K : Fg) (F : Hp) (C : List Addr) : V → D → Prop
  | non : Rl K F C .non .none
  | bl (b : Bool) : Rl K F C (.bl b) (.bool b)
  | int (i : Int) : Rl K F C (.int i) (.int i)
  | str (x : Str) : Rl K F C (.str x) (.str x)
  | lst {a : Addr} {xs : List V} {ds : List D} : F a = some (.lst xs) → Rls K F C xs ds → Rl K F C (.ref a) (.list ds)
  | scr {a : Addr} {xs : List V} {ds : List D} : SqL K F a xs → Rls K F C xs ds → Rl K F C (.ref a) (.dict [(.bool true, .list ds)])
  | tup {a : Addr} {xs : List V} {ds : List D} : F a = some (.tup xs) → Rls K F C xs ds → Rl K F C (.ref a) (.tuple ds)
  | hd {a : Addr} {n : Nat} : C[n]? = some a → Rl K F C (.ref a) (.dict [(.none, .int n)])
inductive Rls (K : Fg) (F : Hp) (C : List Addr) : List V → List D → Prop
  | nil : Rls K F C [] []
  | cons {v : V} {vs : List V} {d : D} {ds : List D} : Rl K F C v d → Rls K F C vs ds → Rls K F C (v :: vs) (d :: ds)
end
theorem sqT_le {K : Fg} {F F' : Hp} {a : Addr} {xs : List V} (e : Le F F') (h : SqT K F a xs) : SqT K F' a xs := by
  rcases h with (h | ⟨o, h⟩) | h
  · exact .inl (.inl (e _ _ h))
  · exact .inl (.inr ⟨o, e _ _ h⟩)
  · exact .inr h
theorem sqL_le {K : Fg} {F F' : Hp} {a : Addr} {xs : List V} (e : Le F F') (h : SqL K F a xs) : SqL K F' a xs := e.seq h
theorem pre_get {α : Type} {C C' : List α} (h : C <+: C') {n : Nat} {a : α} (e : C[n]? = some a) : C'[n]? = some a := by
  obtain ⟨t, rfl⟩ := h
  obtain ⟨h1, h2⟩ := List.getElem?_eq_some_iff.mp e
  rw [List.getElem?_append_left h1]
  exact e
mutual
theorem Rl.le {K : Fg} {F F' : Hp} {C C' : List Addr} (e : Le F F') (c : C <+: C') : ∀ {v : V} {d : D}, Rl K F C v d → Rl K F' C' v d
  | _, _, .non => .non
  | _, _, .bl b => .bl b
  | _, _, .int i => .int i
  | _, _, .str x => .str x
  | _, _, .lst h r => .lst (e _ _ h) (Rls.le e c r)
  | _, _, .scr h r => .scr (sqL_le e h) (Rls.le e c r)
  | _, _, .tup h r => .tup (e _ _ h) (Rls.le e c r)
  | _, _, .hd h => .hd (pre_get c h)
theorem Rls.le {K : Fg} {F F' : Hp} {C C' : List Addr} (e : Le F F') (c : C <+: C') : ∀ {vs : List V} {ds : List D}, Rls K F C vs ds → Rls K F' C' vs ds
  | _, _, .nil => .nil
  | _, _, .cons r t => .cons (Rl.le e c r) (Rls.le e c t)
end
section
variable {K : Fg} {F : Hp} {C : List Addr}
theorem Rls.length : ∀ {vs : List V} {ds : List D}, Rls K F C vs ds → vs.length = ds.length
  | _, _, .nil => rfl
  | _, _, .cons _ t => by rw [List.length_cons, List.length_cons, Rls.length t]
theorem Rls.append : ∀ {vs ws : List V} {ds es : List D}, Rls K F C vs ds → Rls K F C ws es → Rls K F C (vs ++ ws) (ds ++ es)
  | _, _, _, _, .nil, r => r
  | _, _, _, _, .cons h t, r => .cons h (Rls.append t r)
theorem Rls.drop : ∀ {vs : List V} {ds : List D} (n : Nat), Rls K F C vs ds → Rls K F C (vs.drop n) (ds.drop n)
  | _, _, 0, r => r
  | _, _, _ + 1, .nil => .nil
  | _, _, n + 1, .cons _ t => Rls.drop n t
theorem Rls.take : ∀ {vs : List V} {ds : List D} (n : Nat), Rls K F C vs ds → Rls K F C (vs.take n) (ds.take n)
  | _, _, 0, _ => .nil
  | _, _, _ + 1, .nil => .nil
  | _, _, n + 1, .cons h t => .cons h (Rls.take n t)
theorem Rls.get : ∀ {vs : List V} {ds : List D} {n : Nat} {d : D}, Rls K F C vs ds → ds[n]? = some d → ∃ v, vs[n]? = some v ∧ Rl K F C v d
  | _, _, _, _, .nil, e => by simp at e
  | _, _, 0, _, .cons h _, e => by simp at e; subst e; exact ⟨_, rfl, h⟩
  | _, _, n + 1, d, .cons _ t, e => by
    obtain ⟨v, h1, h2⟩ := Rls.get (n := n) (d := d) t (by simpa using e)
    exact ⟨v, by simpa using h1, h2⟩
theorem Rls.at {vs : List V} {ds : List D} {n : Nat} {v : V} (r : Rls K F C vs ds) (e : vs[n]? = some v) : ∃ d, ds[n]? = some d ∧ Rl K F C v d := by
  have hl := r.length
  obtain ⟨h1, h2⟩ := List.getElem?_eq_some_iff.mp e
  have e2 : ds[n]? = some ds[n] := List.getElem?_eq_getElem (by omega)
  obtain ⟨u, h3, h4⟩ := r.get e2
  rw [e] at h3
  cases h3
  exact ⟨_, e2, h4⟩
theorem Rls.dropLast {vs : List V} {ds : List D} (r : Rls K F C vs ds) : Rls K F C vs.dropLast ds.dropLast := by
  rw [List.dropLast_eq_take, List.dropLast_eq_take, r.length]
  exact r.take _
theorem Rls.ints : ∀ {vs : List V} {ns : List Int}, Rls K F C vs (ns.map PyData.int) → vs = ns.map V.int
  | _, [], .nil => rfl
  | _, n :: ns, .cons h t => by
    cases h
    rw [List.map_cons, Rls.ints t]
theorem Rls.of_ints : ∀ (ns : List Int), Rls K F C (ns.map V.int) (ns.map PyData.int)
  | [] => .nil
  | n :: ns => .cons (.int n) (Rls.of_ints ns)
end
inductive HC where
  | lst (xs : List D)
  /-- the table of a def's code -/
  | tab (P : Addr)
  /-- a dict by ints and texts, by tuples of them -/
  | dK (kvs : List (Key × D))
  | dT (kvs : List (List Key × D))
  /-- an instance: its class, the cell of its dict, its attributes -/
  | ins (c : Addr) (m : Nat) (fs : List (Str × D))
  /-- the dict of the instance in that cell -/
  | odx (k : Nat)
abbrev Hq := List HC
def CellX (K : Fg) (F : Hp) (C : List Addr) (H : Hp) (a : Addr) : HC → Prop
  | .lst _ => True
  | .tab _ => True
  | .dK kvs => ∃ vs : List (Key × V), H a = some (.dK vs) ∧ vs.map (·.1) = kvs.map (·.1) ∧ Rls K F C (vs.map (·.2)) (kvs.map (·.2))
  | .dT kvs => ∃ vs : List (List Key × V), H a = some (.dT vs) ∧ vs.map (·.1) = kvs.map (·.1) ∧ Rls K F C (vs.map (·.2)) (kvs.map (·.2))
  | .ins c m fs => ∃ dx, ∃ vs : List (Str × V), C[m]? = some dx ∧ H a = some (.ins c dx vs) ∧ vs.map (·.1) = fs.map (·.1) ∧ Rls K F C (vs.map (·.2)) (fs.map (·.2))
  | .odx k => ∃ b, C[k]? = some b ∧ H a = some (.own b)
theorem CellX.keep {K : Fg} {F F' H H' : Hp} {C C' : List Addr} {a : Addr} {c : HC} (f : Le F F') (cc : C <+: C') (hH : H' a = H a) (x : CellX K F C H a c) : CellX K F' C' H' a c := by
  cases c with
  | lst _ => trivial
  | tab _ => trivial
  | dK kvs => obtain ⟨vs, e, q, r⟩ := x; exact ⟨vs, by rw [hH]; exact e, q, r.le f cc⟩
  | dT kvs => obtain ⟨vs, e, q, r⟩ := x; exact ⟨vs, by rw [hH]; exact e, q, r.le f cc⟩
  | ins cl m fs => obtain ⟨dx, vs, e0, e, q, r⟩ := x; exact ⟨dx, vs, pre_get cc e0, by rw [hH]; exact e, q, r.le f cc⟩
  | odx k => obtain ⟨b, e0, e⟩ := x; exact ⟨b, pre_get cc e0, by rw [hH]; exact e⟩
structure HR (K : Fg) (F G : Hp) (C : List Addr) (h : Hq) (H : Hp) : Prop where
  fg : Le F G
  gh : Le G H
  nd : C.Nodup
  out : ∀ a ∈ C, G a = none
  len : C.length = h.length
  cell : ∀ (n : Nat) a xs, C[n]? = some a → h[n]? = some (.lst xs) → ∃ vs, H a = some (.lst vs) ∧ Rls K F C vs xs
  tab : ∀ (n : Nat) P, h[n]? = some (.tab P) → C[n]? = some P ∧ ∃ ps, H P = some (.tbl ps) ∧ TriplesOk ps.toList
  more : ∀ (n : Nat) a c, C[n]? = some a → h[n]? = some c → CellX K F C H a c
theorem HR.fh {K : Fg} {F G : Hp} {C : List Addr} {h : Hq} {H : Hp} (r : HR K F G C h H) : Le F H := r.fg.trans r.gh
theorem HR.at {K : Fg} {F G : Hp} {C : List Addr} {h : Hq} {H : Hp} (r : HR K F G C h H) {a : Addr} (hm : a ∈ C) : ∃ o, H a = some o ∧ ∀ xs, o ≠ HO.tup xs := by
  obtain ⟨n, hn, e⟩ := List.getElem_of_mem hm
  have e1 : C[n]? = some a := by rw [List.getElem?_eq_getElem hn, e]
  have hn2 : n < h.length := by rw [← r.len]; exact hn
  cases q : h[n] with
  | lst xs =>
    obtain ⟨vs, e3, _⟩ := r.cell n a xs e1 (by rw [List.getElem?_eq_getElem hn2, q])
    exact ⟨_, e3, fun _ z => nomatch z⟩
  | tab P =>
    obtain ⟨e2, ps, e3, _⟩ := r.tab n P (by rw [List.getElem?_eq_getElem hn2, q])
    rw [e1] at e2
    cases e2
    exact ⟨_, e3, fun _ z => nomatch z⟩
  | dK kvs =>
    obtain ⟨vs, e3, _⟩ := r.more n a _ e1 (by rw [List.getElem?_eq_getElem hn2, q])
    exact ⟨_, e3, fun _ z => nomatch z⟩
  | dT kvs =>
    obtain ⟨vs, e3, _⟩ := r.more n a _ e1 (by rw [List.getElem?_eq_getElem hn2, q])
    exact ⟨_, e3, fun _ z => nomatch z⟩
  | ins c m fs =>
    obtain ⟨dx, vs, _, e3, _⟩ := r.more n a _ e1 (by rw [List.getElem?_eq_getElem hn2, q])
    exact ⟨_, e3, fun _ z => nomatch z⟩
  | odx k =>
    obtain ⟨b, _, e3⟩ := r.more n a _ e1 (by rw [List.getElem?_eq_getElem hn2, q])
    exact ⟨_, e3, fun _ z => nomatch z⟩
theorem le_upd {H : Hp} {p : Addr} (h : H p = none) (o : HO) : Le H (upd H p o) := fun b u q => by rw [upd_ne (ne_of_none q h)]; exact q
theorem HR.new {K : Fg} {F G : Hp} {C : List Addr} {h : Hq} {H : Hp} (r : HR K F G C h H) {p : Addr} (hp : H p = none) (o : HO) : HR K (upd F p o) (upd G p o) C h (upd H p o) ∧ Le F (upd F p o) ∧ Le G (upd G p o) := by
  have hG : G p = none := r.gh.free hp
  have hF : F p = none := r.fg.free hG
  have hC : p ∉ C := fun hm => by
    obtain ⟨o, e, _⟩ := r.at hm
    rw [hp] at e
    cases e
  have mono : ∀ {A B : Hp}, Le A B → Le (upd A p o) (upd B p o) := fun {A B} ab b u q => by
    by_cases hb : b = p
    · subst hb; rw [upd_same] at q ⊢; exact q
    · rw [upd_ne hb] at q ⊢; exact ab b u q
  refine ⟨⟨mono r.fg, mono r.gh, r.nd, fun a ha => ?_, r.len, fun n a xs e1 e2 => ?_, fun n P e1 => ?_, fun n a c e1 e2 => (r.more n a c e1 e2).keep (le_upd hF o) (List.prefix_refl _) (upd_ne (show a ≠ p from fun z => hC (by rw [← z]; exact List.mem_of_getElem? e1)))⟩, le_upd hF o, le_upd hG o⟩
  · rw [upd_ne (show a ≠ p from fun z => hC (by rw [← z]; exact ha))]
    exact r.out a ha
  · obtain ⟨vs, e3, r3⟩ := r.cell n a xs e1 e2
    have hm : a ∈ C := List.mem_of_getElem? e1
    exact ⟨vs, by rw [upd_ne (show a ≠ p from fun z => hC (by rw [← z]; exact hm))]; exact e3, r3.le (le_upd hF o) (List.prefix_refl _)⟩
  · obtain ⟨e2, ps, e3, t⟩ := r.tab n P e1
    exact ⟨e2, ps, by rw [upd_ne (ne_of_none e3 hp)]; exact e3, t⟩
inductive Sl where
  | no
  | val (d : D)
  | own (xs : List D)
  | dT (ks : List (List Key))
  | dK (ks : List Key)
abbrev Rho := List Sl
def SlR (K : Fg) (F G : Hp) (C : List Addr) (v : Option (Option V)) : Sl → Prop
  | .no => True
  | .val d => ∃ u, v = some (some u) ∧ Rl K F C u d
  | .own xs => ∃ a vs, v = some (some (.ref a)) ∧ G a = some (.lst vs) ∧ Rls K F C vs xs
  | .dT ks => ∃ a kvs, v = some (some (.ref a)) ∧ G a = some (.dT kvs) ∧ kvs.map (·.1) = ks
  | .dK ks => ∃ a kvs, v = some (some (.ref a)) ∧ G a = some (.dK kvs) ∧ kvs.map (·.1) = ks
theorem SlR.le {K : Fg} {F G F' G' : Hp} {C C' : List Addr} {v : Option (Option V)} {s : Sl} (f : Le F F') (g : Le G G') (c : C <+: C') (h : SlR K F G C v s) : SlR K F' G' C' v s := by
  cases s with
  | no => trivial
  | val d => obtain ⟨u, e, r⟩ := h; exact ⟨u, e, r.le f c⟩
  | own xs => obtain ⟨a, vs, e, q, r⟩ := h; exact ⟨a, vs, e, g _ _ q, r.le f c⟩
  | dT ks => obtain ⟨a, vs, e, q, r⟩ := h; exact ⟨a, vs, e, g _ _ q, r⟩
  | dK ks => obtain ⟨a, vs, e, q, r⟩ := h; exact ⟨a, vs, e, g _ _ q, r⟩
def ER (K : Fg) (F G : Hp) (C : List Addr) (ρ : Rho) (σ : L2.St) : Prop := ρ.length = σ.length ∧ ∀ (i : Nat) s, ρ[i]? = some s → SlR K F G C σ[i]? s
theorem ER.le {K : Fg} {F G F' G' : Hp} {C C' : List Addr} {ρ : Rho} {σ : L2.St} (f : Le F F') (g : Le G G') (c : C <+: C') (h : ER K F G C ρ σ) : ER K F' G' C' ρ σ := ⟨h.1, fun i s e => (h.2 i s e).le f g c⟩
abbrev ME := Rho → Hq → Option (D × Hq)
abbrev MT := Rho → Hq → Option (Bool × Hq)
abbrev MA := Rho → Hq → Option (List D × Hq)
structure Aft (K : Fg) (F G : Hp) (C : List Addr) (F' G' : Hp) (C' : List Addr) (h' : Hq) (H' : Hp) : Prop where
  f : Le F F'
  g : Le G G'
  c : C <+: C'
  r : HR K F' G' C' h' H'
  nf : ∀ a o, G a = some o → (∀ xs, o ≠ HO.tup xs) → F' a = F a
theorem Aft.refl {K : Fg} {F G : Hp} {C : List Addr} {h : Hq} {H : Hp} (r : HR K F G C h H) : Aft K F G C F G C h H := ⟨Same.refl _, Same.refl _, List.prefix_refl _, r, fun _ _ _ _ => rfl⟩
theorem Aft.trans {K : Fg} {F G F1 G1 F2 G2 : Hp} {C C1 C2 : List Addr} {h1 h2 : Hq} {H1 H2 : Hp} (a : Aft K F G C F1 G1 C1 h1 H1) (b : Aft K F1 G1 C1 F2 G2 C2 h2 H2) : Aft K F G C F2 G2 C2 h2 H2 :=
  ⟨a.f.trans b.f, a.g.trans b.g, a.c.trans b.c, b.r, fun c o e n => (b.nf c o (a.g _ _ e) n).trans (a.nf c o e n)⟩
theorem Aft.new {K : Fg} {F G : Hp} {C : List Addr} {h : Hq} {H : Hp} (r : HR K F G C h H) {p : Addr} (hp : H p = none) (o : HO) : Aft K F G C (upd F p o) (upd G p o) C h (upd H p o) :=
  ⟨(r.new hp o).2.1, (r.new hp o).2.2, List.prefix_refl _, (r.new hp o).1, fun c u e _ => upd_ne (show c ≠ p from fun z => by rw [z, r.gh.free hp] at e; cases e)⟩
def RE (K : Fg) (t : TE) (m : ME) : Prop := ∀ (σ : L2.St) (H F G : Hp) (C : List Addr) (ρ : Rho) (h : Hq) (d : D) (h' : Hq) (Q : VK), HR K F G C h H → ER K F G C ρ σ → m ρ h = some (d, h') →
  (∀ u H' F' G' C', Aft K F G C F' G' C' h' H' → Rl K F' C' u d → Q u H') → t σ H Q
def RT (K : Fg) (t : TT) (m : MT) : Prop := ∀ (σ : L2.St) (H F G : Hp) (C : List Addr) (ρ : Rho) (h : Hq) (b : Bool) (h' : Hq) (Q : Bool → Hp → Prop), HR K F G C h H → ER K F G C ρ σ → m ρ h = some (b, h') →
  (∀ H' F' G' C', Aft K F G C F' G' C' h' H' → Q b H') → t σ H Q
def RA (K : Fg) (t : TA) (m : MA) : Prop := ∀ (σ : L2.St) (H F G : Hp) (C : List Addr) (ρ : Rho) (h : Hq) (ds : List D) (h' : Hq) (Q : List V → Hp → Prop), HR K F G C h H → ER K F G C ρ σ → m ρ h = some (ds, h') →
  (∀ us H' F' G' C', Aft K F G C F' G' C' h' H' → Rls K F' C' us ds → Q us H') → t σ H Q
inductive SE (X : Cx) (e : Expr) (m : ME) : Prop
  | mk (t : TE) (p : PE X e t) (r : RE X.K t m)
inductive ST (X : Cx) (e : Expr) (m : MT) : Prop
  | mk (t : TT) (p : PT X e t) (r : RT X.K t m)
inductive SW (X : Cx) (e : Expr) (m : MT) : Prop
  | mk (t : TT) (p : PW X e t) (r : RT X.K t m)
inductive SA (X : Cx) (es : List Expr) (m : MA) : Prop
  | mk (t : TA) (p : PA X es t) (r : RA X.K t m)
@[irreducible] def eVar (i : Nat) : ME := fun ρ h => match ρ[i]? with | some (.val d) => some (d, h) | _ => none
@[irreducible] def eC (d : D) : ME := fun _ h => some (d, h)
@[irreducible] def eOp (f : D → D → Option D) (a b : ME) : ME := fun ρ h => match a ρ h with | none => none | some (x, h1) => match b ρ h1 with | none => none | some (y, h2) => match f x y with | none => none | some z => some (z, h2)
@[irreducible] def eUn (f : D → Option D) (a : ME) : ME := fun ρ h => match a ρ h with | none => none | some (x, h1) => match f x with | none => none | some z => some (z, h1)
@[irreducible] def eAnd (a b : ME) : ME := fun ρ h => match a ρ h with | some (.bool c, h1) => if c then b ρ h1 else some (.bool false, h1) | _ => none
@[irreducible] def eOr (a b : ME) : ME := fun ρ h => match a ρ h with | some (.bool c, h1) => if c then some (.bool true, h1) else b ρ h1 | _ => none
@[irreducible] def eIf (t : MT) (a b : ME) : ME := fun ρ h => match t ρ h with | none => none | some (c, h1) => if c then a ρ h1 else b ρ h1
@[irreducible] def aNil : MA := fun _ h => some ([], h)
@[irreducible] def aCons (a : ME) (b : MA) : MA := fun ρ h => match a ρ h with | none => none | some (x, h1) => match b ρ h1 with | none => none | some (xs, h2) => some (x :: xs, h2)
@[irreducible] def eA (f : List D → Option D) (a : MA) : ME := fun ρ h => match a ρ h with | none => none | some (xs, h1) => match f xs with | none => none | some z => some (z, h1)
@[irreducible] def eCall (f : List D → Hq → Option (D × Hq)) (a : MA) : ME := fun ρ h => match a ρ h with | none => none | some (xs, h1) => f xs h1
@[irreducible] def tAndM (a b : MT) : MT := fun ρ h => match a ρ h with | none => none | some (c, h1) => if c then b ρ h1 else some (false, h1)
@[irreducible] def tOrM (a b : MT) : MT := fun ρ h => match a ρ h with | none => none | some (c, h1) => if c then some (true, h1) else b ρ h1
@[irreducible] def tNotM (a : MT) : MT := fun ρ h => match a ρ h with | none => none | some (c, h1) => some (!c, h1)
@[irreducible] def tValM (f : D → Option Bool) (a : ME) : MT := fun ρ h => match a ρ h with | none => none | some (x, h1) => match f x with | none => none | some b => some (b, h1)
end Q
set_option Elab.async false
set_option linter.all false
set_option maxRecDepth 100000
namespace Q
open PySem PySem.Spec PyProof.Rows L2
section
variable {X : Cx} {e a b c : Expr} {es : List Expr} {pos p : Pos} {ma mb mc : ME} {mt mu : MT} {ml : MA}
theorem se_var (i : Nat) {x : Str} (hN : X.N[i]? = some x := by rfl) (hv : Vis X.env.scope x := by first | exact Or.inl rfl | exact Or.inr (Or.inl rfl) | exact Or.inr (Or.inr rfl)) (hd : (x == ("__debug__" : Str)) = false := by decide)
    (hcd : (x == ("__classdict__" : Str)) = false := by decide) : SE X (.Name x pos) (eVar i) :=
  .mk _ (pe_var hN hv hd hcd) fun σ H F G C ρ h d h' Q r er hm q => by
    unfold eVar at hm
    split at hm
    · rename_i d' e
      cases hm
      obtain ⟨u, e1, r1⟩ := er.2 i _ e
      exact ⟨u, e1, q u H F G C (.refl r) r1⟩
    · cases hm
theorem se_c {d : D} {v : V} (hp : PE X e (tC v)) (hr : ∀ F C, Rl X.K F C v d) : SE X e (eC d) :=
  .mk _ hp fun σ H F G C ρ h d h' Q r er hm q => by
    unfold eC at hm
    cases hm
    exact q v H F G C (.refl r) (hr _ _)
theorem se_int {i : Int} {j} : SE X (.Constant (.int i) j pos) (eC (.int i)) := se_c pe_int fun _ _ => .int i
theorem se_bl {b : Bool} {j} : SE X (.Constant (.bool b) j pos) (eC (.bool b)) := se_c pe_bl fun _ _ => .bl b
theorem se_non {j} : SE X (.Constant .none j pos) (eC .none) := se_c pe_non fun _ _ => .non
theorem se_str {x : Str} {j} : SE X (.Constant (.str x) j pos) (eC (.str x)) := se_c pe_str fun _ _ => .str x
def RO (K : Fg) (r : R2) (f : D → D → Option D) : Prop := ∀ (x y : V) (H F G : Hp) (C : List Addr) (h : Hq) (dx dy d : D) (Q : VK), HR K F G C h H → Rl K F C x dx → Rl K F C y dy → f dx dy = some d →
  (∀ u H' F' G', Aft K F G C F' G' C h H' → Rl K F' C u d → Q u H') → r x y H Q
inductive SO (X : Cx) (f : Value → Value → Sem Value) (g : D → D → Option D) : Prop
  | mk (r : R2) (p : OpR X f r) (q : RO X.K r g)
def orG (f g : D → D → Option D) : D → D → Option D := fun x y => match f x y with | some z => some z | none => g x y
theorem SO.or {f : Value → Value → Sem Value} {g g' : D → D → Option D} (h : SO X f g) (h' : SO X f g') : SO X f (orG g g') := by
  obtain ⟨r, p, q⟩ := h
  obtain ⟨r', p', q'⟩ := h'
  refine .mk _ (p.or p') fun x y H F G C h dx dy d Q hr rx ry e k => ?_
  unfold orG at e
  split at e
  · rename_i z ez
    cases e
    exact .inl (q x y H F G C h dx dy d Q hr rx ry ez k)
  · exact .inr (q' x y H F G C h dx dy d Q hr rx ry e k)
theorem re_op {K : Fg} {r : R2} {g : D → D → Option D} {ta tb : TE} (hr : RO K r g) (ha : RE K ta ma) (hb : RE K tb mb) : RE K (tOp r ta tb) (eOp g ma mb) := by
  intro σ H F G C ρ h d h' Q h0 er hm q
  unfold eOp at hm
  split at hm
  · cases hm
  rename_i x h1 e1
  split at hm
  · cases hm
  rename_i y h2 e2
  split at hm
  · cases hm
  rename_i z e3
  cases hm
  refine ha σ H F G C ρ h x h1 _ h0 er e1 fun u H1 F1 G1 C1 a1 r1 => ?_
  refine hb σ H1 F1 G1 C1 ρ h1 y h' _ a1.r (er.le a1.f a1.g a1.c) e2 fun v H2 F2 G2 C2 a2 r2 => ?_
  exact hr u v H2 F2 G2 C2 h' x y d Q a2.r (r1.le a2.f a2.c) r2 e3 fun w H3 F3 G3 a3 r3 => q w H3 F3 G3 C2 ((a1.trans a2).trans a3) r3
theorem se_op {op : Operator} {g : D → D → Option D} (ho : SO X (binaryOp op) g) (ha : SE X a ma) (hb : SE X b mb) : SE X (.BinOp a op b pos) (eOp g ma mb) := by
  obtain ⟨r, p, q⟩ := ho
  obtain ⟨ta, pa, ra⟩ := ha
  obtain ⟨tb, pb, rb⟩ := hb
  exact .mk _ (pe_op p pa pb) (re_op q ra rb)
theorem se_cmp {op : CmpOp} {g : D → D → Option D} (ho : SO X (compareOp op) g) (ha : SE X a ma) (hb : SE X b mb) (hm : behindInMarks op b = false := by first | exact nomark _ | rfl | with_unfolding_all rfl) : SE X (.Compare a [op] [b] pos) (eOp g ma mb) := by
  obtain ⟨r, p, q⟩ := ho
  obtain ⟨ta, pa, ra⟩ := ha
  obtain ⟨tb, pb, rb⟩ := hb
  exact .mk _ (pe_cmpR p pa pb hm) (re_op q ra rb)
def dB : D → Option Bool
  | .bool b => some b
  | _ => none
theorem rl_bool {K : Fg} {F : Hp} {C : List Addr} {v : V} {b : Bool} (h : Rl K F C v (.bool b)) : v = .bl b := by cases h; rfl
theorem rl_int {K : Fg} {F : Hp} {C : List Addr} {v : V} {b : Int} (h : Rl K F C v (.int b)) : v = .int b := by cases h; rfl
theorem rl_str {K : Fg} {F : Hp} {C : List Addr} {v : V} {b : Str} (h : Rl K F C v (.str b)) : v = .str b := by cases h; rfl
theorem rl_non {K : Fg} {F : Hp} {C : List Addr} {v : V} (h : Rl K F C v .none) : v = .non := by cases h; rfl
theorem dB_some {d : D} {b : Bool} (h : dB d = some b) : d = .bool b := by
  cases d <;> simp [dB] at h
  rw [h]
theorem rt_bool {K : Fg} {t : TE} {m : ME} (h : RE K t m) : RT K (tTest t) (tValM dB m) := by
  intro σ H F G C ρ hq b h' Q h0 er hm q
  unfold tValM at hm
  split at hm
  · cases hm
  rename_i x h1 e1
  split at hm
  · cases hm
  rename_i c e2
  cases hm
  have := dB_some e2
  subst this
  exact h σ H F G C ρ hq _ h' _ h0 er e1 fun u H1 F1 G1 C1 a1 r1 => ⟨b, rl_bool r1, q H1 F1 G1 C1 a1⟩
theorem st_cmp {op : CmpOp} {g : D → D → Option D} (ho : SO X (compareOp op) g) (ha : SE X a ma) (hb : SE X b mb) (hm : behindInMarks op b = false := by first | exact nomark _ | rfl | with_unfolding_all rfl) : ST X (.Compare a [op] [b] pos) (tValM dB (eOp g ma mb)) := by
  obtain ⟨r, p, q⟩ := ho
  obtain ⟨ta, pa, ra⟩ := ha
  obtain ⟨tb, pb, rb⟩ := hb
  exact .mk _ (pt_cmpR p pa pb hm) (rt_bool (re_op q ra rb))
@[irreducible] def eChain (g g' : D → D → Option D) (a b c : ME) : ME := fun ρ h => match a ρ h with | none => none | some (x, h1) => match b ρ h1 with | none => none | some (y, h2) => match g x y with
  | some (.bool k) => if k then (match c ρ h2 with | none => none | some (z, h3) => match g' y z with | none => none | some w => some (w, h3)) else some (.bool false, h2)
  | _ => none
theorem re_chain {K : Fg} {r r' : R2} {g g' : D → D → Option D} {ta tb tc : TE} (hr : RO K r g) (hr' : RO K r' g') (ha : RE K ta ma) (hb : RE K tb mb) (hc : RE K tc mc) : RE K (tChain r r' ta tb tc) (eChain g g' ma mb mc) := by
  intro σ H F G C ρ h d h' Q h0 er hm q
  unfold eChain at hm
  split at hm
  · cases hm
  rename_i x h1 e1
  split at hm
  · cases hm
  rename_i y h2 e2
  split at hm
  · rename_i k e3
    refine ha σ H F G C ρ h x h1 _ h0 er e1 fun u H1 F1 G1 C1 a1 r1 => ?_
    refine hb σ H1 F1 G1 C1 ρ h1 y h2 _ a1.r (er.le a1.f a1.g a1.c) e2 fun v H2 F2 G2 C2 a2 r2 => ?_
    refine hr u v H2 F2 G2 C2 h2 x y _ _ a2.r (r1.le a2.f a2.c) r2 e3 fun w H3 F3 G3 a3 r3 => ?_
    refine ⟨k, rl_bool r3, ?_⟩
    cases k with
    | false =>
      rw [if_neg Bool.false_ne_true] at hm ⊢
      cases hm
      exact q _ H3 F3 G3 C2 ((a1.trans a2).trans a3) (.bl false)
    | true =>
      rw [if_pos rfl] at hm ⊢
      split at hm
      · cases hm
      rename_i z h3 e4
      split at hm
      · cases hm
      rename_i w' e5
      cases hm
      refine hc σ H3 F3 G3 C2 ρ h2 z h' _ a3.r (er.le ((a1.f.trans a2.f).trans a3.f) ((a1.g.trans a2.g).trans a3.g) (a1.c.trans a2.c)) e4 fun v' H4 F4 G4 C4 a4 r4 => ?_
      exact hr' v v' H4 F4 G4 C4 h' y z d Q a4.r (r2.le (a3.f.trans a4.f) a4.c) r4 e5 fun w2 H5 F5 G5 a5 r5 => q w2 H5 F5 G5 C4 ((((a1.trans a2).trans a3).trans a4).trans a5) r5
  · cases hm
theorem se_chain {op op' : CmpOp} {g g' : D → D → Option D} (ho : SO X (compareOp op) g) (ho' : SO X (compareOp op') g') (ha : SE X a ma) (hb : SE X b mb) (hc : SE X c mc)
    (hm : lastMarks [op, op'] [b, c] = false := by with_unfolding_all rfl) : SE X (.Compare a [op, op'] [b, c] pos) (eChain g g' ma mb mc) := by
  obtain ⟨r, p, q⟩ := ho
  obtain ⟨r', p', q'⟩ := ho'
  obtain ⟨ta, pa, ra⟩ := ha
  obtain ⟨tb, pb, rb⟩ := hb
  obtain ⟨tc, pc, rc⟩ := hc
  exact .mk _ (pe_chain p p' pa pb pc hm) (re_chain q q' ra rb rc)
theorem st_chain {op op' : CmpOp} {g g' : D → D → Option D} (ho : SO X (compareOp op) g) (ho' : SO X (compareOp op') g') (ha : SE X a ma) (hb : SE X b mb) (hc : SE X c mc)
    (hm : lastMarks [op, op'] [b, c] = false := by with_unfolding_all rfl) : ST X (.Compare a [op, op'] [b, c] pos) (tValM dB (eChain g g' ma mb mc)) := by
  obtain ⟨r, p, q⟩ := ho
  obtain ⟨r', p', q'⟩ := ho'
  obtain ⟨ta, pa, ra⟩ := ha
  obtain ⟨tb, pb, rb⟩ := hb
  obtain ⟨tc, pc, rc⟩ := hc
  exact .mk _ (pt_chain p p' pa pb pc hm) (rt_bool (re_chain q q' ra rb rc))
def gI (C : Int → Int → Bool) (f : Int → Int → D) : D → D → Option D
  | .int i, .int j => if C i j then some (f i j) else none
  | _, _ => none
theorem gI_some {c : Int → Int → Bool} {f : Int → Int → D} {x y d : D} (h : gI c f x y = some d) : ∃ i j, x = .int i ∧ y = .int j ∧ c i j = true ∧ d = f i j := by
  unfold gI at h
  split at h
  · split at h
    · cases h
      exact ⟨_, _, rfl, rfl, by assumption, rfl⟩
    · cases h
  · cases h
theorem so_I0 {f : Value → Value → Sem Value} {g : Int → Int → V} {g' : Int → Int → D} (ho : OpR X f (rI0 g)) (hr : ∀ F C i j, Rl X.K F C (g i j) (g' i j)) : SO X f (gI (fun _ _ => true) g') :=
  .mk _ ho fun x y H F G C h dx dy d Q h0 rx ry e k => by
    obtain ⟨i, j, rfl, rfl, _, rfl⟩ := gI_some e
    cases rx; cases ry
    exact ⟨i, j, rfl, rfl, k _ H F G (.refl h0) (hr _ _ _ _)⟩
theorem so_I {f : Value → Value → Sem Value} {P : Int → Int → Prop} {c : Int → Int → Bool} {g : Int → Int → V} {g' : Int → Int → D} (ho : OpR X f (rI P g)) (hc : ∀ i j, c i j = true → P i j) (hr : ∀ F C i j, Rl X.K F C (g i j) (g' i j)) : SO X f (gI c g') :=
  .mk _ ho fun x y H F G C h dx dy d Q h0 rx ry e k => by
    obtain ⟨i, j, rfl, rfl, e', rfl⟩ := gI_some e
    cases rx; cases ry
    exact ⟨i, j, rfl, rfl, hc _ _ e', k _ H F G (.refl h0) (hr _ _ _ _)⟩
abbrev gAddI := gI (fun _ _ => true) fun i j => .int (i + j)
abbrev gSubI := gI (fun _ _ => true) fun i j => .int (i - j)
abbrev gLtI := gI (fun _ _ => true) fun i j => .bool (decide (i < j))
abbrev gLeI := gI (fun _ _ => true) fun i j => .bool (decide (i ≤ j))
abbrev gGtI := gI (fun _ _ => true) fun i j => .bool (decide (j < i))
def in64 (i : Int) : Bool := decide (-(2 ^ 64) < i) && decide (i < 2 ^ 64)
abbrev gMulI := gI (fun i j => in64 i || in64 j) fun i j => .int (i * j)
abbrev gDivI := gI (fun _ j => decide (0 < j) && decide (j < 1073741824)) fun i j => .int (i / j)
abbrev gModI := gI (fun _ j => decide (0 < j)) fun i j => .int (i % j)
theorem so_addI : SO X (binaryOp .Add) gAddI := so_I0 op_add fun _ _ _ _ => .int _
theorem so_subI : SO X (binaryOp .Sub) gSubI := so_I0 op_sub fun _ _ _ _ => .int _
theorem so_ltI : SO X (compareOp .Lt) gLtI := so_I0 op_lt fun _ _ _ _ => .bl _
theorem so_leI : SO X (compareOp .LtE) gLeI := so_I0 op_le fun _ _ _ _ => .bl _
theorem so_gtI : SO X (compareOp .Gt) gGtI := so_I0 op_gt fun _ _ _ _ => .bl _
theorem so_mulI : SO X (binaryOp .Mult) gMulI := so_I op_mul (fun i j e => by
  simp only [in64, Bool.or_eq_true, Bool.and_eq_true, decide_eq_true_eq] at e
  exact e) fun _ _ _ _ => .int _
theorem so_divI : SO X (binaryOp .FloorDiv) gDivI := so_I op_fdiv (fun i j e => by
  simp only [Bool.and_eq_true, decide_eq_true_eq] at e
  exact e) fun _ _ _ _ => .int _
theorem so_modI : SO X (binaryOp .Mod) gModI := so_I op_mod (fun i j e => by
  simp only [decide_eq_true_eq] at e
  exact e) fun _ _ _ _ => .int _
theorem se_one {op} (h : SE X a ma) : SE X (.BoolOp op [a] pos) ma := by
  obtain ⟨t, p, r⟩ := h
  exact .mk t (pe_one p) r
theorem se_and {rest : List Expr} (ha : SE X a ma) (hb : SE X (.BoolOp .And (b :: rest) pos) mb) : SE X (.BoolOp .And (a :: b :: rest) pos) (eAnd ma mb) := by
  obtain ⟨ta, pa, ra⟩ := ha
  obtain ⟨tb, pb, rb⟩ := hb
  refine .mk _ (pe_and pa pb) fun σ H F G C ρ h d h' Q h0 er hm q => ?_
  unfold eAnd at hm
  split at hm
  · rename_i c h1 e1
    refine ra σ H F G C ρ h _ h1 _ h0 er e1 fun u H1 F1 G1 C1 a1 r1 => ⟨c, rl_bool r1, ?_⟩
    cases c with
    | true =>
      rw [if_pos rfl] at hm ⊢
      exact rb σ H1 F1 G1 C1 ρ h1 d h' Q a1.r (er.le a1.f a1.g a1.c) hm fun v H2 F2 G2 C2 a2 r2 => q v H2 F2 G2 C2 (a1.trans a2) r2
    | false =>
      rw [if_neg Bool.false_ne_true] at hm ⊢
      cases hm
      exact q _ H1 F1 G1 C1 a1 (.bl false)
  · cases hm
def gNot : D → Option D
  | .bool b => some (.bool (!b))
  | _ => none
theorem se_not (ha : SE X a ma) : SE X (.UnaryOp .Not a pos) (eUn gNot ma) := by
  obtain ⟨ta, pa, ra⟩ := ha
  refine .mk _ (pe_not pa) fun σ H F G C ρ h d h' Q h0 er hm q => ?_
  unfold eUn at hm
  split at hm
  · cases hm
  rename_i x h1 e1
  split at hm
  · cases hm
  rename_i z e2
  cases hm
  refine ra σ H F G C ρ h _ h' _ h0 er e1 fun u H1 F1 G1 C1 a1 r1 => ?_
  cases x <;> simp [gNot] at e2
  subst e2
  exact ⟨_, rl_bool r1, q _ H1 F1 G1 C1 a1 (.bl _)⟩
theorem se_if (hc : ST X c mt) (ha : SE X a ma) (hb : SE X b mb) : SE X (.IfExp c a b pos) (eIf mt ma mb) := by
  obtain ⟨tc, pc, rc⟩ := hc
  obtain ⟨ta, pa, ra⟩ := ha
  obtain ⟨tb, pb, rb⟩ := hb
  refine .mk _ (pe_ifExp pc pa pb) fun σ H F G C ρ h d h' Q h0 er hm q => ?_
  unfold eIf at hm
  split at hm
  · cases hm
  rename_i k h1 e1
  refine rc σ H F G C ρ h k h1 _ h0 er e1 fun H1 F1 G1 C1 a1 => ?_
  cases k with
  | true =>
    rw [if_pos rfl] at hm ⊢
    exact ra σ H1 F1 G1 C1 ρ h1 d h' Q a1.r (er.le a1.f a1.g a1.c) hm fun v H2 F2 G2 C2 a2 r2 => q v H2 F2 G2 C2 (a1.trans a2) r2
  | false =>
    rw [if_neg Bool.false_ne_true] at hm ⊢
    exact rb σ H1 F1 G1 C1 ρ h1 d h' Q a1.r (er.le a1.f a1.g a1.c) hm fun v H2 F2 G2 C2 a2 r2 => q v H2 F2 G2 C2 (a1.trans a2) r2
theorem SW.st (h : SW X e mt) : ST X e mt := by
  obtain ⟨t, p, r⟩ := h
  exact .mk t p.pt r
theorem sw_and1 (ha : ST X a mt) : SW X (.BoolOp .And [a] pos) mt := by
  obtain ⟨t, p, r⟩ := ha
  exact .mk t (pw_and1 p) r
theorem sw_or1 (ha : ST X a mt) : SW X (.BoolOp .Or [a] pos) mt := by
  obtain ⟨t, p, r⟩ := ha
  exact .mk t (pw_or1 p) r
theorem sw_and {rest : List Expr} (ha : ST X a mt) (hb : SW X (.BoolOp .And (b :: rest) pos) mu) : SW X (.BoolOp .And (a :: b :: rest) pos) (tAndM mt mu) := by
  obtain ⟨ta, pa, ra⟩ := ha
  obtain ⟨tb, pb, rb⟩ := hb
  refine .mk _ (pw_and pa pb) fun σ H F G C ρ h d h' Q h0 er hm q => ?_
  unfold tAndM at hm
  split at hm
  · cases hm
  rename_i k h1 e1
  refine ra σ H F G C ρ h k h1 _ h0 er e1 fun H1 F1 G1 C1 a1 => ?_
  cases k with
  | true =>
    rw [if_pos rfl] at hm ⊢
    exact rb σ H1 F1 G1 C1 ρ h1 d h' Q a1.r (er.le a1.f a1.g a1.c) hm fun H2 F2 G2 C2 a2 => q H2 F2 G2 C2 (a1.trans a2)
  | false =>
    rw [if_neg Bool.false_ne_true] at hm ⊢
    cases hm
    exact q H1 F1 G1 C1 a1
theorem sw_or {rest : List Expr} (ha : ST X a mt) (hb : SW X (.BoolOp .Or (b :: rest) pos) mu) : SW X (.BoolOp .Or (a :: b :: rest) pos) (tOrM mt mu) := by
  obtain ⟨ta, pa, ra⟩ := ha
  obtain ⟨tb, pb, rb⟩ := hb
  refine .mk _ (pw_or pa pb) fun σ H F G C ρ h d h' Q h0 er hm q => ?_
  unfold tOrM at hm
  split at hm
  · cases hm
  rename_i k h1 e1
  refine ra σ H F G C ρ h k h1 _ h0 er e1 fun H1 F1 G1 C1 a1 => ?_
  cases k with
  | false =>
    rw [if_neg Bool.false_ne_true] at hm ⊢
    exact rb σ H1 F1 G1 C1 ρ h1 d h' Q a1.r (er.le a1.f a1.g a1.c) hm fun H2 F2 G2 C2 a2 => q H2 F2 G2 C2 (a1.trans a2)
  | true =>
    rw [if_pos rfl] at hm ⊢
    cases hm
    exact q H1 F1 G1 C1 a1
theorem st_not (ha : ST X a mt) : ST X (.UnaryOp .Not a pos) (tNotM mt) := by
  obtain ⟨ta, pa, ra⟩ := ha
  refine .mk _ (pt_not pa) fun σ H F G C ρ h d h' Q h0 er hm q => ?_
  unfold tNotM at hm
  split at hm
  · cases hm
  rename_i k h1 e1
  cases hm
  exact ra σ H F G C ρ h k h' _ h0 er e1 fun H1 F1 G1 C1 a1 => q H1 F1 G1 C1 a1
noncomputable def truD : D → Option Bool
  | .none => some false
  | .bool b => some b
  | .int i => some (i != 0)
  | .str x => if x.length ≤ lim then some ((x.length : Int) != 0) else none
  | .list xs => some (!xs.isEmpty)
  | .tuple xs => some (!xs.isEmpty)
  | .dict [(.bool true, .list xs)] => some (!xs.isEmpty)
  | .dict _ => none
theorem small {n : Nat} (h : n ≤ lim) : n ≤ sizeLine := Nat.le_trans h (by rw [sizeLine_eq, lim_eq]; decide)
theorem lim_line : lim < sizeLine := by rw [sizeLine_eq, lim_eq]; decide
theorem Rls.isEmpty {K : Fg} {F : Hp} {C : List Addr} {vs : List V} {ds : List D} (r : Rls K F C vs ds) : vs.isEmpty = ds.isEmpty := by
  cases r <;> rfl
theorem truV_of {K : Fg} {F H : Hp} {C : List Addr} {v : V} {d : D} {k : Bool} (fh : Le F H) (r : Rl K F C v d) (e : truD d = some k) : TruV K v H k := by
  cases r with
  | non => cases e; rfl
  | bl b => cases e; rfl
  | int i => cases e; rfl
  | str x =>
    simp only [truD] at e
    split at e
    · cases e
      exact ⟨small (by assumption), rfl⟩
    · cases e
  | lst h r => cases e; exact .inl ⟨_, SqL.of (fh _ _ h), by rw [r.isEmpty]⟩
  | scr h r => cases e; exact .inl ⟨_, sqL_le fh h, by rw [r.isEmpty]⟩
  | tup h r => cases e; exact .inr (.inl ⟨_, SqT.of (fh _ _ h), by rw [r.isEmpty]⟩)
  | hd h => simp [truD] at e
theorem st_truth (ha : SE X a ma) (he : ∀ whole, isTrue a X.env whole = (do let v ← whole; standAt a.pos; holding [v] (truthy v)) := by intro _; rfl) : ST X a (tValM truD ma) := by
  obtain ⟨ta, pa, ra⟩ := ha
  refine .mk _ (pt_truth pa he) fun σ H F G C ρ h d h' Q h0 er hm q => ?_
  unfold tValM at hm
  split at hm
  · cases hm
  rename_i x h1 e1
  split at hm
  · cases hm
  rename_i k e2
  cases hm
  exact ra σ H F G C ρ h _ h' _ h0 er e1 fun u H1 F1 G1 C1 a1 r1 => ⟨d, truV_of a1.r.fh r1 e2, q H1 F1 G1 C1 a1⟩
theorem sa_nil : SA X [] aNil := .mk _ pa_nil fun σ H F G C ρ h d h' Q h0 er hm q => by
  unfold aNil at hm
  cases hm
  exact q [] H F G C (.refl h0) .nil
theorem sa_cons (ha : SE X e ma) (hr : SA X es ml) (hs : starEach (e :: es) X.env = (false, eval e X.env) :: starEach es X.env := by rfl) : SA X (e :: es) (aCons ma ml) := by
  obtain ⟨ta, pa, ra⟩ := ha
  obtain ⟨tb, pb, rb⟩ := hr
  refine .mk _ (pa_cons pa pb hs) fun σ H F G C ρ h d h' Q h0 er hm q => ?_
  unfold aCons at hm
  split at hm
  · cases hm
  rename_i x h1 e1
  split at hm
  · cases hm
  rename_i xs h2 e2
  cases hm
  refine ra σ H F G C ρ h x h1 _ h0 er e1 fun u H1 F1 G1 C1 a1 r1 => ?_
  exact rb σ H1 F1 G1 C1 ρ h1 xs h' _ a1.r (er.le a1.f a1.g a1.c) e2 fun us H2 F2 G2 C2 a2 r2 => q _ H2 F2 G2 C2 (a1.trans a2) (.cons (r1.le a2.f a2.c) r2)
def RC (K : Fg) (r : List V → Hp → VK → Prop) (f : List D → Option D) : Prop := ∀ (xs : List V) (H F G : Hp) (C : List Addr) (h : Hq) (ds : List D) (d : D) (Q : VK), HR K F G C h H → Rls K F C xs ds → f ds = some d →
  (∀ u H' F' G', Aft K F G C F' G' C h H' → Rl K F' C u d → Q u H') → r xs H Q
theorem re_A {K : Fg} {r : List V → Hp → VK → Prop} {f : List D → Option D} {t : TA} (hr : RC K r f) (ha : RA K t ml) : RE K (fun σ H Q => t σ H fun vs H1 => r vs H1 Q) (eA f ml) := by
  intro σ H F G C ρ h d h' Q h0 er hm q
  unfold eA at hm
  split at hm
  · cases hm
  rename_i x h1 e1
  split at hm
  · cases hm
  rename_i z e2
  cases hm
  refine ha σ H F G C ρ h x h' _ h0 er e1 fun us H1 F1 G1 C1 a1 r1 => ?_
  exact hr us H1 F1 G1 C1 h' x d Q a1.r r1 e2 fun w H3 F3 G3 a3 r3 => q w H3 F3 G3 C1 (a1.trans a3) r3
noncomputable def fTup : List D → Option D := fun ds => if ds.length ≤ lim then some (.tuple ds) else none
noncomputable def fLst : List D → Option D := fun ds => if ds.length ≤ lim then some (.list ds) else none
theorem newTup {K : Fg} {F G H : Hp} {C : List Addr} {h : Hq} (h0 : HR K F G C h H) {p : Addr} (hp : H p = none) {vs : List V} {ds : List D} (r : Rls K F C vs ds) : Aft K F G C (upd F p (.tup vs)) (upd G p (.tup vs)) C h (upd H p (.tup vs)) ∧ Rl K (upd F p (.tup vs)) C (.ref p) (.tuple ds) :=
  ⟨.new h0 hp _, .tup upd_same (r.le (h0.new hp _).2.1 (List.prefix_refl _))⟩
theorem newLst {K : Fg} {F G H : Hp} {C : List Addr} {h : Hq} (h0 : HR K F G C h H) {p : Addr} (hp : H p = none) {vs : List V} {ds : List D} (r : Rls K F C vs ds) : Aft K F G C (upd F p (.lst vs)) (upd G p (.lst vs)) C h (upd H p (.lst vs)) ∧ Rl K (upd F p (.lst vs)) C (.ref p) (.list ds) :=
  ⟨.new h0 hp _, .lst upd_same (r.le (h0.new hp _).2.1 (List.prefix_refl _))⟩
theorem se_tup {x1} (h : SA X es ml) : SE X (.Tuple es x1 pos) (eA fTup ml) := by
  obtain ⟨t, pt, rt⟩ := h
  refine .mk _ (pe_tup pt) (re_A (r := fun xs H1 Q => xs.length ≤ sizeLine ∧ ∀ p, H1 p = none → Q (.ref p) (upd H1 p (.tup xs))) (fun xs H F G C hq ds d Q h0 r e q => ?_) rt)
  unfold fTup at e
  split at e
  · cases e
    refine ⟨by rw [r.length]; exact small (by assumption), fun p hp => ?_⟩
    obtain ⟨a1, r1⟩ := newTup h0 hp r
    exact q _ _ _ _ a1 r1
  · cases e
theorem se_lst (h : SA X es ml) : SE X (.List es pos) (eA fLst ml) := by
  obtain ⟨t, pt, rt⟩ := h
  refine .mk _ (pe_lst pt) (re_A (r := fun xs H1 Q => xs.length ≤ sizeLine ∧ ∀ p, H1 p = none → Q (.ref p) (upd H1 p (.lst xs))) (fun xs H F G C hq ds d Q h0 r e q => ?_) rt)
  unfold fLst at e
  split at e
  · cases e
    refine ⟨by rw [r.length]; exact small (by assumption), fun p hp => ?_⟩
    obtain ⟨a1, r1⟩ := newLst h0 hp r
    exact q _ _ _ _ a1 r1
  · cases e
end
end Q
set_option Elab.async false
set_option linter.all false
set_option maxRecDepth 100000
namespace Q
open PySem PySem.Spec PyProof.Rows L2
mutual
theorem Rl.dp {K : Fg} {F H : Hp} {C : List Addr} (fh : Le F H) : ∀ {v : V} {d : D}, Rl K F C v d → d.canLay0 = true → Dp K H v d
  | _, _, .non, _ => .non
  | _, _, .bl b, _ => .bl b
  | _, _, .int i, _ => .int i
  | _, _, .str x, _ => .str x
  | _, _, .lst h r, e => .lst (SqL.of (fh _ _ h)) (Rls.dp fh r (by simpa [PyData.canLay0] using e))
  | _, _, .tup h r, e => .tup (SqT.of (fh _ _ h)) (Rls.dp fh r (by simpa [PyData.canLay0] using e))
  | _, _, .scr h r, e => by simp [PyData.canLay0] at e
  | _, _, .hd h, e => by simp [PyData.canLay0] at e
theorem Rls.dp {K : Fg} {F H : Hp} {C : List Addr} (fh : Le F H) : ∀ {vs : List V} {ds : List D}, Rls K F C vs ds → PyData.canLayAll0 ds = true → DpAll K H vs ds
  | _, _, .nil, _ => .nil
  | _, _, .cons r t, e => by
    rw [PyData.canLayAll0, Bool.and_eq_true] at e
    exact .cons (Rl.dp fh r e.1) (Rls.dp fh t e.2)
end
section
variable {X : Cx} {e a b c : Expr} {es : List Expr} {pos p : Pos} {ma mb mc : ME} {mt mu : MT} {ml : MA}
abbrev shp (d : D) : Bool := SeqAt.shaped d
theorem shp_lay {d : D} (h : shp d = true) : d.canLay0 = true := SeqAt.canLay_of_shaped h
def gEq : D → D → Option D := fun x y => if shp x && shp y then some (.bool (PyData.eqv x y)) else none
def gNe : D → D → Option D := fun x y => if shp x && shp y then some (.bool (!PyData.eqv x y)) else none
theorem so_eq (hu : X.A.units + 64 < cLine) : SO X (compareOp .Eq) gEq := .mk _ (op_eqD hu) fun x y H F G C h dx dy d Q h0 rx ry e k => by
  unfold gEq at e
  split at e
  · rename_i q
    rw [Bool.and_eq_true] at q
    cases e
    exact ⟨dx, dy, rx.dp h0.fh (shp_lay q.1), ry.dp h0.fh (shp_lay q.2), q.1, q.2, k _ H F G (.refl h0) (.bl _)⟩
  · cases e
theorem so_ne (hu : X.A.units + 64 < cLine) : SO X (compareOp .NotEq) gNe := .mk _ (op_neD hu) fun x y H F G C h dx dy d Q h0 rx ry e k => by
  unfold gNe at e
  split at e
  · rename_i q
    rw [Bool.and_eq_true] at q
    cases e
    exact ⟨dx, dy, rx.dp h0.fh (shp_lay q.1), ry.dp h0.fh (shp_lay q.2), q.1, q.2, k _ H F G (.refl h0) (.bl _)⟩
  · cases e
def gIs : D → D → Option D
  | x, .none => some (.bool (match x with | .none => true | _ => false))
  | _, _ => none
theorem so_is : SO X (compareOp .Is) gIs := .mk _ op_isN fun x y H F G C h dx dy d Q h0 rx ry e k => by
  cases dy <;> simp [gIs] at e
  subst e
  refine ⟨rl_non ry, ?_⟩
  refine k _ H F G (.refl h0) ?_
  cases rx <;> exact .bl _
abbrev MQ := Rho → Hq → Option (Bool × List D × Hq)
def SqB (K : Fg) (G : Hp) (t : Bool) (a : Addr) (vs : List V) : Prop := if t then SqT K G a vs else SqL K G a vs
theorem SqB.le {K : Fg} {G H : Hp} {t : Bool} {a : Addr} {vs : List V} (g : Le G H) (h : SqB K G t a vs) : SqB K H t a vs := by
  cases t with
  | true => exact sqT_le g h
  | false => exact sqL_le g h
theorem SqB.or {K : Fg} {G : Hp} {t : Bool} {a : Addr} {vs : List V} (h : SqB K G t a vs) : SqL K G a vs ∨ SqT K G a vs := by
  cases t with
  | true => exact .inr h
  | false => exact .inl h
def SqF (K : Fg) (F G : Hp) (t : Bool) (a : Addr) (vs : List V) : Prop := if t then F a = some (.tup vs) else SqL K G a vs
theorem SqF.toB {K : Fg} {F G : Hp} {t : Bool} {a : Addr} {vs : List V} (g : Le F G) (h : SqF K F G t a vs) : SqB K G t a vs := by
  cases t with
  | true => exact SqT.of (g _ _ h)
  | false => exact h
theorem SqF.up {K : Fg} {F G F' G' : Hp} {t : Bool} {a : Addr} {vs : List V} (f : Le F F') (g : Le G G') (h : SqF K F G t a vs) : SqF K F' G' t a vs := by
  cases t with
  | true => exact f _ _ h
  | false => exact sqL_le g h
def RQ (K : Fg) (t : TE) (m : MQ) : Prop := ∀ (σ : L2.St) (H F G : Hp) (C : List Addr) (ρ : Rho) (h : Hq) (k : Bool) (ds : List D) (h' : Hq) (Q : VK), HR K F G C h H → ER K F G C ρ σ → m ρ h = some (k, ds, h') →
  (∀ a vs H' F' G' C', Aft K F G C F' G' C' h' H' → SqF K F' G' k a vs → Rls K F' C' vs ds → Q (.ref a) H') → t σ H Q
inductive SQ (X : Cx) (e : Expr) (m : MQ) : Prop
  | mk (t : TE) (p : PE X e t) (r : RQ X.K t m)
def seqD : D → Option (Bool × List D)
  | .list ds => some (false, ds)
  | .tuple ds => some (true, ds)
  | .dict [(.bool true, .list ds)] => some (false, ds)
  | _ => none
@[irreducible] def qVal (m : ME) : MQ := fun ρ h => match m ρ h with | none => none | some (d, h1) => match seqD d with | none => none | some (k, ds) => some (k, ds, h1)
@[irreducible] def qOwn (i : Nat) : MQ := fun ρ h => match ρ[i]? with | some (.own xs) => some (false, xs, h) | _ => none
theorem rl_seq {K : Fg} {F : Hp} {C : List Addr} {v : V} {d : D} {k : Bool} {ds : List D} (r : Rl K F C v d) (e : seqD d = some (k, ds)) : ∃ a vs, v = .ref a ∧ SqF K F F k a vs ∧ Rls K F C vs ds := by
  cases r with
  | lst h r => cases e; exact ⟨_, _, rfl, SqL.of h, r⟩
  | scr h r => cases e; exact ⟨_, _, rfl, h, r⟩
  | tup h r => cases e; exact ⟨_, _, rfl, h, r⟩
  | hd h => simp [seqD] at e
  | _ => cases e
theorem sq_val (h : SE X e ma) : SQ X e (qVal ma) := by
  obtain ⟨t, p, r⟩ := h
  refine .mk t p fun σ H F G C ρ h k ds h' Q h0 er hm q => ?_
  unfold qVal at hm
  split at hm
  · cases hm
  rename_i x h1 e1
  split at hm
  · cases hm
  rename_i k2 ds2 e2
  cases hm
  refine r σ H F G C ρ h x h' _ h0 er e1 fun u H1 F1 G1 C1 a1 r1 => ?_
  obtain ⟨a, vs, rfl, s, rs⟩ := rl_seq r1 e2
  exact q a vs H1 F1 G1 C1 a1 (s.up (Same.refl _) a1.r.fg) rs
@[irreducible] def eQ (f : Bool → List D → Option D) (q : MQ) : ME := fun ρ h => match q ρ h with | none => none | some (k, ds, h1) => match f k ds with | none => none | some d => some (d, h1)
def RQ1 (K : Fg) (r : V → Hp → VK → Prop) (f : Bool → List D → Option D) : Prop := ∀ (a : Addr) (vs : List V) (H F G : Hp) (C : List Addr) (h : Hq) (k : Bool) (ds : List D) (d : D) (Q : VK), HR K F G C h H → SqB K G k a vs → Rls K F C vs ds → f k ds = some d →
  (∀ u H' F' G', Aft K F G C F' G' C h H' → Rl K F' C u d → Q u H') → r (.ref a) H Q
theorem re_Q1 {K : Fg} {r : V → Hp → VK → Prop} {f : Bool → List D → Option D} {t : TE} {mq : MQ} (hr : RQ1 K r f) (ht : RQ K t mq) : RE K (fun σ H Q => t σ H fun x H1 => r x H1 Q) (eQ f mq) := by
  intro σ H F G C ρ h d h' Q h0 er hm q
  unfold eQ at hm
  split at hm
  · cases hm
  rename_i k ds h1 e1
  split at hm
  · cases hm
  rename_i z e2
  cases hm
  refine ht σ H F G C ρ h k ds h' _ h0 er e1 fun a vs H1 F1 G1 C1 a1 s r1 => ?_
  exact hr a vs H1 F1 G1 C1 h' k ds d Q a1.r (s.toB a1.r.fg) r1 e2 fun w H3 F3 G3 a3 r3 => q w H3 F3 G3 C1 (a1.trans a3) r3
theorem se_b1 {x : Str} {id : String} {r : List V → Hp → VK → Prop} {f : Bool → List D → Option D} {mq : MQ} (hc : CallR X (.builtin id) r) (hr : RQ1 X.K (fun v H Q => r [v] H Q) f) (hg : Gl X x) (hm : X.mg x = none) (hv : bootBuiltins x = some (.builtin id)) (ha : SQ X e mq)
    (hn : x ≠ "__name__" := by decide) (hdb : (x == ("__debug__" : Str)) = false := by decide) (he : starEach [e] X.env = (false, eval e X.env) :: starEach [] X.env := by rfl) : SE X (.Call (.Name x p) [e] [] pos) (eQ f mq) := by
  obtain ⟨t, pt, rt⟩ := ha
  exact .mk _ (pe_callB hc hg hm hv (pa_cons pt pa_nil he) hn hdb he rfl) (re_Q1 (t := t) hr rt)
theorem se_t1 {x : Str} {T : String} {r : List V → Hp → VK → Prop} {f : Bool → List D → Option D} {mq : MQ} (hc : CallR X (.type T) r) (hr : RQ1 X.K (fun v H Q => r [v] H Q) f) (hg : Gl X x) (hm : X.mg x = none) (hv : bootBuiltins x = some (.type T)) (ha : SQ X e mq)
    (hn : x ≠ "__name__" := by decide) (hdb : (x == ("__debug__" : Str)) = false := by decide) (he : starEach [e] X.env = (false, eval e X.env) :: starEach [] X.env := by rfl) : SE X (.Call (.Name x p) [e] [] pos) (eQ f mq) := by
  obtain ⟨t, pt, rt⟩ := ha
  exact .mk _ (pe_callTy hc hg hm hv (pa_cons pt pa_nil he) hn hdb he rfl) (re_Q1 (t := t) hr rt)
def fLen : Bool → List D → Option D := fun _ ds => some (.int ds.length)
theorem se_len {mq : MQ} (hg : Gl X "len") (hm : X.mg "len" = none) (ha : SQ X e mq) (he : starEach [e] X.env = (false, eval e X.env) :: starEach [] X.env := by rfl) : SE X (.Call (.Name "len" p) [e] [] pos) (eQ fLen mq) :=
  se_b1 call_len_seq (fun a vs H F G C h k ds d Q h0 s r e q => by
    cases e
    refine ⟨a, vs, rfl, (s.le h0.gh).or, ?_⟩
    rw [r.length]
    exact q _ H F G (.refl h0) (.int _)) hg hm PySem.boot_len ha (he := he)
theorem se_tupleL {mq : MQ} (hg : Gl X "tuple") (hm : X.mg "tuple" = none) (ha : SQ X e mq) (he : starEach [e] X.env = (false, eval e X.env) :: starEach [] X.env := by rfl) : SE X (.Call (.Name "tuple" p) [e] [] pos) (eQ (fun k ds => if k then none else some (.tuple ds)) mq) :=
  se_t1 call_tuple_of (fun a vs H F G C h k ds d Q h0 s r e q => by
    cases k with
    | true => cases e
    | false =>
      cases e
      refine ⟨a, vs, rfl, .inl ⟨s.le h0.gh, fun l hl => ?_⟩⟩
      obtain ⟨a1, r1⟩ := newTup h0 hl r
      exact q _ _ _ _ a1 r1) hg hm (by decide +kernel) ha (he := he)
def fLstQ : Bool → List D → Option D := fun _ ds => some (.list ds)
theorem se_listQ {mq : MQ} (hg : Gl X "list") (hm : X.mg "list" = none) (ha : SQ X e mq) (he : starEach [e] X.env = (false, eval e X.env) :: starEach [] X.env := by rfl) : SE X (.Call (.Name "list" p) [e] [] pos) (eQ fLstQ mq) :=
  se_t1 call_list_of (fun a vs H F G C h k ds d Q h0 s r e q => by
    cases e
    refine ⟨a, vs, rfl, (s.le h0.gh).or, fun l hl => ?_⟩
    obtain ⟨a1, r1⟩ := newLst h0 hl r
    exact q _ _ _ _ a1 r1) hg hm (by decide +kernel) ha (he := he)
def asI : D → Option Int
  | .int i => some i
  | _ => none
def asInts : List D → Option (List Int)
  | [] => some []
  | .int i :: r => (asInts r).map (i :: ·)
  | _ :: _ => none
theorem asInts_some : ∀ {ds : List D} {ns : List Int}, asInts ds = some ns → ds = ns.map PyData.int
  | [], _, h => by cases h; rfl
  | .int i :: r, ns, h => by
    unfold asInts at h
    cases q : asInts r with
    | none => rw [q] at h; cases h
    | some l =>
      rw [q] at h
      cases h
      rw [asInts_some q]
      rfl
  | .none :: _, _, h => by cases h
  | .bool _ :: _, _, h => by cases h
  | .str _ :: _, _, h => by cases h
  | .list _ :: _, _, h => by cases h
  | .tuple _ :: _, _, h => by cases h
  | .dict _ :: _, _, h => by cases h
def insI (x : Int) : List Int → List Int
  | [] => [x]
  | y :: r => if x ≤ y then x :: y :: r else y :: insI x r
def srtI : List Int → List Int
  | [] => []
  | x :: r => insI x (srtI r)
theorem insI_perm (x : Int) : ∀ l, (insI x l).Perm (x :: l)
  | [] => .refl _
  | y :: r => by
    unfold insI
    split
    · exact .refl _
    · exact ((insI_perm x r).cons y).trans (.swap x y r)
theorem srtI_perm : ∀ l, (srtI l).Perm l
  | [] => .refl _
  | x :: r => (insI_perm x (srtI r)).trans ((srtI_perm r).cons x)
theorem insI_sorted (x : Int) : ∀ {l : List Int}, l.Pairwise (· ≤ ·) → (insI x l).Pairwise (· ≤ ·)
  | [], _ => by simp [insI]
  | y :: r, h => by
    obtain ⟨h1, h2⟩ := List.pairwise_cons.mp h
    unfold insI
    split
    · rename_i hxy
      refine List.pairwise_cons.mpr ⟨fun z hz => ?_, h⟩
      rcases List.mem_cons.mp hz with rfl | hz
      · exact hxy
      · exact Int.le_trans hxy (h1 z hz)
    · rename_i hxy
      refine List.pairwise_cons.mpr ⟨fun z hz => ?_, insI_sorted x h2⟩
      rcases List.mem_cons.mp ((insI_perm x r).mem_iff.mp hz) with rfl | hz
      · omega
      · exact h1 z hz
theorem srtI_sorted : ∀ l, (srtI l).Pairwise (· ≤ ·)
  | [] => .nil
  | x :: r => insI_sorted x (srtI_sorted r)
theorem sorted_one {l l' : List Int} (p : l.Perm l') (h : l.Pairwise (· ≤ ·)) (h' : l'.Pairwise (· ≤ ·)) : l = l' := p.eq_of_pairwise (fun a b _ _ => Int.le_antisymm) h h'
theorem srtI_eq {l l' : List Int} (p : l'.Perm l) (h : l'.Pairwise (· ≤ ·)) : l' = srtI l := sorted_one (p.trans (srtI_perm l).symm) h (srtI_sorted l)
def fSortI : Bool → List D → Option D := fun k ds => if k then none else match asInts ds with | none => none | some ns => if ns.length < 64 then some (.list ((srtI ns).map PyData.int)) else none
def asBools : List D → Option (List Bool)
  | [] => some []
  | .bool i :: r => (asBools r).map (i :: ·)
  | _ :: _ => none
def fAll : Bool → List D → Option D := fun k ds => if k then none else match asBools ds with | none => none | some bs => some (.bool (bs.all id))
@[irreducible] def tQ (q : MQ) : MT := fun ρ h => match q ρ h with | none => none | some (_, ds, h1) => some (!ds.isEmpty, h1)
theorem room_in {A : Around} {xs : List PyData} {d : PyData} (hd : shp d = true) (hu : A.units + 65 < cLine) : A.units + 1 + min (PyData.depthAll xs) d.depth < cLine := by
  have h1 := SeqAt.depth_of_shaped hd
  have h2 : min (PyData.depthAll xs) d.depth ≤ d.depth := Nat.min_le_right _ _
  omega
def rInD (K : Fg) (neg : Bool) : R2 := fun x y H Q => ∃ p xs dx ds k, y = .ref p ∧ SqB K H k p xs ∧ Dp K H x dx ∧ DpAll K H xs ds ∧ shp dx = true ∧ PyData.canLayAll0 ds = true ∧ Q (.bl (if neg then !(ds.any fun d => PyData.eqv d dx) else ds.any fun d => PyData.eqv d dx)) H
theorem op_inD (hu : X.A.units + 65 < cLine) : OpR X (compareOp .In) (rInD X.K false) := by
  intro pins s σ H x y v u Q I rx ry h
  obtain ⟨p, xs, dx, ds, k, rfl, hq, hx, hs, sx, sl, q⟩ := h
  obtain ⟨bs, r2⟩ := Dp.reads I dx x v hx rx
  cases k with
  | false =>
    obtain ⟨as, r1⟩ := Dp.reads I (.list ds) (.ref p) u (.lst hq hs) ry
    exact SeqAt.in_list_reads r1 r2 sl (shp_lay sx) (room_in sx hu) ⟨.bl _, H, I, rfl, q⟩
  | true =>
    obtain ⟨as, r1⟩ := Dp.reads I (.tuple ds) (.ref p) u (.tup hq hs) ry
    exact SeqAt.in_tuple_reads r1 r2 sl (shp_lay sx) (room_in sx hu) ⟨.bl _, H, I, rfl, q⟩
theorem op_notInD (hu : X.A.units + 65 < cLine) : OpR X (compareOp .NotIn) (rInD X.K true) := by
  intro pins s σ H x y v u Q I rx ry h
  obtain ⟨p, xs, dx, ds, k, rfl, hq, hx, hs, sx, sl, q⟩ := h
  obtain ⟨bs, r2⟩ := Dp.reads I dx x v hx rx
  cases k with
  | false =>
    obtain ⟨as, r1⟩ := Dp.reads I (.list ds) (.ref p) u (.lst hq hs) ry
    exact SeqAt.notIn_list_reads r1 r2 sl (shp_lay sx) (room_in sx hu) ⟨.bl _, H, I, rfl, q⟩
  | true =>
    obtain ⟨as, r1⟩ := Dp.reads I (.tuple ds) (.ref p) u (.tup hq hs) ry
    exact SeqAt.notIn_tuple_reads r1 r2 sl (shp_lay sx) (room_in sx hu) ⟨.bl _, H, I, rfl, q⟩
@[irreducible] def eXQ (f : D → Bool → List D → Option D) (a : ME) (q : MQ) : ME := fun ρ h => match a ρ h with | none => none | some (x, h1) => match q ρ h1 with | none => none | some (k, ds, h2) => match f x k ds with | none => none | some d => some (d, h2)
def RXQ (K : Fg) (r : R2) (f : D → Bool → List D → Option D) : Prop := ∀ (x : V) (a : Addr) (vs : List V) (H F G : Hp) (C : List Addr) (h : Hq) (dx : D) (k : Bool) (ds : List D) (d : D) (Q : VK), HR K F G C h H → Rl K F C x dx → SqB K G k a vs → Rls K F C vs ds → f dx k ds = some d →
  (∀ u H' F' G', Aft K F G C F' G' C h H' → Rl K F' C u d → Q u H') → r x (.ref a) H Q
theorem re_XQ {K : Fg} {r : R2} {f : D → Bool → List D → Option D} {ta tb : TE} {mq : MQ} (hr : RXQ K r f) (ha : RE K ta ma) (hb : RQ K tb mq) : RE K (tOp r ta tb) (eXQ f ma mq) := by
  intro σ H F G C ρ h d h' Q h0 er hm q
  unfold eXQ at hm
  split at hm
  · cases hm
  rename_i x h1 e1
  split at hm
  · cases hm
  rename_i k ds h2 e2
  split at hm
  · cases hm
  rename_i z e3
  cases hm
  refine ha σ H F G C ρ h x h1 _ h0 er e1 fun u H1 F1 G1 C1 a1 r1 => ?_
  refine hb σ H1 F1 G1 C1 ρ h1 k ds h' _ a1.r (er.le a1.f a1.g a1.c) e2 fun a vs H2 F2 G2 C2 a2 s2 r2 => ?_
  exact hr u a vs H2 F2 G2 C2 h' x k ds d Q a2.r (r1.le a2.f a2.c) (s2.toB a2.r.fg) r2 e3 fun w H3 F3 G3 a3 r3 => q w H3 F3 G3 C2 ((a1.trans a2).trans a3) r3
theorem canAll {ds : List D} : PyData.canLayAll0 ds = ds.all PyData.canLay0 := by
  induction ds with
  | nil => rfl
  | cons d ds ih => rw [PyData.canLayAll0, ih, List.all_cons]
def fIn (neg : Bool) : D → Bool → List D → Option D := fun x _ ds => if shp x && ds.all PyData.canLay0 then some (.bool (if neg then !(ds.any fun d => PyData.eqv d x) else ds.any fun d => PyData.eqv d x)) else none
theorem rxq_in {K : Fg} (neg : Bool) : RXQ K (rInD K neg) (fIn neg) := by
  intro x a vs H F G C h dx k ds d Q h0 rx s r e q
  unfold fIn at e
  split at e
  · rename_i c
    rw [Bool.and_eq_true] at c
    cases e
    have c2 : PyData.canLayAll0 ds = true := by rw [canAll]; exact c.2
    exact ⟨a, vs, dx, ds, k, rfl, s.le h0.gh, rx.dp h0.fh (shp_lay c.1), r.dp h0.fh c2, c.1, c2, q _ H F G (.refl h0) (.bl _)⟩
  · cases e
theorem se_in {mq : MQ} (hu : X.A.units + 65 < cLine) (ha : SE X a ma) (hb : SQ X b mq) (hm : behindInMarks .In b = false := by first | rfl | with_unfolding_all rfl) : SE X (.Compare a [.In] [b] pos) (eXQ (fIn false) ma mq) := by
  obtain ⟨ta, pa, ra⟩ := ha
  obtain ⟨tb, pb, rb⟩ := hb
  exact .mk _ (pe_cmpR (op_inD hu) pa pb hm) (re_XQ (rxq_in false) ra rb)
theorem st_in {mq : MQ} (hu : X.A.units + 65 < cLine) (ha : SE X a ma) (hb : SQ X b mq) (hm : behindInMarks .In b = false := by first | rfl | with_unfolding_all rfl) : ST X (.Compare a [.In] [b] pos) (tValM dB (eXQ (fIn false) ma mq)) := by
  obtain ⟨ta, pa, ra⟩ := ha
  obtain ⟨tb, pb, rb⟩ := hb
  exact .mk _ (pt_cmpR (op_inD hu) pa pb hm) (rt_bool (re_XQ (rxq_in false) ra rb))
theorem st_notIn {mq : MQ} (hu : X.A.units + 65 < cLine) (ha : SE X a ma) (hb : SQ X b mq) (hm : behindInMarks .NotIn b = false := by first | rfl | with_unfolding_all rfl) : ST X (.Compare a [.NotIn] [b] pos) (tValM dB (eXQ (fIn true) ma mq)) := by
  obtain ⟨ta, pa, ra⟩ := ha
  obtain ⟨tb, pb, rb⟩ := hb
  exact .mk _ (pt_cmpR (op_notInD hu) pa pb hm) (rt_bool (re_XQ (rxq_in true) ra rb))
def rCat0 (K : Fg) : R2 := fun x y H Q => ∃ a b xs ys, x = .ref a ∧ y = .ref b ∧ SqT K H a xs ∧ SqT K H b ys ∧ xs.length + ys.length ≤ sizeLine ∧ (xs = [] → Q (.ref b) H) ∧ (xs ≠ [] → ys = [] → Q (.ref a) H) ∧ (xs ≠ [] → ys ≠ [] → ∀ p, H p = none → Q (.ref p) (upd H p (.tup (xs ++ ys))))
theorem op_cat0 : OpR X (binaryOp .Add) (rCat0 X.K) := by
  intro pins s σ H x y v u Q I rx ry h
  obtain ⟨a, b, xs, ys, rfl, rfl, ha, hb, hz, q0, q1, q2⟩ := h
  by_cases hx : xs = []
  · cases rx
    cases ry
    obtain ⟨its, r1, p1, _⟩ := I.tuple ha
    obtain ⟨its2, r2, p2, _⟩ := I.tuple hb
    obtain ⟨⟨cls, dd, data, sl⟩, ho, hc, n, hd⟩ := id p1
    obtain ⟨⟨cls2, dd2, data2, sl2⟩, ho2, hc2, n2, hd2⟩ := id p2
    simp only at hc hd hc2 hd2
    subst hc hd hc2 hd2
    exact concat_meets ⟨_, ho, rfl⟩ ⟨_, ho2, rfl⟩ noFill_tuple_add seq_tuple_add PySem.F.slot_tuple_add PySem.F.entry_tuple_add (PySem.F.args_tuple_add_2 _ _)
      (tuple_addW0 a b its.toArray its2.toArray n n2 dd dd2 sl sl2 (by rw [r1.nil_iff.mpr hx]; rfl)) ⟨ho, ho2, ⟨.ref b, H, I, rfl, q0 hx⟩⟩
  · exact op_catT pins s σ H _ _ v u Q I rx ry ⟨a, b, xs, ys, rfl, rfl, ha, hb, hx, hz, q1 hx, q2 hx⟩
noncomputable def gCatT : D → D → Option D
  | .tuple xs, .tuple ys => if xs.length + ys.length ≤ lim then some (.tuple (xs ++ ys)) else none
  | _, _ => none
theorem Rls.nil_iff {K : Fg} {F : Hp} {C : List Addr} {vs : List V} {ds : List D} (r : Rls K F C vs ds) : vs = [] ↔ ds = [] := by cases r <;> simp
theorem so_catT : SO X (binaryOp .Add) gCatT := .mk _ op_cat0 fun x y H F G C h dx dy d Q h0 rx ry e k => by
  cases dx with
  | tuple xs =>
    cases dy with
    | tuple ys =>
      simp only [gCatT] at e
      split at e
      · rename_i hl
        cases e
        cases rx with
        | tup hx rx =>
          cases ry with
          | tup hy ry =>
            refine ⟨_, _, _, _, rfl, rfl, SqT.of (h0.fh _ _ hx), SqT.of (h0.fh _ _ hy), by rw [rx.length, ry.length]; exact small hl, fun q => ?_, fun _ q => ?_, fun _ _ p hp => ?_⟩
            · have := rx.nil_iff.mp q
              subst this
              exact k _ H F G (.refl h0) (.tup hy ry)
            · have := ry.nil_iff.mp q
              subst this
              rw [List.append_nil] at k
              exact k _ H F G (.refl h0) (.tup hx rx)
            · obtain ⟨a1, r1⟩ := newTup h0 hp (rx.append ry)
              exact k _ _ _ _ a1 r1
      · cases e
    | _ => cases e
  | _ => cases e
noncomputable def gCatL : D → D → Option D
  | .list xs, .list ys => if xs.length + ys.length ≤ lim then some (.list (xs ++ ys)) else none
  | _, _ => none
theorem so_catL : SO X (binaryOp .Add) gCatL := .mk _ op_cat fun x y H F G C h dx dy d Q h0 rx ry e k => by
  cases dx with
  | list xs =>
    cases dy with
    | list ys =>
      simp only [gCatL] at e
      split at e
      · rename_i hl
        cases e
        cases rx with
        | lst hx rx =>
          cases ry with
          | lst hy ry =>
            refine ⟨_, _, _, _, rfl, rfl, h0.fh _ _ hx, h0.fh _ _ hy, by rw [rx.length, ry.length]; exact small hl, fun p hp => ?_⟩
            obtain ⟨a1, r1⟩ := newLst h0 hp (rx.append ry)
            exact k _ _ _ _ a1 r1
      · cases e
    | _ => cases e
  | _ => cases e
noncomputable def gRep : D → D → Option D
  | .list xs, .int k => if decide (-(lim : Int) ≤ k) && decide (k ≤ (lim : Int)) && decide (xs.length * k.toNat ≤ lim) then some (.list (List.replicate k.toNat xs).flatten) else none
  | _, _ => none
@[irreducible] def eQX (f : Bool → List D → D → Option D) (q : MQ) (a : ME) : ME := fun ρ h => match q ρ h with | none => none | some (k, ds, h1) => match a ρ h1 with | none => none | some (x, h2) => match f k ds x with | none => none | some d => some (d, h2)
def fIx : Bool → List D → D → Option D
  | _, ds, .int i => atI ds i
  | _, _, _ => none
def rIxB (K : Fg) : R2 := fun x y H Q => rIxL K x y H Q ∨ rIxT K x y H Q
theorem ix_B : IxR X (rIxB X.K) := by
  intro value slice pins s σ H x y v u Q I rx ry h hs
  rcases h with h | h
  · exact ix_list value slice pins s σ H x y v u Q I rx ry h hs
  · exact ix_tup value slice pins s σ H x y v u Q I rx ry h hs
theorem Rls.atI {K : Fg} {F : Hp} {C : List Addr} {vs : List V} {ds : List D} {i : Int} {d : D} (r : Rls K F C vs ds) (e : L2.atI ds i = some d) : ∃ v, L2.atI vs i = some v ∧ Rl K F C v d := by
  unfold L2.atI at e ⊢
  rw [r.length]
  cases q : ixN ds.length i with
  | none => rw [q] at e; cases e
  | some j =>
    rw [q] at e
    exact r.get e
theorem se_ix {mq : MQ} (ha : SQ X a mq) (hb : SE X b mb) (hs : PlainIx b := by exact fun _ _ => rfl) : SE X (.Subscript a b pos) (eQX fIx mq mb) := by
  obtain ⟨ta, pa, ra⟩ := ha
  obtain ⟨tb, pb, rb⟩ := hb
  refine .mk _ (pe_ix ix_B pa pb hs) fun σ H F G C ρ h d h' Q h0 er hm q => ?_
  unfold eQX at hm
  split at hm
  · cases hm
  rename_i k ds h1 e1
  split at hm
  · cases hm
  rename_i x h2 e2
  split at hm
  · cases hm
  rename_i z e3
  cases hm
  refine ra σ H F G C ρ h k ds h1 _ h0 er e1 fun a vs H1 F1 G1 C1 a1 s1 r1 => ?_
  refine rb σ H1 F1 G1 C1 ρ h1 x h' _ a1.r (er.le a1.f a1.g a1.c) e2 fun v H2 F2 G2 C2 a2 r2 => ?_
  cases x with
  | int i =>
    cases r2
    obtain ⟨w, e4, r4⟩ := (r1.le a2.f a2.c).atI (d := d) e3
    have s2 := ((s1.toB a1.r.fg).le a2.g).le a2.r.gh
    have q2 := q w H2 F2 G2 C2 (a1.trans a2) r4
    cases k with
    | true => exact .inr ⟨a, vs, i, w, rfl, rfl, s2, e4, q2⟩
    | false => exact .inl ⟨a, vs, i, w, rfl, rfl, s2, e4, q2⟩
  | _ => cases e3
end
end Q
set_option Elab.async false
set_option linter.all false
set_option maxRecDepth 100000
namespace Q
open PySem PySem.Spec PyProof.Rows L2
abbrev MF := List D → Hq → Option (D × Hq)
def spOf (K : Fg) (m : MF) : Sp := fun vs H Q _ => ∃ F G C ds h d h', HR K F G C h H ∧ Rls K F C vs ds ∧ m ds h = some (d, h') ∧ ∀ u H' F' G' C', Aft K F G C F' G' C' h' H' → Rl K F' C' u d → Q u H'
section
variable {X : Cx} {e a b c : Expr} {es : List Expr} {pos p : Pos} {ma mb mc : ME} {mt mu : MT} {ml : MA}
theorem re_call {K : Fg} {m : MF} {t : TA} (ha : RA K t ml) : RE K (tCall (spOf K m) [] E0 t) (eCall m ml) := by
  intro σ H F G C ρ h d h' Q h0 er hm q
  unfold eCall at hm
  split at hm
  · cases hm
  rename_i xs h1 e1
  refine ha σ H F G C ρ h xs h1 _ h0 er e1 fun us H1 F1 G1 C1 a1 r1 => ?_
  rw [List.append_nil]
  exact ⟨F1, G1, C1, xs, h1, d, h', a1.r, r1, hm, fun u H2 F2 G2 C2 a2 r2 => q u H2 F2 G2 C2 (a1.trans a2) r2⟩
theorem se_call {k : Nat} {f : Addr} {fd : FuncData} {ps : List Str} {m : MF} {x : Str} (F : FnOk X.prog X.w X.K X.mg X.base CX0 k f fd ps (spOf X.K m)) (hr : Room k X.A) (hg : Gl X x) (hm : X.mg x = some (.ref f)) (hk : PySem.W.keepIn X.K (.ref f) = true) (hb : Binds X.K fd ps [])
    (ha : SA X (e :: es) ml) (hdb : (x == ("__debug__" : Str)) = false := by decide) (he : starEach (e :: es) X.env = (false, eval e X.env) :: starEach es X.env := by rfl) (hpl : (backTo pos (starEach es X.env)).any (·.1) = false := by rfl) :
    SE X (.Call (.Name x p) (e :: es) [] pos) (eCall m ml) := by
  obtain ⟨t, pt, rt⟩ := ha
  exact .mk _ (pe_call F hr hg hm hk hb .nil pass0 pt hdb he hpl) (re_call rt)
end
def SlS (K : Fg) (F H : Hp) (C : List Addr) (o : Option Addr) (v : Option (Option V)) : Sl → Prop
  | .no => o = none
  | .val d => o = none ∧ ∃ u, v = some (some u) ∧ Rl K F C u d
  | .own xs => ∃ a vs, o = some a ∧ v = some (some (.ref a)) ∧ H a = some (.lst vs) ∧ Rls K F C vs xs
  | .dT ks => ∃ a kvs, o = some a ∧ v = some (some (.ref a)) ∧ H a = some (.dT kvs) ∧ kvs.map (·.1) = ks
  | .dK ks => ∃ a kvs, o = some a ∧ v = some (some (.ref a)) ∧ H a = some (.dK kvs) ∧ kvs.map (·.1) = ks
structure SR (K : Fg) (F G : Hp) (C : List Addr) (O : Nat → Option Addr) (ρ : Rho) (h : Hq) (σ : L2.St) (H : Hp) : Prop where
  r : HR K F G C h H
  len : ρ.length = σ.length
  slot : ∀ (i : Nat) s, ρ[i]? = some s → SlS K F H C (O i) σ[i]? s
  far : ∀ i, ρ.length ≤ i → O i = none
  oG : ∀ i a, O i = some a → G a = none ∧ a ∉ C
  inj : ∀ i j a, O i = some a → O j = some a → i = j
open Classical in
noncomputable def Gx (O : Nat → Option Addr) (H G : Hp) : Hp := fun a => if ∃ i, O i = some a then H a else G a
open Classical in
noncomputable def Gm (O : Nat → Option Addr) (G : Hp) : Hp := fun a => if ∃ i, O i = some a then none else G a
section
variable {K : Fg} {F G F' G' H H' : Hp} {C C' : List Addr} {O : Nat → Option Addr} {ρ : Rho} {h h' : Hq} {σ : L2.St}
theorem gx_in {i : Nat} {a : Addr} (e : O i = some a) : Gx O H G a = H a := if_pos ⟨i, e⟩
theorem gx_out {a : Addr} (e : ¬ ∃ i, O i = some a) : Gx O H G a = G a := if_neg e
theorem gm_in {i : Nat} {a : Addr} (e : O i = some a) : Gm O G a = none := if_pos ⟨i, e⟩
theorem gm_out {a : Addr} (e : ¬ ∃ i, O i = some a) : Gm O G a = G a := if_neg e
theorem SR.hasO (s : SR K F G C O ρ h σ H) {i : Nat} {a : Addr} (e : O i = some a) : ∃ o, H a = some o ∧ ∀ xs, o ≠ HO.tup xs := by
  by_cases hi : i < ρ.length
  · have q := s.slot i ρ[i] (List.getElem?_eq_getElem hi)
    cases z : ρ[i] with
    | no => rw [z] at q; have q : O i = none := q; rw [e] at q; cases q
    | val d => rw [z] at q; obtain ⟨q, _⟩ := q; rw [e] at q; cases q
    | own xs => rw [z] at q; obtain ⟨a', vs, q, _, q2, _⟩ := q; rw [e] at q; cases q; exact ⟨_, q2, fun _ z => nomatch z⟩
    | dT xs => rw [z] at q; obtain ⟨a', vs, q, _, q2, _⟩ := q; rw [e] at q; cases q; exact ⟨_, q2, fun _ z => nomatch z⟩
    | dK xs => rw [z] at q; obtain ⟨a', vs, q, _, q2, _⟩ := q; rw [e] at q; cases q; exact ⟨_, q2, fun _ z => nomatch z⟩
  · rw [s.far i (by omega)] at e; cases e
theorem SR.notO (s : SR K F G C O ρ h σ H) {a : Addr} {o : HO} (e : G a = some o) : ¬ ∃ i, O i = some a := fun ⟨i, z⟩ => by rw [(s.oG i a z).1] at e; cases e
theorem SR.hr (s : SR K F G C O ρ h σ H) : HR K F (Gx O H G) C h H := by
  refine ⟨fun a o e => ?_, fun a o e => ?_, s.r.nd, fun a ha => ?_, s.r.len, s.r.cell, s.r.tab, s.r.more⟩
  · have e2 := s.r.fg a o e
    rw [gx_out (s.notO e2)]
    exact e2
  · by_cases z : ∃ i, O i = some a
    · obtain ⟨i, z⟩ := z
      rw [gx_in z] at e
      exact e
    · rw [gx_out z] at e
      exact s.r.gh a o e
  · rw [gx_out fun ⟨i, z⟩ => (s.oG i a z).2 ha]
    exact s.r.out a ha
theorem SR.er (s : SR K F G C O ρ h σ H) : ER K F (Gx O H G) C ρ σ := by
  refine ⟨s.len, fun i t e => ?_⟩
  have q := s.slot i t e
  cases t with
  | no => trivial
  | val d => exact q.2
  | own xs => obtain ⟨a, vs, z, e1, e2, r⟩ := q; exact ⟨a, vs, e1, by rw [gx_in z]; exact e2, r⟩
  | dT ks => obtain ⟨a, vs, z, e1, e2, r⟩ := q; exact ⟨a, vs, e1, by rw [gx_in z]; exact e2, r⟩
  | dK ks => obtain ⟨a, vs, z, e1, e2, r⟩ := q; exact ⟨a, vs, e1, by rw [gx_in z]; exact e2, r⟩
theorem SR.back (s : SR K F G C O ρ h σ H) (x : Aft K F (Gx O H G) C F' G' C' h' H') : SR K F' (Gm O G') C' O ρ h' σ H' ∧ Aft K F G C F' (Gm O G') C' h' H' := by
  have keepO : ∀ i a o, O i = some a → H a = some o → H' a = some o := fun i a o z e => x.r.gh _ _ (x.g _ _ (by rw [gx_in z]; exact e))
  have notC : ∀ i a, O i = some a → a ∉ C' := fun i a z hm => by
    obtain ⟨o, e, _⟩ := s.hasO z
    have q := x.g a o (by rw [gx_in z]; exact e)
    rw [x.r.out a hm] at q
    cases q
  have noF : ∀ i a, O i = some a → F' a = none := fun i a z => by
    obtain ⟨o, e, n⟩ := s.hasO z
    rw [x.nf a o (by rw [gx_in z]; exact e) n]
    exact s.r.fg.free (s.oG i a z).1
  have hr : HR K F' (Gm O G') C' h' H' := by
    refine ⟨fun a o e => ?_, fun a o e => ?_, x.r.nd, fun a ha => ?_, x.r.len, x.r.cell, x.r.tab, x.r.more⟩
    · rw [gm_out fun ⟨i, z⟩ => by rw [noF i a z] at e; cases e]
      exact x.r.fg a o e
    · by_cases z : ∃ i, O i = some a
      · obtain ⟨i, z⟩ := z
        rw [gm_in z] at e
        cases e
      · rw [gm_out z] at e
        exact x.r.gh a o e
    · by_cases z : ∃ i, O i = some a
      · obtain ⟨i, z⟩ := z
        exact gm_in z
      · rw [gm_out z]
        exact x.r.out a ha
  refine ⟨⟨hr, s.len, fun i t e => ?_, s.far, fun i a z => ⟨gm_in z, notC i a z⟩, s.inj⟩, ⟨x.f, fun a o e => ?_, x.c, hr, fun a o e n => x.nf a o ?_ n⟩⟩
  · have q := s.slot i t e
    cases t with
    | no => exact q
    | val d => obtain ⟨q1, u, e1, r⟩ := q; exact ⟨q1, u, e1, r.le x.f x.c⟩
    | own xs => obtain ⟨a, vs, z, e1, e2, r⟩ := q; exact ⟨a, vs, z, e1, keepO i a _ z e2, r.le x.f x.c⟩
    | dT ks => obtain ⟨a, vs, z, e1, e2, r⟩ := q; exact ⟨a, vs, z, e1, keepO i a _ z e2, r⟩
    | dK ks => obtain ⟨a, vs, z, e1, e2, r⟩ := q; exact ⟨a, vs, z, e1, keepO i a _ z e2, r⟩
  · rw [gm_out (s.notO e)]
    exact x.g a o (by rw [gx_out (s.notO e)]; exact e)
  · rw [gx_out (s.notO e)]
    exact e
end
inductive Out where
  | nx (ρ : Rho) (h : Hq)
  | rt (d : D) (h : Hq)
  | bk (ρ : Rho) (h : Hq)
  | ct (ρ : Rho) (h : Hq)
abbrev MS := Rho → Hq → Option Out
structure Aft0 (F G : Hp) (C : List Addr) (F' G' : Hp) (C' : List Addr) : Prop where
  f : Le F F'
  g : Le G G'
  c : C <+: C'
  nf : ∀ a o, G a = some o → (∀ xs, o ≠ HO.tup xs) → F' a = F a
theorem Aft0.refl {F G : Hp} {C : List Addr} : Aft0 F G C F G C := ⟨Same.refl _, Same.refl _, List.prefix_refl _, fun _ _ _ _ => rfl⟩
theorem Aft0.trans {F G F1 G1 F2 G2 : Hp} {C C1 C2 : List Addr} (a : Aft0 F G C F1 G1 C1) (b : Aft0 F1 G1 C1 F2 G2 C2) : Aft0 F G C F2 G2 C2 :=
  ⟨a.f.trans b.f, a.g.trans b.g, a.c.trans b.c, fun c o e n => (b.nf c o (a.g _ _ e) n).trans (a.nf c o e n)⟩
theorem Aft.a0 {K : Fg} {F G F1 G1 : Hp} {C C1 : List Addr} {h1 : Hq} {H1 : Hp} (a : Aft K F G C F1 G1 C1 h1 H1) : Aft0 F G C F1 G1 C1 := ⟨a.f, a.g, a.c, a.nf⟩
def Post (K : Fg) (F G : Hp) (C : List Addr) (Dn : Ends) : Out → Prop
  | .nx ρ' h' => ∀ σ' H' F' G' C' O', Aft0 F G C F' G' C' → SR K F' G' C' O' ρ' h' σ' H' → Dn.nx σ' H'
  | .rt d h' => ∀ u H' F' G' C', Aft0 F G C F' G' C' → HR K F' G' C' h' H' → Rl K F' C' u d → Dn.rt u H'
  | .bk ρ' h' => ∀ σ' H' F' G' C' O', Aft0 F G C F' G' C' → SR K F' G' C' O' ρ' h' σ' H' → Dn.bk σ' H'
  | .ct ρ' h' => ∀ σ' H' F' G' C' O', Aft0 F G C F' G' C' → SR K F' G' C' O' ρ' h' σ' H' → Dn.ct σ' H'
theorem Post.on {K : Fg} {F G F1 G1 : Hp} {C C1 : List Addr} {Dn : Ends} {o : Out} (a : Aft0 F G C F1 G1 C1) (h : Post K F G C Dn o) : Post K F1 G1 C1 Dn o := by
  cases o with
  | nx ρ' h' => exact fun σ' H' F' G' C' O' b s => h σ' H' F' G' C' O' (a.trans b) s
  | rt d h' => exact fun u H' F' G' C' b s r => h u H' F' G' C' (a.trans b) s r
  | bk ρ' h' => exact fun σ' H' F' G' C' O' b s => h σ' H' F' G' C' O' (a.trans b) s
  | ct ρ' h' => exact fun σ' H' F' G' C' O' b s => h σ' H' F' G' C' O' (a.trans b) s
def RS (K : Fg) (t : TS) (m : MS) : Prop := ∀ (σ : L2.St) (H F G : Hp) (C : List Addr) (O : Nat → Option Addr) (ρ : Rho) (h : Hq) (out : Out) (Dn : Ends), SR K F G C O ρ h σ H → m ρ h = some out → Post K F G C Dn out → t Dn σ H
inductive SS (X : Cx) (st : Stmt) (m : MS) : Prop
  | mk (t : TS) (p : PS X st t) (r : RS X.K t m)
inductive SSs (X : Cx) (st : List Stmt) (m : MS) : Prop
  | mk (t : TS) (p : PSs X st t) (r : RS X.K t m)
@[irreducible] def sNil : MS := fun ρ h => some (.nx ρ h)
@[irreducible] def sSeq (a b : MS) : MS := fun ρ h => match a ρ h with | none => none | some (.nx ρ1 h1) => b ρ1 h1 | some o => some o
@[irreducible] def sRet (a : ME) : MS := fun ρ h => match a ρ h with | none => none | some (d, h1) => some (.rt d h1)
@[irreducible] def sIf (t : MT) (a b : MS) : MS := fun ρ h => match t ρ h with | none => none | some (c, h1) => if c then a ρ h1 else b ρ h1
@[irreducible] def sSet (i : Nat) (a : ME) : MS := fun ρ h => match a ρ h with | none => none | some (d, h1) => if i < ρ.length then some (.nx (ρ.set i (.val d)) h1) else none
section
variable {X : Cx} {st : Stmt} {rest : List Stmt} {e c : Expr} {pos : Pos} {m m1 m2 : MS} {ma : ME} {mt : MT}
theorem ss_nil : SSs X [] sNil := .mk _ pss_nil fun σ H F G C O ρ h out Dn s e q => by
  unfold sNil at e
  cases e
  exact q σ H F G C O .refl s
theorem ss_cons (h1 : SS X st m1) (h2 : SSs X rest m2) : SSs X (st :: rest) (sSeq m1 m2) := by
  obtain ⟨t, p, r⟩ := h1
  obtain ⟨t2, p2, r2⟩ := h2
  refine .mk _ (pss_cons p p2) fun σ H F G C O ρ h out Dn s e q => ?_
  unfold sSeq at e
  split at e
  · cases e
  · rename_i ρ1 h1 e1
    exact r σ H F G C O ρ h _ _ s e1 fun σ' H' F' G' C' O' a s' => r2 σ' H' F' G' C' O' ρ1 h1 out Dn s' e (q.on a)
  · rename_i o ne e1
    cases e
    refine r σ H F G C O ρ h _ _ s e1 ?_
    cases out with
    | nx ρ' h' => exact absurd rfl (ne ρ' h')
    | rt d h' => exact q
    | bk ρ' h' => exact q
    | ct ρ' h' => exact q
theorem ss_one (h1 : SS X st m1) : SSs X [st] m1 := by
  obtain ⟨t, p, r⟩ := h1
  exact .mk _ (pss_one p) r
theorem ss_ret (he : SE X e ma) : SS X (.Return (some e) pos) (sRet ma) := by
  obtain ⟨t, p, r⟩ := he
  refine .mk _ (ps_ret p) fun σ H F G C O ρ h out Dn s e q => ?_
  unfold sRet at e
  split at e
  · cases e
  rename_i d h1 e1
  cases e
  refine r σ H F (Gx O H G) C ρ h d h1 _ s.hr s.er e1 fun u H1 F1 G1 C1 a1 r1 => ?_
  obtain ⟨s1, b1⟩ := s.back a1
  exact q u H1 F1 _ C1 b1.a0 s1.r r1
theorem ss_if {a b : List Stmt} (hc : ST X c mt) (ha : SSs X a m1) (hb : SSs X b m2) : SS X (.If c a b pos) (sIf mt m1 m2) := by
  obtain ⟨t, p, r⟩ := hc
  obtain ⟨t1, p1, r1⟩ := ha
  obtain ⟨t2, p2, r2⟩ := hb
  refine .mk _ (ps_if p p1 p2) fun σ H F G C O ρ h out Dn s e q => ?_
  unfold sIf at e
  split at e
  · cases e
  rename_i k h1 e1
  refine r σ H F (Gx O H G) C ρ h k h1 _ s.hr s.er e1 fun H1 F1 G1 C1 a1 => ?_
  obtain ⟨s1, b1⟩ := s.back a1
  cases k with
  | true =>
    rw [if_pos rfl] at e ⊢
    exact r1 σ H1 F1 _ C1 O ρ h1 out Dn s1 e (q.on b1.a0)
  | false =>
    rw [if_neg Bool.false_ne_true] at e ⊢
    exact r2 σ H1 F1 _ C1 O ρ h1 out Dn s1 e (q.on b1.a0)
theorem SR.setVal {K : Fg} {F G H : Hp} {C : List Addr} {O : Nat → Option Addr} {ρ : Rho} {h : Hq} {σ : L2.St} (s : SR K F G C O ρ h σ H) (i : Nat) {v : V} {d : D} (r : Rl K F C v d) (hi : i < ρ.length) :
    SR K F G C (fun j => if j = i then none else O j) (ρ.set i (.val d)) h (σ.set i (some v)) H := by
  have hO : ∀ j a, (if j = i then none else O j) = some a → O j = some a := fun j a e => by
    split at e
    · cases e
    · exact e
  refine ⟨s.r, by simpa using s.len, fun j t e => ?_, fun j hj => ?_, fun j a e => s.oG j a (hO j a e), fun j k a e1 e2 => s.inj j k a (hO j a e1) (hO k a e2)⟩
  · by_cases hj : j = i
    · subst hj
      rw [List.getElem?_set_self hi] at e
      cases e
      rw [if_pos rfl, List.getElem?_set_self (by rw [← s.len]; exact hi)]
      exact ⟨rfl, v, rfl, r⟩
    · rw [List.getElem?_set_ne (Ne.symm hj)] at e
      rw [if_neg hj, List.getElem?_set_ne (Ne.symm hj)]
      exact s.slot j t e
  · rw [List.length_set] at hj
    split
    · rfl
    · exact s.far j hj
theorem ss_set (i : Nat) {x : Str} {pos' : Pos} (hN : X.N.Nodup) (he : SE X e ma) (hi : X.N[i]? = some x := by rfl) (hx : Loc X.env.scope x := by first | exact Or.inl rfl | exact Or.inr rfl) (hs : swapsWith e (some (.Name x pos')) pos.line X.env = pure false := by rfl) (hf : X.fn x = true ∨ X.env.scope.names.lookup x = some .local := by first | exact .inl rfl | exact .inr rfl | assumption) :
    SS X (.Assign [.Name x pos'] e pos) (sSet i ma) := by
  obtain ⟨t, p, r⟩ := he
  refine .mk _ (ps_set hN hi hx p hs hf) fun σ H F G C O ρ h out Dn s e q => ?_
  unfold sSet at e
  split at e
  · cases e
  rename_i d h1 e1
  split at e
  · rename_i hi
    cases e
    refine r σ H F (Gx O H G) C ρ h d h1 _ s.hr s.er e1 fun u H1 F1 G1 C1 a1 r1 => ?_
    obtain ⟨s1, b1⟩ := s.back a1
    exact q _ H1 F1 _ C1 _ b1.a0 (s1.setVal i r1 hi)
  · cases e
theorem ss_never : SS X st (fun _ _ => none) := .mk _ ps_never fun σ H F G C O ρ h out Dn s e q => by cases e
end
def runB (m : MS) (n : Nat) : MF := fun ds h => match m (ds.map Sl.val ++ List.replicate (n - ds.length) Sl.no) h with
  | some (.nx _ h') => some (.none, h')
  | some (.rt d h') => some (d, h')
  | _ => none
theorem start_sr {K : Fg} {F G H : Hp} {C : List Addr} {h : Hq} {vs : List V} {ds : List D} (N : List Str) (hr : HR K F G C h H) (r : Rls K F C vs ds) :
    SR K F G C (fun _ => none) (ds.map Sl.val ++ List.replicate (N.length - ds.length) Sl.no) h (L2.start N vs) H := by
  have hl := r.length
  refine ⟨hr, ?_, fun i t e => ?_, fun _ _ => rfl, fun _ _ e => (by cases e), fun _ _ _ e => (by cases e)⟩
  · unfold L2.start
    simp [hl]
  · unfold L2.start
    by_cases hi : i < ds.length
    · rw [List.getElem?_append_left (by simpa using hi), List.getElem?_map, List.getElem?_eq_getElem hi] at e
      cases e
      obtain ⟨v, e1, r1⟩ := r.get (List.getElem?_eq_getElem hi)
      refine ⟨rfl, v, ?_, r1⟩
      rw [List.getElem?_append_left (by simpa [hl] using hi), List.getElem?_map, e1]
      rfl
    · rw [List.getElem?_append_right (by simpa using hi), List.getElem?_replicate] at e
      split at e
      · cases e
        rfl
      · cases e
section
variable {P : Program} {w : World} {K : PySem.W.Frag} {mg : Str → Option Value} {base : Heap}
end
end Q
set_option Elab.async false
set_option linter.all false
set_option maxRecDepth 100000
namespace Q
open PySem PySem.Spec PyProof.Rows L2
abbrev MG := D → Rho → Option Rho
def RG (K : Fg) (g : TG) (m : MG) : Prop := ∀ (v : V) (σ : L2.St) (H F G : Hp) (C : List Addr) (O : Nat → Option Addr) (ρ : Rho) (h : Hq) (d : D) (ρ' : Rho) (Q : L2.St → Hp → Prop), SR K F G C O ρ h σ H → Rl K F C v d → m d ρ = some ρ' →
  (∀ σ' O', SR K F G C O' ρ' h σ' H → Q σ' H) → g v σ H Q
def RGe (K : Fg) (vs : List Nat) (g : TG) (m : MG) : Prop := ∀ (v : V) (σ : L2.St) (H F G : Hp) (C : List Addr) (ρ : Rho) (d : D) (ρ' : Rho) (Q : L2.St → Hp → Prop), Le F H → ER K F G C ρ σ → Rl K F C v d → m d ρ = some ρ' →
  (∀ σ', wipe σ' vs = wipe σ vs → ER K F G C ρ' σ' → Q σ' H) → g v σ H Q
inductive SG (X : Cx) (tg : Expr) (m : MG) : Prop
  | mk (g : TG) (p : PG X tg g) (r : RG X.K g m)
inductive SGe (X : Cx) (vs : List Nat) (tg : Expr) (m : MG) : Prop
  | mk (g : TG) (p : PG X tg g) (r : RGe X.K vs g m)
abbrev MGs := List D → Rho → Option Rho
def RGse (K : Fg) (vs : List Nat) (g : TGs) (m : MGs) : Prop := ∀ (us : List V) (σ : L2.St) (H F G : Hp) (C : List Addr) (ρ : Rho) (ds : List D) (ρ' : Rho) (Q : L2.St → Hp → Prop), Le F H → ER K F G C ρ σ → Rls K F C us ds → m ds ρ = some ρ' →
  (∀ σ', wipe σ' vs = wipe σ vs → ER K F G C ρ' σ' → Q σ' H) → g us σ H Q
inductive SGse (X : Cx) (vs : List Nat) (tgs : List Expr) (m : MGs) : Prop
  | mk (g : TGs) (p : PGs X tgs g) (r : RGse X.K vs g m)
@[irreducible] def gN (i : Nat) : MG := fun d ρ => if i < ρ.length then some (ρ.set i (.val d)) else none
@[irreducible] def gsNil : MGs := fun ds ρ => match ds with | [] => some ρ | _ => none
@[irreducible] def gsCons (a : MG) (b : MGs) : MGs := fun ds ρ => match ds with | d :: r => (match a d ρ with | none => none | some ρ1 => b r ρ1) | [] => none
@[irreducible] def gTp (b : MGs) : MG := fun d ρ => match d with | .tuple ds => b ds ρ | _ => none
theorem ER.setVal {K : Fg} {F G : Hp} {C : List Addr} {ρ : Rho} {σ : L2.St} (s : ER K F G C ρ σ) (i : Nat) {v : V} {d : D} (r : Rl K F C v d) (hi : i < ρ.length) : ER K F G C (ρ.set i (.val d)) (σ.set i (some v)) := by
  refine ⟨by simpa using s.1, fun j t e => ?_⟩
  by_cases hj : j = i
  · subst hj
    rw [List.getElem?_set_self hi] at e
    cases e
    rw [List.getElem?_set_self (by rw [← s.1]; exact hi)]
    exact ⟨v, rfl, r⟩
  · rw [List.getElem?_set_ne (Ne.symm hj)] at e
    rw [List.getElem?_set_ne (Ne.symm hj)]
    exact s.2 j t e
theorem wipe_set_gen (i : Nat) (σ : L2.St) (v : Option V) : ∀ vs : List Nat, wipe (σ.set i v) vs = if i ∈ vs then wipe σ vs else (wipe σ vs).set i v
  | [] => by simp [wipe]
  | w :: ws => by
    have ih := wipe_set_gen i σ v ws
    unfold wipe
    rw [ih]
    by_cases h1 : i ∈ ws
    · simp [h1]
    · by_cases h2 : i = w
      · subst h2; simp [h1]
      · rw [if_neg h1, if_neg (by simp [h1, h2]), List.set_comm _ _ h2]
theorem wipe_set {vs : List Nat} {i : Nat} (hi : i ∈ vs) (σ : L2.St) (v : Option V) : wipe (σ.set i v) vs = wipe σ vs := by
  rw [wipe_set_gen, if_pos hi]
section
variable {X : Cx} {pos : Pos} {tg : Expr} {tgs : List Expr} {m : MG} {ms : MGs} {vs : List Nat}
theorem sg_name (i : Nat) {x : Str} (hN : X.N.Nodup) (hi : X.N[i]? = some x := by rfl) (hx : Loc X.env.scope x := by first | exact Or.inl rfl | exact Or.inr rfl) (hf : X.fn x = true ∨ X.env.scope.names.lookup x = some .local := by first | exact .inl rfl | exact .inr rfl | assumption) : SG X (.Name x pos) (gN i) :=
  .mk _ (pg_name hN hi hx hf) fun v σ H F G C O ρ h d ρ' Q s r e q => by
    unfold gN at e
    split at e
    · cases e
      exact q _ _ (s.setVal i r (by assumption))
    · cases e
theorem sge_name (i : Nat) {x : Str} (hN : X.N.Nodup) (hm : i ∈ vs := by decide) (hi : X.N[i]? = some x := by rfl) (hx : Loc X.env.scope x := by first | exact Or.inl rfl | exact Or.inr rfl) (hf : X.fn x = true ∨ X.env.scope.names.lookup x = some .local := by first | exact .inl rfl | exact .inr rfl | assumption) : SGe X vs (.Name x pos) (gN i) :=
  .mk _ (pg_name hN hi hx hf) fun v σ H F G C ρ d ρ' Q fh s r e q => by
    unfold gN at e
    split at e
    · cases e
      exact q _ (wipe_set hm _ _) (s.setVal i r (by assumption))
    · cases e
theorem sgse_nil : SGse X vs [] gsNil := .mk _ pgs_nil fun us σ H F G C ρ ds ρ' Q fh s r e q => by
  unfold gsNil at e
  split at e
  · cases e
    cases r
    exact ⟨rfl, q _ rfl s⟩
  · cases e
theorem sgse_cons (h1 : SGe X vs tg m) (h2 : SGse X vs tgs ms) (hs : (assignEach (tg :: tgs) X.env).map (·.2) = assign tg X.env :: (assignEach tgs X.env).map (·.2) := by rfl) : SGse X vs (tg :: tgs) (gsCons m ms) := by
  obtain ⟨g, p, r1⟩ := h1
  obtain ⟨g2, p2, r2⟩ := h2
  refine .mk _ (pgs_cons p p2 hs) fun us σ H F G C ρ ds ρ' Q fh s r e q => ?_
  unfold gsCons at e
  split at e
  · split at e
    · cases e
    rename_i ρ1 e1
    cases r with
    | cons r rr =>
      exact ⟨_, _, rfl, r1 _ σ H F G C ρ _ ρ1 _ fh s r e1 fun σ' w' s' => r2 _ σ' H F G C ρ1 _ ρ' Q fh s' rr e fun σ2 w2 s2 => q σ2 (w2.trans w') s2⟩
  · cases e
end
def RGn (m : MGs) (n : Nat) : Prop := ∀ ds ρ ρ', m ds ρ = some ρ' → ds.length = n
theorem rgn_nil : RGn gsNil 0 := fun ds ρ ρ' e => by
  unfold gsNil at e
  split at e
  · rfl
  · cases e
theorem rgn_cons {m : MG} {ms : MGs} {n : Nat} (h : RGn ms n) : RGn (gsCons m ms) (n + 1) := fun ds ρ ρ' e => by
  unfold gsCons at e
  split at e
  · split at e
    · cases e
    rw [List.length_cons, h _ _ _ e]
  · cases e
section
variable {X : Cx} {pos : Pos} {tgs : List Expr} {ms : MGs} {vs : List Nat} {n k : Nat}
theorem sge_tup (hc : X.calm = true) (h : SGse X vs tgs ms) (hn : RGn ms n) (ha : (assignEach tgs X.env).length = n := by rfl) (hst : (assignEach tgs X.env).findIdx? (·.1) = none := by rfl) : SGe X vs (.Tuple tgs k pos) (gTp ms) := by
  obtain ⟨g, p, r1⟩ := h
  refine .mk _ (pg_tup hc p ha hst) fun v σ H F G C ρ d ρ' Q fh s r e q => ?_
  unfold gTp at e
  split at e
  · cases r with
    | tup hs rs => exact ⟨_, _, rfl, SqT.of (fh _ _ hs), by rw [rs.length]; exact hn _ _ _ e, r1 _ σ H F G C ρ _ ρ' Q fh s rs e q⟩
  · cases e
@[irreducible] def sAsg (g : MG) (a : ME) : MS := fun ρ h => match a ρ h with | none => none | some (d, h1) => match g d ρ with | none => none | some ρ1 => some (.nx ρ1 h1)
end
structure ItR (K : Fg) (J : It) (F : Hp) (C : List Addr) (ds : List D) : Prop where
  stop : ∀ F' G' C' h' H', Le F F' → C <+: C' → HR K F' G' C' h' H' → J.stop ds.length H'
  go : ∀ F' G' C' h' H' (i : Nat) d, Le F F' → C <+: C' → HR K F' G' C' h' H' → ds[i]? = some d → J.go i H' ∧ ∀ x H2, J.yld i H' x H2 → Le H' H2 ∧ ∃ F2 G2, Aft K F' G' C' F2 G2 C' h' H2 ∧ Rl K F2 C' x d
abbrev MI := Rho → Hq → Option (List D × Hq)
def RI (K : Fg) (wi : TI) (m : MI) : Prop := ∀ (σ : L2.St) (H F G : Hp) (C : List Addr) (ρ : Rho) (h : Hq) (ds : List D) (h' : Hq) (R : It → Hp → Prop), HR K F G C h H → ER K F G C ρ σ → m ρ h = some (ds, h') →
  (∀ J H' F' G' C', Aft K F G C F' G' C' h' H' → ItR K J F' C' ds → R J H') → wi σ H R
inductive SI (X : Cx) (tg iter : Expr) (m : MI) : Prop
  | mk (wi : TI) (p : PI X tg iter wi) (r : RI X.K wi m)
section
variable {X : Cx} {tg e a b : Expr} {pos p : Pos} {ma mb : ME}
def iSeq (K : Fg) (tl : TE) : TI := fun σ H R => tl σ H fun x H1 => ∃ a, x = .ref a ∧ ((∃ xs, SqL K H1 a xs) ∧ R (Itl K a) H1 ∨ (∃ xs, SqT K H1 a xs) ∧ R (Itt K a) H1)
theorem pi_seq {l : Expr} {tl : TE} (hl : PE X l tl) : PI X tg l (iSeq X.K tl) := by
  intro pins s σ H R I h
  refine thn (hl pins s σ H _ I h) fun v s1 ⟨x, H1, I1, r1, q1⟩ => ?_
  obtain ⟨a, e, q1⟩ := q1
  subst e
  cases r1
  have fp : ∀ b ∈ [s1.heap.objs.size], FpOk X pins H1 b := fun b hb => by
    have e : b = s1.heap.objs.size := by simpa using hb
    subst e
    exact I1.fpOk (Nat.le_refl _) (I1.hok.fresh (Nat.le_refl _))
  rcases q1 with ⟨⟨xs, hq⟩, q⟩ | ⟨⟨xs, hq⟩, q⟩
  · obtain ⟨its, rv, p, hz⟩ := I1.list hq
    refine wpAny_pyIter_list p.isList ?_
    exact ⟨s1.heap.objs.size, [s1.heap.objs.size], _, _, H1, rfl, I1.kept (t' := s1.toks) fun b o e => Heap.get?_push_of_some _ e, turn_list a _, ⟨_, Heap.get?_push_size _ rfl, rfl, rfl⟩, fp, q⟩
  · obtain ⟨its, rv, p, hz⟩ := I1.tuple hq
    refine wpAny_pyIter_tuple (show s1.heap.IsTuple a its.toArray from p) ?_
    exact ⟨s1.heap.objs.size, [s1.heap.objs.size], _, _, H1, rfl, I1.kept (t' := s1.toks) fun b o e => Heap.get?_push_of_some _ e, turn_tuple a _, ⟨_, Heap.get?_push_size _ rfl, rfl, rfl⟩, fp, q⟩
theorem itR_list {K : Fg} {F : Hp} {C : List Addr} {a : Addr} {vs : List V} {ds : List D} (s : SqL K F a vs) (r : Rls K F C vs ds) : ItR K (Itl K a) F C ds where
  stop := fun F' G' C' h' H' f c hr => ⟨vs, sqL_le (f.trans hr.fh) s, by rw [r.length]; exact Nat.le_refl _⟩
  go := fun F' G' C' h' H' i d f c hr e => by
    obtain ⟨v, e1, r1⟩ := r.get e
    have s' := sqL_le (f.trans hr.fh) s
    refine ⟨⟨vs, v, s', e1⟩, fun x H2 y => ?_⟩
    obtain ⟨rfl, y⟩ := y
    have := y vs s'
    rw [e1] at this
    cases this
    exact ⟨Same.refl _, F', G', .refl hr, r1.le f c⟩
theorem itR_tup {K : Fg} {F : Hp} {C : List Addr} {a : Addr} {vs : List V} {ds : List D} (s : SqT K F a vs) (r : Rls K F C vs ds) : ItR K (Itt K a) F C ds where
  stop := fun F' G' C' h' H' f c hr => ⟨vs, sqT_le (f.trans hr.fh) s, by rw [r.length]; exact Nat.le_refl _⟩
  go := fun F' G' C' h' H' i d f c hr e => by
    obtain ⟨v, e1, r1⟩ := r.get e
    have s' := sqT_le (f.trans hr.fh) s
    refine ⟨⟨vs, v, s', e1⟩, fun x H2 y => ?_⟩
    obtain ⟨rfl, y⟩ := y
    have := y vs s'
    rw [e1] at this
    cases this
    exact ⟨Same.refl _, F', G', .refl hr, r1.le f c⟩
@[irreducible] def iVal (m : ME) : MI := fun ρ h => match m ρ h with | none => none | some (d, h1) => match seqD d with | none => none | some (_, ds) => some (ds, h1)
theorem si_val (h : SE X e ma) : SI X tg e (iVal ma) := by
  obtain ⟨t, p, r⟩ := h
  refine .mk _ (pi_seq p) fun σ H F G C ρ h ds h' R h0 er hm q => ?_
  unfold iVal at hm
  split at hm
  · cases hm
  rename_i x h1 e1
  split at hm
  · cases hm
  rename_i k ds2 e2
  cases hm
  refine r σ H F G C ρ h x h' _ h0 er e1 fun u H1 F1 G1 C1 a1 r1 => ?_
  obtain ⟨a, vs, rfl, s, rs⟩ := rl_seq r1 e2
  cases k with
  | true => exact ⟨a, rfl, .inr ⟨⟨vs, SqT.of (a1.r.fh _ _ s)⟩, q _ H1 F1 G1 C1 a1 (itR_tup (SqT.of s) rs)⟩⟩
  | false => exact ⟨a, rfl, .inl ⟨⟨vs, sqL_le a1.r.fh s⟩, q _ H1 F1 G1 C1 a1 (itR_list s rs)⟩⟩
def rangeD (lo hi : Int) : List D := (List.range (hi - lo).toNat).map fun (k : Nat) => .int (lo + (k : Int))
theorem itR_range {K : Fg} {F : Hp} {C : List Addr} (lo hi : Int) : ItR K (Itr lo (hi - lo).toNat) F C (rangeD lo hi) where
  stop := fun F' G' C' h' H' f c hr => by
    show (hi - lo).toNat ≤ (rangeD lo hi).length
    simp [rangeD]
  go := fun F' G' C' h' H' i d f c hr e => by
    unfold rangeD at e
    rw [List.getElem?_map] at e
    cases q : (List.range (hi - lo).toNat)[i]? with
    | none => rw [q] at e; cases e
    | some j =>
      rw [q] at e
      obtain ⟨h1, h2⟩ := List.getElem?_eq_some_iff.mp q
      rw [List.getElem_range] at h2
      subst h2
      cases e
      refine ⟨show i < (hi - lo).toNat by rw [List.length_range] at h1; exact h1, fun x H2 y => ?_⟩
      obtain ⟨rfl, rfl⟩ := y
      exact ⟨Same.refl _, F', G', .refl hr, .int _⟩
noncomputable def ok62 (i : Int) : Bool := decide (-(lim : Int) ≤ i) && decide (i ≤ (lim : Int))
theorem ok62_of {i : Int} (h : ok62 i = true) : -(2 ^ 62) ≤ i ∧ i < 2 ^ 62 := by
  simp only [ok62, Bool.and_eq_true, decide_eq_true_eq] at h
  have := lim_eq
  omega
@[irreducible] noncomputable def iRange1 (m : ME) : MI := fun ρ h => match m ρ h with | some (.int j, h1) => if ok62 j then some (rangeD 0 j, h1) else none | _ => none
@[irreducible] noncomputable def iRange2 (m m2 : ME) : MI := fun ρ h => match m ρ h with | some (.int i, h1) => (match m2 ρ h1 with | some (.int j, h2) => if ok62 i && ok62 j then some (rangeD i j, h2) else none | _ => none) | _ => none
theorem si_range1 (hg : Gl X "range") (hm : X.mg "range" = none) (ha : SE X a ma) (hs : starEach [a] X.env = [(false, eval a X.env)] := by rfl) : SI X tg (.Call (.Name "range" p) [a] [] pos) (iRange1 ma) := by
  obtain ⟨t, pt, r⟩ := ha
  refine .mk _ (pi_range1 hg hm (pa_cons pt pa_nil hs) hs) fun σ H F G C ρ h ds h' R h0 er hm q => ?_
  unfold iRange1 at hm
  split at hm
  · rename_i j h1 e1
    split at hm
    · rename_i hj
      cases hm
      refine r σ H F G C ρ h _ _ _ h0 er e1 fun u H1 F1 G1 C1 a1 r1 => ?_
      obtain ⟨l1, l2⟩ := ok62_of hj
      refine ⟨j, by rw [rl_int r1], l1, l2, ?_⟩
      have := q _ H1 F1 G1 C1 a1 (itR_range 0 j)
      rw [Int.sub_zero] at this
      exact this
    · cases hm
  · cases hm
theorem si_range2 (hg : Gl X "range") (hm : X.mg "range" = none) (ha : SE X a ma) (hb : SE X b mb) (hs : starEach [a, b] X.env = [(false, eval a X.env), (false, eval b X.env)] := by rfl) (hs2 : starEach [b] X.env = [(false, eval b X.env)] := by rfl) : SI X tg (.Call (.Name "range" p) [a, b] [] pos) (iRange2 ma mb) := by
  obtain ⟨t, pt, r⟩ := ha
  obtain ⟨t2, pt2, r2⟩ := hb
  refine .mk _ (pi_range2 hg hm (pa_cons pt (pa_cons pt2 pa_nil hs2) (by rw [hs, hs2])) hs hs2) fun σ H F G C ρ h ds h' R h0 er hm q => ?_
  unfold iRange2 at hm
  split at hm
  · rename_i i h1 e1
    split at hm
    · rename_i j h2 e2
      split at hm
      · rename_i hj
        rw [Bool.and_eq_true] at hj
        cases hm
        refine r σ H F G C ρ h _ h1 _ h0 er e1 fun u H1 F1 G1 C1 a1 r1 => ?_
        refine r2 σ H1 F1 G1 C1 ρ h1 _ _ _ a1.r (er.le a1.f a1.g a1.c) e2 fun u2 H2 F2 G2 C2 a2 r2' => ?_
        exact ⟨i, j, by rw [rl_int r1, rl_int r2'], ⟨(ok62_of hj.1).1, (ok62_of hj.1).2, (ok62_of hj.2).1, (ok62_of hj.2).2⟩, q _ H2 F2 G2 C2 (a1.trans a2) (itR_range i j)⟩
      · cases hm
    · cases hm
  · cases hm
end
def forGo (g : MG) (mb : MS) : List D → Rho → Hq → Option Out
  | [], ρ, h => some (.nx ρ h)
  | x :: xs, ρ, h => match g x ρ with
    | none => none
    | some ρ1 => match mb ρ1 h with
      | none => none
      | some (.nx ρ2 h2) => forGo g mb xs ρ2 h2
      | some (.ct ρ2 h2) => forGo g mb xs ρ2 h2
      | some (.bk ρ2 h2) => some (.nx ρ2 h2)
      | some (.rt d h2) => some (.rt d h2)
@[irreducible] def sFor (mi : MI) (g : MG) (mb : MS) : MS := fun ρ h => match mi ρ h with | none => none | some (ds, h1) => forGo g mb ds ρ h1
theorem ss_for {X : Cx} {tg iter : Expr} {body : List Stmt} {pos : Pos} {mi : MI} {g : MG} {mb : MS} (hp : PassesOwn (model X.prog X.w) X.A X.env X.xe) (hc : X.calm = true) (hi : SI X tg iter mi) (hg : SG X tg g) (hb : SSs X body mb)
    (hs : ∀ x, foldedSetIterable iter X.env x = pure x := by intro _; rfl) : SS X (.For tg iter body [] pos) (sFor mi g mb) := by
  obtain ⟨wi, p1, r1⟩ := hi
  obtain ⟨tg', p2, r2⟩ := hg
  obtain ⟨tb, p3, r3⟩ := hb
  refine .mk _ (ps_for hp hc p1 p2 p3 hs) fun σ H F G C O ρ h out Dn s e q => ?_
  unfold sFor at e
  split at e
  · cases e
  rename_i ds h1 e1
  refine r1 σ H F (Gx O H G) C ρ h ds h1 _ s.hr s.er e1 fun J H1 F1 G1 C1 a1 it => ?_
  obtain ⟨s1, b1⟩ := s.back a1
  have q := q.on b1.a0
  generalize Gm O G1 = G1' at *
  refine ⟨fun i m σ' H' => m = ds.length - i ∧ i ≤ ds.length ∧ ∃ F' G' C' O' ρ' h', Aft0 F1 G1' C1 F' G' C' ∧ SR X.K F' G' C' O' ρ' h' σ' H' ∧ forGo g mb (ds.drop i) ρ' h' = some out,
    ⟨ds.length, by simp, Nat.zero_le _, F1, G1', C1, O, ρ, h1, .refl, s1, by rw [List.drop_zero]; exact e⟩, ?_⟩
  rintro i m σ' H' ⟨rfl, hi, F', G', C', O', ρ', h', a, s', e'⟩
  by_cases hlt : i < ds.length
  · obtain ⟨go, yl⟩ := it.go F' (Gx O' H' G') C' h' H' i ds[i] a.f a.c s'.hr (List.getElem?_eq_getElem hlt)
    have ed : ds.drop i = ds[i] :: ds.drop (i + 1) := List.drop_eq_getElem_cons hlt
    rw [ed] at e'
    unfold forGo at e'
    split at e'
    · cases e'
    rename_i ρ1 e2
    split at e'
    · cases e'
    all_goals rename_i e3
    · rename_i ρ2 h2
      refine .inr ⟨go, _, fun σ2 H2 n => ⟨ds.length - (i + 1), by omega, n⟩, fun x H2 y => ?_⟩
      obtain ⟨_, F2, G2, a2, rx⟩ := yl x H2 y
      obtain ⟨s2, b2⟩ := s'.back a2
      refine r2 x σ' H2 F2 _ C' O' ρ' h' _ ρ1 _ s2 rx e2 fun σ3 O3 s3 => ?_
      exact r3 σ3 H2 F2 _ C' O3 ρ1 h' _ _ s3 e3 fun σ4 H4 F4 G4 C4 O4 a4 s4 => ⟨rfl, hlt, F4, G4, C4, O4, ρ2, h2, (a.trans b2.a0).trans a4, s4, e'⟩
    · rename_i ρ2 h2
      refine .inr ⟨go, _, fun σ2 H2 n => ⟨ds.length - (i + 1), by omega, n⟩, fun x H2 y => ?_⟩
      obtain ⟨_, F2, G2, a2, rx⟩ := yl x H2 y
      obtain ⟨s2, b2⟩ := s'.back a2
      refine r2 x σ' H2 F2 _ C' O' ρ' h' _ ρ1 _ s2 rx e2 fun σ3 O3 s3 => ?_
      exact r3 σ3 H2 F2 _ C' O3 ρ1 h' _ _ s3 e3 fun σ4 H4 F4 G4 C4 O4 a4 s4 => ⟨rfl, hlt, F4, G4, C4, O4, ρ2, h2, (a.trans b2.a0).trans a4, s4, e'⟩
    · rename_i ρ2 h2
      cases e'
      refine .inr ⟨go, fun _ _ => False, fun σ2 H2 n => n.elim, fun x H2 y => ?_⟩
      obtain ⟨_, F2, G2, a2, rx⟩ := yl x H2 y
      obtain ⟨s2, b2⟩ := s'.back a2
      refine r2 x σ' H2 F2 _ C' O' ρ' h' _ ρ1 _ s2 rx e2 fun σ3 O3 s3 => ?_
      exact r3 σ3 H2 F2 _ C' O3 ρ1 h' _ _ s3 e3 fun σ4 H4 F4 G4 C4 O4 a4 s4 => q σ4 H4 F4 G4 C4 O4 ((a.trans b2.a0).trans a4) s4
    · rename_i d h2
      cases e'
      refine .inr ⟨go, fun _ _ => False, fun σ2 H2 n => n.elim, fun x H2 y => ?_⟩
      obtain ⟨_, F2, G2, a2, rx⟩ := yl x H2 y
      obtain ⟨s2, b2⟩ := s'.back a2
      refine r2 x σ' H2 F2 _ C' O' ρ' h' _ ρ1 _ s2 rx e2 fun σ3 O3 s3 => ?_
      exact r3 σ3 H2 F2 _ C' O3 ρ1 h' _ _ s3 e3 fun u H4 F4 G4 C4 a4 h4 r4 => q u H4 F4 G4 C4 ((a.trans b2.a0).trans a4) h4 r4
  · have hi' : i = ds.length := by omega
    subst hi'
    rw [List.drop_length] at e'
    unfold forGo at e'
    cases e'
    exact .inl ⟨it.stop F' (Gx O' H' G') C' h' H' a.f a.c s'.hr, q σ' H' F' G' C' O' a s'⟩
def whGo (t : MT) (mb : MS) : Nat → Rho → Hq → Option Out
  | 0, _, _ => none
  | n + 1, ρ, h => match t ρ h with
    | none => none
    | some (c, h1) => if c then (match mb ρ h1 with
        | none => none
        | some (.nx ρ2 h2) => whGo t mb n ρ2 h2
        | some (.ct ρ2 h2) => whGo t mb n ρ2 h2
        | some (.bk ρ2 h2) => some (.nx ρ2 h2)
        | some (.rt d h2) => some (.rt d h2)) else some (.nx ρ h1)
open Classical in
@[irreducible] noncomputable def sWhile (t : MT) (mb : MS) : MS := fun ρ h => if hx : ∃ o n, whGo t mb n ρ h = some o then some hx.choose else none
theorem whGo_mono {t : MT} {mb : MS} : ∀ {n : Nat} {ρ : Rho} {h : Hq} {o : Out}, whGo t mb n ρ h = some o → ∀ k, whGo t mb (n + k) ρ h = some o
  | 0, _, _, _, e => by cases e
  | n + 1, ρ, h, o, e => fun k => by
    rw [Nat.add_right_comm]
    unfold whGo at e ⊢
    split at e
    · cases e
    rename_i c h1 e1
    split at e
    · rename_i hc
      rw [if_pos hc]
      split at e
      · cases e
      · exact whGo_mono e k
      · exact whGo_mono e k
      · exact e
      · exact e
    · rename_i hc
      rw [if_neg hc]
      exact e
theorem sWhile_eq {t : MT} {mb : MS} {ρ : Rho} {h : Hq} {o : Out} (n : Nat) (e : whGo t mb n ρ h = some o) : sWhile t mb ρ h = some o := by
  unfold sWhile
  have hx : ∃ o n, whGo t mb n ρ h = some o := ⟨o, n, e⟩
  rw [dif_pos hx]
  obtain ⟨k, hk⟩ := hx.choose_spec
  have e1 := whGo_mono e k
  have e2 := whGo_mono hk n
  rw [Nat.add_comm] at e2
  rw [e1] at e2
  exact e2.symm
theorem sWhile_some {t : MT} {mb : MS} {ρ : Rho} {h : Hq} {o : Out} (e : sWhile t mb ρ h = some o) : ∃ n, whGo t mb n ρ h = some o := by
  unfold sWhile at e
  split at e
  · rename_i hx
    cases e
    exact hx.choose_spec
  · cases e
theorem ss_while {X : Cx} {c : Expr} {body : List Stmt} {pos : Pos} {mt : MT} {mb : MS} (hp : PassesOwn (model X.prog X.w) X.A X.env X.xe) (hc : ST X c mt) (hb : SSs X body mb) : SS X (.While c body [] pos) (sWhile mt mb) := by
  obtain ⟨tc, p1, r1⟩ := hc
  obtain ⟨tb, p2, r2⟩ := hb
  refine .mk _ (ps_while hp p1 p2) fun σ H F G C O ρ h out Dn s e q => ?_
  obtain ⟨n, e⟩ := sWhile_some e
  refine ⟨fun m σ' H' => ∃ F' G' C' O' ρ' h', Aft0 F G C F' G' C' ∧ SR X.K F' G' C' O' ρ' h' σ' H' ∧ whGo mt mb m ρ' h' = some out, ⟨n, F, G, C, O, ρ, h, .refl, s, e⟩, ?_⟩
  rintro m σ' H' ⟨F', G', C', O', ρ', h', a, s', e'⟩
  cases m with
  | zero => cases e'
  | succ m =>
    unfold whGo at e'
    split at e'
    · cases e'
    rename_i k h1 e1
    refine r1 σ' H' F' (Gx O' H' G') C' ρ' h' k h1 _ s'.hr s'.er e1 fun H1 F1 G1 C1 a1 => ?_
    obtain ⟨s1, b1⟩ := s'.back a1
    cases k with
    | false =>
      rw [if_neg Bool.false_ne_true] at e' ⊢
      cases e'
      exact q σ' H1 F1 _ C1 O' (a.trans b1.a0) s1
    | true =>
      rw [if_pos rfl] at e' ⊢
      split at e'
      · cases e'
      all_goals rename_i e3
      · exact ⟨_, fun σ2 H2 n => ⟨m, Nat.lt_succ_self _, n⟩, r2 σ' H1 F1 _ C1 O' ρ' h1 _ _ s1 e3 fun σ4 H4 F4 G4 C4 O4 a4 s4 => ⟨F4, G4, C4, O4, _, _, (a.trans b1.a0).trans a4, s4, e'⟩⟩
      · exact ⟨_, fun σ2 H2 n => ⟨m, Nat.lt_succ_self _, n⟩, r2 σ' H1 F1 _ C1 O' ρ' h1 _ _ s1 e3 fun σ4 H4 F4 G4 C4 O4 a4 s4 => ⟨F4, G4, C4, O4, _, _, (a.trans b1.a0).trans a4, s4, e'⟩⟩
      · cases e'
        exact ⟨fun _ _ => False, fun σ2 H2 n => n.elim, r2 σ' H1 F1 _ C1 O' ρ' h1 _ _ s1 e3 fun σ4 H4 F4 G4 C4 O4 a4 s4 => q σ4 H4 F4 G4 C4 O4 ((a.trans b1.a0).trans a4) s4⟩
      · cases e'
        exact ⟨fun _ _ => False, fun σ2 H2 n => n.elim, r2 σ' H1 F1 _ C1 O' ρ' h1 _ _ s1 e3 fun u H4 F4 G4 C4 a4 h4 r4 => q u H4 F4 G4 C4 ((a.trans b1.a0).trans a4) h4 r4⟩
end Q
set_option Elab.async false
set_option linter.all false
set_option maxRecDepth 100000
namespace Q
open PySem PySem.Spec PyProof.Rows L2
def tOf (K : Fg) (m : ME) : TE := fun σ H Q => ∃ F G C ρ h d h', HR K F G C h H ∧ ER K F G C ρ σ ∧ m ρ h = some (d, h') ∧ ∀ u H' F' G' C', Aft K F G C F' G' C' h' H' → Rl K F' C' u d → Q u H'
theorem SE.pe {X : Cx} {e : Expr} {m : ME} (h : SE X e m) : PE X e (tOf X.K m) := by
  obtain ⟨t, p, r⟩ := h
  intro pins s σ H Q I ⟨F, G, C, ρ, hq, d, h', h0, er, e, q⟩
  exact p pins s σ H Q I (r σ H F G C ρ hq d h' Q h0 er e q)
def ttOf (K : Fg) (m : MT) : TT := fun σ H Q => ∃ F G C ρ h b h', HR K F G C h H ∧ ER K F G C ρ σ ∧ m ρ h = some (b, h') ∧ ∀ H' F' G' C', Aft K F G C F' G' C' h' H' → Q b H'
inductive STs (X : Cx) (ifs : List Expr) (m : MT) : Prop
  | mk (t : TT) (p : PTs X ifs t) (r : RT X.K t m)
@[irreducible] def tYesM : MT := fun _ h => some (true, h)
theorem sts_nil {X : Cx} : STs X [] tYesM := .mk _ pts_nil fun σ H F G C ρ h b h' Q h0 er e q => by
  unfold tYesM at e
  cases e
  exact q H F G C (.refl h0)
theorem sts_one {X : Cx} {c : Expr} {m : MT} (h : ST X c m) : STs X [c] m := by
  obtain ⟨t, p, r⟩ := h
  exact .mk _ (pts_one p) r
theorem STs.pe {X : Cx} {ifs : List Expr} {m : MT} (h : STs X ifs m) : PTs X ifs (ttOf X.K m) := by
  obtain ⟨t, p, r⟩ := h
  intro pins s σ H Q I ⟨F, G, C, ρ, hq, d, h', h0, er, e, q⟩
  exact p pins s σ H Q I (r σ H F G C ρ hq d h' Q h0 er e q)
def gOf (K : Fg) (vs : List Nat) (m : MG) : TG := fun v σ H Q => ∃ F G C ρ d ρ', Le F H ∧ ER K F G C ρ σ ∧ Rl K F C v d ∧ m d ρ = some ρ' ∧ ∀ σ', wipe σ' vs = wipe σ vs → ER K F G C ρ' σ' → Q σ' H
theorem SGe.pe {X : Cx} {vs : List Nat} {tg : Expr} {m : MG} (h : SGe X vs tg m) : PG X tg (gOf X.K vs m) := by
  obtain ⟨g, p, r⟩ := h
  intro pins s σ H v u Q I rv ⟨F, G, C, ρ, d, ρ', fh, er, rl, e, q⟩
  exact p pins s σ H v u Q I rv (r v σ H F G C ρ d ρ' Q fh er rl e q)
section
variable {K : Fg} {F G F' G' H H' : Hp} {C C' : List Addr} {h h' : Hq} {p : Addr} {o : HO}
theorem HR.notCell (r : HR K F G C h H) (hp : H p = none) : p ∉ C := fun hm => by
  obtain ⟨o, e, _⟩ := r.at hm
  rw [hp] at e
  cases e
theorem HR.over (r : HR K F G C h H) (gp : G p = none) (cp : p ∉ C) (o : HO) : HR K F G C h (upd H p o) := by
  refine ⟨r.fg, fun a u e => ?_, r.nd, r.out, r.len, fun n a xs e1 e2 => ?_, fun n P e1 => ?_, fun n a c e1 e2 => (r.more n a c e1 e2).keep (Same.refl _) (List.prefix_refl _) (upd_ne (show a ≠ p from fun z => cp (by rw [← z]; exact List.mem_of_getElem? e1)))⟩
  · rw [upd_ne (show a ≠ p from fun z => by rw [z, gp] at e; cases e)]
    exact r.gh a u e
  · obtain ⟨vs, e3, r3⟩ := r.cell n a xs e1 e2
    exact ⟨vs, by rw [upd_ne (show a ≠ p from fun z => cp (by rw [← z]; exact List.mem_of_getElem? e1))]; exact e3, r3⟩
  · obtain ⟨e2, ps, e3, t⟩ := r.tab n P e1
    exact ⟨e2, ps, by rw [upd_ne (show P ≠ p from fun z => cp (by rw [← z]; exact List.mem_of_getElem? e2))]; exact e3, t⟩
theorem HR.hold (r : HR K F G C h H) (hp : H p = some o) (gp : G p = none) (cp : p ∉ C) : HR K F (upd G p o) C h H := by
  refine ⟨fun a u e => ?_, fun a u e => ?_, r.nd, fun a ha => ?_, r.len, r.cell, r.tab, r.more⟩
  · have e2 := r.fg a u e
    rw [upd_ne (show a ≠ p from fun z => by rw [z, gp] at e2; cases e2)]
    exact e2
  · by_cases z : a = p
    · subst z; rw [upd_same] at e; cases e; exact hp
    · rw [upd_ne z] at e; exact r.gh a u e
  · rw [upd_ne (show a ≠ p from fun z => cp (by rw [← z]; exact ha))]
    exact r.out a ha
def dropA (p : Addr) (G : Hp) : Hp := fun a => if a = p then none else G a
theorem dropA_same : dropA p G p = none := if_pos rfl
theorem dropA_ne {a : Addr} (h : a ≠ p) : dropA p G a = G a := if_neg h
theorem Aft.drop (x : Aft K F (upd G p o) C F' G' C' h' H') (gp : G p = none) (fp : F p = none) (hn : ∀ xs, o ≠ HO.tup xs) : Aft K F G C F' (dropA p G') C' h' H' ∧ H' p = some o ∧ p ∉ C' ∧ F' p = none := by
  have hG : G' p = some o := x.g p o upd_same
  have hF : F' p = none := by rw [x.nf p o upd_same hn]; exact fp
  have hC : p ∉ C' := fun hm => by rw [x.r.out p hm] at hG; cases hG
  refine ⟨⟨x.f, fun a u e => ?_, x.c, ⟨fun a u e => ?_, fun a u e => ?_, x.r.nd, fun a ha => ?_, x.r.len, x.r.cell, x.r.tab, x.r.more⟩, fun a u e n => x.nf a u ?_ n⟩, x.r.gh p o hG, hC, hF⟩
  · have z : a ≠ p := fun z => by rw [z, gp] at e; cases e
    rw [dropA_ne z]
    exact x.g a u (by rw [upd_ne z]; exact e)
  · rw [dropA_ne (show a ≠ p from fun z => by rw [z, hF] at e; cases e)]
    exact x.r.fg a u e
  · by_cases z : a = p
    · subst z; rw [dropA_same] at e; cases e
    · rw [dropA_ne z] at e; exact x.r.gh a u e
  · by_cases z : a = p
    · subst z; exact dropA_same
    · rw [dropA_ne z]; exact x.r.out a ha
  · rw [upd_ne (show a ≠ p from fun z => by rw [z, gp] at e; cases e)]
    exact e
theorem HR.freeze (r : HR K F G C h H) (hp : H p = some o) (gp : G p = none) (cp : p ∉ C) : HR K (upd F p o) (upd G p o) C h H ∧ Aft0 F G C (upd F p o) (upd G p o) C := by
  have fp : F p = none := r.fg.free gp
  have r2 := r.hold hp gp cp
  refine ⟨⟨fun a u e => ?_, r2.gh, r.nd, r2.out, r.len, fun n a xs e1 e2 => ?_, r.tab, fun n a c e1 e2 => (r.more n a c e1 e2).keep (le_upd fp o) (List.prefix_refl _) rfl⟩, ⟨le_upd fp o, le_upd gp o, List.prefix_refl _, fun a u e _ => upd_ne (show a ≠ p from fun z => by rw [z, gp] at e; cases e)⟩⟩
  · by_cases z : a = p
    · subst z; rw [upd_same] at e ⊢; exact e
    · rw [upd_ne z] at e ⊢; exact r.fg a u e
  · obtain ⟨vs, e3, r3⟩ := r.cell n a xs e1 e2
    exact ⟨vs, e3, r3.le (le_upd fp o) (List.prefix_refl _)⟩
theorem Aft0.aft (a : Aft0 F G C F' G' C') (r : HR K F' G' C' h' H') : Aft K F G C F' G' C' h' H' := ⟨a.f, a.g, a.c, r, a.nf⟩
end
abbrev ML := Rho → Hq → Option (List D × Hq)
def RL (K : Fg) (t : TE) (m : ML) : Prop := ∀ (σ : L2.St) (H F G : Hp) (C : List Addr) (ρ : Rho) (h : Hq) (ds : List D) (h' : Hq) (Q : VK), HR K F G C h H → ER K F G C ρ σ → m ρ h = some (ds, h') →
  (∀ p vs H' F' G' C', Aft K F G C F' G' C' h' H' → H' p = some (.lst vs) → G' p = none → p ∉ C' → Rls K F' C' vs ds → Q (.ref p) H') → t σ H Q
inductive SL (X : Cx) (e : Expr) (m : ML) : Prop
  | mk (t : TE) (p : PE X e t) (r : RL X.K t m)
@[irreducible] def eL (m : ML) : ME := fun ρ h => match m ρ h with | none => none | some (ds, h1) => some (.list ds, h1)
theorem rl_re {K : Fg} {t : TE} {m : ML} (r : RL K t m) : RE K t (eL m) := by
  intro σ H F G C ρ h d h' Q h0 er hm q
  unfold eL at hm
  split at hm
  · cases hm
  rename_i ds h1 e1
  cases hm
  refine r σ H F G C ρ h ds h' _ h0 er e1 fun p vs H1 F1 G1 C1 a1 hp gp cp r1 => ?_
  obtain ⟨r2, b2⟩ := a1.r.freeze hp gp cp
  exact q _ H1 _ _ C1 (a1.trans (b2.aft r2)) (.lst upd_same (r1.le b2.f b2.c))
theorem SL.se {X : Cx} {e : Expr} {m : ML} (h : SL X e m) : SE X e (eL m) := by
  obtain ⟨t, p, r⟩ := h
  exact .mk t p (rl_re r)
@[irreducible] noncomputable def lDisp (m : MA) : ML := fun ρ h => match m ρ h with | none => none | some (ds, h1) => if ds.length ≤ lim then some (ds, h1) else none
theorem sl_disp {X : Cx} {es : List Expr} {pos : Pos} {ml : MA} (h : SA X es ml) : SL X (.List es pos) (lDisp ml) := by
  obtain ⟨t, pt, rt⟩ := h
  refine .mk _ (pe_lst pt) fun σ H F G C ρ h ds h' Q h0 er hm q => ?_
  unfold lDisp at hm
  split at hm
  · cases hm
  rename_i ds h1 e1
  split at hm
  · cases hm
    refine rt σ H F G C ρ h _ _ _ h0 er e1 fun us H1 F1 G1 C1 a1 r1 => ⟨by rw [r1.length]; exact small (by assumption), fun p hp => ?_⟩
    have gp : G1 p = none := a1.r.gh.free hp
    have cp := a1.r.notCell hp
    exact q p us _ F1 G1 C1 ⟨a1.f, a1.g, a1.c, a1.r.over gp cp _, a1.nf⟩ upd_same gp cp r1
  · cases hm
def wipeR (ρ : Rho) : List Nat → Rho
  | [] => ρ
  | v :: vs => (wipeR ρ vs).set v .no
theorem ER.wipe {K : Fg} {F G : Hp} {C : List Addr} {ρ : Rho} {σ : L2.St} (s : ER K F G C ρ σ) : ∀ vs : List Nat, ER K F G C (wipeR ρ vs) (L2.wipe σ vs)
  | [] => s
  | v :: vs => by
    have ih := ER.wipe s vs
    unfold wipeR L2.wipe
    refine ⟨by simpa using ih.1, fun j t e => ?_⟩
    by_cases hj : j = v
    · subst hj
      by_cases hl : j < (wipeR ρ vs).length
      · rw [List.getElem?_set_self hl] at e
        cases e
        trivial
      · rw [List.getElem?_eq_none (by rw [List.length_set]; omega)] at e
        cases e
    · rw [List.getElem?_set_ne (Ne.symm hj)] at e
      rw [List.getElem?_set_ne (Ne.symm hj)]
      exact ih.2 j t e
theorem wipe_get {σ : L2.St} {i : Nat} : ∀ {vs : List Nat}, i ∈ vs → i < σ.length → (L2.wipe σ vs)[i]? = some none
  | [], h, _ => by cases h
  | v :: vs, h, hl => by
    unfold L2.wipe
    by_cases hv : v = i
    · subst hv
      rw [List.getElem?_set_self (by rw [wipe_length]; exact hl)]
    · rw [List.getElem?_set_ne hv]
      exact wipe_get ((List.mem_cons.mp h).resolve_left (Ne.symm hv)) hl
theorem wipe_wipe (σ : L2.St) (vs : List Nat) : L2.wipe (L2.wipe σ vs) vs = L2.wipe σ vs := by
  apply List.ext_getElem?
  intro i
  by_cases hi : i ∈ vs
  · by_cases hl : i < σ.length
    · rw [wipe_get hi (by rw [wipe_length]; exact hl), wipe_get hi hl]
    · rw [List.getElem?_eq_none (by rw [wipe_length, wipe_length]; omega), List.getElem?_eq_none (by rw [wipe_length]; omega)]
  · rw [wipe_out hi]
def lcGo (ρ : Rho) (g : MG) (t : MT) (m : ME) : List D → Hq → Option (List D × Hq)
  | [], h => some ([], h)
  | x :: xs, h => match g x ρ with
    | none => none
    | some ρ2 => match t ρ2 h with
      | none => none
      | some (c, h1) => if c then (match m ρ2 h1 with
          | none => none
          | some (d, h2) => match lcGo ρ g t m xs h2 with | none => none | some (ds, h3) => some (d :: ds, h3)) else lcGo ρ g t m xs h1
@[irreducible] noncomputable def lLc (vs : List Nat) (mi : MI) (g : MG) (t : MT) (m : ME) : ML := fun ρ h => match mi ρ h with | none => none | some (ds, h1) => if ds.length ≤ lim then lcGo (wipeR ρ vs) g t m ds h1 else none
theorem rl_lc {K : Fg} {vs : List Nat} {wi : TI} {mi : MI} {g : MG} {mt : MT} {me : ME} (ri : RI K wi mi) : RL K (tLc wi (gOf K vs g) (ttOf K mt) (tOf K me) vs) (lLc vs mi g mt me) := by
  intro σ H F G C ρ h ds h' Q h0 er hm q
  unfold lLc at hm
  split at hm
  · cases hm
  rename_i items h1 e1
  split at hm
  rotate_left
  · cases hm
  rename_i hz
  refine ri σ H F G C ρ h items h1 _ h0 er e1 fun J H1 F1 G1 C1 a1 it => fun D hD => ?_
  have gD : G1 D = none := a1.r.gh.free hD
  have cD := a1.r.notCell hD
  refine ⟨fun i m H' => m = items.length - i ∧ i ≤ items.length ∧ ∃ F' G' C' h2 accV accD rest, Aft K F1 G1 C1 F' G' C' h2 H' ∧ H' D = some (.lst accV) ∧ G' D = none ∧ D ∉ C' ∧ Rls K F' C' accV accD ∧ accD.length ≤ i ∧ lcGo (wipeR ρ vs) g mt me (items.drop i) h2 = some (rest, h') ∧ accD ++ rest = ds,
    ⟨items.length, by simp, Nat.zero_le _, F1, G1, C1, h1, [], [], ds, ⟨Same.refl _, Same.refl _, List.prefix_refl _, a1.r.over gD cD _, fun _ _ _ _ => rfl⟩, upd_same, gD, cD, .nil, Nat.zero_le _, by rw [List.drop_zero]; exact hm, rfl⟩, ?_⟩
  rintro i m H' ⟨rfl, hi, F', G', C', h2, accV, accD, rest, a, hH, hG, hC, ra, la, e, ea⟩
  by_cases hlt : i < items.length
  · have fD : F' D = none := a.r.fg.free hG
    have hr := a.r.hold hH hG hC
    obtain ⟨go, yl⟩ := it.go F' _ C' h2 H' i items[i] a.f a.c hr (List.getElem?_eq_getElem hlt)
    have ed : items.drop i = items[i] :: items.drop (i + 1) := List.drop_eq_getElem_cons hlt
    rw [ed] at e
    unfold lcGo at e
    split at e
    · cases e
    rename_i ρ2 e2
    split at e
    · cases e
    rename_i c h3 e3
    refine .inr ⟨go, _, fun H2 n => ⟨items.length - (i + 1), by omega, n⟩, fun x H2 y => ?_⟩
    obtain ⟨_, F2, G2, a2, rx⟩ := yl x H2 y
    have ew : ER K F2 G2 C' (wipeR ρ vs) (L2.wipe σ vs) := (er.le (a1.f.trans (a.f.trans a2.f)) (a1.g.trans (a.g.trans ((le_upd hG _).trans a2.g))) (a1.c.trans (a.c.trans a2.c))).wipe vs
    refine ⟨F2, G2, C', _, _, ρ2, a2.r.fh, ew, rx, e2, fun σ' w' s' => ⟨by rw [w', wipe_wipe], ?_⟩⟩
    refine ⟨F2, G2, C', ρ2, h2, c, h3, a2.r, s', e3, fun H3 F3 G3 C3 a3 => ?_⟩
    cases c with
    | true =>
      rw [if_pos rfl] at e ⊢
      split at e
      · cases e
      rename_i d h4 e4
      split at e
      · cases e
      rename_i rs h5 e5
      cases e
      refine ⟨F3, G3, C3, ρ2, h3, d, h4, a3.r, s'.le a3.f a3.g a3.c, e4, fun u H4 F4 G4 C4 a4 r4 => ?_⟩
      obtain ⟨b, hp, cp, fp⟩ := ((a2.trans a3).trans a4).drop hG fD (fun _ z => nomatch z)
      refine ⟨accV, hp, ?_, rfl, hlt, F4, dropA D G4, C4, h4, accV ++ [u], accD ++ [d], rs, ?_, upd_same, dropA_same, cp, ?_, by rw [List.length_append, List.length_singleton]; omega, e5, by rw [List.append_assoc]; exact ea⟩
      · rw [ra.length]
        exact Nat.lt_of_le_of_lt (Nat.le_trans la (Nat.le_of_lt (Nat.lt_of_lt_of_le hlt hz))) lim_line
      · have := a.trans b
        exact ⟨this.f, this.g, this.c, this.r.over dropA_same cp _, this.nf⟩
      · exact (ra.le b.f b.c).append (.cons r4 .nil)
    | false =>
      rw [if_neg Bool.false_ne_true] at e ⊢
      obtain ⟨b, hp, cp, fp⟩ := (a2.trans a3).drop hG fD (fun _ z => nomatch z)
      exact ⟨rfl, hlt, F3, dropA D G3, C3, h3, accV, accD, rest, a.trans b, hp, dropA_same, cp, ra.le b.f b.c, Nat.le_succ_of_le la, e, ea⟩
  · have hi' : i = items.length := by omega
    subst hi'
    rw [List.drop_length] at e
    unfold lcGo at e
    cases e
    rw [List.append_nil] at ea
    subst ea
    exact .inl ⟨it.stop F' G' C' _ H' a.f a.c a.r, q D accV H' F' G' C' (a1.trans a) hH hG hC ra⟩
section
variable {X : Cx} {elt tg iter : Expr} {ifs : List Expr} {scope : Scope} {own : List (Str × Nat)} {pos : Pos} {mi : MI} {g : MG} {mt : MT} {me : ME}
theorem sl_lc (hc : X.calm = true) (hN : X.N.Nodup) (hi : SI X tg iter mi) (ok : BlkOk X.N X.env.scope scope own)
    (hg : ∀ (s : Shared) (H : Hp) (C : Addr) (cl : List (Str × Addr)) (fp : List Addr), SGe (X.blk s H scope (compEnvC scope cl C X.env) fp) (own.map (·.2)) tg g) (ht : ∀ (s : Shared) (H : Hp) (C : Addr) (cl : List (Str × Addr)) (fp : List Addr), STs (X.blk s H scope (compEnvC scope cl C X.env) fp) ifs mt)
    (he : ∀ (s : Shared) (H : Hp) (C : Addr) (cl : List (Str × Addr)) (fp : List Addr), SE (X.blk s H scope (compEnvC scope cl C X.env) fp) elt me) (hs : ∀ x, foldedSetIterable iter X.env x = pure x := by intro _; rfl) :
    SL X (.ListComp elt [⟨tg, iter, ifs, 0⟩] scope pos) (lLc (own.map (·.2)) mi g mt me) := by
  obtain ⟨wi, p1, r1⟩ := hi
  exact .mk _ (pe_lc hc hN p1 ok (fun s H C cl fp => (hg s H C cl fp).pe) (fun s H C cl fp => (ht s H C cl fp).pe) (fun s H C cl fp => (he s H C cl fp).pe) hs) (rl_lc r1)
theorem rs_set {K : Fg} {te : TE} {ma : ME} (i : Nat) (r : RE K te ma) : RS K (tAsg te (gName i)) (sSet i ma) := fun σ H F G C O ρ h out Dn s e q => by
  unfold sSet at e
  split at e
  · cases e
  rename_i d h1 e1
  split at e
  · rename_i hi
    cases e
    refine r σ H F (Gx O H G) C ρ h d h1 _ s.hr s.er e1 fun u H1 F1 G1 C1 a1 r1 => ?_
    obtain ⟨s1, b1⟩ := s.back a1
    exact q _ H1 F1 _ C1 _ b1.a0 (s1.setVal i r1 hi)
  · cases e
theorem SR.setOwn {K : Fg} {F G H : Hp} {C : List Addr} {O : Nat → Option Addr} {ρ : Rho} {h : Hq} {σ : L2.St} (s : SR K F G C O ρ h σ H) (i : Nat) {p : Addr} {vs : List V} {ds : List D} (hp : H p = some (.lst vs)) (gp : G p = none) (cp : p ∉ C) (op : ∀ j, O j ≠ some p) (r : Rls K F C vs ds) (hi : i < ρ.length) :
    SR K F G C (fun j => if j = i then some p else O j) (ρ.set i (.own ds)) h (σ.set i (some (.ref p))) H := by
  refine ⟨s.r, by simpa using s.len, fun j t e => ?_, fun j hj => ?_, fun j a e => ?_, fun j k a e1 e2 => ?_⟩
  · by_cases hj : j = i
    · subst hj
      rw [List.getElem?_set_self hi] at e
      cases e
      rw [if_pos rfl, List.getElem?_set_self (by rw [← s.len]; exact hi)]
      exact ⟨p, vs, rfl, rfl, hp, r⟩
    · rw [List.getElem?_set_ne (Ne.symm hj)] at e
      rw [if_neg hj, List.getElem?_set_ne (Ne.symm hj)]
      exact s.slot j t e
  · rw [List.length_set] at hj
    rw [if_neg (by omega)]
    exact s.far j hj
  · split at e
    · cases e; exact ⟨gp, cp⟩
    · exact s.oG j a e
  · split at e1
    · split at e2
      · omega
      · cases e1; exact absurd e2 (op k)
    · split at e2
      · cases e2; exact absurd e1 (op j)
      · exact s.inj j k a e1 e2
@[irreducible] def sSetOwn (i : Nat) (m : ML) : MS := fun ρ h => match m ρ h with | none => none | some (ds, h1) => if i < ρ.length then some (.nx (ρ.set i (.own ds)) h1) else none
theorem rs_setOwn {K : Fg} {te : TE} {ml : ML} (i : Nat) (r : RL K te ml) : RS K (tAsg te (gName i)) (sSetOwn i ml) := fun σ H F G C O ρ h out Dn s e q => by
  unfold sSetOwn at e
  split at e
  · cases e
  rename_i d h1 e1
  split at e
  · rename_i hi
    cases e
    refine r σ H F (Gx O H G) C ρ h d h1 _ s.hr s.er e1 fun p vs H1 F1 G1 C1 a1 hp gp cp r1 => ?_
    obtain ⟨s1, b1⟩ := s.back a1
    have op : ∀ j, O j ≠ some p := fun j z => by
      obtain ⟨o, e, _⟩ := s.hasO z
      have := a1.g p o (by rw [gx_in z]; exact e)
      rw [gp] at this
      cases this
    exact q _ H1 F1 _ C1 _ b1.a0 (s1.setOwn i hp (by rw [gm_out fun ⟨j, z⟩ => op j z]; exact gp) cp op r1 hi)
  · cases e
variable {e : Expr} {spos pos' : Pos} {ml : ML}
theorem ss_setOwn (i : Nat) {x : Str} (hN : X.N.Nodup) (he : SL X e ml) (hi : X.N[i]? = some x := by rfl) (hx : Loc X.env.scope x := by first | exact Or.inl rfl | exact Or.inr rfl) (hs : swapsWith e (some (.Name x pos')) pos.line X.env = pure false := by rfl) (hf : X.fn x = true ∨ X.env.scope.names.lookup x = some .local := by first | exact .inl rfl | exact .inr rfl | assumption) :
    SS X (.Assign [.Name x pos'] e pos) (sSetOwn i ml) := by
  obtain ⟨t, p, r⟩ := he
  exact .mk _ (ps_set hN hi hx p hs hf) (rs_setOwn i r)
theorem ss_setLc (i : Nat) {y : Str} (hc : X.calm = true) (hN : X.N.Nodup) (hi : SI X tg iter mi) (ok : BlkOk X.N X.env.scope scope own)
    (hg : ∀ (s : Shared) (H : Hp) (C : Addr) (cl : List (Str × Addr)) (fp : List Addr), SGe (X.blk s H scope (compEnvC scope cl C X.env) fp) (own.map (·.2)) tg g) (ht : ∀ (s : Shared) (H : Hp) (C : Addr) (cl : List (Str × Addr)) (fp : List Addr), STs (X.blk s H scope (compEnvC scope cl C X.env) fp) ifs mt)
    (he : ∀ (s : Shared) (H : Hp) (C : Addr) (cl : List (Str × Addr)) (fp : List Addr), SE (X.blk s H scope (compEnvC scope cl C X.env) fp) elt me)
    (hsw : swapsWith (.ListComp elt [⟨tg, iter, ifs, 0⟩] scope pos) (some (.Name y pos')) spos.line X.env = pure true) (hy : X.N[i]? = some y := by rfl) (hyl : X.env.scope.names.lookup y = some .local := by rfl) (hs : ∀ x, foldedSetIterable iter X.env x = pure x := by intro _; rfl) :
    SS X (.Assign [.Name y pos'] (.ListComp elt [⟨tg, iter, ifs, 0⟩] scope pos) spos) (sSet i (eL (lLc (own.map (·.2)) mi g mt me))) := by
  obtain ⟨wi, p1, r1⟩ := hi
  exact .mk _ (ps_setLc hc hN hy hyl hsw p1 ok (fun s H C cl fp => (hg s H C cl fp).pe) (fun s H C cl fp => (ht s H C cl fp).pe) (fun s H C cl fp => (he s H C cl fp).pe) hs) (rs_set i (rl_re (rl_lc r1)))
end
end Q
set_option Elab.async false
set_option linter.all false
set_option maxRecDepth 100000
namespace Q
open PySem PySem.Spec PyProof.Rows L2
theorem SR.freeze {K : Fg} {F G H : Hp} {C : List Addr} {O : Nat → Option Addr} {ρ : Rho} {h : Hq} {σ : L2.St} (s : SR K F G C O ρ h σ H) {i : Nat} {xs : List D} (e : ρ[i]? = some (.own xs)) :
    ∃ F' G' O', Aft0 F G C F' G' C ∧ SR K F' G' C O' (ρ.set i (.val (.list xs))) h σ H := by
  obtain ⟨a, vs, oi, si, ha, r⟩ := s.slot i _ e
  obtain ⟨gi, ci⟩ := s.oG i a oi
  obtain ⟨hr, a0⟩ := s.r.freeze ha gi ci
  have hi : i < ρ.length := (List.getElem?_eq_some_iff.mp e).1
  have hO : ∀ j b, (if j = i then none else O j) = some b → O j = some b ∧ j ≠ i := fun j b e => by
    split at e
    · cases e
    · exact ⟨e, by assumption⟩
  refine ⟨_, _, fun j => if j = i then none else O j, a0, ⟨hr, by simpa using s.len, fun j t ej => ?_, fun j hj => ?_, fun j b ej => ?_, fun j k b e1 e2 => s.inj j k b (hO j b e1).1 (hO k b e2).1⟩⟩
  · by_cases hj : j = i
    · subst hj
      rw [List.getElem?_set_self hi] at ej
      cases ej
      rw [if_pos rfl]
      exact ⟨rfl, _, si, .lst upd_same (r.le a0.f a0.c)⟩
    · rw [List.getElem?_set_ne (Ne.symm hj)] at ej
      rw [if_neg hj]
      have q := s.slot j t ej
      cases t with
      | no => exact q
      | val d => obtain ⟨q1, u, e1, r⟩ := q; exact ⟨q1, u, e1, r.le a0.f a0.c⟩
      | own xs => obtain ⟨b, us, z, e1, e2, r⟩ := q; exact ⟨b, us, z, e1, e2, r.le a0.f a0.c⟩
      | dT ks => exact q
      | dK ks => exact q
  · rw [List.length_set] at hj
    split
    · rfl
    · exact s.far j hj
  · obtain ⟨e1, ne⟩ := hO j b ej
    obtain ⟨g1, c1⟩ := s.oG j b e1
    refine ⟨?_, c1⟩
    rw [upd_ne (show b ≠ a from fun z => ne (s.inj j i a (by rw [← z]; exact e1) oi))]
    exact g1
@[irreducible] def sFz (i : Nat) (m : MS) : MS := fun ρ h => match ρ[i]? with | some (.own xs) => m (ρ.set i (.val (.list xs))) h | _ => m ρ h
theorem rs_fz {K : Fg} {t : TS} {m : MS} (i : Nat) (r : RS K t m) : RS K t (sFz i m) := fun σ H F G C O ρ h out Dn s e q => by
  unfold sFz at e
  split at e
  · rename_i xs ei
    obtain ⟨F', G', O', a0, s'⟩ := s.freeze ei
    exact r σ H F' G' C O' _ h out Dn s' e (q.on a0)
  · exact r σ H F G C O ρ h out Dn s e q
theorem ss_fz {X : Cx} {st : Stmt} {m : MS} (i : Nat) (h : SS X st m) : SS X st (sFz i m) := by
  obtain ⟨t, p, r⟩ := h
  exact .mk t p (rs_fz i r)
theorem SR.upOwn {K : Fg} {F G H : Hp} {C : List Addr} {O : Nat → Option Addr} {ρ : Rho} {h : Hq} {σ : L2.St} (s : SR K F G C O ρ h σ H) {i : Nat} {a : Addr} (oi : O i = some a) (hi : i < ρ.length) {o : HO} {t' : Sl} (ht : SlS K F (upd H a o) C (some a) σ[i]? t') :
    SR K F G C O (ρ.set i t') h σ (upd H a o) := by
  obtain ⟨gi, ci⟩ := s.oG i a oi
  refine ⟨s.r.over gi ci _, by simpa using s.len, fun j t ej => ?_, fun j hj => s.far j (by rw [List.length_set] at hj; exact hj), s.oG, s.inj⟩
  by_cases hj : j = i
  · subst hj
    rw [List.getElem?_set_self hi] at ej
    cases ej
    rw [oi]
    exact ht
  · rw [List.getElem?_set_ne (Ne.symm hj)] at ej
    have q := s.slot j t ej
    have ne : ∀ b, O j = some b → b ≠ a := fun b z w => hj (s.inj j i a (by rw [← w]; exact z) oi)
    cases t with
    | no => exact q
    | val d => exact q
    | own xs => obtain ⟨b, us, z, e1, e2, r⟩ := q; exact ⟨b, us, z, e1, by rw [upd_ne (ne b z)]; exact e2, r⟩
    | dT ks => obtain ⟨b, us, z, e1, e2, r⟩ := q; exact ⟨b, us, z, e1, by rw [upd_ne (ne b z)]; exact e2, r⟩
    | dK ks => obtain ⟨b, us, z, e1, e2, r⟩ := q; exact ⟨b, us, z, e1, by rw [upd_ne (ne b z)]; exact e2, r⟩
theorem SR.upCell {K : Fg} {F G H : Hp} {C : List Addr} {O : Nat → Option Addr} {ρ : Rho} {h : Hq} {σ : L2.St} (s : SR K F G C O ρ h σ H) {n : Nat} {a : Addr} (hn : C[n]? = some a) {vs : List V} {xs : List D} (r : Rls K F C vs xs) :
    SR K F G C O ρ (h.set n (.lst xs)) σ (upd H a (.lst vs)) := by
  have ha : a ∈ C := List.mem_of_getElem? hn
  have neG : ∀ b o, G b = some o → b ≠ a := fun b o e z => by rw [z, s.r.out a ha] at e; cases e
  refine ⟨⟨s.r.fg, fun b o e => ?_, s.r.nd, s.r.out, by simpa using s.r.len, fun m b ys e1 e2 => ?_, fun m P e1 => ?_, fun m b c e1 e2 => ?_⟩, s.len, fun j t ej => ?_, s.far, s.oG, s.inj⟩
  · rw [upd_ne (neG b o e)]
    exact s.r.gh b o e
  · by_cases hm : m = n
    · subst hm
      rw [hn] at e1
      cases e1
      have hl : m < h.length := by rw [← s.r.len]; exact (List.getElem?_eq_some_iff.mp hn).1
      rw [List.getElem?_set_self hl] at e2
      cases e2
      exact ⟨vs, upd_same, r⟩
    · rw [List.getElem?_set_ne (Ne.symm hm)] at e2
      obtain ⟨us, e3, r3⟩ := s.r.cell m b ys e1 e2
      refine ⟨us, ?_, r3⟩
      rw [upd_ne (show b ≠ a from fun z => ?_)]
      · exact e3
      · subst z
        obtain ⟨h1, h2⟩ := List.getElem?_eq_some_iff.mp e1
        obtain ⟨h3, h4⟩ := List.getElem?_eq_some_iff.mp hn
        exact hm ((List.getElem_inj s.r.nd).mp (h2.trans h4.symm))
  · have hm : m ≠ n := fun z => by
      subst z
      have hl : m < h.length := by rw [← s.r.len]; exact (List.getElem?_eq_some_iff.mp hn).1
      rw [List.getElem?_set_self hl] at e1
      cases e1
    rw [List.getElem?_set_ne (Ne.symm hm)] at e1
    obtain ⟨e2, ps, e3, t⟩ := s.r.tab m P e1
    refine ⟨e2, ps, ?_, t⟩
    rw [upd_ne (show P ≠ a from fun z => ?_)]
    · exact e3
    · subst z
      obtain ⟨h1, h2⟩ := List.getElem?_eq_some_iff.mp e2
      obtain ⟨h3, h4⟩ := List.getElem?_eq_some_iff.mp hn
      exact hm ((List.getElem_inj s.r.nd).mp (h2.trans h4.symm))
  · by_cases hm : m = n
    · subst hm
      have hl : m < h.length := by rw [← s.r.len]; exact (List.getElem?_eq_some_iff.mp hn).1
      rw [List.getElem?_set_self hl] at e2
      cases e2
      trivial
    · rw [List.getElem?_set_ne (Ne.symm hm)] at e2
      refine (s.r.more m b c e1 e2).keep (Same.refl _) (List.prefix_refl _) (upd_ne (show b ≠ a from fun z => ?_))
      subst z
      obtain ⟨h1, h2⟩ := List.getElem?_eq_some_iff.mp e1
      obtain ⟨h3, h4⟩ := List.getElem?_eq_some_iff.mp hn
      exact hm ((List.getElem_inj s.r.nd).mp (h2.trans h4.symm))
  · have q := s.slot j t ej
    have ne : ∀ b, O j = some b → b ≠ a := fun b z w => (s.oG j b z).2 (by rw [w]; exact ha)
    cases t with
    | no => exact q
    | val d => exact q
    | own xs => obtain ⟨b, us, z, e1, e2, r⟩ := q; exact ⟨b, us, z, e1, by rw [upd_ne (ne b z)]; exact e2, r⟩
    | dT ks => obtain ⟨b, us, z, e1, e2, r⟩ := q; exact ⟨b, us, z, e1, by rw [upd_ne (ne b z)]; exact e2, r⟩
    | dK ks => obtain ⟨b, us, z, e1, e2, r⟩ := q; exact ⟨b, us, z, e1, by rw [upd_ne (ne b z)]; exact e2, r⟩
section
variable {X : Cx} {x y : Str} {e : Expr} {pos p apos cpos pos' : Pos} {ma : ME}
def isLst : Option HC → Bool
  | some (.lst _) => true
  | _ => false
@[irreducible] noncomputable def sApp (i : Nat) (a : ME) : MS := fun ρ h => match a ρ h with
  | none => none
  | some (d, h1) => match ρ[i]? with
    | some (.own xs) => if xs.length < lim then some (.nx (ρ.set i (.own (xs ++ [d]))) h1) else none
    | some (.val (.dict [(.none, .int n)])) => (match h1[n.toNat]? with
      | some (.lst xs) => if decide (0 ≤ n) && decide (xs.length < lim) && isLst h[n.toNat]? then some (.nx ρ (h1.set n.toNat (.lst (xs ++ [d])))) else none
      | _ => none)
    | _ => none
theorem ss_app (i : Nat) (he : SE X e ma) (hN : X.N[i]? = some x := by rfl) (hv : Vis X.env.scope x := by first | exact Or.inl rfl | exact Or.inr (Or.inl rfl) | exact Or.inr (Or.inr rfl)) (hd : (x == ("__debug__" : Str)) = false := by decide) (hcd : (x == ("__classdict__" : Str)) = false := by decide)
    (hbase : attributeBase (.Name x p) "append" X.env (eval (.Name x p) X.env) = eval (.Name x p) X.env := by rfl)
    (hfew : ((backTo cpos (starEach [e] X.env)).all (fun x => !x.1) && (backToKw cpos (keywordEach [] X.env)).all (fun x => x.1.isSome)
      && decide ([e].length + ([] : List Keyword).length + (if ([] : List Keyword).isEmpty then 0 else 1) < 30)) = true := by rfl)
    (hline : (apos.endLine == cpos.line) = true := by rfl) (hs : starEach [e] X.env = (false, eval e X.env) :: starEach [] X.env := by rfl) (hsw : swapsWith (.Call (.Attribute (.Name x p) "append" apos) [e] [] cpos) none pos.line X.env = pure false := by rfl) :
    SS X (.Expr (.Call (.Attribute (.Name x p) "append" apos) [e] [] cpos) pos) (sApp i ma) := by
  obtain ⟨t, pt, rt⟩ := he
  refine .mk _ (ps_expr (pe_bm PySem.F.plainAttrs_list PySem.F.slot_list_append PySem.F.type_list_append mt_append (pe_var hN hv hd hcd) (pa_cons pt pa_nil hs) hbase hfew hline hs rfl) hsw) fun σ H F G C O ρ h out Dn s e q => ?_
  unfold sApp at e
  split at e
  · cases e
  rename_i d h1 e1
  split at e
  · rename_i xs ei
    split at e
    · rename_i hz
      cases e
      obtain ⟨a, vs, oi, si, ha, r⟩ := s.slot i _ ei
      refine ⟨_, si, .inl ⟨rfl, _, SqL.of ha⟩, ?_⟩
      refine rt σ H F (Gx O H G) C ρ h d h1 _ s.hr s.er e1 fun u H1 F1 G1 C1 a1 r1 => ?_
      obtain ⟨s1, b1⟩ := s.back a1
      obtain ⟨a', vs', oi', si', ha', r'⟩ := s1.slot i _ ei
      rw [oi] at oi'
      cases oi'
      refine ⟨a, vs', u, rfl, rfl, ha', by rw [r'.length]; exact Nat.lt_of_lt_of_le hz (small (Nat.le_refl _)), ?_⟩
      exact q σ _ F1 _ C1 O b1.a0 (s1.upOwn oi (List.getElem?_eq_some_iff.mp ei).1 ⟨a, _, rfl, si', upd_same, r'.append (.cons r1 .nil)⟩)
    · cases e
  · rename_i n ei
    split at e
    · rename_i xs en
      split at e
      · rename_i hz
        simp only [Bool.and_eq_true, decide_eq_true_eq] at hz
        cases e
        obtain ⟨_, u0, si, r0⟩ := s.slot i _ ei
        have hn : ∃ (a : Addr) (k : Nat), u0 = .ref a ∧ C[k]? = some a ∧ n = (k : Int) := by
          cases r0 with
          | hd h => exact ⟨_, _, rfl, h, rfl⟩
        obtain ⟨a, k, rfl, hk, rfl⟩ := hn
        rw [Int.toNat_natCast] at en q
        have h0 : ∃ ys, h[k]? = some (.lst ys) := by
          have z := hz.2
          rw [Int.toNat_natCast] at z
          unfold isLst at z
          split at z
          · exact ⟨_, by assumption⟩
          · cases z
        obtain ⟨ys, h0⟩ := h0
        obtain ⟨ws, hw, _⟩ := s.r.cell k a ys hk h0
        refine ⟨_, si, .inl ⟨rfl, _, SqL.of hw⟩, ?_⟩
        refine rt σ H F (Gx O H G) C ρ h d h1 _ s.hr s.er e1 fun u H1 F1 G1 C1 a1 r1 => ?_
        obtain ⟨s1, b1⟩ := s.back a1
        obtain ⟨vs', hv', r'⟩ := s1.r.cell k a xs (pre_get a1.c hk) en
        refine ⟨a, vs', u, rfl, rfl, hv', by rw [r'.length]; exact Nat.lt_of_lt_of_le hz.1.2 (small (Nat.le_refl _)), ?_⟩
        exact q σ _ F1 _ C1 O b1.a0 (s1.upCell (pre_get a1.c hk) (r'.append (.cons r1 .nil)))
      · cases e
    · cases e
  · cases e
@[irreducible] noncomputable def sExt (i : Nat) (a : ME) : MS := fun ρ h => match a ρ h with
  | some (.list ds, h1) => (match ρ[i]? with
    | some (.own xs) => if xs.length + ds.length ≤ lim then some (.nx (ρ.set i (.own (xs ++ ds))) h1) else none
    | _ => none)
  | _ => none
@[irreducible] def sPop (i j : Nat) : MS := fun ρ h => match ρ[j]? with
  | some (.own xs) => (match xs[xs.length - 1]? with
    | some d => if i < ρ.length then some (.nx ((ρ.set j (.own xs.dropLast)).set i (.val d)) h) else none
    | none => none)
  | _ => none
@[irreducible] def sCell (i : Nat) (m : ML) : MS := fun ρ h => match m ρ h with
  | none => none
  | some (ds, h1) => if i < ρ.length then some (.nx (ρ.set i (.val (.dict [(.none, .int h1.length)]))) (h1 ++ [.lst ds])) else none
theorem SR.newCell {K : Fg} {F G H : Hp} {C : List Addr} {O : Nat → Option Addr} {ρ : Rho} {h : Hq} {σ : L2.St} (s : SR K F G C O ρ h σ H) {p : Addr} {vs : List V} {ds : List D} (hp : H p = some (.lst vs)) (gp : G p = none) (cp : p ∉ C) (op : ∀ j, O j ≠ some p) (r : Rls K F C vs ds) :
    SR K F G (C ++ [p]) O ρ (h ++ [.lst ds]) σ H := by
  have pre : C <+: C ++ [p] := List.prefix_append _ _
  refine ⟨⟨s.r.fg, s.r.gh, List.nodup_append.mpr ⟨s.r.nd, by simp, fun a ha b hb z => cp (by simp at hb; rw [← hb, ← z]; exact ha)⟩, fun a ha => ?_, by simp [s.r.len], fun n a xs e1 e2 => ?_, fun n P e1 => ?_, fun n a c e1 e2 => ?_⟩, s.len, fun j t ej => ?_, s.far, fun j a e => ⟨(s.oG j a e).1, fun hm => ?_⟩, s.inj⟩
  · rcases List.mem_append.mp ha with z | z
    · exact s.r.out a z
    · rw [List.mem_singleton.mp z]; exact gp
  · by_cases hn : n < C.length
    · rw [List.getElem?_append_left hn] at e1
      rw [List.getElem?_append_left (by rw [← s.r.len]; exact hn)] at e2
      obtain ⟨us, e3, r3⟩ := s.r.cell n a xs e1 e2
      exact ⟨us, e3, r3.le (Same.refl _) pre⟩
    · have hn2 : n = C.length := by
        have := (List.getElem?_eq_some_iff.mp e1).1
        rw [List.length_append, List.length_singleton] at this
        omega
      subst hn2
      rw [List.getElem?_append_right (Nat.le_refl _), Nat.sub_self] at e1
      rw [List.getElem?_append_right (by rw [s.r.len]; exact Nat.le_refl _), s.r.len, Nat.sub_self] at e2
      cases e1
      cases e2
      exact ⟨vs, hp, r.le (Same.refl _) pre⟩
  · by_cases hn : n < h.length
    · rw [List.getElem?_append_left hn] at e1
      obtain ⟨e2, ps, e3, t⟩ := s.r.tab n P e1
      exact ⟨by rw [List.getElem?_append_left (by rw [s.r.len]; exact hn)]; exact e2, ps, e3, t⟩
    · rw [List.getElem?_append_right (by omega)] at e1
      obtain ⟨h1, h2⟩ := List.getElem?_eq_some_iff.mp e1
      simp at h2
  · by_cases hn : n < C.length
    · rw [List.getElem?_append_left hn] at e1
      rw [List.getElem?_append_left (by rw [← s.r.len]; exact hn)] at e2
      exact (s.r.more n a c e1 e2).keep (Same.refl _) pre rfl
    · have hn2 : n = C.length := by
        have := (List.getElem?_eq_some_iff.mp e1).1
        rw [List.length_append, List.length_singleton] at this
        omega
      subst hn2
      rw [List.getElem?_append_right (by rw [s.r.len]; exact Nat.le_refl _), s.r.len, Nat.sub_self] at e2
      cases e2
      trivial
  · have q := s.slot j t ej
    cases t with
    | no => exact q
    | val d => obtain ⟨q1, u, e1, r⟩ := q; exact ⟨q1, u, e1, r.le (Same.refl _) pre⟩
    | own xs => obtain ⟨b, us, z, e1, e2, r⟩ := q; exact ⟨b, us, z, e1, e2, r.le (Same.refl _) pre⟩
    | dT ks => exact q
    | dK ks => exact q
  · rcases List.mem_append.mp hm with z | z
    · exact (s.oG j a e).2 z
    · rw [List.mem_singleton.mp z] at e; exact op j e
theorem ss_cell (i : Nat) {ml : ML} (hN : X.N.Nodup) (he : SL X e ml) (hi : X.N[i]? = some x := by rfl) (hx : Loc X.env.scope x := by first | exact Or.inl rfl | exact Or.inr rfl) (hs : swapsWith e (some (.Name x pos')) pos.line X.env = pure false := by rfl) (hf : X.fn x = true ∨ X.env.scope.names.lookup x = some .local := by first | exact .inl rfl | exact .inr rfl | assumption) :
    SS X (.Assign [.Name x pos'] e pos) (sCell i ml) := by
  obtain ⟨t, p, r⟩ := he
  refine .mk _ (ps_set hN hi hx p hs hf) fun σ H F G C O ρ h out Dn s e q => ?_
  unfold sCell at e
  split at e
  · cases e
  rename_i d h1 e1
  split at e
  · rename_i hi
    cases e
    refine r σ H F (Gx O H G) C ρ h d h1 _ s.hr s.er e1 fun p vs H1 F1 G1 C1 a1 hp gp cp r1 => ?_
    obtain ⟨s1, b1⟩ := s.back a1
    have op : ∀ j, O j ≠ some p := fun j z => by
      obtain ⟨o, e, _⟩ := s.hasO z
      have := a1.g p o (by rw [gx_in z]; exact e)
      rw [gp] at this
      cases this
    have s2 := s1.newCell hp (by rw [gm_out fun ⟨j, z⟩ => op j z]; exact gp) cp op r1
    refine q _ H1 F1 _ (C1 ++ [p]) _ ⟨b1.f, b1.g, b1.c.trans (List.prefix_append _ _), b1.nf⟩ (s2.setVal i (.hd ?_) hi)
    rw [List.getElem?_append_right (by rw [s1.r.len]; exact Nat.le_refl _), ← s1.r.len, Nat.sub_self]
    rfl
  · cases e
@[irreducible] def eLenC (m : ME) : ME := fun ρ h => match m ρ h with
  | some (.dict [(.none, .int n)], h1) => (match h1[n.toNat]? with | some (.lst xs) => if 0 ≤ n then some (.int xs.length, h1) else none | _ => none)
  | _ => none
theorem se_lenC (hg : Gl X "len") (hm : X.mg "len" = none) (ha : SE X e ma) (he : starEach [e] X.env = (false, eval e X.env) :: starEach [] X.env := by rfl) : SE X (.Call (.Name "len" p) [e] [] pos) (eLenC ma) := by
  obtain ⟨t, pt, rt⟩ := ha
  refine .mk _ (pe_callB call_len_seq hg hm PySem.boot_len (pa_cons pt pa_nil he) (by decide) (by decide) he rfl) fun σ H F G C ρ h d h' Q h0 er hm q => ?_
  unfold eLenC at hm
  split at hm
  · rename_i n h1 e1
    split at hm
    · rename_i xs en
      split at hm
      · rename_i hz
        cases hm
        refine rt σ H F G C ρ h _ _ _ h0 er e1 fun u H1 F1 G1 C1 a1 r1 => ?_
        have hn : ∃ (a : Addr) (k : Nat), u = .ref a ∧ C1[k]? = some a ∧ n = (k : Int) := by
          cases r1 with
          | hd h => exact ⟨_, _, rfl, h, rfl⟩
        obtain ⟨a, k, rfl, hk, rfl⟩ := hn
        rw [Int.toNat_natCast] at en
        obtain ⟨vs, hv, r2⟩ := a1.r.cell k a xs hk en
        refine ⟨a, vs, rfl, .inl (SqL.of hv), ?_⟩
        rw [r2.length]
        exact q _ H1 F1 G1 C1 a1 (.int _)
      · cases hm
    · cases hm
  · cases hm
end
end Q
set_option Elab.async false
set_option linter.all false
set_option maxRecDepth 100000
namespace Q
open PySem PySem.W PyProof.Rows
section
variable {f : Nat → Int} {n : Nat} {cmp : Nat → Nat → (Bool → Shared → Prop) → Shared → Prop} {s : Shared}
def Kp (f : Nat → Int) (p : Array Nat) (i : Nat) : Int := f (p.getD i 0)
def Up (f : Nat → Int) (p : Array Nat) (k : Nat) : Prop := ∀ i j, i ≤ j → j < k → Kp f p i ≤ Kp f p j
def Dn (f : Nat → Int) (p : Array Nat) (k : Nat) : Prop := ∀ i j, i ≤ j → j < k → Kp f p j ≤ Kp f p i
def Gd (n : Nat) (p : Array Nat) : Prop := p.size = n ∧ p.Perm (List.toArray (List.range n))
theorem Gd.lt {p : Array Nat} (h : Gd n p) {i : Nat} (hi : i < n) : p.getD i 0 < n := by
  have hs : i < p.size := by rw [h.1]; exact hi
  have e : p.getD i 0 = p[i] := by simp [Array.getD, hs]
  rw [e]
  have hm : p[i] ∈ p := Array.getElem_mem hs
  have := h.2.mem_iff.mp hm
  simpa using this
theorem getD_q {p : Array Nat} {i : Nat} : p.getD i 0 = (p[i]?).getD 0 := by
  by_cases h : i < p.size
  · simp [Array.getD, h]
  · simp [Array.getD, h]
theorem Kp_rev {p : Array Nat} {i j : Nat} (hj : j ≤ p.size) (k : Nat) : Kp f (kas_rev p i j) k = if i ≤ k ∧ k < j then Kp f p (i + j - 1 - k) else Kp f p k := by
  unfold Kp kas_rev
  rw [getD_q, getElem?_mirror_all hj k]
  split
  · rw [getD_q]
  · rw [getD_q]
theorem Gd.rev {p : Array Nat} (h : Gd n p) (i j : Nat) : Gd n (kas_rev p i j) := ⟨by rw [kas_rev_size]; exact h.1, (mirror_perm _ _ _ _).trans h.2⟩
theorem Kp_bubble {p : Array Nat} {src d : Nat} (hs : src < p.size) (hd : d ≤ src) (k : Nat) : Kp f (bubble p src d) k = if k = src - d then Kp f p src else if src - d < k ∧ k ≤ src then Kp f p (k - 1) else Kp f p k := by
  unfold Kp
  rw [getD_q, getElem?_bubble hs d hd k]
  by_cases h1 : k = src - d
  · rw [if_pos h1, if_pos h1, getD_q]
  · rw [if_neg h1, if_neg h1]
    by_cases h2 : src - d < k ∧ k ≤ src
    · rw [if_pos h2, if_pos h2, getD_q]
    · rw [if_neg h2, if_neg h2, getD_q]
theorem Gd.bubble {p : Array Nat} (h : Gd n p) (i j : Nat) : Gd n (bubble p i j) := ⟨by rw [bubble_size]; exact h.1, (bubble_perm _ _ _).trans h.2⟩
abbrev Asks (f : Nat → Int) (n : Nat) (cmp : Nat → Nat → (Bool → Shared → Prop) → Shared → Prop) (s : Shared) : Prop := ∀ i j C, i < n → j < n → C (decide (f i < f j)) s → cmp i j C s
theorem up_succ {p : Array Nat} {m : Nat} (h1 : 1 ≤ m) (u : Up f p m) (h : Kp f p (m - 1) ≤ Kp f p m) : Up f p (m + 1) := fun i j hij hj => by
  by_cases hjm : j = m
  · subst hjm
    by_cases him : i = j
    · subst him; exact Int.le_refl _
    · exact Int.le_trans (u i (j - 1) (by omega) (by omega)) h
  · exact u i j hij (by omega)
theorem dn_succ {p : Array Nat} {m : Nat} (h1 : 1 ≤ m) (u : Dn f p m) (h : Kp f p m ≤ Kp f p (m - 1)) : Dn f p (m + 1) := fun i j hij hj => by
  by_cases hjm : j = m
  · subst hjm
    by_cases him : i = j
    · subst him; exact Int.le_refl _
    · exact Int.le_trans h (u i (j - 1) (by omega) (by omega))
  · exact u i j hij (by omega)
theorem asc_wp (ha : Asks f n cmp s) {p : Array Nat} (hp : Gd n p) {Q : Nat → Shared → Prop} : ∀ (k m : Nat), 1 ≤ m → m + k ≤ n → Up f p m → (∀ m', m ≤ m' → m' ≤ m + k → Up f p m' → (m' = m + k ∨ Kp f p m' < Kp f p (m' - 1)) → Q m' s) → (kas_asc p k m).kasWp cmp Q s
  | 0, m, _, _, u, q => q m (Nat.le_refl _) (by omega) u (.inl rfl)
  | k + 1, m, h1, hk, u, q => by
    unfold kas_asc
    refine ha _ _ _ (hp.lt (by omega)) (hp.lt (by omega)) ?_
    by_cases hc : f (p.getD m 0) < f (p.getD (m - 1) 0)
    · rw [decide_eq_true hc]; dsimp only; rw [if_pos rfl]
      exact q m (Nat.le_refl _) (by omega) u (.inr hc)
    · rw [decide_eq_false hc]; dsimp only; rw [if_neg Bool.false_ne_true]
      exact asc_wp ha hp k (m + 1) (by omega) (by omega) (up_succ h1 u (by unfold Kp; omega)) fun m' h2 h3 u' e => q m' (by omega) (by omega) u' (e.imp (fun z => by omega) id)
def Eqr (f : Nat → Int) (p : Array Nat) (m q : Nat) : Prop := ∀ i, m - (q + 1) ≤ i → i < m → Kp f p i = Kp f p (m - 1)
theorem Kp_rev_eq {p : Array Nat} {m q : Nat} (hm : m ≤ p.size) (hq : q + 1 ≤ m) (h : Eqr f p m q) (k : Nat) : Kp f (kas_rev p (m - (q + 1)) m) k = Kp f p k := by
  rw [Kp_rev hm]
  split
  · rename_i hk
    rw [h k hk.1 hk.2, h _ (by omega) (by omega)]
  · rfl
theorem desc_wp (ha : Asks f n cmp s) {Q : Array Nat × Nat × Nat → Shared → Prop} : ∀ (k : Nat) (p : Array Nat) (m q : Nat), Gd n p → 1 ≤ m → m + k ≤ n → q + 1 ≤ m → Dn f p m → Eqr f p m q →
    (∀ p' m' q', Gd n p' → 1 ≤ m' → m' ≤ m + k → q' + 1 ≤ m' → Dn f p' m' → Eqr f p' m' q' → Q (p', m', q') s) → (kas_desc k p m q).kasWp cmp Q s
  | 0, p, m, q, hp, h1, hk, hq, d, e, qq => qq p m q hp h1 (by omega) hq d e
  | k + 1, p, m, q, hp, h1, hk, hq, d, e, qq => by
    unfold kas_desc
    have one : ∀ (p' : Array Nat), Eqr f p' (m + 1) 0 := fun p' i h1 h2 => by
      have : i = m := by omega
      subst this
      rfl
    refine ha _ _ _ (hp.lt (by omega)) (hp.lt (by omega)) ?_
    by_cases hc : f (p.getD m 0) < f (p.getD (m - 1) 0)
    · rw [decide_eq_true hc]; dsimp only; rw [if_pos rfl]
      by_cases hq0 : q > 0
      · rw [if_pos hq0]
        have same := Kp_rev_eq (f := f) (p := p) (m := m) (q := q) (by rw [hp.1]; omega) hq e
        have d' : Dn f (kas_rev p (m - (q + 1)) m) (m + 1) := fun i j hij hj => by
          rw [same, same]
          exact dn_succ h1 d (Int.le_of_lt hc) i j hij hj
        exact desc_wp ha k _ (m + 1) 0 (hp.rev _ _) (by omega) (by omega) (by omega) d' (one _) fun p' m' q' g1 g2 g3 => qq p' m' q' g1 g2 (by omega)
      · rw [if_neg hq0]
        exact desc_wp ha k p (m + 1) 0 hp (by omega) (by omega) (by omega) (dn_succ h1 d (Int.le_of_lt hc)) (one _) fun p' m' q' g1 g2 g3 => qq p' m' q' g1 g2 (by omega)
    · rw [decide_eq_false hc]; dsimp only; rw [if_neg Bool.false_ne_true]
      refine ha _ _ _ (hp.lt (by omega)) (hp.lt (by omega)) ?_
      by_cases hc2 : f (p.getD (m - 1) 0) < f (p.getD m 0)
      · rw [decide_eq_true hc2]; dsimp only; rw [if_pos rfl]
        exact qq p m q hp h1 (by omega) hq d e
      · rw [decide_eq_false hc2]; dsimp only; rw [if_neg Bool.false_ne_true]
        have eqm : Kp f p m = Kp f p (m - 1) := by unfold Kp; omega
        refine desc_wp ha k p (m + 1) (q + 1) hp (by omega) (by omega) (by omega) (dn_succ h1 d (Int.le_of_eq eqm)) (fun i g1 g2 => ?_) fun p' m' q' g1 g2 g3 => qq p' m' q' g1 g2 (by omega)
        rw [Nat.add_sub_cancel]
        by_cases him : i = m
        · rw [him]
        · rw [e i (by omega) (by omega), eqm]
theorem up_rev {p : Array Nat} {m : Nat} (hm : m ≤ p.size) (d : Dn f p m) : Up f (kas_rev p 0 m) m := fun i j hij hj => by
  rw [Kp_rev hm, Kp_rev hm, if_pos ⟨Nat.zero_le _, by omega⟩, if_pos ⟨Nat.zero_le _, hj⟩]
  exact d _ _ (by omega) (by omega)
theorem tail3_wp (ha : Asks f n cmp s) {p : Array Nat} (hp : Gd n p) {m : Nat} (h1 : 1 ≤ m) (hm : m ≤ n) (d : Dn f p m) {Q : Nat × Array Nat → Shared → Prop} (q : ∀ m' p', Gd n p' → 1 ≤ m' → m' ≤ n → Up f p' m' → Q (m', p') s) : (kas_tail3 m n p).kasWp cmp Q s := by
  unfold kas_tail3
  rw [KasT.kasWp_bind]
  exact asc_wp ha (hp.rev 0 m) (n - m) m h1 (by omega) (up_rev (by rw [hp.1]; exact hm) d) fun m' g1 g2 u _ => q m' _ (hp.rev 0 m) (by omega) (by omega) u
theorem descPart_wp (ha : Asks f n cmp s) {p : Array Nat} (hp : Gd n p) {m : Nat} (h1 : 1 ≤ m) (hm : m + 1 ≤ n) (d : Dn f p (m + 1)) {Q : Nat × Array Nat → Shared → Prop} (q : ∀ m' p', Gd n p' → 1 ≤ m' → m' ≤ n → Up f p' m' → Q (m', p') s) : (kas_descPart m n p).kasWp cmp Q s := by
  unfold kas_descPart
  rw [KasT.kasWp_bind]
  refine desc_wp ha (n - (m + 1)) p (m + 1) 0 hp (by omega) (by omega) (by omega) d (fun i g1 g2 => ?_) fun p' m' q' g1 g2 g3 g4 d' e' => ?_
  · have : i = m := by omega
    subst this
    rfl
  · dsimp only
    by_cases hq0 : q' > 0
    · rw [if_pos hq0]
      have same := Kp_rev_eq (f := f) (p := p') (m := m') (q := q') (by rw [g1.1]; omega) g4 e'
      exact tail3_wp ha (g1.rev _ _) g2 (by omega) (fun i j hij hj => by rw [same, same]; exact d' i j hij hj) q
    · rw [if_neg hq0]
      exact tail3_wp ha g1 g2 (by omega) d' q
theorem count_wp (ha : Asks f n cmp s) {p : Array Nat} (hp : Gd n p) (hn : 1 ≤ n) {Q : Nat × Array Nat → Shared → Prop} (q : ∀ m' p', Gd n p' → 1 ≤ m' → m' ≤ n → Up f p' m' → Q (m', p') s) : (kas_count n p).kasWp cmp Q s := by
  unfold kas_count
  rw [KasT.kasWp_bind]
  have u1 : Up f p 1 := fun i j hij hj => by
    have e1 : i = 0 := by omega
    have e2 : j = 0 := by omega
    subst e1 e2
    exact Int.le_refl _
  refine asc_wp ha hp (n - 1) 1 (Nat.le_refl _) (by omega) u1 fun m g1 g2 u e => ?_
  by_cases hm : m = n
  · rw [if_pos (by simp [hm])]
    exact q m p hp g1 (by omega) u
  · rw [if_neg (by simp [hm])]
    have hlt : Kp f p m < Kp f p (m - 1) := e.resolve_left (by omega)
    by_cases h1 : m > 1
    · rw [if_pos h1]
      refine ha _ _ _ (hp.lt (by omega)) (hp.lt (by omega)) ?_
      by_cases hc : f (p.getD 0 0) < f (p.getD (m - 1) 0)
      · rw [decide_eq_true hc]; dsimp only; rw [if_pos rfl]
        exact q m p hp g1 (by omega) u
      · rw [decide_eq_false hc]; dsimp only; rw [if_neg Bool.false_ne_true]
        have all : ∀ i, i < m → Kp f p i = Kp f p 0 := fun i hi => by
          have a1 := u 0 i (Nat.zero_le _) hi
          have a2 := u i (m - 1) (by omega) (by omega)
          have a3 : Kp f p (m - 1) ≤ Kp f p 0 := by unfold Kp; omega
          omega
        refine descPart_wp ha (hp.rev 0 m) g1 (by omega) (fun i j hij hj => ?_) q
        have hz : m ≤ p.size := by rw [hp.1]; omega
        have kr : ∀ k, k < m → Kp f (kas_rev p 0 m) k = Kp f p 0 := fun k hk => by
          rw [Kp_rev hz, if_pos ⟨Nat.zero_le _, hk⟩, all _ (by omega)]
        by_cases hjm : j = m
        · subst hjm
          by_cases hij2 : i = j
          · subst hij2; exact Int.le_refl _
          · rw [kr i (by omega), Kp_rev hz, if_neg (by omega)]
            have := all (j - 1) (by omega)
            omega
        · rw [kr i (by omega), kr j (by omega)]
          exact Int.le_refl _
    · rw [if_neg h1]
      have e1 : m = 1 := by omega
      subst e1
      refine descPart_wp ha hp (Nat.le_refl _) (by omega) (dn_succ (Nat.le_refl _) (fun i j hij hj => ?_) (Int.le_of_lt hlt)) q
      have e1 : i = 0 := by omega
      have e2 : j = 0 := by omega
      subst e1 e2
      exact Int.le_refl _
theorem place_wp (ha : Asks f n cmp s) {p : Array Nat} (hp : Gd n p) {k : Nat} (hk : k < n) (u : Up f p k) {Q : Nat → Shared → Prop} (q : ∀ l, l ≤ k → (∀ i, i < l → Kp f p i ≤ Kp f p k) → (∀ i, l ≤ i → i < k → Kp f p k < Kp f p i) → Q l s) :
    ∀ (fu l r : Nat), l ≤ r → r ≤ k → r - l ≤ fu → (∀ i, i < l → Kp f p i ≤ Kp f p k) → (∀ i, r ≤ i → i < k → Kp f p k < Kp f p i) → (kas_place p k fu l r).kasWp cmp Q s
  | 0, l, r, h1, h2, h3, a, b => by
    have : l = r := by omega
    subst this
    exact q l h2 a b
  | fu + 1, l, r, h1, h2, h3, a, b => by
    unfold kas_place
    by_cases hlr : l ≥ r
    · rw [if_pos hlr]
      have : l = r := by omega
      subst this
      exact q l h2 a b
    · rw [if_neg hlr]
      refine ha _ _ _ (hp.lt hk) (hp.lt (by omega)) ?_
      by_cases hc : f (p.getD k 0) < f (p.getD ((l + r) / 2) 0)
      · rw [decide_eq_true hc]; dsimp only; rw [if_pos rfl]
        exact place_wp ha hp hk u q fu l ((l + r) / 2) (by omega) (by omega) (by omega) a fun i g1 g2 => Int.lt_of_lt_of_le hc (u _ i g1 g2)
      · rw [decide_eq_false hc]; dsimp only; rw [if_neg Bool.false_ne_true]
        refine place_wp ha hp hk u q fu ((l + r) / 2 + 1) r (by omega) (by omega) (by omega) (fun i g1 => Int.le_trans (u i ((l + r) / 2) (by omega) (by omega)) (by unfold Kp; omega)) b
theorem bin_wp (ha : Asks f n cmp s) {Q : Array Nat → Shared → Prop} (q : ∀ p, Gd n p → Up f p n → Q p s) : ∀ (fu : Nat) (p : Array Nat) (k : Nat), Gd n p → fu + k = n → Up f p k → (kas_bin fu p k).kasWp cmp Q s
  | 0, p, k, hp, h, u => by
    have : k = n := by omega
    subst this
    exact q p hp u
  | fu + 1, p, k, hp, h, u => by
    unfold kas_bin
    rw [KasT.kasWp_bind]
    refine place_wp ha hp (by omega) u (fun l hl a b => ?_) k 0 k (Nat.zero_le _) (Nat.le_refl _) (by omega) (fun i hi => absurd hi (Nat.not_lt_zero _)) fun i g1 g2 => absurd g2 (by omega)
    refine bin_wp ha q fu _ (k + 1) (hp.bubble _ _) (by omega) fun i j hij hj => ?_
    have hs : k < p.size := by rw [hp.1]; omega
    have sub : k - (k - l) = l := by omega
    rw [Kp_bubble hs (by omega), Kp_bubble hs (by omega), sub]
    by_cases h1 : i = l
    · rw [if_pos h1]
      by_cases h2 : j = l
      · rw [if_pos h2]; exact Int.le_refl _
      · rw [if_neg h2, if_pos (by omega)]
        exact Int.le_of_lt (b (j - 1) (by omega) (by omega))
    · rw [if_neg h1]
      by_cases h2 : j = l
      · rw [if_pos h2, if_neg (by omega)]
        exact a i (by omega)
      · rw [if_neg h2]
        by_cases h3 : l < i ∧ i ≤ k
        · rw [if_pos h3, if_pos (by omega)]
          exact u (i - 1) (j - 1) (by omega) (by omega)
        · rw [if_neg h3]
          by_cases h4 : l < j ∧ j ≤ k
          · rw [if_pos h4]
            exact u i (j - 1) (by omega) (by omega)
          · rw [if_neg h4]
            exact u i j hij (by omega)
theorem sort_wp (ha : Asks f n cmp s) (hn : 1 ≤ n) {Q : Array Nat → Shared → Prop} (q : ∀ p, Gd n p → Up f p n → Q p s) : (kas_sort n).kasWp cmp Q s := by
  unfold kas_sort
  rw [KasT.kasWp_bind]
  refine count_wp ha ⟨by simp, Array.Perm.refl _⟩ hn fun m p g1 g2 g3 u => ?_
  dsimp only
  by_cases h : m < n
  · rw [if_pos h]
    have e : max m 1 = m := by omega
    rw [e]
    exact bin_wp ha q (n - m) p m g1 (by omega) u
  · rw [if_neg h]
    have : m = n := by omega
    subst this
    exact q p g1 u
end
end Q
set_option Elab.async false
set_option linter.all false
set_option maxRecDepth 100000
namespace Q
open PySem PySem.Spec PySem.W PyProof.Rows L2
abbrev lx := HT.lexLt
theorem lx_irr : ∀ a, lx a a = false
  | [] => rfl
  | x :: r => by
    show HT.lexLt (x :: r) (x :: r) = false
    rw [HT.lexLt_cons, if_pos rfl]
    exact lx_irr r
theorem lx_trans : ∀ a b c, lx a b = true → lx b c = true → lx a c = true
  | [], [], _, h, _ => by cases h
  | [], _ :: _, [], _, h => by cases h
  | [], _ :: _, _ :: _, _, _ => rfl
  | _ :: _, [], _, h, _ => by cases h
  | _ :: _, _ :: _, [], _, h => by cases h
  | x :: a, y :: b, z :: c, h1, h2 => by
    change HT.lexLt (x :: a) (y :: b) = true at h1
    change HT.lexLt (y :: b) (z :: c) = true at h2
    show HT.lexLt (x :: a) (z :: c) = true
    rw [HT.lexLt_cons] at h1 h2 ⊢
    by_cases e1 : x = y
    · rw [if_pos e1] at h1
      by_cases e2 : y = z
      · rw [if_pos e2] at h2
        rw [if_pos (e1.trans e2)]
        exact lx_trans a b c h1 h2
      · rw [if_neg e2] at h2
        rw [if_neg (by rw [e1]; exact e2), e1]
        exact h2
    · rw [if_neg e1] at h1
      have l1 : x < y := of_decide_eq_true h1
      by_cases e2 : y = z
      · rw [← e2, if_neg e1]
        exact decide_eq_true l1
      · rw [if_neg e2] at h2
        have l2 : y < z := of_decide_eq_true h2
        rw [if_neg (by omega)]
        exact decide_eq_true (by omega)
theorem lx_tot : ∀ a b, lx a b = false → lx b a = false → a = b
  | [], [], _, _ => rfl
  | [], _ :: _, h, _ => by cases h
  | _ :: _, [], _, h => by cases h
  | x :: a, y :: b, h1, h2 => by
    change HT.lexLt (x :: a) (y :: b) = false at h1
    change HT.lexLt (y :: b) (x :: a) = false at h2
    rw [HT.lexLt_cons] at h1 h2
    by_cases e : x = y
    · rw [if_pos e] at h1
      rw [if_pos e.symm] at h2
      rw [e, lx_tot a b h1 h2]
    · rw [if_neg e] at h1
      rw [if_neg (Ne.symm e)] at h2
      have l1 := of_decide_eq_false h1
      have l2 := of_decide_eq_false h2
      omega
theorem lx_neg {a b c : List Int} (h1 : lx a b = false) (h2 : lx b c = false) : lx a c = false := by
  cases h : lx a c with
  | false => rfl
  | true =>
    cases h3 : lx b a with
    | true => rw [lx_trans b a c h3 h] at h2; cases h2
    | false => rw [lx_tot a b h1 h3, h2] at h; cases h
def insT (x : List Int) : List (List Int) → List (List Int)
  | [] => [x]
  | y :: r => if lx y x then y :: insT x r else x :: y :: r
def srtT : List (List Int) → List (List Int)
  | [] => []
  | x :: r => insT x (srtT r)
abbrev LeT (a b : List Int) : Prop := lx b a = false
theorem insT_perm (x : List Int) : ∀ l, (insT x l).Perm (x :: l)
  | [] => .refl _
  | y :: r => by
    unfold insT
    split
    · exact ((insT_perm x r).cons y).trans (.swap x y r)
    · exact .refl _
theorem srtT_perm : ∀ l, (srtT l).Perm l
  | [] => .refl _
  | x :: r => (insT_perm x (srtT r)).trans ((srtT_perm r).cons x)
theorem insT_sorted (x : List Int) : ∀ {l : List (List Int)}, l.Pairwise LeT → (insT x l).Pairwise LeT
  | [], _ => by simp [insT]
  | y :: r, h => by
    obtain ⟨h1, h2⟩ := List.pairwise_cons.mp h
    unfold insT
    split
    · rename_i hxy
      refine List.pairwise_cons.mpr ⟨fun z hz => ?_, insT_sorted x h2⟩
      rcases List.mem_cons.mp ((insT_perm x r).mem_iff.mp hz) with rfl | hz
      · show lx z y = false
        cases q : lx z y with
        | false => rfl
        | true => have := lx_trans y z y hxy q; rw [lx_irr] at this; cases this
      · exact h1 z hz
    · rename_i hxy
      have hxy : lx y x = false := by simpa using hxy
      refine List.pairwise_cons.mpr ⟨fun z hz => ?_, h⟩
      rcases List.mem_cons.mp hz with rfl | hz
      · exact hxy
      · exact lx_neg (h1 z hz) hxy
theorem srtT_sorted : ∀ l, (srtT l).Pairwise LeT
  | [] => .nil
  | x :: r => insT_sorted x (srtT_sorted r)
theorem srtT_eq {l l' : List (List Int)} (p : l'.Perm l) (h : l'.Pairwise LeT) : l' = srtT l :=
  (p.trans (srtT_perm l).symm).eq_of_pairwise (fun a b _ _ h1 h2 => lx_tot a b h2 h1) h (srtT_sorted l)
def rk (nss : List (List Int)) (a : List Int) : Int := ((nss.filter fun b => lx b a).length : Nat)
theorem filter_le {α : Type} {p q : α → Bool} (h : ∀ x, p x = true → q x = true) : ∀ l : List α, (l.filter p).length ≤ (l.filter q).length
  | [] => Nat.le_refl _
  | x :: r => by
    have ih := filter_le h r
    by_cases hp : p x = true
    · rw [List.filter_cons_of_pos hp, List.filter_cons_of_pos (h x hp), List.length_cons, List.length_cons]; omega
    · rw [List.filter_cons_of_neg hp]
      by_cases hq : q x = true
      · rw [List.filter_cons_of_pos hq, List.length_cons]; omega
      · rw [List.filter_cons_of_neg hq]; exact ih
theorem filter_lt {α : Type} {p q : α → Bool} (h : ∀ x, p x = true → q x = true) {y : α} (hp : p y = false) (hq : q y = true) : ∀ l : List α, y ∈ l → (l.filter p).length < (l.filter q).length
  | [], hm => by cases hm
  | x :: r, hm => by
    have le := filter_le h r
    rcases List.mem_cons.mp hm with rfl | hm
    · rw [List.filter_cons_of_neg (by simp [hp]), List.filter_cons_of_pos hq, List.length_cons]; omega
    · have ih := filter_lt h hp hq r hm
      by_cases hpx : p x = true
      · rw [List.filter_cons_of_pos hpx, List.filter_cons_of_pos (h x hpx), List.length_cons, List.length_cons]; omega
      · rw [List.filter_cons_of_neg hpx]
        by_cases hqx : q x = true
        · rw [List.filter_cons_of_pos hqx, List.length_cons]; omega
        · rw [List.filter_cons_of_neg hqx]; exact ih
theorem rk_lt {nss : List (List Int)} {a b : List Int} (ha : a ∈ nss) : decide (rk nss a < rk nss b) = lx a b := by
  cases h : lx a b with
  | true =>
    refine decide_eq_true ?_
    unfold rk
    have := filter_lt (p := fun c => lx c a) (q := fun c => lx c b) (fun c hc => lx_trans c a b hc h) (y := a) (lx_irr a) h nss ha
    omega
  | false =>
    refine decide_eq_false ?_
    unfold rk
    have := filter_le (p := fun c => lx c b) (q := fun c => lx c a) (fun c hc => ?_) nss
    · omega
    · cases q : lx c a with
      | true => rfl
      | false => rw [lx_neg q h] at hc; cases hc
inductive TupsAre (h : Heap) : List Value → List (List Int) → Prop
  | nil : TupsAre h [] []
  | cons {a : Addr} {its : List Value} {ns : List Int} {vs : List Value} {nss : List (List Int)} : IsTup h a its.toArray → IntsAre its ns → ns ≠ [] → TupsAre h vs nss → TupsAre h (.ref a :: vs) (ns :: nss)
theorem TupsAre.length {h : Heap} : ∀ {vs nss}, TupsAre h vs nss → vs.length = nss.length
  | _, _, .nil => rfl
  | _, _, .cons _ _ _ t => by rw [List.length_cons, List.length_cons, t.length]
theorem TupsAre.get {h : Heap} : ∀ {vs nss} {i : Nat}, TupsAre h vs nss → i < vs.length → ∃ a its, vs.getD i Value.none = .ref a ∧ IsTup h a its.toArray ∧ IntsAre its (nss.getD i [])
  | _, _, _, .nil, hi => absurd hi (Nat.not_lt_zero _)
  | _, _, 0, .cons h1 h2 _ _, _ => ⟨_, _, rfl, h1, h2⟩
  | _, _, i + 1, .cons _ _ _ t, hi => by
    obtain ⟨a, its, e, q⟩ := t.get (i := i) (by simpa using hi)
    exact ⟨a, its, by simpa using e, by simpa using q⟩
theorem TupsAre.keeps {h h' : Heap} : ∀ {vs nss}, TupsAre h vs nss → (∀ a o, .ref a ∈ vs → h.get? a = some o → h'.get? a = some o) → TupsAre h' vs nss
  | _, _, .nil, _ => .nil
  | _, _, .cons h1 h2 h3 t, k => by
    obtain ⟨o, e, r⟩ := h1
    exact .cons ⟨o, k _ o List.mem_cons_self e, r⟩ h2 h3 (t.keeps fun a o hm e => k a o (List.mem_cons_of_mem _ hm) e)
theorem TupsAre.tups {h : Heap} : ∀ {vs nss}, TupsAre h vs nss → ∃ fs, KatTups h vs fs ∧ fs.length = vs.length ∧ ∀ v ∈ fs, ∃ n t, v = Value.int n t
  | _, _, .nil => ⟨[], .nil, rfl, fun v hv => by cases hv⟩
  | _, _, .cons h1 h2 h3 t => by
    obtain ⟨fs, k, l, q⟩ := t.tups
    obtain ⟨o, e, c, n, d⟩ := h1
    cases h2 with
    | nil => exact absurd rfl h3
    | cons x tk r =>
      refine ⟨Value.int x tk :: fs, .cons e c d (by simp) k, by rw [List.length_cons, List.length_cons, l], fun v hv => ?_⟩
      rcases List.mem_cons.mp hv with rfl | hv
      · exact ⟨x, tk, rfl⟩
      · exact q v hv
theorem lex_katlex {prog : Program} {w : World} {A : Around} {s : Shared} {b : Bool} {Q : Bool → Shared → Prop} : ∀ {xs ys : List Value} {ns ms : List Int} (i : Nat), IntsAre xs ns → IntsAre ys ms → ∀ (fin : Bool), (∀ k l : Nat, fin = decide (k < l) → k + ms.length = l + ns.length → True) → (fin = true ↔ ns.length < ms.length) → Q (lx ns ms) s → KatLex prog w A b fin Q (xs.zip ys) i s
  | _, _, _, _, i, .nil, .nil, fin, _, hf, q => by
    have : fin = false := by cases fin with | false => rfl | true => exact absurd (hf.mp rfl) (Nat.lt_irrefl _)
    subst this
    exact kat_nil q
  | _, _, _, _, i, .nil, .cons _ _ _, fin, _, hf, q => by
    have : fin = true := hf.mpr (by simp)
    subst this
    exact kat_nil q
  | _, _, _, _, i, .cons _ _ _, .nil, fin, _, hf, q => by
    have : fin = false := by cases fin with | false => rfl | true => exact absurd (hf.mp rfl) (by simp)
    subst this
    exact kat_nil q
  | _, _, _, _, i, .cons x t hx, .cons y u hy, fin, _, hf, q => by
    rw [List.zip_cons_cons]
    refine kat_cons (wpAny_eqBool_int ?_)
    change Q (HT.lexLt _ _) s at q
    rw [HT.lexLt_cons] at q
    by_cases e : x = y
    · rw [if_pos e] at q
      rw [show (x == y) = true by simp [e]]
      exact kat_yes (lex_katlex (i + 1) hx hy fin (fun _ _ _ _ => trivial) (by rw [hf]; simp) q)
    · rw [if_neg e] at q
      rw [show (x == y) = false by simp [e]]
      refine kat_no ?_
      cases hb : (b && i == 0) with
      | true => exact oneLt_int q
      | false => exact kat_one _ _ (lt_int q)
section
variable {prog : Program} {w : World} {A : Around} {E : Value → Shared → Prop} {s : Shared} {h₀ : Heap} {L D : Addr} {m : Str → Option Value}
theorem perm_range_map {α : Type} (l : List α) (d : α) {p : List Nat} (hp : p.Perm (List.range l.length)) : (p.map fun i => l.getD i d).Perm l := by
  have e : (List.range l.length).map (fun i => l.getD i d) = l := by
    apply List.ext_getElem
    · simp
    · intro i h1 h2
      simp [List.getElem?_eq_getElem h2]
  exact (hp.map _).trans (.of_eq e)
theorem getD_mem {α : Type} {l : List α} {i : Nat} {d : α} (h : i < l.length) : l.getD i d ∈ l := by
  have e : l.getD i d = l[i] := by simp [List.getD_eq_getElem?_getD, List.getElem?_eq_getElem h]
  rw [e]
  exact List.getElem_mem h
theorem lsort_two (F : Fr h₀ L s.heap m) {vs : List Value} {n : Nat} {nss : List (List Int)} (ho : s.heap.get? D = some (seqObj "list" vs.toArray n)) (hDL : D ≠ L) (hD0 : h₀.get? D = none) (ht : TupsAre s.heap vs nss) (hDt : Value.ref D ∉ vs) (hLt : Value.ref L ∉ vs) (h2 : 2 ≤ vs.length) (h64 : vs.length < 64) {Q : Value → Shared → Prop}
    (h : ∀ (p : List Nat) (h' : Heap) (c : Nat), p.Perm (List.range vs.length) → (p.map fun i => nss.getD i []) = srtT nss → Fr h₀ L h' m → (∀ b o, b ≠ L → b ≠ D → s.heap.get? b = some o → h'.get? b = some o) → h'.get? D = some (listOf (p.map fun i => vs.getD i Value.none).toArray c) → Q .none { s with heap := h' }) :
    wpAny (model prog w) A (call (.builtin "list.sort") [.ref D]) Q E s := by
  have N : News h₀ L s.heap ((D, listOf vs.toArray n) :: L2.rest h₀ s.heap L D) := news_at hDL hD0 ho
  have keep : ∀ {h' : Heap} {o : Obj}, Fr h₀ L h' m → News h₀ L h' ((D, o) :: L2.rest h₀ s.heap L D) → ∀ b o, b ≠ L → b ≠ D → s.heap.get? b = some o → h'.get? b = some o := fun F' N' =>
    kept_of_news F.keep F' fun p hp => N' p (List.mem_cons_of_mem _ hp)
  refine kat_lsort (vs := vs) F N (.head rest_ne) (by simp) h2 h64 fun e1 h1 F1 N1 => ?_
  have k1 := keep F1 N1
  have t1 : TupsAre h1 vs nss := ht.keeps fun a o hm e => k1 a o (fun z => hLt (by rw [← z]; exact hm)) (fun z => hDt (by rw [← z]; exact hm)) e
  obtain ⟨fs, kt, lf, fi⟩ := t1.tups
  refine kat_kind (T := Value.type "int") (s := { s with heap := h1 }) kt (by omega) (fun v hv => ?_) rfl ?_
  · obtain ⟨x, tk, rfl⟩ := fi v hv
    exact Looks.of_pure rfl
  have hl := ht.length
  refine sort_wp (f := fun i => rk nss (nss.getD i [])) (fun i j C hi hj q => ?_) (by omega) fun p gp up => ?_
  · obtain ⟨a, xs, ea, ia, na⟩ := t1.get hi
    obtain ⟨b, ys, eb, ib, nb⟩ := t1.get hj
    show wpAny _ _ (keyLt' _ (vs.getD i Value.none) (vs.getD j Value.none)) _ _ _
    rw [ea, eb]
    obtain ⟨o1, ho1, _, n1, d1⟩ := ia
    obtain ⟨o2, ho2, _, n2, d2⟩ := ib
    have mi : nss.getD i [] ∈ nss := getD_mem (by omega)
    rw [rk_lt mi] at q
    refine kat_lt (s := { s with heap := h1 }) ho1 d1 ho2 d2 ?_
    refine lex_katlex 0 na nb _ (fun _ _ _ _ => trivial) ?_ q
    rw [decide_eq_true_iff]
    simp only [List.size_toArray]
    rw [na.length, nb.length]
  · have hp : p.toList.Perm (List.range vs.length) := by
      have := Array.perm_iff_toList_perm.mp gp.2
      simpa using this
    refine KasFin.intro (s := { s with heap := h1 }) F1 N1 (.head rest_ne) fun h' c F' N' => ?_
    refine h p.toList h' c hp ?_ F' (fun b o z1 z2 e => keep F' N' b o z1 z2 e) (N' _ List.mem_cons_self).1
    refine srtT_eq (perm_range_map nss [] (by rw [← hl]; exact hp)) ?_
    rw [List.pairwise_map, List.pairwise_iff_getElem]
    intro i j hi hj hij
    have hi' : i < p.size := by simpa using hi
    have hj' : j < p.size := by simpa using hj
    have u := up i j (Nat.le_of_lt hij) (by rw [← gp.1]; exact hj')
    have e1 : p.getD i 0 = p.toList[i] := by simp [Array.getD, hi']
    have e2 : p.getD j 0 = p.toList[j] := by simp [Array.getD, hj']
    have mj : nss.getD p.toList[j] [] ∈ nss := by
      have hm : p.toList[j] ∈ List.range vs.length := hp.mem_iff.mp (List.getElem_mem hj)
      exact getD_mem (by rw [← hl]; exact List.mem_range.mp hm)
    show lx _ _ = false
    rw [← rk_lt mj]
    unfold Kp at u
    rw [e1, e2] at u
    dsimp only at u
    exact decide_eq_false (by omega)
end
end Q
set_option Elab.async false
set_option linter.all false
set_option maxRecDepth 100000
namespace Q
open PySem PySem.Spec PySem.W PyProof.Rows L2
section
variable {prog : Program} {w : World} {A : Around} {E : Value → Shared → Prop} {s : Shared} {D : Addr}
theorem line16 {k : Nat} (h : k < 64) : k ≤ sizeLine := by rw [sizeLine_eq]; omega
theorem zip_snd (vs : List Value) : ((vs.toArray.zip vs.toArray).map fun x => x.2) = vs.toArray := by
  apply Array.toList_inj.mp
  rw [Array.toList_map, Array.toList_zip]
  exact List.map_snd_zip (Nat.le_refl _)
theorem lsort_few {vs : List Value} {n : Nat} (ho : s.heap.get? D = some (seqObj "list" vs.toArray n)) (h2 : vs.length < 2) {Q : Value → Shared → Prop}
    (h : ∀ (h' : Heap) (c : Nat), (∀ b o, b ≠ D → s.heap.get? b = some o → h'.get? b = some o) → h'.get? D = some (listOf vs.toArray c) → Q .none { s with heap := h' }) :
    wpAny (model prog w) A (call (.builtin "list.sort") [.ref D]) Q E s := by
  have hz : vs.toArray.size < 2 := by rw [List.size_toArray]; exact h2
  have hq : vs.toArray.size ≤ sizeLine := line16 (by omega)
  have hD : D < s.heap.objs.size := Heap.lt_size ho
  obtain ⟨e1, ho1⟩ : ∃ e1, (s.heap.update D (Obj.mapSeq fun _ => (#[] : Array Value))).get? D = some (seqObj "list" #[] e1) := ⟨_, get?_update_seq ho fun _ => #[]⟩
  refine wpAny_call_entry slot_list_sort ⟨_, ho, rfl⟩ entry_list_sort ?_ (args_list_sort _)
  rw [list_sort_plain]
  refine wpAny_bind (listItems_at ho rfl (wpAny_bind (listUpdate_at ho rfl ?_ hq (Nat.zero_le _))))
  refine wpAny_bind (seqEpoch_at ho1 rfl (wpAny_bind (wpAny_newTuple (wpAny_bind (wpAny_newList (wpAny_holding ?_) (Nat.zero_le _))) (line16 (by show vs.length < 64; omega)))))
  generalize hH : ((s.heap.update D (Obj.mapSeq fun _ => (#[] : Array Value))).push (seqObj "tuple" vs.toArray 0)).push (seqObj "list" #[] 0) = H2
  have ho2 : H2.get? D = some (seqObj "list" #[] e1) := by
    rw [← hH]
    exact Heap.get?_push_of_some _ (Heap.get?_push_of_some _ ho1)
  have keep2 : ∀ b o, b ≠ D → s.heap.get? b = some o → H2.get? b = some o := fun b o hb e => by
    rw [← hH]
    exact Heap.get?_push_of_some _ (Heap.get?_push_of_some _ ((Heap.get?_update_ne _ _ _ _ hb).trans e))
  have hH' : wpAny (model prog w) A.in1 (do
      let ((), st) ← (pure () : StateT SortSt Sem Unit).run (SortSt.mk' general' (vs.toArray.zip vs.toArray) #[] 7 none)
      let sorted := (arrOf st).map (·.2)
      let touched := (← seqEpoch D) != e1
      Builtin.List.listUpdate (.ref D) fun _ => sorted
      if let some e := failedOf st then rule "list.sort.comparison-raised"; throw e
      if touched then rule "list.sort.modified"; raiseError "ValueError" "list modified during sort"
      ret .none) (fun fin s' => ∃ v, fin = .done (.ret v) ∧ Q v s') E { s with heap := H2 } := by
    rw [StateT.run_pure]
    refine wpAny_bind (wpAny_pure ?_)
    dsimp only
    refine wpAny_bind (seqEpoch_at ho2 rfl (wpAny_bind (listUpdate_at ho2 rfl ?_ (Nat.zero_le _) ?_)))
    · rw [zip_snd]
      simp only [bne_self_eq_false, Bool.false_eq_true, if_false]
      exact wpAny_pure ⟨_, rfl, h _ _ (fun b o hb e => (Heap.get?_update_ne _ _ _ _ hb).trans (keep2 b o hb e)) (get?_update_seq ho2 fun _ => vs.toArray)⟩
    · show ((vs.toArray.zip vs.toArray).map fun x => x.2).size ≤ _
      rw [zip_snd]
      omega
  dsimp only
  rw [if_pos hz, if_pos hz]
  exact wpAny_bind (wpAny_pure hH')
theorem sorted_list {l : Addr} {vs : List Value} (hl : s.heap.IsList l vs.toArray) (hz : vs.length ≤ sizeLine) {Q : Value → Shared → Prop}
    (h : ∀ (h' : Heap) (B : Addr), (∀ b o, s.heap.get? b = some o → h'.get? b = some o) → s.heap.objs.size ≤ B → h'.get? B = some (seqObj "list" vs.toArray 0) →
      wpAny (model prog w) A.in1 (call (.builtin "list.sort") [.ref B]) (fun _ s' => Q (.ref B) s') E { s with heap := h' }) : wpAny (model prog w) A (call (.builtin "sorted") [.ref l]) Q E s := by
  refine Calls.call_function_entry kind_sorted plain_sorted entry_sorted (args_sorted1 _) ?_
  unfold Builtin.«sorted»
  refine wpAny_bind (m := checkCount "sorted" 1 1 _) (wpAny_pure (wpAny_bind (collect_list hl (wpAny_bind (wpAny_newList ?_ hz)) hz)))
  have hlt : ∀ b o, s.heap.get? b = some o → b ≠ s.heap.objs.size := fun b o e => Nat.ne_of_lt (Heap.lt_size e)
  refine wpAny_bind (wpAny_holding (wpAny_mono (h _ _ (fun b o e => Heap.get?_push_of_some _ ((Heap.get?_update_ne _ _ _ _ (hlt b o e)).trans (Heap.get?_push_of_some _ e))) ?_ (Heap.get?_push_size _ rfl)) (fun _ s' x => wpAny_pure ⟨_, rfl, x⟩) fun _ _ e => e))
  rw [Heap.size_update, size_push']
  exact Nat.le_succ _
end
theorem kdl_raw {prog : Program} {w : World} {d : Addr} {o : Obj} {es : Array DictEntry} {ep : Nat} (lo : (d == sysModules) = false) (hx : o.ExactDict) (hdt : o.data = .dict es ep) :
    KdlSrc prog w "dict" d d es.size (fun i v => ∃ en, es[i]? = some en ∧ v = en.key) (fun h => h.get? d = some o) where
  type := fun _ hm => ⟨o, hm, hx.1⟩
  there := fun _ hm => ⟨Heap.lt_size hm, Heap.lt_size hm⟩
  keep := fun _ _ hm hk => hk d (.inl rfl) o hm
  notList := by decide
  notTuple := by decide
  hint := fun _ _ _ _ hm hq => kdl_hint_dict ⟨o, hm, hx.1⟩ hq
  iter := fun A s hh hm => by
    refine ⟨_, fun i h => h.IsKeyIter s.heap.objs.size d i es.size ep ∧ h.get? d = some o, fun E Q hq => iter_keys lo hm hx hdt hq, ?_, ⟨⟨_, Heap.get?_push_size _ rfl, rfl, rfl⟩, Heap.get?_push_of_some _ hm⟩⟩
    have hne : d ≠ s.heap.objs.size := Nat.ne_of_lt (Heap.lt_size hm)
    refine ⟨fun b hb => List.mem_cons.mpr (.inl (List.mem_singleton.mp hb)), fun i h h' st k => ⟨st.1.at fun oi e => k _ List.mem_cons_self oi e, k d (List.mem_cons_of_mem _ List.mem_cons_self) o st.2⟩, fun i s1 Q E hi st hQ => ?_, fun s1 Q E st hQ => ?_, fun i s1 Q E st hq => ?_⟩
    · refine next_key_item st.1 st.2 hdt rfl (Array.getElem?_eq_getElem hi) fun h' st' sb => ?_
      exact hQ _ h' s1.toks ⟨_, Array.getElem?_eq_getElem hi, rfl⟩ ⟨st', (sb.2 d hne).trans st.2⟩ fun b ob hb e => (sb.2 b fun z => hb (List.mem_singleton.mpr z)).trans e
    · exact next_key_end hh st.1 st.2 hdt rfl (Nat.le_refl _) fun h' eb => hQ h' s1.toks fun b ob hb e => eb b ob (fun z => hb (List.mem_singleton.mpr z)) e
    · refine wpAny_pyIter_slot st.1.typeIs PySem.F.slot_dict_keyiterator_iter (wpAny_call_entry PySem.F.slot_dict_keyiterator_iter st.1.typeIs PySem.F.entry_dict_keyiterator_iter ?_ (PySem.F.args_dict_keyiterator_iter_1 _))
      exact wpAny_pure ⟨_, rfl, "dict_keyiterator", _, st.1.typeIs, PySem.F.slot_dict_keyiterator_next.lookup, hq⟩
end Q
set_option Elab.async false
set_option linter.all false
set_option maxRecDepth 100000
namespace Q
open PySem PySem.Spec PySem.W PyProof.Rows L2
theorem ns_uniq {h : Heap} {a : Addr} {m m' : Str → Option Value} (x : h.Ns a m) (y : h.Ns a m') : m = m' := by
  obtain ⟨o, es, ep, h1, h2, _, h3⟩ := x
  obtain ⟨o', es', ep', h1', h2', _, h3'⟩ := y
  rw [h1] at h1'
  cases h1'
  rw [h2] at h2'
  cases h2'
  funext n
  rw [← h3, h3']
section
variable {X : Cx} {pins : List (Addr × Obj)} {σ : L2.St} {H : Hp} {s : Shared} {B : Addr} {xs ys : List V} {h' : Heap} {m : Str → Option Value}
theorem inv_sorted (I : Inv X pins σ H s) (hB : H B = some (.lst xs)) (k : ∀ b o, b ≠ X.env.locals → b ≠ B → s.heap.get? b = some o → h'.get? b = some o) (F : Fr X.base X.env.locals s.heap m) (F' : Fr X.base X.env.locals h' m)
    {its : List Value} {c : Nat} (hn : h'.get? B = some (listOf its.toArray c)) (hv : Vals ys its) (hz : ys.length ≤ sizeLine) : Inv X pins σ (upd H B (.lst ys)) { s with heap := h' } := by
  have nB : ∀ b u, H b = some u → (∀ zs, u ≠ .lst zs) → b ≠ B := fun b u e n z => by
    rw [z, hB] at e
    cases e
    exact n _ rfl
  have nB0 : ∀ b, H b = none → b ≠ B := fun b e z => by rw [z, hB] at e; cases e
  refine I.step (t' := s.toks) (g' := s.gens) (d' := s.drawn) (ch := []) (fun _ z => nomatch z) (fun b o hL _ _ e n => k b o hL (nB0 b n) e) (fun b o hL _ _ e n => ⟨o.slots, k b o hL (nB0 b n) e⟩) (fun b o _ e n => by rw [upd_ne (nB0 b n)]; exact n) (fun b o _ e => ?_)
    (fun b zs e => by rw [upd_ne (nB b _ e (fun _ z => nomatch z))]; exact e) (fun b o u e => by rw [upd_ne (nB b _ e (fun _ z => nomatch z))]; exact e) (fun b ps e => ⟨#[], by rw [upd_ne (nB b _ e (fun _ z => nomatch z)), e]; simp⟩) (fun m' hm => ?_) (fun a o e => ?_) I.bare
  · by_cases h1 : b = X.env.locals
    · subst h1
      obtain ⟨o', _, _, q, _⟩ := F'.ns
      exact ⟨o', q⟩
    · by_cases h2 : b = B
      · subst h2; exact ⟨_, hn⟩
      · exact ⟨o, k b o h1 h2 e⟩
  · rw [ns_uniq hm F.ns]
    exact F'.ns
  · by_cases ha : a = B
    · subst ha
      rw [upd_same] at e
      cases e
      exact ⟨hz, its, c, hv, hn⟩
    · rw [upd_ne ha] at e
      refine (I.hok a o e).stay (fun b u hb q => k b u ?_ ?_ q) (fun b q => by rw [upd_ne (nB b _ q (fun _ z => nomatch z))]; exact q) fun b zs q => by rw [upd_ne (nB b _ q (fun _ z => nomatch z))]; exact q
      · rcases hb with z | z
        · rw [z]; intro w; rw [w, I.free] at e; cases e
        · intro w; rw [w, I.free] at z; cases z
      · rcases hb with z | z
        · rw [z]; exact ha
        · exact nB b _ z (fun _ z => nomatch z)
theorem obj_there {P : Program} {w : World} {h : Heap} {a : Addr} {o : HO} (x : ObjOk P w H h a o) : ∃ ob, h.get? a = some ob := by
  cases o with
  | lst xs => obtain ⟨_, _, _, _, e⟩ := x; exact ⟨_, e⟩
  | tup xs => obtain ⟨_, _, _, o, e, _⟩ := x; exact ⟨_, e⟩
  | dK kvs => obtain ⟨_, _, _, _, o, _, _, e, _⟩ := x; exact ⟨_, e⟩
  | dT kvs => obtain ⟨_, _, _, _, o, _, _, e, _⟩ := x; exact ⟨_, e⟩
  | set S n => obtain ⟨o, _, _, _, e, _⟩ := x; exact ⟨_, e⟩
  | ins C dx fs => obtain ⟨_, _, _, e, _⟩ := x; exact ⟨_, e⟩
  | own y => obtain ⟨_, e⟩ := x; exact ⟨_, e⟩
  | xd fs => obtain ⟨_, ⟨_, _, _, e, _⟩, _⟩ := x; exact ⟨_, e⟩
  | rng lo hi => obtain ⟨_, _, _, e⟩ := x; exact ⟨_, e⟩
  | frz ob u => obtain ⟨e, _⟩ := x; exact ⟨_, e⟩
  | tbl ps => exact ⟨_, (show h.get? a = some _ from x)⟩
  | met f y => exact ⟨_, (show h.get? a = some _ from x)⟩
  | ext φ => obtain ⟨_, ⟨_, e⟩, _⟩ := x; exact ⟨_, e⟩
theorem free_of (I : Inv X pins σ H s) (hB : s.heap.get? B = none) : H B = none := by
  cases q : H B with
  | none => rfl
  | some u =>
    obtain ⟨ob, e⟩ := obj_there (I.hok B u q)
    rw [hB] at e
    cases e
theorem inv_laidF {tk : Nat} (I : Inv X pins σ H s) (hB : s.heap.get? B = none) (k : ∀ b o, b ≠ X.env.locals → s.heap.get? b = some o → h'.get? b = some o) (F : Fr X.base X.env.locals s.heap m) (F' : Fr X.base X.env.locals h' m)
    {its : List Value} {c : Nat} (hn : h'.get? B = some (listOf its.toArray c)) (hv : Vals ys its) (hz : ys.length ≤ sizeLine) : Inv X pins σ (upd H B (.lst ys)) { s with heap := h', toks := tk } := by
  have hf : H B = none := free_of I hB
  have nB : ∀ b u, H b = some u → b ≠ B := fun b u e z => by rw [z, hf] at e; cases e
  have nS : ∀ b o, s.heap.get? b = some o → b ≠ B := fun b o e z => by rw [z, hB] at e; cases e
  refine I.step (t' := tk) (g' := s.gens) (d' := s.drawn) (ch := []) (fun _ z => nomatch z) (fun b o hL _ _ e n => k b o hL e) (fun b o hL _ _ e n => ⟨o.slots, k b o hL e⟩) (fun b o _ e n => by rw [upd_ne (nS b o e)]; exact n) (fun b o _ e => ?_)
    (fun b zs e => by rw [upd_ne (nB b _ e)]; exact e) (fun b o u e => by rw [upd_ne (nB b _ e)]; exact e) (fun b ps e => ⟨#[], by rw [upd_ne (nB b _ e), e]; simp⟩) (fun m' hm => ?_) (fun a o e => ?_) I.bare
  · by_cases h1 : b = X.env.locals
    · subst h1
      obtain ⟨o', _, _, q, _⟩ := F'.ns
      exact ⟨o', q⟩
    · exact ⟨o, k b o h1 e⟩
  · rw [ns_uniq hm F.ns]
    exact F'.ns
  · by_cases ha : a = B
    · subst ha
      rw [upd_same] at e
      cases e
      exact ⟨hz, its, c, hv, hn⟩
    · rw [upd_ne ha] at e
      refine (I.hok a o e).stay (fun b u hb q => k b u ?_ q) (fun b q => by rw [upd_ne (nB b _ q)]; exact q) fun b zs q => by rw [upd_ne (nB b _ q)]; exact q
      rcases hb with z | z
      · rw [z]; intro w; rw [w, I.free] at e; cases e
      · intro w; rw [w, I.free] at z; cases z
abbrev TupV (K : Fg) (H : Hp) : List V → List (List Int) → Prop := Paired fun x ns => ∃ b, x = V.ref b ∧ SqT K H b (ns.map V.int) ∧ ns ≠ []
theorem tups_of (I : Inv X pins σ H s) : ∀ {xs : List V} {nss : List (List Int)} {its : List Value}, TupV X.K H xs nss → Vals xs its → TupsAre s.heap its nss
  | _, _, _, .nil, .nil => .nil
  | _, _, _, .cons ⟨b, e, hs, hne⟩ t, .cons r rs => by
    subst e
    cases r
    obtain ⟨us, rv, p, _⟩ := I.tuple hs
    exact .cons p rv.ints hne (tups_of I t rs)
theorem TupsAre.addr {h : Heap} {a : Addr} : ∀ {vs nss}, TupsAre h vs nss → Value.ref a ∈ vs → ∃ its, IsTup h a its
  | _, _, .nil, hm => by cases hm
  | _, _, .cons h1 _ _ t, hm => by
    rcases List.mem_cons.mp hm with e | hm
    · cases e; exact ⟨_, h1⟩
    · exact t.addr hm
theorem TupV.laid {K : Fg} {o : HO} (hB : H B = none) : ∀ {xs : List V} {nss : List (List Int)}, TupV K H xs nss → TupV K (upd H B o) xs nss
  | _, _, .nil => .nil
  | _, _, .cons ⟨b, e, hs, hne⟩ t => .cons ⟨b, e, sqT_le (le_upd hB o) hs, hne⟩ (TupV.laid hB t)
theorem Vals.getD {xs : List V} {its : List Value} (r : Vals xs its) : ∀ p : List Nat, (∀ i ∈ p, i < xs.length) → Vals (p.map fun i => xs.getD i V.non) (p.map fun i => its.getD i Value.none)
  | [], _ => .nil
  | i :: p, h => by
    have hi : i < xs.length := h i List.mem_cons_self
    obtain ⟨u, hu, ru⟩ := L2.Vals.get r (List.getElem?_eq_getElem hi)
    refine .cons ?_ (Vals.getD r p fun j hj => h j (List.mem_cons_of_mem _ hj))
    have e1 : xs.getD i V.non = xs[i] := by simp [List.getD_eq_getElem?_getD, List.getElem?_eq_getElem hi]
    have e2 : its.getD i Value.none = u := by simp [List.getD_eq_getElem?_getD, hu]
    show RelV (xs.getD i V.non) (its.getD i Value.none)
    rw [e1, e2]
    exact ru
theorem sort_here {A : Around} {E : Value → Shared → Prop} {nss : List (List Int)} {Q : VK} (I : Inv X pins σ (upd H B (.lst xs)) s) (hH : H B = none) (hB0 : X.base.get? B = none) (hb : B ≠ X.env.locals) (t : TupV X.K H xs nss) (h64 : xs.length < 64)
    (q : ∀ p : List Nat, p.Perm (List.range xs.length) → (p.map fun i => nss.getD i []) = srtT nss → Q (.ref B) (upd H B (.lst (p.map fun i => xs.getD i V.non)))) :
    wpAny (model X.prog X.w) A (call (.builtin "list.sort") [.ref B]) (fun _ s' => EP X pins σ Q (.ref B) s') E s := by
  obtain ⟨z, its, n, r, e⟩ := I.hok B _ upd_same
  have t1 := tups_of I (t.laid hH) r
  have hl := L2.Vals.length r
  by_cases h2 : its.length < 2
  · refine lsort_few e h2 fun h' c k hn => ?_
    have hp : (List.range xs.length).map (fun i => xs.getD i V.non) = xs := by
      apply List.ext_getElem
      · simp
      · intro i h1 h2
        simp [List.getElem?_eq_getElem h2]
    have hs : (List.range xs.length).map (fun i => nss.getD i []) = srtT nss := by
      have l2 := t1.length
      have e0 : (List.range xs.length).map (fun i => nss.getD i []) = nss := by
        apply List.ext_getElem
        · simp; omega
        · intro i h1 h2
          simp [List.getElem?_eq_getElem h2]
      rw [e0]
      match nss, l2 with
      | [], _ => rfl
      | [_], _ => rfl
      | _ :: _ :: _, l2 => simp at l2; omega
    have := q _ (List.Perm.refl _) hs
    rw [hp] at this
    refine ⟨.ref B, _, ?_, rfl, this⟩
    have I2 := I.write (x := B) (e := B) (o := .lst xs) (t' := s.toks) (h' := h') (by rw [upd_same]; trivial) (.inl rfl) (fun b u hb q => k b u hb q) ⟨_, hn⟩ ⟨z, its, c, r, hn⟩
    rw [upd_upd] at I2
    exact I2
  · obtain ⟨m, F⟩ := I.fr
    refine lsort_two F e hb hB0 t1 (fun hm => ?_) (fun hm => ?_) (by omega) (by omega) fun p h' c pp ps F' k hn => ?_
    · obtain ⟨us, o, ho, hc, _⟩ := t1.addr hm
      rw [e] at ho
      cases ho
      exact absurd hc (by simp)
    · obtain ⟨us, o, ho, hc, n', hd⟩ := t1.addr hm
      obtain ⟨o2, es, ep, ho2, hd2, _⟩ := F.ns
      rw [ho] at ho2
      cases ho2
      rw [hd] at hd2
      cases hd2
    · have hv := Vals.getD r p fun i hi => by
        have := List.mem_range.mp (pp.mem_iff.mp hi)
        omega
      have I2 := inv_sorted I upd_same k F F' hn hv (by rw [List.length_map, pp.length_eq, List.length_range, ← hl]; exact z)
      rw [upd_upd] at I2
      exact ⟨.ref B, _, I2, rfl, q p (by rw [hl]; exact pp) ps⟩
theorem paired_ix {α β : Type} {R : α → β → Prop} : ∀ {l₁ : List α} {l₂ : List β}, l₁.length = l₂.length → (∀ (i : Nat) a b, l₁[i]? = some a → l₂[i]? = some b → R a b) → Paired R l₁ l₂
  | [], [], _, _ => .nil
  | [], _ :: _, h, _ => by cases h
  | _ :: _, [], h, _ => by cases h
  | a :: l₁, b :: l₂, h, q => .cons (q 0 a b rfl rfl) (paired_ix (by simpa using h) fun i x y e1 e2 => q (i + 1) x y (by simpa using e1) (by simpa using e2))
def rSortT (K : Fg) : List V → Hp → VK → Prop := fun vs H Q => ∃ (a : Addr) (xs : List V) (nss : List (List Int)), vs = [V.ref a] ∧ SqL K H a xs ∧ TupV K H xs nss ∧ xs.length < 64 ∧
  ∀ (p : List Nat) (b : Addr), p.Perm (List.range xs.length) → (p.map fun i => nss.getD i []) = srtT nss → H b = none → Q (.ref b) (upd H b (.lst (p.map fun i => xs.getD i V.non)))
theorem cr_sortT : CallR X (.builtin "sorted") (rSortT X.K) := by
  intro pins s σ H vs us Q I r h
  obtain ⟨a, xs, nss, rfl, hs, t, h64, q⟩ := h
  obtain ⟨its, rv, hl, hz⟩ := I.list hs
  obtain ⟨u, rfl, ru⟩ := vals1 r
  cases ru
  have hlen := L2.Vals.length rv
  refine sorted_list hl.isList (by rw [← hlen]; exact hz) fun h' B k hB hn => ?_
  have fr : H B = none := I.hok.fresh hB
  have I1 : Inv X pins σ (upd H B (.lst xs)) { s with heap := h' } := I.laid (t' := s.toks) k hB ⟨hz, its, 0, rv, hn⟩
  exact sort_here I1 fr (Heap.get?_none_of_le (Nat.le_trans I.ok.bsz (Nat.le_trans I.sz hB))) (Nat.ne_of_gt (Nat.lt_of_lt_of_le I.lt hB)) t h64 fun p pp ps => q p B pp ps fr
def rSortD (K : Fg) : List V → Hp → VK → Prop := fun vs H Q => ∃ (a : Addr) (kvs : List (List Key × V)) (nss : List (List Int)), vs = [V.ref a] ∧ H a = some (.dT kvs) ∧ kvs.map (·.1) = nss.map (fun ns => ns.map Sum.inl) ∧ (∀ ns ∈ nss, ns ≠ []) ∧ kvs.length < 64 ∧
  ∀ (xs : List V) (p : List Nat) (b : Addr), Paired (fun x ns => ∃ b, x = V.ref b ∧ H b = some (.tup (ns.map V.int))) xs nss → p.Perm (List.range xs.length) → (p.map fun i => nss.getD i []) = srtT nss → H b = none → Q (.ref b) (upd H b (.lst (p.map fun i => xs.getD i V.non)))
theorem cr_sortD (hc : X.calm = true) : CallR X (.builtin "sorted") (rSortD X.K) := by
  intro pins s σ H vs us Q I r h
  obtain ⟨a, kvs, nss, rfl, hs, hk, hne, h64, q⟩ := h
  obtain ⟨u, rfl, ru⟩ := vals1 r
  cases ru
  obtain ⟨z, lo, ens, pr, o, es, ep, ho, hx, hdt, he, _⟩ := I.hok a _ hs
  have l1 : es.size = ens.length := size_of_entries he
  have l2 : kvs.length = ens.length := Paired.length pr
  have l3 : kvs.length = nss.length := by
    have := congrArg List.length hk
    simpa using this
  obtain ⟨m, F⟩ := I.fr
  refine kdu_sorted (kdl_raw lo hx hdt) (I.ok.hd hc) F (news_all (g := X.base) (h := s.heap) (L := X.env.locals)) ho (line16 (by omega)) fun B h' tk its F' N' lB hlen hv => ?_
  have kN : ∀ b ob, b ≠ X.env.locals → s.heap.get? b = some ob → h'.get? b = some ob := fun b ob hb e => by
    cases qb : X.base.get? b with
    | some ob' =>
      have := I.bk b ob' qb
      rw [e] at this
      cases this
      exact F'.keep b _ qb
    | none => exact (N' (b, ob) (List.mem_cons_of_mem _ (mem_allNews hb qb e))).1
  have eB : h'.get? B = some (listOf its.toArray 0) := (N' _ List.mem_cons_self).1
  have hbase : X.base.get? B = none := (N' _ List.mem_cons_self).2.2
  have hbl : B ≠ X.env.locals := (N' _ List.mem_cons_self).2.1
  have hBs : s.heap.get? B = none := by
    cases qb : s.heap.get? B with
    | some ob => exact absurd (lB _ (mem_allNews hbl hbase qb)) (Nat.lt_irrefl _)
    | none => rfl
  have fr : H B = none := free_of I hBs
  have rv : Vals (ens.map fun q => V.ref q.2.1) its := by
    refine paired_ix (by rw [List.length_map]; omega) fun i x u ex eu => ?_
    obtain ⟨en, e1, e2⟩ := hv i u eu
    rw [List.getElem?_map] at ex
    have e3 := entry_at he i
    cases qe : ens[i]? with
    | none => rw [qe] at ex; cases ex
    | some b =>
      rw [qe] at ex e3
      cases ex
      rw [e1] at e3
      cases e3
      exact e2
  have tv0 : Paired (fun x ns => (∃ b, x = V.ref b ∧ H b = some (.tup (ns.map V.int))) ∧ ns ≠ []) (ens.map fun q => V.ref q.2.1) nss := by
    refine paired_ix (by rw [List.length_map]; omega) fun i x ns ex en => ?_
    rw [List.getElem?_map] at ex
    cases qe : ens[i]? with
    | none => rw [qe] at ex; cases ex
    | some b =>
      rw [qe] at ex
      cases ex
      have hi : i < kvs.length := by rw [l2]; exact (List.getElem?_eq_some_iff.mp qe).1
      obtain ⟨b', hb', e1, e2, _⟩ := paired_get pr (List.getElem?_eq_getElem hi)
      rw [qe] at hb'
      cases hb'
      have hk2 := congrArg (fun l => l[i]?) hk
      simp only [List.getElem?_map, List.getElem?_eq_getElem hi, en, Option.map_some, Option.some.injEq] at hk2
      refine ⟨⟨b.2.1, rfl, ?_⟩, hne ns (List.mem_of_getElem? en)⟩
      rw [e2, hk2, List.map_map]
      rfl
  have tv : TupV X.K H (ens.map fun q => V.ref q.2.1) nss := L2.Paired.imp' (fun x ns ⟨⟨b, e, hb⟩, n⟩ => ⟨b, e, SqT.of hb, n⟩) tv0
  have hl3 : (ens.map fun q => V.ref q.2.1).length = kvs.length := by rw [List.length_map]; exact l2.symm
  have I1 : Inv X pins σ (upd H B (.lst (ens.map fun q => V.ref q.2.1))) { s with heap := h', toks := tk } := inv_laidF I hBs kN F F' eB rv (by rw [hl3]; exact z)
  exact sort_here I1 fr hbase hbl tv (by rw [hl3]; exact h64) fun p pp ps => q _ p B (L2.Paired.imp' (fun x ns h => h.1) tv0) pp ps fr
end
end Q
set_option Elab.async false
set_option linter.all false
set_option maxRecDepth 100000
namespace Q
open PySem PySem.Spec PySem.W PyProof.Rows L2
section
variable {prog : Program} {w : World} {A : Around} {E : Value → Shared → Prop} {s : Shared}
theorem collect_tup {l : Addr} {vs : List Value} {Q : List Value → Shared → Prop} (hl : IsTup s.heap l vs.toArray) (hz : vs.length ≤ sizeLine)
    (h : ∀ h', (∀ b o, s.heap.get? b = some o → h'.get? b = some o) → s.heap.objs.size ≤ h'.objs.size → Q vs { s with heap := h' }) : wpAny (model prog w) A (collect (.ref l)) Q E s := by
  obtain ⟨o, ho, hc, n, hd⟩ := id hl
  unfold collect
  refine wpAny_bind (wpAny_runValue (codeAny_builtin entry_proto_collect' ?_))
  show wpAny _ _ (do again (.builtin "list.__iadd__" ⟨[← newList [], .ref l], []⟩)) _ _ s
  refine wpAny_bind (wpAny_newList (wpAny_pure ⟨Code.quiet_builtin _ (by decide +kernel), codeAny_builtin entry_list_iadd' ?_⟩))
  show wpAny _ _ (Builtin.List.listExtendWith (.ref s.heap.objs.size) (.ref l) (.ref s.heap.objs.size)) _ _ { s with heap := s.heap.push (seqObj "list" #[] 0) }
  have ho' : (s.heap.push (seqObj "list" #[] 0)).get? l = some o := Heap.get?_push_of_some _ ho
  have hn0 : (s.heap.push (seqObj "list" #[] 0)).get? s.heap.objs.size = some (seqObj "list" #[] 0) := Heap.get?_push_size _ rfl
  have ht : (Value.type "tuple" == Value.type "tuple") = true := by rfl
  unfold Builtin.List.listExtendWith
  refine wpAny_bind (wpAny_typeOf (T := "tuple") ⟨o, ho', hc⟩ ?_)
  rw [if_pos (by rw [ht]; simp)]
  refine wpAny_bind (listItems_at ho' hd (wpAny_bind (listItems_at (xs := #[]) (n := 0) hn0 rfl ?_)))
  rw [if_neg (by simp)]
  have hz2 : (#[] ++ vs.toArray).size ≤ sizeLine + 1 := by simp only [Array.size_append, List.size_toArray, List.length_nil]; omega
  refine wpAny_bind (listUpdate_at (xs := #[]) (n := 0) hn0 rfl (wpAny_pure ?_) (Nat.zero_le _) hz2)
  have hu := get?_update_seq hn0 fun x => x ++ vs.toArray
  show wpAny (model prog w) A (load s.heap.objs.size >>= _) Q E _
  refine wpAny_bind (wpAny_load hu ?_)
  show wpAny _ _ (pure ((#[] : Array Value) ++ vs.toArray).toList) Q E _
  have e2 : ((#[] : Array Value) ++ vs.toArray).toList = vs := by simp
  rw [e2]
  exact wpAny_pure (h _ (fun b o e => (Heap.get?_update_ne _ _ _ _ (Nat.ne_of_lt (Heap.lt_size e))).trans (Heap.get?_push_of_some _ e)) (by rw [Heap.size_update, size_push']; exact Nat.le_succ _))
theorem sorted_tup {l : Addr} {vs : List Value} (hl : IsTup s.heap l vs.toArray) (hz : vs.length ≤ sizeLine) {Q : Value → Shared → Prop}
    (h : ∀ (h' : Heap) (B : Addr), (∀ b o, s.heap.get? b = some o → h'.get? b = some o) → s.heap.objs.size ≤ B → h'.get? B = some (seqObj "list" vs.toArray 0) →
      wpAny (model prog w) A.in1 (call (.builtin "list.sort") [.ref B]) (fun _ s' => Q (.ref B) s') E { s with heap := h' }) : wpAny (model prog w) A (call (.builtin "sorted") [.ref l]) Q E s := by
  refine Calls.call_function_entry kind_sorted plain_sorted entry_sorted (args_sorted1 _) ?_
  unfold Builtin.«sorted»
  refine wpAny_bind (m := checkCount "sorted" 1 1 _) (wpAny_pure (wpAny_bind (collect_tup hl hz fun h1 k1 hs1 => wpAny_bind (wpAny_newList ?_ hz))))
  refine wpAny_bind (wpAny_holding (wpAny_mono (h _ _ (fun b o e => Heap.get?_push_of_some _ (k1 b o e)) hs1 (Heap.get?_push_size _ rfl)) (fun _ s' x => wpAny_pure ⟨_, rfl, x⟩) fun _ _ e => e))
end
section
variable {X : Cx}
def rSortB (K : Fg) : List V → Hp → VK → Prop := fun vs H Q => ∃ (a : Addr) (xs : List V) (k : Bool), vs = [V.ref a] ∧ SqB K H k a xs ∧ xs.length < 64 ∧
  ((∃ ns, xs = ns.map V.int ∧ ∀ b, H b = none → Q (.ref b) (upd H b (.lst ((srtI ns).map V.int)))) ∨
   ∃ nss, TupV K H xs nss ∧ ∀ (p : List Nat) (b : Addr), p.Perm (List.range xs.length) → (p.map fun i => nss.getD i []) = srtT nss → H b = none → Q (.ref b) (upd H b (.lst (p.map fun i => xs.getD i V.non))))
theorem cr_sortB : CallR X (.builtin "sorted") (rSortB X.K) := by
  intro pins s σ H vs us Q I r h
  obtain ⟨a, xs, k, rfl, hs, h64, q⟩ := h
  cases k with
  | false =>
    rcases q with ⟨ns, rfl, q⟩ | ⟨nss, t, q⟩
    · refine cr_sorted pins s σ H _ us Q I r ⟨a, ns, rfl, hs, by simpa using h64, fun ns' p pm so hp => ?_⟩
      rw [srtI_eq pm so]
      exact q p hp
    · exact cr_sortT pins s σ H _ us Q I r ⟨a, xs, nss, rfl, hs, t, h64, q⟩
  | true =>
    obtain ⟨u, rfl, ru⟩ := vals1 r
    cases ru
    obtain ⟨its, rv, ht, hz⟩ := I.tuple hs
    have hlen := L2.Vals.length rv
    refine sorted_tup ht (by rw [← hlen]; exact hz) fun h' B kk hB hn => ?_
    have fr : H B = none := I.hok.fresh hB
    have I1 : Inv X pins σ (upd H B (.lst xs)) { s with heap := h' } := I.laid (t' := s.toks) kk hB ⟨hz, its, 0, rv, hn⟩
    rcases q with ⟨ns, rfl, q⟩ | ⟨nss, t, q⟩
    · have hi := rv.ints
      refine wpAny_call_entry slot_list_sort ⟨_, hn, rfl⟩ entry_list_sort (list_sort_tree (s := { s with heap := h' }) hn hi (by rw [← hlen]; exact h64) fun out ns' h1 h2 h3 => ⟨.none, rfl, ?_⟩) (args_list_sort _)
      obtain ⟨ep, he'⟩ := sortedHeap_at (h := h') (vs := its) (out := out) hn
      have hl2 : (ns'.map V.int).length ≤ sizeLine := by rw [List.length_map, h2.length_eq]; rw [List.length_map] at h64; exact line16 h64
      have := srtI_eq h2 h3
      subst this
      have I2 := I1.write (x := B) (e := B) (o := .lst ((srtI ns).map V.int)) (t' := s.toks) (h' := sortedHeap h' B its out) (by rw [upd_same]; trivial) (.inl rfl) (fun b u hb hu => by rw [sortedHeap_old hb (Heap.lt_size hu)]; exact hu) ⟨_, he'⟩ ⟨hl2, out.toList, ep, vals_of_ints h1, he'⟩
      rw [upd_upd] at I2
      exact ⟨.ref B, _, I2, rfl, q B fr⟩
    · exact sort_here I1 fr (Heap.get?_none_of_le (Nat.le_trans I.ok.bsz (Nat.le_trans I.sz hB))) (Nat.ne_of_gt (Nat.lt_of_lt_of_le I.lt hB)) t h64 fun p pp ps => q p B pp ps fr
end
def asTups : List D → Option (List (List Int))
  | [] => some []
  | .tuple ds :: r => (match asInts ds with | none => none | some [] => none | some (n :: ns) => match asTups r with | none => none | some l => some ((n :: ns) :: l))
  | _ :: _ => none
def tupD (ns : List Int) : D := .tuple (ns.map PyData.int)
theorem asTups_some : ∀ {ds : List D} {nss : List (List Int)}, asTups ds = some nss → ds = nss.map tupD ∧ ∀ ns ∈ nss, ns ≠ []
  | [], _, h => by cases h; exact ⟨rfl, fun _ h => by cases h⟩
  | .tuple ds :: r, nss, h => by
    unfold asTups at h
    split at h
    · cases h
    · cases h
    rename_i n ns e1
    split at h
    · cases h
    rename_i l e2
    cases h
    obtain ⟨e3, q⟩ := asTups_some e2
    refine ⟨by rw [e3, asInts_some e1]; rfl, fun x hx => ?_⟩
    rcases List.mem_cons.mp hx with rfl | hx
    · simp
    · exact q x hx
  | .none :: _, _, h => by cases h
  | .bool _ :: _, _, h => by cases h
  | .int _ :: _, _, h => by cases h
  | .str _ :: _, _, h => by cases h
  | .list _ :: _, _, h => by cases h
  | .dict _ :: _, _, h => by cases h
theorem tupV_of {K : Fg} {F H : Hp} {C : List Addr} (fh : Le F H) : ∀ {vs : List V} {nss : List (List Int)}, Rls K F C vs (nss.map tupD) → (∀ ns ∈ nss, ns ≠ []) → TupV K H vs nss
  | _, [], .nil, _ => .nil
  | _, ns :: nss, .cons h t, q => by
    cases h with
    | tup hs rs =>
      have := rs.ints
      subst this
      exact .cons ⟨_, rfl, SqT.of (fh _ _ hs), q ns List.mem_cons_self⟩ (tupV_of fh t fun x hx => q x (List.mem_cons_of_mem _ hx))
theorem Rls.getD {K : Fg} {F : Hp} {C : List Addr} {vs : List V} {ds : List D} (r : Rls K F C vs ds) : ∀ p : List Nat, (∀ i ∈ p, i < vs.length) → Rls K F C (p.map fun i => vs.getD i V.non) (p.map fun i => ds.getD i PyData.none)
  | [], _ => .nil
  | i :: p, h => by
    have hi : i < vs.length := h i List.mem_cons_self
    have hd : i < ds.length := by rw [← r.length]; exact hi
    obtain ⟨u, hu, ru⟩ := r.get (List.getElem?_eq_getElem hd)
    refine .cons ?_ (Rls.getD r p fun j hj => h j (List.mem_cons_of_mem _ hj))
    have e1 : vs.getD i V.non = u := by simp [List.getD_eq_getElem?_getD, hu]
    have e2 : ds.getD i PyData.none = ds[i] := by simp [List.getD_eq_getElem?_getD, List.getElem?_eq_getElem hd]
    show Rl K F C (vs.getD i V.non) (ds.getD i PyData.none)
    rw [e1, e2]
    exact ru
theorem map_tupD {nss : List (List Int)} {p : List Nat} (hp : ∀ i ∈ p, i < nss.length) : (p.map fun i => (nss.map tupD).getD i PyData.none) = (p.map fun i => nss.getD i []).map tupD := by
  rw [List.map_map]
  apply List.map_congr_left
  intro i hi
  have h := hp i hi
  simp [List.getD_eq_getElem?_getD, List.getElem?_map, List.getElem?_eq_getElem h]
section
variable {X : Cx} {e : Expr} {pos p : Pos}
def asKey : D → Option Key
  | .int i => some (.inl i)
  | .str x => some (.inr x)
  | _ => none
def asKeys : List D → Option (List Key)
  | [] => some []
  | d :: r => (match asKey d with | none => none | some k => match asKeys r with | none => none | some l => some (k :: l))
theorem rl_key {K : Fg} {F : Hp} {C : List Addr} {v : V} {d : D} {k : Key} (h : Rl K F C v d) (e : asKey d = some k) : v = kV k := by
  cases d with
  | int i => cases e; exact rl_int h
  | str x => cases e; exact rl_str h
  | _ => cases e
theorem rls_keys {K : Fg} {F : Hp} {C : List Addr} : ∀ {vs : List V} {ds : List D} {ks : List Key}, Rls K F C vs ds → asKeys ds = some ks → vs = ks.map kV
  | _, _, _, .nil, e => by cases e; rfl
  | _, _, _, .cons h t, e => by
    unfold asKeys at e
    split at e
    · cases e
    rename_i k ek
    split at e
    · cases e
    rename_i l el
    cases e
    rw [List.map_cons, rl_key h ek, rls_keys t el]
def putKs (ks : List (List Key)) (k : List Key) : List (List Key) := if (ks.any fun x => decide (x = k)) = true then ks else ks ++ [k]
theorem putK_keys (kvs : List (List Key × V)) (k : List Key) (v : V) : (putK kvs k v).map (·.1) = putKs (kvs.map (·.1)) k := by
  unfold putK putKs
  rw [List.any_map]
  by_cases h : (kvs.any fun kv => decide (kv.1 = k)) = true
  · rw [if_pos h, if_pos (show (kvs.any ((fun x => decide (x = k)) ∘ fun x => x.1)) = true from h), List.map_map]
    apply List.map_congr_left
    intro x _
    show (if x.1 = k then (x.1, v) else x).1 = x.1
    split <;> rfl
  · rw [if_neg h, if_neg (show ¬ (kvs.any ((fun x => decide (x = k)) ∘ fun x => x.1)) = true from h), List.map_append]
    rfl
@[irreducible] def sNewT (i : Nat) : MS := fun ρ h => if i < ρ.length then some (.nx (ρ.set i (.dT [])) h) else none
variable {x : Str} {pos' : Pos}
theorem ss_newT (i : Nat) (hN : X.N.Nodup) (hi : X.N[i]? = some x := by rfl) (hx : Loc X.env.scope x := by first | exact Or.inl rfl | exact Or.inr rfl) (hs : swapsWith (.Dict [] [] p) (some (.Name x pos')) pos.line X.env = pure false := by rfl) (hf : X.fn x = true ∨ X.env.scope.names.lookup x = some .local := by first | exact .inl rfl | exact .inr rfl | assumption) :
    SS X (.Assign [.Name x pos'] (.Dict [] [] p) pos) (sNewT i) := by
  refine .mk _ (ps_set hN hi hx pe_dnewT hs hf) fun σ H F G C O ρ h out Dn s e q => ?_
  unfold sNewT at e
  split at e
  · rename_i hi
    cases e
    intro a ha
    have ga : G a = none := s.r.gh.free ha
    have ca := s.r.notCell ha
    have oa : ∀ j, O j ≠ some a := fun j z => by
      obtain ⟨o, e, _⟩ := s.hasO z
      rw [ha] at e
      cases e
    refine q _ _ F G C (fun j => if j = i then some a else O j) .refl ⟨s.r.over ga ca _, by simpa using s.len, fun j t ej => ?_, fun j hj => ?_, fun j b ej => ?_, fun j k b e1 e2 => ?_⟩
    · by_cases hj : j = i
      · subst hj
        rw [List.getElem?_set_self hi] at ej
        cases ej
        rw [if_pos rfl, List.getElem?_set_self (by rw [← s.len]; exact hi)]
        exact ⟨a, [], rfl, rfl, upd_same, rfl⟩
      · rw [List.getElem?_set_ne (Ne.symm hj)] at ej
        rw [if_neg hj, List.getElem?_set_ne (Ne.symm hj)]
        have w := s.slot j t ej
        have ne : ∀ b o, H b = some o → b ≠ a := fun b o e z => by rw [z, ha] at e; cases e
        cases t with
        | no => exact w
        | val d => exact w
        | own xs => obtain ⟨b, us, z, e1, e2, r⟩ := w; exact ⟨b, us, z, e1, by rw [upd_ne (ne b _ e2)]; exact e2, r⟩
        | dT ks => obtain ⟨b, us, z, e1, e2, r⟩ := w; exact ⟨b, us, z, e1, by rw [upd_ne (ne b _ e2)]; exact e2, r⟩
        | dK ks => obtain ⟨b, us, z, e1, e2, r⟩ := w; exact ⟨b, us, z, e1, by rw [upd_ne (ne b _ e2)]; exact e2, r⟩
    · rw [List.length_set] at hj
      rw [if_neg (by omega)]
      exact s.far j hj
    · split at ej
      · cases ej; exact ⟨ga, ca⟩
      · exact s.oG j b ej
    · split at e1
      · split at e2
        · omega
        · cases e1; exact absurd e2 (oa k)
      · split at e2
        · cases e2; exact absurd e1 (oa j)
        · exact s.inj j k b e1 e2
  · cases e
@[irreducible] noncomputable def sPutT (i : Nat) (k v : ME) : MS := fun ρ h => match v ρ h with
  | none => none
  | some (_, h1) => match k ρ h1 with
    | some (.tuple ds, h2) => (match asKeys ds with
      | none => none
      | some ks => match ρ[i]? with
        | some (.dT kss) => if kss.length < lim then some (.nx (ρ.set i (.dT (putKs kss ks))) h2) else none
        | _ => none)
    | _ => none
theorem ss_putT (i : Nat) {k v : Expr} {mk mv : ME} (hu : X.A.units + 1 < cLine) (hk : SE X k mk) (hv : SE X v mv) (hN : X.N[i]? = some x := by rfl) (hvis : Vis X.env.scope x := by first | exact Or.inl rfl | exact Or.inr (Or.inl rfl) | exact Or.inr (Or.inr rfl)) (hd : (x == ("__debug__" : Str)) = false := by decide) (hcd : (x == ("__classdict__" : Str)) = false := by decide)
    (hs : swapsWith v (some (.Subscript (.Name x p) k pos')) pos.line X.env = pure false := by rfl) : SS X (.Assign [.Subscript (.Name x p) k pos'] v pos) (sPutT i mk mv) := by
  obtain ⟨tk, pk, rk⟩ := hk
  obtain ⟨tv, pv, rv⟩ := hv
  refine .mk _ (ps_dput hu (pe_var hN hvis hd hcd) pk pv hs) fun σ H F G C O ρ h out Dn s e q => ?_
  unfold sPutT at e
  split at e
  · cases e
  rename_i d h1 e1
  split at e
  · rename_i ds h2 e2
    split at e
    · cases e
    rename_i ks ek
    split at e
    · rename_i kss ei
      split at e
      · rename_i hz
        cases e
        refine rv σ H F (Gx O H G) C ρ h d h1 _ s.hr s.er e1 fun u H1 F1 G1 C1 a1 r1 => ?_
        obtain ⟨s1, b1⟩ := s.back a1
        obtain ⟨a, kvs, oi, si, ha, hk⟩ := s1.slot i _ ei
        refine ⟨_, si, ?_⟩
        refine rk σ H1 F1 (Gx O H1 (Gm O G1)) C1 ρ h1 _ h2 _ s1.hr s1.er e2 fun y H2 F2 G2 C2 a2 r2 => ?_
        obtain ⟨s2, b2⟩ := s1.back a2
        obtain ⟨a', kvs', oi', si', ha', hk'⟩ := s2.slot i _ ei
        rw [oi] at oi'
        cases oi'
        cases r2 with
        | tup hb rb =>
          have := rls_keys rb ek
          subst this
          refine ⟨a, _, rfl, DPut.t ha' (s2.r.fh _ _ hb) (by rw [← List.length_map (f := (·.1)), hk']; exact Nat.lt_of_lt_of_le hz (small (Nat.le_refl _))), ?_⟩
          exact q σ _ F2 _ C2 O (b1.a0.trans b2.a0) (s2.upOwn oi (List.getElem?_eq_some_iff.mp ei).1 ⟨a, _, rfl, si', upd_same, by rw [putK_keys, hk']⟩)
      · cases e
    · cases e
  · cases e
def intKeys : List Key → Option (List Int)
  | [] => some []
  | .inl i :: r => (match intKeys r with | none => none | some l => some (i :: l))
  | .inr _ :: _ => none
def intKeyss : List (List Key) → Option (List (List Int))
  | [] => some []
  | k :: r => (match intKeys k with | none => none | some [] => none | some (n :: ns) => match intKeyss r with | none => none | some l => some ((n :: ns) :: l))
theorem intKeys_some : ∀ {k : List Key} {ns : List Int}, intKeys k = some ns → k = ns.map Sum.inl
  | [], _, h => by cases h; rfl
  | .inl i :: r, ns, h => by
    unfold intKeys at h
    split at h
    · cases h
    rename_i l e
    cases h
    rw [intKeys_some e]
    rfl
  | .inr _ :: _, _, h => by cases h
theorem intKeyss_some : ∀ {kss : List (List Key)} {nss : List (List Int)}, intKeyss kss = some nss → kss = nss.map (fun ns => ns.map Sum.inl) ∧ ∀ ns ∈ nss, ns ≠ []
  | [], _, h => by cases h; exact ⟨rfl, fun _ h => by cases h⟩
  | k :: r, nss, h => by
    unfold intKeyss at h
    split at h
    · cases h
    · cases h
    rename_i n ns e1
    split at h
    · cases h
    rename_i l e2
    cases h
    obtain ⟨e3, q⟩ := intKeyss_some e2
    refine ⟨by rw [e3, intKeys_some e1]; rfl, fun x hx => ?_⟩
    rcases List.mem_cons.mp hx with rfl | hx
    · simp
    · exact q x hx
@[irreducible] def eSortD (i : Nat) : ME := fun ρ h => match ρ[i]? with
  | some (.dT kss) => (match intKeyss kss with | none => none | some nss => if nss.length < 64 then some (.list ((srtT nss).map tupD), h) else none)
  | _ => none
theorem HR.addTup {K : Fg} {F G H : Hp} {C : List Addr} {h : Hq} (r : HR K F G C h H) {b : Addr} {xs : List V} (hb : H b = some (.tup xs)) : Aft K F G C (upd F b (.tup xs)) (upd G b (.tup xs)) C h H := by
  have cb : b ∉ C := fun hm => by
    obtain ⟨o, e, n⟩ := r.at hm
    rw [hb] at e
    cases e
    exact n _ rfl
  have lf : Le F (upd F b (.tup xs)) := fun a o e => by
    by_cases z : a = b
    · subst z; rw [r.fh _ _ e] at hb; cases hb; exact upd_same
    · rw [upd_ne z]; exact e
  have lg : Le G (upd G b (.tup xs)) := fun a o e => by
    by_cases z : a = b
    · subst z; rw [r.gh _ _ e] at hb; cases hb; exact upd_same
    · rw [upd_ne z]; exact e
  refine ⟨lf, lg, List.prefix_refl _, ⟨fun a o e => ?_, fun a o e => ?_, r.nd, fun a ha => ?_, r.len, fun n a ys e1 e2 => ?_, r.tab, fun n a c e1 e2 => (r.more n a c e1 e2).keep lf (List.prefix_refl _) rfl⟩, fun a o e n => upd_ne (show a ≠ b from fun z => ?_)⟩
  · by_cases z : a = b
    · subst z; rw [upd_same] at e ⊢; exact e
    · rw [upd_ne z] at e ⊢; exact r.fg a o e
  · by_cases z : a = b
    · subst z; rw [upd_same] at e; cases e; exact hb
    · rw [upd_ne z] at e; exact r.gh a o e
  · rw [upd_ne (show a ≠ b from fun z => cb (by rw [← z]; exact ha))]
    exact r.out a ha
  · obtain ⟨vs, e3, r3⟩ := r.cell n a ys e1 e2
    exact ⟨vs, e3, r3.le lf (List.prefix_refl _)⟩
  · subst z
    rw [r.gh _ _ e] at hb
    cases hb
    exact n _ rfl
theorem HR.addTups {K : Fg} {C : List Addr} {h : Hq} {H : Hp} : ∀ {vs : List V} {nss : List (List Int)} {F G : Hp}, HR K F G C h H → Paired (fun x ns => ∃ b, x = V.ref b ∧ H b = some (.tup (ns.map V.int))) vs nss → ∃ F' G', Aft K F G C F' G' C h H ∧ Rls K F' C vs (nss.map tupD)
  | _, _, F, G, r, .nil => ⟨F, G, .refl r, .nil⟩
  | _, _, F, G, r, .cons ⟨b, e, hb⟩ t => by
    subst e
    have a1 := r.addTup hb
    obtain ⟨F', G', a2, rs⟩ := HR.addTups a1.r t
    exact ⟨F', G', a1.trans a2, .cons (.tup (a2.f _ _ upd_same) (Rls.of_ints _)) rs⟩
theorem se_sortD (i : Nat) (hc : X.calm = true) (hg : Gl X "sorted") (hm : X.mg "sorted" = none) (hN : X.N[i]? = some x := by rfl) (hvis : Vis X.env.scope x := by first | exact Or.inl rfl | exact Or.inr (Or.inl rfl) | exact Or.inr (Or.inr rfl)) (hd : (x == ("__debug__" : Str)) = false := by decide) (hcd : (x == ("__classdict__" : Str)) = false := by decide)
    (he : starEach [.Name x p] X.env = (false, eval (.Name x p) X.env) :: starEach [] X.env := by rfl) : SE X (.Call (.Name "sorted" pos') [.Name x p] [] pos) (eSortD i) := by
  refine .mk _ (pe_callB (cr_sortD hc) hg hm (by decide +kernel) (pa_cons (pe_var hN hvis hd hcd) pa_nil he) (by decide) (by decide) he rfl) fun σ H F G C ρ h d h' Q h0 er e q => ?_
  unfold eSortD at e
  split at e
  · rename_i kss ei
    split at e
    · cases e
    rename_i nss ek
    split at e
    · rename_i h64
      cases e
      obtain ⟨a, kvs, si, ga, hk⟩ := er.2 i _ ei
      obtain ⟨e1, ne⟩ := intKeyss_some ek
      have hl : kvs.length = nss.length := by
        have := congrArg List.length (hk.trans e1)
        simpa using this
      refine ⟨_, si, a, kvs, nss, rfl, h0.gh _ _ ga, hk.trans e1, ne, by rw [hl]; exact h64, fun xs p b tv pp ps hb => ?_⟩
      obtain ⟨F1, G1, a1, r1⟩ := h0.addTups tv
      have lx : xs.length = nss.length := Paired.length tv
      have hp : ∀ j ∈ p, j < xs.length := fun j hj => List.mem_range.mp (pp.mem_iff.mp hj)
      have r2 := r1.getD p hp
      rw [map_tupD (fun j hj => by rw [← lx]; exact hp j hj), ps] at r2
      obtain ⟨a2, r3⟩ := newLst a1.r hb r2
      exact q _ _ _ _ C (a1.trans a2) r3
    · cases e
  · cases e
theorem len_dT {prog : Program} {w : World} {A : Around} {E : Value → Shared → Prop} {s : Shared} {d : Addr} {o : Obj} {es : Array DictEntry} {ep : Nat} {Q : Value → Shared → Prop} (lo : (d == sysModules) = false) (ho : s.heap.get? d = some o) (hx : o.ExactDict) (hdt : o.data = .dict es ep) (hfit : es.size ≤ sizeLine)
    (h : ∀ t tk, Q (.int es.size t) { s with toks := tk }) : wpAny (model prog w) A (call (.builtin "len") [.ref d]) Q E s := by
  have hT : s.TypeIs (.ref d) "dict" := ⟨o, ho, hx.1⟩
  have hz : (es.size : Int) < 2 ^ 63 := by have := sizeLine_eq; omega
  have M : MeetsIn prog w (Builtin.«dict.__len__» ⟨[.ref d], []⟩) (fun _ R s => s.heap.get? d = some o ∧ R (.ok (.ret (.int es.size s.toks))) { s with toks := s.toks + 1 }) := .of_wp fun A R s ⟨hm, h⟩ => by
    show wpAny _ _ (dictSize d >>= _) _ _ s
    unfold dictSize
    refine wpAny_bind (wpAny_bind (wpAny_dictEntries hm hdt (wpAny_pure ?_)))
    show wpAny _ _ (Builtin.Dict.pendingCount d >>= _) _ _ s
    refine wpAny_bind (wpAny_pendingCount_other lo (wpAny_ret_mkInt ?_))
    rw [Nat.add_zero]
    exact h
  refine Calls.call_function_entry kind_len plain_len entry_len (args_len1 _) ?_
  unfold Builtin.«len»
  refine wpAny_bind (m := oneArg "len" _) (wpAny_pure (wpAny_bind (m := callSpecial? (.ref d) (Str.ofString "__len__")) (wpAny_callSpecial?_slot (name := Str.ofString "__len__") hT PySem.F.slot_dict_len
    (call_meetsIn PySem.F.slot_dict_len hT PySem.F.entry_dict_len (PySem.F.args_dict_len_1 _) M ⟨ho, ?_⟩))))
  show wpAny _ _ _ _ _ { s with toks := s.toks + 1 }
  refine wpAny_bind (wpAny_holding (wpAny_pure (wpAny_bind (wpAny_letGo ?_))))
  show wpAny _ _ (if ((es.size : Nat) : Int) < 0 then _ else _) _ _ _
  rw [if_neg (by omega)]
  show wpAny _ _ (if ((es.size : Nat) : Int) ≥ 2 ^ 63 then _ else _) _ _ _
  rw [if_neg (by omega)]
  exact wpAny_bind (wpAny_mkInt (wpAny_pure ⟨_, rfl, h _ _⟩))
theorem call_lenT : CallR X (.builtin "len") (fun xs H Q => ∃ a kvs, xs = [V.ref a] ∧ H a = some (.dT kvs) ∧ Q (.int kvs.length) H) := by
  intro pins s σ H xs us Q I r h
  obtain ⟨a, kvs, rfl, ha, q⟩ := h
  obtain ⟨u, rfl, ru⟩ := vals1 r
  cases ru
  obtain ⟨z, lo, ens, pr, o, es, ep, ho, hx, hdt, he, _⟩ := I.hok a _ ha
  have l1 : es.size = ens.length := size_of_entries he
  have l2 : kvs.length = ens.length := Paired.length pr
  refine len_dT lo ho hx hdt (by omega) fun t tk => ⟨.int kvs.length, H, I.tok tk, ⟨t, by rw [l1, ← l2]⟩, q⟩
@[irreducible] def eLenD (i : Nat) : ME := fun ρ h => match ρ[i]? with
  | some (.dT kss) => some (.int kss.length, h)
  | some (.dK ks) => some (.int ks.length, h)
  | _ => none
theorem se_lenT (i : Nat) (hg : Gl X "len") (hm : X.mg "len" = none) (hN : X.N[i]? = some x := by rfl) (hvis : Vis X.env.scope x := by first | exact Or.inl rfl | exact Or.inr (Or.inl rfl) | exact Or.inr (Or.inr rfl)) (hd : (x == ("__debug__" : Str)) = false := by decide) (hcd : (x == ("__classdict__" : Str)) = false := by decide)
    (he : starEach [.Name x p] X.env = (false, eval (.Name x p) X.env) :: starEach [] X.env := by rfl) : SE X (.Call (.Name "len" pos') [.Name x p] [] pos) (eLenD i) := by
  have both : CallR X (.builtin "len") (fun xs H Q => (∃ a kvs, xs = [V.ref a] ∧ H a = some (.dT kvs) ∧ Q (.int kvs.length) H) ∨ ∃ a kvs, xs = [V.ref a] ∧ H a = some (.dK kvs) ∧ Q (.int kvs.length) H) := by
    intro pins s σ H xs us Q I r h
    rcases h with h | h
    · exact call_lenT pins s σ H xs us Q I r h
    · exact call_lenD pins s σ H xs us Q I r h
  refine .mk _ (pe_callB both hg hm PySem.boot_len (pa_cons (pe_var hN hvis hd hcd) pa_nil he) (by decide) (by decide) he rfl) fun σ H F G C ρ h d h' Q h0 er e q => ?_
  unfold eLenD at e
  split at e
  · rename_i kss ei
    cases e
    obtain ⟨a, kvs, si, ga, hk⟩ := er.2 i _ ei
    refine ⟨_, si, .inl ⟨a, kvs, rfl, h0.gh _ _ ga, ?_⟩⟩
    have : kvs.length = kss.length := by rw [← hk, List.length_map]
    rw [this]
    exact q _ H F G C (.refl h0) (.int _)
  · rename_i ks ei
    cases e
    obtain ⟨a, kvs, si, ga, hk⟩ := er.2 i _ ei
    refine ⟨_, si, .inr ⟨a, kvs, rfl, h0.gh _ _ ga, ?_⟩⟩
    have : kvs.length = ks.length := by rw [← hk, List.length_map]
    rw [this]
    exact q _ H F G C (.refl h0) (.int _)
  · cases e
end
end Q
set_option Elab.async false
set_option linter.all false
set_option maxRecDepth 100000
namespace Q
open PySem PySem.Spec PySem.W PyProof.Rows L2
section
variable {X : Cx} {e a b : Expr} {pos p pos' : Pos} {ma mb : ME} {x : Str}
def tyN : D → Option String
  | .none => some "NoneType"
  | .bool _ => some "bool"
  | .int _ => some "int"
  | .str _ => some "str"
  | .list _ => some "list"
  | .tuple _ => some "tuple"
  | .dict _ => none
def rIsi (K : Fg) : List V → Hp → VK → Prop := fun vs H Q => ∃ x T t b, vs = [x, .ty T] ∧ TyOf K H x t ∧ kitOne K t (.type T) = some b ∧ Q (.bl b) H
theorem cr_isi : CallR X (.builtin "isinstance") (rIsi X.K) := by
  intro pins s σ H vs us Q I r h
  obtain ⟨x, T, t, b, rfl, ht, hk, q⟩ := h
  obtain ⟨u, w', rfl, rx, rT⟩ := vals2 r
  cases rT
  exact isinst_ok I rx ht hk fun tk => ⟨.bl b, H, I.tok tk, rfl, q⟩
theorem rl_ty {K : Fg} {F H : Hp} {C : List Addr} {v : V} {d : D} {n : String} (fh : Le F H) (r : Rl K F C v d) (e : tyN d = some n) : TyOf K H v (.type n) := by
  cases r with
  | non => cases e; exact .non
  | bl b => cases e; exact .bl b
  | int i => cases e; exact .int i
  | str x => cases e; exact .str x
  | lst h _ => cases e; exact .lst (fh _ _ h)
  | tup h _ => cases e; exact .tup (fh _ _ h)
  | scr h _ => cases e
  | hd h => cases e
def isiB (T n : String) : Bool := n == T || (T == "int" && n == "bool")
def okT (T : String) : Bool := T == "int" || T == "bool" || T == "str" || T == "tuple" || T == "list"
theorem kit_of (K : Fg) {T : String} (hT : okT T = true) {d : D} {n : String} (e : tyN d = some n) : kitOne K (.type n) (.type T) = some (isiB T n) := by
  simp only [okT, Bool.or_eq_true, beq_iff_eq] at hT
  cases d <;> cases e <;> (rcases hT with (((rfl | rfl) | rfl) | rfl) | rfl <;> rfl)
def gIsi (T : String) : D → Option D := fun d => match tyN d with | none => none | some n => some (.bool (isiB T n))
theorem se_isi {T : Str} {T' : String} (hg : Gl X "isinstance") (hm : X.mg "isinstance" = none) (hgT : Gl X T) (hmT : X.mg T = none) (hvT : bootBuiltins T = some (.type T')) (hT : okT T' = true) (ha : SE X e ma)
    (hnT : T ≠ "__name__" := by decide) (hdT : (T == ("__debug__" : Str)) = false := by decide) (he : starEach [e, .Name T p] X.env = (false, eval e X.env) :: starEach [.Name T p] X.env := by rfl) (he2 : starEach [.Name T p] X.env = (false, eval (.Name T p) X.env) :: starEach [] X.env := by rfl)
    (hpl : (backTo pos (starEach [.Name T p] X.env)).any (·.1) = false := by rfl) : SE X (.Call (.Name "isinstance" pos') [e, .Name T p] [] pos) (eUn (gIsi T') ma) := by
  obtain ⟨t, pt, rt⟩ := ha
  refine .mk _ (pe_callB cr_isi hg hm (by decide +kernel) (pa_cons pt (pa_cons (pe_bltn (v := .ty T') hgT hmT hvT rfl hnT hdT) pa_nil he2) he) (by decide) (by decide) he hpl) fun σ H F G C ρ h d h' Q h0 er e q => ?_
  unfold eUn at e
  split at e
  · cases e
  rename_i y h1 e1
  split at e
  · cases e
  rename_i z e2
  cases e
  unfold gIsi at e2
  split at e2
  · cases e2
  rename_i n en
  cases e2
  exact rt σ H F G C ρ h y _ _ h0 er e1 fun u H1 F1 G1 C1 a1 r1 => ⟨u, T', _, _, rfl, rl_ty a1.r.fh r1 en, kit_of _ hT en, q _ H1 F1 G1 C1 a1 (.bl _)⟩
def gInt : D → Option D
  | .int i => some (.int i)
  | .bool b => some (.int (if b then 1 else 0))
  | _ => none
theorem se_int1 (hg : Gl X "int") (hm : X.mg "int" = none) (ha : SE X e ma) (he : starEach [e] X.env = (false, eval e X.env) :: starEach [] X.env := by rfl) : SE X (.Call (.Name "int" p) [e] [] pos) (eUn gInt ma) := by
  obtain ⟨t, pt, rt⟩ := ha
  refine .mk _ (pe_callTy call_int1 hg hm (by decide +kernel) (pa_cons pt pa_nil he) (by decide) (by decide) he rfl) fun σ H F G C ρ h d h' Q h0 er e q => ?_
  unfold eUn at e
  split at e
  · cases e
  rename_i y h1 e1
  split at e
  · cases e
  rename_i z e2
  cases e
  refine rt σ H F G C ρ h y _ _ h0 er e1 fun u H1 F1 G1 C1 a1 r1 => ?_
  cases y with
  | int i => cases e2; exact .inl ⟨i, by rw [rl_int r1], q _ H1 F1 G1 C1 a1 (.int i)⟩
  | bool b => cases e2; exact .inr ⟨b, by rw [rl_bool r1], q _ H1 F1 G1 C1 a1 (.int _)⟩
  | _ => cases e2
theorem re_2 {K : Fg} {r : List V → Hp → VK → Prop} {g : D → D → Option D} {ta tb : TE} (hr : RO K (fun x y H Q => r [x, y] H Q) g) (ha : RE K ta ma) (hb : RE K tb mb) : RE K (fun σ H Q => tCons ta (tCons tb tNil) σ H fun vs H1 => r vs H1 Q) (eOp g ma mb) :=
  re_op (r := fun x y H Q => r [x, y] H Q) hr ha hb
theorem se_min2 (hc : X.calm = true) (hg : Gl X "min") (hm : X.mg "min" = none) (ha : SE X a ma) (hb : SE X b mb) (he : starEach [a, b] X.env = (false, eval a X.env) :: starEach [b] X.env := by rfl) (he2 : starEach [b] X.env = (false, eval b X.env) :: starEach [] X.env := by rfl) (hpl : (backTo pos (starEach [b] X.env)).any (·.1) = false := by rfl) :
    SE X (.Call (.Name "min" p) [a, b] [] pos) (eOp (gI (fun _ _ => true) fun i j => .int (if j < i then j else i)) ma mb) := by
  obtain ⟨ta, pa, ra⟩ := ha
  obtain ⟨tb, pb, rb⟩ := hb
  refine .mk _ (pe_callB (call_min2 hc) hg hm (by decide +kernel) (pa_cons pa (pa_cons pb pa_nil he2) he) (by decide) (by decide) he hpl) (re_2 (fun x y H F G C h dx dy d Q h0 rx ry e k => ?_) ra rb)
  obtain ⟨i, j, rfl, rfl, _, rfl⟩ := gI_some e
  cases rx; cases ry
  exact ⟨i, j, rfl, k _ H F G (.refl h0) (.int _)⟩
theorem se_max2 (hc : X.calm = true) (hg : Gl X "max") (hm : X.mg "max" = none) (ha : SE X a ma) (hb : SE X b mb) (he : starEach [a, b] X.env = (false, eval a X.env) :: starEach [b] X.env := by rfl) (he2 : starEach [b] X.env = (false, eval b X.env) :: starEach [] X.env := by rfl) (hpl : (backTo pos (starEach [b] X.env)).any (·.1) = false := by rfl) :
    SE X (.Call (.Name "max" p) [a, b] [] pos) (eOp (gI (fun _ _ => true) fun i j => .int (if j > i then j else i)) ma mb) := by
  obtain ⟨ta, pa, ra⟩ := ha
  obtain ⟨tb, pb, rb⟩ := hb
  refine .mk _ (pe_callB (call_max2 hc) hg hm (by decide +kernel) (pa_cons pa (pa_cons pb pa_nil he2) he) (by decide) (by decide) he hpl) (re_2 (fun x y H F G C h dx dy d Q h0 rx ry e k => ?_) ra rb)
  obtain ⟨i, j, rfl, rfl, _, rfl⟩ := gI_some e
  cases rx; cases ry
  exact ⟨i, j, rfl, k _ H F G (.refl h0) (.int _)⟩
def gNeg : D → Option D
  | .int i => some (.int (-i))
  | _ => none
theorem se_neg (ha : SE X a ma) : SE X (.UnaryOp .USub a pos) (eUn gNeg ma) := by
  obtain ⟨t, pt, rt⟩ := ha
  refine .mk _ (pe_un un_neg pt) fun σ H F G C ρ h d h' Q h0 er e q => ?_
  unfold eUn at e
  split at e
  · cases e
  rename_i y h1 e1
  split at e
  · cases e
  rename_i z e2
  cases e
  refine rt σ H F G C ρ h y _ _ h0 er e1 fun u H1 F1 G1 C1 a1 r1 => ?_
  cases y with
  | int i => cases e2; exact ⟨i, rl_int r1, q _ H1 F1 G1 C1 a1 (.int _)⟩
  | _ => cases e2
end
section
variable {prog : Program} {w : World} {A : Around} {E : Value → Shared → Prop} {s : Shared}
theorem exact_tup {t : Addr} {items : Array Value} {Q : Bool → Shared → Prop} (ht : IsTup s.heap t items) (h : Q true s) : wpAny (model prog w) A (Builtin.Tuple.tupleIsExact (.ref t)) Q E s := by
  unfold Builtin.Tuple.tupleIsExact
  exact wpAny_bind (wpAny_typeOf ht.typeIs (wpAny_pure h))
theorem getItem_tuple_whole {t sl : Addr} {items : Array Value} {vl vu : Value} {lo hi : Option Int} {Q : Value → Shared → Prop} (ht : IsTup s.heap t items) (hs : s.heap.IsSliceOf sl vl vu .none) (pl : IsPart vl lo) (pu : IsPart vu hi)
    (hw : HT.sIx items.size 0 lo = 0 ∧ HT.sIx items.size items.size hi = items.size) (h : Q (.ref t) s) : wpAny (model prog w) A (getItem (.ref t) (.ref sl)) Q E s := by
  obtain ⟨os, hos, hcs, hds⟩ := id hs
  have hTs : s.TypeIs (.ref sl) "slice" := ⟨os, hos, hcs⟩
  unfold getItem
  try with_reducible refine wpAny_holding ?_
  first | refine wpAny_bind (wpAny_pure ?_) | skip
  refine wpAny_bind (wpAny_sequenceKey ht.typeIs (by decide) (wpAny_bind (wpAny_callSpecial?_slot (name := Str.ofString "__getitem__") ht.typeIs PyProof.Rows.slot_tuple_getitem
    (wpAny_call_entry PyProof.Rows.slot_tuple_getitem ht.typeIs entry_tuple_getitem ?_ (args_tuple_getitem _ _)))))
  show wpAny _ _ (Builtin.Tuple.tupleItemsOf (.ref t) >>= _) _ _ s
  refine wpAny_bind (tupleItemsOf_ ht (wpAny_bind (wpAny_typeOf hTs ?_)))
  rw [if_pos (by decide)]
  refine wpAny_bind (HT.sliceApplied_gen hs pl pu ?_)
  show wpAny _ _ (if (((HT.sIx items.size 0 lo : Nat) : Int) == 0 && (1 : Int) == 1 && (HT.sIx items.size items.size hi - HT.sIx items.size 0 lo) == items.size) = true then _ else _) _ _ s
  rw [if_pos (by rw [hw.1, hw.2]; simp)]
  refine wpAny_bind (exact_tup ht ?_)
  rw [if_pos rfl]
  exact wpAny_bind (wpAny_rule (wpAny_pure ⟨_, rfl, wpAny_pure h⟩))
theorem places_rev (n : Nat) : Builtin.Slice.slicePlaces ((n : Int) - 1) (-1) (-1) = n := by
  unfold Builtin.Slice.slicePlaces
  rw [if_neg (by decide)]
  by_cases h : (n : Int) - 1 > -1
  · rw [if_pos h]
    have e : ((n : Int) - 1 - -1 - 1) / (- -1) + 1 = (n : Int) := by
      rw [show (- -1 : Int) = 1 by decide, Int.ediv_one]
      omega
    rw [e]
    exact Int.toNat_natCast n
  · rw [if_neg h]
    omega
theorem applied_rev {sl : Addr} {tk : Tok} {n : Nat} {Q : Int × Int × Nat → Shared → Prop} (hs : s.heap.IsSliceOf sl .none .none (.int (-1) tk)) (h : Q ((n : Int) - 1, -1, n) s) : wpAny (model prog w) A (Builtin.Slice.sliceApplied (.ref sl) (pure (n : Int))) Q E s := by
  obtain ⟨os, hos, hcs, hds⟩ := id hs
  unfold Builtin.Slice.sliceApplied Builtin.Slice.sliceFields
  refine wpAny_bind (wpAny_bind (wpAny_field hos hds (x := .none) rfl (wpAny_bind (wpAny_field hos hds (x := .none) rfl (wpAny_bind (wpAny_field hos hds (x := .int (-1) tk) rfl (wpAny_pure (wpAny_bind (slicePart_int ?_)))))))))
  show wpAny _ _ (if ((-1 : Int) == 0) = true then _ else _) _ _ s
  rw [if_neg (by decide)]
  refine wpAny_bind (slicePart_none (wpAny_bind (slicePart_none (wpAny_bind (wpAny_pure ?_)))))
  show wpAny _ _ (pure ((n : Int) - 1, (-1 : Int), Builtin.Slice.slicePlaces ((n : Int) - 1) (-1) (-1))) _ _ s
  rw [places_rev]
  exact wpAny_pure h
theorem fmap_congr {α β : Type} {f g : α → Option β} : ∀ {l : List α}, (∀ x ∈ l, f x = g x) → l.filterMap f = l.filterMap g
  | [], _ => rfl
  | x :: r, h => by
    have e := h x List.mem_cons_self
    have ih := fmap_congr fun y hy => h y (List.mem_cons_of_mem x hy)
    cases q : g x with
    | none => rw [List.filterMap_cons_none (e.trans q), List.filterMap_cons_none q, ih]
    | some z => rw [List.filterMap_cons_some (e.trans q), List.filterMap_cons_some q, ih]
theorem pick_rev (xs : Array Value) : ((List.range xs.size).filterMap fun (m : Nat) => xs[(((xs.size : Int) - 1) + (m : Int) * (-1)).toNat]?).toArray = xs.toList.reverse.toArray := by
  congr 1
  have e1 : ((List.range xs.size).filterMap fun (m : Nat) => xs[(((xs.size : Int) - 1) + (m : Int) * (-1)).toNat]?) = ((List.range xs.size).map (fun k => xs.size - 1 - k)).filterMap (xs[·]?) := by
    rw [List.filterMap_map]
    refine fmap_congr fun m hm => ?_
    have := List.mem_range.mp hm
    show xs[(((xs.size : Int) - 1) + (m : Int) * (-1)).toNat]? = xs[xs.size - 1 - m]?
    congr 1
    omega
  rw [e1, krv_range, List.filterMap_reverse, krv_all]
theorem getItem_tuple_rev {t sl : Addr} {items : Array Value} {tk : Tok} {Q : Value → Shared → Prop} (ht : IsTup s.heap t items) (hs : s.heap.IsSliceOf sl .none .none (.int (-1) tk)) (hz : items.size ≤ sizeLine)
    (h : Q (.ref s.heap.objs.size) { s with heap := s.heap.push { cls := .type "tuple", data := .seq items.toList.reverse.toArray } }) : wpAny (model prog w) A (getItem (.ref t) (.ref sl)) Q E s := by
  obtain ⟨os, hos, hcs, hds⟩ := id hs
  have hTs : s.TypeIs (.ref sl) "slice" := ⟨os, hos, hcs⟩
  unfold getItem
  try with_reducible refine wpAny_holding ?_
  first | refine wpAny_bind (wpAny_pure ?_) | skip
  refine wpAny_bind (wpAny_sequenceKey ht.typeIs (by decide) (wpAny_bind (wpAny_callSpecial?_slot (name := Str.ofString "__getitem__") ht.typeIs PyProof.Rows.slot_tuple_getitem
    (wpAny_call_entry PyProof.Rows.slot_tuple_getitem ht.typeIs entry_tuple_getitem ?_ (args_tuple_getitem _ _)))))
  show wpAny _ _ (Builtin.Tuple.tupleItemsOf (.ref t) >>= _) _ _ s
  refine wpAny_bind (tupleItemsOf_ ht (wpAny_bind (wpAny_typeOf hTs ?_)))
  rw [if_pos (by decide)]
  refine wpAny_bind (applied_rev hs ?_)
  show wpAny _ _ (if (((items.size : Int) - 1) == 0 && (-1 : Int) == 1 && items.size == items.size) = true then _ else _) _ _ s
  have hno : ¬ ((((items.size : Int) - 1) == 0 && (-1 : Int) == 1 && items.size == items.size) = true) := by
    rw [show ((-1 : Int) == 1) = false by decide, Bool.and_false, Bool.false_and]
    exact Bool.false_ne_true
  rw [if_neg hno, pick_rev]
  have htake : sizeOk (.seq items.toList.reverse.toArray) := by
    show items.toList.reverse.toArray.size ≤ sizeLine
    rw [List.size_toArray, List.length_reverse, Array.length_toList]
    exact hz
  first
    | exact wpAny_bind (m := Builtin.Tuple.tupleExact _) (wpAny_newObj_type (wpAny_pure ⟨_, rfl, wpAny_pure h⟩) htake)
    | exact wpAny_bind (m := Builtin.Tuple.tupleExact _) (wpAny_newObj_type (wpAny_bind (wpAny_pure (wpAny_pure ⟨_, rfl, wpAny_pure h⟩))) htake)
    | exact wpAny_bind (wpAny_bind (m := Builtin.Tuple.tupleExact _) (wpAny_newObj_type (wpAny_pure (wpAny_pure ⟨_, rfl, wpAny_pure h⟩)) htake))
    | exact wpAny_bind (wpAny_bind (m := Builtin.Tuple.tupleExact _) (wpAny_newObj_type (wpAny_pure ⟨_, rfl, wpAny_pure h⟩) htake))
end
section
variable {X : Cx} {e st : Expr} {pos p2 : Pos} {mq : MQ}
def rSlW (K : Fg) : V → Option Int → Option Int → Hp → VK → Prop := fun x lo hi H Q => ∃ a xs, x = .ref a ∧ SqT K H a xs ∧ (HT.sIx xs.length 0 lo = 0 ∧ HT.sIx xs.length xs.length hi = xs.length) ∧ Q (.ref a) H
theorem sl_whole : L2.SlR X (rSlW X.K) := by
  intro pins s σ H x v vl vu lo hi sl Q I rx hs pl pu h
  obtain ⟨a, xs, rfl, hx, hw, q⟩ := h
  cases rx
  obtain ⟨its, r, ht, hz⟩ := I.tuple hx
  have hlen : its.toArray.size = xs.length := by rw [List.size_toArray]; exact (L2.Vals.length r).symm
  exact ⟨"tuple", _, PyProof.Rows.slot_tuple_getitem.lookup, ht.typeIs, getItem_tuple_whole ht hs pl pu (by rw [hlen]; exact hw) ⟨.ref a, H, I, rfl, q⟩⟩
abbrev MO := Rho → Hq → Option (Option Int × Hq)
def RPt (K : Fg) (t : TO) (m : MO) : Prop := ∀ (σ : L2.St) (H F G : Hp) (C : List Addr) (ρ : Rho) (h : Hq) (o : Option Int) (h' : Hq) (Q : Option Int → Hp → Prop), HR K F G C h H → ER K F G C ρ σ → m ρ h = some (o, h') →
  (∀ H' F' G' C', Aft K F G C F' G' C' h' H' → Q o H') → t σ H Q
inductive SPt (X : Cx) (e : Option Expr) (m : MO) : Prop
  | mk (t : TO) (p : PO X e t) (r : RPt X.K t m)
@[irreducible] def oNo : MO := fun _ h => some (none, h)
@[irreducible] def oYes (a : ME) : MO := fun ρ h => match a ρ h with | some (.int i, h1) => some (some i, h1) | _ => none
theorem sp_no : SPt X none oNo := .mk _ po_none fun σ H F G C ρ h o h' Q h0 er e q => by
  unfold oNo at e
  cases e
  exact q H F G C (.refl h0)
theorem sp_yes {ma : ME} (ha : SE X e ma) : SPt X (some e) (oYes ma) := by
  obtain ⟨t, pt, rt⟩ := ha
  refine .mk _ (po_some pt) fun σ H F G C ρ h o h' Q h0 er e q => ?_
  unfold oYes at e
  split at e
  · rename_i i h1 e1
    cases e
    exact rt σ H F G C ρ h _ _ _ h0 er e1 fun u H1 F1 G1 C1 a1 r1 => ⟨i, rl_int r1, q H1 F1 G1 C1 a1⟩
  · cases e
def cutD (xs : List D) (lo hi : Option Int) : List D := (xs.drop (HT.sIx xs.length 0 lo)).take (HT.sIx xs.length xs.length hi - HT.sIx xs.length 0 lo)
@[irreducible] def eSl (q : MQ) (lo hi : MO) : ME := fun ρ h => match q ρ h with
  | none => none
  | some (k, ds, h1) => match lo ρ h1 with
    | none => none
    | some (l, h2) => match hi ρ h2 with
      | none => none
      | some (u, h3) => some (if k then .tuple (cutD ds l u) else .list (cutD ds l u), h3)
theorem Rls.cut {K : Fg} {F : Hp} {C : List Addr} {vs : List V} {ds : List D} (r : Rls K F C vs ds) (lo hi : Option Int) : Rls K F C (cutV vs lo hi) (cutD ds lo hi) := by
  unfold cutV cutD
  rw [r.length]
  exact (r.drop _).take _
theorem cut_whole {ds : List D} {lo hi : Option Int} (h : HT.sIx ds.length 0 lo = 0 ∧ HT.sIx ds.length ds.length hi = ds.length) : cutD ds lo hi = ds := by
  unfold cutD
  rw [h.1, h.2, List.drop_zero, Nat.sub_zero, List.take_length]
theorem se_sl {lo hi : Option Expr} {ml mh : MO} (ha : SQ X e mq) (hl : SPt X lo ml) (hh : SPt X hi mh) : SE X (.Subscript e (.Slice lo hi none p2) pos) (eSl mq ml mh) := by
  obtain ⟨t, pt, rt⟩ := ha
  obtain ⟨t1, p1, r1⟩ := hl
  obtain ⟨t2, p2, r2⟩ := hh
  refine .mk _ (pe_slice ((sl_list.or sl_tup).or sl_whole) pt p1 p2) fun σ H F G C ρ h d h' Q h0 er e q => ?_
  unfold eSl at e
  split at e
  · cases e
  rename_i k ds ha e1
  split at e
  · cases e
  rename_i l hb e2
  split at e
  · cases e
  rename_i u hc e3
  cases e
  refine rt σ H F G C ρ h k ds ha _ h0 er e1 fun a vs H1 F1 G1 C1 a1 s1 rs => ?_
  refine r1 σ H1 F1 G1 C1 ρ ha l hb _ a1.r (er.le a1.f a1.g a1.c) e2 fun H2 F2 G2 C2 a2 => ?_
  refine r2 σ H2 F2 G2 C2 ρ hb u _ _ a2.r (er.le (a1.f.trans a2.f) (a1.g.trans a2.g) (a1.c.trans a2.c)) e3 fun H3 F3 G3 C3 a3 => ?_
  have s3 := s1.up (a2.f.trans a3.f) (a2.g.trans a3.g)
  have r3 := rs.le (a2.f.trans a3.f) (a2.c.trans a3.c)
  have aa := (a1.trans a2).trans a3
  have hlen := r3.length
  cases k with
  | false =>
    refine .inl (.inl ⟨a, vs, rfl, sqL_le a3.r.gh s3, fun p hp => ?_⟩)
    obtain ⟨a4, r4⟩ := newLst a3.r hp (r3.cut l u)
    exact q _ _ _ _ _ (aa.trans a4) r4
  | true =>
    have st : SqT X.K H3 a vs := SqT.of (a3.r.fh _ _ s3)
    by_cases hw : HT.sIx vs.length 0 l = 0 ∧ HT.sIx vs.length vs.length u = vs.length
    · refine .inr ⟨a, vs, rfl, st, hw, ?_⟩
      rw [hlen] at hw
      have := q (.ref a) H3 F3 G3 C3 aa
      rw [cut_whole hw] at this
      exact this (.tup s3 r3)
    · refine .inl (.inr ⟨a, vs, rfl, st, hw, fun p hp => ?_⟩)
      obtain ⟨a4, r4⟩ := newTup a3.r hp (r3.cut l u)
      exact q _ _ _ _ _ (aa.trans a4) r4
@[irreducible] def eRev (q : MQ) : ME := fun ρ h => match q ρ h with
  | some (true, ds, h1) => some (.tuple ds.reverse, h1)
  | _ => none
theorem Rls.rev {K : Fg} {F : Hp} {C : List Addr} : ∀ {vs : List V} {ds : List D}, Rls K F C vs ds → Rls K F C vs.reverse ds.reverse
  | _, _, .nil => .nil
  | _, _, .cons h t => by
    rw [List.reverse_cons, List.reverse_cons]
    exact (Rls.rev t).append (.cons h .nil)
theorem valsRev : ∀ {xs : List V} {us : List Value}, Vals xs us → Vals xs.reverse us.reverse
  | _, _, .nil => .nil
  | _, _, .cons h t => by
    rw [List.reverse_cons, List.reverse_cons]
    exact L2.Vals.append (valsRev t) (.cons h .nil)
theorem se_rev {i j : Pos} {jj : Nat} (ha : SQ X e mq) : SE X (.Subscript e (.Slice none none (some (.UnaryOp .USub (.Constant (.int 1) jj i) j)) p2) pos) (eRev mq) := by
  obtain ⟨t, pt, rt⟩ := ha
  refine .mk (fun σ H Q => t σ H fun x H1 => ∃ a xs, x = .ref a ∧ SqT X.K H1 a xs ∧ ∀ p, H1 p = none → Q (.ref p) (upd H1 p (.tup xs.reverse))) (fun pins s σ H Q I h => ?_) fun σ H F G C ρ h d h' Q h0 er e q => ?_
  · refine Subscript_ (thn (pt pins s σ H _ I h) fun v s1 ⟨x, H1, I1, r1, a, xs, ex, hx, q1⟩ => ?_)
    subst ex
    cases r1
    refine wpAny_Slice ?_
    rw [evalPart_none, evalPart_some]
    refine wpAny_pure (wpAny_pure (thn (pe_un un_neg pe_int pins s1 σ H1 (fun y H2 => y = V.int (-1) ∧ H2 = H1) I1 ⟨1, rfl, rfl, rfl⟩) fun u s2 ⟨y, H2, I2, r2, ey, eH⟩ => ?_))
    subst ey eH
    obtain ⟨tk, rfl⟩ := r2
    have I4 : Inv X pins σ H2 { s2 with heap := s2.heap.push { cls := .type "slice", data := .fields #[.none, .none, .int (-1) tk] } } := I2.kept (t' := s2.toks) fun b ob q => Heap.get?_push_of_some _ q
    obtain ⟨its, r, ht, hz⟩ := I4.tuple hx
    show wpAny (model X.prog X.w) X.A (subscriptTail e _ (.ref a) (.ref s2.heap.objs.size)) (EP X pins σ Q) X.xe _
    have hlen := L2.Vals.length r
    refine tail_any (ops := [.ref a, .ref s2.heap.objs.size]) ht.typeIs PyProof.Rows.slot_tuple_getitem.lookup (getItem_tuple_rev (tk := tk) ht (Heap.IsSliceOf.new ..) (by rw [List.size_toArray, ← hlen]; exact hz) ?_) (by with_unfolding_all rfl)
    refine ⟨.ref _, _, I4.laid (t' := s2.toks) (o := .tup xs.reverse) (fun b ob q => Heap.get?_push_of_some _ q) (Nat.le_refl _) ?_, rfl, q1 _ (I4.hok.fresh (Nat.le_refl _))⟩
    exact ⟨by rw [List.length_reverse]; exact hz, _, valsRev r, IsTD.new _ _⟩
  · unfold eRev at e
    split at e
    · rename_i ds h1 e1
      cases e
      refine rt σ H F G C ρ h true ds _ _ h0 er e1 fun a vs H1 F1 G1 C1 a1 s1 rs => ⟨a, vs, rfl, SqT.of (a1.r.fh _ _ s1), fun p hp => ?_⟩
      obtain ⟨a4, r4⟩ := newTup a1.r hp rs.rev
      exact q _ _ _ _ _ (a1.trans a4) r4
    · cases e
end
end Q
set_option Elab.async false
set_option linter.all false
set_option maxRecDepth 100000
namespace Q
open PySem PySem.Spec PySem.W PyProof.Rows L2
theorem runs_gens {M : Model} {C : PySem.Ctx} {p : Pos} {t : Sem Fin} {fs : List Frame} {s s' : Shared} {e : End} (h : Runs M C p t fs s e s') : s.gens.size ≤ s'.gens.size := by
  induction h <;> (try simp only [Shared.setGen, Array.size_push, Array.size_setIfInBounds] at *) <;> omega
theorem wakes_gens {M : Model} {C : PySem.Ctx} {p : Pos} {g : Nat} {r : Resume} {s s' : Shared} {res : GenResult} (h : Wakes M C p g r s res s') : s.gens.size ≤ s'.gens.size := by
  have z : ∀ (s : Shared) x, (s.setGen g x).gens.size = s.gens.size := fun s x => by simp [Shared.setGen]
  unfold Wakes at h
  split at h
  · exact h.elim
  · split at h
    · obtain ⟨e1, s1, hr, _, _, rfl⟩ := h
      have := runs_gens hr
      rw [z] at this ⊢
      exact this
    · rw [h.2]; exact Nat.le_refl _
    · rw [h.2, z]; exact Nat.le_refl _
  · obtain ⟨e1, s1, hr, _, _, rfl⟩ := h
    have := runs_gens hr
    rw [z] at this ⊢
    exact this
  · rw [h.2]; exact Nat.le_refl _
  · rw [h.2]; exact Nat.le_refl _
theorem wp_gens {α : Type} (M : Model) (C : PySem.Ctx) (n : Nat) (t : Sem α) : ∀ (Q : α → Pos → Shared → Prop) (E : Value → Pos → Shared → Prop) (p : Pos) (s : Shared), n ≤ s.gens.size → Sem.wp M C t Q E p s →
    Sem.wp M C t (fun a p' s' => n ≤ s'.gens.size ∧ Q a p' s') (fun e p' s' => n ≤ s'.gens.size ∧ E e p' s') p s := by
  induction t with
  | pure a => intro Q E p s hn h; exact ⟨hn, h⟩
  | raise e => intro Q E p s hn h; exact ⟨hn, h⟩
  | unsupported _ => intro Q E p s _ h; exact h
  | finish _ => intro Q E p s _ h; exact h
  | rule _ k ih => intro Q E p s hn h; exact ih _ Q E p s hn h
  | «at» p' k ih => intro Q E p s hn h; exact ih _ Q E p' s hn h
  | load a _ k ih => intro Q E p s hn h; exact let ⟨o, ho, h⟩ := h; ⟨o, ho, ih o Q E p s hn h⟩
  | update a _ f k ih => intro Q E p s hn h; exact ⟨h.1, ih _ Q E p _ hn h.2⟩
  | loadIfAlive a k ih => intro Q E p s hn h; exact ih _ Q E p s hn h
  | point _ k ih => intro Q E p s hn h; exact ih _ Q E p s hn h
  | register _ _ => intro Q E p s _ h; exact h
  | alloc o k ih => intro Q E p s hn h; exact ih _ Q E p _ hn h
  | fresh k ih => intro Q E p s hn h; exact ih _ Q E p _ hn h
  | ask k ih => intro Q E p s hn h; exact ih _ Q E p s hn h
  | choose src m k ih => intro Q E p s hn h; exact ⟨h.1, ih _ Q E p _ hn h.2⟩
  | os q _ k ih => intro Q E p s hn h; exact ih _ Q E p _ hn h
  | call c hd _ _ k ih => intro Q E p s hn h; exact let ⟨r, s', hr, h⟩ := h; ⟨r, s', hr, ih r Q E p s' (Nat.le_trans hn (runs_gens hr)) h⟩
  | handled own k ih => intro Q E p s hn h; exact ih _ Q E p s hn h
  | genState g k ih => intro Q E p s hn h; exact let ⟨st, hs, h⟩ := h; ⟨st, hs, ih _ Q E p s hn h⟩
  | newGen c k ih => intro Q E p s hn h; exact ih _ Q E p _ (by simp only [Array.size_push]; omega) h
  | resume g r _ k ih => intro Q E p s hn h; exact let ⟨res, s', hw, h⟩ := h; ⟨res, s', hw, ih res Q E p s' (Nat.le_trans hn (wakes_gens hw)) h⟩
  | yield _ _ _ _ => intro Q E p s _ h; exact h
  | stack k ih => intro Q E p s hn h; exact ih _ Q E p s hn h
  | fork _ _ => intro Q E p s _ h; exact h
  | thread k ih => intro Q E p s hn h; exact ih _ Q E p s hn h
  | await _ _ _ _ _ => intro Q E p s _ h; exact h
theorem any_gens {α : Type} {M : Model} {A : Around} {s : Shared} {t : Sem α} {Q : α → Shared → Prop} {E : Value → Shared → Prop} (h : wpAny M A t Q E s) : wpAny M A t (fun a s' => s.gens.size ≤ s'.gens.size ∧ Q a s') (fun e s' => s.gens.size ≤ s'.gens.size ∧ E e s') s :=
  fun C p hC => wp_gens M C s.gens.size t _ _ p s (Nat.le_refl _) (h C p hC)
def Sg (M : Model) (A : Around) (W : End → Shared → Prop) (c : Code) (t : Sem Fin) (fs : List Frame) (s : Shared) : Prop := ∀ C p, C.code = c → C.Woken A → ∃ e s', Runs M C p t fs s e s' ∧ W e s'
section
variable {M : Model} {A : Around} {W : End → Shared → Prop} {c : Code} {fs : List Frame} {s : Shared}
theorem sg_wrap {α : Type} {m : Sem α} {K : α → Sem Fin} {J : Value → Sem Fin} {gd lv} (h : wpAny M (A.over c fs) m (fun a s' => Sg M A W c (K a) fs s') (fun x s' => Sg M A W c (J x) fs s') s) : Sg M A W c (m.wrap K J gd lv) fs s := by
  intro C p e hC
  subst e
  exact runs_wrap_of_wp K J gd lv m (h (C.over fs) p (hC.over fs)) (fun a p' s' h' => h' C p' rfl hC) fun x p' s' h' => h' C p' rfl hC
theorem sg_bw {α β : Type} {m : Sem α} {K : α → Sem β} {K' : β → Sem Fin} {J : Value → Sem Fin} {gd lv} (h : wpAny M (A.over c fs) m (fun a s' => Sg M A W c ((K a).wrap K' J gd lv) fs s') (fun x s' => Sg M A W c (J x) fs s') s) : Sg M A W c ((m >>= K).wrap K' J gd lv) fs s := by
  rw [Sem.bind_eq_wrap', Sem.wrap_wrap]
  exact sg_wrap h
theorem sg_at {p' : Pos} {k : Unit → Sem Fin} (h : Sg M A W c (k ()) fs s) : Sg M A W c (.at p' k) fs s := sg_wrap (m := standAt p') (K := k) (J := .raise) (gd := id) (lv := id) (wpAny_standAt h)
theorem sg_again {c' : Code} (hq : c'.quiet = true) (h : Sg M A W c' (M.den c') fs s) : Sg M A W c (.pure (.again c')) fs s := by
  intro C p e hC
  subst e
  obtain ⟨e, s', hr, he⟩ := h (C.goto c') p rfl (hC.goto c')
  exact ⟨e, s', Runs.head (c₁ := c') (fun _ _ x => .again hq x) hr, he⟩
theorem sg_end (r : Result) (h : W (.ret r) s) : Sg M A W c (leafOf r) [] s := fun C p e _ => ⟨.ret r, s, Runs.leaf r, h⟩
theorem sg_yield {v g l} {k : Resume → Sem Fin} (h : ∀ p, W (.susp v g l k c p []) s) : Sg M A W c (.yield v g l k) [] s := fun C p e _ => by
  subst e
  exact ⟨_, s, Runs.yield, h p⟩
def GoS (M : Model) (A : Around) (W : End → Shared → Prop) (gs : GenState) (r : Resume) (s : Shared) : Prop :=
  match gs with
  | .fresh c => r = .send .none ∧ Sg M A W c (M.den c) [] s
  | .suspended k _ c _ fs _ => Sg M A W c (k r) fs s
  | _ => False
theorem any_resume {E : Value → Shared → Prop} {g : Nat} {gs : GenState} {r : Resume} {l : List Value} {α : Type} {k : GenResult → Sem α} {Q : α → Shared → Prop} (hg : s.gens[g]? = some gs) (go : GoS M A W gs r (s.setGen g .running))
    (h : ∀ e s1, W e s1 → e.quiet = true ∧ wpAny M A (k e.result) Q E (s1.setGen g e.genState)) : wpAny M A (.resume g r l k) Q E s := by
  intro C p hC
  rw [Sem.wp_resume]
  cases gs with
  | fresh c =>
    obtain ⟨rfl, go⟩ := go
    obtain ⟨e1, s1, hr, he⟩ := go (C.wake c p) p rfl (hC.wake c p)
    exact ⟨_, _, by unfold Wakes; rw [hg]; exact ⟨e1, s1, hr, (h e1 s1 he).1, rfl, rfl⟩, (h e1 s1 he).2 C p hC⟩
  | suspended k0 l0 c0 p0 fs0 cl =>
    obtain ⟨e1, s1, hr, he⟩ := go (C.wake c0 p) p0 rfl (hC.wake c0 p)
    exact ⟨_, _, by unfold Wakes; rw [hg]; exact ⟨e1, s1, hr, (h e1 s1 he).1, rfl, rfl⟩, (h e1 s1 he).2 C p hC⟩
  | running => exact go.elim
  | finished => exact go.elim
end
section
variable {P : Program} {w : World} {A : Around} {E : Value → Shared → Prop} {s : Shared}
def Stp (Z : Shared → Prop) (Y : Value → GenState → Shared → Prop) (e : End) (s : Shared) : Prop :=
  e.quiet = true ∧ match e with
  | .ret r => r = .ok .next ∧ Z s
  | .susp v g l k c p fs => Y v (.suspended k l c p fs (g || fs.any Frame.guarded)) s
theorem any_next {a : Addr} {g : Nat} {gs : GenState} {Z : Shared → Prop} {Y : Value → GenState → Shared → Prop} {Q : Option Value → Shared → Prop} (hh : A.handled = none) (hl : s.heap.NoLimit) (hroom : A.depth < recursionLimit) (hg : s.heap.IsGen a g) (hgs : s.gens[g]? = some gs)
    (go : GoS (model P w) A.in1 (Stp Z Y) gs (.send .none) (s.setGen g .running)) (hY : ∀ v s1 gs', gs'.bare = true → Y v gs' s1 → Q (some v) (s1.setGen g gs'))
    (hZ : ∀ s1, Z s1 → ∀ h', (∀ b o, s1.heap.get? b = some o → h'.get? b = some o) → Q none { s1.setGen g .finished with heap := h' }) : wpAny (model P w) A (pyNext (.ref a)) Q E s := by
  unfold pyNext
  refine wpAny_bind (wpAny_attempt (wpAny_callSpecial?_slot (name := Str.ofString "__next__") hg.typeIs slot_gen_next (wpAny_call_entry slot_gen_next hg.typeIs entry_gen_next ?_ (args_gen_next _))))
  show wpAny _ A.in1 (Builtin.Generator.genWake (.ref a) (.send .none)) _ _ s
  unfold Builtin.Generator.genWake
  refine wpAny_bind (wpAny_holding (wpAny_genNumber hg (wpAny_bind (wpAny_genState hgs ?_))))
  cases gs with
  | running => exact go.elim
  | finished => exact go.elim
  | _ =>
    refine wpAny_bind (wpAny_roomToWake hl hroom ?_)
    show wpAny _ A.in1 (.resume g (.send .none) [] _) _ _ s
    refine any_resume hgs go fun e s1 ⟨qt, he⟩ => ⟨qt, ?_⟩
    cases e with
    | ret r =>
      obtain ⟨rfl, hp⟩ := he
      show wpAny _ A.in1 (newExc (.type "StopIteration") [] >>= _) _ _ _
      refine wpAny_bind ?_
      simp only [newExc, newTuple]
      refine wpAny_bind (wpAny_newObj_type ?_ (by size_fits))
      refine wpAny_bind (m := firstArgMember _ _) (wpAny_of_eq (a := Value.none) (by first | rfl | (simp only [firstArgMember]; rfl)) ?_)
      refine wpAny_newObj_type ?_ (by size_fits)
      simp only [raiseNew]
      refine wpAny_bind (wpAny_bind (wpAny_handled ?_))
      first | rw [show A.in1.handled = none from hh] | rw [hh]
      refine wpAny_throw ?_
      refine wpAny_bind (wpAny_isInstance (T := "StopIteration") (b := true) ⟨_, Heap.get?_push_size _ rfl, rfl⟩ isSubtype_stop ?_)
      exact wpAny_pure (hZ s1 hp _ fun b o hb => Heap.get?_push_of_some _ (Heap.get?_push_of_some _ hb))
    | susp v g l k c p fs => exact wpAny_pure ⟨v, rfl, wpAny_pure (hY v s1 _ (End.bare_of_quiet qt) he)⟩
def GsAt (e : Expr) (it : Value) (env : Env) : GenState → Prop
  | .fresh c => c = .compStart e 0 it .none env
  | .suspended k _ c _ fs _ => c = .compLoop e 0 it .none env ∧ fs = [] ∧ k (.send .none) = .pure (.again (.compLoop e 0 it .none env))
  | _ => False
def GTurn (P : Program) (w : World) (A : Around) (target : Expr) (ifs : List Expr) (elt : Expr) (it : Value) (env : Env) (Z : Shared → Prop) (Y : Value → Shared → Prop) (nx : Shared → Prop) (s : Shared) : Prop :=
  wpAny (model P w) A (pyNext it) (fun r s1 => match r with
    | none => Z s1
    | some v => wpAny (model P w) A (letOwnedTupleGo target it v) (fun _ s2 => wpAny (model P w) A (assign target env v) (fun _ s3 =>
        wpAny (model P w) A (forIn ifs true fun c r => if r = true then do let ok ← isTrue c env (eval c env); pure (ForInStep.yield ok) else pure (ForInStep.yield r)) (fun ok s4 =>
          if ok = true then wpAny (model P w) A (eval elt env) Y (fun _ _ => False) s4 else nx s4) (fun _ _ => False) s3) (fun _ _ => False) s2) (fun _ _ => False) s1) (fun _ _ => False) s
theorem sg_loop {elt target iter : Expr} {ifs : List Expr} {scope : Scope} {pos : Pos} {it : Value} {env : Env} (hco : env.scope.isCoroutine = false) {Z : Shared → Prop} {Y : Value → Shared → Prop} (I : Nat → Shared → Prop)
    (turn : ∀ n s, I n s → GTurn P w (A.over (.compLoop (.GeneratorExp elt [⟨target, iter, ifs, 0⟩] scope pos) 0 it .none env) []) target ifs elt it env Z Y (fun s' => ∃ m, m < n ∧ I m s') s) :
    ∀ n s, I n s → Sg (model P w) A (Stp Z fun v gs s1 => GsAt (.GeneratorExp elt [⟨target, iter, ifs, 0⟩] scope pos) it env gs ∧ Y v s1) (.compLoop (.GeneratorExp elt [⟨target, iter, ifs, 0⟩] scope pos) 0 it .none env)
      ((model P w).den (.compLoop (.GeneratorExp elt [⟨target, iter, ifs, 0⟩] scope pos) 0 it .none env)) [] s := by
  intro n
  induction n using Nat.strongRecOn with
  | ind n ih =>
    intro s hI
    show Sg _ A _ _ ((compTurn (.GeneratorExp elt [⟨target, iter, ifs, 0⟩] scope pos) 0 it .none env).onRaise (leaving env)) [] s
    rw [compTurn_gen, Sem.onRaise_eq_wrap]
    refine sg_bw (wpAny_standAt ?_)
    have no : ∀ {α : Type} {t : Sem α} {Q Q' : α → Shared → Prop} {A' : Around} {E' : Value → Shared → Prop} {s : Shared}, wpAny (model P w) A' t Q (fun _ _ => False) s → (∀ a s, Q a s → Q' a s) → wpAny (model P w) A' t Q' E' s := fun h k => wpAny_mono h k fun _ _ z => z.elim
    refine sg_bw (no (turn n s hI) fun r s1 h1 => ?_)
    cases r with
    | none => exact sg_end (.ok .next) ⟨rfl, rfl, h1⟩
    | some v =>
      refine sg_bw (no h1 fun _ s2 h2 => sg_bw (no h2 fun _ s3 h3 => sg_bw (no h3 fun ok s4 h4 => ?_)))
      cases ok with
      | false =>
        simp only [Bool.false_eq_true, if_false] at h4 ⊢
        obtain ⟨m, hm, hI⟩ := h4
        exact sg_again rfl (ih m hm s4 hI)
      | true =>
        simp only [if_true] at h4 ⊢
        have hy : ∀ v, yieldOut env v = yieldValue v := fun v => by simp only [yieldOut, hco, Bool.false_eq_true, if_false]
        simp only [hy]
        rw [Sem.bind_eq_wrap', Sem.bind_eq_wrap', Sem.wrap_wrap, Sem.wrap_wrap]
        refine sg_wrap (no h4 fun y s5 h5 => ?_)
        exact sg_at (sg_yield fun p => ⟨rfl, ⟨rfl, rfl, rfl⟩, h5⟩)
theorem sg_start {elt target iter : Expr} {ifs : List Expr} {scope : Scope} {pos : Pos} {it : Value} {env : Env} {W : End → Shared → Prop}
    (loop : Sg (model P w) A W (.compLoop (.GeneratorExp elt [⟨target, iter, ifs, 0⟩] scope pos) 0 it .none env) ((model P w).den (.compLoop (.GeneratorExp elt [⟨target, iter, ifs, 0⟩] scope pos) 0 it .none env)) [] s)
    (self : ∀ (A' : Around) (Q : Value → Shared → Prop) (E' : Value → Shared → Prop), Q it s → wpAny (model P w) A' (pyIter it) Q E' s) :
    Sg (model P w) A W (.compStart (.GeneratorExp elt [⟨target, iter, ifs, 0⟩] scope pos) 0 it .none env) ((model P w).den (.compStart (.GeneratorExp elt [⟨target, iter, ifs, 0⟩] scope pos) 0 it .none env)) [] s := by
  show Sg _ A _ _ ((compStart (.GeneratorExp elt [⟨target, iter, ifs, 0⟩] scope pos) 0 it .none env).onRaise (leaving env)) [] s
  unfold compStart
  rw [Sem.onRaise_eq_wrap]
  show Sg _ A _ _ ((ask >>= _).wrap _ _ _ _) [] s
  refine sg_bw (wpAny_askSetting ?_)
  split
  · exact sg_again rfl loop
  · refine sg_bw (wpAny_rule ?_)
    first
      | exact sg_bw (wpAny_standAt (sg_bw (self _ _ _ (sg_again rfl loop))))
      | (show Sg _ A _ _ ((standAt iter.pos >>= _).wrap _ _ _ _) [] s; exact sg_bw (wpAny_standAt (sg_bw (self _ _ _ (sg_again rfl loop)))))
theorem next_gen {elt target iter : Expr} {ifs : List Expr} {scope : Scope} {pos : Pos} {I a : Addr} {env : Env} {g : Nat} {gs : GenState} {Q : Option Value → Shared → Prop} (hco : env.scope.isCoroutine = false) (hh : A.handled = none) (hl : s.heap.NoLimit) (hroom : A.depth < recursionLimit)
    (hg : s.heap.IsGen a g) (hgs : s.gens[g]? = some gs) (at' : GsAt (.GeneratorExp elt [⟨target, iter, ifs, 0⟩] scope pos) (.ref I) env gs) {Z : Shared → Prop} {Y : Value → Shared → Prop} (J : Nat → Shared → Prop)
    (turn : ∀ n s, J n s → GTurn P w (A.in1.over (.compLoop (.GeneratorExp elt [⟨target, iter, ifs, 0⟩] scope pos) 0 (.ref I) .none env) []) target ifs elt (.ref I) env Z Y (fun s' => ∃ m, m < n ∧ J m s') s)
    (n : Nat) (h0 : J n (s.setGen g .running)) (self : ∀ (A' : Around) (Q : Value → Shared → Prop) (E' : Value → Shared → Prop), Q (.ref I) (s.setGen g .running) → wpAny (model P w) A' (pyIter (.ref I)) Q E' (s.setGen g .running))
    (hY : ∀ v s1 gs', gs'.bare = true → GsAt (.GeneratorExp elt [⟨target, iter, ifs, 0⟩] scope pos) (.ref I) env gs' → Y v s1 → Q (some v) (s1.setGen g gs'))
    (hZ : ∀ s1, Z s1 → ∀ h', (∀ b o, s1.heap.get? b = some o → h'.get? b = some o) → Q none { s1.setGen g .finished with heap := h' }) : wpAny (model P w) A (pyNext (.ref a)) Q E s := by
  have loop := sg_loop (A := A.in1) hco J turn n _ h0
  refine any_next (Y := fun v gs s1 => GsAt (.GeneratorExp elt [⟨target, iter, ifs, 0⟩] scope pos) (.ref I) env gs ∧ Y v s1) hh hl hroom hg hgs ?_ (fun v s1 gs' hb hy => hY v s1 gs' hb hy.1 hy.2) hZ
  cases gs with
  | fresh c =>
    have e : c = _ := at'
    subst e
    exact ⟨rfl, sg_start loop self⟩
  | suspended k l c p fs cl =>
    obtain ⟨e1, e2, e3⟩ := at'
    subst e1
    subst e2
    show Sg _ _ _ _ (k (.send .none)) [] _
    rw [e3]
    exact sg_again rfl loop
  | running => exact at'.elim
  | finished => exact at'.elim
end
end Q
set_option Elab.async false
set_option linter.all false
set_option maxRecDepth 100000
namespace Q
open PySem PySem.Spec PySem.W PyProof.Rows L2
abbrev gbk (X : Cx) (A : Around) (s : Shared) (H : Hp) (ce : Env) (fp : List Addr) : Cx := { X with A := A, s_0 := s, H_0 := H, env := ce, outer := X.stack, stack := ce :: X.stack, ex := fp, fn := fun _ => false, pn := [], xe := fun _ _ => False }
structure GBlk (N : List Str) (sc scope : Scope) (own : List (Str × Nat)) : Prop extends BlkOk N sc scope own where
  noc : ∀ y ∈ scope.names, y.2 ≠ .cell
  co : scope.isCoroutine = false
  dot : scope.names.lookup (".0" : Str) = some NameKind.local
section
variable {X : Cx} {pins : List (Addr × Obj)} {σ : L2.St} {H : Hp} {s : Shared}
theorem gens_ok {g' : Array GenState} (I : Inv X pins σ H s) (hg : AllBare g') : Inv X pins σ H { s with gens := g' } := by
  have := I.step (g' := g') (t' := s.toks) (d' := s.drawn) (ch := []) (h' := s.heap) (H' := H) (fun _ z => nomatch z) (fun b o _ _ _ e _ => e) (fun b o _ _ _ e _ => ⟨o.slots, e⟩) (fun _ _ _ _ n => n) (fun b o _ e => ⟨o, e⟩) (fun _ _ e => e) (fun _ _ _ e => e) (fun b ps e => ⟨#[], by rw [e]; simp⟩) (fun m hm => hm) I.hok hg
  exact this
theorem bare_set {a : Array GenState} {g : Nat} {x : GenState} (h : AllBare a) (hx : x.bare = true) : AllBare (a.setIfInBounds g x) := fun y hy => by
  obtain ⟨i, hi, e⟩ := Array.mem_iff_getElem.mp hy
  rw [Array.size_setIfInBounds] at hi
  rw [Array.getElem_setIfInBounds hi] at e
  split at e
  · rw [← e]; exact hx
  · rw [← e]; exact h _ (Array.getElem_mem hi)
theorem setGen_inv {g : Nat} {x : GenState} (I : Inv X pins σ H s) (hx : x.bare = true) : Inv X pins σ H (s.setGen g x) := gens_ok I (bare_set I.bare hx)
theorem setGen_get {g : Nat} {x : GenState} (h : g < s.gens.size) : (s.setGen g x).gens[g]? = some x := by simp [Shared.setGen, h]
theorem setGen_size {g : Nat} {x : GenState} : (s.setGen g x).gens.size = s.gens.size := by simp [Shared.setGen]
theorem gen_start {A : Around} {scope : Scope} {own : List (Str × Nat)} {fp : List Addr} {code : Value} {it : Value} {h' : Heap} {go : Obj} {tk : Nat} {gs : Array GenState} (I : Inv X pins σ H s) (ok : GBlk X.N X.env.scope scope own) (hN : X.N.Nodup) (hfp : ∀ b ∈ fp, FpOk X pins H b ∧ b < s.heap.objs.size)
    (hA : X.calm = true → A.handled = none) (hf : A.frames = some (genEnv scope (cloFrom X.env.cells scope.names []) s.heap.objs.size code builtinsNs X.env :: X.stack))
    (hn : h'.Ns s.heap.objs.size (fun y => if y = ".0" then some it else none)) (hs : Heap.SameBut s.heap.objs.size (s.heap.push { cls := .type "frame", data := .dict #[] }) h') (hgd : ∀ v, go.data ≠ .cell v) (hgf : go.isFreed = false) (hg : AllBare gs) :
    Inv (gbk X A s H (genEnv scope (cloFrom X.env.cells scope.names []) s.heap.objs.size code builtinsNs X.env) fp) [(h'.objs.size, go)] (wipe σ (own.map (·.2))) H { s with heap := h'.push go, toks := tk, gens := gs } := by
  have hfree : ∀ y ∈ scope.names, y.2 = .free → ∃ c, X.env.cells.lookup y.1 = some c := fun y hy e => by
    rcases ok.free y hy e with k | k
    · exact I.ok.has _ (.inl k)
    · exact I.ok.has _ (.inr k)
  generalize hce : genEnv scope (cloFrom X.env.cells scope.names []) s.heap.objs.size code builtinsNs X.env = ce at hf ⊢
  have hsz : h'.objs.size = s.heap.objs.size + 1 := by rw [hs.1, Heap.size_push]
  have kp : ∀ b o, s.heap.get? b = some o → (h'.push go).get? b = some o := fun b o e => Heap.get?_push_of_some _ (hs.extBut b o (Nat.ne_of_lt (Heap.lt_size e)) (Heap.get?_push_of_some _ e))
  have hL : ce.locals = s.heap.objs.size := by rw [← hce]; rfl
  have hcl : ce.cells = cloFrom X.env.cells scope.names [] := by rw [← hce]; rfl
  have hsc : ce.scope = scope := by rw [← hce]; rfl
  have hfrm : ce.frame = some ce.locals := by rw [← hce]; rfl
  have cm : ∀ {y c}, ce.cells.lookup y = some c → X.env.cells.lookup y = some c ∧ c < s.heap.objs.size := fun {y c} hm => by
    rw [hcl] at hm
    rcases cloFrom_mem (PySem.mem_of_lookup hm) with hm | ⟨h1, rfl⟩
    · cases hm
    · obtain ⟨c, hc⟩ := hfree _ h1 rfl
      rw [hc]
      obtain ⟨w, z⟩ := I.cell _ _ hc
      exact ⟨rfl, z.lt⟩
  have look : ∀ {y}, scope.names.lookup y = some .free → ∃ c, ce.cells.lookup y = some c ∧ X.env.cells.lookup y = some c := fun {y} hl => by
    have hy : (y, NameKind.free) ∈ scope.names := PySem.mem_of_lookup hl
    obtain ⟨c', e'⟩ := mem_lookup (cloFrom_has (cells := X.env.cells) (acc := []) hy)
    rw [← hcl] at e'
    exact ⟨c', e', (cm e').1⟩
  have okB : (gbk X A s H ce fp).Ok := by
    refine ⟨I.ok.mod, by show ce.scope.kind = _; rw [hsc]; exact ok.kind, by show ce.globals = _; rw [← hce]; exact I.ok.glob, by show ce.builtins = _; rw [← hce]; rfl, by show s.heap.objs.size ≤ ce.locals; rw [hL]; exact Nat.le_refl _,
      fun y z c e1 e2 => I.ok.inj y z c (cm e1).1 (cm e2).1, fun y hy => ?_, fun y c z e => (nomatch z), hA, hf, .inr ⟨rfl, hfrm⟩, fun b hb => ⟨?_, fun y c e z => ?_⟩, I.bs, Nat.le_trans I.ok.bsz I.sz, fun b o e hb => ?_, fun b hb z => ?_, I.stack, I.stkFree⟩
    · have hy' : scope.names.lookup y = some .cell ∨ scope.names.lookup y = some .free := by
        have hy : ce.kindOf y = some .cell ∨ ce.kindOf y = some .free := hy
        unfold Env.kindOf at hy
        rw [hsc] at hy
        exact hy
      rcases hy' with e | e
      · exact absurd rfl (ok.noc _ (PySem.mem_of_lookup e))
      · obtain ⟨c, h1, _⟩ := look e
        exact ⟨c, h1⟩
    · show b ≠ ce.locals
      rw [hL]; exact Nat.ne_of_lt (hfp b hb).2
    · exact (hfp b hb).1.2.2.2.2.1 y c (cm e).1 z
    · rcases (hfp b hb).1.2.2.2.1 with z | z
      · exact I.ok.noex b o e z
      · exact absurd (Nat.lt_of_lt_of_le (Heap.lt_size e) (Nat.le_trans I.ok.bsz z)) (Nat.lt_irrefl _)
    · rcases List.mem_cons.mp (I.stkSub b z) with z | z
      · exact (hfp b hb).1.2.1 z
      · exact (hfp b hb).1.2.2.1 z
  refine ⟨okB, rfl, hg, Un.kept kp, ⟨fun y => if y = ".0" then some it else none, ?_, fun i y av e1 e2 e3 => ?_⟩, fun y c e => ?_, ?_, fun y c e => ?_, fun p hp => ?_, I.hok.kept kp, by rw [wipe_length]; exact I.len⟩
  · show Heap.Ns _ ce.locals _
    rw [hL]
    exact hn.push _
  · obtain ⟨e2, hne⟩ := wipe_some e2
    have hfr : scope.names.lookup y = some .free := by
      have e3 : Vis ce.scope y := e3
      rw [hsc] at e3
      have no : ∀ k, scope.names.lookup y = some k → ¬ (k = .local ∨ k = .cell) := fun k hk hh => by
        rcases ok.own _ (PySem.mem_of_lookup hk) hh with e' | e'
        · obtain ⟨p, hp, hpy⟩ := List.mem_map.mp e'
          have e3 := ok.ix p hp
          have : p.1 = y := hpy
          rw [this] at e3
          exact hne (List.mem_map.mpr ⟨p, hp, nodup_ix hN e3 e1⟩)
        · exact e' (List.mem_of_getElem? e1)
      rcases e3 with e3 | e3 | e3
      · exact absurd (.inl rfl) (no _ e3)
      · exact absurd (.inr rfl) (no _ e3)
      · exact e3
    obtain ⟨m, hn, hl⟩ := I.loc
    have hvis : Vis X.env.scope y := (ok.free _ (PySem.mem_of_lookup hfr) rfl).elim (fun k => .inr (.inl k)) (fun k => .inr (.inr k))
    obtain ⟨w, r, q⟩ := hl i y av e1 e2 hvis
    refine ⟨w, r, .inr ⟨.inr (by show ce.kindOf y = _; unfold Env.kindOf; rw [hsc]; exact hfr), ?_⟩⟩
    obtain ⟨c, h1, h2⟩ := look hfr
    rcases q with ⟨k, _⟩ | ⟨_, c', e', z⟩
    · have k : X.env.scope.names.lookup y = some .local := k
      rcases ok.free _ (PySem.mem_of_lookup hfr) rfl with k' | k' <;> rw [show X.env.scope.names.lookup y = _ from k'] at k <;> cases k
    · rw [h2] at e'; cases e'
      exact ⟨c, h1, z.keeps kp⟩
  · obtain ⟨w, z⟩ := I.cell y c (cm e).1
    exact ⟨w, z.keeps kp⟩
  · show H ce.locals = none
    rw [hL]; exact I.hok.fresh (Nat.le_refl _)
  · exact I.freeC y c (cm e).1
  · have e : p = (h'.objs.size, go) := by
      have : p ∈ ([] : List (Addr × Obj)) ++ [(h'.objs.size, go)] := hp
      simpa using this
    subst e
    refine ⟨Heap.get?_push_size _ hgf, I.hok.fresh (by rw [hsz]; exact Nat.le_succ _), ?_, fun z => ?_, hgd⟩
    · show h'.objs.size ≠ ce.locals
      rw [hL, hsz]; exact Nat.succ_ne_self _
    · have z : h'.objs.size ∈ frs X.stack := z
      rcases List.mem_cons.mp (I.stkSub _ z) with z | z
      · have := I.lt
        rw [← z, hsz] at this
        exact absurd (Nat.lt_of_succ_lt this) (Nat.lt_irrefl _)
      · exact I.nofs (by rw [hsz]; exact Nat.le_succ _) z
theorem tab_ok {P : Addr} {ps more : Array Value} {h' : Heap} {tk : Nat} (I : Inv X pins σ H s) (hP : H P = some (.tbl ps)) (hx : Heap.ExtBut P s.heap h') (ht : h'.get? P = some { cls := .none, data := .fields (ps ++ more) }) : Inv X pins σ (upd H P (.tbl (ps ++ more))) { s with heap := h', toks := tk } := by
  have ne : ∀ b, H b = none → b ≠ P := fun b e z => by rw [z, hP] at e; cases e
  have keep : ∀ b o, s.heap.get? b = some o → H b = none → h'.get? b = some o := fun b o e n => hx b o (ne b n) e
  refine I.un ⟨fun b o e n _ _ => keep b o e n, fun b o e n _ _ => ⟨o.slots, keep b o e n⟩, fun b o e n _ => by rw [upd_ne (ne b n)]; exact n, fun b o e _ => ?_, fun b xs e => ?_, fun b o u e => ?_, fun b qs e => ?_⟩ fun b u e => ?_
  · by_cases z : b = P
    · subst z; exact ⟨_, ht⟩
    · exact ⟨o, hx b o z e⟩
  · rw [upd_ne (ne_of e hP (fun z => nomatch z))]; exact e
  · rw [upd_ne (ne_of e hP (fun z => nomatch z))]; exact e
  · by_cases z : b = P
    · subst z; rw [hP] at e; cases e; exact ⟨more, upd_same⟩
    · exact ⟨#[], by rw [upd_ne z, e]; simp⟩
  · by_cases z : b = P
    · subst z; rw [upd_same] at e; cases e; exact ht
    · rw [upd_ne z] at e
      refine (I.hok b u e).stay (fun c v hc q => hx c v ?_ q) (fun c q => ?_) fun c xs q => ?_
      · rcases hc with rfl | hc
        · exact z
        · exact ne_of hc hP (fun z => nomatch z)
      · rw [upd_ne (ne_of q hP (fun z => nomatch z))]; exact q
      · rw [upd_ne (ne_of q hP (fun z => nomatch z))]; exact q
end
end Q
set_option Elab.async false
set_option linter.all false
set_option maxRecDepth 100000
namespace Q
open PySem PySem.Spec PySem.W PyProof.Rows L2
def GW (J : It) (g : TG) (tt : TT) (te : TE) (vs : List Nat) (σ : L2.St) (W : Nat → Nat → Hp → Prop) (Z : Hp → Prop) (Yd : Nat → Nat → V → Hp → Prop) : Prop :=
  ∀ i m H, W i m H → (J.stop i H ∧ Z H) ∨ (J.go i H ∧ ∃ Nx : Hp → Prop, (∀ H', Nx H' → ∃ m', m' < m ∧ W (i + 1) m' H') ∧ ∀ x H', J.yld i H x H' → g x (wipe σ vs) H' fun σ2 H2 => wipe σ2 vs = wipe σ vs ∧ tt σ2 H2 fun b H3 =>
    if b = true then te σ2 H3 fun y H4 => Yd i m y H4 else Nx H3)
def GOn (Y : Cx) (e : Expr) (it a : Addr) (g : Nat) (go : Obj) (fp : List Addr) (tn : Nat → Heap → Prop) (σ : L2.St) (i : Nat) (H : Hp) (s : Shared) : Prop :=
  Inv Y [(a, go)] σ H s ∧ tn i s.heap ∧ (∀ b ∈ fp, H b = none) ∧ ∃ gs, s.gens[g]? = some gs ∧ GsAt e (.ref it) Y.env gs
section
variable {Y : Cx} {A : Around} {elt tg iter : Expr} {ifs : List Expr} {scope : Scope} {pos : Pos} {it a : Addr} {n : Nat} {go : Obj} {fp : List Addr} {tn : Nat → Heap → Prop} {σ : L2.St} {J : It} {g : TG} {tt : TT} {te : TE} {vs : List Nat} {W : Nat → Nat → Hp → Prop} {Z : Hp → Prop} {Yd : Nat → Nat → V → Hp → Prop}
theorem gon_next {E : Value → Shared → Prop} (hc : Y.calm = true) (hA : Y.A = A.in1.over (.compLoop (.GeneratorExp elt [⟨tg, iter, ifs, 0⟩] scope pos) 0 (.ref it) .none Y.env) []) (hco : Y.env.scope.isCoroutine = false) (hh : A.handled = none) (hroom : A.depth < recursionLimit)
    (T : Turn Y.prog Y.w Y.K tg J fp it tn) (hex : Y.ex = fp) (hpn : Y.pn = []) (hxe : Y.xe = fun _ _ => False) (haf : a ∉ fp) (hgo : go.cls = .type "generator" ∧ (∃ nm qn, go.data = .fields #[.int n 0, nm, qn]) ∧ go.slots = #[]) (pg : PG Y tg g) (pt : PTs Y ifs tt) (pe : PE Y elt te)
    (h : GW J g tt te vs σ W Z Yd) {i m : Nat} {H : Hp} {s : Shared} (w0 : W i m H) (G : GOn Y (.GeneratorExp elt [⟨tg, iter, ifs, 0⟩] scope pos) it a n go fp tn (wipe σ vs) i H s) :
    wpAny (model Y.prog Y.w) A (pyNext (.ref a)) (fun r s' => match r with
      | none => ∃ H', Inv Y [(a, go)] (wipe σ vs) H' s' ∧ Z H'
      | some v => ∃ i' m' y H', m' ≤ m ∧ RelV y v ∧ GOn Y (.GeneratorExp elt [⟨tg, iter, ifs, 0⟩] scope pos) it a n go fp tn (wipe σ vs) (i' + 1) H' s' ∧ Yd i' m' y H') E s := by
  obtain ⟨I, st, nf, gs, hgs, at'⟩ := G
  have hn : n < s.gens.size := (Array.getElem?_eq_some_iff.mp hgs).1
  have pin0 : ∀ {σ' : L2.St} {H' : Hp} {s' : Shared}, Inv Y [(a, go)] σ' H' s' → s'.heap.get? a = some go := fun I' => (I'.pin (a, go) (List.mem_append_right _ List.mem_cons_self)).1
  have isg : s.heap.IsGen a n := by
    obtain ⟨h1, ⟨nm, qn, h2⟩, h3⟩ := hgo
    exact ⟨go, nm, qn, pin0 I, h1, h2, h3⟩
  have stat : ∀ {σ' : L2.St} {H' : Hp} {s' : Shared}, Inv Y [(a, go)] σ' H' s' → (∀ b ∈ fp, H' b = none) → ∀ b ∈ fp, FpOk Y [(a, go)] H' b := fun {σ' H' s'} I' hn b hb => by
    have hbx : b ∈ Y.ex := by rw [hex]; exact hb
    refine ⟨hn b hb, (I'.ok.exf b hbx).1, I'.ok.exfs b hbx, .inl hbx, fun x c e => (I'.ok.exf b hbx).2 x c e, fun p hp => ?_⟩
    rw [hpn] at hp
    have e : p = (a, go) := by simpa using hp
    subst e
    exact fun z => haf (by rw [show a = b from z]; exact hb)
  refine next_gen (P := Y.prog) (w := Y.w) (A := A) (env := Y.env) (Z := fun s' => n < s'.gens.size ∧ ∃ H', Inv Y [(a, go)] (wipe σ vs) H' s' ∧ Z H')
    (Y := fun v s' => n < s'.gens.size ∧ ∃ i' m' y H', m' ≤ m ∧ RelV y v ∧ Inv Y [(a, go)] (wipe σ vs) H' s' ∧ tn (i' + 1) s'.heap ∧ (∀ b ∈ fp, H' b = none) ∧ Yd i' m' y H')
    hco hh I.nolimit hroom isg hgs at' (fun k s' => k ≤ m ∧ n < s'.gens.size ∧ ∃ i' H', Inv Y [(a, go)] (wipe σ vs) H' s' ∧ tn i' s'.heap ∧ (∀ b ∈ fp, H' b = none) ∧ W i' k H') ?turn m ⟨Nat.le_refl _, by rw [setGen_size]; exact hn, i, H, setGen_inv I rfl, st, nf, w0⟩ (fun A' Q' E' q => T.self A' i _ _ _ st q) ?y ?z
  case y =>
    rintro v s1 gs' hb at1 ⟨hn1, i', m', y, H', hm, rv, I', st', nf', yd⟩
    exact ⟨i', m', y, H', hm, rv, ⟨setGen_inv I' hb, st', nf', gs', setGen_get hn1, at1⟩, yd⟩
  case z =>
    rintro s1 ⟨hn1, H', I', z⟩ h' kp
    exact ⟨H', (setGen_inv (g := n) (x := .finished) I' rfl).kept (t' := s1.toks) kp, z⟩
  case turn =>
    rintro k s5 ⟨hkm, hn5, i5, H5, I5, st5, n5, w5⟩
    rw [← hA]
    have mono : ∀ {s s' : Shared}, n < s.gens.size → s.gens.size ≤ s'.gens.size → n < s'.gens.size := fun a b => Nat.lt_of_lt_of_le a b
    have noE : ∀ {α : Type} {t : Sem α} {Q Q' : α → Shared → Prop} {E1 E2 : Value → Shared → Prop} {s : Shared}, wpAny (model Y.prog Y.w) Y.A t Q E1 s → E1 = (fun _ _ => False) → (∀ a s', s.gens.size ≤ s'.gens.size → Q a s' → Q' a s') → wpAny (model Y.prog Y.w) Y.A t Q' E2 s := fun h e k => by
      subst e
      exact wpAny_mono (any_gens h) (fun a s' z => k a s' z.1 z.2) fun _ _ z => z.2.elim
    unfold GTurn
    rcases h i5 k H5 w5 with ⟨stop, qq⟩ | ⟨gg, Nx, hNx, step⟩
    · have td := T.done Y rfl rfl rfl hc i5 _ s5 _ H5 (fun _ _ => False) I5 (stat I5 n5) st5 stop
      refine noE td rfl fun r s6 l6 ⟨hr, I6⟩ => ?_
      subst hr
      exact ⟨mono hn5 l6, H5, I6, qq⟩
    · have ti := T.item Y rfl rfl rfl hc i5 _ s5 _ H5 (fun _ _ => False) I5 (stat I5 n5) st5 gg
      refine noE ti rfl fun r s6 l6 ⟨u, hr, h6⟩ => ?_
      subst hr
      refine noE h6 rfl fun _ s7 l7 ⟨x, H7, I7, r7, y7, st7, n7⟩ => ?_
      have I7' := I7.pinned (stat I7 n7) (T.obj _ _ st7)
      refine noE (pg _ s7 _ H7 x u _ I7' r7 (step x H7 y7)) hxe fun _ s8 l8 ⟨σ8, H8, I8, hw8, q8⟩ => ?_
      refine noE (pt _ s8 σ8 H8 _ I8 q8) hxe fun b s9 l9 ⟨H9, I9, q9⟩ => ?_
      have hn9 := mono (mono (mono (mono hn5 l6) l7) l8) l9
      have fin : ∀ {s' : Shared} {H' : Hp}, Inv Y ([(a, go)] ++ pinsAt fp s7.heap) σ8 H' s' → Inv Y [(a, go)] (wipe σ vs) H' s' ∧ tn (i5 + 1) s'.heap ∧ ∀ b ∈ fp, H' b = none := fun {s' H'} I' => by
        have pin' : ∀ b ∈ fp, ∀ o, s7.heap.get? b = some o → s'.heap.get? b = some o ∧ H' b = none := fun b hb o e =>
          let z := I'.pin (b, o) (List.mem_append_right _ (List.mem_append_right _ (mem_pinsAt hb e)))
          ⟨z.1, z.2.1⟩
        have hl : (wipe σ vs).length = σ8.length := by rw [← hw8, wipe_length]
        refine ⟨(I'.unpinned (pins := [(a, go)])).weak hl (fun j v e => ?_), T.keep _ _ _ st7 fun b hb o e => (pin' b hb o e).1, fun b hb => ?_⟩
        · rw [← hw8] at e
          exact (wipe_some e).1
        · obtain ⟨o, e, _⟩ := T.obj _ _ st7 b hb
          exact (pin' b hb o e).2
      cases b with
      | false =>
        simp only [Bool.false_eq_true, if_false] at q9 ⊢
        obtain ⟨m', hm, w'⟩ := hNx _ q9
        obtain ⟨f1, f2, f3⟩ := fin I9
        exact ⟨m', hm, Nat.le_trans (Nat.le_of_lt hm) hkm, hn9, i5 + 1, H9, f1, f2, f3, w'⟩
      | true =>
        simp only [if_true] at q9 ⊢
        refine noE (pe _ s9 σ8 H9 _ I9 q9) hxe fun z s10 l10 ⟨yv, H10, I10, r10, yd⟩ => ?_
        obtain ⟨f1, f2, f3⟩ := fin I10
        exact ⟨mono hn9 l10, i5, k, yv, H10, hkm, r10, f1, f2, f3, yd⟩
end
end Q
set_option Elab.async false
set_option linter.all false
set_option maxRecDepth 100000
namespace Q
open PySem PySem.Spec PySem.W PyProof.Rows L2
def Blt (X : Cx) : Prop := ∃ bm ob, BMod X.base mainGlobals X.mg bm ob
structure GMade (X : Cx) (pins : List (Addr × Obj)) (σ : L2.St) (tg : Expr) (e : Expr) (scope : Scope) (vs : List Nat) (R : It → Hp → Prop) (a : Addr) (s5 : Shared) (s3 : Shared) (H3 : Hp) (it : Addr) (n : Nat) (go : Obj) (fp : List Addr) (tn : Nat → Heap → Prop) (J : It) (code : Value) : Prop where
  i3 : Inv X pins σ H3 s3
  fok : ∀ b ∈ fp, FpOk X pins H3 b ∧ b < s3.heap.objs.size
  T : Turn X.prog X.w X.K tg J fp it tn
  r : R J H3
  af : a ∉ fp
  gok : go.cls = .type "generator" ∧ (∃ nm qn, go.data = .fields #[.int n 0, nm, qn]) ∧ go.slots = #[]
  on : ∀ A' : Around, (X.calm = true → A'.handled = none) → A'.frames = some (genEnv scope (cloFrom X.env.cells scope.names []) s3.heap.objs.size code builtinsNs X.env :: X.stack) →
    GOn (gbk X A' s3 H3 (genEnv scope (cloFrom X.env.cells scope.names []) s3.heap.objs.size code builtinsNs X.env) fp) e it a n go fp tn (wipe σ vs) 0 H3 s5
section
variable {X : Cx} {pins : List (Addr × Obj)} {σ : L2.St} {H : Hp} {s : Shared} {elt tg iter : Expr} {ifs : List Expr} {scope : Scope} {own : List (Str × Nat)} {pos p : Pos} {wi : TI}
theorem gen_make {c P : Addr} {R : It → Hp → Prop} {Qv : Value → Shared → Prop} (hN : X.N.Nodup) (hroom : X.A.depth < recursionLimit) (hcd : X.env.code = .ref c) (hC : CodeHd X.base c P) (hB : Blt X) (ok : GBlk X.N X.env.scope scope own) (hs : ∀ x, genFold iter X.env x = pure x)
    (hi : PI X tg iter wi) (I : Inv X pins σ H s) (h : wi σ H fun J H1 => ∃ ps, H1 P = some (.tbl ps) ∧ TriplesOk ps.toList ∧ ∀ more, TriplesOk (ps ++ more).toList → R J (upd H1 P (.tbl (ps ++ more))))
    (k : ∀ a s5 s3 H3 it n go fp tn J code, GMade X pins σ tg (.GeneratorExp elt [⟨tg, iter, ifs, 0⟩] scope pos) scope (own.map (·.2)) R a s5 s3 H3 it n go fp tn J code → Qv (.ref a) s5) :
    wpAny (model X.prog X.w) X.A (eval (.GeneratorExp elt [⟨tg, iter, ifs, 0⟩] scope pos) X.env) Qv X.xe s := by
  have hfree : ∀ y ∈ scope.names, y.2 = .free → ∃ c, X.env.cells.lookup y.1 = some c := fun y hy e => by
    rcases ok.free y hy e with k | k
    · exact I.ok.has _ (.inl k)
    · exact I.ok.has _ (.inr k)
  refine wpAny_GeneratorExp_make ok.co (closure_ok hfree) ok.noc ok.dot ok.kind hroom ?_ hs
  refine thn (hi pins s σ H _ I h) fun xv s1 hx => thn hx fun itv s2 h2 => ?_
  obtain ⟨it, fp, tn, J, H2, e, I2, T, st2, f2, ps, hP, tok, q⟩ := h2
  subst e
  refine ⟨I2.nolimit, ?_⟩
  have hPg : s2.heap.get? P = some (tabObj ps) := I2.hok P _ hP
  have C2 : CodeHd s2.heap c P := hC.keeps I2.bk
  -- behind the code
  have main : ∀ (code : Value) (s3 : Shared) (more : Array Value), TriplesOk (ps ++ more).toList → Inv X pins σ (upd H2 P (.tbl (ps ++ more))) s3 → (∀ b o, b ≠ P → s2.heap.get? b = some o → s3.heap.get? b = some o) →
      wpAny (model X.prog X.w) X.A (builtinsFor X.env.globals X.env.builtins) (fun bi s4 => ∀ h', h'.Ns s4.heap.objs.size (fun y => if y = ".0" then some (.ref it) else none) → Heap.SameBut s4.heap.objs.size (s4.heap.push { cls := .type "frame", data := .dict #[] }) h' →
        Qv (.ref h'.objs.size) { s4 with
            gens := s4.gens.push (.fresh (.compStart (.GeneratorExp elt [⟨tg, iter, ifs, 0⟩] scope pos) 0 (.ref it) .none (genEnv scope (cloFrom X.env.cells scope.names []) s4.heap.objs.size code bi X.env))),
            toks := s4.toks + 1 + 1 + 1,
            heap := h'.push { cls := .type "generator", data := .fields #[.int s4.gens.size 0, .str "<genexpr>" (s4.toks + 1), .str (X.env.qual ++ "<genexpr>") (s4.toks + 1 + 1)] } }) X.xe s3 := by
    intro code s3 more tok' I3 kp
    obtain ⟨bm, ob, M⟩ := hB
    have M3 := M.keeps I3.bk
    refine wpAny_builtinsFor (by rw [I3.ok.glob]; exact M3.ns) M3.name M3.ne M3.obj M3.cls M3.dict M3.data ?_
    intro h' hn' hs'
    have nP : ∀ b ∈ fp, b ≠ P := fun b hb z => by
      have := (f2 b hb).1
      rw [z, hP] at this
      cases this
    have fo : ∀ b ∈ fp, ∃ o, s2.heap.get? b = some o := fun b hb => let ⟨o, e, _⟩ := T.obj _ _ st2 b hb; ⟨o, e⟩
    have f3 : ∀ b ∈ fp, FpOk X pins (upd H2 P (.tbl (ps ++ more))) b ∧ b < s3.heap.objs.size := fun b hb => by
      obtain ⟨o, e⟩ := fo b hb
      exact ⟨⟨by rw [upd_ne (nP b hb)]; exact (f2 b hb).1, (f2 b hb).2⟩, Heap.lt_size (kp b o (nP b hb) e)⟩
    have hsz : h'.objs.size = s3.heap.objs.size + 1 := by rw [hs'.1, Heap.size_push]
    have up : ∀ b o, s3.heap.get? b = some o → h'.get? b = some o := fun b o e => hs'.extBut b o (Nat.ne_of_lt (Heap.lt_size e)) (Heap.get?_push_of_some _ e)
    refine k h'.objs.size _ s3 (upd H2 P (.tbl (ps ++ more))) it s3.gens.size _ fp tn J code ⟨I3, f3, T, q more tok', fun hm => ?_, ⟨rfl, ⟨_, _, rfl⟩, rfl⟩, fun A' hA' hf' => ⟨gen_start I3 ok hN f3 hA' hf' hn' hs' (fun v z => nomatch z) rfl (I3.bare.push rfl), ?_, fun b hb => (f3 b hb).1.1, _, Array.getElem?_push_size .., rfl⟩⟩
    · have := (f3 _ hm).2
      rw [hsz] at this
      exact absurd (Nat.lt_of_succ_lt this) (Nat.lt_irrefl _)
    · exact T.keep _ _ _ st2 fun b hb o e => Heap.get?_push_of_some _ (up b o (kp b o (nP b hb) e))
  cases hf : codeAmong pos ps.toList with
  | some cv =>
    have e0 : upd H2 P (.tbl (ps ++ #[])) = H2 := by
      funext b
      by_cases z : b = P
      · subst z; rw [upd_same, hP]; simp
      · rw [upd_ne z]
    refine wpAny_genexprCode_hit hcd (C2.code hPg tok) hf (main cv s2 #[] (by simpa using tok) (by rw [e0]; exact I2) fun b o _ e => e)
  | none =>
    refine wpAny_genexprCodeX hcd (C2.code hPg tok) (C2.tab hPg) hf fun c' h' tk hx _ _ _ _ ht _ => ?_
    exact main _ _ _ (by rw [Array.toList_append]; exact TriplesOk_snoc _ _ _ _ tok) (tab_ok I2 hP hx ht.2) fun b o hb e => hx b o hb e
theorem GMade.back {e : Expr} {vs : List Nat} {R : It → Hp → Prop} {a : Addr} {s5 s3 : Shared} {H3 : Hp} {it : Addr} {n : Nat} {go : Obj} {fp : List Addr} {tn : Nat → Heap → Prop} {J : It} {code : Value} (M : GMade X pins σ tg e scope vs R a s5 s3 H3 it n go fp tn J code) {A : Around} {ce : Env} {pl : List (Addr × Obj)} {σ' : L2.St} {H' : Hp} {s' : Shared}
    (I : Inv (gbk X A s3 H3 ce fp) pl σ' H' s') : Inv X pins σ H' s' :=
  M.i3.call' (ch := fp) I.os I.base I.hok I.bare fun b hb => ⟨(M.fok b hb).1.2.2.2.1, (M.fok b hb).1.2.1, (M.fok b hb).1.2.2.2.2.1, (M.fok b hb).1.2.2.2.2.2⟩
def tAllG (wi : TI) (P : Addr) (g : TG) (tt : TT) (te : TE) (vs : List Nat) : TE := fun σ H Q => wi σ H fun J H1 => ∃ ps, H1 P = some (.tbl ps) ∧ TriplesOk ps.toList ∧ ∀ more, TriplesOk (ps ++ more).toList →
  ∃ W : Nat → Nat → Hp → Prop, (∃ m, W 0 m (upd H1 P (.tbl (ps ++ more)))) ∧ GW J g tt te vs σ W (fun H => Q (.bl true) H) fun i m y H => ∃ c, y = .bl c ∧ if c = true then ∃ m', m' < m ∧ W (i + 1) m' H else Q (.bl false) H
theorem room_gen {k : Nat} {A : Around} (r : Room (k + 1) A) {elt iter : Expr} {ifs : List Expr} {scope : Scope} {pos : Pos} {it acc : Value} {env : Env} {tg : Expr} : Room k (A.in1.in1.over (.compLoop (.GeneratorExp elt [⟨tg, iter, ifs, 0⟩] scope pos) 0 it acc env) []) :=
  ⟨r.hd, by have := r.dp; show A.depth + 0 + 1 + 3 * k + 5 < _; omega, by have := r.un; show A.units + 1 + 1 + 0 + 3 + 16 * k + 200 < _; omega, by first | exact r.gd | (show pushGuards _ _ = _; rw [r.gd]; rfl) | simp [Around.under, Around.over, Around.deeper, Around.in1, Code.guards, Code.isGuard, guardIds, pushGuards, r.gd]⟩
theorem pe_allG {c P : Addr} {k : Nat} {g : TG} {tt : TT} {te : TE} (hc : X.calm = true) (hN : X.N.Nodup) (hr : Room (k + 1) X.A) (hcd : X.env.code = .ref c) (hC : CodeHd X.base c P) (hB : Blt X) (hgl : Gl X "all") (hm : X.mg "all" = none) (hi : PI X tg iter wi) (ok : GBlk X.N X.env.scope scope own)
    (hg : ∀ (A : Around) (s : Shared) (H : Hp) (C : Addr) (cl : List (Str × Addr)) (cd : Value) (fp : List Addr), Room k A → PG (gbk X A s H (genEnv scope cl C cd builtinsNs X.env) fp) tg g)
    (ht : ∀ (A : Around) (s : Shared) (H : Hp) (C : Addr) (cl : List (Str × Addr)) (cd : Value) (fp : List Addr), Room k A → PTs (gbk X A s H (genEnv scope cl C cd builtinsNs X.env) fp) ifs tt)
    (he : ∀ (A : Around) (s : Shared) (H : Hp) (C : Addr) (cl : List (Str × Addr)) (cd : Value) (fp : List Addr), Room k A → PE (gbk X A s H (genEnv scope cl C cd builtinsNs X.env) fp) elt te)
    (hs : ∀ x, genFold iter X.env x = pure x := by intro _; rfl) (hst : starEach [Expr.GeneratorExp elt [⟨tg, iter, ifs, 0⟩] scope pos] X.env = [(false, eval (.GeneratorExp elt [⟨tg, iter, ifs, 0⟩] scope pos) X.env)] := by rfl) {cpos : Pos} :
    PE X (.Call (.Name "all" p) [.GeneratorExp elt [⟨tg, iter, ifs, 0⟩] scope pos] [] cpos) (tAllG wi P g tt te (own.map (·.2))) := by
  intro pins s σ H Q I h
  refine wpAny_Call_Name_kw (ld_blt I hgl hm PyProof.Rows.boot_all ?_)
  refine PyProof.Rows.callWith_builtin1 ?_ hst rfl
  rw [hst]
  show wpAny _ _ (spliced ((false, eval (.GeneratorExp elt [⟨tg, iter, ifs, 0⟩] scope pos) X.env) :: backTo cpos [])) _ _ s
  refine Calls.spliced_cons (gen_make (R := fun J H3 => ∃ W : Nat → Nat → Hp → Prop, (∃ m, W 0 m H3) ∧ GW J g tt te (own.map (·.2)) σ W (fun H => Q (.bl true) H) fun i m y H => ∃ c, y = .bl c ∧ if c = true then ∃ m', m' < m ∧ W (i + 1) m' H else Q (.bl false) H) hN hr.depth hcd hC hB ok hs hi I h fun a s5 s3 H3 it n go fp tn J code M => ?_)
  refine Calls.spliced_nil ?_
  obtain ⟨W, ⟨m0, w0⟩, gw⟩ := M.r
  have G0 := M.on (X.A.in1.in1.over (.compLoop (.GeneratorExp elt [⟨tg, iter, ifs, 0⟩] scope pos) 0 (.ref it) .none (genEnv scope (cloFrom X.env.cells scope.names []) s3.heap.objs.size code builtinsNs X.env)) []) (fun _ => hr.hd) (by
    show pushEnvs [_] X.A.frames = _
    rw [I.ok.frames]
    rfl)
  have rm := room_gen (elt := elt) (iter := iter) (ifs := ifs) (scope := scope) (pos := pos) (it := .ref it) (acc := .none) (env := genEnv scope (cloFrom X.env.cells scope.names []) s3.heap.objs.size code builtinsNs X.env) (tg := tg) hr
  have pg := hg _ s3 H3 s3.heap.objs.size (cloFrom X.env.cells scope.names []) code fp rm
  have pt := ht _ s3 H3 s3.heap.objs.size (cloFrom X.env.cells scope.names []) code fp rm
  have pe := he _ s3 H3 s3.heap.objs.size (cloFrom X.env.cells scope.names []) code fp rm
  have loop : ∀ m i H' s', W i m H' → GOn (gbk X (X.A.in1.in1.over (.compLoop (.GeneratorExp elt [⟨tg, iter, ifs, 0⟩] scope pos) 0 (.ref it) .none (genEnv scope (cloFrom X.env.cells scope.names []) s3.heap.objs.size code builtinsNs X.env)) []) s3 H3 (genEnv scope (cloFrom X.env.cells scope.names []) s3.heap.objs.size code builtinsNs X.env) fp) (.GeneratorExp elt [⟨tg, iter, ifs, 0⟩] scope pos) it a n go fp tn (wipe σ (own.map (·.2))) i H' s' →
      codeAny (model X.prog X.w) X.A (.builtin "all.loop" ⟨[.ref a], []⟩) (fun r s' => match r with | .ok (.ret v) => EP X pins σ Q v s' | .ok _ => False | .error e => X.xe e s') s' := by
    intro m
    induction m using Nat.strongRecOn with
    | ind m ih =>
      intro i H' s' w' G'
      refine codeAny_builtin F.entry_all_loop ?_
      rw [Around.under_plainId F.plain_all_loop _]
      show wpAny _ X.A.in1 (pyNext (.ref a) >>= _) _ _ s'
      refine wpAny_bind (wpAny_mono (gon_next (Y := gbk X (X.A.in1.in1.over (.compLoop (.GeneratorExp elt [⟨tg, iter, ifs, 0⟩] scope pos) 0 (.ref it) .none (genEnv scope (cloFrom X.env.cells scope.names []) s3.heap.objs.size code builtinsNs X.env)) []) s3 H3 (genEnv scope (cloFrom X.env.cells scope.names []) s3.heap.objs.size code builtinsNs X.env) fp) (A := X.A.in1) hc rfl ok.co hr.hd hr.depth M.T rfl rfl rfl M.af M.gok pg pt pe gw w' G') (fun r s6 h6 => ?_) fun _ _ e => e)
      cases r with
      | none =>
        obtain ⟨H6, I6, q6⟩ := h6
        exact wpAny_bind (wpAny_rule (wpAny_pure ⟨.bl true, H6, M.back I6, rfl, q6⟩))
      | some v =>
        obtain ⟨i6, m6, y, H6, hm6, r6, G6, c6, e6, q6⟩ := h6
        subst e6
        obtain rfl : v = Value.bool c6 := r6
        refine wpAny_bind (wpAny_holding (wpAny_truthy_bool ?_))
        refine wpAny_bind (wpAny_letGo ?_)
        cases c6 with
        | true =>
          simp only [if_true] at q6 ⊢
          obtain ⟨m', hm', w6⟩ := q6
          exact wpAny_pure ⟨plainId_quiet F.plain_all_loop _, ih m' (Nat.lt_of_lt_of_le hm' hm6) _ _ _ w6 G6⟩
        | false =>
          simp only [Bool.false_eq_true, if_false] at q6 ⊢
          exact wpAny_bind (wpAny_rule (wpAny_pure ⟨.bl false, H6, M.back G6.1, rfl, q6⟩))
  refine call_function_tree F.kind_all F.plain_all F.entry_all (F.args_all1 _) ?_
  unfold Builtin.«all»
  refine wpAny_bind (m := oneArg "all" _) (wpAny_pure ?_)
  have isg : s5.heap.IsGen a n := by
    obtain ⟨h1, ⟨nm, qn, h2⟩, h3⟩ := M.gok
    exact ⟨go, nm, qn, (G0.1.pin (a, go) (List.mem_append_right _ List.mem_cons_self)).1, h1, h2, h3⟩
  refine wpAny_bind (wpAny_pyIter_gen isg ?_)
  exact wpAny_pure ⟨plainId_quiet F.plain_all_loop _, loop m0 0 H3 s5 w0 G0⟩
end
end Q
set_option Elab.async false
set_option linter.all false
set_option maxRecDepth 100000
namespace Q
open PySem PySem.Spec PySem.W PyProof.Rows L2
def isTab (P : Addr) : Option HC → Bool
  | some (.tab P') => P' == P
  | _ => false
theorem isTab_eq {P : Addr} {o : Option HC} (h : isTab P o = true) : o = some (.tab P) := by
  unfold isTab at h
  split at h
  · rw [eq_of_beq h]
  · cases h
theorem HR.tabUp {K : Fg} {F G H : Hp} {C : List Addr} {h : Hq} {n : Nat} {P : Addr} {qs : Array Value} (r : HR K F G C h H) (hn : h[n]? = some (.tab P)) (t : TriplesOk qs.toList) : HR K F G C h (upd H P (.tbl qs)) := by
  obtain ⟨cn, ps, hP, _⟩ := r.tab n P hn
  have pC : P ∈ C := List.mem_of_getElem? cn
  have same : ∀ m, C[m]? = some P → m = n := fun m e => by
    obtain ⟨h1, h2⟩ := List.getElem?_eq_some_iff.mp e
    obtain ⟨h3, h4⟩ := List.getElem?_eq_some_iff.mp cn
    exact (List.getElem_inj r.nd).mp (h2.trans h4.symm)
  refine ⟨r.fg, fun a o e => ?_, r.nd, r.out, r.len, fun m a xs e1 e2 => ?_, fun m Q' e1 => ?_, fun m a c e1 e2 => ?_⟩
  · rw [upd_ne (show a ≠ P from fun z => by rw [z, r.out P pC] at e; cases e)]
    exact r.gh a o e
  · have z : a ≠ P := fun z => by
      subst z
      rw [same m e1, hn] at e2
      cases e2
    rw [upd_ne z]
    exact r.cell m a xs e1 e2
  · obtain ⟨e2, ps', e3, t'⟩ := r.tab m Q' e1
    by_cases z : Q' = P
    · subst z
      exact ⟨e2, qs, upd_same, t⟩
    · exact ⟨e2, ps', by rw [upd_ne z]; exact e3, t'⟩
  · by_cases z : a = P
    · subst z
      rw [same m e1, hn] at e2
      cases e2
      trivial
    · exact (r.more m a c e1 e2).keep (Same.refl _) (List.prefix_refl _) (upd_ne z)
def allGo (ρ : Rho) (g : MG) (t : MT) (m : ME) : List D → Hq → Option (Bool × Hq)
  | [], h => some (true, h)
  | x :: xs, h => match g x ρ with
    | none => none
    | some ρ2 => match t ρ2 h with
      | none => none
      | some (c, h1) => if c then (match m ρ2 h1 with
          | some (.bool b, h2) => if b then allGo ρ g t m xs h2 else some (false, h2)
          | _ => none) else allGo ρ g t m xs h1
@[irreducible] def eAllG (n : Nat) (P : Addr) (vs : List Nat) (mi : MI) (g : MG) (t : MT) (m : ME) : ME := fun ρ h => match mi ρ h with
  | none => none
  | some (ds, h1) => if isTab P h1[n]? then (match allGo (wipeR ρ vs) g t m ds h1 with | none => none | some (b, h2) => some (.bool b, h2)) else none
theorem re_allG {K : Fg} {vs : List Nat} {wi : TI} {mi : MI} {g : MG} {mt : MT} {me : ME} {n : Nat} {P : Addr} (ri : RI K wi mi) : RE K (tAllG wi P (gOf K vs g) (ttOf K mt) (tOf K me) vs) (eAllG n P vs mi g mt me) := by
  intro σ H F G C ρ h d h' Q h0 er hm q
  unfold eAllG at hm
  split at hm
  · cases hm
  rename_i items h1 e1
  split at hm
  rotate_left
  · cases hm
  rename_i ht
  have ht := isTab_eq ht
  split at hm
  · cases hm
  rename_i bb h9 e9
  cases hm
  refine ri σ H F G C ρ h items h1 _ h0 er e1 fun J H1 F1 G1 C1 a1 it => ?_
  obtain ⟨cn, ps, hP, tok⟩ := a1.r.tab n P ht
  refine ⟨ps, hP, tok, fun more tok' => ?_⟩
  refine ⟨fun i m H' => m = items.length - i ∧ i ≤ items.length ∧ ∃ F' G' C' h2, Aft K F1 G1 C1 F' G' C' h2 H' ∧ allGo (wipeR ρ vs) g mt me (items.drop i) h2 = some (bb, h'),
    ⟨items.length, by simp, Nat.zero_le _, F1, G1, C1, h1, ⟨Same.refl _, Same.refl _, List.prefix_refl _, a1.r.tabUp ht tok', fun _ _ _ _ => rfl⟩, by rw [List.drop_zero]; exact e9⟩, ?_⟩
  rintro i m H' ⟨rfl, hi, F', G', C', h2, a, e⟩
  by_cases hlt : i < items.length
  · obtain ⟨go, yl⟩ := it.go F' _ C' h2 H' i items[i] a.f a.c a.r (List.getElem?_eq_getElem hlt)
    have ed : items.drop i = items[i] :: items.drop (i + 1) := List.drop_eq_getElem_cons hlt
    rw [ed] at e
    unfold allGo at e
    split at e
    · cases e
    rename_i ρ2 e2
    split at e
    · cases e
    rename_i c h3 e3
    refine .inr ⟨go, _, fun H2 n => ⟨items.length - (i + 1), by omega, n⟩, fun x H2 y => ?_⟩
    obtain ⟨_, F2, G2, a2, rx⟩ := yl x H2 y
    have ew : ER K F2 G2 C' (wipeR ρ vs) (L2.wipe σ vs) := (er.le (a1.f.trans (a.f.trans a2.f)) (a1.g.trans (a.g.trans a2.g)) (a1.c.trans (a.c.trans a2.c))).wipe vs
    refine ⟨F2, G2, C', _, _, ρ2, a2.r.fh, ew, rx, e2, fun σ' w' s' => ⟨by rw [w', wipe_wipe], ?_⟩⟩
    refine ⟨F2, G2, C', ρ2, h2, c, h3, a2.r, s', e3, fun H3 F3 G3 C3 a3 => ?_⟩
    cases c with
    | true =>
      rw [if_pos rfl] at e ⊢
      split at e
      rotate_left
      · cases e
      rename_i b h4 e4
      refine ⟨F3, G3, C3, ρ2, h3, _, h4, a3.r, s'.le a3.f a3.g a3.c, e4, fun u H4 F4 G4 C4 a4 r4 => ⟨b, rl_bool r4, ?_⟩⟩
      have b4 := a.trans ((a2.trans a3).trans a4)
      cases b with
      | true =>
        rw [if_pos rfl] at e ⊢
        exact ⟨items.length - (i + 1), by omega, rfl, hlt, F4, G4, C4, h4, b4, e⟩
      | false =>
        rw [if_neg Bool.false_ne_true] at e ⊢
        cases e
        exact q _ H4 F4 G4 C4 (a1.trans b4) (.bl false)
    | false =>
      rw [if_neg Bool.false_ne_true] at e ⊢
      exact ⟨rfl, hlt, F3, G3, C3, h3, a.trans (a2.trans a3), e⟩
  · have hi' : i = items.length := by omega
    subst hi'
    rw [List.drop_length] at e
    unfold allGo at e
    cases e
    exact .inl ⟨it.stop F' G' C' _ H' a.f a.c a.r, q _ H' F' G' C' (a1.trans a) (.bl true)⟩
section
variable {X : Cx} {elt tg iter : Expr} {ifs : List Expr} {scope : Scope} {own : List (Str × Nat)} {pos cpos p : Pos} {mi : MI} {g : MG} {mt : MT} {me : ME} {c P : Addr} {k : Nat}
theorem se_allG (n : Nat) (hc : X.calm = true) (hN : X.N.Nodup) (hr : Room (k + 1) X.A) (hcd : X.env.code = .ref c) (hC : CodeHd X.base c P) (hB : Blt X) (hgl : Gl X "all") (hm : X.mg "all" = none) (hi : SI X tg iter mi) (ok : GBlk X.N X.env.scope scope own)
    (hg : ∀ (A : Around) (s : Shared) (H : Hp) (C : Addr) (cl : List (Str × Addr)) (cd : Value) (fp : List Addr), Room k A → SGe (gbk X A s H (genEnv scope cl C cd builtinsNs X.env) fp) (own.map (·.2)) tg g)
    (ht : ∀ (A : Around) (s : Shared) (H : Hp) (C : Addr) (cl : List (Str × Addr)) (cd : Value) (fp : List Addr), Room k A → STs (gbk X A s H (genEnv scope cl C cd builtinsNs X.env) fp) ifs mt)
    (he : ∀ (A : Around) (s : Shared) (H : Hp) (C : Addr) (cl : List (Str × Addr)) (cd : Value) (fp : List Addr), Room k A → SE (gbk X A s H (genEnv scope cl C cd builtinsNs X.env) fp) elt me)
    (hs : ∀ x, genFold iter X.env x = pure x := by intro _; rfl) (hst : starEach [Expr.GeneratorExp elt [⟨tg, iter, ifs, 0⟩] scope pos] X.env = [(false, eval (.GeneratorExp elt [⟨tg, iter, ifs, 0⟩] scope pos) X.env)] := by rfl) :
    SE X (.Call (.Name "all" p) [.GeneratorExp elt [⟨tg, iter, ifs, 0⟩] scope pos] [] cpos) (eAllG n P (own.map (·.2)) mi g mt me) := by
  obtain ⟨wi, p1, r1⟩ := hi
  exact .mk _ (pe_allG hc hN hr hcd hC hB hgl hm p1 ok (fun A s H C cl cd fp r => (hg A s H C cl cd fp r).pe) (fun A s H C cl cd fp r => (ht A s H C cl cd fp r).pe) (fun A s H C cl cd fp r => (he A s H C cl cd fp r).pe) hs hst) (re_allG r1)
end
end Q
set_option Elab.async false
set_option linter.all false
set_option maxRecDepth 100000
namespace Q
open PySem PySem.Spec PySem.W PyProof.Rows L2
structure FunC (K : Fg) (x qual : Str) (st : Stmt) (f : Addr) (fd : FuncData) (cdv : Value) : Prop where
  ex : ∃ (oc : Value) (od : Option Addr) (kV doc pm : Value) (an : Option Addr) (ct : Value) (osl : Array (Option Value)),
    fd = PySem.W.fnOf x qual (defArgs st) (defBody st) (defScope st) .none kV doc pm an cdv ct ∧ K.lookup f = some ⟨oc, od, .func fd, osl⟩ ∧ PySem.W.codeIn K cdv qual = true
  kp : PySem.W.keepIn K (.ref f) = true
theorem FunC.fn {K : Fg} {x qual : Str} {st : Stmt} {f : Addr} {fd : FuncData} {cdv : Value} (F : FunC K x qual st f fd cdv) : Fun K x qual st f fd := by
  obtain ⟨oc, od, kV, doc, pm, an, ct, osl, h⟩ := F.ex
  exact ⟨⟨oc, od, kV, doc, pm, an, cdv, ct, osl, h⟩, F.kp⟩
theorem func_mk {K : Fg} {x qual : Str} {st : Stmt} {f : Addr} {oc : Value} {od an : Option Addr} {osl : Array (Option Value)} {kV doc pm cdv ct : Value} (l : K.lookup f = some ⟨oc, od, .func (PySem.W.fnOf x qual (defArgs st) (defBody st) (defScope st) .none kV doc pm an cdv ct), osl⟩)
    (c : PySem.W.codeIn K cdv qual = true) (k : PySem.W.keepIn K (.ref f) = true) : FunC K x qual st f (PySem.W.fnOf x qual (defArgs st) (defBody st) (defScope st) .none kV doc pm an cdv ct) cdv := ⟨⟨oc, od, kV, doc, pm, an, ct, osl, rfl, l, c⟩, k⟩
section
variable {P : Program} {w : World} {K : PySem.W.Frag} {mg : Str → Option Value} {base : Heap}
theorem fnc_ok {x qual : Str} {st : Stmt} {f : Addr} {fd : FuncData} {cdv : Value} {N ps : List Str} {k : Nat} (F : FunC K x qual st f fd cdv) (S : FnScope N ps (defScope st)) (m : MF) (len : ∀ ds h r, m ds h = some r → ds.length = ps.length)
    (hbody : ∀ (A : Around) (outer : List Env) (s : Shared) (H : Hp) (E : XK), Room k (A.deeper (envOfC qual (defScope st) s.heap.objs.size f cdv)) →
      ∃ ms, SSs (cxOf CX0 P w K mg base N qual (defScope st) f cdv A outer s H E).nox (defBody st) ms ∧ ∀ ds h r, m ds h = some r → runB ms N.length ds h = some r) : FnOk P w K mg base CX0 (k + 1) f fd ps (spOf K m) := by
  obtain ⟨oc, od, kV, doc, pm, an, ct, osl, rfl, lk, hcd⟩ := F.ex
  refine fn_of lk hcd S (fun vs H Q E ⟨F', G, C, ds, h, d, h', h0, r, e, _⟩ => by rw [r.length]; exact len _ _ _ e) fun A outer s H vs Q E hr hsp => ?_
  obtain ⟨ms, ⟨t, p, rs⟩, hm⟩ := hbody A outer s H E hr
  obtain ⟨F', G, C, ds, h, d, h', h0, r, e, q⟩ := hsp
  refine ⟨t, p.nox, ?_⟩
  have e2 := hm _ _ _ e
  unfold runB at e2
  split at e2
  · rename_i ρ1 h1 e3
    cases e2
    exact rs _ H F' G C _ _ h _ _ (start_sr N h0 r) e3 fun σ' H' F1 G1 C1 O' a s' => q _ H' F1 G1 C1 ⟨a.f, a.g, a.c, s'.r, a.nf⟩ .non
  · rename_i d1 h1 e3
    cases e2
    exact rs _ H F' G C _ _ h _ _ (start_sr N h0 r) e3 fun u H' F1 G1 C1 a s' r' => q _ H' F1 G1 C1 ⟨a.f, a.g, a.c, s', a.nf⟩ r'
  · cases e2
end
theorem tabIn_of {K : Fg} {x : Str} {f c P : Addr} {oc oc' : Value} {od od' : Option Addr} {fd : FuncData} {sl sl' : Array (Option Value)} {vs : Array Value} (a1 : nsIn K mainGlobals x = some (some (.ref f))) (l1 : K.lookup f = some ⟨oc, od, .func fd, sl⟩) (c1 : fd.code = .ref c) (t1 : K.lookup c = some ⟨oc', od', .fields vs, sl'⟩) (v1 : vs[11]? = some (.ref P)) : tabIn K x = some (c, P) := by
  unfold tabIn
  rw [a1]
  dsimp only
  rw [l1]
  dsimp only
  rw [c1]
  dsimp only
  rw [t1]
  dsimp only
  rw [v1]
theorem of_tabs {h : Heap} {tabs : List (Addr × Addr)} (hT : TabsAt tabs h) {b : Addr} {o : Obj} (e : h.get? b = some o) (hm : b ∈ tabs.map (·.2)) : o = tabObj #[] := by
  obtain ⟨q, hq, rfl⟩ := List.mem_map.mp hm
  rw [(hT q hq).2] at e
  exact (Option.some.inj e).symm
theorem law_tabs {P : Program} {w : World} {K : PySem.W.Frag} {mg mb : Str → Option Value} {k : Nat} {fa a : Addr} {fd : FuncData} {x : Str} {m : MF} {s1 : Shared} {vs : List Value} {ns : List Int} {tabs : List (Addr × Addr)}
    (KX : K.In s1.heap) (hns : s1.heap.Ns mainGlobals mg) (hb : s1.heap.Ns builtinsNs mb) (hbb : ∀ x : Str, x ≠ "__name__" → mb x = bootBuiltins x) (hlim : s1.heap.NoLimit) (hg : s1.gens = #[])
    (hT : TabsAt tabs s1.heap) (tnd : (tabs.map (·.2)).Nodup) (hK : noTabs K = true) (hBM : ∃ bm ob, BMod s1.heap mainGlobals mg bm ob)
    (ha : s1.heap.get? a = some { cls := .type "list", data := .seq vs.toArray }) (hi : IntsAre vs ns) (hl : ns.length ≤ sizeLine) (hr : Room k callerA)
    (F : ∀ base : Heap, K.In base → base.Ns mainGlobals mg → (∀ q ∈ tabs, CodeHd base q.1 q.2) → (∃ bm ob, BMod base mainGlobals mg bm ob) → FnOk P w K mg base CX0 k fa fd [x] (spOf K m)) (hbind : ∀ (s : Shared) (u : Value), BindsTo s fd ⟨[u], []⟩ [(x, u)])
    (hsp : ∃ h', m [scr (ns.map PyData.int)] (tabs.map fun q => .tab q.2) = some (.bool true, h')) :
    codeAny (model P w) callerA (.call (.ref fa) ⟨[.ref a], []⟩) (fun r s' => r = .ok (.ret (.bool true)) ∧ OldK s1.heap s'.heap ∧ s'.os = s1.os ∧ AllBare s'.gens) s1 := by
  have rv := vals_ints hi
  have lenV := hi.length
  obtain ⟨h', hsp⟩ := hsp
  have aT : a ∉ tabs.map (·.2) := fun hm => by
    have := of_tabs hT ha hm
    cases this
  -- S: what stands for the script
  have core : ∀ S : Hp, (∀ b, S b = none ∨ (b = a ∧ ∃ o xs, S b = some (.frz o (.lst xs)) ∧ K.lookup a = none)) → SqL K S a (ns.map V.int) → HOk P w S s1.heap →
      codeAny (model P w) callerA (.call (.ref fa) ⟨[.ref a], []⟩) (fun r s' => r = .ok (.ret (.bool true)) ∧ OldK s1.heap s'.heap ∧ s'.os = s1.os ∧ AllBare s'.gens) s1 := by
    intro S hS hSq hSok
    have hST : ∀ b ∈ tabs.map (·.2), S b = none := fun b hm => by
      rcases hS b with z | ⟨z, _⟩
      · exact z
      · exact absurd (by rw [← z]; exact hm) aT
    obtain ⟨H, hH⟩ : ∃ H : Hp, H = fun b => if b ∈ tabs.map (·.2) then some (.tbl #[]) else S b := ⟨_, rfl⟩
    have hin : ∀ {b}, b ∈ tabs.map (·.2) → H b = some (.tbl #[]) := fun hm => by rw [hH]; exact if_pos hm
    have hout : ∀ {b}, b ∉ tabs.map (·.2) → H b = S b := fun hm => by rw [hH]; exact if_neg hm
    have le : Le S H := fun b o e => by rw [hout fun hm => by rw [hST b hm] at e; cases e]; exact e
    have hok : HOk P w H s1.heap := fun b u e => by
      by_cases hm : b ∈ tabs.map (·.2)
      · rw [hin hm] at e
        cases e
        obtain ⟨q, hq, rfl⟩ := List.mem_map.mp hm
        exact (hT q hq).2
      · rw [hout hm] at e
        refine (hSok b u e).stay (fun _ _ _ q => q) (fun c q => ?_) fun c xs q => ?_
        · exact le _ _ q
        · exact le _ _ q
    have free : ∀ {b : Addr} {o : Obj}, s1.heap.get? b = some o → o ≠ tabObj #[] → b ≠ a → H b = none := fun {b o} e n1 n2 => by
      rw [hout fun hm => n1 (of_tabs hT e hm)]
      rcases hS b with z | ⟨z, _⟩
      · exact z
      · exact absurd z n2
    have base_of : ∀ {b : Addr} {o : Obj}, s1.heap.get? b = some o → H b = none → (hidT s1.heap H).get? b = some o := fun e n => hidT_get e n
    have nsK : ∀ {b : Addr} {m : Str → Option Value}, s1.heap.Ns b m → (hidT s1.heap H).Ns b m := fun {b m} ⟨o, es, ep, e, d, r⟩ => ⟨o, es, ep, base_of e (free e (fun z => by rw [z] at d; cases d) fun z => by subst z; rw [ha] at e; cases e; cases d), d, r⟩
    have hKb : K.In (hidT s1.heap H) := fun b o e => base_of (KX b o e) (by
      have nt : b ∉ tabs.map (·.2) := fun hm => by
        have z := of_tabs hT (KX b o e) hm
        have h2 := List.all_eq_true.mp hK (b, o) (mem_of_lookupK e)
        rw [z] at h2
        exact absurd (show false = true from h2) Bool.false_ne_true
      rw [hout nt]
      rcases hS b with z | ⟨z, _, _, _, hk⟩
      · exact z
      · subst z; rw [hk] at e; cases e)
    have hM : Mod K mg (hidT s1.heap H) := ⟨hKb, nsK hns, ⟨mb, nsK hb, hbb⟩, let ⟨mc, h1, h2⟩ := hlim; ⟨mc, nsK h1, h2⟩⟩
    have hC : ∀ q ∈ tabs, CodeHd (hidT s1.heap H) q.1 q.2 := fun q hq => by
      obtain ⟨o, us, file, tf, flags, tg, inF, text, tt, e1, e2, r⟩ := (hT q hq).1
      exact ⟨o, us, file, tf, flags, tg, inF, text, tt, base_of e1 (free e1 (fun z => by rw [z] at e2; cases e2) fun z => by rw [z, ha] at e1; cases e1; simp at e2), e2, r⟩
    have hBb : ∃ bm ob, BMod (hidT s1.heap H) mainGlobals mg bm ob := by
      obtain ⟨bm, ob, M⟩ := hBM
      exact ⟨bm, ob, nsK M.ns, M.name, M.ne, base_of M.obj (free M.obj (fun z => by have := M.cls; rw [z] at this; cases this) fun z => by have e := M.obj; have c := M.cls; rw [z, ha] at e; cases e; simp at c), M.cls, M.dict, M.data⟩
    have e0 : Env0 P w K mg (hidT s1.heap H) callerA [] s1 H := ⟨rfl, hM, fun b o e => of_hidT e, Nat.le_of_eq (hidT_size _ _), trivial, fun b hb => absurd (show b ∈ ([] : List Addr) from hb) (by simp), hok, .of_eq hg⟩
    have hr0 : HR K S S (tabs.map (·.2)) (tabs.map fun q => .tab q.2) H := by
      refine ⟨Same.refl _, le, tnd, fun b hm => hST b hm, by simp, fun n b xs e1 e2 => ?_, fun n Q' e1 => ?_, fun n b c e1 e2 => ?_⟩
      · rw [List.getElem?_map] at e2
        cases z : tabs[n]? with
        | none => rw [z] at e2; cases e2
        | some q => rw [z] at e2; cases e2
      · rw [List.getElem?_map] at e1 ⊢
        cases z : tabs[n]? with
        | none => rw [z] at e1; cases e1
        | some q =>
          rw [z] at e1
          cases e1
          exact ⟨rfl, #[], hin (List.mem_map_of_mem (List.mem_of_getElem? z)), trivial⟩
      · rw [List.getElem?_map] at e2
        cases z : tabs[n]? with
        | none => rw [z] at e2; cases e2
        | some q => rw [z] at e2; cases e2; trivial
    have pr : spOf K m [.ref a] H (fun v _ => v = .bl true) fun _ _ _ => False := ⟨S, S, tabs.map (·.2), [scr (ns.map PyData.int)], tabs.map fun q => .tab q.2, .bool true, h', hr0, .cons (.scr hSq (Rls.of_ints ns)) .nil, hsp, fun u _ _ _ _ _ r => rl_bool r⟩
    refine codeAny_mono ((F _ hKb (nsK hns) hC hBb).run callerA [] s1 H ⟨[.ref a], []⟩ [.ref a] [.ref a] _ _ hr e0 (hbind s1 (.ref a)) (.cons rfl .nil) pr) fun r s' h => ?_
    cases r with
    | error e => exact False.elim h
    | ok fl =>
      cases fl with
      | next => exact False.elim h
      | brk => exact False.elim h
      | cont => exact False.elim h
      | ret u =>
        obtain ⟨v, H', os, bare, un, hok', r', q⟩ := h
        have q' : v = .bl true := q
        subst q'
        obtain rfl : u = Value.bool true := r'
        have old : ∀ b o, s1.heap.get? b = some o → asItWas s1.heap s'.heap b o ∧ ∃ o', s'.heap.get? b = some o' := fun b o e => by
          by_cases hm : b ∈ tabs.map (·.2)
          · obtain ⟨more, z⟩ := un.tbls b _ (hin hm)
            have e2 : s'.heap.get? b = some { cls := .none, data := .fields (#[] ++ more) } := hok' b _ z
            have eo := of_tabs hT e hm
            subst eo
            obtain ⟨p, hp, rfl⟩ := List.mem_map.mp hm
            exact ⟨.inr (.inl ⟨((hT p hp).1.tab (hT p hp).2).isCodeTable, rfl, #[], more, rfl, e2⟩), _, e2⟩
          · have z : s'.heap.get? b = some o := by
              have hb := hout hm
              rcases hS b with z | ⟨_, ob, xs, z, _⟩
              · rw [z] at hb
                exact un.keep b o e hb (by intro z; exact absurd (show b ∈ ([] : List Addr) from z) (by simp)) (by simp)
              · rw [z] at hb
                have z2 := un.frzs b ob _ hb
                obtain ⟨e1, _⟩ := hok b _ hb
                obtain ⟨e2, _⟩ := hok' b _ z2
                rw [e] at e1; cases e1
                exact e2
            exact ⟨.inl z, o, z⟩
        exact ⟨rfl, ⟨fun b o e => (old b o e).1, fun b o e => (old b o e).2⟩, os, bare⟩
  cases hk : K.lookup a with
  | some o =>
    have e := KX a o hk
    rw [ha] at e
    cases e
    exact core (fun _ => none) (fun _ => .inl rfl) (.inr ⟨_, vs.toArray, _, hk, rfl, rfl, rfl, by rw [List.size_toArray, lenV]; exact hl, by simpa using rv⟩) fun b u z => by have z' : (none : Option HO) = some u := z; cases z'
  | none =>
    refine core (fun b => if b = a then some (.frz { cls := .type "list", data := .seq vs.toArray } (.lst (ns.map V.int))) else none) (fun b => ?_) (.inl (.inr ⟨{ cls := .type "list", data := .seq vs.toArray }, if_pos rfl⟩)) fun b u z => ?_
    · by_cases hb : b = a
      · exact .inr ⟨hb, _, _, if_pos hb, hk⟩
      · exact .inl (if_neg hb)
    · by_cases hb : b = a
      · have z' := (if_pos hb).symm.trans z
        cases z'
        subst hb
        exact ⟨ha, by rw [List.length_map]; exact hl, vs, _, rv, ha⟩
      · have z' := (if_neg hb).symm.trans z
        cases z'
theorem walk_tabs {l : PySem.W.OpenLaw} {n k : Nat} {q : Program} {loose : List Str} {XP : (Str → Option Value) → Heap → Prop} {YP : World → Heap → Prop} {d : DefRec} {K : Params → PySem.W.Frag} {x : Str}
    (hn : l.most = some n) (hn2 : n ≤ sizeLine) (hdf : d.params.defaults = []) (hr : Room k callerA)
    (hY : ∀ (w : World) (h : Heap), YP w h → (K w.params).In h)
    (F : ∀ (w : World) (mg mb : Str → Option Value) (mean : ExcName → Option Value) (fa : Addr) (h : Heap), (K w.params).In h → Top q (looseW q loose) mean mg mb h → mg d.name = some (.ref fa) →
      ∃ (fd : FuncData) (tabs : List (Addr × Addr)) (m : MF), (∀ (s : Shared) (u : Value), BindsTo s fd ⟨[u], []⟩ [(x, u)]) ∧ TabsAt tabs h ∧ (tabs.map (·.2)).Nodup ∧ noTabs (K w.params) = true ∧
        (∀ base : Heap, (K w.params).In base → base.Ns mainGlobals mg → (∀ q ∈ tabs, CodeHd base q.1 q.2) → (∃ bm ob, BMod base mainGlobals mg bm ob) → FnOk l.prog w (K w.params) mg base CX0 k fa fd [x] (spOf (K w.params) m)) ∧
        ∀ ns : List Int, ns.length ≤ n → ∃ h', m [scr (ns.map PyData.int)] (tabs.map fun q => .tab q.2) = some (.bool true, h')) :
    PySem.W.WalkO q loose XP YP l.row.toRowW d [] (fun f vs => PySem.call f vs) := by
  refine Att.attach_call hn hdf fun w s₀ s₁ mg mb fa o pm cd doc a vs ns G Y ho hd hcd hmg hobj hints hlen hg => ?_
  have KX := hY w _ Y
  obtain ⟨fd, tabs, m, hb, hT, tnd, hK, hF, hsp⟩ := F w mg mb _ fa _ KX G.T hmg
  exact law_tabs KX G.T.g G.T.b G.T.builtins G.T.nolimit hg hT tnd hK (let ⟨bm, ob, a, b, c, d, e, f⟩ := G.T.bmain; ⟨bm, ob, G.T.g, a, b, c, d, e, f⟩) hobj hints (Nat.le_trans hlen hn2) hr hF hb (hsp ns hlen)
end Q
set_option Elab.async false
set_option linter.all false
set_option maxRecDepth 100000
namespace Q
open PySem PySem.Spec PySem.W PyProof.Rows L2
def IB (k : Bool) (h : Heap) (i l : Addr) (n : Nat) : Prop := if k then h.IsTupleIter i l n else h.IsListIter i l n
def QB (k : Bool) (h : Heap) (l : Addr) (xs : Array Value) : Prop := if k then h.IsTuple l xs else h.IsList l xs
theorem IB.ob {k : Bool} {h : Heap} {i l : Addr} {n : Nat} (x : IB k h i l n) : ∃ o, h.get? i = some o ∧ ∀ v, o.data ≠ .cell v := by
  cases k with
  | false => obtain ⟨o, e, _, d⟩ := (show h.IsListIter i l n from x); exact ⟨o, e, fun v z => by rw [d] at z; cases z⟩
  | true => obtain ⟨o, e, _, d⟩ := (show h.IsTupleIter i l n from x); exact ⟨o, e, fun v z => by rw [d] at z; cases z⟩
theorem IB.at {k : Bool} {h h' : Heap} {i l : Addr} {n : Nat} (x : IB k h i l n) (kp : ∀ o, h.get? i = some o → h'.get? i = some o) : IB k h' i l n := by
  cases k with
  | false => obtain ⟨o, e, r⟩ := (show h.IsListIter i l n from x); exact (⟨o, kp o e, r⟩ : h'.IsListIter i l n)
  | true => obtain ⟨o, e, r⟩ := (show h.IsTupleIter i l n from x); exact (⟨o, kp o e, r⟩ : h'.IsTupleIter i l n)
theorem IB.eb {k : Bool} {h h' : Heap} {i l a : Addr} {n : Nat} (x : IB k h i l n) (sb : Heap.ExtBut a h h') (ne : i ≠ a) : IB k h' i l n := x.at fun o e => sb i o ne e
theorem QB.at {k : Bool} {h h' : Heap} {l : Addr} {xs : Array Value} (x : QB k h l xs) (kp : ∀ o, h.get? l = some o → h'.get? l = some o) : QB k h' l xs := by
  cases k with
  | false => obtain ⟨o, e, r⟩ := (show h.IsList l xs from x); exact (⟨o, kp o e, r⟩ : h'.IsList l xs)
  | true => obtain ⟨o, e, r⟩ := (show h.IsTuple l xs from x); exact (⟨o, kp o e, r⟩ : h'.IsTuple l xs)
theorem QB.eb {k : Bool} {h h' : Heap} {l a : Addr} {xs : Array Value} (x : QB k h l xs) (sb : Heap.ExtBut a h h') (ne : l ≠ a) : QB k h' l xs := x.at fun o e => sb l o ne e
def itName (k : Bool) : String := if k then "tuple_iterator" else "list_iterator"
def itObj (k : Bool) (l : Addr) : Obj := { cls := .type (itName k), data := .fields #[.ref l, .int 0 0] }
theorem ib_new {k : Bool} {h : Heap} {i l : Addr} (e : h.get? i = some (itObj k l)) : IB k h i l 0 := by
  cases k with
  | false => exact (⟨_, e, rfl, rfl⟩ : h.IsListIter i l 0)
  | true => exact (⟨_, e, rfl, rfl⟩ : h.IsTupleIter i l 0)
section
variable {P : Program} {w : World} {A : Around} {E : Value → Shared → Prop} {s : Shared}
theorem iterB {k : Bool} {l : Addr} {xs : Array Value} {Q : Value → Shared → Prop} (ql : QB k s.heap l xs) (h : Q (.ref s.heap.objs.size) { s with heap := s.heap.push (itObj k l) }) : wpAny (model P w) A (pyIter (.ref l)) Q E s := by
  cases k with
  | false => exact wpAny_pyIter_list (show s.heap.IsList l xs from ql) h
  | true => exact wpAny_pyIter_tuple (show s.heap.IsTuple l xs from ql) h
theorem nextT_item {it t : Addr} {i : Nat} {ts : Array Value} {x : Value} {Q : Value → Shared → Prop} (st : s.heap.IsTupleIter it t i) (qt : s.heap.IsTuple t ts) (ex : ts[i]? = some x)
    (fin : ∀ h', h'.IsTupleIter it t (i + 1) → Heap.SameBut it s.heap h' → Q x { s with heap := h' }) : wpAny (model P w) A (Builtin.SmallTypes.nextOf (.ref it)) Q E s := by
  obtain ⟨oi, ei, ci, di⟩ := id st
  obtain ⟨ot, et, _, nt, dt⟩ := qt
  unfold Builtin.SmallTypes.nextOf
  refine wpAny_bind (wpAny_callSpecial?_slot (name := Str.ofString "__next__") st.typeIs F.slot_tuple_iterator_next (wpAny_call_entry F.slot_tuple_iterator_next st.typeIs F.entry_tuple_iterator_next ?_ (F.args_tuple_iterator_next_1 _)))
  show wpAny _ _ (field (.ref it) 0 >>= _) _ _ s
  refine wpAny_bind (wpAny_field ei di (x := .ref t) rfl ?_)
  show wpAny _ _ (if (Value.ref t == Value.none) = true then _ else _) _ _ s
  rw [if_neg (by exact Bool.false_ne_true)]
  show wpAny _ _ (field (.ref it) 1 >>= _) _ _ s
  refine wpAny_bind (wpAny_field ei di (x := .int i 0) rfl ?_)
  show wpAny _ _ (seqItems? (.ref t) >>= _) _ _ s
  refine wpAny_bind (wpAny_seqItems et dt ?_)
  simp only [Int.toNat_natCast, ex]
  refine wpAny_bind (wpAny_setField ei di (by simp) (wpAny_pure ⟨x, rfl, wpAny_pure (fin _ ?_ (Heap.SameBut.update ..))⟩))
  exact ⟨_, Heap.get?_update_self _ ei (Obj.isFreed_of_fields (Obj.data_mapFields di _)), (Obj.cls_mapFields ..).trans ci, by rw [Obj.data_mapFields di]; simp [rawInt]⟩
theorem nextT_end {it t : Addr} {i : Nat} {ts : Array Value} {Q : Value → Shared → Prop} (hA : A.handled = none) (st : s.heap.IsTupleIter it t i) (qt : s.heap.IsTuple t ts) (ex : ts[i]? = none)
    (fin : ∀ h' e, Heap.ExtBut it s.heap h' → (∃ o, h'.get? e = some o ∧ o.cls = .type "StopIteration") → E (.ref e) { s with heap := h' }) : wpAny (model P w) A (Builtin.SmallTypes.nextOf (.ref it)) Q E s := by
  obtain ⟨oi, ei, ci, di⟩ := id st
  obtain ⟨ot, et, _, nt, dt⟩ := qt
  unfold Builtin.SmallTypes.nextOf
  refine wpAny_bind (wpAny_callSpecial?_slot (name := Str.ofString "__next__") st.typeIs F.slot_tuple_iterator_next (wpAny_call_entry F.slot_tuple_iterator_next st.typeIs F.entry_tuple_iterator_next ?_ (F.args_tuple_iterator_next_1 _)))
  show wpAny _ _ (field (.ref it) 0 >>= _) _ _ s
  refine wpAny_bind (wpAny_field ei di (x := .ref t) rfl ?_)
  show wpAny _ _ (if (Value.ref t == Value.none) = true then _ else _) _ _ s
  rw [if_neg (by exact Bool.false_ne_true)]
  show wpAny _ _ (field (.ref it) 1 >>= _) _ _ s
  refine wpAny_bind (wpAny_field ei di (x := .int i 0) rfl ?_)
  show wpAny _ _ (seqItems? (.ref t) >>= _) _ _ s
  refine wpAny_bind (wpAny_seqItems et dt ?_)
  simp only [Int.toNat_natCast, ex]
  refine wpAny_bind (wpAny_rule (wpAny_bind (wpAny_setField ei di (by simp) ?_)))
  show wpAny _ _ (newExc (.type "StopIteration") [] >>= _) _ _ _
  refine wpAny_bind ?_
  simp only [newExc, newTuple]
  refine wpAny_bind (wpAny_newObj_type ?_ (by size_fits))
  refine wpAny_bind (m := firstArgMember _ _) (wpAny_of_eq (a := Value.none) (by first | rfl | (simp only [firstArgMember]; rfl)) ?_)
  refine wpAny_newObj_type ?_ (by size_fits)
  simp only [raiseNew]
  refine wpAny_bind (wpAny_handled ?_)
  first | rw [show A.in1.handled = none from hA] | rw [hA]
  refine wpAny_bind (wpAny_pure (wpAny_throw ?_))
  exact fin _ _ (((Heap.SameBut.update ..).extBut.push _).push _) ⟨_, Heap.get?_push_size _ rfl, rfl⟩
theorem nextB_item {k : Bool} {it t : Addr} {i : Nat} {ts : Array Value} {x : Value} {Q : Value → Shared → Prop} (st : IB k s.heap it t i) (qt : QB k s.heap t ts) (ex : ts[i]? = some x)
    (fin : ∀ h', IB k h' it t (i + 1) → Heap.SameBut it s.heap h' → Q x { s with heap := h' }) : wpAny (model P w) A (Builtin.SmallTypes.nextOf (.ref it)) Q E s := by
  cases k with
  | false => exact wpAny_nextOf_list_item (show s.heap.IsListIter it t i from st) (show s.heap.IsList t ts from qt) ex fin
  | true => exact nextT_item (show s.heap.IsTupleIter it t i from st) (show s.heap.IsTuple t ts from qt) ex fin
theorem nextB_end {k : Bool} {it t : Addr} {i : Nat} {ts : Array Value} {Q : Value → Shared → Prop} (hA : A.handled = none) (st : IB k s.heap it t i) (qt : QB k s.heap t ts) (ex : ts[i]? = none)
    (fin : ∀ h' e, Heap.ExtBut it s.heap h' → (∃ o, h'.get? e = some o ∧ o.cls = .type "StopIteration") → E (.ref e) { s with heap := h' }) : wpAny (model P w) A (Builtin.SmallTypes.nextOf (.ref it)) Q E s := by
  cases k with
  | false => exact wpAny_nextOf_list_end hA (show s.heap.IsListIter it t i from st) (show s.heap.IsList t ts from qt) ex fin
  | true => exact nextT_end hA (show s.heap.IsTupleIter it t i from st) (show s.heap.IsTuple t ts from qt) ex fin
theorem zipB_item {k1 k2 : Bool} {z TI TO i1 i2 l1 l2 : Addr} {n1 n2 : Nat} {xs ys : Array Value} {x y a b : Value} {Q : Value → Shared → Prop} (D : ZipApart z TI TO i1 i2 l1 l2) (zo : IsZip s.heap z TI TO .none) (ti : IsPair s.heap TI (.ref i1) (.ref i2)) (to : IsPair s.heap TO a b)
    (j1 : IB k1 s.heap i1 l1 n1) (j2 : IB k2 s.heap i2 l2 n2) (q1 : QB k1 s.heap l1 xs) (q2 : QB k2 s.heap l2 ys) (ex : xs[n1]? = some x) (ey : ys[n2]? = some y)
    (fin : ∀ h', IsZip h' z TI TO (rawInt s.heap.objs.size) → IsPair h' TO x y → IB k1 h' i1 l1 (n1 + 1) → IB k2 h' i2 l2 (n2 + 1) → IsPair h' s.heap.objs.size x y → h'.objs.size = s.heap.objs.size + 1 →
      (∀ c o, c ≠ z → c ≠ TO → c ≠ i1 → c ≠ i2 → s.heap.get? c = some o → h'.get? c = some o) → Q (.ref s.heap.objs.size) { s with heap := h' }) :
    wpAny (model P w) A (Builtin.«zip.__next__» ⟨[.ref z], []⟩) (fun f s' => ∃ v, f = .done (.ret v) ∧ Q v s') E s := by
  show wpAny _ _ (field (.ref z) 2 >>= _) _ _ _
  refine wpAny_bind (wpAny_field zo rfl (x := .bool false) rfl ?_)
  show wpAny _ _ (field (.ref z) 3 >>= _) _ _ _
  refine wpAny_bind (wpAny_field zo rfl (x := .ref TI) rfl ?_)
  refine wpAny_bind (wpAny_seqItems ti rfl ?_)
  show wpAny _ _ (Builtin.SmallTypes.ownedTupleIsFree (.ref z) >>= _) _ _ _
  refine wpAny_bind ?_
  unfold Builtin.SmallTypes.ownedTupleIsFree
  refine wpAny_bind (wpAny_field zo rfl (x := .none) rfl (wpAny_pure ?_))
  simp only [if_true]
  refine wpAny_bind (wpAny_rule ?_)
  refine wpAny_bind (wpAny_field zo rfl (x := .ref TO) rfl ?_)
  refine wpAny_bind (wpAny_setField_rec zo (by simp) fun g1 z1 s1 => ?_)
  replace z1 : IsZip g1 z TI TO .ellipsis := z1
  refine wpAny_bind ?_
  simp only [List.zipIdx_cons, List.zipIdx_nil, List.forIn_cons, List.forIn_nil]
  refine wpAny_bind (wpAny_bind (wpAny_onRaise ?_))
  show wpAny _ _ (Builtin.SmallTypes.nextOf (.ref i1) >>= _) _ _ _
  refine wpAny_bind (nextB_item (j1.eb s1.extBut D.i1z) (q1.eb s1.extBut D.l1z) ex fun g2 a2 s2 => wpAny_pure ?_)
  have o2 : IsPair g2 TO a b := s2.extBut _ _ D.TOi1 (s1.extBut _ _ D.TOz to)
  refine wpAny_bind (wpAny_seqItems o2 rfl ?_)
  refine wpAny_bind (wpAny_updateSeq_pair o2 fun g3 o3 s3 => ?_)
  replace o3 : IsPair g3 TO x b := o3
  refine wpAny_bind (wpAny_letGo (wpAny_pure ?_))
  refine wpAny_bind (wpAny_bind (wpAny_onRaise ?_))
  show wpAny _ _ (Builtin.SmallTypes.nextOf (.ref i2) >>= _) _ _ _
  refine wpAny_bind (nextB_item (((j2.eb s1.extBut D.i2z).eb s2.extBut D.i12.symm).eb s3.extBut D.TOi2.symm) (((q2.eb s1.extBut D.l2z).eb s2.extBut D.l2i1).eb s3.extBut D.l2TO) ey fun g4 b4 s4 => wpAny_pure ?_)
  have o4 : IsPair g4 TO x b := s4.extBut _ _ D.TOi2 o3
  refine wpAny_bind (wpAny_seqItems o4 rfl ?_)
  refine wpAny_bind (wpAny_updateSeq_pair o4 fun g5 o5 s5 => ?_)
  replace o5 : IsPair g5 TO x y := o5
  refine wpAny_bind (wpAny_letGo (wpAny_pure (wpAny_pure ?_)))
  refine wpAny_bind (wpAny_seqItems o5 rfl ?_)
  refine wpAny_bind (wpAny_newTuple ?_)
  have sz : g5.objs.size = s.heap.objs.size := by rw [s5.1, s4.1, s3.1, s2.1, s1.1]
  have z5 : IsZip g5 z TI TO .ellipsis := s5.extBut _ _ D.TOz.symm (s4.extBut _ _ D.i2z.symm (s3.extBut _ _ D.TOz.symm (s2.extBut _ _ D.i1z.symm z1)))
  have kp5 : ∀ c o, c ≠ z → c ≠ TO → c ≠ i1 → c ≠ i2 → s.heap.get? c = some o → g5.get? c = some o := fun c o c1 c2 c3 c4 e =>
    s5.extBut _ _ c2 (s4.extBut _ _ c4 (s3.extBut _ _ c2 (s2.extBut _ _ c3 (s1.extBut _ _ c1 e))))
  have a5 : IB k1 g5 i1 l1 (n1 + 1) := ((a2.eb s3.extBut D.TOi1.symm).eb s4.extBut D.i12).eb s5.extBut D.TOi1.symm
  have b5 : IB k2 g5 i2 l2 (n2 + 1) := b4.eb s5.extBut D.TOi2.symm
  have zl : z < g5.objs.size := Heap.lt_size z5
  show wpAny _ _ (Builtin.SmallTypes.ownedTupleHandOut (.ref z) (.ref g5.objs.size) >>= _) _ _ _
  refine wpAny_bind ?_
  unfold Builtin.SmallTypes.ownedTupleHandOut
  have z6 : IsZip (g5.push { cls := .type "tuple", data := .seq #[x, y] }) z TI TO .ellipsis := Heap.get?_push_of_some _ z5
  refine wpAny_bind (wpAny_setField_rec z6 (by simp) fun g7 z7 s7 => ?_)
  replace z7 : IsZip g7 z TI TO (rawInt g5.objs.size) := z7
  refine wpAny_setField_rec z7 (by simp) fun g8 z8 s8 => ?_
  replace z8 : IsZip g8 z TI TO (rawInt g5.objs.size) := z8
  have up : ∀ c o, c ≠ z → g5.get? c = some o → g8.get? c = some o := fun c o c1 e => s8.extBut _ _ c1 (s7.extBut _ _ c1 (Heap.get?_push_of_some _ e))
  have t8 : IsPair g8 g5.objs.size x y := s8.extBut _ _ (Nat.ne_of_gt zl) (s7.extBut _ _ (Nat.ne_of_gt zl) (Heap.get?_push_size _ rfl))
  have n8 : g8.objs.size = g5.objs.size + 1 := by rw [s8.1, s7.1, Heap.size_push]
  rw [sz] at z8 t8 n8
  refine wpAny_pure ⟨_, rfl, ?_⟩
  show Q (.ref g5.objs.size) _
  rw [sz]
  exact fin g8 z8 (up _ _ D.TOz o5) (a5.at fun o e => up _ o D.i1z e) (b5.at fun o e => up _ o D.i2z e) t8 n8 fun c o c1 c2 c3 c4 e => up c o c1 (kp5 c o c1 c2 c3 c4 e)
theorem zipB_end {k1 k2 : Bool} {z TI TO i1 i2 l1 l2 : Addr} {n1 n2 : Nat} {xs ys : Array Value} {a b : Value} {Q : Fin → Shared → Prop} (hA : A.handled = none) (D : ZipApart z TI TO i1 i2 l1 l2) (zo : IsZip s.heap z TI TO .none) (ti : IsPair s.heap TI (.ref i1) (.ref i2)) (to : IsPair s.heap TO a b)
    (j1 : IB k1 s.heap i1 l1 n1) (j2 : IB k2 s.heap i2 l2 n2) (q1 : QB k1 s.heap l1 xs) (q2 : QB k2 s.heap l2 ys) (hend : xs[n1]? = none ∨ ys[n2]? = none)
    (fin : ∀ h' e, (∀ c o, c ≠ z → c ≠ TO → c ≠ i1 → c ≠ i2 → s.heap.get? c = some o → h'.get? c = some o) → (∃ o, h'.get? e = some o ∧ o.cls = .type "StopIteration") → E (.ref e) { s with heap := h' }) :
    wpAny (model P w) A (Builtin.«zip.__next__» ⟨[.ref z], []⟩) Q E s := by
  show wpAny _ _ (field (.ref z) 2 >>= _) _ _ _
  refine wpAny_bind (wpAny_field zo rfl (x := .bool false) rfl ?_)
  show wpAny _ _ (field (.ref z) 3 >>= _) _ _ _
  refine wpAny_bind (wpAny_field zo rfl (x := .ref TI) rfl ?_)
  refine wpAny_bind (wpAny_seqItems ti rfl ?_)
  show wpAny _ _ (Builtin.SmallTypes.ownedTupleIsFree (.ref z) >>= _) _ _ _
  refine wpAny_bind ?_
  unfold Builtin.SmallTypes.ownedTupleIsFree
  refine wpAny_bind (wpAny_field zo rfl (x := .none) rfl (wpAny_pure ?_))
  simp only [if_true]
  refine wpAny_bind (wpAny_rule ?_)
  refine wpAny_bind (wpAny_field zo rfl (x := .ref TO) rfl ?_)
  refine wpAny_bind (wpAny_setField_rec zo (by simp) fun g1 z1 s1 => ?_)
  replace z1 : IsZip g1 z TI TO .ellipsis := z1
  refine wpAny_bind ?_
  simp only [List.zipIdx_cons, List.zipIdx_nil, List.forIn_cons, List.forIn_nil]
  refine wpAny_bind (wpAny_bind (wpAny_onRaise ?_))
  show wpAny _ _ (Builtin.SmallTypes.nextOf (.ref i1) >>= _) _ _ _
  cases ex : xs[n1]? with
  | none =>
    refine wpAny_bind (nextB_end hA (j1.eb s1.extBut D.i1z) (q1.eb s1.extBut D.l1z) ex fun g2 e s2 he => ?_)
    obtain ⟨oe, hoe, hce⟩ := he
    have z2 : IsZip g2 z TI TO .ellipsis := s2 _ _ D.i1z.symm z1
    have ne : e ≠ z := fun x => by subst x; rw [z2] at hoe; cases hoe; simp at hce
    refine wpAny_setField_rec z2 (by simp) fun g3 _ s3 => fin g3 e (fun c o c1 _ c3 _ x => s3.extBut _ _ c1 (s2 _ _ c3 (s1.extBut _ _ c1 x))) ⟨oe, s3.extBut _ _ ne hoe, hce⟩
  | some x =>
    have ey : ys[n2]? = none := by
      rcases hend with h | h
      · rw [ex] at h; cases h
      · exact h
    refine wpAny_bind (nextB_item (j1.eb s1.extBut D.i1z) (q1.eb s1.extBut D.l1z) ex fun g2 a2 s2 => wpAny_pure ?_)
    have o2 : IsPair g2 TO a b := s2.extBut _ _ D.TOi1 (s1.extBut _ _ D.TOz to)
    refine wpAny_bind (wpAny_seqItems o2 rfl ?_)
    refine wpAny_bind (wpAny_updateSeq_pair o2 fun g3 o3 s3 => ?_)
    refine wpAny_bind (wpAny_letGo (wpAny_pure ?_))
    refine wpAny_bind (wpAny_bind (wpAny_onRaise ?_))
    show wpAny _ _ (Builtin.SmallTypes.nextOf (.ref i2) >>= _) _ _ _
    refine wpAny_bind (nextB_end hA (((j2.eb s1.extBut D.i2z).eb s2.extBut D.i12.symm).eb s3.extBut D.TOi2.symm) (((q2.eb s1.extBut D.l2z).eb s2.extBut D.l2i1).eb s3.extBut D.l2TO) ey fun g4 e s4 he => ?_)
    obtain ⟨oe, hoe, hce⟩ := he
    have z4 : IsZip g4 z TI TO .ellipsis := s4 _ _ D.i2z.symm (s3.extBut _ _ D.TOz.symm (s2.extBut _ _ D.i1z.symm z1))
    have ne : e ≠ z := fun x => by subst x; rw [z4] at hoe; cases hoe; simp at hce
    refine wpAny_setField_rec z4 (by simp) fun g5 _ s5 => fin g5 e (fun c o c1 c2 c3 c4 x => s5.extBut _ _ c1 (s4 _ _ c4 (s3.extBut _ _ c2 (s2.extBut _ _ c3 (s1.extBut _ _ c1 x))))) ⟨oe, s5.extBut _ _ ne hoe, hce⟩
theorem zipB_next {k1 k2 : Bool} {z TI TO i1 i2 l1 l2 : Addr} {n1 n2 : Nat} {xs ys : Array Value} {x y a b : Value} {Q : Option Value → Shared → Prop} (D : ZipApart z TI TO i1 i2 l1 l2) (zo : IsZip s.heap z TI TO .none) (ti : IsPair s.heap TI (.ref i1) (.ref i2)) (to : IsPair s.heap TO a b)
    (j1 : IB k1 s.heap i1 l1 n1) (j2 : IB k2 s.heap i2 l2 n2) (q1 : QB k1 s.heap l1 xs) (q2 : QB k2 s.heap l2 ys) (ex : xs[n1]? = some x) (ey : ys[n2]? = some y)
    (fin : ∀ h', IsZip h' z TI TO (rawInt s.heap.objs.size) → IsPair h' TO x y → IB k1 h' i1 l1 (n1 + 1) → IB k2 h' i2 l2 (n2 + 1) → IsPair h' s.heap.objs.size x y → h'.objs.size = s.heap.objs.size + 1 →
      (∀ c o, c ≠ z → c ≠ TO → c ≠ i1 → c ≠ i2 → s.heap.get? c = some o → h'.get? c = some o) → Q (some (.ref s.heap.objs.size)) { s with heap := h' }) : wpAny (model P w) A (pyNext (.ref z)) Q E s := by
  have ty : s.TypeIs (.ref z) "zip" := ⟨_, zo, rfl⟩
  unfold pyNext
  exact wpAny_bind (wpAny_attempt (wpAny_callSpecial?_slot (name := Str.ofString "__next__") ty F.slot_zip_next (wpAny_call_entry F.slot_zip_next ty F.entry_zip_next (zipB_item D zo ti to j1 j2 q1 q2 ex ey fun h' a1 a2 a3 a4 a5 a6 a7 => wpAny_pure (fin h' a1 a2 a3 a4 a5 a6 a7)) (F.args_zip_next_1 _))))
theorem zipB_stop {k1 k2 : Bool} {z TI TO i1 i2 l1 l2 : Addr} {n1 n2 : Nat} {xs ys : Array Value} {a b : Value} {Q : Option Value → Shared → Prop} (hA : A.handled = none) (D : ZipApart z TI TO i1 i2 l1 l2) (zo : IsZip s.heap z TI TO .none) (ti : IsPair s.heap TI (.ref i1) (.ref i2)) (to : IsPair s.heap TO a b)
    (j1 : IB k1 s.heap i1 l1 n1) (j2 : IB k2 s.heap i2 l2 n2) (q1 : QB k1 s.heap l1 xs) (q2 : QB k2 s.heap l2 ys) (hend : xs[n1]? = none ∨ ys[n2]? = none)
    (fin : ∀ h', (∀ c o, c ≠ z → c ≠ TO → c ≠ i1 → c ≠ i2 → s.heap.get? c = some o → h'.get? c = some o) → Q none { s with heap := h' }) : wpAny (model P w) A (pyNext (.ref z)) Q E s := by
  have ty : s.TypeIs (.ref z) "zip" := ⟨_, zo, rfl⟩
  unfold pyNext
  refine wpAny_bind (wpAny_attempt (wpAny_callSpecial?_slot (name := Str.ofString "__next__") ty F.slot_zip_next (wpAny_call_entry F.slot_zip_next ty F.entry_zip_next (zipB_end hA D zo ti to j1 j2 q1 q2 hend fun h' e kp he => ?_) (F.args_zip_next_1 _))))
  obtain ⟨o, ho, hc⟩ := he
  refine wpAny_bind (wpAny_isInstance (T := "StopIteration") (b := true) ⟨o, ho, hc⟩ isSubtype_stop ?_)
  exact wpAny_pure (fin _ kp)
end
abbrev zz1 (k : Bool) (h : Heap) (l : Addr) : Heap := h.push (itObj k l)
abbrev zz2 (k k' : Bool) (h : Heap) (l l' : Addr) : Heap := (zz1 k h l).push (itObj k' l')
abbrev zz3 (k k' : Bool) (h : Heap) (l l' : Addr) : Heap := (zz2 k k' h l l').push { cls := .type "tuple", data := .seq #[.ref h.objs.size, .ref (zz1 k h l).objs.size] }
abbrev zz4 (k k' : Bool) (h : Heap) (l l' : Addr) : Heap := (zz3 k k' h l l').push { cls := .type "tuple", data := .seq #[.none, .none] }
abbrev zz5 (k k' : Bool) (h : Heap) (l l' : Addr) : Heap := (zz4 k k' h l l').push { cls := .type "zip", data := .fields #[.none, .bool false, .bool false, .ref (zz2 k k' h l l').objs.size, .ref (zz3 k k' h l l').objs.size] }
theorem zipB_new (k k' : Bool) (l l' : Addr) (xs ys : Array Value) : Meets (Builtin.«zip.__new__» ⟨[.type "zip", .ref l, .ref l'], []⟩) (fun _ R s => QB k s.heap l xs ∧ QB k' s.heap l' ys ∧ R (.ok (.ret (.ref (zz4 k k' s.heap l l').objs.size))) { s with heap := zz5 k k' s.heap l l' }) :=
  .of_wp fun P w A R s h => by
    obtain ⟨hp, g, d, tk, os⟩ := s
    obtain ⟨h1, h2, h⟩ := h
    have hsub := sub_zip
    have L1 : QB k (Shared.heap ⟨hp, g, d, tk, os⟩) l xs := h1
    have L2 : QB k' (Shared.heap ⟨hp.push (itObj k l), g, d, tk, os⟩) l' ys := QB.at h2 fun o e => Heap.get?_push_of_some _ e
    wp_walk using iterB L1, iterB L2
    exact ⟨_, rfl, h⟩
section
variable {P : Program} {w : World} {A : Around} {E : Value → Shared → Prop} {s : Shared}
theorem zipB_make {k k' : Bool} {l l' : Addr} {xs ys : Array Value} {Q : Value → Shared → Prop} (h1 : QB k s.heap l xs) (h2 : QB k' s.heap l' ys)
    (fin : ∀ h', IsZip h' (s.heap.objs.size + 4) (s.heap.objs.size + 2) (s.heap.objs.size + 3) .none → IsPair h' (s.heap.objs.size + 2) (.ref s.heap.objs.size) (.ref (s.heap.objs.size + 1)) → IsPair h' (s.heap.objs.size + 3) .none .none → IB k h' s.heap.objs.size l 0 → IB k' h' (s.heap.objs.size + 1) l' 0 →
      (∀ c o, s.heap.get? c = some o → h'.get? c = some o) → Q (.ref (s.heap.objs.size + 4)) { s with heap := h' }) : wpAny (model P w) A (call (.type "zip") [.ref l, .ref l']) Q E s := by
  refine callType_new F.called_zip (by decide) (F.typeCall_zip_2 _ _) (F.newCall_zip_2 _ _) (fun obj => F.args_object_init_3 obj _ _) F.entry_zip_new (zipB_new k k' l l' xs ys) ⟨h1, h2, ?_⟩
  have n1 : (zz1 k s.heap l).objs.size = s.heap.objs.size + 1 := Heap.size_push ..
  have n2 : (zz2 k k' s.heap l l').objs.size = s.heap.objs.size + 2 := by rw [Heap.size_push, n1]
  have n3 : (zz3 k k' s.heap l l').objs.size = s.heap.objs.size + 3 := by rw [Heap.size_push, n2]
  have n4 : (zz4 k k' s.heap l l').objs.size = s.heap.objs.size + 4 := by rw [Heap.size_push, n3]
  have g5 : (zz5 k k' s.heap l l').get? (zz4 k k' s.heap l l').objs.size = some _ := Heap.get?_push_size _ rfl
  have g4 : (zz5 k k' s.heap l l').get? (zz3 k k' s.heap l l').objs.size = some _ := Heap.get?_push_of_some _ (Heap.get?_push_size _ rfl)
  have g3 : (zz5 k k' s.heap l l').get? (zz2 k k' s.heap l l').objs.size = some _ := Heap.get?_push_of_some _ (Heap.get?_push_of_some _ (Heap.get?_push_size _ rfl))
  have g2 : (zz5 k k' s.heap l l').get? (zz1 k s.heap l).objs.size = some _ := Heap.get?_push_of_some _ (Heap.get?_push_of_some _ (Heap.get?_push_of_some _ (Heap.get?_push_size _ rfl)))
  have g1 : (zz5 k k' s.heap l l').get? s.heap.objs.size = some _ := Heap.get?_push_of_some _ (Heap.get?_push_of_some _ (Heap.get?_push_of_some _ (Heap.get?_push_of_some _ (Heap.get?_push_size _ rfl))))
  show _ ∧ _
  rw [n2, n3, n4] at g5
  rw [n1, n2] at g3
  rw [n3] at g4
  rw [n1] at g2
  rw [n4]
  exact ⟨⟨_, g5, rfl⟩, fin _ g5 g3 g4 (ib_new g1) (ib_new g2) fun c o x => Heap.get?_push_of_some _ (Heap.get?_push_of_some _ (Heap.get?_push_of_some _ (Heap.get?_push_of_some _ (Heap.get?_push_of_some _ x))))⟩
end
end Q
set_option Elab.async false
set_option linter.all false
set_option maxRecDepth 100000
namespace Q
open PySem PySem.Spec PySem.W PyProof.Rows L2
section
variable {X : Cx} {pins : List (Addr × Obj)} {σ : L2.St} {H : Hp} {s : Shared} {a : Addr} {xs ys : List V} {k : Bool}
theorem seqB (I : Inv X pins σ H s) (h : SqB X.K H k a xs) : ∃ its : List Value, Vals xs its ∧ QB k s.heap a its.toArray ∧ a < s.heap.objs.size := by
  cases k with
  | false =>
    obtain ⟨its, r, p, z⟩ := I.list (show SqL X.K H a xs from h)
    exact ⟨its, r, p.isList, p.lt⟩
  | true =>
    obtain ⟨its, r, p, z⟩ := I.tuple (show SqT X.K H a xs from h)
    exact ⟨its, r, (show s.heap.IsTuple a its.toArray from p), p.lt⟩
theorem seqB_inj (I : Inv X pins σ H s) (h : SqB X.K H k a xs) (h' : SqB X.K H k a ys) : xs = ys := by
  cases k with
  | false => exact I.list_inj (show SqL X.K H a xs from h) h'
  | true => exact I.tuple_inj (show SqT X.K H a xs from h) h'
end
def ItzB (K : Fg) (k k' : Bool) (a b : Addr) : It :=
  ⟨fun i H => ∃ (xs ys : List V) (x y : V), SqB K H k a xs ∧ SqB K H k' b ys ∧ xs[i]? = some x ∧ ys[i]? = some y,
    fun i H v H' => ∃ T x y, v = .ref T ∧ H T = none ∧ H' = upd H T (.tup [x, y]) ∧ (∀ xs, SqB K H k a xs → xs[i]? = some x) ∧ ∀ ys, SqB K H k' b ys → ys[i]? = some y,
    fun i H => ∃ xs ys : List V, SqB K H k a xs ∧ SqB K H k' b ys ∧ (xs.length ≤ i ∨ ys.length ≤ i)⟩
theorem turn_zipB {P : Program} {w : World} {K : Fg} {elts : List Expr} {kk : Nat} {tpos : Pos} {k k' : Bool} {a b z TI TO i1 i2 : Addr} (D : ZipApart z TI TO i1 i2 a b) :
    Turn P w K (.Tuple elts kk tpos) (ItzB K k k' a b) [z, TI, TO, i1, i2] z (fun i h => IsZip h z TI TO .none ∧ IsPair h TI (.ref i1) (.ref i2) ∧ (∃ x y, IsPair h TO x y) ∧ IB k h i1 a i ∧ IB k' h i2 b i) where
  mem := by simp
  obj := fun i h st c hc => by
    obtain ⟨hz, hTI, ⟨x, y, hTO⟩, j1, j2⟩ := st
    have e' : c = z ∨ c = TI ∨ c = TO ∨ c = i1 ∨ c = i2 := by simpa using hc
    rcases e' with rfl | rfl | rfl | rfl | rfl
    · exact ⟨_, hz, fun v q => nomatch q⟩
    · exact ⟨_, hTI, fun v q => nomatch q⟩
    · exact ⟨_, hTO, fun v q => nomatch q⟩
    · exact j1.ob
    · exact j2.ob
  keep := fun i h h' st kp => by
    obtain ⟨hz, hTI, ⟨x, y, hTO⟩, j1, j2⟩ := st
    exact ⟨kp z (by simp) _ hz, kp TI (by simp) _ hTI, ⟨x, y, kp TO (by simp) _ hTO⟩, j1.at fun o q => kp i1 (by simp) o q, j2.at fun o q => kp i2 (by simp) o q⟩
  item := by
    intro X hP hw hK hc i pins s σ H E I hf st hg
    subst hP hw hK
    obtain ⟨hz, hTI, ⟨x0, y0, hTO⟩, j1, j2⟩ := st
    obtain ⟨xs, ys, x, y, sx, sy, hx, hy⟩ := hg
    obtain ⟨us, rx, px, _⟩ := seqB I sx
    obtain ⟨us2, ry, py, _⟩ := seqB I sy
    obtain ⟨u, hu, ru⟩ := rx.get hx
    obtain ⟨u2, hu2, ru2⟩ := ry.get hy
    have lz : z < s.heap.objs.size := Heap.lt_size hz
    refine zipB_next D hz hTI hTO j1 j2 px py (x := u) (y := u2) (by simpa using hu) (by simpa using hu2) fun h' z' TO' j1' j2' hT hsz kp => ?_
    refine ⟨_, rfl, wpAny_letOwnedTupleGo_zip (s := { s with heap := h' }) z' fun h'' z'' sb => ?_⟩
    have hT2 : h''.get? s.heap.objs.size = some { cls := .type "tuple", data := .seq #[u, u2] } := (sb.2 _ (Nat.ne_of_gt lz)).trans hT
    have new : ObjOk X.prog X.w (upd H s.heap.objs.size (.tup [x, y])) h'' s.heap.objs.size (.tup [x, y]) := ⟨by show 2 ≤ sizeLine; decide, [u, u2], .cons ru (.cons ru2 .nil), ⟨_, hT2, rfl, _, rfl⟩⟩
    have I1 : Inv X pins σ (upd H s.heap.objs.size (.tup [x, y])) { s with heap := h'' } :=
      I.turnedNew (t' := s.toks) (ch := [z, TI, TO, i1, i2]) (fun c o hb q => (sb.2 c (fun q' => hb (by simp [q']))).trans (kp c o (fun q' => hb (by simp [q'])) (fun q' => hb (by simp [q'])) (fun q' => hb (by simp [q'])) (fun q' => hb (by simp [q'])) q)) hf (Nat.le_refl _) new
    refine ⟨.ref s.heap.objs.size, _, I1, rfl, ⟨_, x, y, rfl, I.hok.fresh (Nat.le_refl _), rfl, fun l hl => by rw [seqB_inj I hl sx]; exact hx, fun l hl => by rw [seqB_inj I hl sy]; exact hy⟩, ⟨z'', ?_, ⟨u, u2, ?_⟩, ?_, ?_⟩, fun c hcm => ?_⟩
    · exact (sb.2 _ D.TIz).trans (kp _ _ D.TIz D.TITO D.TIi1 D.TIi2 hTI)
    · exact (sb.2 _ D.TOz).trans TO'
    · exact j1'.at fun o q => (sb.2 _ D.i1z).trans q
    · exact j2'.at fun o q => (sb.2 _ D.i2z).trans q
    · have hlt : c < s.heap.objs.size := by
        have e' : c = z ∨ c = TI ∨ c = TO ∨ c = i1 ∨ c = i2 := by simpa using hcm
        rcases e' with rfl | rfl | rfl | rfl | rfl
        · exact lz
        · exact Heap.lt_size hTI
        · exact Heap.lt_size hTO
        · obtain ⟨_, e, _⟩ := j1.ob; exact Heap.lt_size e
        · obtain ⟨_, e, _⟩ := j2.ob; exact Heap.lt_size e
      rw [upd_ne (Nat.ne_of_lt hlt)]
      exact (hf c hcm).1
  done := by
    intro X hP hw hK hc i pins s σ H E I hf st hg
    subst hP hw hK
    obtain ⟨hz, hTI, ⟨x0, y0, hTO⟩, j1, j2⟩ := st
    obtain ⟨xs, ys, sx, sy, hend⟩ := hg
    obtain ⟨us, rx, px, _⟩ := seqB I sx
    obtain ⟨us2, ry, py, _⟩ := seqB I sy
    have l1 := rx.length
    have l2 := ry.length
    have he : us.toArray[i]? = none ∨ us2.toArray[i]? = none := by
      rcases hend with q | q
      · exact .inl (by simp; omega)
      · exact .inr (by simp; omega)
    exact zipB_stop (I.ok.hd hc) D hz hTI hTO j1 j2 px py he fun h' kp => ⟨rfl, I.turnedL (t' := s.toks) (ch := [z, TI, TO, i1, i2]) (fun c o hb q =>
      kp c o (fun q' => hb (by simp [q'])) (fun q' => hb (by simp [q'])) (fun q' => hb (by simp [q'])) (fun q' => hb (by simp [q'])) q) hf⟩
  self := fun A i s Q E st h => wpAny_pyIter_zip st.1 h
section
variable {X : Cx} {e e2 : Expr} {p pos tpos : Pos} {elts : List Expr} {kk : Nat} {ma mb : ME}
def iZipB (K : Fg) (ta : TA) : TI := fun σ H R => ta σ H fun vs H1 => ∃ a b xs ys k k', vs = [.ref a, .ref b] ∧ SqB K H1 k a xs ∧ SqB K H1 k' b ys ∧ R (ItzB K k k' a b) H1
theorem pi_zipB {ta : TA} (hg : Gl X "zip") (hm : X.mg "zip" = none) (ha : PA X [e, e2] ta) (hs : starEach [e, e2] X.env = (false, eval e X.env) :: starEach [e2] X.env := by rfl) (hpl : (backTo pos (starEach [e2] X.env)).any (·.1) = false := by rfl) :
    PI X (.Tuple elts kk tpos) (.Call (.Name "zip" p) [e, e2] [] pos) (iZipB X.K ta) := by
  intro pins s σ H R I h
  refine Call_ (ld_blt I hg hm boot_zip5 (PyProof.Rows.callWith_type1 (thn (ha pos pins s σ H _ I h) fun us s1 ⟨vs, H1, I1, r1, q1⟩ => ?_) hs hpl))
  obtain ⟨a, b, xs, ys, k, k', ex, sx, sy, q⟩ := q1
  subst ex
  cases r1 with
  | cons r rr =>
    cases rr with
    | cons r' rr =>
      cases rr
      cases r
      cases r'
      obtain ⟨us, rx, px, la⟩ := seqB I1 sx
      obtain ⟨us2, ry, py, lb⟩ := seqB I1 sy
      refine zipB_make px py fun h' hz hTI hTO j1 j2 kp => wpAny_pyIter_zip hz ?_
      have I2 : Inv X pins σ H1 { s1 with heap := h' } := I1.kept (t' := s1.toks) kp
      refine ⟨s1.heap.objs.size + 4, [s1.heap.objs.size + 4, s1.heap.objs.size + 2, s1.heap.objs.size + 3, s1.heap.objs.size, s1.heap.objs.size + 1], _, _, H1, rfl, I2, turn_zipB (PySem.W.ktu_apart s1.heap.objs.size a b la lb), ⟨hz, hTI, ⟨_, _, hTO⟩, j1, j2⟩, fun c hcm => ?_, q⟩
      have hle : s1.heap.objs.size ≤ c := by
        have e' : c = s1.heap.objs.size + 4 ∨ c = s1.heap.objs.size + 2 ∨ c = s1.heap.objs.size + 3 ∨ c = s1.heap.objs.size ∨ c = s1.heap.objs.size + 1 := by simpa using hcm
        rcases e' with z | z | z | z | z <;> rw [z] <;> first | exact Nat.le_refl _ | exact Nat.le_add_right _ _
      exact I1.fpOk hle (I1.hok.fresh hle)
def pairs (xs ys : List D) : List D := (xs.zip ys).map fun p => .tuple [p.1, p.2]
theorem itR_zip {K : Fg} {F : Hp} {C : List Addr} {k k' : Bool} {a b : Addr} {vs us : List V} {ds es : List D} (s : SqB K F k a vs) (s' : SqB K F k' b us) (r : Rls K F C vs ds) (r' : Rls K F C us es) : ItR K (ItzB K k k' a b) F C (pairs ds es) where
  stop := fun F' G' C' h' H' f c hr => by
    refine ⟨vs, us, s.le (f.trans hr.fh), s'.le (f.trans hr.fh), ?_⟩
    unfold pairs
    rw [List.length_map, List.length_zip, r.length, r'.length]
    omega
  go := fun F' G' C' h' H' i d f c hr e => by
    unfold pairs at e
    rw [List.getElem?_map] at e
    cases q : (ds.zip es)[i]? with
    | none => rw [q] at e; cases e
    | some p =>
      rw [q] at e
      cases e
      obtain ⟨e1, e2⟩ := List.getElem?_zip_eq_some.mp q
      obtain ⟨v, ev, rv⟩ := r.get e1
      obtain ⟨u, eu, ru⟩ := r'.get e2
      have t := s.le (f.trans hr.fh)
      have t' := s'.le (f.trans hr.fh)
      refine ⟨⟨vs, us, v, u, t, t', ev, eu⟩, fun x H2 y => ?_⟩
      obtain ⟨T, x1, y1, rfl, hT, rfl, y2, y3⟩ := y
      have z1 := y2 vs t
      have z2 := y3 us t'
      rw [ev] at z1
      rw [eu] at z2
      cases z1
      cases z2
      obtain ⟨a1, r1⟩ := newTup hr hT (.cons (rv.le f c) (.cons (ru.le f c) .nil))
      exact ⟨le_upd hT _, _, _, a1, r1⟩
@[irreducible] def iZipM (ma mb : ME) : MI := fun ρ h => match ma ρ h with
  | none => none
  | some (d, h1) => match mb ρ h1 with
    | none => none
    | some (d', h2) => match seqD d, seqD d' with
      | some (_, xs), some (_, ys) => some (pairs xs ys, h2)
      | _, _ => none
theorem si_zip (hg : Gl X "zip") (hm : X.mg "zip" = none) (ha : SE X e ma) (hb : SE X e2 mb) (hs : starEach [e, e2] X.env = (false, eval e X.env) :: starEach [e2] X.env := by rfl) (hs2 : starEach [e2] X.env = (false, eval e2 X.env) :: starEach [] X.env := by rfl) (hpl : (backTo pos (starEach [e2] X.env)).any (·.1) = false := by rfl) :
    SI X (.Tuple elts kk tpos) (.Call (.Name "zip" p) [e, e2] [] pos) (iZipM ma mb) := by
  obtain ⟨t, pt, rt⟩ := ha
  obtain ⟨t2, pt2, rt2⟩ := hb
  refine .mk _ (pi_zipB hg hm (pa_cons pt (pa_cons pt2 pa_nil hs2) hs) hs hpl) fun σ H F G C ρ h ds h' R h0 er hm q => ?_
  unfold iZipM at hm
  split at hm
  · cases hm
  rename_i d h1 e1
  split at hm
  · cases hm
  rename_i d' h2 e2
  split at hm
  · rename_i k xs k' ys s1 s2
    cases hm
    refine rt σ H F G C ρ h d h1 _ h0 er e1 fun u H1 F1 G1 C1 a1 r1 => ?_
    refine rt2 σ H1 F1 G1 C1 ρ h1 d' _ _ a1.r (er.le a1.f a1.g a1.c) e2 fun u2 H2 F2 G2 C2 a2 r2 => ?_
    obtain ⟨a, vs, rfl, q1, rs1⟩ := rl_seq (r1.le a2.f a2.c) s1
    obtain ⟨b, us, rfl, q2, rs2⟩ := rl_seq r2 s2
    have q1' := q1.toB (Same.refl F2)
    have q2' := q2.toB (Same.refl F2)
    exact ⟨a, b, vs, us, k, k', rfl, q1'.le a2.r.fh, q2'.le a2.r.fh, q _ H2 F2 G2 C2 (a1.trans a2) (itR_zip q1' q2' rs1 rs2)⟩
  · cases hm
end
end Q
set_option Elab.async false
set_option linter.all false
set_option maxRecDepth 100000
namespace Q
open PySem PySem.Spec PySem.W PyProof.Rows L2
section
open PySem.SeqAt
open PySem.AutoSeq1 (wpAny_loadPart')
open PySem.MeetsSeq PySem.MeetsSeq2 PySem.MeetsSeq3
end
section
variable {P : Program} {w : World} {A : Around} {E : Value → Shared → Prop} {s : Shared}
end
section
variable {X : Cx}
end
end Q
set_option Elab.async false
set_option linter.all false
set_option maxRecDepth 100000
namespace Q
open PySem PySem.Spec PySem.W PyProof.Rows L2
def RLo (K : Fg) (t : TE) (m : ML) : Prop := ∀ (σ : L2.St) (H F G : Hp) (C : List Addr) (ρ : Rho) (h : Hq) (ds : List D) (h' : Hq) (Q : VK), HR K F G C h H → ER K F G C ρ σ → m ρ h = some (ds, h') →
  (∀ a vs H' F' G' C', Aft K F G C F' G' C' h' H' → G' a = some (.lst vs) → Rls K F' C' vs ds → Q (.ref a) H') → t σ H Q
inductive SLo (X : Cx) (e : Expr) (m : ML) : Prop
  | mk (t : TE) (p : PE X e t) (r : RLo X.K t m)
section
variable {X : Cx} {a b e : Expr} {pos : Pos} {ma mb : ME} {la lb : ML}
@[irreducible] def lVal (m : ME) : ML := fun ρ h => match m ρ h with | some (.list ds, h1) => some (ds, h1) | _ => none
@[irreducible] def lOwn (i : Nat) : ML := fun ρ h => match ρ[i]? with | some (.own xs) => some (xs, h) | _ => none
theorem slo_val (h : SE X e ma) : SLo X e (lVal ma) := by
  obtain ⟨t, p, r⟩ := h
  refine .mk t p fun σ H F G C ρ h ds h' Q h0 er hm q => ?_
  unfold lVal at hm
  split at hm
  · rename_i ds h1 e1
    cases hm
    refine r σ H F G C ρ h _ _ _ h0 er e1 fun u H1 F1 G1 C1 a1 r1 => ?_
    cases r1 with
    | lst hx rx => exact q _ _ H1 F1 G1 C1 a1 (a1.r.fg _ _ hx) rx
  · cases hm
theorem slo_own (i : Nat) {x : Str} (hN : X.N[i]? = some x := by rfl) (hv : Vis X.env.scope x := by first | exact Or.inl rfl | exact Or.inr (Or.inl rfl) | exact Or.inr (Or.inr rfl)) (hd : (x == ("__debug__" : Str)) = false := by decide)
    (hcd : (x == ("__classdict__" : Str)) = false := by decide) : SLo X (.Name x pos) (lOwn i) :=
  .mk _ (pe_var hN hv hd hcd) fun σ H F G C ρ h ds h' Q h0 er hm q => by
    unfold lOwn at hm
    split at hm
    · rename_i xs e
      cases hm
      obtain ⟨a, vs, e1, e2, r⟩ := er.2 i _ e
      exact ⟨_, e1, q a vs H F G C (.refl h0) e2 r⟩
    · cases hm
@[irreducible] noncomputable def lCat (la lb : ML) : ML := fun ρ h => match la ρ h with
  | none => none
  | some (xs, h1) => match lb ρ h1 with
    | none => none
    | some (ys, h2) => if xs.length + ys.length ≤ lim then some (xs ++ ys, h2) else none
theorem sl_cat (ha : SLo X a la) (hb : SLo X b lb) : SL X (.BinOp a .Add b pos) (lCat la lb) := by
  obtain ⟨ta, pa, ra⟩ := ha
  obtain ⟨tb, pb, rb⟩ := hb
  refine .mk _ (pe_op op_cat pa pb) fun σ H F G C ρ h ds h' Q h0 er hm q => ?_
  unfold lCat at hm
  split at hm
  · cases hm
  rename_i xs h1 e1
  split at hm
  · cases hm
  rename_i ys h2 e2
  split at hm
  rotate_left
  · cases hm
  rename_i hl
  cases hm
  refine ra σ H F G C ρ h xs h1 _ h0 er e1 fun u vs H1 F1 G1 C1 a1 g1 r1 => ?_
  refine rb σ H1 F1 G1 C1 ρ h1 ys _ _ a1.r (er.le a1.f a1.g a1.c) e2 fun u2 ws H2 F2 G2 C2 a2 g2 r2 => ?_
  have r1' := r1.le a2.f a2.c
  refine ⟨u, u2, vs, ws, rfl, rfl, a2.r.gh _ _ (a2.g _ _ g1), a2.r.gh _ _ g2, by rw [r1'.length, r2.length]; exact small hl, fun p hp => ?_⟩
  have gp : G2 p = none := a2.r.gh.free hp
  have cp := a2.r.notCell hp
  exact q p (vs ++ ws) _ F2 G2 C2 ⟨a1.f.trans a2.f, a1.g.trans a2.g, a1.c.trans a2.c, a2.r.over gp cp _, (a1.trans a2).nf⟩ upd_same gp cp (r1'.append r2)
end
structure FnF (P : Program) (w : World) (K : Fg) (mg : Str → Option Value) (base : Heap) (x : Str) (ps : List Str) (k : Nat) (m : MF) : Prop where
  ex : ∃ f fd, FnOk P w K mg base CX0 k f fd ps (spOf K m) ∧ mg x = some (.ref f) ∧ PySem.W.keepIn K (.ref f) = true ∧ Binds K fd ps []
theorem se_fn {X : Cx} {e : Expr} {es : List Expr} {p pos : Pos} {ml : MA} {x : Str} {ps : List Str} {j k : Nat} {m : MF} (F : FnF X.prog X.w X.K X.mg X.base x ps j m) (hr : Room k X.A) (ha : SA X (e :: es) ml) (hjk : j ≤ k := by first | decide | omega) (hg : Gl X x := by rfl) (hdb : (x == ("__debug__" : Str)) = false := by decide)
    (he : starEach (e :: es) X.env = (false, eval e X.env) :: starEach es X.env := by rfl) (hpl : (backTo pos (starEach es X.env)).any (·.1) = false := by rfl) : SE X (.Call (.Name x p) (e :: es) [] pos) (eCall m ml) := by
  obtain ⟨f, fd, h1, h2, h3, h4⟩ := F.ex
  exact se_call h1 (hr.mono hjk) hg h2 h3 h4 ha hdb he hpl
structure Nb (mg : Str → Option Value) : Prop where
  len : mg "len" = none
  isi : mg "isinstance" = none
  tuple : mg "tuple" = none
  list : mg "list" = none
  int : mg "int" = none
  bool : mg "bool" = none
  str : mg "str" = none
  range : mg "range" = none
  sorted : mg "sorted" = none
  all : mg "all" = none
  zip : mg "zip" = none
theorem st_isi {X : Cx} {e : Expr} {ma : ME} {T : Str} {T' : String} {p pos pos' : Pos} (nb : Nb X.mg) (hmT : X.mg T = none) (hvT : bootBuiltins T = some (.type T')) (hT : okT T' = true) (ha : SE X e ma) (hg : Gl X "isinstance" := by rfl) (hgT : Gl X T := by rfl)
    (hnT : T ≠ "__name__" := by decide) (hdT : (T == ("__debug__" : Str)) = false := by decide) (he : starEach [e, .Name T p] X.env = (false, eval e X.env) :: starEach [.Name T p] X.env := by rfl) (he2 : starEach [.Name T p] X.env = (false, eval (.Name T p) X.env) :: starEach [] X.env := by rfl)
    (hpl : (backTo pos (starEach [.Name T p] X.env)).any (·.1) = false := by rfl) : SE X (.Call (.Name "isinstance" pos') [e, .Name T p] [] pos) (eUn (gIsi T') ma) := se_isi hg nb.isi hgT hmT hvT hT ha hnT hdT he he2 hpl
theorem bt_int : bootBuiltins "int" = some (.type "int") := by decide +kernel
theorem bt_bool : bootBuiltins "bool" = some (.type "bool") := by decide +kernel
theorem bt_str : bootBuiltins "str" = some (.type "str") := by decide +kernel
theorem bt_tuple : bootBuiltins "tuple" = some (.type "tuple") := by decide +kernel
end Q
set_option Elab.async false
set_option linter.all false
set_option maxRecDepth 100000
namespace Q
open PySem PySem.Spec PySem.W PyProof.Rows L2
section
variable {P : Program} {w : World} {A : Around} {E : Value → Shared → Prop} {s : Shared}
end
section
variable {X : Cx} {e : Expr} {p pos tpos : Pos} {elts : List Expr} {kk : Nat} {ma : ME}
def enums (n : Nat) : List D → List D
  | [] => []
  | d :: ds => .tuple [.int (n : Nat), d] :: enums (n + 1) ds
@[irreducible] def iEnum0 (ma : ME) : MI := fun ρ h => match ma ρ h with
  | none => none
  | some (d, h1) => match seqD d with
    | some (_, xs) => some (enums 0 xs, h1)
    | _ => none
end
end Q
set_option Elab.async false
set_option linter.all false
set_option maxRecDepth 100000
namespace Q
open PySem PySem.Spec PySem.W PyProof.Rows L2
open PySem.SeqAt
section
variable {X : Cx} {o e a b : Expr} {to ta tb : TE} {t : TA} {name : Str} {apos cpos : Pos} {id : String} {r : V → List V → Hp → VK → Prop} {ma mb : ME}
def tTM (r : V → List V → Hp → VK → Prop) (to ta : TE) : TE := fun σ H Q => to σ H fun x H1 => (∃ p xs, x = .ref p ∧ H1 p = some (.tup xs)) ∧ ta σ H1 fun y H2 => r x [y] H2 Q
theorem pe_tm (slot : Slot "tuple" name id) (hty : typeOf (.builtin id) = pure (.type "method_descriptor")) (hm : MtR X id r) (ho : PE X o to) (ha : PE X e ta) (hbase : attributeBase o name X.env (eval o X.env) = eval o X.env := by rfl)
    (hfew : ((backTo cpos (starEach [e] X.env)).all (fun x => !x.1) && (backToKw cpos (keywordEach [] X.env)).all (fun x => x.1.isSome) && decide ([e].length + ([] : List Keyword).length + (if ([] : List Keyword).isEmpty then 0 else 1) < 30)) = true := by rfl)
    (hline : (apos.endLine == cpos.line) = true := by rfl) (hs : starEach [e] X.env = (false, eval e X.env) :: starEach [] X.env := by rfl) : PE X (.Call (.Attribute o name apos) [e] [] cpos) (tTM r to ta) := by
  intro pins s σ H Q I h
  refine wpAny_Call_method_late hbase hfew hline rfl (thn (ho pins s σ H _ I h) fun v s1 ⟨x, H1, I1, r1, ⟨p, xs, ex, hp⟩, q1⟩ => ?_)
  subst ex
  cases r1
  obtain ⟨_, its, _, td⟩ := (show ObjOk X.prog X.w H1 s1.heap p (.tup xs) from I1.hok p _ hp)
  refine ⟨"tuple", id, F.plainAttrs_tuple, slot, hty, td.tup.typeIs, fun z ez => ?_, ?_⟩
  · cases ez
    exact td.bare
  have hA := pa_cons ha pa_nil hs cpos pins s1 σ H1 (fun us H2 => r (.ref p) us H2 Q) I1 q1
  rw [hs] at hA ⊢
  exact Calls.callWith_builtin rfl (Calls.evalArgs_plain (thn hA fun us s2 ⟨vs, H2, I2, r2, q2⟩ => hm pins s2 σ H2 (.ref p) vs (.ref p) us Q I2 rfl r2 q2))
def gIdx : D → D → Option D
  | .tuple ds, x => if shp x && ds.all PyData.canLay0 then (ds.findIdx? fun d => PyData.eqv d x).map fun j => .int (j : Nat) else none
  | _, _ => none
def gCnt : D → D → Option D
  | .tuple ds, x => if shp x && ds.all PyData.canLay0 then some (.int (ds.countP fun d => PyData.eqv d x : Nat)) else none
  | _, _ => none
def rCntD (K : Fg) : V → List V → Hp → VK → Prop := fun x ys H Q => ∃ p xs y dx ds, x = .ref p ∧ ys = [y] ∧ H p = some (.tup xs) ∧ Dp K H y dx ∧ DpAll K H xs ds ∧ shp dx = true ∧ PyData.canLayAll0 ds = true ∧ Q (.int (ds.countP fun d => PyData.eqv d dx : Nat)) H
theorem mt_cntT (hu : X.A.units + 65 < cLine) : MtR X "tuple.count" (rCntD X.K) := by
  intro pins s σ H x ys v us Q I rx rs h
  obtain ⟨p, xs, y, dx, ds, rfl, rfl, hp, hy, hs, sx, sl, q⟩ := h
  cases rx
  cases rs with
  | cons ry rt =>
    cases rt
    rename_i uy
    obtain ⟨hz, its, r, td⟩ := (show ObjOk X.prog X.w H s.heap p (.tup xs) from I.hok p _ hp)
    obtain ⟨bs, ry'⟩ := Dp.reads I dx y uy hy ry
    obtain ⟨as, rr⟩ := Dp.readsAll I ds xs its hs r
    have em := readsAll_map ds its as sl rr
    obtain ⟨⟨cls, dd, data, slots⟩, ho, hc, n, hd⟩ := td.tup
    simp only at hc hd
    subst hc hd
    refine call_meets F.slot_tuple_count ⟨_, ho, rfl⟩ F.entry_tuple_count (F.args_tuple_count_2 _ _) (tuple_countAt p its.toArray n dd slots uy (fun z => PyData.eqv (readOf s.heap z) dx))
      ⟨ho, items_eqAt (by simpa using rr) ry' sl (shp_lay sx) (room_in sx hu), ⟨.int (ds.countP fun d => PyData.eqv d dx : Nat), H, I.tok _, ⟨s.toks, ?_⟩, q⟩⟩
    rw [← em, List.countP_map]
    rfl
theorem re_tm {K : Fg} {g : D → D → Option D} (hr : ∀ (x y : V) (H F G : Hp) (C : List Addr) (h : Hq) (p : Addr) (xs : List V) (ds : List D) (dy d : D) (Q : VK), HR K F G C h H → x = .ref p → F p = some (.tup xs) → Rls K F C xs ds → Rl K F C y dy → g (.tuple ds) dy = some d →
    (∀ u H' F' G', Aft K F G C F' G' C h H' → Rl K F' C u d → Q u H') → r x [y] H Q) (hg : ∀ x y d, g x y = some d → ∃ ds, x = .tuple ds) (ha : RE K ta ma) (hb : RE K tb mb) : RE K (tTM r ta tb) (eOp g ma mb) := by
  intro σ H F G C ρ h d h' Q h0 er hm q
  unfold eOp at hm
  split at hm
  · cases hm
  rename_i x h1 e1
  split at hm
  · cases hm
  rename_i y h2 e2
  split at hm
  · cases hm
  rename_i z e3
  cases hm
  obtain ⟨ds, rfl⟩ := hg _ _ _ e3
  refine ha σ H F G C ρ h _ h1 _ h0 er e1 fun u H1 F1 G1 C1 a1 r1 => ?_
  cases r1 with
  | tup hx rx =>
    refine ⟨⟨_, _, rfl, a1.r.fh _ _ hx⟩, hb σ H1 F1 G1 C1 ρ h1 y _ _ a1.r (er.le a1.f a1.g a1.c) e2 fun u2 H2 F2 G2 C2 a2 r2 => ?_⟩
    exact hr _ u2 H2 F2 G2 C2 _ _ _ ds y d Q a2.r rfl (a2.f _ _ hx) (rx.le a2.f a2.c) r2 e3 fun w H3 F3 G3 a3 r3 => q w H3 F3 G3 C2 ((a1.trans a2).trans a3) r3
theorem se_cnt (hu : X.A.units + 65 < cLine) (ha : SE X a ma) (hb : SE X b mb) (hbase : attributeBase a "count" X.env (eval a X.env) = eval a X.env := by rfl)
    (hfew : ((backTo cpos (starEach [b] X.env)).all (fun x => !x.1) && (backToKw cpos (keywordEach [] X.env)).all (fun x => x.1.isSome) && decide ([b].length + ([] : List Keyword).length + (if ([] : List Keyword).isEmpty then 0 else 1) < 30)) = true := by rfl)
    (hline : (apos.endLine == cpos.line) = true := by rfl) (hs : starEach [b] X.env = (false, eval b X.env) :: starEach [] X.env := by rfl) : SE X (.Call (.Attribute a "count" apos) [b] [] cpos) (eOp gCnt ma mb) := by
  obtain ⟨ta, pa, ra⟩ := ha
  obtain ⟨tb, pb, rb⟩ := hb
  refine .mk _ (pe_tm F.slot_tuple_count F.type_tuple_count (mt_cntT hu) pa pb hbase hfew hline hs) (re_tm (fun x y H F G C h p xs ds dy d Q h0 ex hp rs ry e q => ?_) (fun x y d e => ?_) ra rb)
  · unfold gCnt at e
    dsimp only at e
    split at e
    · rename_i c
      rw [Bool.and_eq_true] at c
      cases e
      have c2 : PyData.canLayAll0 ds = true := by rw [canAll]; exact c.2
      exact ⟨p, xs, y, dy, ds, ex, rfl, h0.fh _ _ hp, ry.dp h0.fh (shp_lay c.1), rs.dp h0.fh c2, c.1, c2, q _ H F G (.refl h0) (.int _)⟩
    · cases e
  · cases x with
    | tuple ds => exact ⟨ds, rfl⟩
    | _ => cases e
end
end Q
set_option Elab.async false
set_option linter.all false
set_option maxRecDepth 100000
namespace Q
open PySem PySem.Spec PyProof.Rows L2
section
variable {X : Cx} {e : Expr} {es : List Expr} {pos : Pos} {ma : ME}
noncomputable def gFmt : D → Option D
  | .int i => if in64 i = true then some (.str (toString i)) else none
  | .str x => if x.length ≤ lim then some (.str x) else none
  | _ => none
@[irreducible] noncomputable def jNil : Str → ME := fun out _ h => if out.length ≤ lim then some (.str out, h) else none
@[irreducible] noncomputable def jCons (a : ME) (b : Str → ME) : Str → ME := fun out ρ h => match a ρ h with
  | some (.str y, h1) => if (out ++ y).length ≤ lim then b (out ++ y) ρ h1 else none
  | _ => none
end
end Q
set_option Elab.async false
set_option linter.all false
set_option maxRecDepth 100000
namespace Q
open PySem PySem.Spec PyProof.Rows L2
structure Fl (P : Program) (w : World) (l : List Env) (H : Hp) (s : Shared) (a : Addr) (cls a0 : Value) (H' : Hp) (B : Heap) (s' : Shared) : Prop where
  os : s'.os = s.os
  bare : AllBare s'.gens
  fly : Heap.FlyingW B l a cls a0 s'.heap
  hok : HOk P w H' B
  kb : ∀ b o, s.heap.get? b = some o → H b = none → b ∉ frs l → B.get? b = some o
  th : ∀ b o, s.heap.get? b = some o → b ∉ frs l → ∃ o', B.get? b = some o'
  un : Un (frs l) [] H H' s.heap s'.heap
section
variable {P : Program} {w : World} {l : List Env} {H H' : Hp} {s s' : Shared} {a : Addr} {cls a0 : Value} {B h2 : Heap}
theorem fr_mem {base h : Heap} {l : List Env} (f : h.FunFrames base l) {b : Addr} (hb : b ∈ frs l) : base.get? b = none ∧ ∃ o, h.get? b = some o ∧ ∀ vs, o.data ≠ .fields vs := f.mem hb
theorem Fl.on (x : Fl P w l H s a cls a0 H' B s') (f2 : Heap.FlyingW B l a cls a0 h2) (u : s'.heap.UpToSlots h2) : Fl P w l H s a cls a0 H' B { s' with heap := h2 } := by
  refine ⟨x.os, x.bare, f2, x.hok, x.kb, x.th, fun b o e n hb _ => f2.1 b o (x.kb b o e n hb), fun b o e n hb hx => ?_, x.un.free, fun b o e hx => ?_, x.un.tups, x.un.frzs, x.un.tbls⟩
  · obtain ⟨sl, e1⟩ := x.un.slot b o e n hb hx
    obtain ⟨_, o2, e2, nf⟩ := fr_mem x.fly.2.2.1 hb
    rw [e1] at e2
    cases e2
    obtain ⟨sl2, e3⟩ := u b _ e1 nf
    exact ⟨sl2, e3⟩
  · by_cases hb : b ∈ frs l
    · obtain ⟨_, o2, e2, nf⟩ := fr_mem x.fly.2.2.1 hb
      obtain ⟨sl2, e3⟩ := u b _ e2 nf
      exact ⟨_, e3⟩
    · obtain ⟨o', e1⟩ := x.th b o e hb
      exact ⟨o', f2.1 b o' e1⟩
end
section
variable {X : Cx} {pins : List (Addr × Obj)} {σ : L2.St} {H H' : Hp} {s s' : Shared} {a : Addr} {cls a0 : Value} {B : Heap}
end
section
variable {P : Program} {w : World} {K : PySem.W.Frag} {mg : Str → Option Value} {base : Heap} {N : List Str} {qual : Str} {scope : Scope} {f : Addr} {cd : Value} {A : Around} {outer : List Env} {s : Shared} {H : Hp} {E : XK}
variable {pins : List (Addr × Obj)} {σ : L2.St} {H1 H' : Hp} {s1 s' : Shared} {a : Addr} {cls a0 : Value} {B : Heap}
end
section
variable {mk : Bool} {X : Cx} {st : Stmt} {rest : List Stmt} {e c : Expr} {es : List Expr} {pos p : Pos}
end
end Q
set_option Elab.async false
set_option linter.all false
set_option maxRecDepth 100000
namespace Q
open PySem PySem.Spec PyProof.Rows L2
section
variable {X : Cx} {st : Stmt} {rest : List Stmt} {e c : Expr} {es : List Expr} {pos p cpos : Pos}
end
end Q
set_option Elab.async false
set_option linter.all false
set_option maxRecDepth 100000
namespace Q
open PySem PySem.Spec PyProof.Rows L2
inductive Rx where
  | ok (d : D) (h : Hq)
  | er (c : Str) (h : Hq)
abbrev MFx := List D → Hq → Option Rx
def okOf (m : MFx) : MF := fun ds h => match m ds h with | some (.ok d h') => some (d, h') | _ => none
abbrev MX := Rho → Hq → Option (Str × Rho × Hq)
@[irreducible] def xIf (t : MT) (a b : MX) : MX := fun ρ h => match t ρ h with | none => none | some (c, h1) => if c then a ρ h1 else b ρ h1
def xNo : MX := fun _ _ => none
@[irreducible] noncomputable def xRaise (c : Str) (ml : MA) : MX := fun ρ h => match ml ρ h with | none => none | some (ds, h1) => if ds.length ≤ lim then some (c, ρ, h1) else none
@[irreducible] def xCall (m : MFx) (ml : MA) : MX := fun ρ h => match ml ρ h with | none => none | some (ds, h1) => match m ds h1 with | some (.er c h2) => some (c, ρ, h2) | _ => none
section
variable {k : Bool} {X : Cx} {st : Stmt} {rest : List Stmt} {e c : Expr} {es : List Expr} {pos p cpos : Pos} {mx my : MX} {m1 m2 : MS} {mt : MT} {ml : MA}
end
section
variable {k : Bool} {X : Cx} {e : Expr} {es : List Expr} {pos p : Pos} {ml : MA}
end
@[irreducible] def sTry (mb : MS) (mx : MX) (c : Str) (mh : MS) : MS := fun ρ h => match mx ρ h with
  | some (c', ρ', h') => if c' = c then mh ρ' h' else none
  | none => mb ρ h
section
variable {X : Cx} {pos p : Pos} {mx : MX} {m1 m2 : MS}
end
def runX (m : MX) (n : Nat) : List D → Hq → Option (Str × Hq) := fun ds h => match m (ds.map Sl.val ++ List.replicate (n - ds.length) Sl.no) h with
  | some (c, _, h') => some (c, h')
  | none => none
section
variable {P : Program} {w : World} {K : PySem.W.Frag} {mg : Str → Option Value} {base : Heap}
end
end Q
local macro_rules | `(tactic| exists 0, $xs,*) => do
  let ls ← xs.getElems.mapM fun x => `(Lean.Parser.Tactic.simpLemma| $x:term)
  `(tactic| simp [Q.runB, Q.sSeq, Q.sIf, Q.sRet, Q.sNil, Q.sAsg, Q.sSet, Q.eVar, Q.eC, Q.eOp, Q.eUn, Q.eAnd, Q.eOr, Q.eIf, Q.eChain, Q.aNil, Q.aCons, Q.eA, Q.eCall, Q.eQ, Q.eXQ, Q.eQX, Q.qVal, Q.tAndM, Q.tOrM, Q.tNotM, Q.tValM, Q.tQ, Q.gN, Q.gsNil, Q.gsCons, Q.gTp, Q.gNot, Q.dB, Q.truD, Q.le_lim, $ls,*])
set_option Elab.async false
set_option linter.all false
set_option maxRecDepth 100000
namespace Q
open PySem PySem.Spec PySem.W PyProof.Rows L2
theorem shp_tuple {ds : List D} (h : shp (.tuple ds) = true) : ∀ d ∈ ds, shp d = true := by
  have key : ∀ ds : List D, PyData.canLayAll0 ds = true → ∀ d ∈ ds, d.canLay0 = true ∧ d.depth ≤ PyData.depthAll ds := by
    intro ds
    induction ds with
    | nil => intro _ d hd; cases hd
    | cons x r ih =>
      intro e d hd
      rw [PyData.canLayAll0, Bool.and_eq_true] at e
      rcases List.mem_cons.mp hd with rfl | hd
      · exact ⟨e.1, by rw [PyData.depthAll]; exact Nat.le_max_left _ _⟩
      · obtain ⟨h1, h2⟩ := ih e.2 d hd
        exact ⟨h1, by rw [PyData.depthAll]; exact Nat.le_trans h2 (Nat.le_max_right _ _)⟩
  intro d hd
  unfold shp SeqAt.shaped at h ⊢
  rw [Bool.and_eq_true, decide_eq_true_eq] at h ⊢
  have h1 : PyData.canLayAll0 ds = true := by have := h.1; rwa [PyData.canLay0] at this
  have h2 : PyData.depthAll ds + 1 ≤ 64 := by have := h.2; rwa [PyData.depth] at this
  obtain ⟨z1, z2⟩ := key ds h1 d hd
  exact ⟨z1, by omega⟩
theorem shp_int (i : Int) : shp (.int i) = true := by
  unfold shp SeqAt.shaped
  simp [PyData.canLay0, PyData.depth]
def isW : D → Bool
  | .int _ => true
  | _ => false
def isTu : D → Bool
  | .tuple _ => true
  | _ => false
theorem isi_int {d : D} (h : shp d = true) : gIsi "int" d = some (.bool (match d with | .int _ => true | .bool _ => true | _ => false)) := by
  cases d with
  | dict kvs => unfold shp SeqAt.shaped at h; simp [PyData.canLay0] at h
  | _ => rfl
theorem isi_bool {d : D} (h : shp d = true) : gIsi "bool" d = some (.bool (match d with | .bool _ => true | _ => false)) := by
  cases d with
  | dict kvs => unfold shp SeqAt.shaped at h; simp [PyData.canLay0] at h
  | _ => rfl
theorem isi_tuple {d : D} (h : shp d = true) : gIsi "tuple" d = some (.bool (isTu d)) := by
  cases d with
  | dict kvs => unfold shp SeqAt.shaped at h; simp [PyData.canLay0] at h
  | _ => rfl
theorem shp_bool (b : Bool) : shp (.bool b) = true := by unfold shp SeqAt.shaped; simp [PyData.canLay0, PyData.depth]
theorem forGo_nx {g : MG} {mb : MS} {x : D} {xs : List D} {ρ ρ1 ρ2 : Rho} {h h2 : Hq} (e : g x ρ = some ρ1) (e2 : mb ρ1 h = some (.nx ρ2 h2)) : forGo g mb (x :: xs) ρ h = forGo g mb xs ρ2 h2 := by
  rw [forGo, e]
  simp only [e2]
theorem forGo_rt {g : MG} {mb : MS} {x d : D} {xs : List D} {ρ ρ1 : Rho} {h h2 : Hq} (e : g x ρ = some ρ1) (e2 : mb ρ1 h = some (.rt d h2)) : forGo g mb (x :: xs) ρ h = some (.rt d h2) := by
  rw [forGo, e]
  simp only [e2]
theorem runB_rt {m : MS} {n : Nat} {ds : List D} {h h' : Hq} {d : D} (e : m (ds.map Sl.val ++ List.replicate (n - ds.length) Sl.no) h = some (.rt d h')) : runB m n ds h = some (d, h') := by simp only [runB, e]
theorem qVal_of {m : ME} {ρ : Rho} {h h' : Hq} {ds : List D} (e : m ρ h = some (.tuple ds, h')) : qVal m ρ h = some (true, ds, h') := by simp [qVal, e, seqD]
theorem eRev_of {q : MQ} {ρ : Rho} {h h' : Hq} {ds : List D} (e : q ρ h = some (true, ds, h')) : eRev q ρ h = some (.tuple ds.reverse, h') := by simp [eRev, e]
theorem aCons_of {a : ME} {b : MA} {ρ : Rho} {h h1 h2 : Hq} {x : D} {xs : List D} (e : a ρ h = some (x, h1)) (e2 : b ρ h1 = some (xs, h2)) : aCons a b ρ h = some (x :: xs, h2) := by simp [aCons, e, e2]
theorem aNil_of {ρ : Rho} {h : Hq} : aNil ρ h = some ([], h) := by simp [aNil]
theorem eTup_of {a : MA} {ρ : Rho} {h h' : Hq} {ds : List D} (e : a ρ h = some (ds, h')) (l : ds.length ≤ 1000000) : eA fTup a ρ h = some (.tuple ds, h') := by simp [eA, e, fTup, le_lim l]
theorem eCall_of {f : MF} {a : MA} {ρ : Rho} {h h1 : Hq} {ds : List D} {r : D × Hq} (e : a ρ h = some (ds, h1)) (e2 : f ds h1 = some r) : eCall f a ρ h = some r := by simp [eCall, e, e2]
theorem eOp_of {g : D → D → Option D} {a b : ME} {ρ : Rho} {h h1 h2 : Hq} {x y z : D} (e1 : a ρ h = some (x, h1)) (e2 : b ρ h1 = some (y, h2)) (e3 : g x y = some z) : eOp g a b ρ h = some (z, h2) := by simp [eOp, e1, e2, e3]
theorem seq_rt {m1 m2 : MS} {ρ : Rho} {h h1 : Hq} {d : D} (e : m1 ρ h = some (.rt d h1)) : sSeq m1 m2 ρ h = some (.rt d h1) := by simp [sSeq, e]
def Dq (k : Nat) (d : D) : Prop := d.canLay0 = true ∧ d.depth ≤ k
theorem dp_all {k : Nat} : ∀ {ds : List D}, (∀ x ∈ ds, Dq k x) → PyData.canLayAll0 ds = true ∧ PyData.depthAll ds ≤ k
  | [], _ => ⟨rfl, Nat.zero_le _⟩
  | d :: r, h => by
    obtain ⟨a, b⟩ := dp_all fun x hx => h x (List.mem_cons_of_mem _ hx)
    obtain ⟨c, e⟩ := h d List.mem_cons_self
    exact ⟨by rw [PyData.canLayAll0, c, a]; rfl, by rw [PyData.depthAll]; exact Nat.max_le.mpr ⟨e, b⟩⟩
theorem dp_tuple {k : Nat} {ds : List D} (h : ∀ x ∈ ds, Dq k x) : Dq (k + 1) (.tuple ds) := by
  obtain ⟨a, b⟩ := dp_all h
  exact ⟨by rw [PyData.canLay0]; exact a, by rw [PyData.depth]; omega⟩
theorem dp_list {k : Nat} {ds : List D} (h : ∀ x ∈ ds, Dq k x) : Dq (k + 1) (.list ds) := by
  obtain ⟨a, b⟩ := dp_all h
  exact ⟨by rw [PyData.canLay0]; exact a, by rw [PyData.depth]; omega⟩
theorem dp_shp {k : Nat} {d : D} (h : Dq k d) (hk : k ≤ 64) : shp d = true := by
  unfold shp SeqAt.shaped
  rw [h.1, Bool.true_and]
  exact decide_eq_true (Nat.le_trans h.2 hk)
theorem Dq.up {k j : Nat} {d : D} (h : Dq k d) (hk : k ≤ j) : Dq j d := ⟨h.1, Nat.le_trans h.2 hk⟩
def Tw (T : Hq) (xs : List D) : Hq := T ++ [.lst xs]
theorem tw_get (T : Hq) (xs : List D) : (Tw T xs)[T.length]? = some (.lst xs) := by simp [Tw]
theorem tw_set (T : Hq) (xs ys : List D) : (Tw T xs).set T.length (.lst ys) = Tw T ys := by simp [Tw]
abbrev scI (ns : List Int) : D := .dict [(.bool true, .list (ns.map PyData.int))]
abbrev hdT (T : Hq) : D := .dict [(.none, .int T.length)]
theorem in64_mod {p : Int} (h0 : 0 < p) (h1 : p < 2 ^ 64) (x : Int) : in64 (x % p) = true := by
  have g1 := Int.emod_nonneg x (show p ≠ 0 by omega)
  have g2 := Int.emod_lt_of_pos x h0
  simp only [in64, Bool.and_eq_true, decide_eq_true_eq]
  omega
theorem at_mod {ns : List Int} (h : ns ≠ []) (k : Int) : ∃ c, atI (ns.map PyData.int) (k % (ns.length : Int)) = some (.int c) := by
  have hl : 0 < ns.length := List.length_pos_iff.mpr h
  have h1 := Int.emod_nonneg k (show (ns.length : Int) ≠ 0 by omega)
  have h2 := Int.emod_lt_of_pos k (show (0 : Int) < ns.length by omega)
  generalize k % (ns.length : Int) = j at *
  have ej : j = ((j.toNat : Nat) : Int) := by omega
  have hj : j.toNat < ns.length := by omega
  refine ⟨ns[j.toNat], ?_⟩
  have := atI_nat (xs := ns.map PyData.int) (j := j.toNat) (v := .int ns[j.toNat]) (by rw [List.getElem?_map, List.getElem?_eq_getElem hj]; rfl)
  rw [← ej] at this
  exact this
def cellOf (ns : List Int) (k : Int) : Int := match atI (ns.map PyData.int) (k % (ns.length : Int)) with | some (.int c) => c | _ => 0
def drawG (A P R M S : Int) (ns : List Int) (k many : Int) : Int := (((cellOf ns k + A * k) % P) * ((cellOf ns k + A * k) % P) % R * M % P) / S % many
abbrev drawI (ns : List Int) (k many : Int) : Int := drawG 104729 4294967291 4294967279 48271 64 ns k many
noncomputable abbrev bdG (A P R M S : Int) : MS := (sSeq (sApp 1 (eC (.int 0))) (sSeq (sSet 3 (eLenC (eVar 1))) (sSeq (sSet 4 (eC (.int 0))) (sSeq (sIf (tValM truD (eVar 0)) (sSet 4 (eQX fIx (qVal (eVar 0)) (eOp gModI (eVar 3) (eQ fLen (qVal (eVar 0)))))) sNil) (sSeq (sSet 5 (eOp gModI (eOp gAddI (eVar 4) (eOp gMulI (eC (.int A)) (eVar 3))) (eC (.int P)))) (sSeq (sSet 5 (eOp gModI (eOp gMulI (eOp gModI (eOp gMulI (eVar 5) (eVar 5)) (eC (.int R))) (eC (.int M))) (eC (.int P)))) (sRet (eOp gModI (eOp gDivI (eVar 5) (eC (.int S))) (eVar 2)))))))))
theorem drawG_ok {A P R M S : Int} (hA : in64 A = true) (hM : in64 M = true) (hP : 0 < P) (hP2 : P < 2 ^ 64) (hR : 0 < R) (hS : 0 < S) (hS2 : S < 1073741824) {T : Hq} {ns : List Int} {xs : List D} {many : Int} (hx : xs.length < 900000) (hm : 0 < many) :
    runB (bdG A P R M S) 6 [scI ns, hdT T, .int many] (Tw T xs) = some (.int (drawG A P R M S ns (xs.length + 1) many), Tw T (xs ++ [.int 0])) := by
  have h1 : xs.length < lim := lt_lim (by omega)
  have h2 := in64_mod hP hP2
  by_cases hn : ns = []
  · subst hn
    have ec : cellOf [] ((xs.length : Int) + 1) = 0 := by simp [cellOf, atI, ixN]
    exists 0, sApp, eLenC, tw_get, tw_set, isLst, h1, gI, hA, hM, h2, hm, hP, hR, hS, hS2, drawG, ec
  · obtain ⟨c, hc⟩ := at_mod hn ((xs.length : Int) + 1)
    have ec : cellOf ns ((xs.length : Int) + 1) = c := by simp [cellOf, hc]
    have hl : 0 < ns.length := List.length_pos_iff.mpr hn
    exists 0, sApp, eLenC, tw_get, tw_set, isLst, h1, gI, hA, hM, h2, hm, hP, hR, hS, hS2, drawG, ec, seqD, fLen, fIx, hc, hl, hn
noncomputable abbrev b__law_draw : MS := (sSeq (sApp 1 (eC (.int 0))) (sSeq (sSet 3 (eLenC (eVar 1))) (sSeq (sSet 4 (eC (.int 0))) (sSeq (sIf (tValM truD (eVar 0)) (sSet 4 (eQX fIx (qVal (eVar 0)) (eOp gModI (eVar 3) (eQ fLen (qVal (eVar 0)))))) sNil) (sSeq (sSet 5 (eOp gModI (eOp gAddI (eVar 4) (eOp gMulI (eC (.int 104729)) (eVar 3))) (eC (.int 4294967291)))) (sSeq (sSet 5 (eOp gModI (eOp gMulI (eOp gModI (eOp gMulI (eVar 5) (eVar 5)) (eC (.int 4294967279))) (eC (.int 48271))) (eC (.int 4294967291)))) (sRet (eOp gModI (eOp gDivI (eVar 5) (eC (.int 64))) (eVar 2)))))))))
noncomputable def m__law_draw : MF := fun ds h => if ds.length = 3 then runB b__law_draw 6 ds h else none
theorem draw_ok {T : Hq} {ns : List Int} {xs : List D} {many : Int} (hx : xs.length < 900000) (hm : 0 < many) :
    m__law_draw [scI ns, hdT T, .int many] (Tw T xs) = some (.int (drawI ns (xs.length + 1) many), Tw T (xs ++ [.int 0])) :=
  drawG_ok (A := 104729) (P := 4294967291) (R := 4294967279) (M := 48271) (S := 64) (by decide) (by decide) (by decide) (by decide) (by decide) (by decide) (by decide) hx hm
theorem draw_lt {ns : List Int} {k many : Int} (hm : 0 < many) : 0 ≤ drawI ns k many ∧ drawI ns k many < many := by
  unfold drawI drawG
  exact ⟨Int.emod_nonneg _ (by omega), Int.emod_lt_of_pos _ hm⟩
theorem draw_ex {T : Hq} {ns : List Int} {xs : List D} {many : Int} (hx : xs.length < 900000) (hm : 0 < many) :
    ∃ i, 0 ≤ i ∧ i < many ∧ m__law_draw [scI ns, hdT T, .int many] (Tw T xs) = some (.int i, Tw T (xs ++ [.int 0])) :=
  ⟨_, (draw_lt hm).1, (draw_lt hm).2, draw_ok hx hm⟩
noncomputable abbrev b__law_pick : MS := (sRet (eQX fIx (qVal (eVar 2)) (eCall m__law_draw (aCons (eVar 0) (aCons (eVar 1) (aCons (eQ fLen (qVal (eVar 2))) aNil))))))
noncomputable def m__law_pick : MF := fun ds h => if ds.length = 3 then runB b__law_pick 3 ds h else none
theorem pick_ex {T : Hq} {ns : List Int} {xs ds : List D} (hx : xs.length < 900000) (hd : ds ≠ []) :
    ∃ d ∈ ds, m__law_pick [scI ns, hdT T, .list ds] (Tw T xs) = some (d, Tw T (xs ++ [.int 0])) := by
  have hl : 0 < ds.length := List.length_pos_iff.mpr hd
  obtain ⟨i, i0, i1, e⟩ := draw_ex (T := T) (ns := ns) (xs := xs) (many := ds.length) hx (by omega)
  have hj : i.toNat < ds.length := by omega
  have ei : atI ds i = some ds[i.toNat] := by
    have := atI_nat (xs := ds) (j := i.toNat) (v := ds[i.toNat]) (List.getElem?_eq_getElem hj)
    rwa [show ((i.toNat : Nat) : Int) = i by omega] at this
  refine ⟨ds[i.toNat], List.getElem_mem hj, ?_⟩
  unfold m__law_pick
  rw [if_pos (by rfl)]
  exists 0, seqD, fLen, e, fIx, ei
theorem seq_nx {m1 m2 : MS} {ρ ρ1 : Rho} {h h1 : Hq} (e : m1 ρ h = some (.nx ρ1 h1)) : sSeq m1 m2 ρ h = m2 ρ1 h1 := by simp [sSeq, e]
theorem forGo_ex {g : MG} {mb : MS} (I : Nat → Rho → Hq → Prop) : ∀ (ds : List D) (k : Nat) (ρ : Rho) (h : Hq), I k ρ h →
    (∀ i d ρ h, ds[i]? = some d → I (k + i) ρ h → ∃ ρ1 ρ2 h2, g d ρ = some ρ1 ∧ mb ρ1 h = some (.nx ρ2 h2) ∧ I (k + i + 1) ρ2 h2) → ∃ ρ' h', forGo g mb ds ρ h = some (.nx ρ' h') ∧ I (k + ds.length) ρ' h'
  | [], k, ρ, h, i0, _ => ⟨ρ, h, rfl, i0⟩
  | d :: r, k, ρ, h, i0, step => by
    obtain ⟨ρ1, ρ2, h2, e1, e2, i1⟩ := step 0 d ρ h rfl i0
    obtain ⟨ρ', h', e3, i2⟩ := forGo_ex (g := g) (mb := mb) I r (k + 1) ρ2 h2 i1 fun i d ρ h e q => by
      have := step (i + 1) d ρ h (by simpa using e) (by rwa [show k + (i + 1) = k + 1 + i by omega])
      rwa [show k + (i + 1) + 1 = k + 1 + i + 1 by omega] at this
    exact ⟨ρ', h', by rw [forGo_nx e1 e2]; exact e3, by rw [List.length_cons, show k + (r.length + 1) = k + 1 + r.length by omega]; exact i2⟩
theorem lcGo_ex {ρ : Rho} {g : MG} {t : MT} {m : ME} {f : D → D} (I : Nat → Hq → Prop) : ∀ (ds : List D) (k : Nat) (h : Hq), I k h →
    (∀ i d h, ds[i]? = some d → I (k + i) h → ∃ ρ2 c h1, g d ρ = some ρ2 ∧ t ρ2 h = some (c, h1) ∧ (c = true → ∃ h2, m ρ2 h1 = some (f d, h2) ∧ I (k + i + 1) h2) ∧ (c = false → I (k + i + 1) h1)) →
    ∃ es h', lcGo ρ g t m ds h = some (es, h') ∧ es.Sublist (ds.map f) ∧ I (k + ds.length) h'
  | [], k, h, i0, _ => ⟨[], h, rfl, List.Sublist.refl _, i0⟩
  | d :: r, k, h, i0, step => by
    obtain ⟨ρ2, c, h1, e1, e2, y, n⟩ := step 0 d h rfl i0
    have rest : ∀ h2, I (k + 0 + 1) h2 → ∃ es h', lcGo ρ g t m r h2 = some (es, h') ∧ es.Sublist (r.map f) ∧ I (k + 1 + r.length) h' := fun h2 i1 => lcGo_ex (ρ := ρ) (g := g) (t := t) (m := m) (f := f) I r (k + 1) h2 i1 fun i d h e q => by
      have := step (i + 1) d h (by simpa using e) (by rwa [show k + (i + 1) = k + 1 + i by omega])
      rwa [show k + (i + 1) + 1 = k + 1 + i + 1 by omega] at this
    cases c with
    | true =>
      obtain ⟨h2, e3, i1⟩ := y rfl
      obtain ⟨es, h', e4, sl, i2⟩ := rest h2 i1
      exact ⟨f d :: es, h', by rw [lcGo, e1]; simp [e2, e3, e4], by rw [List.map_cons]; exact sl.cons₂ _, by rw [List.length_cons, show k + (r.length + 1) = k + 1 + r.length by omega]; exact i2⟩
    | false =>
      obtain ⟨es, h', e4, sl, i2⟩ := rest h1 (n rfl)
      exact ⟨es, h', by rw [lcGo, e1]; simp [e2, e4], by rw [List.map_cons]; exact sl.cons _, by rw [List.length_cons, show k + (r.length + 1) = k + 1 + r.length by omega]; exact i2⟩
theorem rangeD_get {lo hi : Int} {i : Nat} {d : D} (h : (rangeD lo hi)[i]? = some d) : d = .int (lo + i) ∧ lo + i < hi := by
  unfold rangeD at h
  rw [List.getElem?_map] at h
  cases q : (List.range (hi - lo).toNat)[i]? with
  | none => rw [q] at h; cases h
  | some j =>
    rw [q] at h
    obtain ⟨h1, h2⟩ := List.getElem?_eq_some_iff.mp q
    rw [List.getElem_range] at h2
    rw [List.length_range] at h1
    subst h2
    cases h
    exact ⟨rfl, by omega⟩
theorem rangeD_len (lo hi : Int) : (rangeD lo hi).length = (hi - lo).toNat := by simp [rangeD]
noncomputable abbrev ln0 : MS := (sSet 4 (eOp gAddI (eC (.int 1)) (eCall m__law_draw (aCons (eVar 0) (aCons (eVar 1) (aCons (eVar 2) aNil))))))
noncomputable abbrev ln1 : MS := (sSet 5 (eA fLst aNil))
noncomputable abbrev ln2 : MS := (sFor (iRange1 (eVar 4)) (gN 6) (sSet 5 (eOp gCatL (eVar 5) (eL (lLc [7] (iRange2 (eOp gAddI (eVar 6) (eC (.int 1))) (eVar 4)) (gN 7) tYesM (eA fTup (aCons (eVar 6) (aCons (eVar 7) aNil))))))))
noncomputable abbrev ln3 : MS := (sNewT 8)
noncomputable abbrev ln4 : MS := (sIf (tValM dB (eOp gGtI (eCall m__law_draw (aCons (eVar 0) (aCons (eVar 1) (aCons (eC (.int 3)) aNil)))) (eC (.int 0)))) (sFor (iRange2 (eC (.int 1)) (eVar 4)) (gN 9) (sSeq (sSet 7 (eCall m__law_draw (aCons (eVar 0) (aCons (eVar 1) (aCons (eVar 9) aNil))))) (sPutT 8 (eA fTup (aCons (eVar 7) (aCons (eVar 9) aNil))) (eC (.int 0))))) sNil)
noncomputable abbrev ln5 : MS := (sFor (iRange1 (eCall m__law_draw (aCons (eVar 0) (aCons (eVar 1) (aCons (eOp gAddI (eVar 3) (eC (.int 1))) aNil))))) (gN 10) (sIf (tAndM (tValM truD (eVar 5)) (tValM dB (eOp gLtI (eLenD 8) (eVar 3)))) (sPutT 8 (eCall m__law_pick (aCons (eVar 0) (aCons (eVar 1) (aCons (eVar 5) aNil)))) (eC (.int 0))) sNil))
noncomputable abbrev ln6 : MS := (sSet 11 (eL (lLc [9] (iRange1 (eVar 4)) (gN 9) (tValM dB (eOp gEq (eCall m__law_draw (aCons (eVar 0) (aCons (eVar 1) (aCons (eC (.int 2)) aNil)))) (eC (.int 0)))) (eVar 9))))
noncomputable abbrev ln7 : MS := (sIf (tNotM (tValM truD (eVar 11))) (sSet 11 (eA fLst (aCons (eCall m__law_draw (aCons (eVar 0) (aCons (eVar 1) (aCons (eVar 4) aNil)))) aNil))) sNil)
noncomputable abbrev ln8 : MS := (sRet (eA fTup (aCons (eVar 4) (aCons (eSl (qVal (eQ (fun k ds => if k then none else some (.tuple ds)) (qVal (eSortD 8)))) oNo (oYes (eVar 3))) (aCons (eQ (fun k ds => if k then none else some (.tuple ds)) (qVal (eVar 11))) aNil)))))
noncomputable abbrev b__law_net : MS := (sSeq ln0 (sSeq ln1 (sSeq ln2 (sSeq ln3 (sSeq ln4 (sSeq ln5 (sSeq ln6 (sSeq ln7 ln8))))))))
noncomputable def m__law_net : MF := fun ds h => if ds.length = 4 then runB b__law_net 12 ds h else none
def tieI (n : Int) (q : List Int) : Prop := ∃ a b, q = [a, b] ∧ 0 ≤ a ∧ a < b ∧ b < n
def evOk (n : Int) (l : List D) : Prop := ∀ d ∈ l, ∃ q, tieI n q ∧ d = tupD q
section
variable {T : Hq} {ns : List Int} {high wide n : Int}
theorem ok62_small {i : Int} (h0 : 0 ≤ i) (h1 : i ≤ 100) : ok62 i = true := by
  simp only [ok62, Bool.and_eq_true, decide_eq_true_eq]
  have := lim_eq
  omega
theorem ln2_ex {v0 v1 v2 v3 v6 v7 v8 v9 v10 v11 : Sl} {h : Hq} (h0 : 1 ≤ n) (h1 : n ≤ 7) : ∃ l v6' v7', ln2 [v0, v1, v2, v3, .val (.int n), .val (.list []), v6, v7, v8, v9, v10, v11] h = some (.nx [v0, v1, v2, v3, .val (.int n), .val (.list l), v6', v7', v8, v9, v10, v11] h) ∧ evOk n l := by
  have := forGo_ex (g := gN 6) (mb := sSet 5 (eOp gCatL (eVar 5) (eL (lLc [7] (iRange2 (eOp gAddI (eVar 6) (eC (.int 1))) (eVar 4)) (gN 7) tYesM (eA fTup (aCons (eVar 6) (aCons (eVar 7) aNil)))))))
    (fun i ρ h' => h' = h ∧ ∃ l v6' v7', ρ = [v0, v1, v2, v3, .val (.int n), .val (.list l), v6', v7', v8, v9, v10, v11] ∧ evOk n l ∧ l.length ≤ 10 * i) (rangeD 0 n) 0 [v0, v1, v2, v3, .val (.int n), .val (.list []), v6, v7, v8, v9, v10, v11] h ⟨rfl, [], v6, v7, rfl, fun d hd => (by cases hd), Nat.zero_le _⟩ ?_
  · obtain ⟨ρ', h', e, rfl, l, v6', v7', rfl, ev, _⟩ := this
    refine ⟨l, v6', v7', ?_, ev⟩
    have o := ok62_small (i := n) (by omega) (by omega)
    simp [sFor, iRange1, eVar, o, e]
  · rintro i d ρ hh hd ⟨eh, l, v6', v7', rfl, ev, ll⟩
    rw [eh]
    obtain ⟨rfl, hin⟩ := rangeD_get hd
    have hi : (i : Int) < n := by omega
    have o1 := ok62_small (i := (i : Int) + 1) (by omega) (by omega)
    have o2 := ok62_small (i := n) (by omega) (by omega)
    have hl : (rangeD ((i : Int) + 1) n).length ≤ 7 := by rw [rangeD_len]; omega
    obtain ⟨es, h2, e1, sl, eh2⟩ := lcGo_ex (ρ := [v0, v1, v2, v3, .val (.int n), .val (.list l), .val (.int i), .no, v8, v9, v10, v11]) (g := gN 7) (t := tYesM) (m := eA fTup (aCons (eVar 6) (aCons (eVar 7) aNil))) (f := fun d => .tuple [.int i, d]) (fun _ h2 => h2 = h) (rangeD ((i : Int) + 1) n) 0 h rfl
      (fun j d h2 hj e => by rw [e]; exact ⟨[v0, v1, v2, v3, .val (.int n), .val (.list l), .val (.int i), .val d, v8, v9, v10, v11], true, h, by simp [gN], by simp [tYesM], fun _ => ⟨h, by simp [eA, aCons, aNil, eVar, fTup, le_lim], rfl⟩, fun z => (by cases z)⟩)
    rw [eh2] at e1
    have le := sl.length_le
    rw [List.length_map] at le
    have lt : l.length + es.length ≤ lim := le_lim (by
      have : i ≤ 7 := by omega
      omega)
    have lz : (rangeD ((i : Int) + 1) n).length ≤ lim := le_lim (by omega)
    refine ⟨[v0, v1, v2, v3, .val (.int n), .val (.list l), .val (.int i), v7', v8, v9, v10, v11], [v0, v1, v2, v3, .val (.int n), .val (.list (l ++ es)), .val (.int i), v7', v8, v9, v10, v11], h, by simp [gN], ?_, rfl, l ++ es, _, _, rfl, ?_, ?_⟩
    · have b1 : iRange2 (eOp gAddI (eVar 6) (eC (.int 1))) (eVar 4) [v0, v1, v2, v3, .val (.int n), .val (.list l), .val (.int i), v7', v8, v9, v10, v11] h = some (rangeD ((i : Int) + 1) n, h) := by simp [eOp, eVar, iRange2, eC, gI, o1, o2]
      have b2 : lLc [7] (iRange2 (eOp gAddI (eVar 6) (eC (.int 1))) (eVar 4)) (gN 7) tYesM (eA fTup (aCons (eVar 6) (aCons (eVar 7) aNil))) [v0, v1, v2, v3, .val (.int n), .val (.list l), .val (.int i), v7', v8, v9, v10, v11] h = some (es, h) := by simp [lLc, b1, lz, wipeR, e1]
      have b3 : gCatL (.list l) (.list es) = some (.list (l ++ es)) := if_pos lt
      have b4 : eOp gCatL (eVar 5) (eL (lLc [7] (iRange2 (eOp gAddI (eVar 6) (eC (.int 1))) (eVar 4)) (gN 7) tYesM (eA fTup (aCons (eVar 6) (aCons (eVar 7) aNil))))) [v0, v1, v2, v3, .val (.int n), .val (.list l), .val (.int i), v7', v8, v9, v10, v11] h = some (.list (l ++ es), h) := by simp [eOp, eVar, eL, b2, b3]
      simp [sSet, b4]
    · intro d hd
      rcases List.mem_append.mp hd with z | z
      · exact ev d z
      · have hm := sl.mem z
        obtain ⟨d0, hd0, rfl⟩ := List.mem_map.mp hm
        obtain ⟨j, hj, e2⟩ := List.getElem_of_mem hd0
        obtain ⟨rfl, hlt⟩ := rangeD_get (List.getElem?_eq_some_iff.mpr ⟨hj, e2⟩)
        exact ⟨[i, (i : Int) + 1 + j], ⟨_, _, rfl, by omega, by omega, by omega⟩, rfl⟩
    · rw [List.length_append]
      omega
def kk (q : List Int) : List Key := q.map Sum.inl
def dOk (n : Int) (b : Nat) (kss : List (List Key)) : Prop := ∃ l : List (List Int), kss = l.map kk ∧ (∀ q ∈ l, tieI n q) ∧ l.length ≤ b ∧ l.Nodup
theorem dOk.put {b : Nat} {kss : List (List Key)} {q : List Int} (h : dOk n b kss) (hq : tieI n q) : dOk n (b + 1) (putKs kss (kk q)) := by
  obtain ⟨l, rfl, h1, h2, h3⟩ := h
  unfold putKs
  split
  · exact ⟨l, rfl, h1, by omega, h3⟩
  · rename_i no
    refine ⟨l ++ [q], by simp, fun x hx => ?_, by simp; omega, ?_⟩
    · rcases List.mem_append.mp hx with z | z
      · exact h1 x z
      · rw [List.mem_singleton.mp z]; exact hq
    · refine List.nodup_append.mpr ⟨h3, by simp, fun x hx y hy e => no ?_⟩
      rw [List.mem_singleton.mp hy] at e
      subst e
      exact List.any_eq_true.mpr ⟨kk x, List.mem_map.mpr ⟨x, hx, rfl⟩, by simp⟩
theorem ln4_ex {v2 v3 v5 v6 v7 v9 v10 v11 : Sl} {xs : List D} (hx : xs.length < 890000) (h0 : 1 ≤ n) (h1 : n ≤ 7) : ∃ kss v7' v9' xs', ln4 [.val (scI ns), .val (hdT T), v2, v3, .val (.int n), v5, v6, v7, .dT [], v9, v10, v11] (Tw T xs) = some (.nx [.val (scI ns), .val (hdT T), v2, v3, .val (.int n), v5, v6, v7', .dT kss, v9', v10, v11] (Tw T xs')) ∧ dOk n 7 kss ∧ xs'.length ≤ xs.length + 8 := by
  obtain ⟨j, j0, j1, ej⟩ := draw_ex (T := T) (ns := ns) (xs := xs) (many := 3) (by omega) (by omega)
  by_cases hj : 0 < j
  rotate_left
  · refine ⟨[], v7, v9, xs ++ [.int 0], ?_, ⟨[], rfl, fun q hq => (by cases hq), by simp, by simp⟩, by simp⟩
    simp [sIf, tValM, eOp, eCall, aCons, aNil, eVar, eC, ej, gI, hj, dB, sNil]
  have := forGo_ex (g := gN 9) (mb := sSeq (sSet 7 (eCall m__law_draw (aCons (eVar 0) (aCons (eVar 1) (aCons (eVar 9) aNil))))) (sPutT 8 (eA fTup (aCons (eVar 7) (aCons (eVar 9) aNil))) (eC (.int 0))))
    (fun i ρ h' => ∃ kss v7' v9' xs', ρ = [.val (scI ns), .val (hdT T), v2, v3, .val (.int n), v5, v6, v7', .dT kss, v9', v10, v11] ∧ h' = Tw T xs' ∧ dOk n i kss ∧ xs'.length ≤ xs.length + 1 + i) (rangeD 1 n) 0 [.val (scI ns), .val (hdT T), v2, v3, .val (.int n), v5, v6, v7, .dT [], v9, v10, v11] (Tw T (xs ++ [.int 0]))
    ⟨[], v7, v9, xs ++ [.int 0], rfl, rfl, ⟨[], rfl, fun q hq => (by cases hq), Nat.le_refl _, by simp⟩, by simp⟩ ?_
  · obtain ⟨ρ', h', e, kss, v7', v9', xs', rfl, rfl, ⟨l, rfl, q1, q2, q3⟩, ll⟩ := this
    rw [rangeD_len] at q2 ll
    have hn : (n - 1).toNat ≤ 6 := by omega
    refine ⟨l.map kk, v7', v9', xs', ?_, ⟨l, rfl, q1, by omega, q3⟩, by omega⟩
    have o1 := ok62_small (i := 1) (by omega) (by omega)
    have o2 := ok62_small (i := n) (by omega) (by omega)
    simp [sIf, tValM, eOp, eCall, aCons, aNil, eVar, eC, ej, gI, hj, dB, sFor, iRange2, o1, o2, e]
  · rintro i d ρ h' hd ⟨kss, v7', v9', xs', rfl, rfl, dk, ll⟩
    obtain ⟨rfl, hin⟩ := rangeD_get hd
    have hi : i ≤ 6 := by omega
    obtain ⟨a, a0, a1, ea⟩ := draw_ex (T := T) (ns := ns) (xs := xs') (many := 1 + i) (by omega) (by omega)
    have dk' : dOk n (0 + i + 1) (putKs kss (kk [a, 1 + i])) := dk.put ⟨a, 1 + i, rfl, a0, a1, by omega⟩
    have lk : kss.length < lim := by
      obtain ⟨l, rfl, _, q2, _⟩ := dk
      rw [List.length_map]
      exact lt_lim (by omega)
    have kt : asKeys [.int a, .int (1 + (i : Int))] = some (kk [a, 1 + i]) := rfl
    refine ⟨[.val (scI ns), .val (hdT T), v2, v3, .val (.int n), v5, v6, v7', .dT kss, .val (.int (1 + i)), v10, v11], [.val (scI ns), .val (hdT T), v2, v3, .val (.int n), v5, v6, .val (.int a), .dT (putKs kss (kk [a, 1 + i])), .val (.int (1 + i)), v10, v11], Tw T (xs' ++ [.int 0]), by simp [gN], ?_, _, _, _, xs' ++ [.int 0], rfl, rfl, dk', by simp; omega⟩
    simp [sSeq, sSet, eCall, aCons, aNil, eVar, ea, sPutT, eC, eA, fTup, le_lim, kt, lk]
theorem ln5_ex {v2 v6 v7 v9 v10 v11 : Sl} {xs l : List D} {kss : List (List Key)} (hx : xs.length < 880000) (w0 : 0 ≤ wide) (w1 : wide ≤ 9) (ev : evOk n l) (dk : dOk n 7 kss) :
    ∃ kss' v10' xs', ln5 [.val (scI ns), .val (hdT T), v2, .val (.int wide), .val (.int n), .val (.list l), v6, v7, .dT kss, v9, v10, v11] (Tw T xs) = some (.nx [.val (scI ns), .val (hdT T), v2, .val (.int wide), .val (.int n), .val (.list l), v6, v7, .dT kss', v9, v10', v11] (Tw T xs')) ∧ dOk n 9 kss' ∧ xs'.length ≤ xs.length + 20 := by
  obtain ⟨j, j0, j1, ej⟩ := draw_ex (T := T) (ns := ns) (xs := xs) (many := wide + 1) (by omega) (by omega)
  have := forGo_ex (g := gN 10) (mb := sIf (tAndM (tValM truD (eVar 5)) (tValM dB (eOp gLtI (eLenD 8) (eVar 3)))) (sPutT 8 (eCall m__law_pick (aCons (eVar 0) (aCons (eVar 1) (aCons (eVar 5) aNil)))) (eC (.int 0))) sNil)
    (fun i ρ h' => ∃ kss' v10' xs', ρ = [.val (scI ns), .val (hdT T), v2, .val (.int wide), .val (.int n), .val (.list l), v6, v7, .dT kss', v9, v10', v11] ∧ h' = Tw T xs' ∧ dOk n 9 kss' ∧ xs'.length ≤ xs.length + 1 + i) (rangeD 0 j) 0 [.val (scI ns), .val (hdT T), v2, .val (.int wide), .val (.int n), .val (.list l), v6, v7, .dT kss, v9, v10, v11] (Tw T (xs ++ [.int 0]))
    ⟨kss, v10, xs ++ [.int 0], rfl, rfl, (let ⟨l, h1, h2, h3, h4⟩ := dk; ⟨l, h1, h2, by omega, h4⟩), by simp⟩ ?_
  · obtain ⟨ρ', h', e, kss', v10', xs', rfl, rfl, dk', ll⟩ := this
    rw [rangeD_len] at ll
    refine ⟨kss', v10', xs', ?_, dk', by omega⟩
    have o1 := ok62_small (i := j) (by omega) (by omega)
    simp [sFor, iRange1, eCall, aCons, aNil, eVar, eOp, eC, gI, ej, o1, e]
  · rintro i d ρ h' hd ⟨kss', v10', xs', rfl, rfl, dk', ll⟩
    obtain ⟨rfl, hin⟩ := rangeD_get hd
    have hi : i ≤ 9 := by omega
    by_cases hl : l = []
    · refine ⟨[.val (scI ns), .val (hdT T), v2, .val (.int wide), .val (.int n), .val (.list l), v6, v7, .dT kss', v9, .val (.int (0 + i)), v11], [.val (scI ns), .val (hdT T), v2, .val (.int wide), .val (.int n), .val (.list l), v6, v7, .dT kss', v9, .val (.int (0 + i)), v11], Tw T xs', by simp [gN], ?_, kss', .val (.int (0 + i)), xs', rfl, rfl, dk', by omega⟩
      simp [sIf, tAndM, tValM, truD, eVar, hl, sNil]
    by_cases hk : (kss'.length : Int) < wide
    rotate_left
    · refine ⟨[.val (scI ns), .val (hdT T), v2, .val (.int wide), .val (.int n), .val (.list l), v6, v7, .dT kss', v9, .val (.int (0 + i)), v11], [.val (scI ns), .val (hdT T), v2, .val (.int wide), .val (.int n), .val (.list l), v6, v7, .dT kss', v9, .val (.int (0 + i)), v11], Tw T xs', by simp [gN], ?_, kss', .val (.int (0 + i)), xs', rfl, rfl, dk', by omega⟩
      simp [sIf, tAndM, tValM, truD, eVar, hl, sNil, dB, eOp, eLenD, gI, hk]
    obtain ⟨d, hd, ed⟩ := pick_ex (T := T) (ns := ns) (xs := xs') (ds := l) (by omega) hl
    obtain ⟨q, hq, rfl⟩ := ev d hd
    obtain ⟨a, b, rfl, _⟩ := id hq
    have kt : asKeys ([a, b].map PyData.int) = some (kk [a, b]) := rfl
    have lk : kss'.length < lim := lt_lim (by omega)
    have dk2 : dOk n 9 (putKs kss' (kk [a, b])) := by
      obtain ⟨l', rfl, g1, g2, g3⟩ := dk'
      rw [List.length_map] at hk
      have h8 : dOk n 8 (l'.map kk) := ⟨l', rfl, g1, by omega, g3⟩
      exact h8.put hq
    refine ⟨[.val (scI ns), .val (hdT T), v2, .val (.int wide), .val (.int n), .val (.list l), v6, v7, .dT kss', v9, .val (.int (0 + i)), v11], [.val (scI ns), .val (hdT T), v2, .val (.int wide), .val (.int n), .val (.list l), v6, v7, .dT (putKs kss' (kk [a, b])), v9, .val (.int (0 + i)), v11], Tw T (xs' ++ [.int 0]), by simp [gN], ?_, _, _, xs' ++ [.int 0], rfl, rfl, dk2, by simp; omega⟩
    unfold tupD at ed
    have c1 : tAndM (tValM truD (eVar 5)) (tValM dB (eOp gLtI (eLenD 8) (eVar 3))) [.val (scI ns), .val (hdT T), v2, .val (.int wide), .val (.int n), .val (.list l), v6, v7, .dT kss', v9, .val (.int (0 + i)), v11] (Tw T xs') = some (true, Tw T xs') := by simp [tAndM, tValM, truD, eVar, hl, dB, eOp, eLenD, gI, hk]
    simp only [sIf, c1]
    simp [sPutT, eCall, aCons, aNil, eVar, eC, ed]
    simp at kt
    simp [kt, lk]
def rimI (n : Int) (rs : List Int) : Prop := rs.Pairwise (· < ·) ∧ ∀ r ∈ rs, 0 ≤ r ∧ r < n
theorem ln6_ex {v2 v3 v5 v6 v7 v8 v9 v10 v11 : Sl} {xs : List D} (hx : xs.length < 870000) (h0 : 1 ≤ n) (h1 : n ≤ 7) : ∃ rs xs', ln6 [.val (scI ns), .val (hdT T), v2, v3, .val (.int n), v5, v6, v7, v8, v9, v10, v11] (Tw T xs) = some (.nx [.val (scI ns), .val (hdT T), v2, v3, .val (.int n), v5, v6, v7, v8, v9, v10, .val (.list (rs.map PyData.int))] (Tw T xs')) ∧ rimI n rs ∧ rs.length ≤ 7 ∧ xs'.length ≤ xs.length + 7 := by
  obtain ⟨es, h', e, sl, xs', rfl, ll⟩ := lcGo_ex (ρ := [.val (scI ns), .val (hdT T), v2, v3, .val (.int n), v5, v6, v7, v8, .no, v10, v11]) (g := gN 9) (t := tValM dB (eOp gEq (eCall m__law_draw (aCons (eVar 0) (aCons (eVar 1) (aCons (eC (.int 2)) aNil)))) (eC (.int 0)))) (m := eVar 9) (f := fun d => d) (fun i h => ∃ xs', h = Tw T xs' ∧ xs'.length ≤ xs.length + i) (rangeD 0 n) 0 (Tw T xs) ⟨xs, rfl, Nat.le_refl _⟩ (fun i d h hd ⟨xs', e1, ll⟩ => by
    rw [e1]
    obtain ⟨rfl, hin⟩ := rangeD_get hd
    obtain ⟨a, a0, a1, ea⟩ := draw_ex (T := T) (ns := ns) (xs := xs') (many := 2) (by omega) (by omega)
    refine ⟨[.val (scI ns), .val (hdT T), v2, v3, .val (.int n), v5, v6, v7, v8, .val (.int (0 + i)), v10, v11], a == 0, Tw T (xs' ++ [.int 0]), by simp [gN], ?_, fun _ => ⟨Tw T (xs' ++ [.int 0]), by simp [eVar], xs' ++ [.int 0], rfl, by simp; omega⟩, fun _ => ⟨xs' ++ [.int 0], rfl, by simp; omega⟩⟩
    simp [tValM, eOp, eCall, aCons, aNil, eVar, eC, ea, gEq, shp_int, PyData.eqv, dB])
  rw [rangeD_len] at ll
  rw [List.map_id'] at sl
  unfold rangeD at sl
  obtain ⟨l', sl', rfl⟩ := List.sublist_map_iff.mp sl
  refine ⟨l'.map fun k : Nat => (k : Int), xs', ?_, ⟨?_, ?_⟩, ?_, by omega⟩
  · have o := ok62_small (i := n) (by omega) (by omega)
    have lz : (rangeD 0 n).length ≤ lim := le_lim (by rw [rangeD_len]; omega)
    have b1 : lLc [9] (iRange1 (eVar 4)) (gN 9) (tValM dB (eOp gEq (eCall m__law_draw (aCons (eVar 0) (aCons (eVar 1) (aCons (eC (.int 2)) aNil)))) (eC (.int 0)))) (eVar 9) [.val (scI ns), .val (hdT T), v2, v3, .val (.int n), v5, v6, v7, v8, v9, v10, v11] (Tw T xs) = some (l'.map fun k : Nat => .int (0 + (k : Int)), Tw T xs') := by
      have b0 : iRange1 (eVar 4) [.val (scI ns), .val (hdT T), v2, v3, .val (.int n), v5, v6, v7, v8, v9, v10, v11] (Tw T xs) = some (rangeD 0 n, Tw T xs) := by simp [iRange1, eVar, o]
      simp only [lLc, b0, if_pos lz]
      exact e
    simp [sSet, eL, b1, List.map_map]
  · have := List.pairwise_lt_range.sublist sl'
    rw [List.pairwise_map]
    exact this.imp fun h => by omega
  · intro r hr
    obtain ⟨k, hk, rfl⟩ := List.mem_map.mp hr
    have := List.mem_range.mp (sl'.mem hk)
    omega
  · rw [List.length_map]
    have := sl'.length_le
    rw [List.length_range] at this
    omega
theorem ln7_ex {v2 v3 v5 v6 v7 v8 v9 v10 : Sl} {xs : List D} {rs : List Int} (hx : xs.length < 860000) (h0 : 1 ≤ n) (hr : rimI n rs) (hl : rs.length ≤ 7) : ∃ rs' xs', ln7 [.val (scI ns), .val (hdT T), v2, v3, .val (.int n), v5, v6, v7, v8, v9, v10, .val (.list (rs.map PyData.int))] (Tw T xs) = some (.nx [.val (scI ns), .val (hdT T), v2, v3, .val (.int n), v5, v6, v7, v8, v9, v10, .val (.list (rs'.map PyData.int))] (Tw T xs')) ∧ rimI n rs' ∧ rs' ≠ [] ∧ rs'.length ≤ 7 ∧ xs'.length ≤ xs.length + 1 := by
  by_cases he : rs = []
  · subst he
    obtain ⟨a, a0, a1, ea⟩ := draw_ex (T := T) (ns := ns) (xs := xs) (many := n) (by omega) (by omega)
    refine ⟨[a], xs ++ [.int 0], ?_, ⟨by simp, fun r hr => by rw [List.mem_singleton.mp hr]; exact ⟨a0, a1⟩⟩, by simp, by simp, by simp⟩
    simp [sIf, tNotM, tValM, truD, eVar, sSet, eA, aCons, aNil, eCall, ea, fLst, le_lim]
  · refine ⟨rs, xs, ?_, hr, he, hl, by omega⟩
    simp [sIf, tNotM, tValM, truD, eVar, he, sNil]
theorem cut_to (ds : List D) {w : Int} (h : 0 ≤ w) : Q.cutD ds none (some w) = ds.take w.toNat := by
  unfold Q.cutD
  have e : HT.sIx ds.length ds.length (some w) = min w.toNat ds.length := by
    have := HT.sIx_nat ds.length ds.length w.toNat
    rwa [show ((w.toNat : Nat) : Int) = w by omega] at this
  rw [e, HT.sIx_none, List.drop_zero, Nat.sub_zero]
  rw [List.take_eq_take_iff]
  omega
theorem int_kk {n : Int} : ∀ {l : List (List Int)}, (∀ q ∈ l, tieI n q) → intKeyss (l.map kk) = some l
  | [], _ => rfl
  | q :: r, h => by
    obtain ⟨a, b, e, _⟩ := h _ List.mem_cons_self
    subst e
    have ih : intKeyss (r.map kk) = some r := int_kk fun q hq => h q (List.mem_cons_of_mem _ hq)
    have e1 : intKeys (kk [a, b]) = some [a, b] := rfl
    rw [List.map_cons, intKeyss, e1]
    simp only [ih]
theorem ln8_ex {v0 v1 v2 v5 v6 v7 v9 v10 : Sl} {h : Hq} {kss : List (List Key)} {rs : List Int} (w0 : 0 ≤ wide) (dk : dOk n 9 kss) : ∃ tl : List (List Int), ln8 [v0, v1, v2, .val (.int wide), .val (.int n), v5, v6, v7, .dT kss, v9, v10, .val (.list (rs.map PyData.int))] h = some (.rt (.tuple [.int n, .tuple (tl.map tupD), .tuple (rs.map PyData.int)]) h) ∧ (∀ q ∈ tl, tieI n q) ∧ tl.length ≤ wide.toNat ∧ tl.length ≤ 9 ∧ tl.Nodup ∧ tl.Pairwise LeT := by
  obtain ⟨l, rfl, h1, h2, h3⟩ := dk
  have e1 := int_kk h1
  have h64 : l.length < 64 := by omega
  refine ⟨(srtT l).take wide.toNat, ?_, fun q hq => h1 q ((srtT_perm l).mem_iff.mp (List.mem_of_mem_take hq)), by rw [List.length_take]; omega, by rw [List.length_take, (srtT_perm l).length_eq]; omega, ((srtT_perm l).nodup_iff.mpr h3).sublist (List.take_sublist _ _), (srtT_sorted l).sublist (List.take_sublist _ _)⟩
  simp [sRet, eA, aCons, aNil, eVar, eSl, qVal, eQ, eSortD, e1, h64, seqD, oNo, oYes, cut_to _ w0, fTup, le_lim, List.map_take]
theorem net_ex {xs : List D} (hx : xs.length < 800000) (h1 : 1 ≤ high) (h2 : high ≤ 7) (w0 : 0 ≤ wide) (w1 : wide ≤ 9) :
    ∃ (n : Int) (tl : List (List Int)) (rs : List Int) (xs' : List D), m__law_net [scI ns, hdT T, .int high, .int wide] (Tw T xs) = some (.tuple [.int n, .tuple (tl.map tupD), .tuple (rs.map PyData.int)], Tw T xs') ∧ xs'.length ≤ xs.length + 60 ∧ 1 ≤ n ∧ n ≤ high ∧
      (∀ q ∈ tl, tieI n q) ∧ tl.length ≤ wide.toNat ∧ tl.length ≤ 9 ∧ tl.Nodup ∧ tl.Pairwise LeT ∧ rimI n rs ∧ rs ≠ [] ∧ rs.length ≤ 7 := by
  obtain ⟨j, j0, j1, ej⟩ := draw_ex (T := T) (ns := ns) (xs := xs) (many := high) (by omega) (by omega)
  have s0 : ln0 [.val (scI ns), .val (hdT T), .val (.int high), .val (.int wide), .no, .no, .no, .no, .no, .no, .no, .no] (Tw T xs) = some (.nx [.val (scI ns), .val (hdT T), .val (.int high), .val (.int wide), .val (.int (1 + j)), .no, .no, .no, .no, .no, .no, .no] (Tw T (xs ++ [.int 0]))) := by
    simp [sSet, eOp, eC, eCall, aCons, aNil, eVar, ej, gI]
  have s1 : ln1 [.val (scI ns), .val (hdT T), .val (.int high), .val (.int wide), .val (.int (1 + j)), .no, .no, .no, .no, .no, .no, .no] (Tw T (xs ++ [.int 0])) = some (.nx [.val (scI ns), .val (hdT T), .val (.int high), .val (.int wide), .val (.int (1 + j)), .val (.list []), .no, .no, .no, .no, .no, .no] (Tw T (xs ++ [.int 0]))) := by
    simp [sSet, eA, aNil, fLst, le_lim]
  obtain ⟨l, v6, v7, s2, ev⟩ := ln2_ex (n := 1 + j) (v0 := .val (scI ns)) (v1 := .val (hdT T)) (v2 := .val (.int high)) (v3 := .val (.int wide)) (v6 := .no) (v7 := .no) (v8 := .no) (v9 := .no) (v10 := .no) (v11 := .no) (h := Tw T (xs ++ [.int 0])) (by omega) (by omega)
  have s3 : ln3 [.val (scI ns), .val (hdT T), .val (.int high), .val (.int wide), .val (.int (1 + j)), .val (.list l), v6, v7, .no, .no, .no, .no] (Tw T (xs ++ [.int 0])) = some (.nx [.val (scI ns), .val (hdT T), .val (.int high), .val (.int wide), .val (.int (1 + j)), .val (.list l), v6, v7, .dT [], .no, .no, .no] (Tw T (xs ++ [.int 0]))) := by
    simp [sNewT]
  obtain ⟨kss, v7', v9, xs4, s4, d4, l4⟩ := ln4_ex (T := T) (ns := ns) (n := 1 + j) (v2 := .val (.int high)) (v3 := .val (.int wide)) (v5 := .val (.list l)) (v6 := v6) (v7 := v7) (v9 := .no) (v10 := .no) (v11 := .no) (xs := xs ++ [.int 0]) (by simp; omega) (by omega) (by omega)
  rw [List.length_append, List.length_singleton] at l4
  obtain ⟨kss5, v10, xs5, s5, d5, l5⟩ := ln5_ex (T := T) (ns := ns) (wide := wide) (n := 1 + j) (v2 := .val (.int high)) (v6 := v6) (v7 := v7') (v9 := v9) (v10 := .no) (v11 := .no) (xs := xs4) (l := l) (kss := kss) (by omega) w0 w1 ev d4
  obtain ⟨rs, xs6, s6, r6, n6, l6⟩ := ln6_ex (T := T) (ns := ns) (n := 1 + j) (v2 := .val (.int high)) (v3 := .val (.int wide)) (v5 := .val (.list l)) (v6 := v6) (v7 := v7') (v8 := .dT kss5) (v9 := v9) (v10 := v10) (v11 := .no) (xs := xs5) (by omega) (by omega) (by omega)
  obtain ⟨rs7, xs7, s7, r7, e7, n7, l7⟩ := ln7_ex (T := T) (ns := ns) (n := 1 + j) (v2 := .val (.int high)) (v3 := .val (.int wide)) (v5 := .val (.list l)) (v6 := v6) (v7 := v7') (v8 := .dT kss5) (v9 := v9) (v10 := v10) (xs := xs6) (by omega) (by omega) r6 n6
  obtain ⟨tl, s8, t8, w8, c8, n8, p8⟩ := ln8_ex (wide := wide) (n := 1 + j) (v0 := .val (scI ns)) (v1 := .val (hdT T)) (v2 := .val (.int high)) (v5 := .val (.list l)) (v6 := v6) (v7 := v7') (v9 := v9) (v10 := v10) (h := Tw T xs7) (rs := rs7) w0 d5
  refine ⟨1 + j, tl, rs7, xs7, ?_, by omega, by omega, by omega, t8, w8, c8, n8, p8, r7, e7, n7⟩
  unfold m__law_net
  rw [if_pos (by rfl)]
  unfold runB
  have st : (([scI ns, hdT T, .int high, .int wide] : List D).map Sl.val ++ List.replicate (12 - 4) Sl.no : Rho) = [.val (scI ns), .val (hdT T), .val (.int high), .val (.int wide), .no, .no, .no, .no, .no, .no, .no, .no] := rfl
  have z : b__law_net [.val (scI ns), .val (hdT T), .val (.int high), .val (.int wide), .no, .no, .no, .no, .no, .no, .no, .no] (Tw T xs) = some (.rt (.tuple [.int (1 + j), .tuple (tl.map tupD), .tuple (rs7.map PyData.int)]) (Tw T xs7)) := by
    unfold b__law_net
    rw [seq_nx s0, seq_nx s1, seq_nx s2, seq_nx s3, seq_nx s4, seq_nx s5, seq_nx s6, seq_nx s7]
    exact s8
  rw [show (12 - ([scI ns, hdT T, .int high, .int wide] : List D).length) = 12 - 4 from rfl, st, z]
end
end Q
set_option Elab.async false
set_option linter.all false
set_option maxRecDepth 100000
namespace Q
open PySem PySem.Spec PyProof.Rows L2
structure Nc (mg : Str → Option Value) : Prop where
  min : mg "min" = none
  max : mg "max" = none
  enumerate : mg "enumerate" = none
abbrev gMin2 : D → D → Option D := gI (fun _ _ => true) fun i j => .int (if j < i then j else i)
abbrev gMax2 : D → D → Option D := gI (fun _ _ => true) fun i j => .int (if j > i then j else i)
end Q
set_option Elab.async false
set_option linter.all false
set_option maxRecDepth 100000
namespace Q
open PySem PySem.W PyProof.Rows
section
variable {g : Keyed → Int}
def Gr (g : Keyed → Int) (xs : Array Keyed) (i : Nat) : Int := match xs[i]? with | some x => g x | none => 0
def Srt (g : Keyed → Int) (xs : Array Keyed) (lo hi : Nat) : Prop := ∀ i j, lo ≤ i → i ≤ j → j < hi → Gr g xs i ≤ Gr g xs j
def Fal (g : Keyed → Int) (xs : Array Keyed) (lo hi : Nat) : Prop := ∀ i j, lo ≤ i → i ≤ j → j < hi → Gr g xs j ≤ Gr g xs i
def Same' (lo hi : Nat) (xs ys : Array Keyed) : Prop := ∀ i, i < lo ∨ hi ≤ i → ys[i]? = xs[i]?
theorem Same'.refl {lo hi : Nat} {xs : Array Keyed} : Same' lo hi xs xs := fun _ _ => rfl
theorem Same'.trans {lo hi : Nat} {xs ys zs : Array Keyed} (a : Same' lo hi xs ys) (b : Same' lo hi ys zs) : Same' lo hi xs zs := fun i h => (b i h).trans (a i h)
theorem Gr_of {xs ys : Array Keyed} {i j : Nat} (h : xs[i]? = ys[j]?) : Gr g xs i = Gr g ys j := by unfold Gr; rw [h]
theorem Gr_mir {xs : Array Keyed} {i j : Nat} (hj : j ≤ xs.size) (k : Nat) : Gr g (mirror xs i j ((j - i) / 2)) k = if i ≤ k ∧ k < j then Gr g xs (i + j - 1 - k) else Gr g xs k := by
  have e := getElem?_mirror_all (i := i) hj k
  split
  · rename_i h; rw [if_pos h] at e; exact Gr_of e
  · rename_i h; rw [if_neg h] at e; exact Gr_of e
theorem mir_same {xs : Array Keyed} {i j lo hi : Nat} (hj : j ≤ xs.size) (h1 : lo ≤ i) (h2 : j ≤ hi) : Same' lo hi xs (mirror xs i j ((j - i) / 2)) := fun k hk => by
  rw [getElem?_mirror_all hj, if_neg (by omega)]
theorem Gr_bub {xs : Array Keyed} {src d : Nat} (hs : src < xs.size) (hd : d ≤ src) (k : Nat) : Gr g (bubble xs src d) k = if k = src - d then Gr g xs src else if src - d < k ∧ k ≤ src then Gr g xs (k - 1) else Gr g xs k := by
  have e := getElem?_bubble hs d hd k
  split
  · rename_i h; rw [if_pos h] at e; exact Gr_of e
  · rename_i h
    rw [if_neg h] at e
    split
    · rename_i h; rw [if_pos h] at e; exact Gr_of e
    · rename_i h; rw [if_neg h] at e; exact Gr_of e
theorem bub_same {xs : Array Keyed} {src d lo hi : Nat} (hs : src < xs.size) (hd : d ≤ src) (h1 : lo ≤ src - d) (h2 : src < hi) : Same' lo hi xs (bubble xs src d) := fun k hk => by
  rw [getElem?_bubble hs d hd, if_neg (by omega), if_neg (by omega)]
end
structure Sb (κ : SortKind) (a₀ : Array Keyed) (st : SortSt) : Prop where
  kind : kindOf st = κ
  perm : (arrOf st).Perm a₀
  failed : failedOf st = none
theorem Sb.size {κ : SortKind} {a₀ : Array Keyed} {st : SortSt} (h : Sb κ a₀ st) : (arrOf st).size = a₀.size := h.perm.size_eq
theorem Sb.arr {κ : SortKind} {a₀ : Array Keyed} {st : SortSt} (h : Sb κ a₀ st) {xs : Array Keyed} (p : xs.Perm (arrOf st)) : Sb κ a₀ (setArr st xs) := ⟨h.kind, p.trans h.perm, h.failed⟩
theorem Sb.mem {κ : SortKind} {a₀ : Array Keyed} {st : SortSt} (h : Sb κ a₀ st) {i : Nat} {x : Keyed} (e : (arrOf st)[i]? = some x) : x ∈ a₀ := h.perm.mem_iff.mp (Array.mem_of_getElem? e)
section
variable {prog : Program} {w : World} {A : Around} {E : Value → Shared → Prop} {s : Shared} {κ : SortKind} {a₀ : Array Keyed} {g : Keyed → Int}
def Ora (prog : Program) (w : World) (A : Around) (s : Shared) (κ : SortKind) (a₀ : Array Keyed) (g : Keyed → Int) : Prop :=
  ∀ x y, x ∈ a₀ → y ∈ a₀ → wpAny (model prog w) A (keyLt' κ x.1 y.1) (fun b s' => s' = s ∧ b = decide (g x < g y)) (fun _ _ => False) s
theorem ask_ok (O : Ora prog w A s κ a₀ g) {x y : Keyed} (hx : x ∈ a₀) (hy : y ∈ a₀) {st : SortSt} (hk : kindOf st = κ) {Q : Option Bool → SortSt → Prop} (h : Q (some (decide (g x < g y))) st) : wpS (model prog w) A E s (lt' x y) Q st := by
  rw [lt'_eq]
  refine wpS_bind (wpS_get ?_)
  rw [hk]
  refine wpS_bind (wpS_lift (wpAny_attempt (wpAny_mono (O x y hx hy) (fun b s' hb => ?_) fun _ _ z => z.elim)))
  obtain ⟨rfl, rfl⟩ := hb
  exact ⟨rfl, wpS_pure h⟩
theorem el_ok {xs : Array Keyed} {i : Nat} {x : Keyed} (e : xs[i]? = some x) {st : SortSt} {Q : Keyed → SortSt → Prop} (h : Q x st) : wpS (model prog w) A E s (elem' xs i) Q st := by
  rw [elem'_eq, e]
  exact wpS_pure h
theorem askAt_ok (O : Ora prog w A s κ a₀ g) {st : SortSt} (hB : Sb κ a₀ st) {i j : Nat} (hi : i < a₀.size) (hj : j < a₀.size) {Q : Option Bool → SortSt → Prop} (h : Q (some (decide (Gr g (arrOf st) i < Gr g (arrOf st) j))) st) :
    wpS (model prog w) A E s (ltAt' i j) Q st := by
  rw [ltAt'_eq]
  have hi' : i < (arrOf st).size := by rw [hB.size]; exact hi
  have hj' : j < (arrOf st).size := by rw [hB.size]; exact hj
  have e1 : (arrOf st)[i]? = some (arrOf st)[i] := getElem?_pos _ i hi'
  have e2 : (arrOf st)[j]? = some (arrOf st)[j] := getElem?_pos _ j hj'
  refine wpS_bind (wpS_get (wpS_bind (el_ok e1 (wpS_bind (el_ok e2 (ask_ok O (hB.mem e1) (hB.mem e2) hB.kind ?_))))))
  unfold Gr at h
  rw [e1, e2] at h
  exact h
theorem rev_ok {st : SortSt} {i j : Nat} {Q : Unit → SortSt → Prop} (h : Q () (setArr st (mirror (arrOf st) i j ((j - i) / 2)))) : wpS (model prog w) A E s (reverseSlice' i j) Q st := by
  rw [reverseSlice'_eq]
  exact wpS_modify h
theorem up_ok (O : Ora prog w A s κ a₀ g) {st : SortSt} (hB : Sb κ a₀ st) {lo a nrem : Nat} (ha : 1 ≤ a) (han : a ≤ nrem) (hn : lo + nrem ≤ a₀.size) (hs : Srt g (arrOf st) lo (lo + a)) {Q : Option (Option Nat) × Nat → SortSt → Prop}
    (h : ∀ n, a ≤ n → n ≤ nrem → Srt g (arrOf st) lo (lo + n) → (n = nrem ∨ Gr g (arrOf st) (lo + n) < Gr g (arrOf st) (lo + n - 1)) → Q (none, n) st)
    {f : Nat → Option (Option Nat) × Nat → StateT SortSt Sem (ForInStep (Option (Option Nat) × Nat))}
    (hf : ∀ i c, f i c = (do
      match ← ltAt' (lo + c.2) (lo + c.2 - 1) with
      | some smaller => if smaller = true then pure (ForInStep.done (none, c.2)) else pure (ForInStep.yield (none, c.2 + 1))
      | _ => pure (ForInStep.done (some none, c.2)))) : wpS (model prog w) A E s (forIn [a:nrem] ((none, a) : Option (Option Nat) × Nat) f) Q st := by
  refine wpS_forRange (I := fun x c st' => st' = st ∧ c = (none, x) ∧ Srt g (arrOf st) lo (lo + x)) ?step ?fin ⟨rfl, rfl, hs⟩
  case fin =>
    rintro c st' ⟨rfl, rfl, q⟩
    rw [show max a nrem = nrem by omega] at q ⊢
    exact h nrem han (Nat.le_refl _) q (.inl rfl)
  case step =>
    rintro x c st' h1 h2 ⟨rfl, rfl, q⟩
    rw [hf]
    refine wpS_bind (askAt_ok O hB (by dsimp only; omega) (by dsimp only; omega) ?_)
    dsimp only
    by_cases c : Gr g (arrOf st') (lo + x) < Gr g (arrOf st') (lo + x - 1)
    · rw [decide_eq_true c, if_pos rfl]
      exact wpS_pure (h x h1 (by omega) q (.inr c))
    · rw [decide_eq_false c, if_neg Bool.false_ne_true]
      refine wpS_pure ⟨rfl, rfl, fun i j l1 l2 l3 => ?_⟩
      by_cases hj : j = lo + x
      · subst hj
        by_cases hi : i = lo + x
        · rw [hi]; exact Int.le_refl _
        · exact Int.le_trans (q i (lo + x - 1) l1 (by omega) (by omega)) (by omega)
      · exact q i j l1 l2 (by omega)
def t3 (lo n nrem : Nat) : StateT SortSt Sem (Option Nat) := do
  reverseSlice' lo (lo + n)
  let c ← forIn [n:nrem] ((none, n) : Option (Option Nat) × Nat) fun _ c => do
    match ← ltAt' (lo + c.2) (lo + c.2 - 1) with
    | some smaller => if smaller = true then pure (ForInStep.done (none, c.2)) else pure (ForInStep.yield (none, c.2 + 1))
    | _ => pure (ForInStep.done (some none, c.2))
  match c.1 with
  | some r => pure r
  | none => pure (some c.2)
theorem t3_ok (O : Ora prog w A s κ a₀ g) {st : SortSt} (hB : Sb κ a₀ st) {lo n nrem : Nat} (h1 : 1 ≤ n) (h2 : n ≤ nrem) (hn : lo + nrem ≤ a₀.size) (hs : Fal g (arrOf st) lo (lo + n)) {Q : Option Nat → SortSt → Prop}
    (h : ∀ m st', Sb κ a₀ st' → pendingOf st' = pendingOf st → 1 ≤ m → m ≤ nrem → Srt g (arrOf st') lo (lo + m) → Same' lo (lo + nrem) (arrOf st) (arrOf st') → Q (some m) st') :
    wpS (model prog w) A E s (t3 lo n nrem) Q st := by
  unfold t3
  have hz : lo + n ≤ (arrOf st).size := by rw [hB.size]; omega
  refine wpS_bind (rev_ok ?_)
  have hB' := hB.arr (mirror_perm (arrOf st) lo (lo + n) ((lo + n - lo) / 2))
  refine wpS_bind (up_ok O hB' h1 h2 hn (fun i j l1 l2 l3 => ?_) (fun m m1 m2 q e => ?_) (fun i c => rfl))
  · show Gr g (mirror (arrOf st) lo (lo + n) ((lo + n - lo) / 2)) i ≤ Gr g (mirror (arrOf st) lo (lo + n) ((lo + n - lo) / 2)) j
    rw [Gr_mir hz, Gr_mir hz, if_pos (by omega), if_pos (by omega)]
    exact hs _ _ (by omega) (by omega) (by omega)
  · exact wpS_pure (h m _ hB' rfl (by omega) m2 q (mir_same hz (Nat.le_refl _) (by omega)))
def dLoop (lo n nrem : Nat) : StateT SortSt Sem (Option (Option Nat) × Nat × Nat) :=
  forIn [n:nrem] ((none, n, 0) : Option (Option Nat) × Nat × Nat) fun _ c => do
    match ← ltAt' (lo + c.2.1) (lo + c.2.1 - 1) with
    | some smaller =>
      if smaller = true then
        if c.2.2 > 0 then do
          reverseSlice' (lo + c.2.1 - (c.2.2 + 1)) (lo + c.2.1)
          pure (ForInStep.yield (none, c.2.1 + 1, 0))
        else pure (ForInStep.yield (none, c.2.1 + 1, 0))
      else do
        match ← ltAt' (lo + c.2.1 - 1) (lo + c.2.1) with
        | some larger => if larger = true then pure (ForInStep.done (none, c.2.1, c.2.2)) else pure (ForInStep.yield (none, c.2.1 + 1, c.2.2 + 1))
        | _ => pure (ForInStep.done (some none, c.2.1, c.2.2))
    | _ => pure (ForInStep.done (some none, c.2.1, c.2.2))
def Eqs (g : Keyed → Int) (xs : Array Keyed) (lo m q : Nat) : Prop := ∀ i, lo + m - (q + 1) ≤ i → i < lo + m → Gr g xs i = Gr g xs (lo + m - 1)
theorem Gr_mir_eq {xs : Array Keyed} {lo m q : Nat} (hm : lo + m ≤ xs.size) (hq : q + 1 ≤ m) (h : Eqs g xs lo m q) (k : Nat) : Gr g (mirror xs (lo + m - (q + 1)) (lo + m) ((lo + m - (lo + m - (q + 1))) / 2)) k = Gr g xs k := by
  rw [Gr_mir hm]
  split
  · rename_i hk
    rw [h k hk.1 hk.2, h _ (by omega) (by omega)]
  · rfl
theorem dLoop_ok (O : Ora prog w A s κ a₀ g) {st : SortSt} (hB : Sb κ a₀ st) {lo n nrem : Nat} (h1 : 1 ≤ n) (h2 : n ≤ nrem) (hn : lo + nrem ≤ a₀.size) (hs : Fal g (arrOf st) lo (lo + n)) {Q : Option (Option Nat) × Nat × Nat → SortSt → Prop}
    (h : ∀ m q st', Sb κ a₀ st' → pendingOf st' = pendingOf st → n ≤ m → m ≤ nrem → q + 1 ≤ m → Fal g (arrOf st') lo (lo + m) → Eqs g (arrOf st') lo m q → Same' lo (lo + nrem) (arrOf st) (arrOf st') → Q (none, m, q) st') :
    wpS (model prog w) A E s (dLoop lo n nrem) Q st := by
  unfold dLoop
  refine wpS_forRange (I := fun x c st' => ∃ q, c = (none, x, q) ∧ Sb κ a₀ st' ∧ pendingOf st' = pendingOf st ∧ q + 1 ≤ x ∧ Fal g (arrOf st') lo (lo + x) ∧ Eqs g (arrOf st') lo x q ∧ Same' lo (lo + nrem) (arrOf st) (arrOf st')) ?step ?fin
    ⟨0, rfl, hB, rfl, h1, hs, fun i l1 l2 => by rw [show i = lo + n - 1 by omega], .refl⟩
  case fin =>
    rintro c st' ⟨q, rfl, b, p, l, f, e, sm⟩
    rw [show max n nrem = nrem by omega] at l f e ⊢
    exact h nrem q st' b p h2 (Nat.le_refl _) l f e sm
  case step =>
    rintro x c st' l1 l2 ⟨q, rfl, b, p, l, f, e, sm⟩
    dsimp only
    have hz : lo + x ≤ (arrOf st').size := by rw [b.size]; omega
    refine wpS_bind (askAt_ok O b (by omega) (by omega) ?_)
    have more : ∀ ys : Array Keyed, (∀ k, Gr g ys k = Gr g (arrOf st') k) → Gr g (arrOf st') (lo + x) ≤ Gr g (arrOf st') (lo + x - 1) → Fal g ys lo (lo + (x + 1)) := fun ys hy hc i j k1 k2 k3 => by
      rw [hy, hy]
      by_cases hj : j = lo + x
      · subst hj
        by_cases hi : i = lo + x
        · rw [hi]; exact Int.le_refl _
        · exact Int.le_trans hc (f i (lo + x - 1) k1 (by omega) (by omega))
      · exact f i j k1 k2 (by omega)
    by_cases c1 : Gr g (arrOf st') (lo + x) < Gr g (arrOf st') (lo + x - 1)
    · rw [decide_eq_true c1]
      dsimp only
      rw [if_pos rfl]
      by_cases q0 : q > 0
      · rw [if_pos q0]
        refine wpS_bind (rev_ok (wpS_pure ⟨0, rfl, b.arr (mirror_perm _ _ _ _), p, by omega, more _ (Gr_mir_eq hz l e) (Int.le_of_lt c1), fun i k1 k2 => by rw [show i = lo + (x + 1) - 1 by omega], sm.trans (mir_same hz (by omega) (by omega))⟩))
      · rw [if_neg q0]
        exact wpS_pure ⟨0, rfl, b, p, by omega, more _ (fun _ => rfl) (Int.le_of_lt c1), fun i k1 k2 => by rw [show i = lo + (x + 1) - 1 by omega], sm⟩
    · rw [decide_eq_false c1]
      dsimp only
      rw [if_neg Bool.false_ne_true]
      refine wpS_bind (askAt_ok O b (by omega) (by omega) ?_)
      by_cases c2 : Gr g (arrOf st') (lo + x - 1) < Gr g (arrOf st') (lo + x)
      · rw [decide_eq_true c2]
        dsimp only
        rw [if_pos rfl]
        exact wpS_pure (h x q st' b p l1 (by omega) l f e sm)
      · rw [decide_eq_false c2]
        dsimp only
        rw [if_neg Bool.false_ne_true]
        refine wpS_pure ⟨q + 1, rfl, b, p, by omega, more _ (fun _ => rfl) (by omega), fun i k1 k2 => ?_, sm⟩
        rw [show lo + (x + 1) - 1 = lo + x by omega]
        by_cases hi : i = lo + x
        · rw [hi]
        · rw [e i (by omega) (by omega)]; omega
def dPart (lo n nrem : Nat) : StateT SortSt Sem (Option Nat) := do
  liftM (rule "list.sort.descending-run")
  let c ← dLoop lo (n + 1) nrem
  match c.1 with
  | some r => pure r
  | none =>
    if c.2.2 > 0 then do
      reverseSlice' (lo + c.2.1 - (c.2.2 + 1)) (lo + c.2.1)
      t3 lo c.2.1 nrem
    else t3 lo c.2.1 nrem
theorem dPart_ok (O : Ora prog w A s κ a₀ g) {st : SortSt} (hB : Sb κ a₀ st) {lo n nrem : Nat} (h2 : n + 1 ≤ nrem) (hn : lo + nrem ≤ a₀.size) (hs : Fal g (arrOf st) lo (lo + (n + 1))) {Q : Option Nat → SortSt → Prop}
    (h : ∀ m st', Sb κ a₀ st' → pendingOf st' = pendingOf st → 1 ≤ m → m ≤ nrem → Srt g (arrOf st') lo (lo + m) → Same' lo (lo + nrem) (arrOf st) (arrOf st') → Q (some m) st') :
    wpS (model prog w) A E s (dPart lo n nrem) Q st := by
  unfold dPart
  refine wpS_bind (wpS_lift (wpAny_rule ⟨rfl, ?_⟩))
  refine wpS_bind (dLoop_ok O hB (by omega) h2 hn hs fun m q st' b p m1 m2 l f e sm => ?_)
  dsimp only
  have hz : lo + m ≤ (arrOf st').size := by rw [b.size]; omega
  by_cases q0 : q > 0
  · rw [if_pos q0]
    refine wpS_bind (rev_ok (t3_ok O (b.arr (mirror_perm _ _ _ _)) (by omega) m2 hn (fun i j k1 k2 k3 => ?_) fun m' st2 b2 p2 n1 n2 q2 s2 => h m' st2 b2 (p2.trans p) n1 n2 q2 ((sm.trans (mir_same hz (by omega) (by omega))).trans s2)))
    show Gr g (mirror (arrOf st') _ _ _) j ≤ Gr g (mirror (arrOf st') _ _ _) i
    rw [Gr_mir_eq hz l e, Gr_mir_eq hz l e]
    exact f i j k1 k2 k3
  · rw [if_neg q0]
    exact t3_ok O b (by omega) m2 hn f fun m' st2 b2 p2 n1 n2 q2 s2 => h m' st2 b2 (p2.trans p) n1 n2 q2 (sm.trans s2)
theorem count_is (lo nrem : Nat) : countRun' lo nrem = (do
    let c ← forIn [1:nrem] ((none, 1) : Option (Option Nat) × Nat) fun _ c => do
      match ← ltAt' (lo + c.2) (lo + c.2 - 1) with
      | some smaller => if smaller = true then pure (ForInStep.done (none, c.2)) else pure (ForInStep.yield (none, c.2 + 1))
      | _ => pure (ForInStep.done (some none, c.2))
    match c.1 with
    | some r => pure r
    | none => (if (c.2 == nrem) = true then pure (some c.2) else if c.2 > 1 then (do
        match ← ltAt' lo (lo + c.2 - 1) with
        | some rose => if rose = true then pure (some c.2) else do
            reverseSlice' lo (lo + c.2)
            dPart lo c.2 nrem
        | _ => pure none) else dPart lo c.2 nrem)) := by
  rw [countRun'_eq]
  refine bind_congr fun c => ?_
  obtain ⟨r, n⟩ := c
  cases r with
  | some r => rfl
  | none =>
    dsimp only
    have key : ∀ m : Nat, (do
        liftM (rule "list.sort.descending-run")
        let c ← dLoop lo (m + 1) nrem
        match c.1 with
        | some r => pure r
        | none =>
          if c.2.2 > 0 then do
            reverseSlice' (lo + c.2.1 - (c.2.2 + 1)) (lo + c.2.1)
            t3 lo c.2.1 nrem
          else t3 lo c.2.1 nrem : StateT SortSt Sem (Option Nat)) = dPart lo m nrem := fun _ => rfl
    split
    · rfl
    · split
      · refine bind_congr fun x => ?_
        cases x with
        | none => rfl
        | some b =>
          dsimp only
          split
          · rfl
          · refine bind_congr fun u => ?_
            rw [← key]
            refine bind_congr fun v => ?_
            refine bind_congr fun c2 => ?_
            obtain ⟨r2, n2, q2⟩ := c2
            cases r2 with
            | some r2 => rfl
            | none =>
              dsimp only
              split
              · refine bind_congr fun y => ?_
                unfold t3
                refine bind_congr fun z => ?_
                refine bind_congr fun c3 => ?_
                obtain ⟨r3, n3⟩ := c3
                cases r3 <;> rfl
              · unfold t3
                refine bind_congr fun z => ?_
                refine bind_congr fun c3 => ?_
                obtain ⟨r3, n3⟩ := c3
                cases r3 <;> rfl
      · rw [← key]
        refine bind_congr fun v => ?_
        refine bind_congr fun c2 => ?_
        obtain ⟨r2, n2, q2⟩ := c2
        cases r2 with
        | some r2 => rfl
        | none =>
          dsimp only
          split
          · refine bind_congr fun y => ?_
            unfold t3
            refine bind_congr fun z => ?_
            refine bind_congr fun c3 => ?_
            obtain ⟨r3, n3⟩ := c3
            cases r3 <;> rfl
          · unfold t3
            refine bind_congr fun z => ?_
            refine bind_congr fun c3 => ?_
            obtain ⟨r3, n3⟩ := c3
            cases r3 <;> rfl
theorem count_ok (O : Ora prog w A s κ a₀ g) {st : SortSt} (hB : Sb κ a₀ st) {lo nrem : Nat} (h1 : 1 ≤ nrem) (hn : lo + nrem ≤ a₀.size) {Q : Option Nat → SortSt → Prop}
    (h : ∀ m st', Sb κ a₀ st' → pendingOf st' = pendingOf st → 1 ≤ m → m ≤ nrem → Srt g (arrOf st') lo (lo + m) → Same' lo (lo + nrem) (arrOf st) (arrOf st') → Q (some m) st') :
    wpS (model prog w) A E s (countRun' lo nrem) Q st := by
  rw [count_is]
  refine wpS_bind (up_ok O hB (Nat.le_refl 1) h1 hn (fun i j l1 l2 l3 => by rw [show i = j by omega]; exact Int.le_refl _) (fun n n1 n2 q e => ?_) (fun i c => rfl))
  dsimp only
  by_cases en : n = nrem
  · rw [if_pos (by rw [en]; exact beq_self_eq_true _)]
    exact wpS_pure (h n st hB rfl n1 n2 q .refl)
  rw [if_neg (by rw [beq_iff_eq]; exact en)]
  have lt : Gr g (arrOf st) (lo + n) < Gr g (arrOf st) (lo + n - 1) := e.resolve_left en
  have hz : lo + n ≤ (arrOf st).size := by rw [hB.size]; omega
  by_cases n0 : n > 1
  · rw [if_pos n0]
    refine wpS_bind (askAt_ok O hB (by omega) (by omega) ?_)
    by_cases c : Gr g (arrOf st) lo < Gr g (arrOf st) (lo + n - 1)
    · rw [decide_eq_true c]
      dsimp only
      rw [if_pos rfl]
      exact wpS_pure (h n st hB rfl n1 n2 q .refl)
    · rw [decide_eq_false c]
      dsimp only
      rw [if_neg Bool.false_ne_true]
      have all : ∀ k, lo ≤ k → k < lo + n → Gr g (arrOf st) k = Gr g (arrOf st) (lo + n - 1) := fun k k1 k2 => by
        have a1 := q lo k (Nat.le_refl _) k1 k2
        have a2 := q k (lo + n - 1) k1 (by omega) (by omega)
        omega
      have me : ∀ k, Gr g (mirror (arrOf st) lo (lo + n) ((lo + n - lo) / 2)) k = Gr g (arrOf st) k := fun k => by
        rw [Gr_mir hz]
        split
        · rename_i hk; rw [all k hk.1 hk.2, all _ (by omega) (by omega)]
        · rfl
      refine wpS_bind (rev_ok ?_)
      refine dPart_ok O (hB.arr (mirror_perm _ _ _ _)) (n := n) (by omega) hn (fun i j k1 k2 k3 => ?_) fun m st2 b2 p2 l1 l2 q2 s2 => h m st2 b2 p2 l1 l2 q2 ((mir_same hz (Nat.le_refl _) (by omega)).trans s2)
      show Gr g (mirror (arrOf st) _ _ _) j ≤ Gr g (mirror (arrOf st) _ _ _) i
      rw [me, me]
      by_cases hj : j = lo + n
      · subst hj
        by_cases hi : i = lo + n
        · rw [hi]; exact Int.le_refl _
        · rw [all i k1 (by omega)]; omega
      · rw [all i k1 (by omega), all j (by omega) (by omega)]; exact Int.le_refl _
  · rw [if_neg n0]
    have e1 : n = 1 := by omega
    subst e1
    refine dPart_ok O hB (n := 1) (by omega) hn (fun i j k1 k2 k3 => ?_) h
    by_cases hi : i = j
    · rw [hi]; exact Int.le_refl _
    · have a1 : i = lo := by omega
      have a2 : j = lo + 1 := by omega
      subst a1 a2
      have : i + 1 - 1 = i := by omega
      rw [this] at lt
      omega
theorem ins_ok (O : Ora prog w A s κ a₀ g) {st : SortSt} (hB : Sb κ a₀ st) {lo n ok : Nat} (hn : lo + n ≤ a₀.size) (hok : ok ≤ n) (hs : Srt g (arrOf st) lo (lo + ok)) {Q : Bool → SortSt → Prop}
    (h : ∀ st', Sb κ a₀ st' → pendingOf st' = pendingOf st → Srt g (arrOf st') lo (lo + n) → Same' lo (lo + n) (arrOf st) (arrOf st') → Q true st') : wpS (model prog w) A E s (binarySort' lo n ok) Q st := by
  rw [binarySort'_eq]
  refine wpS_bind (wpS_mono (wpS_forRange (I := fun k c st' => c = (none, ()) ∧ Sb κ a₀ st' ∧ pendingOf st' = pendingOf st ∧ Srt g (arrOf st') lo (lo + min k n) ∧ Same' lo (lo + n) (arrOf st) (arrOf st'))
    (Q := fun c st' => c = (none, ()) ∧ Sb κ a₀ st' ∧ pendingOf st' = pendingOf st ∧ Srt g (arrOf st') lo (lo + n) ∧ Same' lo (lo + n) (arrOf st) (arrOf st')) ?step ?fin ?init) ?post)
  case post =>
    rintro c st' ⟨rfl, b, p, q, sm⟩
    exact wpS_pure (h st' b p q sm)
  case init =>
    refine ⟨rfl, hB, rfl, fun i j l1 l2 l3 => ?_, .refl⟩
    by_cases z : ok = 0
    · rw [show i = j by omega]; exact Int.le_refl _
    · exact hs i j l1 l2 (by omega)
  case fin =>
    rintro c st' ⟨e, b, p, q, sm⟩
    rw [show min (max (max ok 1) n) n = n by omega] at q
    exact ⟨e, b, p, q, sm⟩
  case step =>
    rintro k c st' k1 k2 ⟨rfl, b, p, q, sm⟩
    rw [show min k n = k by omega] at q
    refine wpS_bind (wpS_mono (wpS_forRange (I := fun x c st2 => st2 = st' ∧ ∃ l r, c = (none, l, r) ∧ l ≤ r ∧ r ≤ k ∧ r - l ≤ k - x ∧ (∀ i, lo ≤ i → i < lo + l → Gr g (arrOf st') i ≤ Gr g (arrOf st') (lo + k)) ∧ (∀ i, lo + r ≤ i → i < lo + k → Gr g (arrOf st') (lo + k) < Gr g (arrOf st') i))
      (Q := fun c st2 => st2 = st' ∧ ∃ l r, c = (none, l, r) ∧ l ≤ k ∧ (∀ i, lo ≤ i → i < lo + l → Gr g (arrOf st') i ≤ Gr g (arrOf st') (lo + k)) ∧ (∀ i, lo + l ≤ i → i < lo + k → Gr g (arrOf st') (lo + k) < Gr g (arrOf st') i)) ?s2 ?f2 ?i2) ?p2)
    case i2 => exact ⟨rfl, 0, k, rfl, by omega, by omega, by omega, fun i l1 l2 => by omega, fun i l1 l2 => by omega⟩
    case f2 =>
      rintro c st2 ⟨rfl, l, r, rfl, a1, a2, a3, a4, a5⟩
      have : l = r := by omega
      subst this
      exact ⟨rfl, l, l, rfl, a2, a4, a5⟩
    case s2 =>
      rintro x c st2 _ x2 ⟨rfl, l, r, rfl, a1, a2, a3, a4, a5⟩
      dsimp only
      by_cases z : l ≥ r
      · rw [if_pos z]
        have : l = r := by omega
        subst this
        exact wpS_pure ⟨rfl, l, l, rfl, a2, a4, a5⟩
      · rw [if_neg z]
        refine wpS_bind (askAt_ok O b (by omega) (by omega) ?_)
        by_cases c1 : Gr g (arrOf st2) (lo + k) < Gr g (arrOf st2) (lo + (l + r) / 2)
        · rw [decide_eq_true c1]
          dsimp only
          rw [if_pos rfl]
          exact wpS_pure ⟨rfl, l, (l + r) / 2, rfl, by omega, by omega, by omega, a4, fun i l1 l2 => Int.lt_of_lt_of_le c1 (q _ i (by omega) l1 l2)⟩
        · rw [decide_eq_false c1]
          dsimp only
          rw [if_neg Bool.false_ne_true]
          exact wpS_pure ⟨rfl, (l + r) / 2 + 1, r, rfl, by omega, by omega, by omega, fun i l1 l2 => Int.le_trans (q i (lo + (l + r) / 2) l1 (by omega) (by omega)) (by omega), a5⟩
    case p2 =>
      rintro c st2 ⟨rfl, l, r, rfl, a1, a2, a3⟩
      show wpS _ _ _ _ (do moveDown' (lo + k) (lo + l); pure (ForInStep.yield (none, ()))) _ _
      rw [moveDown'_eq]
      have hz : lo + k < (arrOf st2).size := by rw [b.size]; omega
      refine wpS_bind (wpS_modify (wpS_pure ⟨rfl, b.arr (bubble_perm _ _ _), p, fun i j l1 l2 l3 => ?_, sm.trans (bub_same hz (by omega) (by omega) (by omega))⟩))
      rw [show min (k + 1) n = k + 1 by omega] at l3
      show Gr g (bubble (arrOf st2) (lo + k) (lo + k - (lo + l))) i ≤ Gr g (bubble (arrOf st2) (lo + k) (lo + k - (lo + l))) j
      rw [Gr_bub hz (by omega), Gr_bub hz (by omega), show lo + k - (lo + k - (lo + l)) = lo + l by omega]
      by_cases d1 : i = lo + l
      · rw [if_pos d1]
        by_cases d2 : j = lo + l
        · rw [if_pos d2]; exact Int.le_refl _
        · rw [if_neg d2, if_pos (by omega)]
          exact Int.le_of_lt (a3 _ (by omega) (by omega))
      · rw [if_neg d1]
        by_cases d2 : j = lo + l
        · rw [if_pos d2, if_neg (by omega)]
          exact a2 i l1 (by omega)
        · rw [if_neg d2]
          by_cases d3 : lo + l < i ∧ i ≤ lo + k
          · rw [if_pos d3, if_pos (by omega)]
            exact q _ _ (by omega) (by omega) (by omega)
          · rw [if_neg d3]
            by_cases d4 : lo + l < j ∧ j ≤ lo + k
            · rw [if_pos d4]
              exact q _ _ l1 (by omega) (by omega)
            · rw [if_neg d4]
              exact q _ _ l1 l2 (by omega)
end
end Q
set_option Elab.async false
set_option linter.all false
set_option maxRecDepth 100000
namespace Q
open PySem PySem.W PyProof.Rows
def gallop' : Bool → Keyed → Array Keyed → Nat → Nat → Nat → StateT SortSt Sem (Option Nat) := sortPriv% PySem.Builtin.gallop
def bey (l : Bool) (key : Keyed) (xs : Array Keyed) (bs i : Nat) : StateT SortSt Sem (Option Bool) := do
  let x ← elem' xs (bs + i)
  if l then lt' x key else return (← lt' key x).map (!·)
theorem gallop'_eq (l : Bool) (key : Keyed) (xs : Array Keyed) (bs n a : Nat) : gallop' l key xs bs n a = (do
    let mut p := 0
    let mut o := 1
    let mut u := 0
    let mut v := 0
    let some r ← bey l key xs bs a | return none
    if r then
      let top := n - a
      for _ in [0:n] do
        if o ≥ top then break
        let some m ← bey l key xs bs (a + o) | return none
        if !m then break
        p := o
        o := 2 * o + 1
      u := a + p + 1
      v := a + min o top
    else
      let top := a + 1
      for _ in [0:n] do
        if o ≥ top then break
        let some m ← bey l key xs bs (a - o) | return none
        if m then break
        p := o
        o := 2 * o + 1
      u := a + 1 - min o top
      v := a - p
    for _ in [0:n] do
      if u ≥ v then break
      let m := u + (v - u) / 2
      let some c ← bey l key xs bs m | return none
      if c then u := m + 1 else v := m
    return some v) := rfl
section
variable {prog : Program} {w : World} {A : Around} {E : Value → Shared → Prop} {s : Shared} {κ : SortKind} {a₀ : Array Keyed} {g : Keyed → Int}
def Ah (l : Bool) (k y : Int) : Prop := if l = true then y < k else y ≤ k
instance (l : Bool) (k y : Int) : Decidable (Ah l k y) := by unfold Ah; exact inferInstance
theorem Ah.mono {l : Bool} {k y z : Int} (h : Ah l k z) (hz : y ≤ z) : Ah l k y := by
  cases l with
  | true => simp only [Ah, if_true] at *; omega
  | false => simp only [Ah, Bool.false_eq_true, if_false] at *; omega
theorem bey_ok (O : Ora prog w A s κ a₀ g) {l : Bool} {key : Keyed} (hk : key ∈ a₀) {xs : Array Keyed} (hx : ∀ x ∈ xs, x ∈ a₀) {bs i : Nat} (hi : bs + i < xs.size) {st : SortSt} (kd : kindOf st = κ) {Q : Option Bool → SortSt → Prop} (h : Q (some (decide (Ah l (g key) (Gr g xs (bs + i))))) st) :
    wpS (model prog w) A E s (bey l key xs bs i) Q st := by
  unfold bey
  have e : xs[bs + i]? = some xs[bs + i] := getElem?_pos xs (bs + i) hi
  have hg : Gr g xs (bs + i) = g xs[bs + i] := by unfold Gr; rw [e]
  rw [hg] at h
  refine wpS_bind (el_ok e ?_)
  cases l with
  | true =>
    rw [if_pos rfl]
    exact ask_ok O (hx _ (Array.getElem_mem hi)) hk kd (by simpa [Ah] using h)
  | false =>
    rw [if_neg Bool.false_ne_true]
    refine wpS_bind (ask_ok O hk (hx _ (Array.getElem_mem hi)) kd (wpS_pure ?_))
    have z : (!decide (g key < g xs[bs + i])) = decide (Ah false (g key) (g xs[bs + i])) := by
      rw [Bool.eq_iff_iff]
      simp [Ah]
    show Q (some (!decide (g key < g xs[bs + i]))) st
    rw [z]
    exact h
theorem srch_ok (O : Ora prog w A s κ a₀ g) {l : Bool} {key : Keyed} (hk : key ∈ a₀) {xs : Array Keyed} (hx : ∀ x ∈ xs, x ∈ a₀) {bs n : Nat} (hn : bs + n ≤ xs.size) (hs : Srt g xs bs (bs + n)) {st : SortSt} (kd : kindOf st = κ) {Q : Option (Option Nat) × Nat × Nat → SortSt → Prop}
    (h : ∀ r, r ≤ n → (∀ i, bs ≤ i → i < bs + r → Ah l (g key) (Gr g xs i)) → (∀ i, bs + r ≤ i → i < bs + n → ¬ Ah l (g key) (Gr g xs i)) → Q (none, r, r) st)
    {u v : Nat} (huv : u ≤ v) (hv : v ≤ n) (hu1 : ∀ i, bs ≤ i → i < bs + u → Ah l (g key) (Gr g xs i)) (hv1 : ∀ i, bs + v ≤ i → i < bs + n → ¬ Ah l (g key) (Gr g xs i))
    {f : Nat → Option (Option Nat) × Nat × Nat → StateT SortSt Sem (ForInStep (Option (Option Nat) × Nat × Nat))}
    (hf : ∀ i c, f i c = (if c.2.1 ≥ c.2.2 then pure (ForInStep.done (none, c.2.1, c.2.2)) else do
      match ← bey l key xs bs (c.2.1 + (c.2.2 - c.2.1) / 2) with
      | some b => if b = true then pure (ForInStep.yield (none, c.2.1 + (c.2.2 - c.2.1) / 2 + 1, c.2.2)) else pure (ForInStep.yield (none, c.2.1, c.2.1 + (c.2.2 - c.2.1) / 2))
      | _ => pure (ForInStep.done (some none, c.2.1, c.2.2)))) : wpS (model prog w) A E s (forIn [0:n] ((none, u, v) : Option (Option Nat) × Nat × Nat) f) Q st := by
  refine wpS_forRange (I := fun x c st' => st' = st ∧ ∃ u v, c = (none, u, v) ∧ u ≤ v ∧ v ≤ n ∧ v - u ≤ n - x ∧ (∀ i, bs ≤ i → i < bs + u → Ah l (g key) (Gr g xs i)) ∧ (∀ i, bs + v ≤ i → i < bs + n → ¬ Ah l (g key) (Gr g xs i))) ?step ?fin ⟨rfl, u, v, rfl, huv, hv, by omega, hu1, hv1⟩
  case fin =>
    rintro c st' ⟨rfl, u, v, rfl, a1, a2, a3, a4, a5⟩
    have : u = v := by omega
    subst this
    exact h u a2 a4 a5
  case step =>
    rintro x c st' _ x2 ⟨rfl, u, v, rfl, a1, a2, a3, a4, a5⟩
    rw [hf]
    dsimp only
    by_cases z : u ≥ v
    · rw [if_pos z]
      have : u = v := by omega
      subst this
      exact wpS_pure (h u a2 a4 a5)
    · rw [if_neg z]
      refine wpS_bind (bey_ok O hk hx (by omega) kd ?_)
      by_cases c : Ah l (g key) (Gr g xs (bs + (u + (v - u) / 2)))
      · rw [decide_eq_true c]
        dsimp only
        rw [if_pos rfl]
        exact wpS_pure ⟨rfl, _, v, rfl, by omega, a2, by omega, fun i l1 l2 => c.mono (hs i _ l1 (by omega) (by omega)), a5⟩
      · rw [decide_eq_false c]
        dsimp only
        rw [if_neg Bool.false_ne_true]
        exact wpS_pure ⟨rfl, u, _, rfl, by omega, by omega, by omega, a4, fun i l1 l2 q => c (q.mono (hs _ i (by omega) (by omega) (by omega)))⟩
theorem gallop_ok (O : Ora prog w A s κ a₀ g) {l : Bool} {key : Keyed} (hk : key ∈ a₀) {xs : Array Keyed} (hx : ∀ x ∈ xs, x ∈ a₀) {bs n a : Nat} (hn : bs + n ≤ xs.size) (ha : a < n) (hs : Srt g xs bs (bs + n)) {st : SortSt} (kd : kindOf st = κ) {Q : Option Nat → SortSt → Prop}
    (h : ∀ r, r ≤ n → (∀ i, bs ≤ i → i < bs + r → Ah l (g key) (Gr g xs i)) → (∀ i, bs + r ≤ i → i < bs + n → ¬ Ah l (g key) (Gr g xs i)) → Q (some r) st) : wpS (model prog w) A E s (gallop' l key xs bs n a) Q st := by
  rw [gallop'_eq]
  dsimp only
  refine wpS_bind (bey_ok O hk hx (by omega) kd ?_)
  by_cases c : Ah l (g key) (Gr g xs (bs + a))
  · rw [decide_eq_true c]
    dsimp only
    rw [if_pos rfl]
    refine wpS_bind (wpS_mono (wpS_forRange (I := fun x c st' => st' = st ∧ ∃ p o, c = (none, p, o) ∧ p < o ∧ x + 1 ≤ o ∧ a + p < n ∧ Ah l (g key) (Gr g xs (bs + (a + p))))
      (Q := fun c st' => st' = st ∧ ∃ p o, c = (none, p, o) ∧ p < o ∧ a + p < n ∧ Ah l (g key) (Gr g xs (bs + (a + p))) ∧ (a + o < n → ¬ Ah l (g key) (Gr g xs (bs + (a + o))))) ?s1 ?f1 ⟨rfl, 0, 1, rfl, by omega, by omega, by omega, c⟩) ?p1)
    case s1 =>
      rintro x c st' _ x2 ⟨rfl, p, o, rfl, a1, a2, a3, a4⟩
      dsimp only
      by_cases z : o ≥ n - a
      · rw [if_pos z]
        exact wpS_pure ⟨rfl, p, o, rfl, a1, a3, a4, fun _ => by omega⟩
      · rw [if_neg z]
        refine wpS_bind (bey_ok O hk hx (by omega) kd ?_)
        by_cases c2 : Ah l (g key) (Gr g xs (bs + (a + o)))
        · rw [decide_eq_true c2]
          dsimp only
          rw [if_neg (by simp)]
          exact wpS_pure ⟨rfl, o, 2 * o + 1, rfl, by omega, by omega, by omega, c2⟩
        · rw [decide_eq_false c2]
          dsimp only
          rw [if_pos (by simp)]
          exact wpS_pure ⟨rfl, p, o, rfl, a1, a3, a4, fun _ => c2⟩
    case f1 =>
      rintro c st' ⟨rfl, p, o, rfl, a1, a2, a3, a4⟩
      exact ⟨rfl, p, o, rfl, a1, a3, a4, fun _ => by omega⟩
    case p1 =>
      rintro c st' ⟨rfl, p, o, rfl, a1, a3, a4, a5⟩
      dsimp only
      refine wpS_bind (srch_ok O hk hx hn hs kd (fun r r1 r2 r3 => wpS_pure (h r r1 r2 r3)) (u := a + p + 1) (v := a + min o (n - a)) (by omega) (by omega) (fun i l1 l2 => a4.mono (hs i _ l1 (by omega) (by omega))) (fun i l1 l2 q => ?_) fun i c => rfl)
      by_cases z : a + o < n
      · exact a5 z (q.mono (hs _ i (by omega) (by omega) (by omega)))
      · omega
  · rw [decide_eq_false c]
    dsimp only
    rw [if_neg Bool.false_ne_true]
    refine wpS_bind (wpS_mono (wpS_forRange (I := fun x c st' => st' = st ∧ ∃ p o, c = (none, p, o) ∧ p < o ∧ x + 1 ≤ o ∧ p ≤ a ∧ ¬ Ah l (g key) (Gr g xs (bs + (a - p))))
      (Q := fun c st' => st' = st ∧ ∃ p o, c = (none, p, o) ∧ p < o ∧ p ≤ a ∧ ¬ Ah l (g key) (Gr g xs (bs + (a - p))) ∧ (o ≤ a → Ah l (g key) (Gr g xs (bs + (a - o))))) ?s2 ?f2 ⟨rfl, 0, 1, rfl, by omega, by omega, by omega, c⟩) ?p2)
    case s2 =>
      rintro x c st' _ x2 ⟨rfl, p, o, rfl, a1, a2, a3, a4⟩
      dsimp only
      by_cases z : o ≥ a + 1
      · rw [if_pos z]
        exact wpS_pure ⟨rfl, p, o, rfl, a1, a3, a4, fun _ => by omega⟩
      · rw [if_neg z]
        refine wpS_bind (bey_ok O hk hx (by omega) kd ?_)
        by_cases c2 : Ah l (g key) (Gr g xs (bs + (a - o)))
        · rw [decide_eq_true c2]
          dsimp only
          rw [if_pos rfl]
          exact wpS_pure ⟨rfl, p, o, rfl, a1, a3, a4, fun _ => c2⟩
        · rw [decide_eq_false c2]
          dsimp only
          rw [if_neg Bool.false_ne_true]
          exact wpS_pure ⟨rfl, o, 2 * o + 1, rfl, by omega, by omega, by omega, c2⟩
    case f2 =>
      rintro c st' ⟨rfl, p, o, rfl, a1, a2, a3, a4⟩
      exact ⟨rfl, p, o, rfl, a1, a3, a4, fun _ => by omega⟩
    case p2 =>
      rintro c st' ⟨rfl, p, o, rfl, a1, a3, a4, a5⟩
      dsimp only
      refine wpS_bind (srch_ok O hk hx hn hs kd (fun r r1 r2 r3 => wpS_pure (h r r1 r2 r3)) (u := a + 1 - min o (a + 1)) (v := a - p) (by omega) (by omega) (fun i l1 l2 => ?_) (fun i l1 l2 q => a4 (q.mono (hs _ i (by omega) (by omega) (by omega)))) fun i c => rfl)
      by_cases z : o ≤ a
      · exact (a5 z).mono (hs i _ l1 (by omega) (by omega))
      · omega
end
end Q
set_option Elab.async false
set_option linter.all false
set_option maxRecDepth 100000
namespace Q
open PySem PySem.W PyProof.Rows
def setG (m : Nat) : StateT SortSt Sem Unit := modify fun st => SortSt.mk' (kindOf st) (arrOf st) (pendingOf st) m (failedOf st)
def mLo' : Array Keyed → Array Keyed → StateT SortSt Sem (Array Keyed) := sortPriv% PySem.Builtin.mergeLo
theorem mLo'_eq (a b : Array Keyed) : mLo' a b = (do
    liftM (rule "list.sort.merge-lo")
    let n := a.size + b.size
    let fin (z : Array Keyed) (i j : Nat) := z ++ a.extract i a.size ++ b.extract j b.size
    let fin2 (z : Array Keyed) (i j : Nat) := z ++ b.extract j b.size ++ a.extract i a.size
    let mut z : Array Keyed := #[← elem' b 0]
    let mut i := 0
    let mut j := 1
    if j == b.size then return fin z i j
    if i + 1 == a.size then return fin2 z i j
    let mut m := gallopOf (← get)
    for _ in [0:n] do
      let mut u := 0
      let mut v := 0
      for _ in [0:n] do
        let some c ← lt' (← elem' b j) (← elem' a i) | return fin z i j
        if c then
          z := z.push (← elem' b j); j := j + 1; v := v + 1; u := 0
          if j == b.size then return fin z i j
          if v ≥ m then break
        else
          z := z.push (← elem' a i); i := i + 1; u := u + 1; v := 0
          if i + 1 == a.size then return fin2 z i j
          if u ≥ m then break
      liftM (rule "list.sort.gallop")
      m := m + 1
      for _ in [0:n] do
        if m > 1 then m := m - 1
        setG m
        let some k ← gallop' false (← elem' b j) a i (a.size - i) 0 | return fin z i j
        u := k
        if k > 0 then
          z := z ++ a.extract i (i + k); i := i + k
          if i + 1 == a.size then return fin2 z i j
          if i == a.size then return fin z i j
        z := z.push (← elem' b j); j := j + 1
        if j == b.size then return fin z i j
        let some k ← gallop' true (← elem' a i) b j (b.size - j) 0 | return fin z i j
        v := k
        if k > 0 then
          z := z ++ b.extract j (j + k); j := j + k
          if j == b.size then return fin z i j
        z := z.push (← elem' a i); i := i + 1
        if i + 1 == a.size then return fin2 z i j
        if u < 7 && v < 7 then break
      m := m + 1
      setG m
    liftM (unsupported (α := Array Keyed) "internal:list.sort.merge-bound")) := rfl
section
variable {prog : Program} {w : World} {A : Around} {E : Value → Shared → Prop} {s : Shared} {κ : SortKind} {a₀ : Array Keyed} {g : Keyed → Int}
def Up' (g : Keyed → Int) (l : List Keyed) : Prop := l.Pairwise fun x y => g x ≤ g y
structure Mg (g : Keyed → Int) (la lb z : List Keyed) (i j : Nat) : Prop where
  ia : i ≤ la.length
  jb : j ≤ lb.length
  perm : z.Perm (la.take i ++ lb.take j)
  up : Up' g z
  ha : ∀ x ∈ z, ∀ y ∈ la.drop i, g x ≤ g y
  hb : ∀ x ∈ z, ∀ y ∈ lb.drop j, g x ≤ g y
structure Mq (g : Keyed → Int) (la lb r : List Keyed) : Prop where
  perm : r.Perm (la ++ lb)
  up : Up' g r
section
variable {la lb z : List Keyed} {i j k : Nat}
theorem up_append {l r : List Keyed} (a : Up' g l) (b : Up' g r) (h : ∀ x ∈ l, ∀ y ∈ r, g x ≤ g y) : Up' g (l ++ r) := List.pairwise_append.mpr ⟨a, b, h⟩
theorem up_drop {l : List Keyed} (a : Up' g l) (n : Nat) : Up' g (l.drop n) := a.sublist (List.drop_sublist _ _)
theorem up_cut {l : List Keyed} (a : Up' g l) (n k : Nat) : ∀ x ∈ (l.drop n).take k, ∀ y ∈ l.drop (n + k), g x ≤ g y := by
  have h := up_drop a n
  rw [← List.take_append_drop k (l.drop n)] at h
  have := (List.pairwise_append.mp h).2.2
  rw [List.drop_drop] at this
  exact this
theorem Mg.segA (m : Mg g la lb z i j) (ua : Up' g la) (hk : i + k ≤ la.length) (h : ∀ x ∈ (la.drop i).take k, ∀ y ∈ lb.drop j, g x ≤ g y) : Mg g la lb (z ++ (la.drop i).take k) (i + k) j := by
  have mem : ∀ x ∈ (la.drop i).take k, x ∈ la.drop i := fun x hx => List.mem_of_mem_take hx
  refine ⟨hk, m.jb, ?_, up_append m.up ((up_drop ua i).sublist (List.take_sublist _ _)) fun x hx y hy => m.ha x hx y (mem y hy), fun x hx y hy => ?_, fun x hx y hy => ?_⟩
  · rw [List.take_add]
    refine (m.perm.append_right _).trans ?_
    rw [List.append_assoc, List.append_assoc]
    exact List.Perm.append_left _ List.perm_append_comm
  · rcases List.mem_append.mp hx with q | q
    · refine m.ha x q y ?_
      rw [Nat.add_comm, ← List.drop_drop] at hy
      rw [List.drop_drop] at hy
      rw [← List.take_append_drop k (la.drop i), List.drop_drop]
      rw [Nat.add_comm] at hy
      exact List.mem_append_right _ (by rw [Nat.add_comm] at hy; rw [Nat.add_comm]; exact hy)
    · exact up_cut ua i k x q y hy
  · rcases List.mem_append.mp hx with q | q
    · exact m.hb x q y hy
    · exact h x q y hy
theorem Mg.segB (m : Mg g la lb z i j) (ub : Up' g lb) (hk : j + k ≤ lb.length) (h : ∀ x ∈ (lb.drop j).take k, ∀ y ∈ la.drop i, g x ≤ g y) : Mg g la lb (z ++ (lb.drop j).take k) i (j + k) := by
  have mem : ∀ x ∈ (lb.drop j).take k, x ∈ lb.drop j := fun x hx => List.mem_of_mem_take hx
  refine ⟨m.ia, hk, ?_, up_append m.up ((up_drop ub j).sublist (List.take_sublist _ _)) fun x hx y hy => m.hb x hx y (mem y hy), fun x hx y hy => ?_, fun x hx y hy => ?_⟩
  · rw [List.take_add]
    refine (m.perm.append_right _).trans ?_
    rw [List.append_assoc]
  · rcases List.mem_append.mp hx with q | q
    · exact m.ha x q y hy
    · exact h x q y hy
  · rcases List.mem_append.mp hx with q | q
    · refine m.hb x q y ?_
      have e : lb.drop j = (lb.drop j).take k ++ lb.drop (j + k) := by
        have := (List.take_append_drop k (lb.drop j)).symm
        rwa [List.drop_drop] at this
      rw [e]
      exact List.mem_append_right _ hy
    · exact up_cut ub j k x q y hy
theorem Mg.fin (m : Mg g la lb z i j) (ua : Up' g la) (ub : Up' g lb) (h : j = lb.length ∨ i = la.length) : Mq g la lb (z ++ la.drop i ++ lb.drop j) := by
  have perm : (z ++ la.drop i ++ lb.drop j).Perm (la ++ lb) := by
    refine ((m.perm.append_right _).append_right _).trans ?_
    have e1 : la = la.take i ++ la.drop i := (List.take_append_drop i la).symm
    have e2 : lb = lb.take j ++ lb.drop j := (List.take_append_drop j lb).symm
    conv => rhs; rw [e1, e2]
    rw [List.append_assoc, List.append_assoc, List.append_assoc]
    refine List.Perm.append_left _ ?_
    rw [← List.append_assoc, ← List.append_assoc]
    exact List.Perm.append_right _ List.perm_append_comm
  refine ⟨perm, ?_⟩
  rcases h with h | h
  · have e : lb.drop j = [] := by rw [h]; simp
    rw [e, List.append_nil]
    exact up_append m.up (up_drop ua i) m.ha
  · have e : la.drop i = [] := by rw [h]; simp
    rw [e, List.append_nil]
    exact up_append m.up (up_drop ub j) m.hb
theorem Mg.fin2 (m : Mg g la lb z i j) (ua : Up' g la) (ub : Up' g lb) (h : ∀ x ∈ lb.drop j, ∀ y ∈ la.drop i, g x ≤ g y) : Mq g la lb (z ++ lb.drop j ++ la.drop i) := by
  refine ⟨?_, up_append (up_append m.up (up_drop ub j) m.hb) (up_drop ua i) fun x hx y hy => ?_⟩
  · refine ((m.perm.append_right _).append_right _).trans ?_
    have e1 : la = la.take i ++ la.drop i := (List.take_append_drop i la).symm
    have e2 : lb = lb.take j ++ lb.drop j := (List.take_append_drop j lb).symm
    conv => rhs; rw [e1, e2]
    rw [List.append_assoc, List.append_assoc, List.append_assoc]
    refine List.Perm.append_left _ ?_
    rw [← List.append_assoc]
    exact List.perm_append_comm
  · rcases List.mem_append.mp hx with q | q
    · exact m.ha x q y hy
    · exact h x q y hy
theorem Mg.pushA {x : Keyed} (m : Mg g la lb z i j) (ua : Up' g la) (e : la[i]? = some x) (h : ∀ y ∈ lb.drop j, g x ≤ g y) : Mg g la lb (z ++ [x]) (i + 1) j := by
  obtain ⟨h1, h2⟩ := List.getElem?_eq_some_iff.mp e
  have e2 : (la.drop i).take 1 = [x] := by rw [List.drop_eq_getElem_cons h1, h2]; rfl
  have := m.segA ua (k := 1) (by omega) (by rw [e2]; intro q hq; rw [List.mem_singleton.mp hq]; exact h)
  rwa [e2] at this
theorem Mg.pushB {x : Keyed} (m : Mg g la lb z i j) (ub : Up' g lb) (e : lb[j]? = some x) (h : ∀ y ∈ la.drop i, g x ≤ g y) : Mg g la lb (z ++ [x]) i (j + 1) := by
  obtain ⟨h1, h2⟩ := List.getElem?_eq_some_iff.mp e
  have e2 : (lb.drop j).take 1 = [x] := by rw [List.drop_eq_getElem_cons h1, h2]; rfl
  have := m.segB ub (k := 1) (by omega) (by rw [e2]; intro q hq; rw [List.mem_singleton.mp hq]; exact h)
  rwa [e2] at this
theorem in_drop {a : Array Keyed} {i : Nat} {x : Keyed} (h : x ∈ a.toList.drop i) : ∃ k, i ≤ k ∧ k < a.size ∧ g x = Gr g a k := by
  obtain ⟨k, hk, e⟩ := List.getElem_of_mem h
  rw [List.length_drop, Array.length_toList] at hk
  rw [List.getElem_drop] at e
  refine ⟨i + k, by omega, by omega, ?_⟩
  have e2 : a[i + k]? = some x := by rw [← e]; simp [show i + k < a.size by omega]
  unfold Gr
  rw [e2]
theorem in_cut {a : Array Keyed} {i k : Nat} {x : Keyed} (h : x ∈ (a.toList.drop i).take k) : ∃ p, i ≤ p ∧ p < i + k ∧ p < a.size ∧ g x = Gr g a p := by
  obtain ⟨q, hq, e⟩ := List.getElem_of_mem h
  rw [List.length_take, List.length_drop, Array.length_toList] at hq
  rw [List.getElem_take, List.getElem_drop] at e
  refine ⟨i + q, by omega, by omega, by omega, ?_⟩
  have e2 : a[i + q]? = some x := by rw [← e]; simp [show i + q < a.size by omega]
  unfold Gr
  rw [e2]
theorem srt_of {a : Array Keyed} (u : Up' g a.toList) (lo hi : Nat) (hh : hi ≤ a.size) : Srt g a lo hi := fun i j _ h2 h3 => by
  by_cases e : i = j
  · rw [e]; exact Int.le_refl _
  · have hi' : i < a.toList.length := by rw [Array.length_toList]; omega
    have hj' : j < a.toList.length := by rw [Array.length_toList]; omega
    have := List.pairwise_iff_getElem.mp u i j hi' hj' (by omega)
    unfold Gr
    rw [getElem?_pos a i (by omega), getElem?_pos a j (by omega)]
    simpa using this
theorem get_of {a : Array Keyed} {i : Nat} (h : i < a.size) : a[i]? = some a[i] ∧ a.toList[i]? = some a[i] ∧ Gr g a i = g a[i] := by
  refine ⟨getElem?_pos a i h, by simp [h], ?_⟩
  unfold Gr
  rw [getElem?_pos a i h]
theorem ext_of (a : Array Keyed) (i k : Nat) : (a.extract i (i + k)).toList = (a.toList.drop i).take k := by
  rw [Array.toList_extract, List.extract_eq_drop_take, Nat.add_sub_cancel_left]
theorem ext_end (a : Array Keyed) (i : Nat) : (a.extract i a.size).toList = a.toList.drop i := by
  rw [Array.toList_extract, List.extract_eq_drop_take, ← Array.length_toList]
  exact List.take_of_length_le (by rw [List.length_drop]; exact Nat.le_refl _)
end
structure Eqv (st st' : SortSt) : Prop where
  kind : kindOf st' = kindOf st
  arr : arrOf st' = arrOf st
  pend : pendingOf st' = pendingOf st
  failed : failedOf st' = failedOf st
theorem Eqv.refl {st : SortSt} : Eqv st st := ⟨rfl, rfl, rfl, rfl⟩
theorem setG_ok {st st' : SortSt} (e : Eqv st st') {m : Nat} {Q : Unit → SortSt → Prop} (h : ∀ st2, Eqv st st2 → Q () st2) : wpS (model prog w) A E s (setG m) Q st' := by
  unfold setG
  exact wpS_modify (h _ ⟨e.kind, e.arr, e.pend, e.failed⟩)
theorem mLo_ok (O : Ora prog w A s κ a₀ g) {a b : Array Keyed} (hA : ∀ x ∈ a, x ∈ a₀) (hB : ∀ x ∈ b, x ∈ a₀) (ua : Up' g a.toList) (ub : Up' g b.toList) (na : 0 < a.size) (nb : 0 < b.size)
    (hF : ∀ y ∈ a.toList, Gr g b 0 ≤ g y) (hL : ∀ x ∈ b.toList, ∀ y ∈ a.toList.drop (a.size - 1), g x ≤ g y) {st : SortSt} (kd : kindOf st = κ) {Q : Array Keyed → SortSt → Prop}
    (h : ∀ z st', Eqv st st' → Mq g a.toList b.toList z.toList → Q z st') : wpS (model prog w) A E s (mLo' a b) Q st := by
  rw [mLo'_eq]
  dsimp only
  have fin : ∀ {z : Array Keyed} {i j : Nat}, Mg g a.toList b.toList z.toList i j → (j = b.size ∨ i = a.size) → Mq g a.toList b.toList (z ++ a.extract i a.size ++ b.extract j b.size).toList := fun m hh => by
    rw [Array.toList_append, Array.toList_append, ext_end, ext_end]
    exact m.fin ua ub (by rw [Array.length_toList, Array.length_toList]; exact hh)
  have fin2 : ∀ {z : Array Keyed} {i j : Nat}, Mg g a.toList b.toList z.toList i j → i + 1 = a.size → Mq g a.toList b.toList (z ++ b.extract j b.size ++ a.extract i a.size).toList := fun {z i j} m hh => by
    rw [Array.toList_append, Array.toList_append, ext_end, ext_end]
    exact m.fin2 ua ub fun x hx y hy => hL x (List.mem_of_mem_drop hx) y (by rw [show a.size - 1 = i by omega]; exact hy)
  have m0 : Mg g a.toList b.toList ([] : List Keyed) 0 0 := ⟨Nat.zero_le _, Nat.zero_le _, by simp, List.Pairwise.nil, fun x hx => (by cases hx), fun x hx => (by cases hx)⟩
  obtain ⟨eb, lb, gb⟩ := get_of (g := g) nb
  have m1 : Mg g a.toList b.toList (#[b[0]] : Array Keyed).toList 0 1 := m0.pushB ub lb fun y hy => by rw [← gb]; exact hF y (by simpa using hy)
  refine wpS_bind (wpS_lift (wpAny_rule ⟨rfl, ?_⟩))
  refine wpS_bind (el_ok eb ?_)
  by_cases c1 : 1 = b.size
  · rw [if_pos (by rw [beq_iff_eq]; exact c1)]
    exact wpS_pure (h _ _ .refl (fin m1 (.inl c1)))
  rw [if_neg (by rw [beq_iff_eq]; exact c1)]
  by_cases c2 : 0 + 1 = a.size
  · rw [if_pos (by rw [beq_iff_eq]; exact c2)]
    exact wpS_pure (h _ _ .refl (fin2 m1 c2))
  rw [if_neg (by rw [beq_iff_eq]; exact c2)]
  refine wpS_bind (wpS_get ?_)
  refine wpS_bind (wpS_mono (wpS_forRange (I := fun x c st' => ∃ z i j m, c = (none, z, i, j, m) ∧ Eqv st st' ∧ Mg g a.toList b.toList z.toList i j ∧ i + 1 < a.size ∧ j < b.size ∧ x + 1 ≤ i + j)
    (Q := fun c st' => ∃ r t, c = (some r, t) ∧ Eqv st st' ∧ Mq g a.toList b.toList r.toList) ?step ?fin ⟨#[b[0]], 0, 1, gallopOf st, rfl, .refl, m1, by omega, by omega, by omega⟩) ?post)
  case post =>
    rintro c st' ⟨r, t, rfl, e, q⟩
    exact wpS_pure (h r st' e q)
  case fin =>
    rintro c st' ⟨z, i, j, m, rfl, e, mg, i1, j1, x1⟩
    omega
  case step =>
    rintro x c st' _ x2 ⟨z, i, j, m, rfl, e, mg, i1, j1, x1⟩
    dsimp only
    refine wpS_bind (wpS_mono (wpS_forRange (I := fun y c st2 => ∃ z' i' j' u v, c = (none, z', i', j', u, v) ∧ Eqv st st2 ∧ Mg g a.toList b.toList z'.toList i' j' ∧ i' + 1 < a.size ∧ j' < b.size ∧ i + j + y ≤ i' + j')
      (Q := fun c st2 => (∃ r t, c = (some r, t) ∧ Eqv st st2 ∧ Mq g a.toList b.toList r.toList) ∨ ∃ z' i' j' u v, c = (none, z', i', j', u, v) ∧ Eqv st st2 ∧ Mg g a.toList b.toList z'.toList i' j' ∧ i' + 1 < a.size ∧ j' < b.size ∧ i + j + 1 ≤ i' + j') ?s1 ?f1 ⟨z, i, j, 0, 0, rfl, e, mg, i1, j1, by omega⟩) ?p1)
    case f1 =>
      rintro c st2 ⟨z', i', j', u, v, rfl, e2, mg2, i2, j2, l2⟩
      exact .inr ⟨z', i', j', u, v, rfl, e2, mg2, i2, j2, by omega⟩
    case s1 =>
      rintro y c st2 _ y2 ⟨z', i', j', u, v, rfl, e2, mg2, i2, j2, l2⟩
      dsimp only
      obtain ⟨eb, lb, gb⟩ := get_of (g := g) j2
      obtain ⟨ea, la, ga⟩ := get_of (g := g) (show i' < a.size by omega)
      refine wpS_bind (el_ok eb (wpS_bind (el_ok ea (wpS_bind (ask_ok O (hB _ (Array.getElem_mem j2)) (hA _ (Array.getElem_mem _)) (e2.kind.trans kd) ?_)))))
      by_cases c : g b[j'] < g a[i']
      · rw [decide_eq_true c]
        dsimp only
        rw [if_pos rfl]
        refine wpS_bind (el_ok eb ?_)
        have mg3 : Mg g a.toList b.toList (z'.push b[j']).toList i' (j' + 1) := by
          rw [Array.toList_push]
          refine mg2.pushB ub lb fun y hy => ?_
          obtain ⟨p, p1, p2, p3⟩ := in_drop (g := g) hy
          rw [p3]
          have := srt_of ua i' a.size (Nat.le_refl _) i' p (Nat.le_refl _) p1 p2
          omega
        by_cases c3 : j' + 1 = b.size
        · rw [if_pos (by rw [beq_iff_eq]; exact c3)]
          exact wpS_pure (.inl ⟨_, _, rfl, e2, fin mg3 (.inl c3)⟩)
        rw [if_neg (by rw [beq_iff_eq]; exact c3)]
        by_cases c4 : v + 1 ≥ m
        · rw [if_pos c4]
          exact wpS_pure (.inr ⟨_, i', j' + 1, _, _, rfl, e2, mg3, i2, by omega, by omega⟩)
        · rw [if_neg c4]
          exact wpS_pure ⟨_, i', j' + 1, _, _, rfl, e2, mg3, i2, by omega, by omega⟩
      · rw [decide_eq_false c]
        dsimp only
        rw [if_neg Bool.false_ne_true]
        refine wpS_bind (el_ok ea ?_)
        have mg3 : Mg g a.toList b.toList (z'.push a[i']).toList (i' + 1) j' := by
          rw [Array.toList_push]
          refine mg2.pushA ua la fun y hy => ?_
          obtain ⟨p, p1, p2, p3⟩ := in_drop (g := g) hy
          rw [p3]
          have := srt_of ub j' b.size (Nat.le_refl _) j' p (Nat.le_refl _) p1 p2
          omega
        by_cases c3 : i' + 1 + 1 = a.size
        · rw [if_pos (by rw [beq_iff_eq]; exact c3)]
          exact wpS_pure (.inl ⟨_, _, rfl, e2, fin2 mg3 c3⟩)
        rw [if_neg (by rw [beq_iff_eq]; exact c3)]
        by_cases c4 : u + 1 ≥ m
        · rw [if_pos c4]
          exact wpS_pure (.inr ⟨_, i' + 1, j', _, _, rfl, e2, mg3, by omega, j2, by omega⟩)
        · rw [if_neg c4]
          exact wpS_pure ⟨_, i' + 1, j', _, _, rfl, e2, mg3, by omega, j2, by omega⟩
    case p1 =>
      rintro c st2 (⟨r, t, rfl, e2, q⟩ | ⟨z', i', j', u, v, rfl, e2, mg2, i2, j2, l2⟩)
      · exact wpS_pure ⟨_, _, rfl, e2, q⟩
      dsimp only
      refine wpS_bind (wpS_lift (wpAny_rule ⟨rfl, ?_⟩))
      refine wpS_bind (wpS_mono (wpS_forRange (I := fun y c st3 => ∃ z3 i3 j3 m3 u3 v3, c = (none, z3, i3, j3, m3, u3, v3) ∧ Eqv st st3 ∧ Mg g a.toList b.toList z3.toList i3 j3 ∧ i3 + 1 < a.size ∧ j3 < b.size ∧ i + j + 1 ≤ i3 + j3)
        (Q := fun c st3 => (∃ r t, c = (some r, t) ∧ Eqv st st3 ∧ Mq g a.toList b.toList r.toList) ∨ ∃ z3 i3 j3 m3 u3 v3, c = (none, z3, i3, j3, m3, u3, v3) ∧ Eqv st st3 ∧ Mg g a.toList b.toList z3.toList i3 j3 ∧ i3 + 1 < a.size ∧ j3 < b.size ∧ i + j + 1 ≤ i3 + j3) ?s2 ?f2 ⟨z', i', j', m + 1, u, v, rfl, e2, mg2, i2, j2, l2⟩) ?p2)
      case f2 =>
        rintro c st3 q
        exact .inr q
      case p2 =>
        rintro c st3 (⟨r, t, rfl, e3, q⟩ | ⟨z3, i3, j3, m3, u3, v3, rfl, e3, mg3, i4, j4, l3⟩)
        · exact wpS_pure ⟨_, _, rfl, e3, q⟩
        dsimp only
        refine wpS_bind (setG_ok e3 fun st4 e4 => wpS_pure ?_)
        exact ⟨z3, i3, j3, m3 + 1, rfl, e4, mg3, i4, j4, by omega⟩
      case s2 =>
        rintro y c st3 _ y2 ⟨z3, i3, j3, m3, u3, v3, rfl, e3, mg3, i4, j4, l3⟩
        dsimp only
        have eb' := get_of (g := g) j4
        obtain ⟨eb, lb, gb⟩ := eb'
        by_cases cm : m3 > 1
        · rw [if_pos cm]
          refine wpS_bind (setG_ok e3 fun st4 e4 => ?_)
          refine wpS_bind (el_ok eb ?_)
          refine wpS_bind (gallop_ok O (hB _ (Array.getElem_mem j4)) hA (by omega) (by omega) (srt_of ua _ _ (by omega)) (e4.kind.trans kd) fun k k1 k2 k3 => ?_)
          dsimp only
          have segA : ∀ x ∈ (a.toList.drop i3).take k, ∀ y ∈ b.toList.drop j3, g x ≤ g y := fun x hx y hy => by
            obtain ⟨p, p1, p2, p3, p4⟩ := in_cut (g := g) hx
            obtain ⟨r, r1, r2, r3⟩ := in_drop (g := g) hy
            have a1 := k2 p p1 p2
            have a2 := srt_of ub j3 b.size (Nat.le_refl _) j3 r (Nat.le_refl _) r1 r2
            simp only [Ah, Bool.false_eq_true, if_false] at a1
            rw [p4, r3]; omega
          have hpb : ∀ y ∈ a.toList.drop (i3 + k), g b[j3] ≤ g y := fun y hy => by
            obtain ⟨r, r1, r2, r3⟩ := in_drop (g := g) hy
            have a1 := k3 r (by omega) (by omega)
            simp only [Ah, Bool.false_eq_true, if_false] at a1
            rw [r3]; omega
          by_cases c4 : k > 0
          · rw [if_pos c4]
            have mg4 : Mg g a.toList b.toList (z3 ++ a.extract i3 (i3 + k)).toList (i3 + k) j3 := by
              rw [Array.toList_append, ext_of]
              exact mg3.segA ua (by rw [Array.length_toList]; omega) segA
            by_cases d1 : i3 + k + 1 = a.size
            · rw [if_pos (by rw [beq_iff_eq]; exact d1)]
              exact wpS_pure (.inl ⟨_, _, rfl, e4, fin2 mg4 d1⟩)
            rw [if_neg (by rw [beq_iff_eq]; exact d1)]
            by_cases d2 : i3 + k = a.size
            · rw [if_pos (by rw [beq_iff_eq]; exact d2)]
              exact wpS_pure (.inl ⟨_, _, rfl, e4, fin mg4 (.inr d2)⟩)
            rw [if_neg (by rw [beq_iff_eq]; exact d2)]
            refine wpS_bind (el_ok eb ?_)
            have mg5 : Mg g a.toList b.toList ((z3 ++ a.extract i3 (i3 + k)).push b[j3]).toList (i3 + k) (j3 + 1) := by
              rw [Array.toList_push]
              exact mg4.pushB ub lb hpb
            by_cases c5 : j3 + 1 = b.size
            · rw [if_pos (by rw [beq_iff_eq]; exact c5)]
              exact wpS_pure (.inl ⟨_, _, rfl, e4, fin mg5 (.inl c5)⟩)
            rw [if_neg (by rw [beq_iff_eq]; exact c5)]
            have il : i3 + k < a.size := by omega
            obtain ⟨ea, la, ga⟩ := get_of (g := g) il
            refine wpS_bind (el_ok ea ?_)
            refine wpS_bind (gallop_ok O (hA _ (Array.getElem_mem il)) hB (by omega) (by omega) (srt_of ub _ _ (by omega)) (e4.kind.trans kd) fun q q1 q2 q3 => ?_)
            dsimp only
            have seg : ∀ x ∈ (b.toList.drop (j3 + 1)).take q, ∀ y ∈ a.toList.drop (i3 + k), g x ≤ g y := fun x hx y hy => by
              obtain ⟨p, p1, p2, p3, p4⟩ := in_cut (g := g) hx
              obtain ⟨r, r1, r2, r3⟩ := in_drop (g := g) hy
              have a1 := q2 p p1 p2
              have a2 := srt_of ua (i3 + k) a.size (Nat.le_refl _) (i3 + k) r (Nat.le_refl _) r1 r2
              simp only [Ah, if_true] at a1
              rw [p4, r3]; omega
            have tl : ∀ y ∈ b.toList.drop (j3 + 1 + q), g a[i3 + k] ≤ g y := fun y hy => by
              obtain ⟨r, r1, r2, r3⟩ := in_drop (g := g) hy
              have a1 := q3 r (by omega) (by omega)
              simp only [Ah, if_true] at a1
              rw [r3]; omega
            by_cases c6 : q > 0
            · rw [if_pos c6]
              have mg6 : Mg g a.toList b.toList ((z3 ++ a.extract i3 (i3 + k)).push b[j3] ++ b.extract (j3 + 1) (j3 + 1 + q)).toList (i3 + k) (j3 + 1 + q) := by
                rw [Array.toList_append, ext_of]
                exact mg5.segB ub (by rw [Array.length_toList]; omega) seg
              by_cases c7 : j3 + 1 + q = b.size
              · rw [if_pos (by rw [beq_iff_eq]; exact c7)]
                exact wpS_pure (.inl ⟨_, _, rfl, e4, fin mg6 (.inl c7)⟩)
              rw [if_neg (by rw [beq_iff_eq]; exact c7)]
              refine wpS_bind (el_ok ea ?_)
              have mg7 : Mg g a.toList b.toList (((z3 ++ a.extract i3 (i3 + k)).push b[j3] ++ b.extract (j3 + 1) (j3 + 1 + q)).push a[i3 + k]).toList (i3 + k + 1) (j3 + 1 + q) := by
                rw [Array.toList_push]
                exact mg6.pushA ua la tl
              by_cases c8 : i3 + k + 1 + 1 = a.size
              · rw [if_pos (by rw [beq_iff_eq]; exact c8)]
                exact wpS_pure (.inl ⟨_, _, rfl, e4, fin2 mg7 c8⟩)
              rw [if_neg (by rw [beq_iff_eq]; exact c8)]
              split
              · exact wpS_pure (.inr ⟨_, _, _, _, _, _, rfl, e4, mg7, by omega, by omega, by omega⟩)
              · exact wpS_pure ⟨_, _, _, _, _, _, rfl, e4, mg7, by omega, by omega, by omega⟩
            · rw [if_neg c6]
              have q0 : q = 0 := by omega
              subst q0
              refine wpS_bind (el_ok ea ?_)
              have mg7 : Mg g a.toList b.toList (((z3 ++ a.extract i3 (i3 + k)).push b[j3]).push a[i3 + k]).toList (i3 + k + 1) (j3 + 1) := by
                rw [Array.toList_push]
                exact mg5.pushA ua la tl
              by_cases c8 : i3 + k + 1 + 1 = a.size
              · rw [if_pos (by rw [beq_iff_eq]; exact c8)]
                exact wpS_pure (.inl ⟨_, _, rfl, e4, fin2 mg7 c8⟩)
              rw [if_neg (by rw [beq_iff_eq]; exact c8)]
              split
              · exact wpS_pure (.inr ⟨_, _, _, _, _, _, rfl, e4, mg7, by omega, by omega, by omega⟩)
              · exact wpS_pure ⟨_, _, _, _, _, _, rfl, e4, mg7, by omega, by omega, by omega⟩
          · rw [if_neg c4]
            have k0 : k = 0 := by omega
            subst k0
            refine wpS_bind (el_ok eb ?_)
            have mg5 : Mg g a.toList b.toList ((z3).push b[j3]).toList (i3) (j3 + 1) := by
              rw [Array.toList_push]
              exact mg3.pushB ub lb hpb
            by_cases c5 : j3 + 1 = b.size
            · rw [if_pos (by rw [beq_iff_eq]; exact c5)]
              exact wpS_pure (.inl ⟨_, _, rfl, e4, fin mg5 (.inl c5)⟩)
            rw [if_neg (by rw [beq_iff_eq]; exact c5)]
            have il : i3 < a.size := by omega
            obtain ⟨ea, la, ga⟩ := get_of (g := g) il
            refine wpS_bind (el_ok ea ?_)
            refine wpS_bind (gallop_ok O (hA _ (Array.getElem_mem il)) hB (by omega) (by omega) (srt_of ub _ _ (by omega)) (e4.kind.trans kd) fun q q1 q2 q3 => ?_)
            dsimp only
            have seg : ∀ x ∈ (b.toList.drop (j3 + 1)).take q, ∀ y ∈ a.toList.drop (i3), g x ≤ g y := fun x hx y hy => by
              obtain ⟨p, p1, p2, p3, p4⟩ := in_cut (g := g) hx
              obtain ⟨r, r1, r2, r3⟩ := in_drop (g := g) hy
              have a1 := q2 p p1 p2
              have a2 := srt_of ua (i3) a.size (Nat.le_refl _) (i3) r (Nat.le_refl _) r1 r2
              simp only [Ah, if_true] at a1
              rw [p4, r3]; omega
            have tl : ∀ y ∈ b.toList.drop (j3 + 1 + q), g a[i3] ≤ g y := fun y hy => by
              obtain ⟨r, r1, r2, r3⟩ := in_drop (g := g) hy
              have a1 := q3 r (by omega) (by omega)
              simp only [Ah, if_true] at a1
              rw [r3]; omega
            by_cases c6 : q > 0
            · rw [if_pos c6]
              have mg6 : Mg g a.toList b.toList ((z3).push b[j3] ++ b.extract (j3 + 1) (j3 + 1 + q)).toList (i3) (j3 + 1 + q) := by
                rw [Array.toList_append, ext_of]
                exact mg5.segB ub (by rw [Array.length_toList]; omega) seg
              by_cases c7 : j3 + 1 + q = b.size
              · rw [if_pos (by rw [beq_iff_eq]; exact c7)]
                exact wpS_pure (.inl ⟨_, _, rfl, e4, fin mg6 (.inl c7)⟩)
              rw [if_neg (by rw [beq_iff_eq]; exact c7)]
              refine wpS_bind (el_ok ea ?_)
              have mg7 : Mg g a.toList b.toList (((z3).push b[j3] ++ b.extract (j3 + 1) (j3 + 1 + q)).push a[i3]).toList (i3 + 1) (j3 + 1 + q) := by
                rw [Array.toList_push]
                exact mg6.pushA ua la tl
              by_cases c8 : i3 + 1 + 1 = a.size
              · rw [if_pos (by rw [beq_iff_eq]; exact c8)]
                exact wpS_pure (.inl ⟨_, _, rfl, e4, fin2 mg7 c8⟩)
              rw [if_neg (by rw [beq_iff_eq]; exact c8)]
              split
              · exact wpS_pure (.inr ⟨_, _, _, _, _, _, rfl, e4, mg7, by omega, by omega, by omega⟩)
              · exact wpS_pure ⟨_, _, _, _, _, _, rfl, e4, mg7, by omega, by omega, by omega⟩
            · rw [if_neg c6]
              have q0 : q = 0 := by omega
              subst q0
              refine wpS_bind (el_ok ea ?_)
              have mg7 : Mg g a.toList b.toList (((z3).push b[j3]).push a[i3]).toList (i3 + 1) (j3 + 1) := by
                rw [Array.toList_push]
                exact mg5.pushA ua la tl
              by_cases c8 : i3 + 1 + 1 = a.size
              · rw [if_pos (by rw [beq_iff_eq]; exact c8)]
                exact wpS_pure (.inl ⟨_, _, rfl, e4, fin2 mg7 c8⟩)
              rw [if_neg (by rw [beq_iff_eq]; exact c8)]
              split
              · exact wpS_pure (.inr ⟨_, _, _, _, _, _, rfl, e4, mg7, by omega, by omega, by omega⟩)
              · exact wpS_pure ⟨_, _, _, _, _, _, rfl, e4, mg7, by omega, by omega, by omega⟩
        · rw [if_neg cm]
          refine wpS_bind (setG_ok e3 fun st4 e4 => ?_)
          refine wpS_bind (el_ok eb ?_)
          refine wpS_bind (gallop_ok O (hB _ (Array.getElem_mem j4)) hA (by omega) (by omega) (srt_of ua _ _ (by omega)) (e4.kind.trans kd) fun k k1 k2 k3 => ?_)
          dsimp only
          have segA : ∀ x ∈ (a.toList.drop i3).take k, ∀ y ∈ b.toList.drop j3, g x ≤ g y := fun x hx y hy => by
            obtain ⟨p, p1, p2, p3, p4⟩ := in_cut (g := g) hx
            obtain ⟨r, r1, r2, r3⟩ := in_drop (g := g) hy
            have a1 := k2 p p1 p2
            have a2 := srt_of ub j3 b.size (Nat.le_refl _) j3 r (Nat.le_refl _) r1 r2
            simp only [Ah, Bool.false_eq_true, if_false] at a1
            rw [p4, r3]; omega
          have hpb : ∀ y ∈ a.toList.drop (i3 + k), g b[j3] ≤ g y := fun y hy => by
            obtain ⟨r, r1, r2, r3⟩ := in_drop (g := g) hy
            have a1 := k3 r (by omega) (by omega)
            simp only [Ah, Bool.false_eq_true, if_false] at a1
            rw [r3]; omega
          by_cases c4 : k > 0
          · rw [if_pos c4]
            have mg4 : Mg g a.toList b.toList (z3 ++ a.extract i3 (i3 + k)).toList (i3 + k) j3 := by
              rw [Array.toList_append, ext_of]
              exact mg3.segA ua (by rw [Array.length_toList]; omega) segA
            by_cases d1 : i3 + k + 1 = a.size
            · rw [if_pos (by rw [beq_iff_eq]; exact d1)]
              exact wpS_pure (.inl ⟨_, _, rfl, e4, fin2 mg4 d1⟩)
            rw [if_neg (by rw [beq_iff_eq]; exact d1)]
            by_cases d2 : i3 + k = a.size
            · rw [if_pos (by rw [beq_iff_eq]; exact d2)]
              exact wpS_pure (.inl ⟨_, _, rfl, e4, fin mg4 (.inr d2)⟩)
            rw [if_neg (by rw [beq_iff_eq]; exact d2)]
            refine wpS_bind (el_ok eb ?_)
            have mg5 : Mg g a.toList b.toList ((z3 ++ a.extract i3 (i3 + k)).push b[j3]).toList (i3 + k) (j3 + 1) := by
              rw [Array.toList_push]
              exact mg4.pushB ub lb hpb
            by_cases c5 : j3 + 1 = b.size
            · rw [if_pos (by rw [beq_iff_eq]; exact c5)]
              exact wpS_pure (.inl ⟨_, _, rfl, e4, fin mg5 (.inl c5)⟩)
            rw [if_neg (by rw [beq_iff_eq]; exact c5)]
            have il : i3 + k < a.size := by omega
            obtain ⟨ea, la, ga⟩ := get_of (g := g) il
            refine wpS_bind (el_ok ea ?_)
            refine wpS_bind (gallop_ok O (hA _ (Array.getElem_mem il)) hB (by omega) (by omega) (srt_of ub _ _ (by omega)) (e4.kind.trans kd) fun q q1 q2 q3 => ?_)
            dsimp only
            have seg : ∀ x ∈ (b.toList.drop (j3 + 1)).take q, ∀ y ∈ a.toList.drop (i3 + k), g x ≤ g y := fun x hx y hy => by
              obtain ⟨p, p1, p2, p3, p4⟩ := in_cut (g := g) hx
              obtain ⟨r, r1, r2, r3⟩ := in_drop (g := g) hy
              have a1 := q2 p p1 p2
              have a2 := srt_of ua (i3 + k) a.size (Nat.le_refl _) (i3 + k) r (Nat.le_refl _) r1 r2
              simp only [Ah, if_true] at a1
              rw [p4, r3]; omega
            have tl : ∀ y ∈ b.toList.drop (j3 + 1 + q), g a[i3 + k] ≤ g y := fun y hy => by
              obtain ⟨r, r1, r2, r3⟩ := in_drop (g := g) hy
              have a1 := q3 r (by omega) (by omega)
              simp only [Ah, if_true] at a1
              rw [r3]; omega
            by_cases c6 : q > 0
            · rw [if_pos c6]
              have mg6 : Mg g a.toList b.toList ((z3 ++ a.extract i3 (i3 + k)).push b[j3] ++ b.extract (j3 + 1) (j3 + 1 + q)).toList (i3 + k) (j3 + 1 + q) := by
                rw [Array.toList_append, ext_of]
                exact mg5.segB ub (by rw [Array.length_toList]; omega) seg
              by_cases c7 : j3 + 1 + q = b.size
              · rw [if_pos (by rw [beq_iff_eq]; exact c7)]
                exact wpS_pure (.inl ⟨_, _, rfl, e4, fin mg6 (.inl c7)⟩)
              rw [if_neg (by rw [beq_iff_eq]; exact c7)]
              refine wpS_bind (el_ok ea ?_)
              have mg7 : Mg g a.toList b.toList (((z3 ++ a.extract i3 (i3 + k)).push b[j3] ++ b.extract (j3 + 1) (j3 + 1 + q)).push a[i3 + k]).toList (i3 + k + 1) (j3 + 1 + q) := by
                rw [Array.toList_push]
                exact mg6.pushA ua la tl
              by_cases c8 : i3 + k + 1 + 1 = a.size
              · rw [if_pos (by rw [beq_iff_eq]; exact c8)]
                exact wpS_pure (.inl ⟨_, _, rfl, e4, fin2 mg7 c8⟩)
              rw [if_neg (by rw [beq_iff_eq]; exact c8)]
              split
              · exact wpS_pure (.inr ⟨_, _, _, _, _, _, rfl, e4, mg7, by omega, by omega, by omega⟩)
              · exact wpS_pure ⟨_, _, _, _, _, _, rfl, e4, mg7, by omega, by omega, by omega⟩
            · rw [if_neg c6]
              have q0 : q = 0 := by omega
              subst q0
              refine wpS_bind (el_ok ea ?_)
              have mg7 : Mg g a.toList b.toList (((z3 ++ a.extract i3 (i3 + k)).push b[j3]).push a[i3 + k]).toList (i3 + k + 1) (j3 + 1) := by
                rw [Array.toList_push]
                exact mg5.pushA ua la tl
              by_cases c8 : i3 + k + 1 + 1 = a.size
              · rw [if_pos (by rw [beq_iff_eq]; exact c8)]
                exact wpS_pure (.inl ⟨_, _, rfl, e4, fin2 mg7 c8⟩)
              rw [if_neg (by rw [beq_iff_eq]; exact c8)]
              split
              · exact wpS_pure (.inr ⟨_, _, _, _, _, _, rfl, e4, mg7, by omega, by omega, by omega⟩)
              · exact wpS_pure ⟨_, _, _, _, _, _, rfl, e4, mg7, by omega, by omega, by omega⟩
          · rw [if_neg c4]
            have k0 : k = 0 := by omega
            subst k0
            refine wpS_bind (el_ok eb ?_)
            have mg5 : Mg g a.toList b.toList ((z3).push b[j3]).toList (i3) (j3 + 1) := by
              rw [Array.toList_push]
              exact mg3.pushB ub lb hpb
            by_cases c5 : j3 + 1 = b.size
            · rw [if_pos (by rw [beq_iff_eq]; exact c5)]
              exact wpS_pure (.inl ⟨_, _, rfl, e4, fin mg5 (.inl c5)⟩)
            rw [if_neg (by rw [beq_iff_eq]; exact c5)]
            have il : i3 < a.size := by omega
            obtain ⟨ea, la, ga⟩ := get_of (g := g) il
            refine wpS_bind (el_ok ea ?_)
            refine wpS_bind (gallop_ok O (hA _ (Array.getElem_mem il)) hB (by omega) (by omega) (srt_of ub _ _ (by omega)) (e4.kind.trans kd) fun q q1 q2 q3 => ?_)
            dsimp only
            have seg : ∀ x ∈ (b.toList.drop (j3 + 1)).take q, ∀ y ∈ a.toList.drop (i3), g x ≤ g y := fun x hx y hy => by
              obtain ⟨p, p1, p2, p3, p4⟩ := in_cut (g := g) hx
              obtain ⟨r, r1, r2, r3⟩ := in_drop (g := g) hy
              have a1 := q2 p p1 p2
              have a2 := srt_of ua (i3) a.size (Nat.le_refl _) (i3) r (Nat.le_refl _) r1 r2
              simp only [Ah, if_true] at a1
              rw [p4, r3]; omega
            have tl : ∀ y ∈ b.toList.drop (j3 + 1 + q), g a[i3] ≤ g y := fun y hy => by
              obtain ⟨r, r1, r2, r3⟩ := in_drop (g := g) hy
              have a1 := q3 r (by omega) (by omega)
              simp only [Ah, if_true] at a1
              rw [r3]; omega
            by_cases c6 : q > 0
            · rw [if_pos c6]
              have mg6 : Mg g a.toList b.toList ((z3).push b[j3] ++ b.extract (j3 + 1) (j3 + 1 + q)).toList (i3) (j3 + 1 + q) := by
                rw [Array.toList_append, ext_of]
                exact mg5.segB ub (by rw [Array.length_toList]; omega) seg
              by_cases c7 : j3 + 1 + q = b.size
              · rw [if_pos (by rw [beq_iff_eq]; exact c7)]
                exact wpS_pure (.inl ⟨_, _, rfl, e4, fin mg6 (.inl c7)⟩)
              rw [if_neg (by rw [beq_iff_eq]; exact c7)]
              refine wpS_bind (el_ok ea ?_)
              have mg7 : Mg g a.toList b.toList (((z3).push b[j3] ++ b.extract (j3 + 1) (j3 + 1 + q)).push a[i3]).toList (i3 + 1) (j3 + 1 + q) := by
                rw [Array.toList_push]
                exact mg6.pushA ua la tl
              by_cases c8 : i3 + 1 + 1 = a.size
              · rw [if_pos (by rw [beq_iff_eq]; exact c8)]
                exact wpS_pure (.inl ⟨_, _, rfl, e4, fin2 mg7 c8⟩)
              rw [if_neg (by rw [beq_iff_eq]; exact c8)]
              split
              · exact wpS_pure (.inr ⟨_, _, _, _, _, _, rfl, e4, mg7, by omega, by omega, by omega⟩)
              · exact wpS_pure ⟨_, _, _, _, _, _, rfl, e4, mg7, by omega, by omega, by omega⟩
            · rw [if_neg c6]
              have q0 : q = 0 := by omega
              subst q0
              refine wpS_bind (el_ok ea ?_)
              have mg7 : Mg g a.toList b.toList (((z3).push b[j3]).push a[i3]).toList (i3 + 1) (j3 + 1) := by
                rw [Array.toList_push]
                exact mg5.pushA ua la tl
              by_cases c8 : i3 + 1 + 1 = a.size
              · rw [if_pos (by rw [beq_iff_eq]; exact c8)]
                exact wpS_pure (.inl ⟨_, _, rfl, e4, fin2 mg7 c8⟩)
              rw [if_neg (by rw [beq_iff_eq]; exact c8)]
              split
              · exact wpS_pure (.inr ⟨_, _, _, _, _, _, rfl, e4, mg7, by omega, by omega, by omega⟩)
              · exact wpS_pure ⟨_, _, _, _, _, _, rfl, e4, mg7, by omega, by omega, by omega⟩
end
end Q
set_option Elab.async false
set_option linter.all false
set_option maxRecDepth 100000
namespace Q
open PySem PySem.W PyProof.Rows
def mHi' : Array Keyed → Array Keyed → StateT SortSt Sem (Array Keyed) := sortPriv% PySem.Builtin.mergeHi
theorem mHi'_eq (a b : Array Keyed) : mHi' a b = (do
    liftM (rule "list.sort.merge-hi")
    let n := a.size + b.size
    let fin (z : Array Keyed) (i j : Nat) := a.extract 0 i ++ b.extract 0 j ++ z.reverse
    let fin2 (z : Array Keyed) (i j : Nat) := b.extract 0 j ++ a.extract 0 i ++ z.reverse
    let mut i := a.size - 1
    let mut j := b.size
    let mut z : Array Keyed := #[← elem' a i]
    if i == 0 then return fin z i j
    if j == 1 then return fin2 z i j
    let mut m := gallopOf (← get)
    for _ in [0:n] do
      let mut u := 0
      let mut v := 0
      for _ in [0:n] do
        let some c ← lt' (← elem' b (j - 1)) (← elem' a (i - 1)) | return fin z i j
        if c then
          i := i - 1; z := z.push (← elem' a i); u := u + 1; v := 0
          if i == 0 then return fin z i j
          if u ≥ m then break
        else
          j := j - 1; z := z.push (← elem' b j); v := v + 1; u := 0
          if j == 1 then return fin2 z i j
          if v ≥ m then break
      liftM (rule "list.sort.gallop")
      m := m + 1
      for _ in [0:n] do
        if m > 1 then m := m - 1
        setG m
        let some t ← gallop' false (← elem' b (j - 1)) a 0 i (i - 1) | return fin z i j
        let k := i - t
        u := k
        if k > 0 then
          z := z ++ (a.extract t i).reverse; i := t
          if i == 0 then return fin z i j
        j := j - 1; z := z.push (← elem' b j)
        if j == 1 then return fin2 z i j
        let some t ← gallop' true (← elem' a (i - 1)) b 0 j (j - 1) | return fin z i j
        let k := j - t
        v := k
        if k > 0 then
          z := z ++ (b.extract t j).reverse; j := t
          if j == 1 then return fin2 z i j
          if j == 0 then return fin z i j
        i := i - 1; z := z.push (← elem' a i)
        if i == 0 then return fin z i j
        if u < 7 && v < 7 then break
      m := m + 1
      setG m
    liftM (unsupported (α := Array Keyed) "internal:list.sort.merge-bound")) := rfl
section
variable {prog : Program} {w : World} {A : Around} {E : Value → Shared → Prop} {s : Shared} {κ : SortKind} {a₀ : Array Keyed} {g : Keyed → Int}
abbrev ng (g : Keyed → Int) : Keyed → Int := fun x => - g x
theorem up_rev' {l : List Keyed} (u : Up' g l) : Up' (ng g) l.reverse := by
  unfold Up'
  rw [List.pairwise_reverse]
  exact u.imp fun {x y} h => by show - g y ≤ - g x; omega
theorem rdrop (a : Array Keyed) {i : Nat} (h : i ≤ a.size) : a.toList.reverse.drop (a.size - i) = (a.toList.take i).reverse := by
  rw [List.drop_reverse, Array.length_toList, show a.size - (a.size - i) = i by omega]
theorem rcut (a : Array Keyed) {t i : Nat} (h : i ≤ a.size) (ht : t ≤ i) : (a.toList.reverse.drop (a.size - i)).take (i - t) = (a.extract t i).toList.reverse := by
  rw [rdrop a h, List.take_reverse, List.length_take, Array.length_toList, show min i a.size - (i - t) = t by omega, Array.toList_extract, List.extract_eq_drop_take]
  congr 1
  rw [List.drop_take]
theorem rget (a : Array Keyed) {i : Nat} (h : i < a.size) : a.toList.reverse[a.size - (i + 1)]? = some a[i] := by
  rw [List.getElem?_reverse (by rw [Array.length_toList]; omega), Array.length_toList, show a.size - 1 - (a.size - (i + 1)) = i by omega]
  simp [h]
theorem ext0 (a : Array Keyed) (i : Nat) : (a.extract 0 i).toList = a.toList.take i := by
  rw [Array.toList_extract, List.extract_eq_drop_take, List.drop_zero, Nat.sub_zero]
theorem in_take {a : Array Keyed} {i : Nat} {x : Keyed} (h : x ∈ (a.toList.take i).reverse) : ∃ p, p < i ∧ p < a.size ∧ g x = Gr g a p := by
  rw [List.mem_reverse] at h
  obtain ⟨p, p1, p2, p3, p4⟩ := in_cut (g := g) (a := a) (i := 0) (k := i) (x := x) (by rw [List.drop_zero]; exact h)
  exact ⟨p, by omega, p3, p4⟩
theorem in_ext {a : Array Keyed} {t i : Nat} {x : Keyed} (h : x ∈ (a.extract t i).toList.reverse) : ∃ p, t ≤ p ∧ p < i ∧ p < a.size ∧ g x = Gr g a p := by
  rw [List.mem_reverse, Array.toList_extract, List.extract_eq_drop_take] at h
  obtain ⟨p, p1, p2, p3, p4⟩ := in_cut (g := g) h
  exact ⟨p, p1, by omega, p3, p4⟩
theorem mq_rev {a b r : List Keyed} (q : Mq (ng g) b.reverse a.reverse r.reverse) : Mq g a b r := by
  refine ⟨?_, ?_⟩
  · have h := q.perm
    rw [← List.reverse_append] at h
    exact (List.reverse_perm r).symm.trans (h.trans (List.reverse_perm _))
  · have h := q.up
    unfold Up' at h
    rw [List.pairwise_reverse] at h
    exact h.imp fun {x y} z => by have z : - g y ≤ - g x := z; omega
theorem mHi_ok (O : Ora prog w A s κ a₀ g) {a b : Array Keyed} (hA : ∀ x ∈ a, x ∈ a₀) (hB : ∀ x ∈ b, x ∈ a₀) (ua : Up' g a.toList) (ub : Up' g b.toList) (na : 0 < a.size) (nb : 0 < b.size)
    (hF : ∀ y ∈ a.toList, Gr g b 0 ≤ g y) (hL : ∀ x ∈ b.toList, g x ≤ Gr g a (a.size - 1)) {st : SortSt} (kd : kindOf st = κ) {Q : Array Keyed → SortSt → Prop}
    (h : ∀ z st', Eqv st st' → Mq g a.toList b.toList z.toList → Q z st') : wpS (model prog w) A E s (mHi' a b) Q st := by
  rw [mHi'_eq]
  dsimp only
  have ra := up_rev' ua
  have rb := up_rev' ub
  have fin : ∀ {z : Array Keyed} {i j : Nat}, i ≤ a.size → j ≤ b.size → Mg (ng g) b.toList.reverse a.toList.reverse z.toList (b.size - j) (a.size - i) → i = 0 ∨ j = 0 → Mq g a.toList b.toList (a.extract 0 i ++ b.extract 0 j ++ z.reverse).toList := fun {z i j} hi hj m hh => by
    refine mq_rev ?_
    rw [Array.toList_append, Array.toList_append, ext0, ext0, Array.toList_reverse, List.reverse_append, List.reverse_append, List.reverse_reverse, ← rdrop a hi, ← rdrop b hj, ← List.append_assoc]
    exact m.fin rb ra (by rw [List.length_reverse, List.length_reverse, Array.length_toList, Array.length_toList]; omega)
  have fin2 : ∀ {z : Array Keyed} {i j : Nat}, i ≤ a.size → j ≤ b.size → Mg (ng g) b.toList.reverse a.toList.reverse z.toList (b.size - j) (a.size - i) → j = 1 → Mq g a.toList b.toList (b.extract 0 j ++ a.extract 0 i ++ z.reverse).toList := fun {z i j} hi hj m hh => by
    refine mq_rev ?_
    rw [Array.toList_append, Array.toList_append, ext0, ext0, Array.toList_reverse, List.reverse_append, List.reverse_append, List.reverse_reverse, ← rdrop a hi, ← rdrop b hj, ← List.append_assoc]
    refine m.fin2 rb ra fun x hx y hy => ?_
    rw [rdrop a hi] at hx
    rw [rdrop b hj] at hy
    obtain ⟨p, p1, p2, p3⟩ := in_take (g := g) hy
    have hx' : x ∈ a.toList := List.mem_of_mem_take (List.mem_reverse.mp hx)
    have := hF x hx'
    rw [show p = 0 by omega] at p3
    show - g x ≤ - g y
    omega
  have la1 : a.size - 1 < a.size := by omega
  obtain ⟨ea, _, ga⟩ := get_of (g := g) la1
  have m0 : Mg (ng g) b.toList.reverse a.toList.reverse ([] : List Keyed) (b.size - b.size) (a.size - a.size) := ⟨by omega, by omega, by simp, List.Pairwise.nil, fun x hx => (by cases hx), fun x hx => (by cases hx)⟩
  have m1 : Mg (ng g) b.toList.reverse a.toList.reverse (#[a[a.size - 1]] : Array Keyed).toList (b.size - b.size) (a.size - (a.size - 1)) := by
    have := m0.pushB ra (x := a[a.size - 1]) (by have := rget a la1; rw [show a.size - (a.size - 1 + 1) = a.size - a.size by omega] at this; exact this) fun y hy => by
      have hy' : y ∈ b.toList := List.mem_reverse.mp (List.mem_of_mem_drop hy)
      have := hL y hy'
      show - g _ ≤ - g y
      omega
    rw [show a.size - (a.size - 1) = a.size - a.size + 1 by omega]
    exact this
  refine wpS_bind (wpS_lift (wpAny_rule ⟨rfl, ?_⟩))
  refine wpS_bind (el_ok ea ?_)
  by_cases c1 : a.size - 1 = 0
  · rw [if_pos (by rw [beq_iff_eq]; exact c1)]
    exact wpS_pure (h _ _ .refl (fin (by omega) (Nat.le_refl _) m1 (.inl c1)))
  rw [if_neg (by rw [beq_iff_eq]; exact c1)]
  by_cases c2 : b.size = 1
  · rw [if_pos (by rw [beq_iff_eq]; exact c2)]
    exact wpS_pure (h _ _ .refl (fin2 (by omega) (Nat.le_refl _) m1 c2))
  rw [if_neg (by rw [beq_iff_eq]; exact c2)]
  refine wpS_bind (wpS_get ?_)
  -- the order of ranks, by places
  have sa : ∀ p q, p ≤ q → q < a.size → Gr g a p ≤ Gr g a q := fun p q h1 h2 => srt_of ua 0 a.size (Nat.le_refl _) p q (Nat.zero_le _) h1 h2
  have sb : ∀ p q, p ≤ q → q < b.size → Gr g b p ≤ Gr g b q := fun p q h1 h2 => srt_of ub 0 b.size (Nat.le_refl _) p q (Nat.zero_le _) h1 h2
  -- one of a, one of b, a part of a, a part of b
  have putA : ∀ {z : Array Keyed} {i j : Nat} (hi : i < a.size), j ≤ b.size → Mg (ng g) b.toList.reverse a.toList.reverse z.toList (b.size - j) (a.size - (i + 1)) → (∀ p, p < j → Gr g b p ≤ Gr g a i) → Mg (ng g) b.toList.reverse a.toList.reverse (z.push a[i]).toList (b.size - j) (a.size - i) := fun {z i j} hi hj m hp => by
    rw [Array.toList_push, show a.size - i = a.size - (i + 1) + 1 by omega]
    refine m.pushB ra (rget a hi) fun y hy => ?_
    rw [rdrop b hj] at hy
    obtain ⟨p, p1, p2, p3⟩ := in_take (g := g) hy
    have h1 := hp p p1
    have h2 := (get_of (g := g) hi).2.2
    show - g _ ≤ - g y
    omega
  have putB : ∀ {z : Array Keyed} {i j : Nat} (hj : j < b.size), i ≤ a.size → Mg (ng g) b.toList.reverse a.toList.reverse z.toList (b.size - (j + 1)) (a.size - i) → (∀ p, p < i → Gr g a p ≤ Gr g b j) → Mg (ng g) b.toList.reverse a.toList.reverse (z.push b[j]).toList (b.size - j) (a.size - i) := fun {z i j} hj hi m hp => by
    rw [Array.toList_push, show b.size - j = b.size - (j + 1) + 1 by omega]
    refine m.pushA rb (rget b hj) fun y hy => ?_
    rw [rdrop a hi] at hy
    obtain ⟨p, p1, p2, p3⟩ := in_take (g := g) hy
    have h1 := hp p p1
    have h2 := (get_of (g := g) hj).2.2
    show - g _ ≤ - g y
    omega
  have partA : ∀ {z : Array Keyed} {i j t : Nat}, i ≤ a.size → j ≤ b.size → t ≤ i → Mg (ng g) b.toList.reverse a.toList.reverse z.toList (b.size - j) (a.size - i) → (∀ p q, t ≤ p → p < i → q < j → Gr g b q ≤ Gr g a p) → Mg (ng g) b.toList.reverse a.toList.reverse (z ++ (a.extract t i).reverse).toList (b.size - j) (a.size - t) := fun {z i j t} hi hj ht m hp => by
    rw [Array.toList_append, Array.toList_reverse, ← rcut a hi ht, show a.size - t = a.size - i + (i - t) by omega]
    refine m.segB ra (by rw [List.length_reverse, Array.length_toList]; omega) fun x hx y hy => ?_
    rw [rcut a hi ht] at hx
    rw [rdrop b hj] at hy
    obtain ⟨p, p1, p2, p3, p4⟩ := in_ext (g := g) hx
    obtain ⟨q, q1, q2, q3⟩ := in_take (g := g) hy
    have := hp p q p1 p2 q1
    show - g x ≤ - g y
    omega
  have partB : ∀ {z : Array Keyed} {i j t : Nat}, i ≤ a.size → j ≤ b.size → t ≤ j → Mg (ng g) b.toList.reverse a.toList.reverse z.toList (b.size - j) (a.size - i) → (∀ p q, t ≤ p → p < j → q < i → Gr g a q ≤ Gr g b p) → Mg (ng g) b.toList.reverse a.toList.reverse (z ++ (b.extract t j).reverse).toList (b.size - t) (a.size - i) := fun {z i j t} hi hj ht m hp => by
    rw [Array.toList_append, Array.toList_reverse, ← rcut b hj ht, show b.size - t = b.size - j + (j - t) by omega]
    refine m.segA rb (by rw [List.length_reverse, Array.length_toList]; omega) fun x hx y hy => ?_
    rw [rcut b hj ht] at hx
    rw [rdrop a hi] at hy
    obtain ⟨p, p1, p2, p3, p4⟩ := in_ext (g := g) hx
    obtain ⟨q, q1, q2, q3⟩ := in_take (g := g) hy
    have := hp p q p1 p2 q1
    show - g x ≤ - g y
    omega
  refine wpS_bind (wpS_mono (wpS_forRange (I := fun x c st' => ∃ i j z m, c = (none, i, j, z, m) ∧ Eqv st st' ∧ Mg (ng g) b.toList.reverse a.toList.reverse z.toList (b.size - j) (a.size - i) ∧ 0 < i ∧ i ≤ a.size ∧ 1 < j ∧ j ≤ b.size ∧ x + 1 + i + j ≤ a.size + b.size)
    (Q := fun c st' => ∃ r t, c = (some r, t) ∧ Eqv st st' ∧ Mq g a.toList b.toList r.toList) ?step ?fin ⟨a.size - 1, b.size, #[a[a.size - 1]], gallopOf st, rfl, .refl, m1, by omega, by omega, by omega, Nat.le_refl _, by omega⟩) ?post)
  case post =>
    rintro c st' ⟨r, t, rfl, e, q⟩
    exact wpS_pure (h r st' e q)
  case fin =>
    rintro c st' ⟨i, j, z, m, rfl, e, mg, i0, i1, j0, j1, x1⟩
    omega
  case step =>
    rintro x c st' _ x2 ⟨i, j, z, m, rfl, e, mg, i0, i1, j0, j1, x1⟩
    dsimp only
    refine wpS_bind (wpS_mono (wpS_forRange (I := fun y c st2 => ∃ i' j' z' u v, c = (none, i', j', z', u, v) ∧ Eqv st st2 ∧ Mg (ng g) b.toList.reverse a.toList.reverse z'.toList (b.size - j') (a.size - i') ∧ 0 < i' ∧ i' ≤ a.size ∧ 1 < j' ∧ j' ≤ b.size ∧ i' + j' + y ≤ i + j)
      (Q := fun c st2 => (∃ r t, c = (some r, t) ∧ Eqv st st2 ∧ Mq g a.toList b.toList r.toList) ∨ ∃ i' j' z' u v, c = (none, i', j', z', u, v) ∧ Eqv st st2 ∧ Mg (ng g) b.toList.reverse a.toList.reverse z'.toList (b.size - j') (a.size - i') ∧ 0 < i' ∧ i' ≤ a.size ∧ 1 < j' ∧ j' ≤ b.size ∧ i' + j' + 1 ≤ i + j) ?s1 ?f1 ⟨i, j, z, 0, 0, rfl, e, mg, i0, i1, j0, j1, by omega⟩) ?p1)
    case f1 =>
      rintro c st2 ⟨i', j', z', u, v, rfl, e2, mg2, i2, i3, j2, j3, l2⟩
      exact .inr ⟨i', j', z', u, v, rfl, e2, mg2, i2, i3, j2, j3, by omega⟩
    case s1 =>
      rintro y c st2 _ y2 ⟨i', j', z', u, v, rfl, e2, mg2, i2, i3, j2, j3, l2⟩
      dsimp only
      have hj' : j' - 1 < b.size := by omega
      have hi' : i' - 1 < a.size := by omega
      obtain ⟨eb, _, gb⟩ := get_of (g := g) hj'
      obtain ⟨ea, _, ga⟩ := get_of (g := g) hi'
      refine wpS_bind (el_ok eb (wpS_bind (el_ok ea (wpS_bind (ask_ok O (hB _ (Array.getElem_mem hj')) (hA _ (Array.getElem_mem hi')) (e2.kind.trans kd) ?_)))))
      by_cases c : g b[j' - 1] < g a[i' - 1]
      · rw [decide_eq_true c]
        dsimp only
        rw [if_pos rfl]
        refine wpS_bind (el_ok ea ?_)
        have mg3 := putA hi' j3 (by rw [show i' - 1 + 1 = i' by omega]; exact mg2) fun p hp => by have := sb p (j' - 1) (by omega) hj'; omega
        by_cases c3 : i' - 1 = 0
        · rw [if_pos (by rw [beq_iff_eq]; exact c3)]
          exact wpS_pure (.inl ⟨_, _, rfl, e2, fin (by omega) j3 mg3 (.inl c3)⟩)
        rw [if_neg (by rw [beq_iff_eq]; exact c3)]
        by_cases c4 : u + 1 ≥ m
        · rw [if_pos c4]
          exact wpS_pure (.inr ⟨_, _, _, _, _, rfl, e2, mg3, by omega, by omega, j2, j3, by omega⟩)
        · rw [if_neg c4]
          exact wpS_pure ⟨_, _, _, _, _, rfl, e2, mg3, by omega, by omega, j2, j3, by omega⟩
      · rw [decide_eq_false c]
        dsimp only
        rw [if_neg Bool.false_ne_true]
        refine wpS_bind (el_ok eb ?_)
        have mg3 := putB hj' i3 (by rw [show j' - 1 + 1 = j' by omega]; exact mg2) fun p hp => by have := sa p (i' - 1) (by omega) hi'; omega
        by_cases c3 : j' - 1 = 1
        · rw [if_pos (by rw [beq_iff_eq]; exact c3)]
          exact wpS_pure (.inl ⟨_, _, rfl, e2, fin2 i3 (by omega) mg3 c3⟩)
        rw [if_neg (by rw [beq_iff_eq]; exact c3)]
        by_cases c4 : v + 1 ≥ m
        · rw [if_pos c4]
          exact wpS_pure (.inr ⟨_, _, _, _, _, rfl, e2, mg3, i2, i3, by omega, by omega, by omega⟩)
        · rw [if_neg c4]
          exact wpS_pure ⟨_, _, _, _, _, rfl, e2, mg3, i2, i3, by omega, by omega, by omega⟩
    case p1 =>
      rintro c st2 (⟨r, t, rfl, e2, q⟩ | ⟨i', j', z', u, v, rfl, e2, mg2, i2, i3, j2, j3, l2⟩)
      · exact wpS_pure ⟨_, _, rfl, e2, q⟩
      dsimp only
      refine wpS_bind (wpS_lift (wpAny_rule ⟨rfl, ?_⟩))
      refine wpS_bind (wpS_mono (wpS_forRange (I := fun y c st3 => ∃ i4 j4 z4 m4 u4 v4, c = (none, i4, j4, z4, m4, u4, v4) ∧ Eqv st st3 ∧ Mg (ng g) b.toList.reverse a.toList.reverse z4.toList (b.size - j4) (a.size - i4) ∧ 0 < i4 ∧ i4 ≤ a.size ∧ 1 < j4 ∧ j4 ≤ b.size ∧ i4 + j4 + 1 ≤ i + j)
        (Q := fun c st3 => (∃ r t, c = (some r, t) ∧ Eqv st st3 ∧ Mq g a.toList b.toList r.toList) ∨ ∃ i4 j4 z4 m4 u4 v4, c = (none, i4, j4, z4, m4, u4, v4) ∧ Eqv st st3 ∧ Mg (ng g) b.toList.reverse a.toList.reverse z4.toList (b.size - j4) (a.size - i4) ∧ 0 < i4 ∧ i4 ≤ a.size ∧ 1 < j4 ∧ j4 ≤ b.size ∧ i4 + j4 + 1 ≤ i + j) ?s2 ?f2 ⟨i', j', z', m + 1, u, v, rfl, e2, mg2, i2, i3, j2, j3, l2⟩) ?p2)
      case f2 =>
        rintro c st3 q
        exact .inr q
      case p2 =>
        rintro c st3 (⟨r, t, rfl, e3, q⟩ | ⟨i4, j4, z4, m4, u4, v4, rfl, e3, mg3, i5, i6, j5, j6, l3⟩)
        · exact wpS_pure ⟨_, _, rfl, e3, q⟩
        dsimp only
        refine wpS_bind (setG_ok e3 fun st4 e4 => wpS_pure ?_)
        exact ⟨i4, j4, z4, m4 + 1, rfl, e4, mg3, i5, i6, j5, j6, by omega⟩
      case s2 =>
        rintro y c st3 _ y2 ⟨i4, j4, z4, m4, u4, v4, rfl, e3, mg3, i5, i6, j5, j6, l3⟩
        dsimp only
        have hj4 : j4 - 1 < b.size := by omega
        obtain ⟨eb, _, gb⟩ := get_of (g := g) hj4
        by_cases cm : m4 > 1
        · rw [if_pos cm]
          refine wpS_bind (setG_ok e3 fun st4 e4 => ?_)
          refine wpS_bind (el_ok eb ?_)
          refine wpS_bind (gallop_ok O (hB _ (Array.getElem_mem hj4)) hA (by omega) (by omega) (srt_of ua _ _ (by omega)) (e4.kind.trans kd) fun t t1 t2 t3 => ?_)
          dsimp only
          have lowA : ∀ p, p < t → Gr g a p ≤ Gr g b (j4 - 1) := fun p hp => by
            have a1 := t2 p (Nat.zero_le _) (by omega)
            simp only [Ah, Bool.false_eq_true, if_false] at a1
            omega
          have segA : ∀ p q, t ≤ p → p < i4 → q < j4 → Gr g b q ≤ Gr g a p := fun p q p1 p2 p3 => by
            have a1 := t3 p (by omega) (by omega)
            simp only [Ah, Bool.false_eq_true, if_false] at a1
            have a2 := sb q (j4 - 1) (by omega) hj4
            omega
          by_cases c4 : i4 - t > 0
          · rw [if_pos c4]
            have mg4 := partA i6 j6 (show t ≤ i4 by omega) mg3 segA
            by_cases d1 : t = 0
            · rw [if_pos (by rw [beq_iff_eq]; exact d1)]
              exact wpS_pure (.inl ⟨_, _, rfl, e4, fin (by omega) j6 mg4 (.inl d1)⟩)
            rw [if_neg (by rw [beq_iff_eq]; exact d1)]
            refine wpS_bind (el_ok eb ?_)
            have mg5 := putB hj4 (show t ≤ a.size by omega) (by rw [show j4 - 1 + 1 = j4 by omega]; exact mg4) fun p hp => lowA p hp
            by_cases c5 : j4 - 1 = 1
            · rw [if_pos (by rw [beq_iff_eq]; exact c5)]
              exact wpS_pure (.inl ⟨_, _, rfl, e4, fin2 (by omega) (by omega) mg5 c5⟩)
            rw [if_neg (by rw [beq_iff_eq]; exact c5)]
            have il : t - 1 < a.size := by omega
            obtain ⟨ea, _, ga⟩ := get_of (g := g) il
            refine wpS_bind (el_ok ea ?_)
            refine wpS_bind (gallop_ok O (hA _ (Array.getElem_mem il)) hB (by omega) (by omega) (srt_of ub _ _ (by omega)) (e4.kind.trans kd) fun t2 q1 q2 q3 => ?_)
            dsimp only
            have lowB : ∀ p, p < t2 → Gr g b p ≤ Gr g a (t - 1) := fun p hp => by
              have a1 := q2 p (Nat.zero_le _) (by omega)
              simp only [Ah, if_true] at a1
              omega
            have segB : ∀ p q, t2 ≤ p → p < j4 - 1 → q < t → Gr g a q ≤ Gr g b p := fun p q p1 p2 p3 => by
              have a1 := q3 p (by omega) (by omega)
              simp only [Ah, if_true] at a1
              have a2 := sa q (t - 1) (by omega) il
              omega
            by_cases c6 : j4 - 1 - t2 > 0
            · rw [if_pos c6]
              have mg6 := partB (show _ ≤ a.size by omega) (show j4 - 1 ≤ b.size by omega) (show t2 ≤ j4 - 1 by omega) mg5 segB
              by_cases c7 : t2 = 1
              · rw [if_pos (by rw [beq_iff_eq]; exact c7)]
                exact wpS_pure (.inl ⟨_, _, rfl, e4, fin2 (by omega) (by omega) mg6 c7⟩)
              rw [if_neg (by rw [beq_iff_eq]; exact c7)]
              by_cases c8 : t2 = 0
              · rw [if_pos (by rw [beq_iff_eq]; exact c8)]
                exact wpS_pure (.inl ⟨_, _, rfl, e4, fin (by omega) (by omega) mg6 (.inr c8)⟩)
              rw [if_neg (by rw [beq_iff_eq]; exact c8)]
              refine wpS_bind (el_ok ea ?_)
              have mg7 := putA il (show t2 ≤ b.size by omega) (by rw [show t - 1 + 1 = t by omega]; exact mg6) lowB
              by_cases c9 : t - 1 = 0
              · rw [if_pos (by rw [beq_iff_eq]; exact c9)]
                exact wpS_pure (.inl ⟨_, _, rfl, e4, fin (by omega) (by omega) mg7 (.inl c9)⟩)
              rw [if_neg (by rw [beq_iff_eq]; exact c9)]
              split
              · exact wpS_pure (.inr ⟨_, _, _, _, _, _, rfl, e4, mg7, by omega, by omega, by omega, by omega, by omega⟩)
              · exact wpS_pure ⟨_, _, _, _, _, _, rfl, e4, mg7, by omega, by omega, by omega, by omega, by omega⟩
            · rw [if_neg c6]
              have q0 : t2 = j4 - 1 := by omega
              subst q0
              refine wpS_bind (el_ok ea ?_)
              have mg7 := putA il (show j4 - 1 ≤ b.size by omega) (by rw [show t - 1 + 1 = t by omega]; exact mg5) lowB
              by_cases c9 : t - 1 = 0
              · rw [if_pos (by rw [beq_iff_eq]; exact c9)]
                exact wpS_pure (.inl ⟨_, _, rfl, e4, fin (by omega) (by omega) mg7 (.inl c9)⟩)
              rw [if_neg (by rw [beq_iff_eq]; exact c9)]
              split
              · exact wpS_pure (.inr ⟨_, _, _, _, _, _, rfl, e4, mg7, by omega, by omega, by omega, by omega, by omega⟩)
              · exact wpS_pure ⟨_, _, _, _, _, _, rfl, e4, mg7, by omega, by omega, by omega, by omega, by omega⟩
          · rw [if_neg c4]
            have k0 : t = i4 := by omega
            subst k0
            refine wpS_bind (el_ok eb ?_)
            have mg5 := putB hj4 (show t ≤ a.size by omega) (by rw [show j4 - 1 + 1 = j4 by omega]; exact mg3) fun p hp => lowA p hp
            by_cases c5 : j4 - 1 = 1
            · rw [if_pos (by rw [beq_iff_eq]; exact c5)]
              exact wpS_pure (.inl ⟨_, _, rfl, e4, fin2 (by omega) (by omega) mg5 c5⟩)
            rw [if_neg (by rw [beq_iff_eq]; exact c5)]
            have il : t - 1 < a.size := by omega
            obtain ⟨ea, _, ga⟩ := get_of (g := g) il
            refine wpS_bind (el_ok ea ?_)
            refine wpS_bind (gallop_ok O (hA _ (Array.getElem_mem il)) hB (by omega) (by omega) (srt_of ub _ _ (by omega)) (e4.kind.trans kd) fun t2 q1 q2 q3 => ?_)
            dsimp only
            have lowB : ∀ p, p < t2 → Gr g b p ≤ Gr g a (t - 1) := fun p hp => by
              have a1 := q2 p (Nat.zero_le _) (by omega)
              simp only [Ah, if_true] at a1
              omega
            have segB : ∀ p q, t2 ≤ p → p < j4 - 1 → q < t → Gr g a q ≤ Gr g b p := fun p q p1 p2 p3 => by
              have a1 := q3 p (by omega) (by omega)
              simp only [Ah, if_true] at a1
              have a2 := sa q (t - 1) (by omega) il
              omega
            by_cases c6 : j4 - 1 - t2 > 0
            · rw [if_pos c6]
              have mg6 := partB (show _ ≤ a.size by omega) (show j4 - 1 ≤ b.size by omega) (show t2 ≤ j4 - 1 by omega) mg5 segB
              by_cases c7 : t2 = 1
              · rw [if_pos (by rw [beq_iff_eq]; exact c7)]
                exact wpS_pure (.inl ⟨_, _, rfl, e4, fin2 (by omega) (by omega) mg6 c7⟩)
              rw [if_neg (by rw [beq_iff_eq]; exact c7)]
              by_cases c8 : t2 = 0
              · rw [if_pos (by rw [beq_iff_eq]; exact c8)]
                exact wpS_pure (.inl ⟨_, _, rfl, e4, fin (by omega) (by omega) mg6 (.inr c8)⟩)
              rw [if_neg (by rw [beq_iff_eq]; exact c8)]
              refine wpS_bind (el_ok ea ?_)
              have mg7 := putA il (show t2 ≤ b.size by omega) (by rw [show t - 1 + 1 = t by omega]; exact mg6) lowB
              by_cases c9 : t - 1 = 0
              · rw [if_pos (by rw [beq_iff_eq]; exact c9)]
                exact wpS_pure (.inl ⟨_, _, rfl, e4, fin (by omega) (by omega) mg7 (.inl c9)⟩)
              rw [if_neg (by rw [beq_iff_eq]; exact c9)]
              split
              · exact wpS_pure (.inr ⟨_, _, _, _, _, _, rfl, e4, mg7, by omega, by omega, by omega, by omega, by omega⟩)
              · exact wpS_pure ⟨_, _, _, _, _, _, rfl, e4, mg7, by omega, by omega, by omega, by omega, by omega⟩
            · rw [if_neg c6]
              have q0 : t2 = j4 - 1 := by omega
              subst q0
              refine wpS_bind (el_ok ea ?_)
              have mg7 := putA il (show j4 - 1 ≤ b.size by omega) (by rw [show t - 1 + 1 = t by omega]; exact mg5) lowB
              by_cases c9 : t - 1 = 0
              · rw [if_pos (by rw [beq_iff_eq]; exact c9)]
                exact wpS_pure (.inl ⟨_, _, rfl, e4, fin (by omega) (by omega) mg7 (.inl c9)⟩)
              rw [if_neg (by rw [beq_iff_eq]; exact c9)]
              split
              · exact wpS_pure (.inr ⟨_, _, _, _, _, _, rfl, e4, mg7, by omega, by omega, by omega, by omega, by omega⟩)
              · exact wpS_pure ⟨_, _, _, _, _, _, rfl, e4, mg7, by omega, by omega, by omega, by omega, by omega⟩
        · rw [if_neg cm]
          refine wpS_bind (setG_ok e3 fun st4 e4 => ?_)
          refine wpS_bind (el_ok eb ?_)
          refine wpS_bind (gallop_ok O (hB _ (Array.getElem_mem hj4)) hA (by omega) (by omega) (srt_of ua _ _ (by omega)) (e4.kind.trans kd) fun t t1 t2 t3 => ?_)
          dsimp only
          have lowA : ∀ p, p < t → Gr g a p ≤ Gr g b (j4 - 1) := fun p hp => by
            have a1 := t2 p (Nat.zero_le _) (by omega)
            simp only [Ah, Bool.false_eq_true, if_false] at a1
            omega
          have segA : ∀ p q, t ≤ p → p < i4 → q < j4 → Gr g b q ≤ Gr g a p := fun p q p1 p2 p3 => by
            have a1 := t3 p (by omega) (by omega)
            simp only [Ah, Bool.false_eq_true, if_false] at a1
            have a2 := sb q (j4 - 1) (by omega) hj4
            omega
          by_cases c4 : i4 - t > 0
          · rw [if_pos c4]
            have mg4 := partA i6 j6 (show t ≤ i4 by omega) mg3 segA
            by_cases d1 : t = 0
            · rw [if_pos (by rw [beq_iff_eq]; exact d1)]
              exact wpS_pure (.inl ⟨_, _, rfl, e4, fin (by omega) j6 mg4 (.inl d1)⟩)
            rw [if_neg (by rw [beq_iff_eq]; exact d1)]
            refine wpS_bind (el_ok eb ?_)
            have mg5 := putB hj4 (show t ≤ a.size by omega) (by rw [show j4 - 1 + 1 = j4 by omega]; exact mg4) fun p hp => lowA p hp
            by_cases c5 : j4 - 1 = 1
            · rw [if_pos (by rw [beq_iff_eq]; exact c5)]
              exact wpS_pure (.inl ⟨_, _, rfl, e4, fin2 (by omega) (by omega) mg5 c5⟩)
            rw [if_neg (by rw [beq_iff_eq]; exact c5)]
            have il : t - 1 < a.size := by omega
            obtain ⟨ea, _, ga⟩ := get_of (g := g) il
            refine wpS_bind (el_ok ea ?_)
            refine wpS_bind (gallop_ok O (hA _ (Array.getElem_mem il)) hB (by omega) (by omega) (srt_of ub _ _ (by omega)) (e4.kind.trans kd) fun t2 q1 q2 q3 => ?_)
            dsimp only
            have lowB : ∀ p, p < t2 → Gr g b p ≤ Gr g a (t - 1) := fun p hp => by
              have a1 := q2 p (Nat.zero_le _) (by omega)
              simp only [Ah, if_true] at a1
              omega
            have segB : ∀ p q, t2 ≤ p → p < j4 - 1 → q < t → Gr g a q ≤ Gr g b p := fun p q p1 p2 p3 => by
              have a1 := q3 p (by omega) (by omega)
              simp only [Ah, if_true] at a1
              have a2 := sa q (t - 1) (by omega) il
              omega
            by_cases c6 : j4 - 1 - t2 > 0
            · rw [if_pos c6]
              have mg6 := partB (show _ ≤ a.size by omega) (show j4 - 1 ≤ b.size by omega) (show t2 ≤ j4 - 1 by omega) mg5 segB
              by_cases c7 : t2 = 1
              · rw [if_pos (by rw [beq_iff_eq]; exact c7)]
                exact wpS_pure (.inl ⟨_, _, rfl, e4, fin2 (by omega) (by omega) mg6 c7⟩)
              rw [if_neg (by rw [beq_iff_eq]; exact c7)]
              by_cases c8 : t2 = 0
              · rw [if_pos (by rw [beq_iff_eq]; exact c8)]
                exact wpS_pure (.inl ⟨_, _, rfl, e4, fin (by omega) (by omega) mg6 (.inr c8)⟩)
              rw [if_neg (by rw [beq_iff_eq]; exact c8)]
              refine wpS_bind (el_ok ea ?_)
              have mg7 := putA il (show t2 ≤ b.size by omega) (by rw [show t - 1 + 1 = t by omega]; exact mg6) lowB
              by_cases c9 : t - 1 = 0
              · rw [if_pos (by rw [beq_iff_eq]; exact c9)]
                exact wpS_pure (.inl ⟨_, _, rfl, e4, fin (by omega) (by omega) mg7 (.inl c9)⟩)
              rw [if_neg (by rw [beq_iff_eq]; exact c9)]
              split
              · exact wpS_pure (.inr ⟨_, _, _, _, _, _, rfl, e4, mg7, by omega, by omega, by omega, by omega, by omega⟩)
              · exact wpS_pure ⟨_, _, _, _, _, _, rfl, e4, mg7, by omega, by omega, by omega, by omega, by omega⟩
            · rw [if_neg c6]
              have q0 : t2 = j4 - 1 := by omega
              subst q0
              refine wpS_bind (el_ok ea ?_)
              have mg7 := putA il (show j4 - 1 ≤ b.size by omega) (by rw [show t - 1 + 1 = t by omega]; exact mg5) lowB
              by_cases c9 : t - 1 = 0
              · rw [if_pos (by rw [beq_iff_eq]; exact c9)]
                exact wpS_pure (.inl ⟨_, _, rfl, e4, fin (by omega) (by omega) mg7 (.inl c9)⟩)
              rw [if_neg (by rw [beq_iff_eq]; exact c9)]
              split
              · exact wpS_pure (.inr ⟨_, _, _, _, _, _, rfl, e4, mg7, by omega, by omega, by omega, by omega, by omega⟩)
              · exact wpS_pure ⟨_, _, _, _, _, _, rfl, e4, mg7, by omega, by omega, by omega, by omega, by omega⟩
          · rw [if_neg c4]
            have k0 : t = i4 := by omega
            subst k0
            refine wpS_bind (el_ok eb ?_)
            have mg5 := putB hj4 (show t ≤ a.size by omega) (by rw [show j4 - 1 + 1 = j4 by omega]; exact mg3) fun p hp => lowA p hp
            by_cases c5 : j4 - 1 = 1
            · rw [if_pos (by rw [beq_iff_eq]; exact c5)]
              exact wpS_pure (.inl ⟨_, _, rfl, e4, fin2 (by omega) (by omega) mg5 c5⟩)
            rw [if_neg (by rw [beq_iff_eq]; exact c5)]
            have il : t - 1 < a.size := by omega
            obtain ⟨ea, _, ga⟩ := get_of (g := g) il
            refine wpS_bind (el_ok ea ?_)
            refine wpS_bind (gallop_ok O (hA _ (Array.getElem_mem il)) hB (by omega) (by omega) (srt_of ub _ _ (by omega)) (e4.kind.trans kd) fun t2 q1 q2 q3 => ?_)
            dsimp only
            have lowB : ∀ p, p < t2 → Gr g b p ≤ Gr g a (t - 1) := fun p hp => by
              have a1 := q2 p (Nat.zero_le _) (by omega)
              simp only [Ah, if_true] at a1
              omega
            have segB : ∀ p q, t2 ≤ p → p < j4 - 1 → q < t → Gr g a q ≤ Gr g b p := fun p q p1 p2 p3 => by
              have a1 := q3 p (by omega) (by omega)
              simp only [Ah, if_true] at a1
              have a2 := sa q (t - 1) (by omega) il
              omega
            by_cases c6 : j4 - 1 - t2 > 0
            · rw [if_pos c6]
              have mg6 := partB (show _ ≤ a.size by omega) (show j4 - 1 ≤ b.size by omega) (show t2 ≤ j4 - 1 by omega) mg5 segB
              by_cases c7 : t2 = 1
              · rw [if_pos (by rw [beq_iff_eq]; exact c7)]
                exact wpS_pure (.inl ⟨_, _, rfl, e4, fin2 (by omega) (by omega) mg6 c7⟩)
              rw [if_neg (by rw [beq_iff_eq]; exact c7)]
              by_cases c8 : t2 = 0
              · rw [if_pos (by rw [beq_iff_eq]; exact c8)]
                exact wpS_pure (.inl ⟨_, _, rfl, e4, fin (by omega) (by omega) mg6 (.inr c8)⟩)
              rw [if_neg (by rw [beq_iff_eq]; exact c8)]
              refine wpS_bind (el_ok ea ?_)
              have mg7 := putA il (show t2 ≤ b.size by omega) (by rw [show t - 1 + 1 = t by omega]; exact mg6) lowB
              by_cases c9 : t - 1 = 0
              · rw [if_pos (by rw [beq_iff_eq]; exact c9)]
                exact wpS_pure (.inl ⟨_, _, rfl, e4, fin (by omega) (by omega) mg7 (.inl c9)⟩)
              rw [if_neg (by rw [beq_iff_eq]; exact c9)]
              split
              · exact wpS_pure (.inr ⟨_, _, _, _, _, _, rfl, e4, mg7, by omega, by omega, by omega, by omega, by omega⟩)
              · exact wpS_pure ⟨_, _, _, _, _, _, rfl, e4, mg7, by omega, by omega, by omega, by omega, by omega⟩
            · rw [if_neg c6]
              have q0 : t2 = j4 - 1 := by omega
              subst q0
              refine wpS_bind (el_ok ea ?_)
              have mg7 := putA il (show j4 - 1 ≤ b.size by omega) (by rw [show t - 1 + 1 = t by omega]; exact mg5) lowB
              by_cases c9 : t - 1 = 0
              · rw [if_pos (by rw [beq_iff_eq]; exact c9)]
                exact wpS_pure (.inl ⟨_, _, rfl, e4, fin (by omega) (by omega) mg7 (.inl c9)⟩)
              rw [if_neg (by rw [beq_iff_eq]; exact c9)]
              split
              · exact wpS_pure (.inr ⟨_, _, _, _, _, _, rfl, e4, mg7, by omega, by omega, by omega, by omega, by omega⟩)
              · exact wpS_pure ⟨_, _, _, _, _, _, rfl, e4, mg7, by omega, by omega, by omega, by omega, by omega⟩
end
end Q
set_option Elab.async false
set_option linter.all false
set_option maxRecDepth 100000
namespace Q
open PySem PySem.W PyProof.Rows
def wr (d : Nat) : List (Keyed × Nat) → Array Keyed → Array Keyed
  | [], xs => xs
  | (p, j) :: r, xs => wr d r (xs.setIfInBounds (d + j) p)
theorem wr_fold (d : Nat) : ∀ (l : List (Keyed × Nat)) (xs : Array Keyed), l.foldl (fun a q => a.setIfInBounds (d + q.2) q.1) xs = wr d l xs
  | [], _ => rfl
  | (p, j) :: r, xs => wr_fold d r _
theorem wr_list (d : Nat) : ∀ (l : List Keyed) (k : Nat) (xs : Array Keyed), d + k + l.length ≤ xs.size → (wr d (l.zipIdx k) xs).toList = xs.toList.take (d + k) ++ l ++ xs.toList.drop (d + k + l.length)
  | [], k, xs, h => by
    rw [List.append_nil, List.length_nil, Nat.add_zero]
    exact (List.take_append_drop _ _).symm
  | x :: l, k, xs, h => by
    rw [List.length_cons] at h
    rw [List.zipIdx_cons, wr, wr_list d l (k + 1) _ (by rw [Array.size_setIfInBounds]; omega), Array.toList_setIfInBounds]
    have hk : d + k < xs.toList.length := by rw [Array.length_toList]; omega
    rw [show d + (k + 1) = d + k + 1 by omega, List.take_succ_eq_append_getElem (by rw [List.length_set]; exact hk), List.take_set_of_le (Nat.le_refl _), List.getElem_set_self, List.drop_set_of_lt (by omega), List.length_cons]
    rw [List.append_assoc, List.append_assoc, List.append_assoc, show d + k + 1 + l.length = d + k + (l.length + 1) by omega]
    rfl
theorem mAt_eq (i : Nat) : mergeAt' i = (do
    let t ← get
    let (some (sa, na, pw), some (sb, nb, _)) := ((pendingOf t)[i]?, (pendingOf t)[i + 1]?) | unsupported "internal:list.sort.pending"
    set (setPending t (((pendingOf t).setIfInBounds i (sa, na + nb, pw)).eraseIdxIfInBounds (i + 1)))
    let some k ← gallop' false (← elem' (arrOf t) sb) (arrOf t) sa na 0 | return false
    let (sa, na) := (sa + k, na - k)
    if na == 0 then return true
    let some nb ← gallop' true (← elem' (arrOf t) (sa + na - 1)) (arrOf t) sb nb (nb - 1) | return false
    if nb == 0 then return true
    let x := (arrOf t).extract sa sb
    let y := (arrOf t).extract sb (sb + nb)
    let z ← if na ≤ nb then mLo' x y else mHi' x y
    modify fun t => setArr t (z.toList.zipIdx.foldl (fun a (p, j) => a.setIfInBounds (sa + j) p) (arrOf t))
    return (failedOf (← get)).isNone) := rfl
section
variable {prog : Program} {w : World} {A : Around} {E : Value → Shared → Prop} {s : Shared} {κ : SortKind} {a₀ : Array Keyed} {g : Keyed → Int}
theorem wpS_set' {st st' : SortSt} {Q : PUnit → SortSt → Prop} (h : Q ⟨⟩ st') : wpS (model prog w) A E s (set st' : StateT SortSt Sem PUnit) Q st := by
  unfold wpS
  rw [StateT.run_set]
  exact wpAny_pure ⟨rfl, h⟩
theorem mem_ext {xs : Array Keyed} {lo hi : Nat} {e : Keyed} (h : e ∈ (xs.extract lo hi).toList) : e ∈ xs ∧ ∃ p, lo ≤ p ∧ p < hi ∧ p < xs.size ∧ g e = Gr g xs p := by
  rw [Array.toList_extract, List.extract_eq_drop_take] at h
  refine ⟨Array.mem_toList_iff.mp (List.mem_of_mem_drop (List.mem_of_mem_take h)), ?_⟩
  obtain ⟨p, p1, p2, p3, p4⟩ := in_cut (g := g) h
  exact ⟨p, p1, by omega, p3, p4⟩
theorem get_ext {xs : Array Keyed} {lo hi k : Nat} (h1 : lo + k < hi) (h2 : hi ≤ xs.size) : (xs.extract lo hi)[k]? = xs[lo + k]? := by
  rw [Array.getElem?_extract, if_pos (by omega)]
theorem Gr_ext {xs : Array Keyed} {lo hi k : Nat} (h1 : lo + k < hi) (h2 : hi ≤ xs.size) : Gr g (xs.extract lo hi) k = Gr g xs (lo + k) := Gr_of (get_ext h1 h2)
theorem size_ext {xs : Array Keyed} {lo hi : Nat} (h1 : lo ≤ hi) (h2 : hi ≤ xs.size) : (xs.extract lo hi).size = hi - lo := by
  rw [Array.size_extract]; omega
theorem up_of {xs : Array Keyed} {lo hi : Nat} (h1 : lo ≤ hi) (h2 : hi ≤ xs.size) (u : Srt g xs lo hi) : Up' g (xs.extract lo hi).toList := by
  unfold Up'
  rw [List.pairwise_iff_getElem]
  intro i j hi' hj' hij
  rw [Array.length_toList, size_ext h1 h2] at hi' hj'
  have a1 := Gr_ext (g := g) (xs := xs) (lo := lo) (hi := hi) (k := i) (by omega) h2
  have a2 := Gr_ext (g := g) (xs := xs) (lo := lo) (hi := hi) (k := j) (by omega) h2
  have b1 := (get_of (g := g) (a := xs.extract lo hi) (i := i) (by rw [size_ext h1 h2]; exact hi')).2.2
  have b2 := (get_of (g := g) (a := xs.extract lo hi) (i := j) (by rw [size_ext h1 h2]; exact hj')).2.2
  have := u (lo + i) (lo + j) (by omega) (by omega) (by omega)
  simp only [Array.getElem_toList]
  omega
theorem put_back {xs ys z : Array Keyed} {sa D sb n' hi : Nat} (hy : ys.toList = xs.toList.take D ++ z.toList ++ xs.toList.drop (D + z.toList.length)) (d1 : sa ≤ D) (d2 : D ≤ sb) (d3 : sb + n' ≤ hi) (hz : hi ≤ xs.size)
    (m : Mq g (xs.extract D sb).toList (xs.extract sb (sb + n')).toList z.toList) (u1 : Srt g xs sa sb) (u2 : Srt g xs sb hi) (l1 : ∀ p, sa ≤ p → p < D → Gr g xs p ≤ Gr g xs sb) (l2 : ∀ p q, D ≤ p → p < sb → sb + n' ≤ q → q < hi → Gr g xs p ≤ Gr g xs q) (hn : sb < hi) :
    ys.Perm xs ∧ Srt g ys sa hi ∧ Same' sa hi xs ys := by
  have zl : z.toList.length = sb + n' - D := by
    rw [m.perm.length_eq, List.length_append, Array.length_toList, Array.length_toList, size_ext d2 (by omega), size_ext (by omega) (by omega)]
    omega
  have lx : xs.toList.length = xs.size := Array.length_toList
  have ys1 : ∀ i, i < D → ys[i]? = xs[i]? := fun i hi' => by
    rw [← Array.getElem?_toList, hy, List.append_assoc, List.getElem?_append_left (by rw [List.length_take, Array.length_toList]; omega), List.getElem?_take_of_lt hi', Array.getElem?_toList]
  have ys2 : ∀ i, D ≤ i → i < sb + n' → ys[i]? = z[i - D]? := fun i h1 h2 => by
    rw [← Array.getElem?_toList, hy, List.append_assoc, List.getElem?_append_right (by rw [List.length_take, lx]; omega), List.length_take, lx, show i - min D xs.size = i - D by omega, List.getElem?_append_left (by omega), Array.getElem?_toList]
  have ys3 : ∀ i, sb + n' ≤ i → ys[i]? = xs[i]? := fun i h1 => by
    rw [← Array.getElem?_toList, hy, List.getElem?_append_right (by rw [List.length_append, List.length_take, lx]; omega), List.length_append, List.length_take, lx, List.getElem?_drop, zl, show D + (sb + n' - D) + (i - (min D xs.size + (sb + n' - D))) = i by omega, Array.getElem?_toList]
  have mid : ∀ p, D ≤ p → p < sb + n' → ∃ q, D ≤ q ∧ q < sb + n' ∧ Gr g ys p = Gr g xs q := fun p p1 p2 => by
    have hp : p - D < z.size := by rw [← Array.length_toList, zl]; omega
    have e1 : Gr g ys p = g z[p - D] := by rw [Gr_of (ys2 p p1 p2)]; exact (get_of (g := g) hp).2.2
    have hm : z[p - D] ∈ z.toList := Array.mem_toList_iff.mpr (Array.getElem_mem hp)
    rcases List.mem_append.mp (m.perm.mem_iff.mp hm) with q | q
    · obtain ⟨_, r, r1, r2, r3, r4⟩ := mem_ext (g := g) q
      exact ⟨r, r1, by omega, by rw [e1, r4]⟩
    · obtain ⟨_, r, r1, r2, r3, r4⟩ := mem_ext (g := g) q
      exact ⟨r, by omega, r2, by rw [e1, r4]⟩
  refine ⟨?_, fun i j k1 k2 k3 => ?_, fun i h => ?_⟩
  · rw [Array.perm_iff_toList_perm, hy]
    have e : xs.toList = xs.toList.take D ++ ((xs.extract D sb).toList ++ (xs.extract sb (sb + n')).toList) ++ xs.toList.drop (D + z.toList.length) := by
      rw [zl, Array.toList_extract, Array.toList_extract, List.extract_eq_drop_take, List.extract_eq_drop_take]
      have e2 : (xs.toList.drop D).take (sb - D) ++ (xs.toList.drop sb).take (sb + n' - sb) = (xs.toList.drop D).take (sb + n' - D) := by
        rw [show sb + n' - D = (sb - D) + (sb + n' - sb) by omega, List.take_add, List.drop_drop, show D + (sb - D) = sb by omega]
      rw [e2, List.append_assoc]
      have e3 : (xs.toList.drop D).take (sb + n' - D) ++ xs.toList.drop (D + (sb + n' - D)) = xs.toList.drop D := by
        rw [← List.drop_drop]
        exact List.take_append_drop _ _
      rw [e3]
      exact (List.take_append_drop _ _).symm
    conv => rhs; rw [e]
    exact (List.Perm.append_left _ m.perm).append_right _
  · by_cases c1 : i < D
    · rw [Gr_of (ys1 i c1)]
      by_cases c2 : j < D
      · rw [Gr_of (ys1 j c2)]
        exact u1 i j k1 k2 (by omega)
      · by_cases c3 : j < sb + n'
        · obtain ⟨q, q1, q2, q3⟩ := mid j (by omega) c3
          rw [q3]
          by_cases c4 : q < sb
          · exact u1 i q k1 (by omega) c4
          · exact Int.le_trans (l1 i k1 c1) (u2 sb q (Nat.le_refl _) (by omega) (by omega))
        · rw [Gr_of (ys3 j (by omega))]
          exact Int.le_trans (l1 i k1 c1) (u2 sb j (Nat.le_refl _) (by omega) k3)
    · by_cases c2 : i < sb + n'
      · by_cases c3 : j < sb + n'
        · by_cases c4 : i = j
          · rw [c4]; exact Int.le_refl _
          · have h1 : i - D < z.toList.length := by omega
            have h2 : j - D < z.toList.length := by omega
            have := List.pairwise_iff_getElem.mp m.up (i - D) (j - D) h1 h2 (by omega)
            rw [Gr_of (ys2 i (by omega) c2), Gr_of (ys2 j (by omega) c3), (get_of (g := g) (a := z) (i := i - D) (by simpa using h1)).2.2, (get_of (g := g) (a := z) (i := j - D) (by simpa using h2)).2.2]
            simpa using this
        · obtain ⟨q, q1, q2, q3⟩ := mid i (by omega) c2
          rw [q3, Gr_of (ys3 j (by omega))]
          by_cases c4 : q < sb
          · exact l2 q j q1 c4 (by omega) k3
          · exact u2 q j (by omega) (by omega) k3
      · rw [Gr_of (ys3 i (by omega)), Gr_of (ys3 j (by omega))]
        exact u2 i j (by omega) k2 k3
  · rcases h with h | h
    · exact ys1 i (by omega)
    · exact ys3 i (by omega)
theorem mAt_ok (O : Ora prog w A s κ a₀ g) {st : SortSt} (hB : Sb κ a₀ st) {i sa na pw sb nb pw2 : Nat} (e1 : (pendingOf st)[i]? = some (sa, na, pw)) (e2 : (pendingOf st)[i + 1]? = some (sb, nb, pw2)) (hs : sb = sa + na) (n1 : 0 < na) (n2 : 0 < nb) (hz : sb + nb ≤ a₀.size)
    (u1 : Srt g (arrOf st) sa sb) (u2 : Srt g (arrOf st) sb (sb + nb)) {Q : Bool → SortSt → Prop}
    (h : ∀ st', Sb κ a₀ st' → pendingOf st' = ((pendingOf st).setIfInBounds i (sa, na + nb, pw)).eraseIdxIfInBounds (i + 1) → Srt g (arrOf st') sa (sb + nb) → Same' sa (sb + nb) (arrOf st) (arrOf st') → Q true st') : wpS (model prog w) A E s (mergeAt' i) Q st := by
  rw [mAt_eq]
  refine wpS_bind (wpS_get ?_)
  rw [e1, e2]
  dsimp only
  have sz := hB.size
  have hmem : ∀ x ∈ arrOf st, x ∈ a₀ := fun x hx => hB.perm.mem_iff.mp hx
  have hB1 : Sb κ a₀ (setPending st (((pendingOf st).setIfInBounds i (sa, na + nb, pw)).eraseIdxIfInBounds (i + 1))) := ⟨hB.kind, hB.perm, hB.failed⟩
  refine wpS_bind (wpS_set' ?_)
  have hsb : sb < (arrOf st).size := by omega
  obtain ⟨eb, _, gb⟩ := get_of (g := g) hsb
  refine wpS_bind (el_ok eb ?_)
  refine wpS_bind (gallop_ok (bs := sa) (n := na) (a := 0) O (hmem _ (Array.getElem_mem hsb)) hmem (by omega) n1 (by rw [← hs]; exact u1) hB1.kind fun k k1 k2 k3 => ?_)
  dsimp only
  have l1 : ∀ p, sa ≤ p → p < sa + k → Gr g (arrOf st) p ≤ Gr g (arrOf st) sb := fun p p1 p2 => by
    have := k2 p p1 p2
    simp only [Ah, Bool.false_eq_true, if_false] at this
    omega
  have l1' : ∀ p, sa + k ≤ p → p < sb → Gr g (arrOf st) sb < Gr g (arrOf st) p := fun p p1 p2 => by
    have := k3 p p1 (by omega)
    simp only [Ah, Bool.false_eq_true, if_false] at this
    omega
  by_cases c1 : na - k = 0
  · rw [if_pos (by rw [beq_iff_eq]; exact c1)]
    refine wpS_pure (h _ hB1 rfl (fun p q p1 p2 p3 => ?_) .refl)
    show Gr g (arrOf st) p ≤ Gr g (arrOf st) q
    by_cases c2 : q < sb
    · exact u1 p q p1 p2 c2
    · by_cases c3 : p < sb
      · exact Int.le_trans (l1 p p1 (by omega)) (u2 sb q (Nat.le_refl _) (by omega) p3)
      · exact u2 p q (by omega) p2 p3
  rw [if_neg (by rw [beq_iff_eq]; exact c1)]
  have hal : sa + k + (na - k) - 1 < (arrOf st).size := by omega
  obtain ⟨ea, _, ga⟩ := get_of (g := g) hal
  refine wpS_bind (el_ok ea ?_)
  refine wpS_bind (gallop_ok (bs := sb) (n := nb) (a := nb - 1) O (hmem _ (Array.getElem_mem hal)) hmem (by omega) (by omega) u2 hB1.kind fun n' r1 r2 r3 => ?_)
  dsimp only
  have al : sa + k + (na - k) - 1 = sb - 1 := by omega
  have ga' : Gr g (arrOf st) (sb - 1) = g (arrOf st)[sa + k + (na - k) - 1] := by rw [← ga, al]
  have m1 : ∀ p, sb ≤ p → p < sb + n' → Gr g (arrOf st) p < Gr g (arrOf st) (sb - 1) := fun p p1 p2 => by
    have := r2 p p1 p2
    simp only [Ah, if_true] at this
    omega
  have m2 : ∀ p, sb + n' ≤ p → p < sb + nb → Gr g (arrOf st) (sb - 1) ≤ Gr g (arrOf st) p := fun p p1 p2 => by
    have := r3 p p1 p2
    simp only [Ah, if_true] at this
    omega
  by_cases c2 : n' = 0
  · rw [if_pos (by rw [beq_iff_eq]; exact c2)]
    refine wpS_pure (h _ hB1 rfl (fun p q p1 p2 p3 => ?_) .refl)
    show Gr g (arrOf st) p ≤ Gr g (arrOf st) q
    by_cases c3 : q < sb
    · exact u1 p q p1 p2 c3
    · by_cases c4 : p < sb
      · exact Int.le_trans (u1 p (sb - 1) p1 (by omega) (by omega)) (m2 q (by omega) p3)
      · exact u2 p q (by omega) p2 p3
  rw [if_neg (by rw [beq_iff_eq]; exact c2)]
  have x1 : ∀ e ∈ (arrOf st).extract (sa + k) sb, e ∈ a₀ := fun e he => hmem e (mem_ext (g := g) (Array.mem_toList_iff.mpr he)).1
  have y1 : ∀ e ∈ (arrOf st).extract sb (sb + n'), e ∈ a₀ := fun e he => hmem e (mem_ext (g := g) (Array.mem_toList_iff.mpr he)).1
  have sx : ((arrOf st).extract (sa + k) sb).size = na - k := by rw [size_ext (by omega) (by omega)]; omega
  have sy : ((arrOf st).extract sb (sb + n')).size = n' := by rw [size_ext (by omega) (by omega)]; omega
  have x2 := up_of (g := g) (xs := arrOf st) (lo := sa + k) (hi := sb) (by omega) (by omega) fun p q p1 p2 p3 => u1 p q (by omega) p2 p3
  have y2 := up_of (g := g) (xs := arrOf st) (lo := sb) (hi := sb + n') (by omega) (by omega) fun p q p1 p2 p3 => u2 p q p1 p2 (by omega)
  have f1 : ∀ e ∈ ((arrOf st).extract (sa + k) sb).toList, Gr g ((arrOf st).extract sb (sb + n')) 0 ≤ g e := fun e he => by
    obtain ⟨_, p, p1, p2, p3, p4⟩ := mem_ext (g := g) he
    rw [Gr_ext (by omega) (by omega), Nat.add_zero, p4]
    have := l1' p p1 p2
    omega
  have f3 : ∀ e ∈ ((arrOf st).extract sb (sb + n')).toList, g e ≤ Gr g ((arrOf st).extract (sa + k) sb) (((arrOf st).extract (sa + k) sb).size - 1) := fun e he => by
    obtain ⟨_, p, p1, p2, p3, p4⟩ := mem_ext (g := g) he
    rw [sx, Gr_ext (by omega) (by omega), show sa + k + (na - k - 1) = sb - 1 by omega, p4]
    have := m1 p p1 p2
    omega
  have f2 : ∀ e ∈ ((arrOf st).extract sb (sb + n')).toList, ∀ f ∈ ((arrOf st).extract (sa + k) sb).toList.drop (((arrOf st).extract (sa + k) sb).size - 1), g e ≤ g f := fun e he f hf => by
    obtain ⟨p, p1, p2, p3⟩ := in_drop (g := g) hf
    have := f3 e he
    rw [p3, show p = ((arrOf st).extract (sa + k) sb).size - 1 by omega]
    exact this
  have go : ∀ (z : Array Keyed) (st2 : SortSt), Eqv (setPending st (((pendingOf st).setIfInBounds i (sa, na + nb, pw)).eraseIdxIfInBounds (i + 1))) st2 → Mq g ((arrOf st).extract (sa + k) sb).toList ((arrOf st).extract sb (sb + n')).toList z.toList →
      Q true (setArr st2 (z.toList.zipIdx.foldl (fun a x => a.setIfInBounds (sa + k + x.2) x.1) (arrOf st2))) ∧ (failedOf st2).isNone = true := fun z st2 ev mq => by
    have ea2 : arrOf st2 = arrOf st := ev.arr
    have ef : failedOf st2 = none := ev.failed.trans hB.failed
    refine ⟨?_, by rw [ef]; rfl⟩
    have zl : z.toList.length = sb + n' - (sa + k) := by
      rw [mq.perm.length_eq, List.length_append, Array.length_toList, Array.length_toList, sx, sy]
      omega
    have hy := wr_list (sa + k) z.toList 0 (arrOf st) (by omega)
    rw [Nat.add_zero] at hy
    obtain ⟨p1, p2, p3⟩ := put_back (g := g) (xs := arrOf st) (ys := wr (sa + k) (z.toList.zipIdx 0) (arrOf st)) (z := z) (sa := sa) (D := sa + k) (sb := sb) (n' := n') (hi := sb + nb) hy (by omega) (by omega) (by omega) (by omega) mq u1 u2 l1
      (fun p q q1 q2 q3 q4 => Int.le_trans (u1 p (sb - 1) (by omega) (by omega) (by omega)) (m2 q q3 q4)) (by omega)
    rw [wr_fold, ea2]
    exact h _ ⟨ev.kind.trans hB.kind, p1.trans hB.perm, ef⟩ ev.pend p2 p3
  by_cases c3 : na - k ≤ n'
  · rw [if_pos c3]
    refine wpS_bind (mLo_ok O x1 y1 x2 y2 (by omega) (by omega) f1 f2 hB1.kind fun z st2 ev mq => ?_)
    obtain ⟨q1, q2⟩ := go z st2 ev mq
    refine wpS_bind (wpS_modify (wpS_bind (wpS_get (wpS_pure ?_))))
    show Q (failedOf st2).isNone _
    rw [q2]
    exact q1
  · rw [if_neg c3]
    refine wpS_bind (mHi_ok O x1 y1 x2 y2 (by omega) (by omega) f1 f3 hB1.kind fun z st2 ev mq => ?_)
    obtain ⟨q1, q2⟩ := go z st2 ev mq
    refine wpS_bind (wpS_modify (wpS_bind (wpS_get (wpS_pure ?_))))
    show Q (failedOf st2).isNone _
    rw [q2]
    exact q1
end
end Q
set_option Elab.async false
set_option linter.all false
set_option maxRecDepth 100000
namespace Q
open PySem PySem.W PyProof.Rows
section
variable {prog : Program} {w : World} {A : Around} {E : Value → Shared → Prop} {s : Shared} {κ : SortKind} {a₀ : Array Keyed} {g : Keyed → Int}
def Cv (g : Keyed → Int) (xs : Array Keyed) : Nat → List (Nat × Nat × Nat) → Nat → Prop
  | lo, [], hi => lo = hi
  | lo, (st, n, _) :: r, hi => st = lo ∧ 0 < n ∧ Srt g xs lo (lo + n) ∧ Cv g xs (lo + n) r hi
theorem Cv.le {xs : Array Keyed} : ∀ {l : List (Nat × Nat × Nat)} {lo hi : Nat}, Cv g xs lo l hi → lo + l.length ≤ hi
  | [], lo, hi, h => by have h : lo = hi := h; simp [h]
  | (st, n, p) :: r, lo, hi, h => by
    obtain ⟨_, h1, _, h2⟩ := h
    have := Cv.le h2
    rw [List.length_cons]
    omega
theorem Cv.app {xs : Array Keyed} {r : List (Nat × Nat × Nat)} : ∀ {l : List (Nat × Nat × Nat)} {lo hi : Nat}, Cv g xs lo (l ++ r) hi ↔ ∃ m, Cv g xs lo l m ∧ Cv g xs m r hi
  | [], lo, hi => ⟨fun h => ⟨lo, rfl, h⟩, fun ⟨m, e, h⟩ => by have e : lo = m := e; subst e; exact h⟩
  | (st, n, p) :: l, lo, hi => by
    constructor
    · rintro ⟨h1, h2, h3, h4⟩
      obtain ⟨m, a, b⟩ := Cv.app.mp h4
      exact ⟨m, ⟨h1, h2, h3, a⟩, b⟩
    · rintro ⟨m, ⟨h1, h2, h3, a⟩, b⟩
      exact ⟨h1, h2, h3, Cv.app.mpr ⟨m, a, b⟩⟩
theorem Srt.same {xs ys : Array Keyed} {a b lo hi : Nat} (sm : Same' a b xs ys) (d : hi ≤ a ∨ b ≤ lo) (u : Srt g xs lo hi) : Srt g ys lo hi := fun i j h1 h2 h3 => by
  rw [Gr_of (sm i (by omega)), Gr_of (sm j (by omega))]
  exact u i j h1 h2 h3
theorem Cv.same {xs ys : Array Keyed} {a b : Nat} (sm : Same' a b xs ys) : ∀ {l : List (Nat × Nat × Nat)} {lo hi : Nat}, (hi ≤ a ∨ b ≤ lo) → Cv g xs lo l hi → Cv g ys lo l hi
  | [], _, _, _, h => h
  | (st, n, p) :: r, lo, hi, d, h => by
    obtain ⟨h1, h2, h3, h4⟩ := h
    have := Cv.le h4
    exact ⟨h1, h2, h3.same sm (by omega), Cv.same sm (by omega) h4⟩
theorem Cv.pow {xs : Array Keyed} {f : Nat × Nat × Nat → Nat × Nat × Nat} (hf : ∀ x, (f x).1 = x.1 ∧ (f x).2.1 = x.2.1) : ∀ {l : List (Nat × Nat × Nat)} (k : Nat) {lo hi : Nat}, Cv g xs lo l hi → Cv g xs lo (l.modify k f) hi
  | [], k, lo, hi, h => by simpa using h
  | (st, n, p) :: r, 0, lo, hi, h => by
    obtain ⟨h1, h2, h3, h4⟩ := h
    rw [List.modify_zero_cons]
    obtain ⟨a, b⟩ := hf (st, n, p)
    rcases e : f (st, n, p) with ⟨st', n', p'⟩
    rw [e] at a b
    have a : st' = st := a
    have b : n' = n := b
    subst a b
    exact ⟨h1, h2, h3, h4⟩
  | (st, n, p) :: r, k + 1, lo, hi, h => by
    obtain ⟨h1, h2, h3, h4⟩ := h
    rw [List.modify_succ_cons]
    exact ⟨h1, h2, h3, Cv.pow hf k h4⟩
theorem mAt_run (O : Ora prog w A s κ a₀ g) {st : SortSt} (hB : Sb κ a₀ st) {i hi : Nat} (hc : Cv g (arrOf st) 0 (pendingOf st).toList hi) (hz : hi ≤ a₀.size) (hl : i + 1 < (pendingOf st).size) {Q : Bool → SortSt → Prop}
    (h : ∀ st', Sb κ a₀ st' → Cv g (arrOf st') 0 (pendingOf st').toList hi → (pendingOf st').size + 1 = (pendingOf st).size → (∀ j, hi ≤ j → (arrOf st')[j]? = (arrOf st)[j]?) → Q true st') : wpS (model prog w) A E s (mergeAt' i) Q st := by
  have hl1 : i < (pendingOf st).toList.length := by rw [Array.length_toList]; omega
  have hl2 : i + 1 < (pendingOf st).toList.length := by rw [Array.length_toList]; omega
  rcases ea : (pendingOf st).toList[i] with ⟨sa, na, pw⟩
  rcases eb : (pendingOf st).toList[i + 1] with ⟨sb, nb, pw2⟩
  have e : (pendingOf st).toList = (pendingOf st).toList.take i ++ ((sa, na, pw) :: (sb, nb, pw2) :: (pendingOf st).toList.drop (i + 1 + 1)) := by
    rw [← ea, ← eb, ← List.drop_eq_getElem_cons hl2, ← List.drop_eq_getElem_cons hl1, List.take_append_drop]
  have hc' := hc
  rw [e] at hc'
  obtain ⟨m, c1, c2⟩ := Cv.app.mp hc'
  obtain ⟨d1, d2, d3, f1, f2, f3, f4⟩ := c2
  subst d1
  have le := Cv.le f4
  have le1 := Cv.le c1
  have e1 : (pendingOf st)[i]? = some (sa, na, pw) := by rw [← Array.getElem?_toList, List.getElem?_eq_getElem hl1, ea]
  have e2 : (pendingOf st)[i + 1]? = some (sb, nb, pw2) := by rw [← Array.getElem?_toList, List.getElem?_eq_getElem hl2, eb]
  refine mAt_ok O hB e1 e2 f1 d2 f2 (by omega) (by rw [f1]; exact d3) (by rw [f1]; exact f3) fun st' b p u sm => ?_
  have lt : (pendingOf st').toList = (pendingOf st).toList.take i ++ ((sa, na + nb, pw) :: (pendingOf st).toList.drop (i + 1 + 1)) := by
    rw [p, Array.toList_eraseIdxIfInBounds, Array.toList_setIfInBounds]
    conv => lhs; rw [e]
    have ll : ((pendingOf st).toList.take i).length = i := by rw [List.length_take]; omega
    rw [List.set_append_right _ _ (by omega), ll, Nat.sub_self, List.set_cons_zero, List.eraseIdx_append_of_length_le (by omega), ll, show i + 1 - i = 1 by omega]
    rfl
  refine h st' b ?_ ?_ fun j hj => sm j (.inr (by omega))
  · rw [lt]
    refine Cv.app.mpr ⟨sa, c1.same sm (.inl (Nat.le_refl _)), rfl, by omega, ?_, ?_⟩
    · rw [show sa + (na + nb) = sb + nb by omega]; exact u
    · rw [show sa + (na + nb) = sa + na + nb by omega]
      exact f4.same sm (.inr (by omega))
  · rw [← Array.length_toList, lt, ← Array.length_toList, List.length_append, List.length_cons, List.length_take, List.length_drop]
    omega
theorem pick_lt {c : Prop} [Decidable c] {n : Nat} (h : 1 < n) : (if c then n - 2 - 1 else n - 2) + 1 < n := by split <;> omega
theorem sort_ok (O : Ora prog w A s κ a₀ g) {st : SortSt} (hB : Sb κ a₀ st) (hp : pendingOf st = #[]) (h2 : 1 ≤ a₀.size) {Q : Unit → SortSt → Prop}
    (h : ∀ st', Sb κ a₀ st' → Srt g (arrOf st') 0 a₀.size → Q () st') : wpS (model prog w) A E s sortRuns' Q st := by
  rw [sortRuns'_eq]
  refine wpS_bind (wpS_get ?_)
  dsimp only
  rw [hB.size]
  generalize minRun' a₀.size a₀.size 0 = mr
  refine wpS_bind (wpS_mono (wpS_forRange (I := fun x c st' => ∃ lo, c = (none, lo) ∧ Sb κ a₀ st' ∧ lo ≤ a₀.size ∧ min x a₀.size ≤ lo ∧ Cv g (arrOf st') 0 (pendingOf st').toList lo)
    (Q := fun c st' => c = (none, a₀.size) ∧ Sb κ a₀ st' ∧ Cv g (arrOf st') 0 (pendingOf st').toList a₀.size) ?step ?fin ⟨0, rfl, hB, by omega, by omega, by rw [hp]; rfl⟩) ?post)
  case fin =>
    rintro c st' ⟨lo, rfl, b, l1, l2, cv⟩
    have : lo = a₀.size := by omega
    subst this
    exact ⟨rfl, b, cv⟩
  case step =>
    rintro x c st' _ x2 ⟨lo, rfl, b, l1, l2, cv⟩
    dsimp only
    by_cases c1 : lo ≥ a₀.size
    · rw [if_pos c1]
      have : lo = a₀.size := by omega
      subst this
      exact wpS_pure ⟨rfl, b, cv⟩
    rw [if_neg c1]
    refine wpS_bind (count_ok O b (by omega) (by omega) fun m st2 b2 p2 m1 m2 u2 sm2 => ?_)
    dsimp only
    have cv2 : Cv g (arrOf st2) 0 (pendingOf st2).toList lo := by rw [p2]; exact cv.same sm2 (.inl (Nat.le_refl _))
    by_cases c2 : m < mr
    · rw [if_pos c2]
      refine wpS_bind (wpS_lift (wpAny_rule ⟨rfl, ?_⟩))
      refine wpS_bind (ins_ok O b2 (by omega) (by omega) u2 fun st3 b3 p3 u3 sm3 => ?_)
      rw [if_neg (by simp)]
      have cv3 : Cv g (arrOf st3) 0 (pendingOf st3).toList lo := by rw [p3]; exact cv2.same sm3 (.inl (Nat.le_refl _))
      refine wpS_bind (wpS_get ?_)
      cases hbk : (pendingOf st3).back? with
      | none =>
        dsimp only
        refine wpS_bind (wpS_modify (wpS_pure ⟨_, rfl, ⟨(b3).kind, (b3).perm, (b3).failed⟩, by omega, by omega, ?_⟩))
        show Cv g (arrOf st3) 0 ((pendingOf st3).push (lo, min (a₀.size - lo) mr, 0)).toList (lo + min (a₀.size - lo) mr)
        rw [Array.toList_push]
        exact Cv.app.mpr ⟨lo, cv3, rfl, by omega, u3, rfl⟩
      | some q =>
        obtain ⟨s1, n1, p1⟩ := q
        dsimp only
        refine wpS_bind (wpS_mono (wpS_forRange (I := fun _ c t => c = (none, ()) ∧ Sb κ a₀ t ∧ Cv g (arrOf t) 0 (pendingOf t).toList lo ∧ Srt g (arrOf t) lo (lo + min (a₀.size - lo) mr)) (Q := fun c t => c = (none, ()) ∧ Sb κ a₀ t ∧ Cv g (arrOf t) 0 (pendingOf t).toList lo ∧ Srt g (arrOf t) lo (lo + min (a₀.size - lo) mr)) ?_ (fun c t z => z) ⟨rfl, b3, cv3, u3⟩) ?_)
        · rintro y c t _ _ ⟨rfl, tb, tc, tu⟩
          refine wpS_bind (wpS_get ?_)
          by_cases k1 : (pendingOf t).size > 1
          · rw [if_pos k1]
            rcases hq : (pendingOf t)[(pendingOf t).size - 2]? with _ | ⟨o1, o2, o3⟩
            · dsimp only
              exact wpS_pure ⟨rfl, tb, tc, tu⟩
            · dsimp only
              by_cases k2 : o3 ≤ power' a₀.size (2 * s1 + n1) (2 * s1 + n1 + n1 + min (a₀.size - lo) mr) a₀.size
              · rw [if_pos k2]
                exact wpS_pure ⟨rfl, tb, tc, tu⟩
              · rw [if_neg k2]
                refine wpS_bind (mAt_run O tb tc l1 (by omega) fun t2 b3 c3 _ sm3 => ?_)
                rw [if_neg (by simp)]
                refine wpS_pure ⟨rfl, b3, c3, fun p q h1 h2 h3 => ?_⟩
                rw [Gr_of (sm3 p h1), Gr_of (sm3 q (by omega))]
                exact tu p q h1 h2 h3
          · rw [if_neg k1]
            dsimp only
            exact wpS_pure ⟨rfl, tb, tc, tu⟩
        · rintro c t ⟨rfl, tb, tc, tu⟩
          dsimp only
          refine wpS_bind (wpS_modify (wpS_bind (wpS_modify (wpS_pure ⟨_, rfl, ⟨tb.kind, tb.perm, tb.failed⟩, by omega, by omega, ?_⟩))))
          show Cv g (arrOf t) 0 (((pendingOf t).modify ((pendingOf t).size - 1) fun x => (x.1, x.2.1, power' a₀.size (2 * s1 + n1) (2 * s1 + n1 + n1 + min (a₀.size - lo) mr) a₀.size)).push (lo, min (a₀.size - lo) mr, 0)).toList (lo + min (a₀.size - lo) mr)
          rw [Array.toList_push, Array.toList_modify]
          exact Cv.app.mpr ⟨lo, Cv.pow (f := fun x => (x.1, x.2.1, power' a₀.size (2 * s1 + n1) (2 * s1 + n1 + n1 + min (a₀.size - lo) mr) a₀.size)) (fun x => ⟨rfl, rfl⟩) _ tc, rfl, by omega, tu, rfl⟩
    · rw [if_neg c2]
      refine wpS_bind (wpS_get ?_)
      cases hbk : (pendingOf st2).back? with
      | none =>
        dsimp only
        refine wpS_bind (wpS_modify (wpS_pure ⟨_, rfl, ⟨(b2).kind, (b2).perm, (b2).failed⟩, by omega, by omega, ?_⟩))
        show Cv g (arrOf st2) 0 ((pendingOf st2).push (lo, m, 0)).toList (lo + m)
        rw [Array.toList_push]
        exact Cv.app.mpr ⟨lo, cv2, rfl, by omega, u2, rfl⟩
      | some q =>
        obtain ⟨s1, n1, p1⟩ := q
        dsimp only
        refine wpS_bind (wpS_mono (wpS_forRange (I := fun _ c t => c = (none, ()) ∧ Sb κ a₀ t ∧ Cv g (arrOf t) 0 (pendingOf t).toList lo ∧ Srt g (arrOf t) lo (lo + m)) (Q := fun c t => c = (none, ()) ∧ Sb κ a₀ t ∧ Cv g (arrOf t) 0 (pendingOf t).toList lo ∧ Srt g (arrOf t) lo (lo + m)) ?_ (fun c t z => z) ⟨rfl, b2, cv2, u2⟩) ?_)
        · rintro y c t _ _ ⟨rfl, tb, tc, tu⟩
          refine wpS_bind (wpS_get ?_)
          by_cases k1 : (pendingOf t).size > 1
          · rw [if_pos k1]
            rcases hq : (pendingOf t)[(pendingOf t).size - 2]? with _ | ⟨o1, o2, o3⟩
            · dsimp only
              exact wpS_pure ⟨rfl, tb, tc, tu⟩
            · dsimp only
              by_cases k2 : o3 ≤ power' a₀.size (2 * s1 + n1) (2 * s1 + n1 + n1 + m) a₀.size
              · rw [if_pos k2]
                exact wpS_pure ⟨rfl, tb, tc, tu⟩
              · rw [if_neg k2]
                refine wpS_bind (mAt_run O tb tc l1 (by omega) fun t2 b3 c3 _ sm3 => ?_)
                rw [if_neg (by simp)]
                refine wpS_pure ⟨rfl, b3, c3, fun p q h1 h2 h3 => ?_⟩
                rw [Gr_of (sm3 p h1), Gr_of (sm3 q (by omega))]
                exact tu p q h1 h2 h3
          · rw [if_neg k1]
            dsimp only
            exact wpS_pure ⟨rfl, tb, tc, tu⟩
        · rintro c t ⟨rfl, tb, tc, tu⟩
          dsimp only
          refine wpS_bind (wpS_modify (wpS_bind (wpS_modify (wpS_pure ⟨_, rfl, ⟨tb.kind, tb.perm, tb.failed⟩, by omega, by omega, ?_⟩))))
          show Cv g (arrOf t) 0 (((pendingOf t).modify ((pendingOf t).size - 1) fun x => (x.1, x.2.1, power' a₀.size (2 * s1 + n1) (2 * s1 + n1 + n1 + m) a₀.size)).push (lo, m, 0)).toList (lo + m)
          rw [Array.toList_push, Array.toList_modify]
          exact Cv.app.mpr ⟨lo, Cv.pow (f := fun x => (x.1, x.2.1, power' a₀.size (2 * s1 + n1) (2 * s1 + n1 + n1 + m) a₀.size)) (fun x => ⟨rfl, rfl⟩) _ tc, rfl, by omega, tu, rfl⟩
  case post =>
    rintro c st' ⟨rfl, b, cv⟩
    dsimp only
    have le := Cv.le cv
    rw [Array.length_toList] at le
    refine wpS_bind (wpS_mono (wpS_forRange (I := fun x c t => c = (none, ()) ∧ Sb κ a₀ t ∧ Cv g (arrOf t) 0 (pendingOf t).toList a₀.size ∧ ((pendingOf t).size ≤ 1 ∨ (pendingOf t).size + x ≤ a₀.size))
      (Q := fun c t => c = (none, ()) ∧ Sb κ a₀ t ∧ Cv g (arrOf t) 0 (pendingOf t).toList a₀.size ∧ (pendingOf t).size ≤ 1) ?_ ?_ ⟨rfl, b, cv, .inr (by omega)⟩) ?_)
    · rintro x c t _ _ ⟨rfl, tb, tc, tn⟩
      refine wpS_bind (wpS_get ?_)
      by_cases k1 : (pendingOf t).size ≤ 1
      · rw [if_pos k1]
        exact wpS_pure ⟨rfl, tb, tc, k1⟩
      · rw [if_neg k1]
        refine wpS_bind (mAt_run O tb tc (Nat.le_refl _) (pick_lt (by omega)) fun t2 b3 c3 n3 _ => ?_)
        rw [if_neg (by simp)]
        exact wpS_pure ⟨rfl, b3, c3, by omega⟩
    · rintro c t ⟨rfl, tb, tc, tn⟩
      exact ⟨rfl, tb, tc, by omega⟩
    · rintro c t ⟨rfl, tb, tc, tn⟩
      dsimp only
      refine wpS_pure (h t tb ?_)
      rw [← Array.length_toList] at tn
      rcases hl : (pendingOf t).toList with _ | ⟨⟨s1, n1, p1⟩, r⟩
      · rw [hl] at tc
        have tc : 0 = a₀.size := tc
        omega
      · rw [hl] at tc tn
        rw [List.length_cons] at tn
        have hr : r = [] := List.eq_nil_of_length_eq_zero (by omega)
        subst hr
        obtain ⟨_, _, u, e⟩ := tc
        have e : 0 + n1 = a₀.size := e
        rw [← e]
        exact u
end
end Q
set_option Elab.async false
set_option linter.all false
set_option maxRecDepth 100000
namespace Q
open PySem PySem.Spec PySem.W PyProof.Rows L2
section
variable {prog : Program} {w : World} {A : Around} {E : Value → Shared → Prop} {s : Shared} {D : Addr}
theorem lsort_any {vs : List Value} {n : Nat} {κ : SortKind} {g : Keyed → Int} (ho : s.heap.get? D = some (seqObj "list" vs.toArray n)) (h2 : 2 ≤ vs.length) (hz : vs.length ≤ sizeLine)
    (hk : ∀ H2 : Heap, (∀ b o, b ≠ D → s.heap.get? b = some o → H2.get? b = some o) → wpAny (model prog w) A.in1 (keyKind' vs.toArray) (fun k s' => s' = { s with heap := H2 } ∧ k = κ) E { s with heap := H2 })
    (hO : ∀ H2 : Heap, (∀ b o, b ≠ D → s.heap.get? b = some o → H2.get? b = some o) → Ora prog w A.in1 { s with heap := H2 } κ (vs.toArray.zip vs.toArray) g) {Q : Value → Shared → Prop}
    (h : ∀ (h' : Heap) (c : Nat) (xs : Array Keyed), xs.Perm (vs.toArray.zip vs.toArray) → Srt g xs 0 vs.length → (∀ b o, b ≠ D → s.heap.get? b = some o → h'.get? b = some o) → h'.get? D = some (listOf (xs.map (·.2)) c) → Q .none { s with heap := h' }) :
    wpAny (model prog w) A (call (.builtin "list.sort") [.ref D]) Q E s := by
  have hq : vs.toArray.size ≤ sizeLine := by rw [List.size_toArray]; exact hz
  have hD : D < s.heap.objs.size := Heap.lt_size ho
  have zs : (vs.toArray.zip vs.toArray).size = vs.length := by rw [Array.size_zip, List.size_toArray]; omega
  obtain ⟨e1, ho1⟩ : ∃ e1, (s.heap.update D (Obj.mapSeq fun _ => (#[] : Array Value))).get? D = some (seqObj "list" #[] e1) := ⟨_, get?_update_seq ho fun _ => #[]⟩
  refine wpAny_call_entry slot_list_sort ⟨_, ho, rfl⟩ entry_list_sort ?_ (args_list_sort _)
  rw [list_sort_plain]
  refine wpAny_bind (listItems_at ho rfl (wpAny_bind (listUpdate_at ho rfl ?_ hq (Nat.zero_le _))))
  refine wpAny_bind (seqEpoch_at ho1 rfl (wpAny_bind (wpAny_newTuple (wpAny_bind (wpAny_newList (wpAny_holding ?_) (Nat.zero_le _))) hz)))
  generalize hH : ((s.heap.update D (Obj.mapSeq fun _ => (#[] : Array Value))).push (seqObj "tuple" vs.toArray 0)).push (seqObj "list" #[] 0) = H2
  have ho2 : H2.get? D = some (seqObj "list" #[] e1) := by
    rw [← hH]
    exact Heap.get?_push_of_some _ (Heap.get?_push_of_some _ ho1)
  have keep2 : ∀ b o, b ≠ D → s.heap.get? b = some o → H2.get? b = some o := fun b o hb e => by
    rw [← hH]
    exact Heap.get?_push_of_some _ (Heap.get?_push_of_some _ ((Heap.get?_update_ne _ _ _ _ hb).trans e))
  have hs2 : ¬ vs.toArray.size < 2 := by rw [List.size_toArray]; omega
  dsimp only
  rw [if_neg hs2, if_neg hs2]
  refine wpAny_bind (wpAny_mono (hk H2 keep2) (fun k s' hks => ?_) fun _ _ x => x)
  obtain ⟨rfl, rfl⟩ := hks
  have run : wpS (model prog w) A.in1 E { s with heap := H2 } sortRuns' (fun _ st' => Sb k (vs.toArray.zip vs.toArray) st' ∧ Srt g (arrOf st') 0 (vs.toArray.zip vs.toArray).size) (SortSt.mk' k (vs.toArray.zip vs.toArray) #[] 7 none) :=
    sort_ok (hO H2 keep2) ⟨rfl, Array.Perm.refl _, rfl⟩ rfl (by omega) fun st' b u => ⟨b, u⟩
  refine wpAny_bind (wpAny_mono run (fun r s' hr => ?_) fun _ _ x => x)
  obtain ⟨⟨⟩, st'⟩ := r
  obtain ⟨rfl, b, u⟩ := hr
  have b : Sb k (vs.toArray.zip vs.toArray) st' := b
  have u : Srt g (arrOf st') 0 (vs.toArray.zip vs.toArray).size := u
  dsimp only
  have hf : failedOf st' = none := b.failed
  have hsz : ((arrOf st').map fun x => x.2).size = vs.length := by rw [Array.size_map, b.size, zs]
  refine wpAny_bind (seqEpoch_at ho2 rfl (wpAny_bind (listUpdate_at ho2 rfl ?_ (Nat.zero_le _) (by omega))))
  rw [hf]
  simp only [bne_self_eq_false, Bool.false_eq_true, if_false]
  rw [zs] at u
  exact wpAny_pure ⟨_, rfl, h _ _ (arrOf st') b.perm u (fun b o hb e => (Heap.get?_update_ne _ _ _ _ hb).trans (keep2 b o hb e)) (get?_update_seq ho2 fun _ => (arrOf st').map (·.2))⟩
end
end Q
set_option Elab.async false
set_option linter.all false
set_option maxRecDepth 100000
namespace Q
open PySem PySem.Spec PySem.W PyProof.Rows L2
theorem perm_ix {α : Type} {us vs : List α} (d : α) (h : us.Perm vs) : ∃ p : List Nat, p.Perm (List.range vs.length) ∧ us = p.map fun i => vs.getD i d := by
  induction h with
  | nil => exact ⟨[], List.Perm.refl _, rfl⟩
  | @cons x l1 l2 _ ih =>
    obtain ⟨p, pp, e⟩ := ih
    refine ⟨0 :: p.map (· + 1), ?_, ?_⟩
    · rw [List.length_cons, List.range_succ_eq_map]
      exact (pp.map _).cons 0
    · rw [List.map_cons, List.map_map, e]
      rfl
  | @swap x y l =>
    refine ⟨1 :: 0 :: (List.range l.length).map (· + 2), ?_, ?_⟩
    · rw [List.length_cons, List.length_cons, List.range_succ_eq_map, List.range_succ_eq_map, List.map_cons, List.map_map]
      exact List.Perm.swap _ _ _
    · rw [List.map_cons, List.map_cons, List.map_map]
      have e : (List.range l.length).map ((fun i => (x :: y :: l).getD i d) ∘ fun x => x + 2) = l := by
        apply List.ext_getElem
        · simp
        · intro i h1 h2
          simp [List.getElem?_eq_getElem h2]
      rw [e]
      rfl
  | @trans l1 l2 l3 h1 h2 ih1 ih2 =>
    obtain ⟨p, pp, e⟩ := ih1
    obtain ⟨q, qq, e'⟩ := ih2
    refine ⟨p.map fun i => q.getD i 0, ?_, ?_⟩
    · have hl : l2.length = q.length := by rw [e', List.length_map]
      rw [hl] at pp
      exact (perm_range_map q 0 pp).trans qq
    · rw [e, List.map_map]
      apply List.map_congr_left
      intro i hi
      have hi' : i < l2.length := List.mem_range.mp (pp.mem_iff.mp hi)
      have hq : i < q.length := by rw [e', List.length_map] at hi'; exact hi'
      show l2.getD i d = l3.getD (q.getD i 0) d
      rw [e']
      simp [List.getD_eq_getElem?_getD, List.getElem?_map, List.getElem?_eq_getElem hq]
section
variable {h : Heap} {vs : List Value} {nss : List (List Int)}
theorem tups_uniq (t : TupsAre h vs nss) {i j : Nat} (hi : i < vs.length) (hj : j < vs.length) (e : vs.getD i Value.none = vs.getD j Value.none) : nss.getD i [] = nss.getD j [] := by
  obtain ⟨a, xs, ea, ⟨o, e1, _, n, d⟩, na⟩ := t.get hi
  obtain ⟨b, ys, eb, ⟨o', e1', _, n', d'⟩, nb⟩ := t.get hj
  rw [ea, eb] at e
  cases e
  rw [e1] at e1'
  cases e1'
  rw [d] at d'
  have : xs = ys := by simpa using (Data.seq.inj d').1
  subst this
  rw [← na.nums, ← nb.nums]
open Classical in
noncomputable def tiOf (vs : List Value) (nss : List (List Int)) (v : Value) : List Int := if hx : ∃ i, i < vs.length ∧ vs.getD i Value.none = v then nss.getD hx.choose [] else []
theorem tiOf_at (t : TupsAre h vs nss) {i : Nat} (hi : i < vs.length) : tiOf vs nss (vs.getD i Value.none) = nss.getD i [] := by
  have hx : ∃ j, j < vs.length ∧ vs.getD j Value.none = vs.getD i Value.none := ⟨i, hi, rfl⟩
  unfold tiOf
  rw [dif_pos hx]
  exact tups_uniq t hx.choose_spec.1 hi hx.choose_spec.2
end
theorem zip_mem {vs : List Value} {x : Keyed} (h : x ∈ vs.toArray.zip vs.toArray) : x.1 = x.2 ∧ ∃ i, i < vs.length ∧ vs.getD i Value.none = x.1 := by
  have h' : x ∈ vs.zip vs := by simpa using Array.mem_toList_iff.mpr h
  obtain ⟨e, hm⟩ := mem_zip_self h'
  obtain ⟨i, hi, ei⟩ := List.getElem_of_mem hm
  exact ⟨e, i, hi, by rw [← ei]; simp [List.getD_eq_getElem?_getD, List.getElem?_eq_getElem hi]⟩
theorem zip_outs {vs : List Value} {xs : Array Keyed} (p : xs.Perm (vs.toArray.zip vs.toArray)) : (xs.map (·.2)).toList.Perm vs := by
  have := (Array.perm_iff_toList_perm.mp p).map (fun x : Keyed => x.2)
  rw [Array.toList_zip] at this
  rw [Array.toList_map]
  refine this.trans ?_
  rw [List.map_snd_zip (Nat.le_refl _)]
section
variable {X : Cx} {pins : List (Addr × Obj)} {σ : L2.St} {H : Hp} {s : Shared} {B : Addr} {xs : List V}
theorem sortT_any {A : Around} {E : Value → Shared → Prop} {nss : List (List Int)} {Q : VK} (I : Inv X pins σ (upd H B (.lst xs)) s) (hH : H B = none) (t : TupV X.K H xs nss) (h2 : 2 ≤ xs.length)
    (q : ∀ p : List Nat, p.Perm (List.range xs.length) → (p.map fun i => nss.getD i []) = srtT nss → Q (.ref B) (upd H B (.lst (p.map fun i => xs.getD i V.non)))) :
    wpAny (model X.prog X.w) A (call (.builtin "list.sort") [.ref B]) (fun _ s' => EP X pins σ Q (.ref B) s') E s := by
  obtain ⟨z, its, n, r, e⟩ := I.hok B _ upd_same
  have t1 := tups_of I (t.laid hH) r
  have hl := L2.Vals.length r
  have ln := t1.length
  have hBt : Value.ref B ∉ its := fun hm => by
    obtain ⟨us, o, ho, hc, _⟩ := t1.addr hm
    rw [e] at ho
    cases ho
    exact absurd hc (by simp)
  have tk : ∀ H2 : Heap, (∀ b o, b ≠ B → s.heap.get? b = some o → H2.get? b = some o) → TupsAre H2 its nss := fun H2 k => t1.keeps fun a o hm ea => k a o (fun z => hBt (by rw [← z]; exact hm)) ea
  refine lsort_any (κ := tuples' (Value.type "int" != Value.type "tuple")) (g := fun x => rk nss (tiOf its nss x.1)) e (by omega) (by omega) (fun H2 k => ?_) (fun H2 k x y hx hy => ?_) fun h' c ys yp yu k hn => ?_
  · obtain ⟨fs, kt, lf, fi⟩ := (tk H2 k).tups
    refine kat_kind (T := Value.type "int") (s := { s with heap := H2 }) kt (by omega) (fun v hv => ?_) rfl ⟨rfl, rfl⟩
    obtain ⟨x, t', rfl⟩ := fi v hv
    exact Looks.of_pure rfl
  · obtain ⟨_, i, hi, ei⟩ := zip_mem hx
    obtain ⟨_, j, hj, ej⟩ := zip_mem hy
    have t2 := tk H2 k
    have mi : nss.getD i [] ∈ nss := getD_mem (by omega)
    have e1 : tiOf its nss x.1 = nss.getD i [] := by rw [← ei]; exact tiOf_at t2 hi
    have e2 : tiOf its nss y.1 = nss.getD j [] := by rw [← ej]; exact tiOf_at t2 hj
    have hd : decide ((fun x : Keyed => rk nss (tiOf its nss x.1)) x < (fun x : Keyed => rk nss (tiOf its nss x.1)) y) = lx (nss.getD i []) (nss.getD j []) := by
      simp only [e1, e2]
      exact rk_lt mi
    refine wpAny_mono (Q := fun b s' => s' = { s with heap := H2 } ∧ b = lx (nss.getD i []) (nss.getD j [])) ?_ (fun b s' z => ⟨z.1, z.2.trans hd.symm⟩) fun _ _ z => z
    obtain ⟨a, xa, ea, ⟨o1, ho1, _, n1, d1⟩, na⟩ := t2.get hi
    obtain ⟨b, xb, eb, ⟨o2, ho2, _, n2, d2⟩, nb⟩ := t2.get hj
    rw [← ei, ← ej, ea, eb]
    refine kat_lt (s := { s with heap := H2 }) ho1 d1 ho2 d2 ?_
    refine lex_katlex 0 na nb _ (fun _ _ _ _ => trivial) ?_ ⟨rfl, rfl⟩
    rw [decide_eq_true_iff]
    simp only [List.size_toArray]
    rw [na.length, nb.length]
  · obtain ⟨p, pp, ep⟩ := perm_ix Value.none (zip_outs yp)
    have hp : ∀ i ∈ p, i < its.length := fun i hi => List.mem_range.mp (pp.mem_iff.mp hi)
    have sz : ys.size = its.length := by rw [yp.size_eq, Array.size_zip, List.size_toArray]; omega
    have ps : (p.map fun i => nss.getD i []) = srtT nss := by
      refine srtT_eq (perm_range_map nss [] (by rw [← ln]; exact pp)) ?_
      rw [List.pairwise_map, List.pairwise_iff_getElem]
      intro i j hi hj hij
      have pl : p.length = its.length := by rw [pp.length_eq, List.length_range]
      have u := yu i j (Nat.zero_le _) (Nat.le_of_lt hij) (by omega)
      have at' : ∀ k (hk : k < p.length), Gr (fun x => rk nss (tiOf its nss x.1)) ys k = rk nss (nss.getD p[k] []) := fun k hk => by
        have hk' : k < ys.size := by omega
        have e1 : (ys.map (·.2)).toList[k]? = some ys[k].2 := by simp [hk']
        rw [ep, List.getElem?_map, List.getElem?_eq_getElem hk] at e1
        have e2 : its.getD p[k] Value.none = ys[k].2 := Option.some.inj e1
        have e3 := (zip_mem (yp.mem_iff.mp (Array.getElem_mem hk'))).1
        have e4 := (get_of (g := fun x => rk nss (tiOf its nss x.1)) hk').2.2
        rw [e4]
        show rk nss (tiOf its nss ys[k].1) = _
        rw [e3, ← e2, tiOf_at t1 (hp _ (List.getElem_mem hk))]
      rw [at' i hi, at' j hj] at u
      have mj : nss.getD p[j] [] ∈ nss := getD_mem (by rw [← ln]; exact hp _ (List.getElem_mem hj))
      show lx _ _ = false
      rw [← rk_lt mj]
      exact decide_eq_false (by omega)
    have hv := Vals.getD r p fun i hi => by rw [hl]; exact hp i hi
    refine ⟨.ref B, _, ?_, rfl, q p (by rw [hl]; exact pp) ps⟩
    have hn' : h'.get? B = some (listOf (p.map fun i => its.getD i Value.none).toArray c) := by
      rw [hn, ← ep, Array.toArray_toList]
    have I2 := I.write (x := B) (e := B) (o := .lst (p.map fun i => xs.getD i V.non)) (t' := s.toks) (h' := h') (by rw [upd_same]; trivial) (.inl rfl) (fun b u hb q => k b u hb q) ⟨_, hn'⟩ ⟨by rw [List.length_map, pp.length_eq, List.length_range, ← hl]; exact z, _, c, hv, hn'⟩
    rw [upd_upd] at I2
    exact I2
theorem sortI_any {A : Around} {E : Value → Shared → Prop} {ns : List Int} {Q : VK} (I : Inv X pins σ (upd H B (.lst (ns.map V.int))) s) (h2 : 2 ≤ ns.length) (q : Q (.ref B) (upd H B (.lst ((srtI ns).map V.int)))) :
    wpAny (model X.prog X.w) A (call (.builtin "list.sort") [.ref B]) (fun _ s' => EP X pins σ Q (.ref B) s') E s := by
  obtain ⟨z, its, n, r, e⟩ := I.hok B _ upd_same
  have hi := r.ints
  have hl := L2.Vals.length r
  rw [List.length_map] at hl z
  obtain ⟨v1, v2, vr, ev⟩ : ∃ v1 v2 vr, its = v1 :: v2 :: vr := by
    match its, hl with
    | [], hl => rw [List.length_nil] at hl; omega
    | [_], hl => rw [List.length_singleton] at hl; omega
    | v1 :: v2 :: vr, _ => exact ⟨v1, v2, vr, rfl⟩
  refine lsort_any (κ := oneType') (g := fun x => numOf x.1) e (by omega) (by omega) (fun H2 k => ?_) (fun H2 k x y hx hy => ?_) fun h' c ys yp yu k hn => ?_
  · subst ev
    rw [keyKind_ints hi]
    exact wpAny_pure ⟨rfl, rfl⟩
  · obtain ⟨_, i, hi', ei⟩ := zip_mem hx
    obtain ⟨_, j, hj', ej⟩ := zip_mem hy
    obtain ⟨a, t, ea⟩ := hi.all x.1 (by rw [← ei]; exact getD_mem hi')
    obtain ⟨b, u, eb⟩ := hi.all y.1 (by rw [← ej]; exact getD_mem hj')
    have hd : decide ((fun x : Keyed => numOf x.1) x < (fun x : Keyed => numOf x.1) y) = decide (a < b) := by
      simp only [ea, eb, numOf]
    refine wpAny_mono (Q := fun b' s' => s' = { s with heap := H2 } ∧ b' = decide (a < b)) ?_ (fun b s' z => ⟨z.1, z.2.trans hd.symm⟩) fun _ _ z => z
    rw [ea, eb, keyLt'_oneType]
    exact oneLt_int ⟨rfl, rfl⟩
  · have so : SortedTo ys (pairsOf its).size := fun i j h1 h3 => by
      rw [pairsOf_size] at h3
      have u := yu i j (Nat.zero_le _) h1 h3
      have at' : ∀ k, K ys k = Gr (fun x => numOf x.1) ys k := fun k => by unfold K Gr; rfl
      rw [at', at']
      exact u
    obtain ⟨ns', i1, i2, i3⟩ := sorted_out hi yp so
    have := srtI_eq i2 i3
    subst this
    refine ⟨.ref B, _, ?_, rfl, q⟩
    have hn' : h'.get? B = some (listOf (ys.map (·.2)).toList.toArray c) := by rw [hn, Array.toArray_toList]
    have I2 := I.write (x := B) (e := B) (o := .lst ((srtI ns).map V.int)) (t' := s.toks) (h' := h') (by rw [upd_same]; trivial) (.inl rfl) (fun b u hb q => k b u hb q) ⟨_, hn'⟩ ⟨by rw [List.length_map, i2.length_eq]; exact z, _, c, vals_of_ints i1, hn'⟩
    rw [upd_upd] at I2
    exact I2
end
section
variable {X : Cx}
def rSortA (K : Fg) : List V → Hp → VK → Prop := fun vs H Q => ∃ (a : Addr) (xs : List V) (k : Bool), vs = [V.ref a] ∧ SqB K H k a xs ∧
  ((∃ ns, xs = ns.map V.int ∧ ∀ b, H b = none → Q (.ref b) (upd H b (.lst ((srtI ns).map V.int)))) ∨
   ∃ nss, TupV K H xs nss ∧ ∀ (p : List Nat) (b : Addr), p.Perm (List.range xs.length) → (p.map fun i => nss.getD i []) = srtT nss → H b = none → Q (.ref b) (upd H b (.lst (p.map fun i => xs.getD i V.non))))
theorem cr_sortA : CallR X (.builtin "sorted") (rSortA X.K) := by
  intro pins s σ H vs us Q I r h
  obtain ⟨a, xs, k, rfl, hs, q⟩ := h
  by_cases h64 : xs.length < 64
  · exact cr_sortB pins s σ H _ us Q I r ⟨a, xs, k, rfl, hs, h64, q⟩
  obtain ⟨u, rfl, ru⟩ := vals1 r
  cases ru
  have fin : ∀ (h' : Heap) (B : Addr) (its : List Value), Vals xs its → xs.length ≤ sizeLine → (∀ b o, s.heap.get? b = some o → h'.get? b = some o) → s.heap.objs.size ≤ B → h'.get? B = some (seqObj "list" its.toArray 0) →
      wpAny (model X.prog X.w) X.A.in1 (call (.builtin "list.sort") [.ref B]) (fun _ s' => EP X pins σ Q (.ref B) s') X.xe { s with heap := h' } := fun h' B its rv hz kk hB hn => by
    have fr : H B = none := I.hok.fresh hB
    have I1 : Inv X pins σ (upd H B (.lst xs)) { s with heap := h' } := I.laid (t' := s.toks) kk hB ⟨hz, its, 0, rv, hn⟩
    rcases q with ⟨ns, rfl, q⟩ | ⟨nss, t, q⟩
    · exact sortI_any I1 (by rw [List.length_map] at h64; omega) (q B fr)
    · exact sortT_any I1 fr t (by omega) fun p pp ps => q p B pp ps fr
  cases k with
  | false =>
    obtain ⟨its, rv, hl, hz⟩ := I.list hs
    exact sorted_list hl.isList (by rw [← L2.Vals.length rv]; exact hz) fun h' B kk hB hn => fin h' B its rv hz kk hB hn
  | true =>
    obtain ⟨its, rv, ht, hz⟩ := I.tuple hs
    exact sorted_tup ht (by rw [← L2.Vals.length rv]; exact hz) fun h' B kk hB hn => fin h' B its rv hz kk hB hn
def fSortA : Bool → List D → Option D := fun _ ds => match asInts ds with
  | some ns => some (.list ((srtI ns).map PyData.int))
  | none => match asTups ds with
    | some nss => some (.list ((srtT nss).map tupD))
    | none => none
variable {e : Expr} {pos p : Pos}
theorem se_sortA {mq : MQ} (hg : Gl X "sorted") (hm : X.mg "sorted" = none) (ha : SQ X e mq) (he : starEach [e] X.env = (false, eval e X.env) :: starEach [] X.env := by rfl) : SE X (.Call (.Name "sorted" p) [e] [] pos) (eQ fSortA mq) :=
  se_b1 cr_sortA (fun a vs H F G C h k ds d Q h0 s r e q => by
    unfold fSortA at e
    refine ⟨a, vs, k, rfl, s.le h0.gh, ?_⟩
    split at e
    · rename_i ns en
      cases e
      have := asInts_some en
      subst this
      refine .inl ⟨ns, r.ints, fun b hb => ?_⟩
      obtain ⟨a1, r1⟩ := newLst h0 hb (Rls.of_ints (K := X.K) (F := F) (C := C) (srtI ns))
      exact q _ _ _ _ a1 r1
    · split at e
      · rename_i nss et
        cases e
        obtain ⟨e1, ne⟩ := asTups_some et
        subst e1
        refine .inr ⟨nss, tupV_of h0.fh r ne, fun p b pp ps hb => ?_⟩
        have hl : vs.length = nss.length := by rw [r.length, List.length_map]
        have hp : ∀ i ∈ p, i < vs.length := fun i hi => List.mem_range.mp (pp.mem_iff.mp hi)
        have r2 := r.getD p hp
        rw [map_tupD (fun i hi => by rw [← hl]; exact hp i hi), ps] at r2
        obtain ⟨a1, r1⟩ := newLst h0 hb r2
        exact q _ _ _ _ a1 r1
      · cases e) hg hm (by decide +kernel) ha (he := he)
end
end Q
set_option Elab.async false
set_option linter.all false
set_option maxRecDepth 100000
namespace Q
open PySem PySem.Spec PySem.W PyProof.Rows L2
abbrev Zip2 (h : Heap) (z TI TO T : Addr) (b : Bool) : Prop := h.get? z = some { cls := .type "zip", data := .fields #[rawInt T, .bool b, .bool false, .ref TI, .ref TO] }
section
variable {P : Program} {w : World} {A : Around} {E : Value → Shared → Prop} {s : Shared}
theorem zip2_free {z TI TO T : Addr} {b : Bool} {o : Obj} {Q : Bool → Shared → Prop} (zo : Zip2 s.heap z TI TO T b) (ho : s.heap.get? T = some o) (fin : ∀ h', Zip2 h' z TI TO T true → Heap.SameBut z s.heap h' → Q false { s with heap := h' }) :
    wpAny (model P w) A (Builtin.SmallTypes.ownedTupleIsFree (.ref z)) Q E s := by
  unfold Builtin.SmallTypes.ownedTupleIsFree
  refine wpAny_bind (wpAny_field zo rfl (x := rawInt T) rfl ?_)
  show wpAny _ _ (loadIfAlive ((T : Int).toNat) >>= _) _ _ _
  rw [Int.toNat_natCast]
  refine wpAny_bind (PySem.W.kdx_alive ho ?_)
  simp only [Option.isNone_some, Bool.false_eq_true, if_false]
  refine wpAny_bind (wpAny_field zo rfl (x := .bool b) rfl ?_)
  cases b with
  | true =>
    rw [if_neg (show ¬ ((Value.bool true != Value.bool true) = true) from Bool.false_ne_true)]
    exact wpAny_pure (fin s.heap zo (Heap.SameBut.refl _ _))
  | false =>
    rw [if_pos (show (Value.bool false != Value.bool true) = true from rfl)]
    refine wpAny_bind (wpAny_setField_rec zo (by simp) fun h₃ he₃ hs₃ => ?_)
    exact wpAny_pure (fin h₃ he₃ hs₃)
theorem zip2_item {k1 k2 : Bool} {z TI TO i1 i2 l1 l2 T : Addr} {b : Bool} {o : Obj} {n1 n2 : Nat} {xs ys : Array Value} {x y : Value} {Q : Value → Shared → Prop} (D : ZipApart z TI TO i1 i2 l1 l2) (zo : Zip2 s.heap z TI TO T b) (ho : s.heap.get? T = some o) (ti : IsPair s.heap TI (.ref i1) (.ref i2))
    (j1 : IB k1 s.heap i1 l1 n1) (j2 : IB k2 s.heap i2 l2 n2) (q1 : QB k1 s.heap l1 xs) (q2 : QB k2 s.heap l2 ys) (ex : xs[n1]? = some x) (ey : ys[n2]? = some y)
    (fin : ∀ h', Zip2 h' z TI TO T true → IB k1 h' i1 l1 (n1 + 1) → IB k2 h' i2 l2 (n2 + 1) → IsPair h' s.heap.objs.size x y → h'.objs.size = s.heap.objs.size + 1 →
      (∀ c o, c ≠ z → c ≠ i1 → c ≠ i2 → s.heap.get? c = some o → h'.get? c = some o) → Q (.ref s.heap.objs.size) { s with heap := h' }) :
    wpAny (model P w) A (Builtin.«zip.__next__» ⟨[.ref z], []⟩) (fun f s' => ∃ v, f = .done (.ret v) ∧ Q v s') E s := by
  show wpAny _ _ (field (.ref z) 2 >>= _) _ _ _
  refine wpAny_bind (wpAny_field zo rfl (x := .bool false) rfl ?_)
  show wpAny _ _ (field (.ref z) 3 >>= _) _ _ _
  refine wpAny_bind (wpAny_field zo rfl (x := .ref TI) rfl ?_)
  refine wpAny_bind (wpAny_seqItems ti rfl ?_)
  show wpAny _ _ (Builtin.SmallTypes.ownedTupleIsFree (.ref z) >>= _) _ _ _
  refine wpAny_bind (zip2_free zo ho fun g1 z1 s1 => ?_)
  simp only [Bool.false_eq_true, if_false]
  refine wpAny_bind ?_
  rw [show (#[Value.ref i1, Value.ref i2] : Array Value) = [Value.ref i1, Value.ref i2].toArray from rfl]
  simp only [List.forIn_toArray, List.forIn_cons, List.forIn_nil]
  refine wpAny_bind (wpAny_bind (wpAny_holding ?_))
  show wpAny _ _ (Builtin.SmallTypes.nextOf (.ref i1) >>= _) _ _ _
  refine wpAny_bind (nextB_item (j1.eb s1.extBut D.i1z) (q1.eb s1.extBut D.l1z) ex fun g2 a2 s2 => wpAny_pure ?_)
  refine wpAny_pure ?_
  refine wpAny_bind (wpAny_bind (wpAny_holding ?_))
  show wpAny _ _ (Builtin.SmallTypes.nextOf (.ref i2) >>= _) _ _ _
  refine wpAny_bind (nextB_item ((j2.eb s1.extBut D.i2z).eb s2.extBut D.i12.symm) ((q2.eb s1.extBut D.l2z).eb s2.extBut D.l2i1) ey fun g4 b4 s4 => wpAny_pure ?_)
  refine wpAny_pure (wpAny_pure ?_)
  show wpAny _ _ (newTuple [x, y] >>= _) _ _ _
  refine wpAny_bind (wpAny_newTuple ?_ (hsz := by show 2 ≤ sizeLine; decide))
  have sz : g4.objs.size = s.heap.objs.size := by rw [s4.1, s2.1, s1.1]
  have kp : ∀ c o, c ≠ z → c ≠ i1 → c ≠ i2 → s.heap.get? c = some o → (g4.push { cls := .type "tuple", data := .seq [x, y].toArray }).get? c = some o := fun c o c1 c3 c4 e =>
    Heap.get?_push_of_some _ (s4.extBut _ _ c4 (s2.extBut _ _ c3 (s1.extBut _ _ c1 e)))
  have z4 : Zip2 g4 z TI TO T true := s4.extBut _ _ D.i2z.symm (s2.extBut _ _ D.i1z.symm z1)
  refine wpAny_pure ⟨_, rfl, ?_⟩
  show Q (.ref g4.objs.size) _
  have t8 : (g4.push { cls := .type "tuple", data := .seq [x, y].toArray }).get? g4.objs.size = some _ := Heap.get?_push_size _ rfl
  have n8 : (g4.push { cls := .type "tuple", data := .seq [x, y].toArray }).objs.size = g4.objs.size + 1 := Heap.size_push ..
  rw [sz] at t8 n8
  rw [sz]
  exact fin _ (Heap.get?_push_of_some _ z4) ((a2.eb s4.extBut D.i12).at fun o e => Heap.get?_push_of_some _ e) (b4.at fun o e => Heap.get?_push_of_some _ e) t8 n8 kp
theorem zip2_end {k1 k2 : Bool} {z TI TO i1 i2 l1 l2 T : Addr} {b : Bool} {o : Obj} {n1 n2 : Nat} {xs ys : Array Value} {Q : Fin → Shared → Prop} (hA : A.handled = none) (D : ZipApart z TI TO i1 i2 l1 l2) (zo : Zip2 s.heap z TI TO T b) (ho : s.heap.get? T = some o) (ti : IsPair s.heap TI (.ref i1) (.ref i2))
    (j1 : IB k1 s.heap i1 l1 n1) (j2 : IB k2 s.heap i2 l2 n2) (q1 : QB k1 s.heap l1 xs) (q2 : QB k2 s.heap l2 ys) (hend : xs[n1]? = none ∨ ys[n2]? = none)
    (fin : ∀ h' e, (∀ c o, c ≠ z → c ≠ i1 → c ≠ i2 → s.heap.get? c = some o → h'.get? c = some o) → (∃ o, h'.get? e = some o ∧ o.cls = .type "StopIteration") → E (.ref e) { s with heap := h' }) :
    wpAny (model P w) A (Builtin.«zip.__next__» ⟨[.ref z], []⟩) Q E s := by
  show wpAny _ _ (field (.ref z) 2 >>= _) _ _ _
  refine wpAny_bind (wpAny_field zo rfl (x := .bool false) rfl ?_)
  show wpAny _ _ (field (.ref z) 3 >>= _) _ _ _
  refine wpAny_bind (wpAny_field zo rfl (x := .ref TI) rfl ?_)
  refine wpAny_bind (wpAny_seqItems ti rfl ?_)
  show wpAny _ _ (Builtin.SmallTypes.ownedTupleIsFree (.ref z) >>= _) _ _ _
  refine wpAny_bind (zip2_free zo ho fun g1 z1 s1 => ?_)
  simp only [Bool.false_eq_true, if_false]
  refine wpAny_bind ?_
  rw [show (#[Value.ref i1, Value.ref i2] : Array Value) = [Value.ref i1, Value.ref i2].toArray from rfl]
  simp only [List.forIn_toArray, List.forIn_cons, List.forIn_nil]
  refine wpAny_bind (wpAny_bind (wpAny_holding ?_))
  show wpAny _ _ (Builtin.SmallTypes.nextOf (.ref i1) >>= _) _ _ _
  cases ex : xs[n1]? with
  | none =>
    refine wpAny_bind (nextB_end hA (j1.eb s1.extBut D.i1z) (q1.eb s1.extBut D.l1z) ex fun g2 e s2 he => ?_)
    exact fin g2 e (fun c o c1 c3 _ x => s2 _ _ c3 (s1.extBut _ _ c1 x)) he
  | some x =>
    have ey : ys[n2]? = none := by
      rcases hend with h | h
      · rw [ex] at h; cases h
      · exact h
    refine wpAny_bind (nextB_item (j1.eb s1.extBut D.i1z) (q1.eb s1.extBut D.l1z) ex fun g2 a2 s2 => wpAny_pure ?_)
    refine wpAny_pure ?_
    refine wpAny_bind (wpAny_bind (wpAny_holding ?_))
    show wpAny _ _ (Builtin.SmallTypes.nextOf (.ref i2) >>= _) _ _ _
    refine wpAny_bind (nextB_end hA ((j2.eb s1.extBut D.i2z).eb s2.extBut D.i12.symm) ((q2.eb s1.extBut D.l2z).eb s2.extBut D.l2i1) ey fun g4 e s4 he => ?_)
    exact fin g4 e (fun c o c1 c3 c4 x => s4 _ _ c4 (s2.extBut _ _ c3 (s1.extBut _ _ c1 x))) he
theorem zip2_next {k1 k2 : Bool} {z TI TO i1 i2 l1 l2 T : Addr} {b : Bool} {o : Obj} {n1 n2 : Nat} {xs ys : Array Value} {x y : Value} {Q : Option Value → Shared → Prop} (D : ZipApart z TI TO i1 i2 l1 l2) (zo : Zip2 s.heap z TI TO T b) (ho : s.heap.get? T = some o) (ti : IsPair s.heap TI (.ref i1) (.ref i2))
    (j1 : IB k1 s.heap i1 l1 n1) (j2 : IB k2 s.heap i2 l2 n2) (q1 : QB k1 s.heap l1 xs) (q2 : QB k2 s.heap l2 ys) (ex : xs[n1]? = some x) (ey : ys[n2]? = some y)
    (fin : ∀ h', Zip2 h' z TI TO T true → IB k1 h' i1 l1 (n1 + 1) → IB k2 h' i2 l2 (n2 + 1) → IsPair h' s.heap.objs.size x y → h'.objs.size = s.heap.objs.size + 1 →
      (∀ c o, c ≠ z → c ≠ i1 → c ≠ i2 → s.heap.get? c = some o → h'.get? c = some o) → Q (some (.ref s.heap.objs.size)) { s with heap := h' }) : wpAny (model P w) A (pyNext (.ref z)) Q E s := by
  have ty : s.TypeIs (.ref z) "zip" := ⟨_, zo, rfl⟩
  unfold pyNext
  exact wpAny_bind (wpAny_attempt (wpAny_callSpecial?_slot (name := Str.ofString "__next__") ty F.slot_zip_next (wpAny_call_entry F.slot_zip_next ty F.entry_zip_next (zip2_item D zo ho ti j1 j2 q1 q2 ex ey fun h' a1 a3 a4 a5 a6 a7 => wpAny_pure (fin h' a1 a3 a4 a5 a6 a7)) (F.args_zip_next_1 _))))
theorem zip2_stop {k1 k2 : Bool} {z TI TO i1 i2 l1 l2 T : Addr} {b : Bool} {o : Obj} {n1 n2 : Nat} {xs ys : Array Value} {Q : Option Value → Shared → Prop} (hA : A.handled = none) (D : ZipApart z TI TO i1 i2 l1 l2) (zo : Zip2 s.heap z TI TO T b) (ho : s.heap.get? T = some o) (ti : IsPair s.heap TI (.ref i1) (.ref i2))
    (j1 : IB k1 s.heap i1 l1 n1) (j2 : IB k2 s.heap i2 l2 n2) (q1 : QB k1 s.heap l1 xs) (q2 : QB k2 s.heap l2 ys) (hend : xs[n1]? = none ∨ ys[n2]? = none)
    (fin : ∀ h', (∀ c o, c ≠ z → c ≠ i1 → c ≠ i2 → s.heap.get? c = some o → h'.get? c = some o) → Q none { s with heap := h' }) : wpAny (model P w) A (pyNext (.ref z)) Q E s := by
  have ty : s.TypeIs (.ref z) "zip" := ⟨_, zo, rfl⟩
  unfold pyNext
  refine wpAny_bind (wpAny_attempt (wpAny_callSpecial?_slot (name := Str.ofString "__next__") ty F.slot_zip_next (wpAny_call_entry F.slot_zip_next ty F.entry_zip_next (zip2_end hA D zo ho ti j1 j2 q1 q2 hend fun h' e kp he => ?_) (F.args_zip_next_1 _))))
  obtain ⟨o, ho, hc⟩ := he
  refine wpAny_bind (wpAny_isInstance (T := "StopIteration") (b := true) ⟨o, ho, hc⟩ isSubtype_stop ?_)
  exact wpAny_pure (fin _ kp)
end
end Q
set_option Elab.async false
set_option linter.all false
set_option maxRecDepth 100000
namespace Q
open PySem PySem.Spec PySem.W PyProof.Rows L2
def ZipTo : List V → List V → Hp → List V → Hp → Prop
  | x :: xs, y :: ys, H, acc, H' => ∃ T acc', acc = .ref T :: acc' ∧ H T = none ∧ ZipTo xs ys (upd H T (.tup [x, y])) acc' H'
  | _, _, H, acc, H' => acc = [] ∧ H' = H
theorem ZipTo.stop {xs ys : List V} {H : Hp} (h : xs = [] ∨ ys = []) : ZipTo xs ys H [] H := by
  match xs, ys, h with
  | [], _, _ => simp [ZipTo]
  | _ :: _, [], _ => simp [ZipTo]
  | _ :: _, _ :: _, .inl h => cases h
  | _ :: _, _ :: _, .inr h => cases h
def ZSt (Hc : Hp) (h : Heap) (z TI TO : Addr) : Prop := (∃ x y, IsZip h z TI TO .none ∧ IsPair h TO x y) ∨ ∃ T b xs, Zip2 h z TI TO T b ∧ Hc T = some (.tup xs)
theorem upd_comm {H : Hp} {a b : Addr} {o o' : HO} (h : a ≠ b) : upd (upd H a o) b o' = upd (upd H b o') a o := by
  funext c
  unfold upd
  by_cases h1 : c = a
  · subst h1; simp [h]
  · simp [h1]
section
variable {X : Cx} {pins : List (Addr × Obj)} {σ : L2.St} {A : Around} {E : Value → Shared → Prop} {k k' : Bool} {a b z TI TO i1 i2 S : Addr} {xs ys : List V} {W : List V → Hp → Prop}
theorem seqB_len {H : Hp} {s : Shared} (I : Inv X pins σ H s) (h : SqB X.K H k a xs) : xs.length ≤ sizeLine := by
  cases k with
  | false => obtain ⟨its, r, p, z⟩ := I.list (show SqL X.K H a xs from h); exact z
  | true => obtain ⟨its, r, p, z⟩ := I.tuple (show SqT X.K H a xs from h); exact z
theorem zl_loop (hA : A.handled = none) (D : ZipApart z TI TO i1 i2 a b) (hSf : S ∉ [z, TI, TO, i1, i2]) :
    ∀ (m i : Nat) (acc : List V) (Hc : Hp) (s : Shared), min xs.length ys.length - i = m → i ≤ min xs.length ys.length → Inv X pins σ (upd Hc S (.lst acc)) s → Hc S = none → SqB X.K Hc k a xs → SqB X.K Hc k' b ys → ZSt Hc s.heap z TI TO →
      IsPair s.heap TI (.ref i1) (.ref i2) → IB k s.heap i1 a i → IB k' s.heap i2 b i → (∀ c ∈ [z, TI, TO, i1, i2], FpOk X pins (upd Hc S (.lst acc)) c) → acc.length = i → TO < s.heap.objs.size →
      (∀ l H2, ZipTo (xs.drop i) (ys.drop i) Hc l H2 → H2 S = none → W (acc ++ l) H2) →
      codeAny (model X.prog X.w) A (.builtin "list.extend.loop" ⟨[.ref S, .ref z, .none], []⟩) (wants (fun r s' => r = .none ∧ ∃ acc' H2, Inv X pins σ (upd H2 S (.lst acc')) s' ∧ W acc' H2) E) s := by
  intro m
  induction m with
  | zero =>
    intro i acc Hc s hm hi I hS sx sy zs ti j1 j2 hf hl hTl q
    obtain ⟨us, rx, px, _⟩ := seqB I (sx.le (le_upd hS _))
    obtain ⟨us2, ry, py, _⟩ := seqB I (sy.le (le_upd hS _))
    have l1 := rx.length
    have l2 := ry.length
    have he : us.toArray[i]? = none ∨ us2.toArray[i]? = none := by
      rcases Nat.le_total us.length us2.length with h | h
      · exact .inl (by simp; omega)
      · exact .inr (by simp; omega)
    refine codeAny_builtin F.entry_extend_loop ?_
    rw [Around.under_plainId F.plain_extend_loop _]
    show wpAny _ A.in1 (pyNext (.ref z) >>= _) _ _ s
    have fin : ∀ h', (∀ c o, c ∉ [z, TI, TO, i1, i2] → s.heap.get? c = some o → h'.get? c = some o) → ∃ acc' H2, Inv X pins σ (upd H2 S (.lst acc')) { s with heap := h' } ∧ W acc' H2 := fun h' kp =>
      ⟨acc, Hc, I.turnedL (t' := s.toks) (ch := [z, TI, TO, i1, i2]) kp hf, by
        have := q [] Hc (ZipTo.stop (by
          rcases Nat.le_total xs.length ys.length with h | h
          · exact .inl (List.drop_eq_nil_of_le (by omega))
          · exact .inr (List.drop_eq_nil_of_le (by omega)))) hS
        rwa [List.append_nil] at this⟩
    rcases zs with ⟨x0, y0, hz, hTO⟩ | ⟨T, bb, xx, hz, hT⟩
    · exact wpAny_bind (zipB_stop hA D hz ti hTO j1 j2 px py he fun h' kp => wpAny_pure ⟨rfl, fin h' fun c o hc e => kp c o (fun q' => hc (by simp [q'])) (fun q' => hc (by simp [q'])) (fun q' => hc (by simp [q'])) (fun q' => hc (by simp [q'])) e⟩)
    · have hTS : T ≠ S := fun e => by rw [e, hS] at hT; cases hT
      have ⟨_, us0, _, ⟨oT, hoT, _⟩⟩ := I.hok T (.tup xx) (by rw [upd_ne hTS]; exact hT)
      exact wpAny_bind (zip2_stop hA D hz hoT ti j1 j2 px py he fun h' kp => wpAny_pure ⟨rfl, fin h' fun c o hc e => kp c o (fun q' => hc (by simp [q'])) (fun q' => hc (by simp [q'])) (fun q' => hc (by simp [q'])) e⟩)
  | succ m ih =>
    intro i acc Hc s hm hi I hS sx sy zs ti j1 j2 hf hl hTl q
    have hx : i < xs.length := by omega
    have hy : i < ys.length := by omega
    obtain ⟨us, rx, px, _⟩ := seqB I (sx.le (le_upd hS _))
    obtain ⟨us2, ry, py, _⟩ := seqB I (sy.le (le_upd hS _))
    have lz := seqB_len I (sx.le (le_upd hS _))
    obtain ⟨u, hu, ru⟩ := rx.get (List.getElem?_eq_getElem hx)
    obtain ⟨u2, hu2, ru2⟩ := ry.get (List.getElem?_eq_getElem hy)
    refine codeAny_builtin F.entry_extend_loop ?_
    rw [Around.under_plainId F.plain_extend_loop _]
    show wpAny _ A.in1 (pyNext (.ref z) >>= _) _ _ s
    have fr := I.hok.fresh (Nat.le_refl s.heap.objs.size)
    have nS : s.heap.objs.size ≠ S := fun e => by rw [e, upd_same] at fr; cases fr
    rw [upd_ne nS] at fr
    have step : ∀ h', ZSt (upd Hc s.heap.objs.size (.tup [xs[i], ys[i]])) h' z TI TO → IB k h' i1 a (i + 1) → IB k' h' i2 b (i + 1) → IsPair h' s.heap.objs.size u u2 → (∀ c o, c ∉ [z, TO, i1, i2] → s.heap.get? c = some o → h'.get? c = some o) →
        wpAny (model X.prog X.w) A.in1 (updateSeq S (·.push (.ref s.heap.objs.size)) >>= fun _ => again (.builtin "list.extend.loop" ⟨[.ref S, .ref z, .none], []⟩)) (fun fin s' => match fin with | .done f => wants (fun r s' => r = .none ∧ ∃ acc' H2, Inv X pins σ (upd H2 S (.lst acc')) s' ∧ W acc' H2) E (.ok f) s' | .again c' => c'.quiet = true ∧ codeAny (model X.prog X.w) A c' (wants (fun r s' => r = .none ∧ ∃ acc' H2, Inv X pins σ (upd H2 S (.lst acc')) s' ∧ W acc' H2) E) s') (fun e s' => wants (fun r s' => r = .none ∧ ∃ acc' H2, Inv X pins σ (upd H2 S (.lst acc')) s' ∧ W acc' H2) E (.error e) s') { s with heap := h' } := by
      intro h' zs' j1' j2' hT kp
      have ti' : IsPair h' TI (.ref i1) (.ref i2) := kp TI _ (by
        intro hc
        have e' : TI = z ∨ TI = TO ∨ TI = i1 ∨ TI = i2 := by simpa using hc
        rcases e' with e | e | e | e
        · exact D.TIz e
        · exact D.TITO e
        · exact D.TIi1 e
        · exact D.TIi2 e) ti
      have I2 : Inv X pins σ (upd (upd Hc S (.lst acc)) s.heap.objs.size (.tup [xs[i], ys[i]])) { s with heap := h' } :=
        I.turnedNew (t' := s.toks) (ch := [z, TI, TO, i1, i2]) (fun c o hc e => kp c o (fun q' => hc (by
          have e' : c = z ∨ c = TO ∨ c = i1 ∨ c = i2 := by simpa using q'
          rcases e' with e | e | e | e <;> simp [e])) e) hf (Nat.le_refl _) ⟨by show 2 ≤ sizeLine; decide, [u, u2], .cons ru (.cons ru2 .nil), ⟨_, hT, rfl, _, rfl⟩⟩
      rw [upd_comm nS.symm] at I2
      generalize hHd : upd Hc s.heap.objs.size (.tup [xs[i], ys[i]]) = Hd at *
      have hdS : Hd S = none := by rw [← hHd, upd_ne nS.symm]; exact hS
      obtain ⟨zz, its, c, rv, eS⟩ := I2.hok S _ upd_same
      have hll := L2.Vals.length rv
      have oth : ∀ d o, d ≠ S → h'.get? d = some o → (h'.update S (Obj.mapSeq (·.push (.ref s.heap.objs.size)))).get? d = some o := fun d o hb e => (Heap.get?_update_other _ _ (Ne.symm hb)).trans e
      have eS2 := Heap.get?_update_self (Obj.mapSeq (·.push (.ref s.heap.objs.size))) eS rfl
      have eS3 : (h'.update S (Obj.mapSeq (·.push (.ref s.heap.objs.size)))).get? S = some { cls := .type "list", data := .seq (its ++ [Value.ref s.heap.objs.size]).toArray (c + 1) } := by
        rw [eS2]
        simp [Obj.mapSeq]
      have rv2 : Vals (acc ++ [.ref s.heap.objs.size]) (its ++ [.ref s.heap.objs.size]) := L2.Vals.append rv (.cons (show L2.RelV (V.ref s.heap.objs.size) (Value.ref s.heap.objs.size) from rfl) .nil)
      have I3 := I2.write (x := S) (e := S) (o := .lst (acc ++ [.ref s.heap.objs.size])) (t' := s.toks) (by rw [upd_same]; trivial) (.inl rfl) oth ⟨_, eS3⟩ ⟨by rw [List.length_append, List.length_singleton]; omega, _, _, rv2, eS3⟩
      rw [upd_upd] at I3
      have nzS : ∀ c ∈ [z, TI, TO, i1, i2], c ≠ S := fun c hc e => hSf (e ▸ hc)
      refine wpAny_bind (wpAny_updateSeq eS rfl (wpAny_pure ⟨plainId_quiet F.plain_extend_loop _, ih (i + 1) _ Hd _ (by omega) (by omega) I3 hdS (by rw [← hHd]; exact sx.le (le_upd fr _)) (by rw [← hHd]; exact sy.le (le_upd fr _)) ?_ (oth _ _ (nzS TI (by simp)) ti') (j1'.at fun o e => oth _ _ (nzS i1 (by simp)) e) (j2'.at fun o e => oth _ _ (nzS i2 (by simp)) e) ?_ (by rw [List.length_append, List.length_singleton, hl]) (Nat.lt_trans hTl (Heap.lt_size (oth _ _ nS hT))) ?_⟩) (by rw [List.size_toArray]; omega) (by rw [Array.size_push, List.size_toArray]; omega))
      · rcases zs' with ⟨x0, y0, hz, hTO⟩ | ⟨T, bb, xx, hz, hT⟩
        · exact .inl ⟨x0, y0, oth _ _ (nzS z (by simp)) hz, oth _ _ (nzS TO (by simp)) hTO⟩
        · exact .inr ⟨T, bb, xx, oth _ _ (nzS z (by simp)) hz, hT⟩
      · intro c hc
        obtain ⟨f1, f2⟩ := hf c hc
        refine ⟨?_, f2⟩
        have lt : c < s.heap.objs.size := by
          have e' : c = z ∨ c = TI ∨ c = TO ∨ c = i1 ∨ c = i2 := by simpa using hc
          rcases e' with rfl | rfl | rfl | rfl | rfl
          · rcases zs with ⟨x0, y0, hz, hTO⟩ | ⟨T, bb, xx, hz, hT⟩
            · exact Heap.lt_size hz
            · exact Heap.lt_size hz
          · exact Heap.lt_size ti
          · exact hTl
          · obtain ⟨_, e, _⟩ := j1.ob; exact Heap.lt_size e
          · obtain ⟨_, e, _⟩ := j2.ob; exact Heap.lt_size e
        rw [upd_ne (nzS c hc)] at f1 ⊢
        rw [← hHd, upd_ne (Nat.ne_of_lt lt)]
        exact f1
      · intro l H2 hz2 hn2
        have := q (.ref s.heap.objs.size :: l) H2 (by
          rw [List.drop_eq_getElem_cons hx, List.drop_eq_getElem_cons hy]
          exact ⟨_, l, rfl, fr, by rw [hHd]; exact hz2⟩) hn2
        rw [List.append_assoc]
        exact this
    rcases zs with ⟨x0, y0, hz, hTO⟩ | ⟨T, bb, xx, hz, hT⟩
    · refine wpAny_bind (zipB_next D hz ti hTO j1 j2 px py (x := u) (y := u2) (by simpa using hu) (by simpa using hu2) fun h' z' TO' j1' j2' hT hsz kp => ?_)
      exact step h' (.inr ⟨_, false, _, z', upd_same⟩) j1' j2' hT fun c o hc e => kp c o (fun q' => hc (by simp [q'])) (fun q' => hc (by simp [q'])) (fun q' => hc (by simp [q'])) (fun q' => hc (by simp [q'])) e
    · have hTS : T ≠ S := fun e => by rw [e, hS] at hT; cases hT
      have ⟨_, us0, _, ⟨oT, hoT, _⟩⟩ := I.hok T (.tup xx) (by rw [upd_ne hTS]; exact hT)
      refine wpAny_bind (zip2_next D hz hoT ti j1 j2 px py (x := u) (y := u2) (by simpa using hu) (by simpa using hu2) fun h' z' j1' j2' hT2 hsz kp => ?_)
      exact step h' (.inr ⟨T, true, xx, z', by rw [upd_ne (fun e => by rw [e, fr] at hT; cases hT)]; exact hT⟩) j1' j2' hT2 fun c o hc e => kp c o (fun q' => hc (by simp [q'])) (fun q' => hc (by simp [q'])) (fun q' => hc (by simp [q'])) e
end
end Q
set_option Elab.async false
set_option linter.all false
set_option maxRecDepth 100000
namespace Q
open PySem PySem.Spec PySem.W PyProof.Rows L2
theorem zip_no_len : typeLookup (.type "zip") "__len__" = pure none := by rw [typeLookup_type, builtinLookup_eq_fast]; kernel_rfl
theorem zip_no_hint : typeLookup (.type "zip") "__length_hint__" = pure none := by rw [typeLookup_type, builtinLookup_eq_fast]; kernel_rfl
section
variable {X : Cx} {pins : List (Addr × Obj)} {σ : L2.St} {k k' : Bool} {a b z TI TO i1 i2 : Addr} {xs ys : List V} {E : Value → Shared → Prop}
theorem call_lzip {Q : VK} {Hc : Hp} {s : Shared} (hc : X.calm = true) (I : Inv X pins σ Hc s) (D : ZipApart z TI TO i1 i2 a b) (sx : SqB X.K Hc k a xs) (sy : SqB X.K Hc k' b ys) (hz : IsZip s.heap z TI TO .none) (ti : IsPair s.heap TI (.ref i1) (.ref i2)) (to : IsPair s.heap TO .none .none)
    (j1 : IB k s.heap i1 a 0) (j2 : IB k' s.heap i2 b 0) (hf : ∀ c ∈ [z, TI, TO, i1, i2], FpOk X pins Hc c) (q : ∀ S l H2, ZipTo xs ys Hc l H2 → H2 S = none → Q (.ref S) (upd H2 S (.lst l))) :
    wpAny (model X.prog X.w) X.A (call (.type "list") [.ref z]) (EP X pins σ Q) E s := by
  refine callType_codes (Q₁ := fun obj s₁ => obj = .ref s.heap.objs.size ∧ s₁ = { s with heap := s.heap.push { cls := .type "list", data := .seq #[] } }) F.called_list (F.typeCall_list_1 _) F.entry_list_init
    (code_list_new _ ⟨rfl, rfl⟩) fun obj s₁ h₁ => ?_
  obtain ⟨rfl, rfl⟩ := h₁
  have hS : (s.heap.push { cls := .type "list", data := .seq #[] }).get? s.heap.objs.size = some { cls := .type "list", data := .seq #[] } := Heap.get?_push_size _ rfl
  refine ⟨⟨_, hS, rfl⟩, F.args_list_init_2 _ _, ?_⟩
  have hfr := I.hok.fresh (Nat.le_refl s.heap.objs.size)
  have nz : ∀ c ∈ [z, TI, TO, i1, i2], c < s.heap.objs.size := by
    intro c hcm
    have e' : c = z ∨ c = TI ∨ c = TO ∨ c = i1 ∨ c = i2 := by simpa using hcm
    rcases e' with rfl | rfl | rfl | rfl | rfl
    · exact Heap.lt_size hz
    · exact Heap.lt_size ti
    · exact Heap.lt_size to
    · obtain ⟨_, e, _⟩ := j1.ob; exact Heap.lt_size e
    · obtain ⟨_, e, _⟩ := j2.ob; exact Heap.lt_size e
  have kp0 : ∀ c o, s.heap.get? c = some o → (s.heap.push { cls := .type "list", data := .seq #[] }).get? c = some o := fun c o e => Heap.get?_push_of_some _ e
  generalize hh0 : s.heap.push { cls := .type "list", data := .seq #[] } = h0 at *
  generalize hSS : s.heap.objs.size = S at *
  have nS : ∀ c o, s.heap.get? c = some o → c ≠ S := fun c o e => by rw [← hSS]; exact Nat.ne_of_lt (Heap.lt_size e)
  show wpAny _ _ (do let old ← Builtin.List.listItems (.ref S); Builtin.List.listUpdate (.ref S) (fun _ => #[]); letGo old.toList.reverse; Builtin.List.listExtendWith (.ref S) (.ref z) .none) _ _ _
  refine wpAny_bind ?_
  unfold Builtin.List.listItems
  refine wpAny_bind (wpAny_seqItems hS rfl (wpAny_pure ?_))
  show wpAny _ _ (updateSeq S (fun _ => #[]) >>= fun _ => letGo (#[] : Array Value).toList.reverse >>= fun _ => Builtin.List.listExtendWith (.ref S) (.ref z) .none) _ _ _
  refine wpAny_bind (wpAny_updateSeq hS rfl ?_)
  have hS2 := Heap.get?_update_self (Obj.mapSeq (fun _ => (#[] : Array Value))) hS rfl
  have kp1 : ∀ c o, s.heap.get? c = some o → (h0.update S (Obj.mapSeq (fun _ => (#[] : Array Value)))).get? c = some o := fun c o e => (Heap.get?_update_other _ _ (Ne.symm (nS c o e))).trans (kp0 c o e)
  generalize hh1 : h0.update S (Obj.mapSeq (fun _ => (#[] : Array Value))) = h1 at *
  refine wpAny_bind (wpAny_letGo ?_)
  unfold Builtin.List.listExtendWith
  have ty : Shared.TypeIs { s with heap := h1 } (.ref z) "zip" := ⟨_, kp1 z _ hz, rfl⟩
  refine wpAny_bind (wpAny_typeOf ty ?_)
  have d1 : Builtin.List.listSameRef (.ref S) (.ref z) = false := by simp [Builtin.List.listSameRef, Ne.symm (nS z _ hz)]
  have d2 : (Value.type "zip" == Value.type "list") = false := by decide
  have d3 : (Value.type "zip" == Value.type "tuple") = false := by decide
  simp only [d1, d2, d3, Bool.or_false, Bool.false_eq_true, if_false]
  refine wpAny_bind (wpAny_pyIter_zip (kp1 z _ hz) ?_)
  refine wpAny_bind (wpAny_holding ?_)
  unfold Builtin.List.listLengthHint
  refine wpAny_bind (wpAny_specialOf ty zip_no_len ?_)
  show wpAny _ _ (specialOf (Value.ref z) (Str.ofString "__length_hint__") >>= _) _ _ _
  refine wpAny_bind (wpAny_specialOf ty zip_no_hint ?_)
  refine wpAny_pure ?_
  show wpAny _ _ (rule "list.extend.makes-room" >>= fun _ => Builtin.List.listTouch (.ref S) >>= fun _ => again (.builtin "list.extend.loop" ⟨[.ref S, .ref z, .none], []⟩)) _ _ _
  refine wpAny_bind (wpAny_rule ?_)
  refine wpAny_bind ?_
  show wpAny _ _ (updateSeq S (·.push .none) >>= fun _ => updateSeq S (·.pop)) _ _ _
  refine wpAny_bind (wpAny_updateSeq hS2 rfl ?_)
  have hS3 := Heap.get?_update_self (Obj.mapSeq (·.push Value.none)) hS2 rfl
  refine wpAny_updateSeq (hz := by seq_fits) hS3 rfl ?_
  have hS4 := Heap.get?_update_self (Obj.mapSeq (·.pop)) hS3 rfl
  have kp2 : ∀ c o, s.heap.get? c = some o → ((h1.update S (Obj.mapSeq (·.push Value.none))).update S (Obj.mapSeq (·.pop))).get? c = some o := fun c o e => (Heap.get?_update_other _ _ (Ne.symm (nS c o e))).trans ((Heap.get?_update_other _ _ (Ne.symm (nS c o e))).trans (kp1 c o e))
  generalize hh2 : (h1.update S (Obj.mapSeq (·.push Value.none))).update S (Obj.mapSeq (·.pop)) = h2 at *
  have I2 : Inv X pins σ (upd Hc S (.lst [])) { s with heap := h2 } := I.laid (t' := s.toks) kp2 (by omega) ⟨Nat.zero_le _, [], _, .nil, hS4⟩
  have lp := zl_loop (E := E) (k := k) (k' := k') (xs := xs) (ys := ys) (W := fun l H2 => Q (.ref S) (upd H2 S (.lst l))) (show X.A.in1.handled = none from I.ok.hd hc) D (fun hm => Nat.lt_irrefl S (nz S hm)) _ 0 [] Hc { s with heap := h2 } rfl (Nat.zero_le _) I2 hfr sx sy (.inl ⟨_, _, kp2 z _ hz, kp2 TO _ to⟩) (kp2 TI _ ti) (j1.at fun o e => kp2 _ o e) (j2.at fun o e => kp2 _ o e) (fun c hcm => by
      obtain ⟨f1, f2⟩ := hf c hcm
      exact ⟨by rw [upd_ne (Nat.ne_of_lt (nz c hcm))]; exact f1, f2⟩) rfl (Heap.lt_size (kp2 TO _ to)) (fun l H2 hz2 hn => by
    rw [List.nil_append]
    exact q S l H2 hz2 hn)
  refine wpAny_pure ⟨plainId_quiet F.plain_extend_loop _, codeAny_mono lp fun r s' hr => ?_⟩
  cases r with
  | error e => exact hr
  | ok f =>
    cases f with
    | ret v =>
      obtain ⟨rfl, acc, H2, I3, q3⟩ := hr
      exact ⟨rfl, .ref S, _, I3, rfl, q3⟩
    | next => exact hr.elim
    | brk => exact hr.elim
    | cont => exact hr.elim
def ZipP (K : Fg) (ta : TA) : TE := fun σ H Q => ta σ H fun vs H1 => ∃ a b xs ys k k', vs = [.ref a, .ref b] ∧ SqB K H1 k a xs ∧ SqB K H1 k' b ys ∧ ∀ S l H2, ZipTo xs ys H1 l H2 → H2 S = none → Q (.ref S) (upd H2 S (.lst l))
end
section
variable {X : Cx} {e e2 : Expr} {p p2 pos pos2 : Pos} {ma mb : ME}
theorem pe_lzip {ta : TA} (hc : X.calm = true) (hgl : Gl X "list") (hml : X.mg "list" = none) (hg : Gl X "zip") (hm : X.mg "zip" = none) (ha : PA X [e, e2] ta) (hs : starEach [e, e2] X.env = (false, eval e X.env) :: starEach [e2] X.env := by rfl) (hpl : (backTo pos2 (starEach [e2] X.env)).any (·.1) = false := by rfl)
    (hst : starEach [Expr.Call (.Name "zip" p2) [e, e2] [] pos2] X.env = [(false, eval (.Call (.Name "zip" p2) [e, e2] [] pos2) X.env)] := by rfl) :
    PE X (.Call (.Name "list" p) [.Call (.Name "zip" p2) [e, e2] [] pos2] [] pos) (ZipP X.K ta) := by
  intro pins s σ H Q I h
  refine Call_ (ld_blt (u := .type "list") I hgl hml (by decide +kernel) ?_)
  refine PyProof.Rows.callWith_type1 ?_ hst rfl
  rw [hst]
  show wpAny _ _ (spliced ((false, eval (.Call (.Name "zip" p2) [e, e2] [] pos2) X.env) :: backTo pos [])) _ _ s
  refine Calls.spliced_cons ?_
  refine Call_ (ld_blt I hg hm boot_zip5 (PyProof.Rows.callWith_type1 (thn (ha pos2 pins s σ H _ I h) fun us s1 ⟨vs, H1, I1, r1, q1⟩ => ?_) hs hpl))
  obtain ⟨a, b, xs, ys, k, k', ex, sx, sy, q⟩ := q1
  subst ex
  cases r1 with
  | cons r rr =>
    cases rr with
    | cons r' rr =>
      cases rr
      cases r
      cases r'
      obtain ⟨us, rx, px, la⟩ := seqB I1 sx
      obtain ⟨us2, ry, py, lb⟩ := seqB I1 sy
      refine zipB_make px py fun h' hz hTI hTO j1 j2 kp => Calls.spliced_nil ?_
      have I2 : Inv X pins σ H1 { s1 with heap := h' } := I1.kept (t' := s1.toks) kp
      refine call_lzip hc I2 (PySem.W.ktu_apart s1.heap.objs.size a b la lb) sx sy hz hTI hTO j1 j2 (fun c hcm => ?_) q
      have hle : s1.heap.objs.size ≤ c := by
        have e' : c = s1.heap.objs.size + 4 ∨ c = s1.heap.objs.size + 2 ∨ c = s1.heap.objs.size + 3 ∨ c = s1.heap.objs.size ∨ c = s1.heap.objs.size + 1 := by simpa using hcm
        rcases e' with z | z | z | z | z <;> rw [z] <;> first | exact Nat.le_refl _ | exact Nat.le_add_right _ _
      exact I1.fpOk hle (I1.hok.fresh hle)
end
end Q
set_option Elab.async false
set_option linter.all false
set_option maxRecDepth 100000
namespace Q
open PySem PySem.Spec PySem.W PyProof.Rows L2
theorem zipTo_rl {K : Fg} {C : List Addr} {h : Hq} : ∀ (vs us : List V) (ds es : List D) (F G H : Hp) (l : List V) (H2 : Hp), HR K F G C h H → Rls K F C vs ds → Rls K F C us es → ZipTo vs us H l H2 → ∃ F2 G2, Aft K F G C F2 G2 C h H2 ∧ Rls K F2 C l (pairs ds es) := by
  intro vs
  induction vs with
  | nil =>
    intro us ds es F G H l H2 hr r r' z
    cases r
    simp only [ZipTo] at z
    obtain ⟨rfl, rfl⟩ := z
    exact ⟨F, G, .refl hr, .nil⟩
  | cons v vs ih =>
    intro us ds es F G H l H2 hr r r' z
    cases us with
    | nil =>
      cases r'
      simp only [ZipTo] at z
      obtain ⟨rfl, rfl⟩ := z
      refine ⟨F, G, .refl hr, ?_⟩
      unfold pairs
      rw [List.zip_nil_right]
      exact .nil
    | cons u us =>
      simp only [ZipTo] at z
      obtain ⟨T, acc, rfl, hT, z⟩ := z
      cases r with
      | cons rv r =>
        cases r' with
        | cons ru r' =>
          obtain ⟨a1, r1⟩ := newTup hr hT (.cons rv (.cons ru .nil))
          obtain ⟨F2, G2, a2, r2⟩ := ih us _ _ _ _ _ _ _ a1.r (r.le a1.f a1.c) (r'.le a1.f a1.c) z
          exact ⟨F2, G2, a1.trans a2, .cons (r1.le a2.f a2.c) r2⟩
@[irreducible] def eLzip (ma mb : ME) : ME := fun ρ h => match ma ρ h with
  | none => none
  | some (d, h1) => match mb ρ h1 with
    | none => none
    | some (d', h2) => match seqD d, seqD d' with
      | some (_, xs), some (_, ys) => some (.list (pairs xs ys), h2)
      | _, _ => none
section
variable {X : Cx} {e e2 : Expr} {p p2 pos pos2 : Pos} {ma mb : ME}
theorem se_lzip (hc : X.calm = true) (hgl : Gl X "list") (hml : X.mg "list" = none) (hg : Gl X "zip") (hm : X.mg "zip" = none) (ha : SE X e ma) (hb : SE X e2 mb) (hs : starEach [e, e2] X.env = (false, eval e X.env) :: starEach [e2] X.env := by rfl) (hs2 : starEach [e2] X.env = (false, eval e2 X.env) :: starEach [] X.env := by rfl) (hpl : (backTo pos2 (starEach [e2] X.env)).any (·.1) = false := by rfl)
    (hst : starEach [Expr.Call (.Name "zip" p2) [e, e2] [] pos2] X.env = [(false, eval (.Call (.Name "zip" p2) [e, e2] [] pos2) X.env)] := by rfl) :
    SE X (.Call (.Name "list" p) [.Call (.Name "zip" p2) [e, e2] [] pos2] [] pos) (eLzip ma mb) := by
  obtain ⟨t, pt, rt⟩ := ha
  obtain ⟨t2, pt2, rt2⟩ := hb
  refine .mk _ (pe_lzip hc hgl hml hg hm (pa_cons pt (pa_cons pt2 pa_nil hs2) hs) hs hpl hst) fun σ H F G C ρ h d0 h' R h0 er hm q => ?_
  unfold eLzip at hm
  split at hm
  · cases hm
  rename_i d h1 e1
  split at hm
  · cases hm
  rename_i d' h2 e2
  split at hm
  · rename_i k xs k' ys s1 s2
    cases hm
    refine rt σ H F G C ρ h d h1 _ h0 er e1 fun u H1 F1 G1 C1 a1 r1 => ?_
    refine rt2 σ H1 F1 G1 C1 ρ h1 d' _ _ a1.r (er.le a1.f a1.g a1.c) e2 fun u2 H2 F2 G2 C2 a2 r2 => ?_
    obtain ⟨a, vs, rfl, q1, rs1⟩ := rl_seq (r1.le a2.f a2.c) s1
    obtain ⟨b, us, rfl, q2, rs2⟩ := rl_seq r2 s2
    have q1' := q1.toB (Same.refl F2)
    have q2' := q2.toB (Same.refl F2)
    refine ⟨a, b, vs, us, k, k', rfl, q1'.le a2.r.fh, q2'.le a2.r.fh, fun S l H3 z hS => ?_⟩
    obtain ⟨F3, G3, a3, r3⟩ := zipTo_rl vs us xs ys F2 G2 H2 l H3 a2.r rs1 rs2 z
    obtain ⟨a4, r4⟩ := newLst a3.r hS r3
    exact q _ _ _ _ _ (((a1.trans a2).trans a3).trans a4) r4
  · cases hm
end
abbrev TB := Nat → Addr
end Q
set_option Elab.async false
set_option linter.all false
set_option maxRecDepth 100000
namespace Q4
open PySem PySem.Spec PySem.W PyProof.Rows L2 Q
noncomputable abbrev b_is_whole (Pg : TB) : MS := (sRet (eAnd (eUn (gIsi "int") (eVar 0)) (eUn gNot (eUn (gIsi "bool") (eVar 0)))))
noncomputable def m_is_whole (Pg : TB) : MF := fun ds h => if ds.length = 1 then runB (b_is_whole Pg) 1 ds h else none
noncomputable abbrev b_is_number (Pg : TB) : MS := (sRet (eAnd (eCall (m_is_whole Pg) (aCons (eVar 1) aNil)) (eChain gLeI gLtI (eC (.int 0)) (eVar 1) (eVar 0))))
noncomputable def m_is_number (Pg : TB) : MF := fun ds h => if ds.length = 2 then runB (b_is_number Pg) 2 ds h else none
noncomputable abbrev b_is_rising (Pg : TB) : MS := (sRet (eAllG 0 (Pg 0) [1, 2] (iZipM (eVar 0) (eSl (qVal (eVar 0)) (oYes (eC (.int 1))) oNo)) (gTp (gsCons (gN 1) (gsCons (gN 2) gsNil))) tYesM (eOp gLtI (eVar 1) (eVar 2))))
noncomputable def m_is_rising (Pg : TB) : MF := fun ds h => if ds.length = 1 then runB (b_is_rising Pg) 3 ds h else none
noncomputable abbrev b_ordered_pair (Pg : TB) : MS := (sRet (eA fTup (aCons (eOp gMin2 (eVar 0) (eVar 1)) (aCons (eOp gMax2 (eVar 0) (eVar 1)) aNil))))
noncomputable def m_ordered_pair (Pg : TB) : MF := fun ds h => if ds.length = 2 then runB (b_ordered_pair Pg) 2 ds h else none
noncomputable abbrev b_is_tied (Pg : TB) : MS := (sRet (eXQ (fIn false) (eCall (m_ordered_pair Pg) (aCons (eVar 1) (aCons (eVar 2) aNil))) (qVal (eQX fIx (qVal (eVar 0)) (eC (.int 1))))))
noncomputable def m_is_tied (Pg : TB) : MF := fun ds h => if ds.length = 3 then runB (b_is_tied Pg) 3 ds h else none
noncomputable abbrev b_steps_of (Pg : TB) : MS := (sRet (eLzip (eVar 0) (eSl (qVal (eVar 0)) (oYes (eC (.int 1))) oNo)))
noncomputable def m_steps_of (Pg : TB) : MF := fun ds h => if ds.length = 1 then runB (b_steps_of Pg) 1 ds h else none
noncomputable abbrev b_are_unlike_knots (Pg : TB) : MS := (sSeq (sIf (tOrM (tNotM (tValM truD (eUn (gIsi "tuple") (eVar 1)))) (tNotM (tValM truD (eAllG 1 (Pg 1) [2] (iVal (eVar 1)) (gN 2) tYesM (eCall (m_is_number Pg) (aCons (eVar 0) (aCons (eVar 2) aNil))))))) (sRet (eC (.bool false))) sNil) (sRet (eCall (m_is_rising Pg) (aCons (eQ fSortA (qVal (eVar 1))) aNil))))
noncomputable def m_are_unlike_knots (Pg : TB) : MF := fun ds h => if ds.length = 2 then runB (b_are_unlike_knots Pg) 3 ds h else none
noncomputable abbrev b_has_route_ends (Pg : TB) : MS := (sSeq (sSet 2 (eQX fIx (qVal (eVar 1)) (eC (.int 0)))) (sSeq (sSet 3 (eQX fIx (qVal (eVar 1)) (eUn gNeg (eC (.int 1))))) (sRet (eAnd (eXQ (fIn false) (eVar 2) (qVal (eQX fIx (qVal (eVar 0)) (eC (.int 2))))) (eAnd (eXQ (fIn false) (eVar 3) (qVal (eQX fIx (qVal (eVar 0)) (eC (.int 2))))) (eOp gLtI (eVar 2) (eVar 3)))))))
noncomputable def m_has_route_ends (Pg : TB) : MF := fun ds h => if ds.length = 2 then runB (b_has_route_ends Pg) 4 ds h else none
noncomputable abbrev b_is_route (Pg : TB) : MS := (sSeq (sIf (tOrM (tNotM (tValM truD (eCall (m_are_unlike_knots Pg) (aCons (eQX fIx (qVal (eVar 0)) (eC (.int 0))) (aCons (eVar 1) aNil))))) (tValM dB (eOp gLtI (eQ fLen (qVal (eVar 1))) (eC (.int 2))))) (sRet (eC (.bool false))) sNil) (sRet (eAnd (eCall (m_has_route_ends Pg) (aCons (eVar 0) (aCons (eVar 1) aNil))) (eAllG 2 (Pg 2) [2, 3] (iVal (eCall (m_steps_of Pg) (aCons (eVar 1) aNil))) (gTp (gsCons (gN 2) (gsCons (gN 3) gsNil))) tYesM (eCall (m_is_tied Pg) (aCons (eVar 0) (aCons (eVar 2) (aCons (eVar 3) aNil))))))))
noncomputable def m_is_route (Pg : TB) : MF := fun ds h => if ds.length = 2 then runB (b_is_route Pg) 4 ds h else none
noncomputable abbrev b__law_same (Pg : TB) : MS := (sSeq (sIf (tValM dB (eOp gIs (eVar 1) (eC .none))) (sRet (eOp gIs (eVar 0) (eC .none))) sNil) (sSeq (sIf (tValM truD (eUn (gIsi "bool") (eVar 1))) (sRet (eAnd (eUn (gIsi "bool") (eVar 0)) (eOp gEq (eVar 0) (eVar 1)))) sNil) (sSeq (fun _ _ => none) (sSeq (sIf (tValM truD (eUn (gIsi "str") (eVar 1))) (sRet (eAnd (eUn (gIsi "str") (eVar 0)) (eOp gEq (eVar 0) (eVar 1)))) sNil) (sRet (eAnd (eUn (gIsi "int") (eVar 0)) (eAnd (eUn gNot (eUn (gIsi "bool") (eVar 0))) (eOp gEq (eVar 0) (eVar 1)))))))))
noncomputable def m__law_same (Pg : TB) : MF := fun ds h => if ds.length = 2 then runB (b__law_same Pg) 4 ds h else none
noncomputable abbrev b__law_routes (Pg : TB) : MS := (sSeq (sSet 2 (eL (lLc [1] (iVal (eQX fIx (qVal (eVar 0)) (eC (.int 2)))) (gN 1) tYesM (eA fTup (aCons (eVar 1) aNil))))) (sSeq (sSet 3 (eA fLst aNil)) (sSeq (sWhile (tValM truD (eVar 2)) (sSeq (sSetOwn 4 (lDisp aNil)) (sSeq (sFor (iVal (eVar 2)) (gN 5) (sFor (iVal (eQX fIx (qVal (eVar 0)) (eC (.int 1)))) (gN 6) (sIf (tAndM (tValM dB (eXQ (fIn false) (eQX fIx (qVal (eVar 5)) (eUn gNeg (eC (.int 1)))) (qVal (eVar 6)))) (tOrM (tValM dB (eXQ (fIn true) (eQX fIx (qVal (eVar 6)) (eC (.int 0))) (qVal (eVar 5)))) (tValM dB (eXQ (fIn true) (eQX fIx (qVal (eVar 6)) (eC (.int 1))) (qVal (eVar 5)))))) (sApp 4 (eOp gCatT (eVar 5) (eA fTup (aCons (eOp gSubI (eOp gAddI (eQX fIx (qVal (eVar 6)) (eC (.int 0))) (eQX fIx (qVal (eVar 6)) (eC (.int 1)))) (eQX fIx (qVal (eVar 5)) (eUn gNeg (eC (.int 1))))) aNil)))) sNil))) (sSeq (sFz 4 (sSet 3 (eOp gCatL (eVar 3) (eL (lLc [5] (iVal (eVar 4)) (gN 5) (tAndM (tValM dB (eXQ (fIn false) (eQX fIx (qVal (eVar 5)) (eUn gNeg (eC (.int 1)))) (qVal (eQX fIx (qVal (eVar 0)) (eC (.int 2)))))) (tValM dB (eOp gLtI (eQX fIx (qVal (eVar 5)) (eC (.int 0))) (eQX fIx (qVal (eVar 5)) (eUn gNeg (eC (.int 1))))))) (eVar 5)))))) (sFz 4 (sSet 2 (eVar 4))))))) (sRet (eQ fSortA (qVal (eVar 3)))))))
noncomputable def m__law_routes (Pg : TB) : MF := fun ds h => if ds.length = 1 then runB (b__law_routes Pg) 7 ds h else none
noncomputable abbrev b__law_is_route (Pg : TB) : MS := (sSeq (sIf (tOrM (tNotM (tValM truD (eUn (gIsi "tuple") (eVar 1)))) (tValM dB (eOp gLtI (eQ fLen (qVal (eVar 1))) (eC (.int 2))))) (sRet (eC (.bool false))) sNil) (sSeq (sFor (iVal (eVar 1)) (gN 2) (sIf (tOrM (tNotM (tValM truD (eUn (gIsi "int") (eVar 2)))) (tOrM (tValM truD (eUn (gIsi "bool") (eVar 2))) (tOrM (tValM dB (eOp gGtI (eOp gCnt (eVar 1) (eVar 2)) (eC (.int 1)))) (tNotM (tValM dB (eChain gLeI gLtI (eC (.int 0)) (eVar 2) (eQX fIx (qVal (eVar 0)) (eC (.int 0))))))))) (sRet (eC (.bool false))) sNil)) (sSeq (sIf (tOrM (tValM dB (eXQ (fIn true) (eQX fIx (qVal (eVar 1)) (eC (.int 0))) (qVal (eQX fIx (qVal (eVar 0)) (eC (.int 2)))))) (tOrM (tValM dB (eXQ (fIn true) (eQX fIx (qVal (eVar 1)) (eUn gNeg (eC (.int 1)))) (qVal (eQX fIx (qVal (eVar 0)) (eC (.int 2)))))) (tValM dB (eOp gLtI (eQX fIx (qVal (eVar 1)) (eUn gNeg (eC (.int 1)))) (eQX fIx (qVal (eVar 1)) (eC (.int 0))))))) (sRet (eC (.bool false))) sNil) (sSeq (sFor (iRange2 (eC (.int 1)) (eQ fLen (qVal (eVar 1)))) (gN 3) (sIf (tValM dB (eXQ (fIn true) (eQ (fun k ds => if k then none else some (.tuple ds)) (qVal (eQ fSortA (qVal (eSl (qVal (eVar 1)) (oYes (eOp gSubI (eVar 3) (eC (.int 1)))) (oYes (eOp gAddI (eVar 3) (eC (.int 1))))))))) (qVal (eQX fIx (qVal (eVar 0)) (eC (.int 1)))))) (sRet (eC (.bool false))) sNil)) (sRet (eC (.bool true)))))))
noncomputable def m__law_is_route (Pg : TB) : MF := fun ds h => if ds.length = 2 then runB (b__law_is_route Pg) 4 ds h else none
noncomputable abbrev b_law (Pg : TB) : MS := (sSeq (sCell 1 (lDisp aNil)) (sSeq (sFor (iRange1 (eC (.int 6))) (gN 2) (sSeq (sSet 3 (eCall m__law_net (aCons (eVar 0) (aCons (eVar 1) (aCons (eC (.int 7)) (aCons (eC (.int 8)) aNil)))))) (sSeq (sSet 4 (eSl (qVal (eCall (m__law_routes Pg) (aCons (eVar 3) aNil))) oNo (oYes (eC (.int 60))))) (sSeq (sSetOwn 5 (lDisp (aCons (eC .none) (aCons (eC (.int 7)) (aCons (eA fTup aNil) (aCons (eC (.str "01")) (aCons (eA fTup (aCons (eC (.int 0)) aNil)) (aCons (eA fTup (aCons (eC (.int 0)) (aCons (eC (.int 1)) aNil))) (aCons (eA fTup (aCons (eC (.int 1)) (aCons (eC (.int 0)) aNil))) (aCons (eA fTup (aCons (eC (.int 0)) (aCons (eC (.int 0)) aNil))) (aCons (eA fTup (aCons (eC (.bool true)) (aCons (eC (.int 1)) aNil))) (aCons (eA fTup (aCons (eC (.int 0)) (aCons (eC (.bool true)) aNil))) (aCons (eA fTup (aCons (eA fTup (aCons (eC (.int 0)) (aCons (eC (.int 1)) aNil))) aNil)) (aCons (eA fLst (aCons (eC (.int 0)) (aCons (eC (.int 1)) aNil))) aNil)))))))))))))) (sSeq (sFor (iRange1 (eC (.int 6))) (gN 6) (sSeq (sSet 7 (eA fTup aNil)) (sSeq (sFor (iRange1 (eOp gAddI (eC (.int 2)) (eCall m__law_draw (aCons (eVar 0) (aCons (eVar 1) (aCons (eC (.int 3)) aNil)))))) (gN 8) (sSet 7 (eOp gCatT (eVar 7) (eA fTup (aCons (eCall m__law_draw (aCons (eVar 0) (aCons (eVar 1) (aCons (eOp gAddI (eQX fIx (qVal (eVar 3)) (eC (.int 0))) (eC (.int 1))) aNil)))) aNil))))) (sApp 5 (eVar 7))))) (sSeq (sFor (iRange1 (eOp gMulI (eC (.int 4)) (eUn gInt (eOp gNe (eVar 4) (eA fLst aNil))))) (gN 6) (sSeq (sSet 9 (eCall m__law_pick (aCons (eVar 0) (aCons (eVar 1) (aCons (eVar 4) aNil))))) (sSeq (sSet 10 (eCall m__law_draw (aCons (eVar 0) (aCons (eVar 1) (aCons (eQ fLen (qVal (eVar 9))) aNil))))) (sSeq (sSet 11 (eCall m__law_pick (aCons (eVar 0) (aCons (eVar 1) (aCons (eA fLst (aCons (eC .none) (aCons (eUn gNeg (eC (.int 1))) (aCons (eQX fIx (qVal (eVar 3)) (eC (.int 0))) (aCons (eC (.str "0")) (aCons (eA fTup aNil) (aCons (eC (.int 0)) (aCons (eC (.int 1)) (aCons (eOp gSubI (eQX fIx (qVal (eVar 3)) (eC (.int 0))) (eC (.int 1))) aNil))))))))) aNil))))) (sSeq (sSetOwn 5 (lCat (lOwn 5) (lVal (eA fLst (aCons (eVar 9) (aCons (eQ fLstQ (qVal (eVar 9))) (aCons (eRev (qVal (eVar 9))) (aCons (eSl (qVal (eVar 9)) oNo (oYes (eUn gNeg (eC (.int 1))))) (aCons (eSl (qVal (eVar 9)) (oYes (eC (.int 1))) oNo) (aCons (eOp gCatT (eVar 9) (eSl (qVal (eVar 9)) oNo (oYes (eC (.int 1))))) aNil)))))))))) (sSeq (sSetOwn 5 (lCat (lOwn 5) (lVal (eA fLst (aCons (eOp gCatT (eOp gCatT (eSl (qVal (eVar 9)) oNo (oYes (eVar 10))) (eA fTup (aCons (eVar 11) aNil))) (eSl (qVal (eVar 9)) (oYes (eOp gAddI (eVar 10) (eC (.int 1)))) oNo)) (aCons (eOp gCatT (eSl (qVal (eVar 9)) oNo (oYes (eVar 10))) (eSl (qVal (eVar 9)) (oYes (eOp gAddI (eVar 10) (eC (.int 1)))) oNo)) aNil)))))) (sSeq (sApp 5 (eOp gCatT (eOp gCatT (eSl (qVal (eVar 9)) oNo (oYes (eVar 10))) (eSl (qVal (eVar 9)) (oYes (eVar 10)) (oYes (eOp gAddI (eVar 10) (eC (.int 1)))))) (eSl (qVal (eVar 9)) (oYes (eVar 10)) oNo))) (sApp 5 (eQ (fun k ds => if k then none else some (.tuple ds)) (qVal (eL (lLc [12] (iVal (eVar 9)) (gN 12) tYesM (eIf (tValM dB (eOp gLtI (eVar 12) (eC (.int 2)))) (eOp gEq (eVar 12) (eC (.int 1))) (eVar 12)))))))))))))) (sFz 5 (sFor (iVal (eVar 5)) (gN 13) (sIf (tNotM (tValM truD (eCall (m__law_same Pg) (aCons (eCall (m_is_route Pg) (aCons (eVar 3) (aCons (eVar 13) aNil))) (aCons (eCall (m__law_is_route Pg) (aCons (eVar 3) (aCons (eVar 13) aNil))) aNil))))) (sRet (eC (.bool false))) sNil))))))))) (sRet (eC (.bool true)))))
noncomputable def m_law (Pg : TB) : MF := fun ds h => if ds.length = 1 then runB (b_law Pg) 14 ds h else none
end Q4
set_option Elab.async false
set_option linter.all false
set_option maxRecDepth 100000
namespace Q4
open PySem PySem.Spec PySem.W PyProof.Rows L2 Q
def top (i : Nat) : Stmt := PySem.Challenge.pw_probeties_k04_whole_things_as_routes.main.body.getD i (.Pass ⟨0, 0, 0, 0⟩)
theorem hu65 {k : Nat} {A : Around} (r : Room k A) : A.units + 65 < cLine := by have := r.un; omega
section
variable {P : Program} {w : World} {K : Fg} {mg : Str → Option Value} {base : Heap} {f c : Addr} {fd : FuncData} {cdv : Value}
section
variable {A : Around} {outer : List Env} {s : Shared} {H : Hp} {E : XK}
abbrev s_is_whole : Stmt := top 1
abbrev N_is_whole : List Str := ["thing"]
abbrev p_is_whole : List Str := ["thing"]
theorem sc_is_whole : FnScope N_is_whole p_is_whole (defScope s_is_whole) := ⟨rfl, rfl, rfl, by decide +kernel, rfl, by decide +kernel, by decide +kernel⟩
theorem tm_is_whole {Pg : TB} (nb : Nb mg) (nc : Nc mg) (hr : Room (0) (A.deeper (envOfC "is_whole" (defScope s_is_whole) s.heap.objs.size f (cdv)))) : SSs (cxOf CX0 P w K mg base N_is_whole "is_whole" (defScope s_is_whole) f (cdv) A outer s H E).nox (defBody s_is_whole) (b_is_whole Pg) :=
  (ss_one (ss_ret (se_and (st_isi nb nb.int bt_int rfl (se_var 0)) (se_one (se_not (st_isi nb nb.bool bt_bool rfl (se_var 0)))))))
abbrev s_is_number : Stmt := top 2
abbrev N_is_number : List Str := ["many", "thing"]
abbrev p_is_number : List Str := ["many", "thing"]
theorem sc_is_number : FnScope N_is_number p_is_number (defScope s_is_number) := ⟨rfl, rfl, rfl, by decide +kernel, rfl, by decide +kernel, by decide +kernel⟩
theorem tm_is_number {Pg : TB} (nb : Nb mg) (nc : Nc mg) (F_is_whole : FnF P w K mg base "is_whole" p_is_whole 1 (m_is_whole Pg)) (hr : Room (1) (A.deeper (envOfC "is_number" (defScope s_is_number) s.heap.objs.size f (cdv)))) : SSs (cxOf CX0 P w K mg base N_is_number "is_number" (defScope s_is_number) f (cdv) A outer s H E).nox (defBody s_is_number) (b_is_number Pg) :=
  (ss_one (ss_ret (se_and (se_fn F_is_whole hr (sa_cons (se_var 1) sa_nil)) (se_one (se_chain so_leI so_ltI se_int (se_var 1) (se_var 0))))))
abbrev s_is_rising : Stmt := top 3
abbrev N_is_rising : List Str := ["row", "before", "after"]
abbrev p_is_rising : List Str := ["row"]
theorem sc_is_rising : FnScope N_is_rising p_is_rising (defScope s_is_rising) := ⟨rfl, rfl, rfl, by decide +kernel, rfl, by decide +kernel, by decide +kernel⟩
theorem tm_is_rising {Pg : TB} (nb : Nb mg) (nc : Nc mg) (hC : CodeHd base c (Pg 0)) (hB : ∃ bm ob, BMod base mainGlobals mg bm ob) (hr : Room (1) (A.deeper (envOfC "is_rising" (defScope s_is_rising) s.heap.objs.size f (.ref c)))) : SSs (cxOf CX0 P w K mg base N_is_rising "is_rising" (defScope s_is_rising) f (.ref c) A outer s H E).nox (defBody s_is_rising) (b_is_rising Pg) :=
  (ss_one (ss_ret (se_allG (own := [("before", 1), ("after", 2)]) 0 rfl sc_is_rising.nd hr rfl hC hB rfl nb.all (si_zip rfl nb.zip (se_var 0) (se_sl (sq_val (se_var 0)) (sp_yes se_int) sp_no)) (by exact (show GBlk N_is_rising (defScope s_is_rising) _ _ from ⟨⟨rfl, by decide +kernel, by decide +kernel, by decide +kernel, by decide +kernel⟩, by decide +kernel, rfl, rfl⟩)) (fun A s H C cl cd fp hr => (sge_tup rfl (sgse_cons (sge_name 1 sc_is_rising.nd) (sgse_cons (sge_name 2 sc_is_rising.nd) sgse_nil)) (rgn_cons (rgn_cons rgn_nil)))) (fun A s H C cl cd fp hr => sts_nil) (fun A s H C cl cd fp hr => (se_cmp so_ltI (se_var 1) (se_var 2))))))
abbrev s_ordered_pair : Stmt := top 4
abbrev N_ordered_pair : List Str := ["one", "other"]
abbrev p_ordered_pair : List Str := ["one", "other"]
theorem sc_ordered_pair : FnScope N_ordered_pair p_ordered_pair (defScope s_ordered_pair) := ⟨rfl, rfl, rfl, by decide +kernel, rfl, by decide +kernel, by decide +kernel⟩
theorem tm_ordered_pair {Pg : TB} (nb : Nb mg) (nc : Nc mg) (hr : Room (0) (A.deeper (envOfC "ordered_pair" (defScope s_ordered_pair) s.heap.objs.size f (cdv)))) : SSs (cxOf CX0 P w K mg base N_ordered_pair "ordered_pair" (defScope s_ordered_pair) f (cdv) A outer s H E).nox (defBody s_ordered_pair) (b_ordered_pair Pg) :=
  (ss_one (ss_ret (se_tup (sa_cons (se_min2 rfl rfl nc.min (se_var 0) (se_var 1)) (sa_cons (se_max2 rfl rfl nc.max (se_var 0) (se_var 1)) sa_nil)))))
abbrev s_is_tied : Stmt := top 5
abbrev N_is_tied : List Str := ["net", "one", "other"]
abbrev p_is_tied : List Str := ["net", "one", "other"]
theorem sc_is_tied : FnScope N_is_tied p_is_tied (defScope s_is_tied) := ⟨rfl, rfl, rfl, by decide +kernel, rfl, by decide +kernel, by decide +kernel⟩
theorem tm_is_tied {Pg : TB} (nb : Nb mg) (nc : Nc mg) (F_ordered_pair : FnF P w K mg base "ordered_pair" p_ordered_pair 1 (m_ordered_pair Pg)) (hr : Room (1) (A.deeper (envOfC "is_tied" (defScope s_is_tied) s.heap.objs.size f (cdv)))) : SSs (cxOf CX0 P w K mg base N_is_tied "is_tied" (defScope s_is_tied) f (cdv) A outer s H E).nox (defBody s_is_tied) (b_is_tied Pg) :=
  (ss_one (ss_ret (se_in (hu65 hr) (se_fn F_ordered_pair hr (sa_cons (se_var 1) (sa_cons (se_var 2) sa_nil))) (sq_val (se_ix (sq_val (se_var 0)) se_int)))))
abbrev s_steps_of : Stmt := top 7
abbrev N_steps_of : List Str := ["way"]
abbrev p_steps_of : List Str := ["way"]
theorem sc_steps_of : FnScope N_steps_of p_steps_of (defScope s_steps_of) := ⟨rfl, rfl, rfl, by decide +kernel, rfl, by decide +kernel, by decide +kernel⟩
theorem tm_steps_of {Pg : TB} (nb : Nb mg) (nc : Nc mg) (hr : Room (0) (A.deeper (envOfC "steps_of" (defScope s_steps_of) s.heap.objs.size f (cdv)))) : SSs (cxOf CX0 P w K mg base N_steps_of "steps_of" (defScope s_steps_of) f (cdv) A outer s H E).nox (defBody s_steps_of) (b_steps_of Pg) :=
  (ss_one (ss_ret (se_lzip rfl rfl nb.list rfl nb.zip (se_var 0) (se_sl (sq_val (se_var 0)) (sp_yes se_int) sp_no))))
abbrev s_are_unlike_knots : Stmt := top 8
abbrev N_are_unlike_knots : List Str := ["many", "thing", "knot"]
abbrev p_are_unlike_knots : List Str := ["many", "thing"]
theorem sc_are_unlike_knots : FnScope N_are_unlike_knots p_are_unlike_knots (defScope s_are_unlike_knots) := ⟨rfl, rfl, rfl, by decide +kernel, rfl, by decide +kernel, by decide +kernel⟩
theorem tm_are_unlike_knots {Pg : TB} (nb : Nb mg) (nc : Nc mg) (hC : CodeHd base c (Pg 1)) (hB : ∃ bm ob, BMod base mainGlobals mg bm ob) (F_is_number : FnF P w K mg base "is_number" p_is_number 2 (m_is_number Pg)) (F_is_rising : FnF P w K mg base "is_rising" p_is_rising 2 (m_is_rising Pg)) (hr : Room (3) (A.deeper (envOfC "are_unlike_knots" (defScope s_are_unlike_knots) s.heap.objs.size f (.ref c)))) : SSs (cxOf CX0 P w K mg base N_are_unlike_knots "are_unlike_knots" (defScope s_are_unlike_knots) f (.ref c) A outer s H E).nox (defBody s_are_unlike_knots) (b_are_unlike_knots Pg) :=
  (ss_cons (ss_if (SW.st (sw_or (st_not (st_truth (st_isi nb nb.tuple bt_tuple rfl (se_var 1)))) (sw_or1 (st_not (st_truth (se_allG (own := [("knot", 2)]) 1 rfl sc_are_unlike_knots.nd hr rfl hC hB rfl nb.all (si_val (se_var 1)) (by exact (show GBlk N_are_unlike_knots (defScope s_are_unlike_knots) _ _ from ⟨⟨rfl, by decide +kernel, by decide +kernel, by decide +kernel, by decide +kernel⟩, by decide +kernel, rfl, rfl⟩)) (fun A s H C cl cd fp hr => (sge_name 2 sc_are_unlike_knots.nd)) (fun A s H C cl cd fp hr => sts_nil) (fun A s H C cl cd fp hr => (se_fn F_is_number hr (sa_cons (se_var 0) (sa_cons (se_var 2) sa_nil)))))))))) (ss_one (ss_ret se_bl)) ss_nil) (ss_one (ss_ret (se_fn F_is_rising hr (sa_cons (se_sortA rfl nb.sorted (sq_val (se_var 1))) sa_nil)))))
abbrev s_has_route_ends : Stmt := top 9
abbrev N_has_route_ends : List Str := ["net", "way", "first", "last"]
abbrev p_has_route_ends : List Str := ["net", "way"]
theorem sc_has_route_ends : FnScope N_has_route_ends p_has_route_ends (defScope s_has_route_ends) := ⟨rfl, rfl, rfl, by decide +kernel, rfl, by decide +kernel, by decide +kernel⟩
theorem tm_has_route_ends {Pg : TB} (nb : Nb mg) (nc : Nc mg) (hr : Room (0) (A.deeper (envOfC "has_route_ends" (defScope s_has_route_ends) s.heap.objs.size f (cdv)))) : SSs (cxOf CX0 P w K mg base N_has_route_ends "has_route_ends" (defScope s_has_route_ends) f (cdv) A outer s H E).nox (defBody s_has_route_ends) (b_has_route_ends Pg) :=
  (ss_cons (ss_set 2 sc_has_route_ends.nd (se_ix (sq_val (se_var 1)) se_int)) (ss_cons (ss_set 3 sc_has_route_ends.nd (se_ix (sq_val (se_var 1)) (se_neg se_int))) (ss_one (ss_ret (se_and (se_in (hu65 hr) (se_var 2) (sq_val (se_ix (sq_val (se_var 0)) se_int))) (se_and (se_in (hu65 hr) (se_var 3) (sq_val (se_ix (sq_val (se_var 0)) se_int))) (se_one (se_cmp so_ltI (se_var 2) (se_var 3)))))))))
abbrev s_is_route : Stmt := top 10
abbrev N_is_route : List Str := ["net", "thing", "one", "other"]
abbrev p_is_route : List Str := ["net", "thing"]
theorem sc_is_route : FnScope N_is_route p_is_route (defScope s_is_route) := ⟨rfl, rfl, rfl, by decide +kernel, rfl, by decide +kernel, by decide +kernel⟩
theorem tm_is_route {Pg : TB} (nb : Nb mg) (nc : Nc mg) (hC : CodeHd base c (Pg 2)) (hB : ∃ bm ob, BMod base mainGlobals mg bm ob) (F_are_unlike_knots : FnF P w K mg base "are_unlike_knots" p_are_unlike_knots 4 (m_are_unlike_knots Pg)) (F_has_route_ends : FnF P w K mg base "has_route_ends" p_has_route_ends 1 (m_has_route_ends Pg)) (F_steps_of : FnF P w K mg base "steps_of" p_steps_of 1 (m_steps_of Pg)) (F_is_tied : FnF P w K mg base "is_tied" p_is_tied 2 (m_is_tied Pg)) (hr : Room (4) (A.deeper (envOfC "is_route" (defScope s_is_route) s.heap.objs.size f (.ref c)))) : SSs (cxOf CX0 P w K mg base N_is_route "is_route" (defScope s_is_route) f (.ref c) A outer s H E).nox (defBody s_is_route) (b_is_route Pg) :=
  (ss_cons (ss_if (SW.st (sw_or (st_not (st_truth (se_fn F_are_unlike_knots hr (sa_cons (se_ix (sq_val (se_var 0)) se_int) (sa_cons (se_var 1) sa_nil))))) (sw_or1 (st_cmp so_ltI (se_len rfl nb.len (sq_val (se_var 1))) se_int)))) (ss_one (ss_ret se_bl)) ss_nil) (ss_one (ss_ret (se_and (se_fn F_has_route_ends hr (sa_cons (se_var 0) (sa_cons (se_var 1) sa_nil))) (se_one (se_allG (own := [("one", 2), ("other", 3)]) 2 rfl sc_is_route.nd hr rfl hC hB rfl nb.all (si_val (se_fn F_steps_of hr (sa_cons (se_var 1) sa_nil))) (by exact (show GBlk N_is_route (defScope s_is_route) _ _ from ⟨⟨rfl, by decide +kernel, by decide +kernel, by decide +kernel, by decide +kernel⟩, by decide +kernel, rfl, rfl⟩)) (fun A s H C cl cd fp hr => (sge_tup rfl (sgse_cons (sge_name 2 sc_is_route.nd) (sgse_cons (sge_name 3 sc_is_route.nd) sgse_nil)) (rgn_cons (rgn_cons rgn_nil)))) (fun A s H C cl cd fp hr => sts_nil) (fun A s H C cl cd fp hr => (se_fn F_is_tied hr (sa_cons (se_var 0) (sa_cons (se_var 2) (sa_cons (se_var 3) sa_nil)))))))))))
abbrev s__law_same : Stmt := top 12
abbrev N__law_same : List Str := ["_law_got", "_law_due", "_law_one", "_law_other"]
abbrev p__law_same : List Str := ["_law_got", "_law_due"]
theorem sc__law_same : FnScope N__law_same p__law_same (defScope s__law_same) := ⟨rfl, rfl, rfl, by decide +kernel, rfl, by decide +kernel, by decide +kernel⟩
theorem tm__law_same {Pg : TB} (nb : Nb mg) (nc : Nc mg) (hr : Room (0) (A.deeper (envOfC "_law_same" (defScope s__law_same) s.heap.objs.size f (cdv)))) : SSs (cxOf CX0 P w K mg base N__law_same "_law_same" (defScope s__law_same) f (cdv) A outer s H E).nox (defBody s__law_same) (b__law_same Pg) :=
  (ss_cons (ss_if (st_cmp so_is (se_var 1) se_non) (ss_one (ss_ret (se_cmp so_is (se_var 0) se_non))) ss_nil) (ss_cons (ss_if (st_truth (st_isi nb nb.bool bt_bool rfl (se_var 1))) (ss_one (ss_ret (se_and (st_isi nb nb.bool bt_bool rfl (se_var 0)) (se_one (se_cmp (so_eq hr.units) (se_var 0) (se_var 1)))))) ss_nil) (ss_cons ss_never (ss_cons (ss_if (st_truth (st_isi nb nb.str bt_str rfl (se_var 1))) (ss_one (ss_ret (se_and (st_isi nb nb.str bt_str rfl (se_var 0)) (se_one (se_cmp (so_eq hr.units) (se_var 0) (se_var 1)))))) ss_nil) (ss_one (ss_ret (se_and (st_isi nb nb.int bt_int rfl (se_var 0)) (se_and (se_not (st_isi nb nb.bool bt_bool rfl (se_var 0))) (se_one (se_cmp (so_eq hr.units) (se_var 0) (se_var 1)))))))))))
abbrev s__law_draw : Stmt := top 13
abbrev N__law_draw : List Str := ["_law_script", "_law_town", "_law_many", "_law_k", "_law_cell", "_law_number"]
abbrev p__law_draw : List Str := ["_law_script", "_law_town", "_law_many"]
theorem sc__law_draw : FnScope N__law_draw p__law_draw (defScope s__law_draw) := ⟨rfl, rfl, rfl, by decide +kernel, rfl, by decide +kernel, by decide +kernel⟩
theorem tm__law_draw (nb : Nb mg) (nc : Nc mg) (hr : Room (0) (A.deeper (envOfC "_law_draw" (defScope s__law_draw) s.heap.objs.size f (cdv)))) : SSs (cxOf CX0 P w K mg base N__law_draw "_law_draw" (defScope s__law_draw) f (cdv) A outer s H E).nox (defBody s__law_draw) (b__law_draw) :=
  (ss_cons (ss_app 1 se_int) (ss_cons (ss_set 3 sc__law_draw.nd (se_lenC rfl nb.len (se_var 1))) (ss_cons (ss_set 4 sc__law_draw.nd se_int) (ss_cons (ss_if (st_truth (se_var 0)) (ss_one (ss_set 4 sc__law_draw.nd (se_ix (sq_val (se_var 0)) (se_op so_modI (se_var 3) (se_len rfl nb.len (sq_val (se_var 0))))))) ss_nil) (ss_cons (ss_set 5 sc__law_draw.nd (se_op so_modI (se_op so_addI (se_var 4) (se_op so_mulI se_int (se_var 3))) se_int)) (ss_cons (ss_set 5 sc__law_draw.nd (se_op so_modI (se_op so_mulI (se_op so_modI (se_op so_mulI (se_var 5) (se_var 5)) se_int) se_int) se_int)) (ss_one (ss_ret (se_op so_modI (se_op so_divI (se_var 5) se_int) (se_var 2))))))))))
abbrev s__law_pick : Stmt := top 14
abbrev N__law_pick : List Str := ["_law_script", "_law_town", "_law_some"]
abbrev p__law_pick : List Str := ["_law_script", "_law_town", "_law_some"]
theorem sc__law_pick : FnScope N__law_pick p__law_pick (defScope s__law_pick) := ⟨rfl, rfl, rfl, by decide +kernel, rfl, by decide +kernel, by decide +kernel⟩
theorem tm__law_pick (nb : Nb mg) (nc : Nc mg) (F__law_draw : FnF P w K mg base "_law_draw" p__law_draw 1 (m__law_draw)) (hr : Room (1) (A.deeper (envOfC "_law_pick" (defScope s__law_pick) s.heap.objs.size f (cdv)))) : SSs (cxOf CX0 P w K mg base N__law_pick "_law_pick" (defScope s__law_pick) f (cdv) A outer s H E).nox (defBody s__law_pick) (b__law_pick) :=
  (ss_one (ss_ret (se_ix (sq_val (se_var 2)) (se_fn F__law_draw hr (sa_cons (se_var 0) (sa_cons (se_var 1) (sa_cons (se_len rfl nb.len (sq_val (se_var 2))) sa_nil)))))))
abbrev s__law_net : Stmt := top 15
abbrev N__law_net : List Str := ["_law_script", "_law_town", "_law_high", "_law_wide", "_law_many", "_law_every", "_law_one", "_law_other", "_law_ties_here", "_law_knot", "_law_k", "_law_rim"]
abbrev p__law_net : List Str := ["_law_script", "_law_town", "_law_high", "_law_wide"]
theorem sc__law_net : FnScope N__law_net p__law_net (defScope s__law_net) := ⟨rfl, rfl, rfl, by decide +kernel, rfl, by decide +kernel, by decide +kernel⟩
theorem tm__law_net (nb : Nb mg) (nc : Nc mg) (F__law_draw : FnF P w K mg base "_law_draw" p__law_draw 1 (m__law_draw)) (F__law_pick : FnF P w K mg base "_law_pick" p__law_pick 2 (m__law_pick)) (hr : Room (2) (A.deeper (envOfC "_law_net" (defScope s__law_net) s.heap.objs.size f (cdv)))) : SSs (cxOf CX0 P w K mg base N__law_net "_law_net" (defScope s__law_net) f (cdv) A outer s H E).nox (defBody s__law_net) (b__law_net) :=
  (ss_cons (ss_set 4 sc__law_net.nd (se_op so_addI se_int (se_fn F__law_draw hr (sa_cons (se_var 0) (sa_cons (se_var 1) (sa_cons (se_var 2) sa_nil)))))) (ss_cons (ss_set 5 sc__law_net.nd (se_lst sa_nil)) (ss_cons (ss_for PassesOwn.never rfl (si_range1 rfl nb.range (se_var 4)) (sg_name 6 sc__law_net.nd) (ss_one (ss_set 5 sc__law_net.nd (se_op so_catL (se_var 5) (SL.se (sl_lc (own := [("_law_other", 7)]) rfl sc__law_net.nd (si_range2 rfl nb.range (se_op so_addI (se_var 6) se_int) (se_var 4)) (by exact (show BlkOk N__law_net (defScope s__law_net) _ _ from ⟨rfl, by decide +kernel, by decide +kernel, by decide +kernel, by decide +kernel⟩)) (fun s H C cl fp => (sge_name 7 sc__law_net.nd)) (fun s H C cl fp => sts_nil) (fun s H C cl fp => (se_tup (sa_cons (se_var 6) (sa_cons (se_var 7) sa_nil)))))))))) (ss_cons (ss_newT 8 sc__law_net.nd) (ss_cons (ss_if (st_cmp so_gtI (se_fn F__law_draw hr (sa_cons (se_var 0) (sa_cons (se_var 1) (sa_cons se_int sa_nil)))) se_int) (ss_one (ss_for PassesOwn.never rfl (si_range2 rfl nb.range se_int (se_var 4)) (sg_name 9 sc__law_net.nd) (ss_cons (ss_set 7 sc__law_net.nd (se_fn F__law_draw hr (sa_cons (se_var 0) (sa_cons (se_var 1) (sa_cons (se_var 9) sa_nil))))) (ss_one (ss_putT 8 (hu_of hr) (se_tup (sa_cons (se_var 7) (sa_cons (se_var 9) sa_nil))) se_int))))) ss_nil) (ss_cons (ss_for PassesOwn.never rfl (si_range1 rfl nb.range (se_fn F__law_draw hr (sa_cons (se_var 0) (sa_cons (se_var 1) (sa_cons (se_op so_addI (se_var 3) se_int) sa_nil))))) (sg_name 10 sc__law_net.nd) (ss_one (ss_if (SW.st (sw_and (st_truth (se_var 5)) (sw_and1 (st_cmp so_ltI (se_lenT 8 rfl nb.len) (se_var 3))))) (ss_one (ss_putT 8 (hu_of hr) (se_fn F__law_pick hr (sa_cons (se_var 0) (sa_cons (se_var 1) (sa_cons (se_var 5) sa_nil)))) se_int)) ss_nil))) (ss_cons (by first | exact ss_setLc (own := [("_law_knot", 9)]) 11 rfl sc__law_net.nd (si_range1 rfl nb.range (se_var 4)) (by exact (show BlkOk N__law_net (defScope s__law_net) _ _ from ⟨rfl, by decide +kernel, by decide +kernel, by decide +kernel, by decide +kernel⟩)) (fun s H C cl fp => (sge_name 9 sc__law_net.nd)) (fun s H C cl fp => (sts_one (st_cmp (so_eq hr.units) (se_fn F__law_draw hr (sa_cons (se_var 0) (sa_cons (se_var 1) (sa_cons se_int sa_nil)))) se_int))) (fun s H C cl fp => (se_var 9)) rfl | exact ss_set 11 sc__law_net.nd (SL.se (sl_lc (own := [("_law_knot", 9)]) rfl sc__law_net.nd (si_range1 rfl nb.range (se_var 4)) (by exact (show BlkOk N__law_net (defScope s__law_net) _ _ from ⟨rfl, by decide +kernel, by decide +kernel, by decide +kernel, by decide +kernel⟩)) (fun s H C cl fp => (sge_name 9 sc__law_net.nd)) (fun s H C cl fp => (sts_one (st_cmp (so_eq hr.units) (se_fn F__law_draw hr (sa_cons (se_var 0) (sa_cons (se_var 1) (sa_cons se_int sa_nil)))) se_int))) (fun s H C cl fp => (se_var 9))))) (ss_cons (ss_if (st_not (st_truth (se_var 11))) (ss_one (ss_set 11 sc__law_net.nd (se_lst (sa_cons (se_fn F__law_draw hr (sa_cons (se_var 0) (sa_cons (se_var 1) (sa_cons (se_var 4) sa_nil)))) sa_nil)))) ss_nil) (ss_one (ss_ret (se_tup (sa_cons (se_var 4) (sa_cons (se_sl (sq_val (se_tupleL rfl nb.tuple (sq_val (se_sortD 8 rfl rfl nb.sorted)))) sp_no (sp_yes (se_var 3))) (sa_cons (se_tupleL rfl nb.tuple (sq_val (se_var 11))) sa_nil))))))))))))))
abbrev s__law_routes : Stmt := top 16
abbrev N__law_routes : List Str := ["_law_net_here", "_law_knot", "_law_rows", "_law_got", "_law_longer", "_law_row", "_law_tie"]
abbrev p__law_routes : List Str := ["_law_net_here"]
theorem sc__law_routes : FnScope N__law_routes p__law_routes (defScope s__law_routes) := ⟨rfl, rfl, rfl, by decide +kernel, rfl, by decide +kernel, by decide +kernel⟩
theorem tm__law_routes {Pg : TB} (nb : Nb mg) (nc : Nc mg) (hr : Room (0) (A.deeper (envOfC "_law_routes" (defScope s__law_routes) s.heap.objs.size f (cdv)))) : SSs (cxOf CX0 P w K mg base N__law_routes "_law_routes" (defScope s__law_routes) f (cdv) A outer s H E).nox (defBody s__law_routes) (b__law_routes Pg) :=
  (ss_cons (by first | exact ss_setLc (own := [("_law_knot", 1)]) 2 rfl sc__law_routes.nd (si_val (se_ix (sq_val (se_var 0)) se_int)) (by exact (show BlkOk N__law_routes (defScope s__law_routes) _ _ from ⟨rfl, by decide +kernel, by decide +kernel, by decide +kernel, by decide +kernel⟩)) (fun s H C cl fp => (sge_name 1 sc__law_routes.nd)) (fun s H C cl fp => sts_nil) (fun s H C cl fp => (se_tup (sa_cons (se_var 1) sa_nil))) rfl | exact ss_set 2 sc__law_routes.nd (SL.se (sl_lc (own := [("_law_knot", 1)]) rfl sc__law_routes.nd (si_val (se_ix (sq_val (se_var 0)) se_int)) (by exact (show BlkOk N__law_routes (defScope s__law_routes) _ _ from ⟨rfl, by decide +kernel, by decide +kernel, by decide +kernel, by decide +kernel⟩)) (fun s H C cl fp => (sge_name 1 sc__law_routes.nd)) (fun s H C cl fp => sts_nil) (fun s H C cl fp => (se_tup (sa_cons (se_var 1) sa_nil)))))) (ss_cons (ss_set 3 sc__law_routes.nd (se_lst sa_nil)) (ss_cons (ss_while PassesOwn.never (st_truth (se_var 2)) (ss_cons (ss_setOwn 4 sc__law_routes.nd (sl_disp sa_nil)) (ss_cons (ss_for PassesOwn.never rfl (si_val (se_var 2)) (sg_name 5 sc__law_routes.nd) (ss_one (ss_for PassesOwn.never rfl (si_val (se_ix (sq_val (se_var 0)) se_int)) (sg_name 6 sc__law_routes.nd) (ss_one (ss_if (SW.st (sw_and (st_in (hu65 hr) (se_ix (sq_val (se_var 5)) (se_neg se_int)) (sq_val (se_var 6))) (sw_and1 (SW.st (sw_or (st_notIn (hu65 hr) (se_ix (sq_val (se_var 6)) se_int) (sq_val (se_var 5))) (sw_or1 (st_notIn (hu65 hr) (se_ix (sq_val (se_var 6)) se_int) (sq_val (se_var 5))))))))) (ss_one (ss_app 4 (se_op so_catT (se_var 5) (se_tup (sa_cons (se_op so_subI (se_op so_addI (se_ix (sq_val (se_var 6)) se_int) (se_ix (sq_val (se_var 6)) se_int)) (se_ix (sq_val (se_var 5)) (se_neg se_int))) sa_nil))))) ss_nil))))) (ss_cons (ss_fz 4 (ss_set 3 sc__law_routes.nd (se_op so_catL (se_var 3) (SL.se (sl_lc (own := [("_law_row", 5)]) rfl sc__law_routes.nd (si_val (se_var 4)) (by exact (show BlkOk N__law_routes (defScope s__law_routes) _ _ from ⟨rfl, by decide +kernel, by decide +kernel, by decide +kernel, by decide +kernel⟩)) (fun s H C cl fp => (sge_name 5 sc__law_routes.nd)) (fun s H C cl fp => (sts_one (SW.st (sw_and (st_in (hu65 hr) (se_ix (sq_val (se_var 5)) (se_neg se_int)) (sq_val (se_ix (sq_val (se_var 0)) se_int))) (sw_and1 (st_cmp so_ltI (se_ix (sq_val (se_var 5)) se_int) (se_ix (sq_val (se_var 5)) (se_neg se_int)))))))) (fun s H C cl fp => (se_var 5))))))) (ss_one (ss_fz 4 (ss_set 2 sc__law_routes.nd (se_var 4)))))))) (ss_one (ss_ret (se_sortA rfl nb.sorted (sq_val (se_var 3))))))))
abbrev s__law_is_route : Stmt := top 19
abbrev N__law_is_route : List Str := ["_law_net_here", "_law_thing", "_law_one", "_law_at"]
abbrev p__law_is_route : List Str := ["_law_net_here", "_law_thing"]
theorem sc__law_is_route : FnScope N__law_is_route p__law_is_route (defScope s__law_is_route) := ⟨rfl, rfl, rfl, by decide +kernel, rfl, by decide +kernel, by decide +kernel⟩
theorem tm__law_is_route {Pg : TB} (nb : Nb mg) (nc : Nc mg) (hr : Room (0) (A.deeper (envOfC "_law_is_route" (defScope s__law_is_route) s.heap.objs.size f (cdv)))) : SSs (cxOf CX0 P w K mg base N__law_is_route "_law_is_route" (defScope s__law_is_route) f (cdv) A outer s H E).nox (defBody s__law_is_route) (b__law_is_route Pg) :=
  (ss_cons (ss_if (SW.st (sw_or (st_not (st_truth (st_isi nb nb.tuple bt_tuple rfl (se_var 1)))) (sw_or1 (st_cmp so_ltI (se_len rfl nb.len (sq_val (se_var 1))) se_int)))) (ss_one (ss_ret se_bl)) ss_nil) (ss_cons (ss_for PassesOwn.never rfl (si_val (se_var 1)) (sg_name 2 sc__law_is_route.nd) (ss_one (ss_if (SW.st (sw_or (st_not (st_truth (st_isi nb nb.int bt_int rfl (se_var 2)))) (sw_or (st_truth (st_isi nb nb.bool bt_bool rfl (se_var 2))) (sw_or (st_cmp so_gtI (se_cnt (hu65 hr) (se_var 1) (se_var 2)) se_int) (sw_or1 (st_not (st_chain so_leI so_ltI se_int (se_var 2) (se_ix (sq_val (se_var 0)) se_int)))))))) (ss_one (ss_ret se_bl)) ss_nil))) (ss_cons (ss_if (SW.st (sw_or (st_notIn (hu65 hr) (se_ix (sq_val (se_var 1)) se_int) (sq_val (se_ix (sq_val (se_var 0)) se_int))) (sw_or (st_notIn (hu65 hr) (se_ix (sq_val (se_var 1)) (se_neg se_int)) (sq_val (se_ix (sq_val (se_var 0)) se_int))) (sw_or1 (st_cmp so_ltI (se_ix (sq_val (se_var 1)) (se_neg se_int)) (se_ix (sq_val (se_var 1)) se_int)))))) (ss_one (ss_ret se_bl)) ss_nil) (ss_cons (ss_for PassesOwn.never rfl (si_range2 rfl nb.range se_int (se_len rfl nb.len (sq_val (se_var 1)))) (sg_name 3 sc__law_is_route.nd) (ss_one (ss_if (st_notIn (hu65 hr) (se_tupleL rfl nb.tuple (sq_val (se_sortA rfl nb.sorted (sq_val (se_sl (sq_val (se_var 1)) (sp_yes (se_op so_subI (se_var 3) se_int)) (sp_yes (se_op so_addI (se_var 3) se_int))))))) (sq_val (se_ix (sq_val (se_var 0)) se_int))) (ss_one (ss_ret se_bl)) ss_nil))) (ss_one (ss_ret se_bl))))))
abbrev s_law : Stmt := top 20
abbrev N_law : List Str := ["_law_script", "_law_town", "_law_k", "_law_net_here", "_law_every", "_law_things", "_law_j", "_law_row", "_law_spot", "_law_route", "_law_at", "_law_odd", "_law_one", "_law_thing"]
abbrev p_law : List Str := ["_law_script"]
theorem sc_law : FnScope N_law p_law (defScope s_law) := ⟨rfl, rfl, rfl, by decide +kernel, rfl, by decide +kernel, by decide +kernel⟩
theorem tm_law {Pg : TB} (nb : Nb mg) (nc : Nc mg) (F__law_net : FnF P w K mg base "_law_net" p__law_net 3 (m__law_net)) (F__law_routes : FnF P w K mg base "_law_routes" p__law_routes 1 (m__law_routes Pg)) (F__law_draw : FnF P w K mg base "_law_draw" p__law_draw 1 (m__law_draw)) (F__law_pick : FnF P w K mg base "_law_pick" p__law_pick 2 (m__law_pick)) (F__law_same : FnF P w K mg base "_law_same" p__law_same 1 (m__law_same Pg)) (F__law_is_route : FnF P w K mg base "_law_is_route" p__law_is_route 1 (m__law_is_route Pg)) (F_is_route : FnF P w K mg base "is_route" p_is_route 5 (m_is_route Pg)) (hr : Room (7) (A.deeper (envOfC "law" (defScope s_law) s.heap.objs.size f (cdv)))) : SSs (cxOf CX0 P w K mg base N_law "law" (defScope s_law) f (cdv) A outer s H E).nox (defBody s_law) (b_law Pg) :=
  (ss_cons (ss_cell 1 sc_law.nd (sl_disp sa_nil)) (ss_cons (ss_for PassesOwn.never rfl (si_range1 rfl nb.range se_int) (sg_name 2 sc_law.nd) (ss_cons (ss_set 3 sc_law.nd (se_fn F__law_net hr (sa_cons (se_var 0) (sa_cons (se_var 1) (sa_cons se_int (sa_cons se_int sa_nil)))))) (ss_cons (ss_set 4 sc_law.nd (se_sl (sq_val (se_fn F__law_routes hr (sa_cons (se_var 3) sa_nil))) sp_no (sp_yes se_int))) (ss_cons (ss_setOwn 5 sc_law.nd (sl_disp (sa_cons se_non (sa_cons se_int (sa_cons (se_tup sa_nil) (sa_cons se_str (sa_cons (se_tup (sa_cons se_int sa_nil)) (sa_cons (se_tup (sa_cons se_int (sa_cons se_int sa_nil))) (sa_cons (se_tup (sa_cons se_int (sa_cons se_int sa_nil))) (sa_cons (se_tup (sa_cons se_int (sa_cons se_int sa_nil))) (sa_cons (se_tup (sa_cons se_bl (sa_cons se_int sa_nil))) (sa_cons (se_tup (sa_cons se_int (sa_cons se_bl sa_nil))) (sa_cons (se_tup (sa_cons (se_tup (sa_cons se_int (sa_cons se_int sa_nil))) sa_nil)) (sa_cons (se_lst (sa_cons se_int (sa_cons se_int sa_nil))) sa_nil)))))))))))))) (ss_cons (ss_for PassesOwn.never rfl (si_range1 rfl nb.range se_int) (sg_name 6 sc_law.nd) (ss_cons (ss_set 7 sc_law.nd (se_tup sa_nil)) (ss_cons (ss_for PassesOwn.never rfl (si_range1 rfl nb.range (se_op so_addI se_int (se_fn F__law_draw hr (sa_cons (se_var 0) (sa_cons (se_var 1) (sa_cons se_int sa_nil)))))) (sg_name 8 sc_law.nd) (ss_one (ss_set 7 sc_law.nd (se_op so_catT (se_var 7) (se_tup (sa_cons (se_fn F__law_draw hr (sa_cons (se_var 0) (sa_cons (se_var 1) (sa_cons (se_op so_addI (se_ix (sq_val (se_var 3)) se_int) se_int) sa_nil)))) sa_nil)))))) (ss_one (ss_app 5 (se_var 7)))))) (ss_cons (ss_for PassesOwn.never rfl (si_range1 rfl nb.range (se_op so_mulI se_int (se_int1 rfl nb.int (se_cmp (so_ne hr.units) (se_var 4) (se_lst sa_nil))))) (sg_name 6 sc_law.nd) (ss_cons (ss_set 9 sc_law.nd (se_fn F__law_pick hr (sa_cons (se_var 0) (sa_cons (se_var 1) (sa_cons (se_var 4) sa_nil))))) (ss_cons (ss_set 10 sc_law.nd (se_fn F__law_draw hr (sa_cons (se_var 0) (sa_cons (se_var 1) (sa_cons (se_len rfl nb.len (sq_val (se_var 9))) sa_nil))))) (ss_cons (ss_set 11 sc_law.nd (se_fn F__law_pick hr (sa_cons (se_var 0) (sa_cons (se_var 1) (sa_cons (se_lst (sa_cons se_non (sa_cons (se_neg se_int) (sa_cons (se_ix (sq_val (se_var 3)) se_int) (sa_cons se_str (sa_cons (se_tup sa_nil) (sa_cons se_int (sa_cons se_int (sa_cons (se_op so_subI (se_ix (sq_val (se_var 3)) se_int) se_int) sa_nil))))))))) sa_nil))))) (ss_cons (ss_setOwn 5 sc_law.nd (sl_cat (slo_own 5) (slo_val (se_lst (sa_cons (se_var 9) (sa_cons (se_listQ rfl nb.list (sq_val (se_var 9))) (sa_cons (se_rev (sq_val (se_var 9))) (sa_cons (se_sl (sq_val (se_var 9)) sp_no (sp_yes (se_neg se_int))) (sa_cons (se_sl (sq_val (se_var 9)) (sp_yes se_int) sp_no) (sa_cons (se_op so_catT (se_var 9) (se_sl (sq_val (se_var 9)) sp_no (sp_yes se_int))) sa_nil)))))))))) (ss_cons (ss_setOwn 5 sc_law.nd (sl_cat (slo_own 5) (slo_val (se_lst (sa_cons (se_op so_catT (se_op so_catT (se_sl (sq_val (se_var 9)) sp_no (sp_yes (se_var 10))) (se_tup (sa_cons (se_var 11) sa_nil))) (se_sl (sq_val (se_var 9)) (sp_yes (se_op so_addI (se_var 10) se_int)) sp_no)) (sa_cons (se_op so_catT (se_sl (sq_val (se_var 9)) sp_no (sp_yes (se_var 10))) (se_sl (sq_val (se_var 9)) (sp_yes (se_op so_addI (se_var 10) se_int)) sp_no)) sa_nil)))))) (ss_cons (ss_app 5 (se_op so_catT (se_op so_catT (se_sl (sq_val (se_var 9)) sp_no (sp_yes (se_var 10))) (se_sl (sq_val (se_var 9)) (sp_yes (se_var 10)) (sp_yes (se_op so_addI (se_var 10) se_int)))) (se_sl (sq_val (se_var 9)) (sp_yes (se_var 10)) sp_no))) (ss_one (ss_app 5 (se_tupleL rfl nb.tuple (sq_val (SL.se (sl_lc (own := [("_law_one", 12)]) rfl sc_law.nd (si_val (se_var 9)) (by exact (show BlkOk N_law (defScope s_law) _ _ from ⟨rfl, by decide +kernel, by decide +kernel, by decide +kernel, by decide +kernel⟩)) (fun s H C cl fp => (sge_name 12 sc_law.nd)) (fun s H C cl fp => sts_nil) (fun s H C cl fp => (se_if (st_cmp so_ltI (se_var 12) se_int) (se_cmp (so_eq hr.units) (se_var 12) se_int) (se_var 12)))))))))))))))) (ss_one (ss_fz 5 (ss_for PassesOwn.never rfl (si_val (se_var 5)) (sg_name 13 sc_law.nd) (ss_one (ss_if (st_not (st_truth (se_fn F__law_same hr (sa_cons (se_fn F_is_route hr (sa_cons (se_var 3) (sa_cons (se_var 13) sa_nil))) (sa_cons (se_fn F__law_is_route hr (sa_cons (se_var 3) (sa_cons (se_var 13) sa_nil))) sa_nil))))) (ss_one (ss_ret se_bl)) ss_nil))))))))))) (ss_one (ss_ret se_bl))))
end
theorem ln_1 {m : MF} {n k : Nat} {b : MS} (e : m = fun ds h => if ds.length = k then runB b n ds h else none) : ∀ ds h r, m ds h = some r → ds.length = k := by
  intro ds h r q
  rw [e] at q
  dsimp only at q
  split at q
  · assumption
  · cases q
theorem eq_1 {m : MF} {n k : Nat} {b : MS} (e : m = fun ds h => if ds.length = k then runB b n ds h else none) : ∀ ds h r, m ds h = some r → runB b n ds h = some r := by
  intro ds h r q
  rw [e] at q
  dsimp only at q
  split at q
  · exact q
  · cases q
theorem ok_is_whole {Pg : TB} (nb : Nb mg) (nc : Nc mg) (F : FunC K "is_whole" "is_whole" s_is_whole f fd cdv) : FnOk P w K mg base CX0 1 f fd p_is_whole (spOf K (m_is_whole Pg)) :=
  fnc_ok F sc_is_whole (m_is_whole Pg) (ln_1 rfl) fun A outer s H E hr => ⟨_, tm_is_whole nb nc hr, eq_1 rfl⟩
theorem ok_is_number {Pg : TB} (nb : Nb mg) (nc : Nc mg) (F_is_whole : FnF P w K mg base "is_whole" p_is_whole 1 (m_is_whole Pg)) (F : FunC K "is_number" "is_number" s_is_number f fd cdv) : FnOk P w K mg base CX0 2 f fd p_is_number (spOf K (m_is_number Pg)) :=
  fnc_ok F sc_is_number (m_is_number Pg) (ln_1 rfl) fun A outer s H E hr => ⟨_, tm_is_number nb nc F_is_whole hr, eq_1 rfl⟩
theorem ok_is_rising {Pg : TB} (nb : Nb mg) (nc : Nc mg) (hC : CodeHd base c (Pg 0)) (hB : ∃ bm ob, BMod base mainGlobals mg bm ob) (F : FunC K "is_rising" "is_rising" s_is_rising f fd (.ref c)) : FnOk P w K mg base CX0 2 f fd p_is_rising (spOf K (m_is_rising Pg)) :=
  fnc_ok F sc_is_rising (m_is_rising Pg) (ln_1 rfl) fun A outer s H E hr => ⟨_, tm_is_rising nb nc hC hB hr, eq_1 rfl⟩
theorem ok_ordered_pair {Pg : TB} (nb : Nb mg) (nc : Nc mg) (F : FunC K "ordered_pair" "ordered_pair" s_ordered_pair f fd cdv) : FnOk P w K mg base CX0 1 f fd p_ordered_pair (spOf K (m_ordered_pair Pg)) :=
  fnc_ok F sc_ordered_pair (m_ordered_pair Pg) (ln_1 rfl) fun A outer s H E hr => ⟨_, tm_ordered_pair nb nc hr, eq_1 rfl⟩
theorem ok_is_tied {Pg : TB} (nb : Nb mg) (nc : Nc mg) (F_ordered_pair : FnF P w K mg base "ordered_pair" p_ordered_pair 1 (m_ordered_pair Pg)) (F : FunC K "is_tied" "is_tied" s_is_tied f fd cdv) : FnOk P w K mg base CX0 2 f fd p_is_tied (spOf K (m_is_tied Pg)) :=
  fnc_ok F sc_is_tied (m_is_tied Pg) (ln_1 rfl) fun A outer s H E hr => ⟨_, tm_is_tied nb nc F_ordered_pair hr, eq_1 rfl⟩
theorem ok_steps_of {Pg : TB} (nb : Nb mg) (nc : Nc mg) (F : FunC K "steps_of" "steps_of" s_steps_of f fd cdv) : FnOk P w K mg base CX0 1 f fd p_steps_of (spOf K (m_steps_of Pg)) :=
  fnc_ok F sc_steps_of (m_steps_of Pg) (ln_1 rfl) fun A outer s H E hr => ⟨_, tm_steps_of nb nc hr, eq_1 rfl⟩
theorem ok_are_unlike_knots {Pg : TB} (nb : Nb mg) (nc : Nc mg) (hC : CodeHd base c (Pg 1)) (hB : ∃ bm ob, BMod base mainGlobals mg bm ob) (F_is_number : FnF P w K mg base "is_number" p_is_number 2 (m_is_number Pg)) (F_is_rising : FnF P w K mg base "is_rising" p_is_rising 2 (m_is_rising Pg)) (F : FunC K "are_unlike_knots" "are_unlike_knots" s_are_unlike_knots f fd (.ref c)) : FnOk P w K mg base CX0 4 f fd p_are_unlike_knots (spOf K (m_are_unlike_knots Pg)) :=
  fnc_ok F sc_are_unlike_knots (m_are_unlike_knots Pg) (ln_1 rfl) fun A outer s H E hr => ⟨_, tm_are_unlike_knots nb nc hC hB F_is_number F_is_rising hr, eq_1 rfl⟩
theorem ok_has_route_ends {Pg : TB} (nb : Nb mg) (nc : Nc mg) (F : FunC K "has_route_ends" "has_route_ends" s_has_route_ends f fd cdv) : FnOk P w K mg base CX0 1 f fd p_has_route_ends (spOf K (m_has_route_ends Pg)) :=
  fnc_ok F sc_has_route_ends (m_has_route_ends Pg) (ln_1 rfl) fun A outer s H E hr => ⟨_, tm_has_route_ends nb nc hr, eq_1 rfl⟩
theorem ok_is_route {Pg : TB} (nb : Nb mg) (nc : Nc mg) (hC : CodeHd base c (Pg 2)) (hB : ∃ bm ob, BMod base mainGlobals mg bm ob) (F_are_unlike_knots : FnF P w K mg base "are_unlike_knots" p_are_unlike_knots 4 (m_are_unlike_knots Pg)) (F_has_route_ends : FnF P w K mg base "has_route_ends" p_has_route_ends 1 (m_has_route_ends Pg)) (F_steps_of : FnF P w K mg base "steps_of" p_steps_of 1 (m_steps_of Pg)) (F_is_tied : FnF P w K mg base "is_tied" p_is_tied 2 (m_is_tied Pg)) (F : FunC K "is_route" "is_route" s_is_route f fd (.ref c)) : FnOk P w K mg base CX0 5 f fd p_is_route (spOf K (m_is_route Pg)) :=
  fnc_ok F sc_is_route (m_is_route Pg) (ln_1 rfl) fun A outer s H E hr => ⟨_, tm_is_route nb nc hC hB F_are_unlike_knots F_has_route_ends F_steps_of F_is_tied hr, eq_1 rfl⟩
theorem ok__law_same {Pg : TB} (nb : Nb mg) (nc : Nc mg) (F : FunC K "_law_same" "_law_same" s__law_same f fd cdv) : FnOk P w K mg base CX0 1 f fd p__law_same (spOf K (m__law_same Pg)) :=
  fnc_ok F sc__law_same (m__law_same Pg) (ln_1 rfl) fun A outer s H E hr => ⟨_, tm__law_same nb nc hr, eq_1 rfl⟩
theorem ok__law_draw (nb : Nb mg) (nc : Nc mg) (F : FunC K "_law_draw" "_law_draw" s__law_draw f fd cdv) : FnOk P w K mg base CX0 1 f fd p__law_draw (spOf K m__law_draw) :=
  fnc_ok F sc__law_draw m__law_draw (ln_1 rfl) fun A outer s H E hr => ⟨_, tm__law_draw nb nc hr, eq_1 rfl⟩
theorem ok__law_pick (nb : Nb mg) (nc : Nc mg) (F__law_draw : FnF P w K mg base "_law_draw" p__law_draw 1 (m__law_draw)) (F : FunC K "_law_pick" "_law_pick" s__law_pick f fd cdv) : FnOk P w K mg base CX0 2 f fd p__law_pick (spOf K m__law_pick) :=
  fnc_ok F sc__law_pick m__law_pick (ln_1 rfl) fun A outer s H E hr => ⟨_, tm__law_pick nb nc F__law_draw hr, eq_1 rfl⟩
theorem ok__law_net (nb : Nb mg) (nc : Nc mg) (F__law_draw : FnF P w K mg base "_law_draw" p__law_draw 1 (m__law_draw)) (F__law_pick : FnF P w K mg base "_law_pick" p__law_pick 2 (m__law_pick)) (F : FunC K "_law_net" "_law_net" s__law_net f fd cdv) : FnOk P w K mg base CX0 3 f fd p__law_net (spOf K m__law_net) :=
  fnc_ok F sc__law_net m__law_net (ln_1 rfl) fun A outer s H E hr => ⟨_, tm__law_net nb nc F__law_draw F__law_pick hr, eq_1 rfl⟩
theorem ok__law_routes {Pg : TB} (nb : Nb mg) (nc : Nc mg) (F : FunC K "_law_routes" "_law_routes" s__law_routes f fd cdv) : FnOk P w K mg base CX0 1 f fd p__law_routes (spOf K (m__law_routes Pg)) :=
  fnc_ok F sc__law_routes (m__law_routes Pg) (ln_1 rfl) fun A outer s H E hr => ⟨_, tm__law_routes nb nc hr, eq_1 rfl⟩
theorem ok__law_is_route {Pg : TB} (nb : Nb mg) (nc : Nc mg) (F : FunC K "_law_is_route" "_law_is_route" s__law_is_route f fd cdv) : FnOk P w K mg base CX0 1 f fd p__law_is_route (spOf K (m__law_is_route Pg)) :=
  fnc_ok F sc__law_is_route (m__law_is_route Pg) (ln_1 rfl) fun A outer s H E hr => ⟨_, tm__law_is_route nb nc hr, eq_1 rfl⟩
theorem ok_law {Pg : TB} (nb : Nb mg) (nc : Nc mg) (F__law_net : FnF P w K mg base "_law_net" p__law_net 3 (m__law_net)) (F__law_routes : FnF P w K mg base "_law_routes" p__law_routes 1 (m__law_routes Pg)) (F__law_draw : FnF P w K mg base "_law_draw" p__law_draw 1 (m__law_draw)) (F__law_pick : FnF P w K mg base "_law_pick" p__law_pick 2 (m__law_pick)) (F__law_same : FnF P w K mg base "_law_same" p__law_same 1 (m__law_same Pg)) (F__law_is_route : FnF P w K mg base "_law_is_route" p__law_is_route 1 (m__law_is_route Pg)) (F_is_route : FnF P w K mg base "is_route" p_is_route 5 (m_is_route Pg)) (F : FunC K "law" "law" s_law f fd cdv) : FnOk P w K mg base CX0 8 f fd p_law (spOf K (m_law Pg)) :=
  fnc_ok F sc_law (m_law Pg) (ln_1 rfl) fun A outer s H E hr => ⟨_, tm_law nb nc F__law_net F__law_routes F__law_draw F__law_pick F__law_same F__law_is_route F_is_route hr, eq_1 rfl⟩
end
end Q4
set_option Elab.async false
set_option linter.all false
set_option maxRecDepth 100000
namespace Q
abbrev Tie := Int × Int
def far (ws : List Tie) (k : Int) : List Int := (ws.filter fun p => decide (k = p.1 ∨ k = p.2)).map fun p => if p.1 = k then p.2 else p.1
theorem far_mem {ws : List Tie} {k y : Int} : y ∈ far ws k ↔ ∃ p ∈ ws, (p.1 = k ∧ p.2 = y) ∨ (p.2 = k ∧ p.1 = y) := by
  unfold far
  rw [List.mem_map]
  constructor
  · rintro ⟨p, hp, rfl⟩
    obtain ⟨h1, h2⟩ := List.mem_filter.mp hp
    refine ⟨p, h1, ?_⟩
    simp only [decide_eq_true_eq] at h2
    split
    · exact .inl ⟨by assumption, rfl⟩
    · rename_i h
      rcases h2 with h2 | h2
      · exact absurd h2.symm h
      · exact .inr ⟨h2.symm, rfl⟩
  · rintro ⟨p, hp, h⟩
    refine ⟨p, List.mem_filter.mpr ⟨hp, by simp only [decide_eq_true_eq]; omega⟩, ?_⟩
    split <;> omega
def Rch (ws : List Tie) (k x : Int) : Prop := ∀ S : Int → Prop, S k → (∀ p ∈ ws, S p.1 ↔ S p.2) → S x
theorem Rch.refl {ws : List Tie} {k : Int} : Rch ws k k := fun S h _ => h
theorem Rch.tie {ws : List Tie} {k : Int} {p : Tie} (hp : p ∈ ws) : Rch ws k p.1 ↔ Rch ws k p.2 := ⟨fun h S a b => (b p hp).mp (h S a b), fun h S a b => (b p hp).mpr (h S a b)⟩
def cl (ws : List Tie) (got : List Int) : Prop := ∀ p ∈ ws, p.1 ∈ got ↔ p.2 ∈ got
structure Gdw (ws : List Tie) (n k : Int) (got : List Int) : Prop where
  at0 : k ∈ got
  nd : got.Nodup
  rg : ∀ x ∈ got, 0 ≤ x ∧ x < n
  sound : ∀ x ∈ got, Rch ws k x
def rangeI (n : Int) : List Int := (List.range n.toNat).map fun i : Nat => (i : Int)
theorem rangeI_mem {n x : Int} : x ∈ rangeI n ↔ 0 ≤ x ∧ x < n := by
  unfold rangeI
  simp only [List.mem_map, List.mem_range]
  constructor
  · rintro ⟨i, h, rfl⟩; omega
  · rintro ⟨h1, h2⟩; exact ⟨x.toNat, by omega, by omega⟩
theorem rangeI_len (n : Int) : (rangeI n).length = n.toNat := by simp [rangeI]
theorem few {n : Int} {l : List Int} (nd : l.Nodup) (rg : ∀ x ∈ l, 0 ≤ x ∧ x < n) : l.length ≤ n.toNat := by
  rw [← rangeI_len n]
  exact nd.length_le_of_subset fun x hx => rangeI_mem.mpr (rg x hx)
section
variable {ws : List Tie} {n k : Int} {got : List Int}
theorem Gdw.add {x : Int} (g : Gdw ws n k got) (h : x ∉ got) (r : 0 ≤ x ∧ x < n) (s : Rch ws k x) : Gdw ws n k (got ++ [x]) := by
  refine ⟨List.mem_append_left _ g.at0, List.nodup_append.mpr ⟨g.nd, by simp, fun a ha b hb e => h ?_⟩, fun y hy => ?_, fun y hy => ?_⟩
  · rw [List.mem_singleton.mp hb] at e; rw [← e]; exact ha
  · rcases List.mem_append.mp hy with z | z
    · exact g.rg y z
    · rw [List.mem_singleton.mp z]; exact r
  · rcases List.mem_append.mp hy with z | z
    · exact g.sound y z
    · rw [List.mem_singleton.mp z]; exact s
end
def op2 (a b : Int) : Tie := (if b < a then b else a, if b > a then b else a)
end Q
set_option Elab.async false
set_option linter.all false
set_option maxRecDepth 100000
namespace Q
open PySem PySem.Spec PySem.W PyProof.Rows L2
theorem eVar_of {i : Nat} {ρ : Rho} {h : Hq} {d : D} (e : ρ[i]? = some (.val d)) : eVar i ρ h = some (d, h) := by simp only [eVar, e]
theorem sSet_of {i : Nat} {a : ME} {ρ : Rho} {h h' : Hq} {d : D} (e : a ρ h = some (d, h')) (hi : i < ρ.length) : sSet i a ρ h = some (.nx (ρ.set i (.val d)) h') := by simp only [sSet, e, if_pos hi]
theorem eC_of {ρ : Rho} {h : Hq} {d : D} : eC d ρ h = some (d, h) := by simp only [eC]
theorem forGo_fold {α σ : Type} {g : MG} {mb : MS} (enc : α → D) (st : σ → α → σ) (R : σ → Rho → Hq → Prop) : ∀ (l : List α) (s : σ) (ρ : Rho) (h : Hq), R s ρ h →
    (∀ s x ρ h, x ∈ l → R s ρ h → ∃ ρ1 ρ2 h2, g (enc x) ρ = some ρ1 ∧ mb ρ1 h = some (.nx ρ2 h2) ∧ R (st s x) ρ2 h2) → ∃ ρ' h', forGo g mb (l.map enc) ρ h = some (.nx ρ' h') ∧ R (l.foldl st s) ρ' h'
  | [], s, ρ, h, r, _ => ⟨ρ, h, rfl, r⟩
  | x :: l, s, ρ, h, r, step => by
    obtain ⟨ρ1, ρ2, h2, e1, e2, r2⟩ := step s x ρ h List.mem_cons_self r
    obtain ⟨ρ', h', e3, r3⟩ := forGo_fold enc st R l (st s x) ρ2 h2 r2 fun s y ρ h hy => step s y ρ h (List.mem_cons_of_mem _ hy)
    exact ⟨ρ', h', by rw [List.map_cons, forGo_nx e1 e2]; exact e3, r3⟩
theorem forGo_foldi {α σ : Type} {g : MG} {mb : MS} (enc : α → D) (st : σ → α → σ) (R : Nat → σ → Rho → Hq → Prop) (N : Nat) : ∀ (l : List α) (i : Nat) (s : σ) (ρ : Rho) (h : Hq), i + l.length ≤ N → R i s ρ h →
    (∀ i s x ρ h, i < N → x ∈ l → R i s ρ h → ∃ ρ1 ρ2 h2, g (enc x) ρ = some ρ1 ∧ mb ρ1 h = some (.nx ρ2 h2) ∧ R (i + 1) (st s x) ρ2 h2) → ∃ ρ' h', forGo g mb (l.map enc) ρ h = some (.nx ρ' h') ∧ R (i + l.length) (l.foldl st s) ρ' h'
  | [], i, s, ρ, h, _, r, _ => ⟨ρ, h, rfl, r⟩
  | x :: l, i, s, ρ, h, hN, r, step => by
    rw [List.length_cons] at hN
    obtain ⟨ρ1, ρ2, h2, e1, e2, r2⟩ := step i s x ρ h (by omega) List.mem_cons_self r
    obtain ⟨ρ', h', e3, r3⟩ := forGo_foldi enc st R N l (i + 1) (st s x) ρ2 h2 (by omega) r2 fun i s y ρ h hi hy => step i s y ρ h hi (List.mem_cons_of_mem _ hy)
    exact ⟨ρ', h', by rw [List.map_cons, forGo_nx e1 e2]; exact e3, by rw [List.foldl_cons, List.length_cons, show i + (l.length + 1) = i + 1 + l.length by omega]; exact r3⟩
theorem lcGo_map {α : Type} {ρ : Rho} {g : MG} {t : MT} {m : ME} {h : Hq} (enc : α → D) (c : α → Bool) (f : α → D) : ∀ (l : List α),
    (∀ x ∈ l, ∃ ρ2, g (enc x) ρ = some ρ2 ∧ t ρ2 h = some (c x, h) ∧ (c x = true → m ρ2 h = some (f x, h))) → lcGo ρ g t m (l.map enc) h = some ((l.filter c).map f, h)
  | [], _ => rfl
  | x :: l, step => by
    obtain ⟨ρ2, e1, e2, e3⟩ := step x List.mem_cons_self
    have ih := lcGo_map (ρ := ρ) (g := g) (t := t) (m := m) (h := h) enc c f l fun y hy => step y (List.mem_cons_of_mem _ hy)
    rw [List.map_cons, lcGo, e1]
    simp only [e2]
    cases z : c x with
    | true =>
      rw [List.filter_cons_of_pos z, List.map_cons]
      simp only [e3 z, ih, if_true]
    | false =>
      rw [List.filter_cons_of_neg (by rw [z]; exact Bool.false_ne_true)]
      simp only [ih, Bool.false_eq_true, if_false]
theorem lLc_map {α : Type} {vs : List Nat} {mi : MI} {ρ : Rho} {g : MG} {t : MT} {m : ME} {h : Hq} (enc : α → D) (c : α → Bool) (f : α → D) (l : List α) (hl : l.length ≤ 1000000) (ei : mi ρ h = some (l.map enc, h))
    (step : ∀ x ∈ l, ∃ ρ2, g (enc x) (wipeR ρ vs) = some ρ2 ∧ t ρ2 h = some (c x, h) ∧ (c x = true → m ρ2 h = some (f x, h))) : lLc vs mi g t m ρ h = some ((l.filter c).map f, h) := by
  simp only [lLc, ei, List.length_map, le_lim hl, if_true]
  exact lcGo_map enc c f l step
theorem while_ex {σ : Type} {t : MT} {mb : MS} {h : Hq} (R : σ → Rho → Prop) (μ : σ → Nat)
    (step : ∀ s ρ, R s ρ → t ρ h = some (false, h) ∨ t ρ h = some (true, h) ∧ ∃ s' ρ', mb ρ h = some (.nx ρ' h) ∧ R s' ρ' ∧ μ s' < μ s) :
    ∀ s ρ, R s ρ → ∃ s' ρ', sWhile t mb ρ h = some (.nx ρ' h) ∧ R s' ρ' ∧ t ρ' h = some (false, h) := by
  have key : ∀ n s ρ, μ s < n → R s ρ → ∃ s' ρ', whGo t mb n ρ h = some (.nx ρ' h) ∧ R s' ρ' ∧ t ρ' h = some (false, h) := by
    intro n
    induction n with
    | zero => intro s ρ hn; omega
    | succ n ih =>
      intro s ρ hn r
      rcases step s ρ r with e | ⟨e, s', ρ', e2, r2, hm⟩
      · exact ⟨s, ρ, by simp only [whGo, e, Bool.false_eq_true, if_false], r, e⟩
      · obtain ⟨s3, ρ3, e3, r3, e4⟩ := ih s' ρ' (by omega) r2
        exact ⟨s3, ρ3, by simp only [whGo, e, e2, if_true]; exact e3, r3, e4⟩
  intro s ρ r
  obtain ⟨s', ρ', e, r', e'⟩ := key (μ s + 1) s ρ (Nat.lt_succ_self _) r
  exact ⟨s', ρ', sWhile_eq _ e, r', e'⟩
end Q
set_option Elab.async false
set_option linter.all false
set_option maxRecDepth 100000
namespace Q2
open PySem PySem.Spec PySem.W PyProof.Rows L2 Q
noncomputable abbrev b_ordered_pair : MS := (sRet (eA fTup (aCons (eOp gMin2 (eVar 0) (eVar 1)) (aCons (eOp gMax2 (eVar 0) (eVar 1)) aNil))))
noncomputable def m_ordered_pair : MF := fun ds h => if ds.length = 2 then runB b_ordered_pair 2 ds h else none
noncomputable abbrev b_is_tied : MS := (sRet (eXQ (fIn false) (eCall m_ordered_pair (aCons (eVar 1) (aCons (eVar 2) aNil))) (qVal (eQX fIx (qVal (eVar 0)) (eC (.int 1))))))
noncomputable def m_is_tied : MF := fun ds h => if ds.length = 3 then runB b_is_tied 3 ds h else none
noncomputable abbrev b_tie_between : MS := (sSeq (sIf (tNotM (tValM truD (eCall m_is_tied (aCons (eVar 0) (aCons (eVar 1) (aCons (eVar 2) aNil)))))) (fun _ _ => none) sNil) (sRet (eOp gIdx (eQX fIx (qVal (eVar 0)) (eC (.int 1))) (eCall m_ordered_pair (aCons (eVar 1) (aCons (eVar 2) aNil))))))
noncomputable abbrev x_tie_between : MX := (xIf (tNotM (tValM truD (eCall m_is_tied (aCons (eVar 0) (aCons (eVar 1) (aCons (eVar 2) aNil)))))) (xRaise "NoTie" (aCons ((jCons (eC (.str "no tie between ")) (jCons (eUn gFmt (eVar 1)) (jCons (eC (.str " and ")) (jCons (eUn gFmt (eVar 2)) jNil)))) Str.empty) aNil)) xNo)
noncomputable def m_tie_between : MFx := fun ds h => if ds.length = 3 then (match runX x_tie_between 3 ds h with
  | some (c, h') => some (.er c h')
  | none => match runB b_tie_between 3 ds h with
    | some (d, h') => some (.ok d h')
    | none => none) else none
noncomputable abbrev b_far_ends : MS := (sRet (eL (lLc [2, 3] (iVal (eVar 0)) (gTp (gsCons (gN 2) (gsCons (gN 3) gsNil))) (tValM dB (eXQ (fIn false) (eVar 1) (qVal (eA fTup (aCons (eVar 2) (aCons (eVar 3) aNil)))))) (eIf (tValM dB (eOp gEq (eVar 2) (eVar 1))) (eVar 3) (eVar 2)))))
noncomputable def m_far_ends : MF := fun ds h => if ds.length = 2 then runB b_far_ends 4 ds h else none
noncomputable abbrev b_beside : MS := (sRet (eQ (fun k ds => if k then none else some (.tuple ds)) (qVal (eQ fSortI (qVal (eCall m_far_ends (aCons (eQX fIx (qVal (eVar 0)) (eC (.int 1))) (aCons (eVar 1) aNil))))))))
noncomputable def m_beside : MF := fun ds h => if ds.length = 2 then runB b_beside 2 ds h else none
noncomputable abbrev b_reached : MS := (sSeq (sSet 5 (eL (lLc [3, 4] (iEnum0 (eQX fIx (qVal (eVar 0)) (eC (.int 1)))) (gTp (gsCons (gN 3) (gsCons (gN 4) gsNil))) (tValM dB (eXQ (fIn true) (eVar 3) (qVal (eVar 1)))) (eVar 4)))) (sSeq (sSetOwn 6 (lDisp (aCons (eVar 2) aNil))) (sSeq (sSetOwn 7 (lDisp (aCons (eVar 2) aNil))) (sSeq (sWhile (tQ (qOwn 7)) (sSeq (sPop 8 7) (sFor (iVal (eCall m_far_ends (aCons (eVar 5) (aCons (eVar 8) aNil)))) (gN 9) (sIf (tValM dB (eXQ (fIn true) (eVar 9) (qOwn 6))) (sSeq (sApp 6 (eVar 9)) (sApp 7 (eVar 9))) sNil)))) (sRet (eQ (fun k ds => if k then none else some (.tuple ds)) (qVal (eQ fSortI (qOwn 6)))))))))
noncomputable def m_reached : MF := fun ds h => if ds.length = 3 then runB b_reached 10 ds h else none
noncomputable abbrev b_cut_off : MS := (sSeq (sSet 2 (eQX fIx (qVal (eVar 0)) (eC (.int 2)))) (sSeq (sSetOwn 3 (lDisp aNil)) (sSeq (sFor (iVal (eVar 2)) (gN 4) (sSeq (sSet 5 (eCall m_reached (aCons (eVar 0) (aCons (eVar 1) (aCons (eVar 4) aNil))))) (sExt 3 (eL (lLc [6] (iVal (eVar 2)) (gN 6) (tAndM (tValM dB (eOp gLtI (eVar 4) (eVar 6))) (tValM dB (eXQ (fIn true) (eVar 6) (qVal (eVar 5))))) (eA fTup (aCons (eVar 4) (aCons (eVar 6) aNil)))))))) (sRet (eQ (fun k ds => if k then none else some (.tuple ds)) (qOwn 3))))))
noncomputable def m_cut_off : MF := fun ds h => if ds.length = 2 then runB b_cut_off 7 ds h else none
noncomputable abbrev b_parting_ties : MS := (sSeq (sSetOwn 1 (lDisp aNil)) (sSeq (sFor (iEnum0 (eQX fIx (qVal (eVar 0)) (eC (.int 1)))) (gTp (gsCons (gN 2) (gsCons (gTp (gsCons (gN 3) (gsCons (gN 4) gsNil))) gsNil))) (sIf (tValM dB (eXQ (fIn true) (eVar 4) (qVal (eCall m_reached (aCons (eVar 0) (aCons (eA fTup (aCons (eVar 2) aNil)) (aCons (eVar 3) aNil))))))) (sApp 1 (eVar 2)) sNil)) (sRet (eQ (fun k ds => if k then none else some (.tuple ds)) (qOwn 1)))))
noncomputable def m_parting_ties : MF := fun ds h => if ds.length = 1 then runB b_parting_ties 5 ds h else none
noncomputable abbrev b__law_same (rec : MF) : MS := (sSeq (sIf (tValM dB (eOp gIs (eVar 1) (eC .none))) (sRet (eOp gIs (eVar 0) (eC .none))) sNil) (sSeq (sIf (tValM truD (eUn (gIsi "bool") (eVar 1))) (sRet (eAnd (eUn (gIsi "bool") (eVar 0)) (eOp gEq (eVar 0) (eVar 1)))) sNil) (sSeq (sIf (tValM truD (eUn (gIsi "tuple") (eVar 1))) (sSeq (sIf (tOrM (tNotM (tValM truD (eUn (gIsi "tuple") (eVar 0)))) (tValM dB (eOp gNe (eQ fLen (qVal (eVar 0))) (eQ fLen (qVal (eVar 1)))))) (sRet (eC (.bool false))) sNil) (sRet (eQ fAll (qVal (eL (lLc [2, 3] (iZipM (eVar 0) (eVar 1)) (gTp (gsCons (gN 2) (gsCons (gN 3) gsNil))) tYesM (eCall rec (aCons (eVar 2) (aCons (eVar 3) aNil))))))))) sNil) (sSeq (sIf (tValM truD (eUn (gIsi "str") (eVar 1))) (sRet (eAnd (eUn (gIsi "str") (eVar 0)) (eOp gEq (eVar 0) (eVar 1)))) sNil) (sRet (eAnd (eUn (gIsi "int") (eVar 0)) (eAnd (eUn gNot (eUn (gIsi "bool") (eVar 0))) (eOp gEq (eVar 0) (eVar 1)))))))))
noncomputable def m__law_same : Nat → MF
  | 0 => fun _ _ => none
  | k + 1 => fun ds h => if ds.length = 2 then runB (b__law_same (m__law_same k)) 4 ds h else none
noncomputable abbrev b__law_reached : MS := (sSeq (sSet 3 (eA fLst (aCons (eVar 2) aNil))) (sSeq (sFor (iRange1 (eQX fIx (qVal (eVar 0)) (eC (.int 0)))) (gN 4) (sFor (iEnum0 (eQX fIx (qVal (eVar 0)) (eC (.int 1)))) (gTp (gsCons (gN 5) (gsCons (gTp (gsCons (gN 6) (gsCons (gN 7) gsNil))) gsNil))) (sIf (tValM dB (eXQ (fIn true) (eVar 5) (qVal (eVar 1)))) (sSeq (sSet 3 (eOp gCatL (eVar 3) (eOp gRep (eA fLst (aCons (eVar 7) aNil)) (eUn gInt (eAnd (eXQ (fIn false) (eVar 6) (qVal (eVar 3))) (eXQ (fIn true) (eVar 7) (qVal (eVar 3)))))))) (sSet 3 (eOp gCatL (eVar 3) (eOp gRep (eA fLst (aCons (eVar 6) aNil)) (eUn gInt (eAnd (eXQ (fIn false) (eVar 7) (qVal (eVar 3))) (eXQ (fIn true) (eVar 6) (qVal (eVar 3))))))))) sNil))) (sRet (eQ (fun k ds => if k then none else some (.tuple ds)) (qVal (eQ fSortI (qVal (eVar 3))))))))
noncomputable def m__law_reached : MF := fun ds h => if ds.length = 3 then runB b__law_reached 8 ds h else none
noncomputable abbrev b__law_between : MS := (sSeq (sSet 3 (eC .none)) (sSeq (sTry (sSet 3 (eCall (okOf m_tie_between) (aCons (eVar 0) (aCons (eVar 1) (aCons (eVar 2) aNil))))) (xCall m_tie_between (aCons (eVar 0) (aCons (eVar 1) (aCons (eVar 2) aNil)))) "NoTie" (sSet 3 (eC (.str "NoTie")))) (sRet (eVar 3))))
noncomputable def m__law_between : MF := fun ds h => if ds.length = 3 then runB b__law_between 4 ds h else none
noncomputable abbrev b_law : MS := (sSeq (sCell 1 (lDisp aNil)) (sSeq (sFor (iRange1 (eC (.int 8))) (gN 2) (sSeq (sSet 3 (eCall m__law_net (aCons (eVar 0) (aCons (eVar 1) (aCons (eC (.int 7)) (aCons (eC (.int 9)) aNil)))))) (sSeq (sAsg (gTp (gsCons (gN 4) (gsCons (gN 5) (gsCons (gN 6) gsNil)))) (eVar 3)) (sSeq (sSet 7 (eA fTup aNil)) (sSeq (sFor (iRange1 (eQ fLen (qVal (eVar 5)))) (gN 8) (sIf (tValM dB (eOp gEq (eCall m__law_draw (aCons (eVar 0) (aCons (eVar 1) (aCons (eC (.int 3)) aNil)))) (eC (.int 0)))) (sSet 7 (eOp gCatT (eA fTup (aCons (eVar 8) aNil)) (eVar 7))) sNil)) (sSeq (sFor (iRange1 (eVar 4)) (gN 9) (sSeq (sSet 10 (eA fLst aNil)) (sSeq (sFor (iRange1 (eVar 4)) (gN 11) (sSeq (sSet 8 (eA fTup (aCons (eOp gMin2 (eVar 9) (eVar 11)) (aCons (eOp gMax2 (eVar 9) (eVar 11)) aNil)))) (sIf (tValM dB (eOp gNe (eVar 9) (eVar 11))) (sSeq (sSet 12 (eIf (tValM dB (eXQ (fIn false) (eVar 8) (qVal (eVar 5)))) (eOp gIdx (eVar 5) (eVar 8)) (eC (.str "NoTie")))) (sSeq (sIf (tNotM (tValM truD (eCall (m__law_same 4) (aCons (eCall m__law_between (aCons (eVar 3) (aCons (eVar 9) (aCons (eVar 11) aNil)))) (aCons (eVar 12) aNil))))) (sRet (eC (.bool false))) sNil) (sSet 10 (eOp gCatL (eVar 10) (eOp gRep (eA fLst (aCons (eVar 11) aNil)) (eUn gInt (eXQ (fIn false) (eVar 8) (qVal (eVar 5))))))))) sNil))) (sSeq (sIf (tNotM (tValM truD (eCall (m__law_same 4) (aCons (eCall m_beside (aCons (eVar 3) (aCons (eVar 9) aNil))) (aCons (eQ (fun k ds => if k then none else some (.tuple ds)) (qVal (eVar 10))) aNil))))) (sRet (eC (.bool false))) sNil) (sIf (tNotM (tValM truD (eCall (m__law_same 4) (aCons (eCall m_reached (aCons (eVar 3) (aCons (eVar 7) (aCons (eVar 9) aNil)))) (aCons (eCall m__law_reached (aCons (eVar 3) (aCons (eVar 7) (aCons (eVar 9) aNil)))) aNil))))) (sRet (eC (.bool false))) sNil))))) (sSeq (sSet 13 (eA fLst aNil)) (sSeq (sFor (iVal (eVar 6)) (gN 9) (sSeq (sSet 10 (eCall m__law_reached (aCons (eVar 3) (aCons (eVar 7) (aCons (eVar 9) aNil))))) (sSet 13 (eOp gCatL (eVar 13) (eL (lLc [11] (iVal (eVar 6)) (gN 11) (tAndM (tValM dB (eOp gGtI (eVar 11) (eVar 9))) (tValM dB (eXQ (fIn true) (eVar 11) (qVal (eVar 10))))) (eA fTup (aCons (eVar 9) (aCons (eVar 11) aNil))))))))) (sSeq (sIf (tNotM (tValM truD (eCall (m__law_same 4) (aCons (eCall m_cut_off (aCons (eVar 3) (aCons (eVar 7) aNil))) (aCons (eQ (fun k ds => if k then none else some (.tuple ds)) (qVal (eVar 13))) aNil))))) (sRet (eC (.bool false))) sNil) (sSeq (sSet 14 (eA fLst aNil)) (sSeq (sFor (iEnum0 (eVar 5)) (gTp (gsCons (gN 15) (gsCons (gTp (gsCons (gN 9) (gsCons (gN 11) gsNil))) gsNil))) (sSet 14 (eOp gCatL (eVar 14) (eOp gRep (eA fLst (aCons (eVar 15) aNil)) (eUn gInt (eXQ (fIn true) (eVar 11) (qVal (eCall m__law_reached (aCons (eVar 3) (aCons (eA fTup (aCons (eVar 15) aNil)) (aCons (eVar 9) aNil))))))))))) (sIf (tNotM (tValM truD (eCall (m__law_same 4) (aCons (eCall m_parting_ties (aCons (eVar 3) aNil)) (aCons (eQ (fun k ds => if k then none else some (.tuple ds)) (qVal (eVar 14))) aNil))))) (sRet (eC (.bool false))) sNil)))))))))))) (sRet (eC (.bool true)))))
noncomputable def m_law : MF := fun ds h => if ds.length = 1 then runB b_law 16 ds h else none
end Q2
set_option Elab.async false
set_option linter.all false
set_option maxRecDepth 100000
namespace Q2
open PySem PySem.Spec PySem.W PyProof.Rows L2 Q
theorem any_is {α : Type} [DecidableEq α] (l : List α) (x : α) : (l.any fun y => decide (y = x)) = decide (x ∈ l) := by
  rw [Bool.eq_iff_iff, List.any_eq_true, decide_eq_true_eq]
  constructor
  · rintro ⟨y, h, e⟩
    rw [decide_eq_true_eq] at e
    rw [← e]; exact h
  · intro h
    exact ⟨x, h, by rw [decide_eq_true_eq]⟩
abbrev tD (p : Tie) : D := .tuple [.int p.1, .int p.2]
abbrev iD (l : List Int) : List D := l.map PyData.int
abbrev netD (n : Int) (ts : List Tie) (rs : List Int) : D := .tuple [.int n, .tuple (ts.map tD), .tuple (iD rs)]
theorem at0 {k : Bool} {a : D} {l : List D} : fIx k (a :: l) (.int 0) = some a := by simp [fIx, atI, ixN]
theorem at1 {k : Bool} {a b : D} {l : List D} : fIx k (a :: b :: l) (.int 1) = some b := by simp [fIx, atI, ixN, show (1 : Int) < (l.length : Int) + 1 + 1 by omega]
theorem at2 {k : Bool} {a b c : D} {l : List D} : fIx k (a :: b :: c :: l) (.int 2) = some c := by simp [fIx, atI, ixN, show (2 : Int) < (l.length : Int) + 1 + 1 + 1 by omega]
theorem eqv_int (a b : Int) : PyData.eqv (.int a) (.int b) = decide (a = b) := by rw [Bool.eq_iff_iff]; simp [PyData.eqv]
theorem eqv_tie (p q : Tie) : PyData.eqv (tD p) (tD q) = decide (p = q) := by
  obtain ⟨a, b⟩ := p
  obtain ⟨c, d⟩ := q
  rw [Bool.eq_iff_iff]; simp [PyData.eqv, PyData.eqvAll]
theorem shp_tie (p : Tie) : shp (tD p) = true := by
  unfold shp SeqAt.shaped
  simp [PyData.canLay0, PyData.canLayAll0, PyData.depth, PyData.depthAll]
theorem lay_ints (l : List Int) : (iD l).all PyData.canLay0 = true := by simp [PyData.canLay0]
theorem lay_ties (l : List Tie) : (l.map tD).all PyData.canLay0 = true := by simp [PyData.canLay0, PyData.canLayAll0]
theorem in_ints (neg k : Bool) (x : Int) (l : List Int) : fIn neg (.int x) k (iD l) = some (.bool (if neg then !decide (x ∈ l) else decide (x ∈ l))) := by
  have e : ((iD l).any fun d => PyData.eqv d (.int x)) = decide (x ∈ l) := by
    rw [List.any_map]
    rw [show ((fun d => PyData.eqv d (.int x)) ∘ PyData.int) = fun y => decide (y = x) from funext fun y => eqv_int y x]
    exact any_is _ _
  simp only [fIn, shp_int, lay_ints, Bool.and_self, if_true, e]
theorem in_ties (neg k : Bool) (p : Tie) (l : List Tie) : fIn neg (tD p) k (l.map tD) = some (.bool (if neg then !decide (p ∈ l) else decide (p ∈ l))) := by
  have e : ((l.map tD).any fun d => PyData.eqv d (tD p)) = decide (p ∈ l) := by
    rw [List.any_map]
    rw [show ((fun d => PyData.eqv d (tD p)) ∘ tD) = fun y => decide (y = p) from funext fun y => eqv_tie y p]
    exact (any_is l p).trans (decide_eq_decide.mpr Iff.rfl)
  simp only [fIn, shp_tie, lay_ties, Bool.and_self, if_true, e]
theorem asInts_iD (l : List Int) : asInts (iD l) = some l := by
  induction l with
  | nil => rfl
  | cons x r ih => show asInts (.int x :: iD r) = _; simp only [asInts, asI, ih, Option.map_some]
theorem ordered_ok (a b : Int) (h : Hq) : m_ordered_pair [.int a, .int b] h = some (tD (op2 a b), h) := by
  unfold m_ordered_pair
  rw [if_pos (by rfl)]
  exists 0, gI, fTup, op2
end Q2
set_option Elab.async false
set_option linter.all false
set_option maxRecDepth 100000
namespace Q4
open PySem PySem.Spec PySem.W PyProof.Rows L2 Q Q2
theorem cut1 (xs : List D) : Q.cutD xs (some 1) none = xs.drop 1 := by
  unfold Q.cutD
  have e : HT.sIx xs.length 0 (some 1) = min 1 xs.length := HT.sIx_nat xs.length 0 1
  rw [e, HT.sIx_none]
  cases xs with
  | nil => rfl
  | cons x r =>
    rw [List.length_cons, Nat.min_eq_left (by omega)]
    simp
theorem allGo_all {ρ : Rho} {g : MG} {m : ME} {h : Hq} {p : D → Bool} : ∀ {ds : List D}, (∀ d ∈ ds, ∃ ρ2, g d ρ = some ρ2 ∧ m ρ2 h = some (.bool (p d), h)) → allGo ρ g tYesM m ds h = some (ds.all p, h)
  | [], _ => rfl
  | d :: r, hd => by
    obtain ⟨ρ2, e1, e2⟩ := hd d List.mem_cons_self
    have ih := allGo_all (ρ := ρ) (g := g) (m := m) (h := h) (p := p) fun d hm => hd d (List.mem_cons_of_mem _ hm)
    unfold allGo
    rw [e1]
    simp only [tYesM, if_true, e2]
    cases q : p d with
    | true =>
      simp only [if_true, List.all_cons, q, Bool.true_and]
      simpa [tYesM] using ih
    | false => simp [List.all_cons, q]
def isK (n : Int) : D → Bool
  | .int i => decide (0 ≤ i) && decide (i < n)
  | _ => false
def risI : List Int → Bool
  | x :: y :: r => decide (x < y) && risI (y :: r)
  | _ => true
def stepsB (ts : List Tie) : List Int → Bool
  | x :: y :: r => decide (op2 x y ∈ ts) && stepsB ts (y :: r)
  | _ => true
def endsB (rs : List Int) (l : List Int) : Bool := decide (l.headD 0 ∈ rs) && (decide (l.getLastD 0 ∈ rs) && decide (l.headD 0 < l.getLastD 0))
def rowB (ts : List Tie) (rs l : List Int) : Bool := risI (srtI l) && (decide (2 ≤ l.length) && (endsB rs l && stepsB ts l))
def isR (n : Int) (ts : List Tie) (rs : List Int) : D → Bool
  | .tuple xs => xs.all (isK n) && (match asInts xs with | some l => rowB ts rs l | none => false)
  | _ => false
theorem ints_of {n : Int} : ∀ {xs : List D}, xs.all (isK n) = true → ∃ l, xs = iD l ∧ ∀ i ∈ l, 0 ≤ i ∧ i < n
  | [], _ => ⟨[], rfl, fun i hi => by cases hi⟩
  | x :: xs, h => by
    simp only [List.all_cons, Bool.and_eq_true] at h
    obtain ⟨l, rfl, hl⟩ := ints_of h.2
    cases x <;> simp [isK] at h
    rename_i i
    refine ⟨i :: l, rfl, fun j hj => ?_⟩
    rcases List.mem_cons.mp hj with rfl | hj
    · exact h.1
    · exact hl j hj
variable {Pg : TB} {n : Int} {ts : List Tie} {rs : List Int} {h : Hq}
theorem whole_ok {d : D} (hs : shp d = true) : m_is_whole Pg [d] h = some (.bool (isW d), h) := by
  unfold m_is_whole
  rw [if_pos (by rfl)]
  exists 0, isi_int hs, isi_bool hs
  cases d <;> rfl
theorem knot_ok {d : D} (hs : shp d = true) : m_is_number Pg [.int n, d] h = some (.bool (isK n d), h) := by
  unfold m_is_number
  rw [if_pos (by rfl)]
  cases d with
  | int i =>
    exists 0, whole_ok, hs, isW, gI, isK
    by_cases h0 : 0 ≤ i <;> simp [h0]
  | _ => exists 0, whole_ok, hs, isW, isK
theorem allGo_rise {v : Sl} : ∀ l : List Int, allGo [v, .no, .no] (gTp (gsCons (gN 1) (gsCons (gN 2) gsNil))) tYesM (eOp gLtI (eVar 1) (eVar 2)) (pairs (iD l) ((iD l).drop 1)) h = some (risI l, h)
  | [] => by simp [pairs, allGo, risI]
  | [x] => by simp [pairs, allGo, risI]
  | x :: y :: r => by
    have ih := allGo_rise (v := v) (y :: r)
    have e : pairs (iD (x :: y :: r)) ((iD (x :: y :: r)).drop 1) = .tuple [.int x, .int y] :: pairs (iD (y :: r)) ((iD (y :: r)).drop 1) := by simp [pairs]
    rw [e]
    unfold allGo
    simp only [gTp, gsCons, gN, gsNil, tYesM, eOp, eVar]
    simp [gI]
    unfold risI
    by_cases q : x < y
    · simpa [q, gTp, gsCons, gN, gsNil, tYesM, eOp, eVar] using ih
    · simp [q]
theorem rising_ok {l : List Int} (ht : isTab (Pg 0) h[0]? = true) : m_is_rising Pg [.list (iD l)] h = some (.bool (risI l), h) := by
  unfold m_is_rising
  rw [if_pos (by rfl)]
  have g := allGo_rise (v := .val (.list (iD l))) (h := h) l
  simp [runB, sRet, eAllG, iZipM, eVar, eSl, qVal, seqD, oYes, oNo, eC, cut1, ht, wipeR]
  rw [show (iD l).tail = (iD l).drop 1 by simp, g]
def unl (n : Int) : D → Bool
  | .tuple xs => xs.all (isK n) && (match asInts xs with | some l => risI (srtI l) | none => false)
  | _ => false
theorem unlike_ok {d : D} (hs : shp d = true) (h0 : isTab (Pg 0) h[0]? = true) (h1 : isTab (Pg 1) h[1]? = true) :
    m_are_unlike_knots Pg [.int n, d] h = some (.bool (unl n d), h) := by
  unfold m_are_unlike_knots
  rw [if_pos (by rfl)]
  have it := isi_tuple hs
  cases d with
  | tuple xs =>
    have hall := shp_tuple hs
    have g := allGo_all (ρ := [.val (.int n), .val (.tuple xs), .no]) (g := gN 2) (m := eCall (m_is_number Pg) (aCons (eVar 0) (aCons (eVar 2) aNil))) (h := h) (p := isK n) (ds := xs) fun d hd => ⟨[.val (.int n), .val (.tuple xs), .val d], by simp [gN], by simp [eCall, aCons, aNil, eVar, knot_ok (hall d hd)]⟩
    have ea : eAllG 1 (Pg 1) [2] (iVal (eVar 1)) (gN 2) tYesM (eCall (m_is_number Pg) (aCons (eVar 0) (aCons (eVar 2) aNil))) [.val (.int n), .val (.tuple xs), .no] h = some (.bool (xs.all (isK n)), h) := by
      simp only [eAllG, iVal, eVar, List.getElem?_cons_succ, List.getElem?_cons_zero, seqD, h1, if_true, wipeR, List.set_cons_succ, List.set_cons_zero, g]
    refine runB_rt ?_
    show b_are_unlike_knots Pg [.val (.int n), .val (.tuple xs), .no] h = _
    unfold b_are_unlike_knots
    generalize eAllG 1 (Pg 1) [2] (iVal (eVar 1)) (gN 2) tYesM (eCall (m_is_number Pg) (aCons (eVar 0) (aCons (eVar 2) aNil))) = mA at ea ⊢
    cases c : xs.all (isK n) with
    | false =>
      rw [c] at ea
      rw [show unl n (.tuple xs) = false by simp only [unl, c, Bool.false_and]]
      simp [sSeq, sIf, tOrM, tNotM, tValM, eUn, eVar, it, isTu, truD, ea, sRet, eC]
    | true =>
      rw [c] at ea
      obtain ⟨l, rfl, _⟩ := ints_of c
      rw [show unl n (.tuple (iD l)) = risI (srtI l) by simp only [unl, c, Bool.true_and, asInts_iD]]
      have r := rising_ok (Pg := Pg) (h := h) (l := srtI l) h0
      simp [sSeq, sIf, tOrM, tNotM, tValM, eUn, eVar, it, isTu, truD, ea, sRet, eC, sNil, eCall, aCons, aNil, eQ, qVal, seqD, fSortA, asInts_iD, r]
  | _ => exists 0, it, isTu, unl
theorem ix_first {k : Bool} {l : List Int} (hl : l ≠ []) : fIx k (iD l) (.int 0) = some (.int (l.headD 0)) := by
  cases l with
  | nil => exact absurd rfl hl
  | cons x r => exact at0
theorem ix_last {k : Bool} {l : List Int} (hl : l ≠ []) : fIx k (iD l) (.int (-1)) = some (.int (l.getLastD 0)) := by
  have : 0 < l.length := List.length_pos_iff.mpr hl
  simp only [fIx, atI, ixN, List.length_map]
  rw [if_neg (by omega), if_pos (by omega)]
  show (iD l)[((-1 : Int) + (l.length : Int)).toNat]? = _
  rw [show ((-1 : Int) + (l.length : Int)).toNat = l.length - 1 by omega, List.getElem?_map, List.getLastD_eq_getLast?, List.getLast?_eq_getElem?, List.getElem?_eq_getElem (by omega)]
  rfl
theorem ends_ok {l : List Int} (hl : l ≠ []) : m_has_route_ends Pg [netD n ts rs, .tuple (iD l)] h = some (.bool (endsB rs l), h) := by
  unfold m_has_route_ends
  rw [if_pos (by rfl)]
  refine runB_rt ?_
  show b_has_route_ends Pg [.val (netD n ts rs), .val (.tuple (iD l)), .no, .no] h = _
  have z1 := ix_first (k := true) hl
  have z2 := ix_last (k := true) hl
  have y1 := in_ints false true (l.headD 0) rs
  have y2 := in_ints false true (l.getLastD 0) rs
  unfold endsB
  generalize l.headD 0 = a at *
  generalize l.getLastD 0 = b at *
  exists 0, seqD, z1, z2, y1, y2, at2, gNeg, gI
  by_cases c1 : a ∈ rs <;> by_cases c2 : b ∈ rs <;> simp [c1, c2]
theorem steps_ok {xs : List D} : m_steps_of Pg [.tuple xs] h = some (.list (pairs xs (xs.drop 1)), h) := by
  unfold m_steps_of
  rw [if_pos (by rfl)]
  simp [runB, sRet, eLzip, eVar, eSl, qVal, seqD, oYes, oNo, eC, cut1]
theorem tied4_ok (a b : Int) : m_is_tied Pg [netD n ts rs, .int a, .int b] h = some (.bool (decide (op2 a b ∈ ts)), h) := by
  have ordered_ok : m_ordered_pair Pg [.int a, .int b] h = some (tD (op2 a b), h) := by
    unfold m_ordered_pair
    rw [if_pos (by rfl)]
    exists 0, gI, fTup, op2
  unfold m_is_tied
  rw [if_pos (by rfl)]
  exists 0, ordered_ok, seqD, at1, in_ties
theorem allGo_steps {v : Sl} : ∀ l : List Int, allGo [.val (netD n ts rs), v, .no, .no] (gTp (gsCons (gN 2) (gsCons (gN 3) gsNil))) tYesM (eCall (m_is_tied Pg) (aCons (eVar 0) (aCons (eVar 2) (aCons (eVar 3) aNil)))) (pairs (iD l) ((iD l).drop 1)) h = some (stepsB ts l, h)
  | [] => by simp [pairs, allGo, stepsB]
  | [x] => by simp [pairs, allGo, stepsB]
  | x :: y :: r => by
    have ih := allGo_steps (v := v) (y :: r)
    have e : pairs (iD (x :: y :: r)) ((iD (x :: y :: r)).drop 1) = .tuple [.int x, .int y] :: pairs (iD (y :: r)) ((iD (y :: r)).drop 1) := by simp [pairs]
    rw [e]
    unfold allGo
    have t := tied4_ok (Pg := Pg) (n := n) (ts := ts) (rs := rs) (h := h) x y
    simp only [gTp, gsCons, gN, gsNil, tYesM, eCall, aCons, aNil, eVar]
    simp [t]
    unfold stepsB
    by_cases q : op2 x y ∈ ts
    · simpa [q, gTp, gsCons, gN, gsNil, tYesM, eCall, aCons, aNil, eVar] using ih
    · simp [q]
theorem route_ok {d : D} (hs : shp d = true) (h0 : isTab (Pg 0) h[0]? = true) (h1 : isTab (Pg 1) h[1]? = true) (h2 : isTab (Pg 2) h[2]? = true) :
    m_is_route Pg [netD n ts rs, d] h = some (.bool (isR n ts rs d), h) := by
  unfold m_is_route
  rw [if_pos (by rfl)]
  refine runB_rt ?_
  show b_is_route Pg [.val (netD n ts rs), .val d, .no, .no] h = _
  have u := unlike_ok (Pg := Pg) (n := n) (h := h) hs h0 h1
  have c1 : tValM truD (eCall (m_are_unlike_knots Pg) (aCons (eQX fIx (qVal (eVar 0)) (eC (.int 0))) (aCons (eVar 1) aNil))) [.val (netD n ts rs), .val d, .no, .no] h = some (unl n d, h) := by
    simp [tValM, eCall, aCons, aNil, eQX, qVal, eVar, seqD, eC, at0, u, truD]
  unfold b_is_route
  cases hu : unl n d with
  | false =>
    rw [hu] at c1
    have er : isR n ts rs d = false := by
      cases d with
      | tuple xs =>
        simp only [unl, Bool.and_eq_false_iff] at hu
        simp only [isR, Bool.and_eq_false_iff]
        rcases hu with hu | hu
        · exact .inl hu
        · refine .inr ?_
          cases q : asInts xs with
          | none => rfl
          | some l =>
            rw [q] at hu
            simp only at hu ⊢
            simp only [rowB, hu, Bool.false_and]
      | _ => rfl
    rw [er]
    simp only [sSeq, sIf, tOrM, tNotM, c1, sRet, eC]
    simp
  | true =>
    rw [hu] at c1
    cases d with
    | tuple xs =>
      simp only [unl, Bool.and_eq_true] at hu
      obtain ⟨hk, hu⟩ := hu
      obtain ⟨l, rfl, _⟩ := ints_of hk
      rw [asInts_iD] at hu
      simp only at hu
      have er : isR n ts rs (.tuple (iD l)) = (decide (2 ≤ l.length) && (endsB rs l && stepsB ts l)) := by
        simp only [isR, hk, asInts_iD, rowB, hu, Bool.true_and]
      rw [er]
      by_cases hl : 2 ≤ l.length
      · have hne : l ≠ [] := by rintro rfl; simp at hl
        have e1 := ends_ok (Pg := Pg) (n := n) (ts := ts) (rs := rs) (h := h) hne
        have g := allGo_steps (Pg := Pg) (n := n) (ts := ts) (rs := rs) (h := h) (v := .val (.tuple (iD l))) l
        have ea : eAllG 2 (Pg 2) [2, 3] (iVal (eCall (m_steps_of Pg) (aCons (eVar 1) aNil))) (gTp (gsCons (gN 2) (gsCons (gN 3) gsNil))) tYesM (eCall (m_is_tied Pg) (aCons (eVar 0) (aCons (eVar 2) (aCons (eVar 3) aNil)))) [.val (netD n ts rs), .val (.tuple (iD l)), .no, .no] h = some (.bool (stepsB ts l), h) := by
          have ei : iVal (eCall (m_steps_of Pg) (aCons (eVar 1) aNil)) [.val (netD n ts rs), .val (.tuple (iD l)), .no, .no] h = some (pairs (iD l) ((iD l).drop 1), h) := by
            simp only [iVal, eCall, aCons, aNil, eVar, List.getElem?_cons_succ, List.getElem?_cons_zero, steps_ok, seqD]
          simp only [eAllG, ei, h2, if_true, wipeR, List.set_cons_succ, List.set_cons_zero, g]
        generalize eAllG 2 (Pg 2) [2, 3] (iVal (eCall (m_steps_of Pg) (aCons (eVar 1) aNil))) (gTp (gsCons (gN 2) (gsCons (gN 3) gsNil))) tYesM (eCall (m_is_tied Pg) (aCons (eVar 0) (aCons (eVar 2) (aCons (eVar 3) aNil)))) = mA at ea ⊢
        have c2 : tValM dB (eOp gLtI (eQ fLen (qVal (eVar 1))) (eC (.int 2))) [.val (netD n ts rs), .val (.tuple (iD l)), .no, .no] h = some (false, h) := by
          simp [tValM, eOp, eQ, fLen, qVal, eVar, seqD, eC, gI, dB]
          omega
        simp only [sSeq, sIf, tOrM, tNotM, c1, c2, sNil, sRet, eAnd, eCall, aCons, aNil, eVar, List.getElem?_cons_succ, List.getElem?_cons_zero, e1]
        cases z : endsB rs l with
        | false => rw [z] at e1; simp [hl, e1]
        | true => rw [z] at e1; simp [hl, e1, ea]
      · have c2 : tValM dB (eOp gLtI (eQ fLen (qVal (eVar 1))) (eC (.int 2))) [.val (netD n ts rs), .val (.tuple (iD l)), .no, .no] h = some (true, h) := by
          simp [tValM, eOp, eQ, fLen, qVal, eVar, seqD, eC, gI, dB]
          omega
        simp only [sSeq, sIf, tOrM, tNotM, c1, c2, sRet, eC]
        simp [hl]
    | _ => simp [unl] at hu
end Q4
set_option Elab.async false
set_option linter.all false
set_option maxRecDepth 100000
namespace Q4
open PySem PySem.Spec PySem.W PyProof.Rows L2 Q Q2
theorem forGo_chk {g : MG} {mb : MS} {h : Hq} (p : D → Bool) (R : Rho → Prop) : ∀ (ds : List D) (ρ : Rho), R ρ → (∀ d ∈ ds, ∀ ρ, R ρ → ∃ ρ1, g d ρ = some ρ1 ∧ (p d = true → mb ρ1 h = some (.rt (.bool false) h)) ∧ (p d = false → ∃ ρ2, mb ρ1 h = some (.nx ρ2 h) ∧ R ρ2)) →
    (ds.any p = true → forGo g mb ds ρ h = some (.rt (.bool false) h)) ∧ (ds.any p = false → ∃ ρ', forGo g mb ds ρ h = some (.nx ρ' h) ∧ R ρ')
  | [], ρ, r, _ => ⟨fun h => (by cases h), fun _ => ⟨ρ, by simp [forGo], r⟩⟩
  | d :: ds, ρ, r, hd => by
    obtain ⟨ρ1, e1, q1, q2⟩ := hd d List.mem_cons_self ρ r
    cases c : p d with
    | true =>
      refine ⟨fun _ => forGo_rt e1 (q1 c), fun hn => ?_⟩
      simp [c] at hn
    | false =>
      obtain ⟨ρ2, e2, r2⟩ := q2 c
      have ih := forGo_chk p R ds ρ2 r2 fun d hm => hd d (List.mem_cons_of_mem _ hm)
      rw [List.any_cons, c, Bool.false_or, forGo_nx e1 e2]
      exact ih
theorem ris_iff : ∀ l : List Int, risI l = true ↔ l.Pairwise (· < ·)
  | [] => by simp [risI]
  | [x] => by simp [risI]
  | x :: y :: r => by
    rw [risI, Bool.and_eq_true, decide_eq_true_eq, ris_iff (y :: r), List.pairwise_cons (a := x)]
    constructor
    · rintro ⟨h1, h2⟩
      refine ⟨fun z hz => ?_, h2⟩
      rcases List.mem_cons.mp hz with rfl | hz
      · exact h1
      · exact Int.lt_trans h1 ((List.pairwise_cons.mp h2).1 z hz)
    · rintro ⟨h1, h2⟩
      exact ⟨h1 y List.mem_cons_self, h2⟩
theorem ris_nodup (l : List Int) : risI (srtI l) = decide l.Nodup := by
  rw [Bool.eq_iff_iff, ris_iff, decide_eq_true_eq, ← (srtI_perm l).nodup_iff]
  constructor
  · intro h
    exact h.imp fun h => Int.ne_of_lt h
  · intro h
    refine ((srtI_sorted l).and h).imp fun {a b} h => ?_
    have h1 := h.1
    have h2 : a ≠ b := h.2
    omega
theorem cnt_int (l : List Int) (i : Int) : ((iD l).countP fun d => PyData.eqv d (.int i)) = l.count i := by
  rw [List.countP_map]
  rw [show ((fun d => PyData.eqv d (.int i)) ∘ PyData.int) = fun y => y == i from funext fun y => by show PyData.eqv (.int y) (.int i) = _; rw [eqv_int, Bool.eq_iff_iff]; simp]
  rfl
theorem all_lay {xs : List D} (h : shp (.tuple xs) = true) : xs.all PyData.canLay0 = true := by
  rw [List.all_eq_true]
  intro d hd
  have := shp_tuple h d hd
  unfold shp SeqAt.shaped at this
  rw [Bool.and_eq_true] at this
  exact this.1
theorem steps_iff (ts : List Tie) : ∀ l : List Int, stepsB ts l = true ↔ ∀ i, i + 1 < l.length → op2 (l.getD i 0) (l.getD (i + 1) 0) ∈ ts
  | [] => by simp [stepsB]
  | [x] => by simp [stepsB]
  | x :: y :: r => by
    rw [stepsB, Bool.and_eq_true, decide_eq_true_eq, steps_iff ts (y :: r)]
    constructor
    · rintro ⟨h1, h2⟩ i hi
      cases i with
      | zero => simpa using h1
      | succ i =>
        have := h2 i (by simpa using hi)
        simpa using this
    · intro h0
      refine ⟨by simpa using h0 0 (by simp), fun i hi => ?_⟩
      have := h0 (i + 1) (by simpa using hi)
      simpa using this
theorem ends_ne {l : List Int} (h : l.Nodup) (hl : 2 ≤ l.length) : l.headD 0 ≠ l.getLastD 0 := by
  match l, h, hl with
  | x :: y :: r, h, _ =>
    have e : (x :: y :: r).getLastD 0 = (y :: r).getLast (by simp) := by
      rw [List.getLastD_eq_getLast?, List.getLast?_eq_some_getLast (by simp)]
      simp
    rw [e]
    intro z
    have := (List.nodup_cons.mp h).1
    apply this
    have q : x = (y :: r).getLast (by simp) := z
    rw [q]
    exact List.getLast_mem _
theorem srt2 (x y : Int) : PyData.tuple (iD (srtI [x, y])) = tD (op2 x y) := by
  simp only [srtI, Q.insI, op2]
  rcases Int.lt_trichotomy x y with c | c | c
  · simp [show x ≤ y by omega, show ¬ y < x by omega, c]
  · subst c; simp
  · simp [show ¬ x ≤ y by omega, c, show ¬ x < y by omega]
theorem cut2 {l : List Int} {i : Nat} (h : i + 1 < l.length) : Q.cutD (iD l) (some ((i + 1 : Nat) - 1 : Int)) (some ((i + 1 : Nat) + 1 : Int)) = [.int (l.getD i 0), .int (l.getD (i + 1) 0)] := by
  unfold Q.cutD
  have e1 : (((i + 1 : Nat) : Int) - 1) = ((i : Nat) : Int) := by omega
  have e2 : (((i + 1 : Nat) : Int) + 1) = ((i + 2 : Nat) : Int) := by omega
  have e3 : (iD l).drop i = .int l[i] :: .int l[i + 1] :: (iD l).drop (i + 2) := by
    rw [List.drop_eq_getElem_cons (by rw [List.length_map]; omega), List.drop_eq_getElem_cons (by rw [List.length_map]; omega)]
    simp
  rw [e1, e2, HT.sIx_nat, HT.sIx_nat, List.length_map, Nat.min_eq_left (by omega), Nat.min_eq_left (by omega), e3, show i + 2 - i = 2 by omega]
  simp [List.getElem?_eq_getElem (show i < l.length by omega), List.getElem?_eq_getElem h]
section
variable {Pg : TB} {n : Int} {ts : List Tie} {rs : List Int} {h : Hq}
def badB (n : Int) (xs : List D) (d : D) : Bool := !isK n d || decide (1 < xs.countP fun e => PyData.eqv e d)
noncomputable abbrev one1 : MS := (sIf (tOrM (tNotM (tValM truD (eUn (gIsi "int") (eVar 2)))) (tOrM (tValM truD (eUn (gIsi "bool") (eVar 2))) (tOrM (tValM dB (eOp gGtI (eOp gCnt (eVar 1) (eVar 2)) (eC (.int 1)))) (tNotM (tValM dB (eChain gLeI gLtI (eC (.int 0)) (eVar 2) (eQX fIx (qVal (eVar 0)) (eC (.int 0))))))))) (sRet (eC (.bool false))) sNil)
theorem cond1 {xs : List D} {d : D} {v3 : Sl} (hs : shp (.tuple xs) = true) (hd : d ∈ xs) :
    (tOrM (tNotM (tValM truD (eUn (gIsi "int") (eVar 2)))) (tOrM (tValM truD (eUn (gIsi "bool") (eVar 2))) (tOrM (tValM dB (eOp gGtI (eOp gCnt (eVar 1) (eVar 2)) (eC (.int 1)))) (tNotM (tValM dB (eChain gLeI gLtI (eC (.int 0)) (eVar 2) (eQX fIx (qVal (eVar 0)) (eC (.int 0))))))))) [.val (netD n ts rs), .val (.tuple xs), .val d, v3] h = some (badB n xs d, h) := by
  have sd := shp_tuple hs d hd
  have i1 := isi_int sd
  have i2 := isi_bool sd
  have al := all_lay hs
  cases d with
  | int i =>
    have c1 : tValM dB (eOp gGtI (eOp gCnt (eVar 1) (eVar 2)) (eC (.int 1))) [.val (netD n ts rs), .val (.tuple xs), .val (.int i), v3] h = some (decide (1 < xs.countP fun e => PyData.eqv e (.int i)), h) := by
      have gc : gCnt (.tuple xs) (.int i) = some (.int (xs.countP fun e => PyData.eqv e (.int i) : Nat)) := by simp only [gCnt, sd, al, Bool.and_self, if_true]
      simp [tValM, eOp, eVar, eC, gc, gI, dB]
      omega
    have c2 : tValM dB (eChain gLeI gLtI (eC (.int 0)) (eVar 2) (eQX fIx (qVal (eVar 0)) (eC (.int 0)))) [.val (netD n ts rs), .val (.tuple xs), .val (.int i), v3] h = some (isK n (.int i), h) := by
      simp [tValM, eChain, eVar, eC, eQX, qVal, seqD, at0, gI, dB, isK]
      by_cases z : 0 ≤ i <;> simp [z]
    have c0 : tValM truD (eUn (gIsi "int") (eVar 2)) [.val (netD n ts rs), .val (.tuple xs), .val (.int i), v3] h = some (true, h) := by simp [tValM, eUn, eVar, i1, truD]
    have cb : tValM truD (eUn (gIsi "bool") (eVar 2)) [.val (netD n ts rs), .val (.tuple xs), .val (.int i), v3] h = some (false, h) := by simp [tValM, eUn, eVar, i2, truD]
    simp only [tOrM, tNotM, c0, cb, c1, c2]
    unfold badB
    cases isK n (.int i) <;> cases decide (1 < xs.countP fun e => PyData.eqv e (.int i)) <;> simp
  | bool b =>
    simp only [tOrM, tNotM, tValM, eUn, eVar, List.getElem?_cons_succ, List.getElem?_cons_zero, i1, i2, truD]
    simp [badB, isK]
  | _ =>
    simp only [tOrM, tNotM, tValM, eUn, eVar, List.getElem?_cons_succ, List.getElem?_cons_zero, i1, i2, truD]
    simp [badB, isK]
end
end Q4
set_option Elab.async false
set_option linter.all false
set_option maxRecDepth 100000
namespace Q4
open PySem PySem.Spec PySem.W PyProof.Rows L2 Q Q2
section
variable {Pg : TB} {n : Int} {ts : List Tie} {rs : List Int} {h : Hq}
noncomputable abbrev two1 : MS := (sIf (tValM dB (eXQ (fIn true) (eQ (fun k ds => if k then none else some (.tuple ds)) (qVal (eQ fSortA (qVal (eSl (qVal (eVar 1)) (oYes (eOp gSubI (eVar 3) (eC (.int 1)))) (oYes (eOp gAddI (eVar 3) (eC (.int 1))))))))) (qVal (eQX fIx (qVal (eVar 0)) (eC (.int 1)))))) (sRet (eC (.bool false))) sNil)
theorem cond2 {l : List Int} {i : Nat} {v2 : Sl} (hi : i + 1 < l.length) (hl : l.length ≤ 90) :
    tValM dB (eXQ (fIn true) (eQ (fun k ds => if k then none else some (.tuple ds)) (qVal (eQ fSortA (qVal (eSl (qVal (eVar 1)) (oYes (eOp gSubI (eVar 3) (eC (.int 1)))) (oYes (eOp gAddI (eVar 3) (eC (.int 1))))))))) (qVal (eQX fIx (qVal (eVar 0)) (eC (.int 1))))) [.val (netD n ts rs), .val (.tuple (iD l)), v2, .val (.int ((i + 1 : Nat) : Int))] h = some (!decide (op2 (l.getD i 0) (l.getD (i + 1) 0) ∈ ts), h) := by
  have c := cut2 (l := l) (i := i) hi
  have e1 : eSl (qVal (eVar 1)) (oYes (eOp gSubI (eVar 3) (eC (.int 1)))) (oYes (eOp gAddI (eVar 3) (eC (.int 1)))) [.val (netD n ts rs), .val (.tuple (iD l)), v2, .val (.int ((i + 1 : Nat) : Int))] h = some (.tuple [.int (l.getD i 0), .int (l.getD (i + 1) 0)], h) := by
    have s1 : gSubI (.int ((i + 1 : Nat) : Int)) (.int 1) = some (.int (((i + 1 : Nat) : Int) - 1)) := by simp [gI]
    have s2 : gAddI (.int ((i + 1 : Nat) : Int)) (.int 1) = some (.int (((i + 1 : Nat) : Int) + 1)) := by simp [gI]
    simp only [eSl, qVal, eVar, List.getElem?_cons_succ, List.getElem?_cons_zero, seqD, oYes, eOp, eC, s1, s2, c, if_true]
  have e2 : eQ (fun k ds => if k then none else some (.tuple ds)) (qVal (eQ fSortA (qVal (eSl (qVal (eVar 1)) (oYes (eOp gSubI (eVar 3) (eC (.int 1)))) (oYes (eOp gAddI (eVar 3) (eC (.int 1)))))))) [.val (netD n ts rs), .val (.tuple (iD l)), v2, .val (.int ((i + 1 : Nat) : Int))] h = some (tD (op2 (l.getD i 0) (l.getD (i + 1) 0)), h) := by
    generalize eSl (qVal (eVar 1)) (oYes (eOp gSubI (eVar 3) (eC (.int 1)))) (oYes (eOp gAddI (eVar 3) (eC (.int 1)))) = mm at e1 ⊢
    have a2 : asInts [.int (l.getD i 0), .int (l.getD (i + 1) 0)] = some [l.getD i 0, l.getD (i + 1) 0] := asInts_iD [l.getD i 0, l.getD (i + 1) 0]
    simp only [eQ, qVal, e1, seqD, fSortA, a2, Bool.false_eq_true, if_false]
    rw [← srt2]
  generalize eQ (fun k ds => if k then none else some (.tuple ds)) (qVal (eQ fSortA (qVal (eSl (qVal (eVar 1)) (oYes (eOp gSubI (eVar 3) (eC (.int 1)))) (oYes (eOp gAddI (eVar 3) (eC (.int 1)))))))) = mm at e2 ⊢
  have z := in_ties true true (op2 (l.getD i 0) (l.getD (i + 1) 0)) ts
  simp only [tValM, eXQ, e2, qVal, eQX, eVar, List.getElem?_cons_succ, List.getElem?_cons_zero, seqD, eC, at1, z, if_true, dB]
theorem cond3 {l : List Int} {v2 v3 : Sl} (hl : l ≠ []) :
    (tOrM (tValM dB (eXQ (fIn true) (eQX fIx (qVal (eVar 1)) (eC (.int 0))) (qVal (eQX fIx (qVal (eVar 0)) (eC (.int 2)))))) (tOrM (tValM dB (eXQ (fIn true) (eQX fIx (qVal (eVar 1)) (eUn gNeg (eC (.int 1)))) (qVal (eQX fIx (qVal (eVar 0)) (eC (.int 2)))))) (tValM dB (eOp gLtI (eQX fIx (qVal (eVar 1)) (eUn gNeg (eC (.int 1)))) (eQX fIx (qVal (eVar 1)) (eC (.int 0))))))) [.val (netD n ts rs), .val (.tuple (iD l)), v2, v3] h = some (!decide (l.headD 0 ∈ rs) || (!decide (l.getLastD 0 ∈ rs) || decide (l.getLastD 0 < l.headD 0)), h) := by
  have z1 := ix_first (k := true) hl
  have z2 := ix_last (k := true) hl
  have y1 := in_ints true true (l.headD 0) rs
  have y2 := in_ints true true (l.getLastD 0) rs
  generalize l.headD 0 = a at *
  generalize l.getLastD 0 = b at *
  simp [tOrM, tValM, eXQ, eQX, qVal, eVar, seqD, eC, z1, z2, y1, y2, at2, gNeg, eUn, dB, eOp, gI]
  by_cases c1 : a ∈ rs <;> by_cases c2 : b ∈ rs <;> simp [c1, c2]
theorem lroute_ok {d : D} (hs : shp d = true) (hl : ∀ xs, d = .tuple xs → xs.length ≤ 90) : m__law_is_route Pg [netD n ts rs, d] h = some (.bool (isR n ts rs d), h) := by
  unfold m__law_is_route
  rw [if_pos (by rfl)]
  have it := isi_tuple hs
  refine runB_rt ?_
  show b__law_is_route Pg [.val (netD n ts rs), .val d, .no, .no] h = _
  unfold b__law_is_route
  cases d with
  | tuple xs =>
    have hl := hl xs rfl
    have c0 : tOrM (tNotM (tValM truD (eUn (gIsi "tuple") (eVar 1)))) (tValM dB (eOp gLtI (eQ fLen (qVal (eVar 1))) (eC (.int 2)))) [.val (netD n ts rs), .val (.tuple xs), .no, .no] h = some (decide (xs.length < 2), h) := by
      simp [tOrM, tNotM, tValM, eUn, eVar, it, isTu, truD, eOp, eQ, fLen, qVal, seqD, eC, gI, dB]
      omega
    by_cases hx : xs.length < 2
    · have er : isR n ts rs (.tuple xs) = false := by
        simp only [isR, Bool.and_eq_false_iff]
        cases hk : xs.all (isK n) with
        | false => exact .inl rfl
        | true =>
          obtain ⟨l, rfl, _⟩ := ints_of hk
          rw [List.length_map] at hx
          refine .inr ?_
          rw [asInts_iD]
          simp only [rowB, show ¬ 2 ≤ l.length by omega, decide_false, Bool.false_and, Bool.and_false]
      rw [er]
      simp only [sSeq, sIf, c0, hx, decide_true, if_true, sRet, eC]
    have s0 : sIf (tOrM (tNotM (tValM truD (eUn (gIsi "tuple") (eVar 1)))) (tValM dB (eOp gLtI (eQ fLen (qVal (eVar 1))) (eC (.int 2))))) (sRet (eC (.bool false))) sNil [.val (netD n ts rs), .val (.tuple xs), .no, .no] h = some (.nx [.val (netD n ts rs), .val (.tuple xs), .no, .no] h) := by
      simp only [sIf, c0, hx, decide_false, Bool.false_eq_true, if_false, sNil]
    rw [seq_nx s0]
    obtain ⟨k1, k2⟩ := forGo_chk (g := gN 2) (mb := one1) (h := h) (badB n xs) (fun ρ => ∃ v2, ρ = [.val (netD n ts rs), .val (.tuple xs), v2, .no]) xs [.val (netD n ts rs), .val (.tuple xs), .no, .no] ⟨_, rfl⟩ (by
      rintro d hd ρ ⟨v2, rfl⟩
      have c1 := cond1 (n := n) (ts := ts) (rs := rs) (h := h) (v3 := .no) hs hd
      refine ⟨[.val (netD n ts rs), .val (.tuple xs), .val d, .no], by simp [gN], fun hb => ?_, fun hb => ⟨_, ?_, .val d, rfl⟩⟩
      · simp only [one1, sIf, c1, hb, if_true, sRet, eC]
      · simp only [one1, sIf, c1, hb, Bool.false_eq_true, if_false, sNil])
    have ei : iVal (eVar 1) [.val (netD n ts rs), .val (.tuple xs), .no, .no] h = some (xs, h) := by simp [iVal, eVar, seqD]
    cases hb : xs.any (badB n xs) with
    | true =>
      have er : isR n ts rs (.tuple xs) = false := by
        simp only [isR, Bool.and_eq_false_iff]
        cases hk : xs.all (isK n) with
        | false => exact .inl rfl
        | true =>
          obtain ⟨l, rfl, _⟩ := ints_of hk
          refine .inr ?_
          rw [asInts_iD]
          obtain ⟨d, hd, hd2⟩ := List.any_eq_true.mp hb
          have hkd := List.all_eq_true.mp hk d hd
          obtain ⟨i, hi, rfl⟩ := List.mem_map.mp hd
          simp only [badB, hkd, Bool.not_true, Bool.false_or, decide_eq_true_eq, cnt_int] at hd2
          have nn : ¬ l.Nodup := fun hn => by
            have := List.nodup_iff_count.mp hn i
            omega
          simp only [rowB, ris_nodup, nn, decide_false, Bool.false_and]
      rw [er]
      have s1 : sFor (iVal (eVar 1)) (gN 2) one1 [.val (netD n ts rs), .val (.tuple xs), .no, .no] h = some (.rt (.bool false) h) := by
        simp only [sFor, ei]
        exact k1 hb
      exact seq_rt s1
    | false =>
      obtain ⟨ρ', e1, v2, rfl⟩ := k2 hb
      have s1 : sFor (iVal (eVar 1)) (gN 2) one1 [.val (netD n ts rs), .val (.tuple xs), .no, .no] h = some (.nx [.val (netD n ts rs), .val (.tuple xs), v2, .no] h) := by
        simp only [sFor, ei]
        exact e1
      rw [seq_nx s1]
      have hk : xs.all (isK n) = true := List.all_eq_true.mpr fun d hd => by
        have := List.any_eq_false.mp hb d hd
        simp only [badB, Bool.or_eq_true, not_or] at this
        have := this.1
        simpa using this
      obtain ⟨l, rfl, _⟩ := ints_of hk
      have nn : l.Nodup := List.nodup_iff_count.mpr fun i => by
        by_cases hi : i ∈ l
        · have := List.any_eq_false.mp hb (.int i) (List.mem_map.mpr ⟨i, hi, rfl⟩)
          simp only [badB, Bool.or_eq_true, not_or, decide_eq_true_eq, cnt_int] at this
          omega
        · rw [List.count_eq_zero_of_not_mem hi]; omega
      rw [List.length_map] at hx hl
      have hne : l ≠ [] := by rintro rfl; simp at hx
      have en := ends_ne nn (by omega)
      have er : isR n ts rs (.tuple (iD l)) = (endsB rs l && stepsB ts l) := by
        simp only [isR, hk, asInts_iD, rowB, ris_nodup, nn, decide_true, Bool.true_and, show 2 ≤ l.length by omega]
      rw [er]
      have c3 := cond3 (n := n) (ts := ts) (rs := rs) (h := h) (v2 := v2) (v3 := .no) hne
      rw [show (!decide (l.headD 0 ∈ rs) || (!decide (l.getLastD 0 ∈ rs) || decide (l.getLastD 0 < l.headD 0))) = !endsB rs l by
        unfold endsB
        by_cases c1 : l.headD 0 ∈ rs <;> by_cases c2 : l.getLastD 0 ∈ rs <;> simp only [c1, c2, decide_true, decide_false, Bool.not_true, Bool.not_false, Bool.true_or, Bool.false_or, Bool.or_true, Bool.and_false, Bool.false_and, Bool.true_and]
        rw [Bool.eq_iff_iff, decide_eq_true_eq, Bool.not_eq_true', decide_eq_false_iff_not]
        omega] at c3
      cases he : endsB rs l with
      | false =>
        rw [he] at c3
        refine seq_rt ?_
        simp only [sIf, c3, Bool.not_false, if_true, sRet, eC, Bool.false_and]
      | true =>
        rw [he] at c3
        refine (seq_nx (ρ1 := [.val (netD n ts rs), .val (.tuple (iD l)), v2, .no]) (h1 := h) (by simp only [sIf, c3, Bool.not_true, Bool.false_eq_true, if_false, sNil])).trans ?_
        obtain ⟨j1, j2⟩ := forGo_chk (g := gN 3) (mb := two1) (h := h) (fun d => match d with | .int j => !decide (op2 (l.getD (j.toNat - 1) 0) (l.getD j.toNat 0) ∈ ts) | _ => false) (fun ρ => ∃ v3, ρ = [.val (netD n ts rs), .val (.tuple (iD l)), v2, v3]) (rangeD 1 l.length) [.val (netD n ts rs), .val (.tuple (iD l)), v2, .no] ⟨_, rfl⟩ (by
          rintro d hd ρ ⟨v3, rfl⟩
          obtain ⟨i, hi⟩ := List.mem_iff_getElem?.mp hd
          obtain ⟨rfl, hlt⟩ := rangeD_get hi
          rw [show (1 : Int) + (i : Int) = ((i + 1 : Nat) : Int) by omega] at *
          have c2 := cond2 (n := n) (ts := ts) (rs := rs) (h := h) (v2 := v2) (l := l) (i := i) (by omega) hl
          refine ⟨[.val (netD n ts rs), .val (.tuple (iD l)), v2, .val (.int ((i + 1 : Nat) : Int))], by simp [gN], fun hb => ?_, fun hb => ⟨_, ?_, .val (.int ((i + 1 : Nat) : Int)), rfl⟩⟩
          · simp only [Int.toNat_natCast, Nat.add_sub_cancel] at hb
            simp only [two1, sIf, c2, hb, if_true, sRet, eC]
          · simp only [Int.toNat_natCast, Nat.add_sub_cancel] at hb
            simp only [two1, sIf, c2, hb, Bool.false_eq_true, if_false, sNil])
        have o := ok62_small (i := (l.length : Int)) (by omega) (by omega)
        have o1 := ok62_small (i := 1) (by omega) (by omega)
        have ej : iRange2 (eC (.int 1)) (eQ fLen (qVal (eVar 1))) [.val (netD n ts rs), .val (.tuple (iD l)), v2, .no] h = some (rangeD 1 l.length, h) := by
          simp [iRange2, eC, eQ, fLen, qVal, eVar, seqD, o, o1]
        have key : ((rangeD 1 l.length).any fun d => match d with | .int j => !decide (op2 (l.getD (j.toNat - 1) 0) (l.getD j.toNat 0) ∈ ts) | _ => false) = !stepsB ts l := by
          rw [Bool.eq_iff_iff, List.any_eq_true, Bool.not_eq_true', ← Bool.not_eq_true, steps_iff]
          constructor
          · rintro ⟨d, hd, hd2⟩ hall
            obtain ⟨i, hi⟩ := List.mem_iff_getElem?.mp hd
            obtain ⟨rfl, hlt⟩ := rangeD_get hi
            rw [show (1 : Int) + (i : Int) = ((i + 1 : Nat) : Int) by omega] at hd2 hlt
            simp only [Int.toNat_natCast, Nat.add_sub_cancel, Bool.not_eq_true', decide_eq_false_iff_not] at hd2
            exact hd2 (hall i (by omega))
          · intro hn
            rw [Classical.not_forall] at hn
            obtain ⟨i, hi⟩ := hn
            rw [Classical.not_imp] at hi
            obtain ⟨h1, h2⟩ := hi
            refine ⟨.int ((i + 1 : Nat) : Int), ?_, ?_⟩
            · unfold rangeD
              refine List.mem_map.mpr ⟨i, List.mem_range.mpr (by omega), ?_⟩
              congr 1
              omega
            · simp only [Int.toNat_natCast, Nat.add_sub_cancel, h2, decide_false, Bool.not_false]
        rw [key] at j1 j2
        cases hst : stepsB ts l with
        | false =>
          rw [hst] at j1
          refine seq_rt ?_
          simp only [sFor, ej, Bool.and_false]
          exact j1 rfl
        | true =>
          rw [hst] at j2
          obtain ⟨ρ2, e2, v3, rfl⟩ := j2 rfl
          refine (seq_nx (ρ1 := [.val (netD n ts rs), .val (.tuple (iD l)), v2, v3]) (h1 := h) (by simp only [sFor, ej]; exact e2)).trans ?_
          simp [sRet, eC]
  | _ => simp [sSeq, sIf, tOrM, tNotM, tValM, eUn, eVar, it, isTu, truD, sRet, eC, isR]
end
end Q4
set_option Elab.async false
set_option linter.all false
set_option maxRecDepth 100000
namespace Q2
open PySem PySem.Spec PySem.W PyProof.Rows L2 Q
def newOf (found : List Int) (t : List Int) (y : Int) : List Int := if y ∈ found ++ t then t else t ++ [y]
section
variable {ws : List Tie} {n k : Int} {h : Hq} {net bd : D} {found waiting : List Int}
noncomputable abbrev rIn : MS := (sIf (tValM dB (eXQ (fIn true) (eVar 9) (qOwn 6))) (sSeq (sApp 6 (eVar 9)) (sApp 7 (eVar 9))) sNil)
abbrev rR (net bd : D) (k : Int) (ws : List Tie) (found waiting : List Int) (v8 v9 : Sl) : Rho := [.val net, .val bd, .val (.int k), .no, .no, .val (.list (ws.map tD)), .own (iD found), .own (iD waiting), v8, v9]
theorem inner_ex {found w' : List Int} {x : Int} {v9 : Sl} (hn : n ≤ 60) (rg : ∀ p ∈ ws, (0 ≤ p.1 ∧ p.1 < n) ∧ 0 ≤ p.2 ∧ p.2 < n) (g : Gdw ws n k found) (hx : x ∈ found) (hw : w'.length ≤ 60) :
    ∃ v9', forGo (gN 9) rIn (iD (far ws x)) (rR net bd k ws found w' (.val (.int x)) v9) h = some (.nx (rR net bd k ws (found ++ (far ws x).foldl (newOf found) []) (w' ++ (far ws x).foldl (newOf found) []) (.val (.int x)) v9') h) ∧ Gdw ws n k (found ++ (far ws x).foldl (newOf found) []) := by
  obtain ⟨ρ', h', e, rfl, v9', rfl, g'⟩ := forGo_fold (g := gN 9) (mb := rIn) PyData.int (newOf found) (fun t ρ h' => h' = h ∧ ∃ v9', ρ = rR net bd k ws (found ++ t) (w' ++ t) (.val (.int x)) v9' ∧ Gdw ws n k (found ++ t)) (far ws x) [] (rR net bd k ws found w' (.val (.int x)) v9) h ⟨rfl, v9, by simp, by simpa using g⟩ (by
    rintro t y ρ h' hy ⟨rfl, v9', rfl, g'⟩
    have l1 := few g'.nd g'.rg
    have l2 : (iD (found ++ t)).length < lim := lt_lim (by rw [List.length_map]; omega)
    have l3 : (iD (w' ++ t)).length < lim := lt_lim (by rw [List.length_map, List.length_append]; rw [List.length_append] at l1; omega)
    have z := in_ints true false y (found ++ t)
    obtain ⟨p, hp, hpy⟩ := far_mem.mp hy
    by_cases c : y ∈ found ++ t
    · refine ⟨rR net bd k ws (found ++ t) (w' ++ t) (.val (.int x)) (.val (.int y)), rR net bd k ws (found ++ t) (w' ++ t) (.val (.int x)) (.val (.int y)), h', by simp [gN], ?_, rfl, .val (.int y), by unfold newOf; rw [if_pos c], by unfold newOf; rw [if_pos c]; exact g'⟩
      have cc : tValM dB (eXQ (fIn true) (eVar 9) (qOwn 6)) (rR net bd k ws (found ++ t) (w' ++ t) (.val (.int x)) (.val (.int y))) h' = some (false, h') := by
        simp only [tValM, eXQ, eVar, qOwn, List.getElem?_cons_succ, List.getElem?_cons_zero, z, dB]
        simp [c]
      simp only [rIn, sIf, cc, Bool.false_eq_true, if_false, sNil]
    · have sy : Rch ws k y := by
        have sx := g.sound x hx
        rcases hpy with ⟨h1, h2⟩ | ⟨h1, h2⟩
        · rw [← h2]; rw [← h1] at sx; exact (Rch.tie hp).mp sx
        · rw [← h2]; rw [← h1] at sx; exact (Rch.tie hp).mpr sx
      have ry : 0 ≤ y ∧ y < n := by have := rg p hp; omega
      refine ⟨rR net bd k ws (found ++ t) (w' ++ t) (.val (.int x)) (.val (.int y)), rR net bd k ws (found ++ (t ++ [y])) (w' ++ (t ++ [y])) (.val (.int x)) (.val (.int y)), h', by simp [gN], ?_, rfl, .val (.int y), by unfold newOf; rw [if_neg c], by unfold newOf; rw [if_neg c, ← List.append_assoc]; exact g'.add c ry sy⟩
      have cc : tValM dB (eXQ (fIn true) (eVar 9) (qOwn 6)) (rR net bd k ws (found ++ t) (w' ++ t) (.val (.int x)) (.val (.int y))) h' = some (true, h') := by
        simp only [tValM, eXQ, eVar, qOwn, List.getElem?_cons_succ, List.getElem?_cons_zero, z, dB]
        simp [c]
      simp only [rIn, sIf, cc, if_true]
      simp only [sSeq, sApp, eVar, List.getElem?_cons_succ, List.getElem?_cons_zero, l2, l3, if_true, List.set_cons_succ, List.set_cons_zero]
      simp [rR])
  exact ⟨v9', by simpa using e, g'⟩
structure Wt (ws : List Tie) (n k : Int) (found waiting : List Int) : Prop where
  g : Gdw ws n k found
  sub : ∀ x ∈ waiting, x ∈ found
  nd : waiting.Nodup
  done : ∀ x ∈ found, x ∉ waiting → ∀ y ∈ far ws x, y ∈ found
theorem Wt.few (w : Wt ws n k found waiting) : waiting.length ≤ n.toNat := Q.few w.nd fun x hx => w.g.rg x (w.sub x hx)
theorem Wt.start (k0 : 0 ≤ k) (k1 : k < n) : Wt ws n k [k] [k] := ⟨⟨by simp, by simp, fun x hx => by rw [List.mem_singleton.mp hx]; exact ⟨k0, k1⟩, fun x hx => by rw [List.mem_singleton.mp hx]; exact Rch.refl⟩, fun x hx => hx, by simp, fun x hx h => absurd hx h⟩
theorem Wt.next {x : Int} {w' T : List Int} (w : Wt ws n k found (w' ++ [x])) (g : Gdw ws n k (found ++ T)) (all : ∀ y ∈ far ws x, y ∈ found ++ T) : Wt ws n k (found ++ T) (w' ++ T) := by
  have hsub : ∀ y ∈ w', y ∈ found := fun y hy => w.sub y (List.mem_append_left _ hy)
  obtain ⟨n1, n2, n3⟩ := List.nodup_append.mp g.nd
  obtain ⟨m1, _, _⟩ := List.nodup_append.mp w.nd
  refine ⟨g, fun y hy => ?_, List.nodup_append.mpr ⟨m1, n2, fun a ha b hb => n3 a (hsub a ha) b hb⟩, fun y hy hn z hz => ?_⟩
  · rcases List.mem_append.mp hy with q | q
    · exact List.mem_append_left _ (hsub y q)
    · exact List.mem_append_right _ q
  · have hT : y ∉ T := fun q => hn (List.mem_append_right _ q)
    have hw : y ∉ w' := fun q => hn (List.mem_append_left _ q)
    have hf : y ∈ found := (List.mem_append.mp hy).resolve_right hT
    by_cases e : y = x
    · subst e; exact all z hz
    · refine List.mem_append_left _ (w.done y hf (fun q => ?_) z hz)
      rcases List.mem_append.mp q with q | q
      · exact hw q
      · exact e (List.mem_singleton.mp q)
noncomputable abbrev rBody : MS := (sSeq (sPop 8 7) (sFor (iVal (eCall m_far_ends (aCons (eVar 5) (aCons (eVar 8) aNil)))) (gN 9) rIn))
end
end Q2
set_option Elab.async false
set_option linter.all false
set_option maxRecDepth 100000
namespace Q2
open PySem PySem.Spec PySem.W PyProof.Rows L2 Q
theorem catL_ok {xs ys : List D} (h : xs.length + ys.length ≤ 1000000) : gCatL (.list xs) (.list ys) = some (.list (xs ++ ys)) := by simp only [gCatL, le_lim h, if_true]
end Q2
set_option Elab.async false
set_option linter.all false
set_option maxRecDepth 100000
namespace Q2
open PySem PySem.Spec PySem.W PyProof.Rows L2 Q
section
variable {n k : Int} {ts : List Tie} {rs bs : List Int} {bd : D} {kb : Bool} {h : Hq}
end
end Q2
set_option Elab.async false
set_option linter.all false
set_option maxRecDepth 100000
namespace Q2
open PySem PySem.Spec PySem.W PyProof.Rows L2 Q
section
variable {n : Int} {ts : List Tie} {rs bs : List Int} {bd : D} {kb : Bool} {h : Hq}
noncomputable abbrev cBody : MS := (sSeq (sSet 5 (eCall m_reached (aCons (eVar 0) (aCons (eVar 1) (aCons (eVar 4) aNil))))) (sExt 3 (eL (lLc [6] (iVal (eVar 2)) (gN 6) (tAndM (tValM dB (eOp gLtI (eVar 4) (eVar 6))) (tValM dB (eXQ (fIn true) (eVar 6) (qVal (eVar 5))))) (eA fTup (aCons (eVar 4) (aCons (eVar 6) aNil)))))))
noncomputable abbrev pBody : MS := (sIf (tValM dB (eXQ (fIn true) (eVar 4) (qVal (eCall m_reached (aCons (eVar 0) (aCons (eA fTup (aCons (eVar 2) aNil)) (aCons (eVar 3) aNil))))))) (sApp 1 (eVar 2)) sNil)
end
end Q2
set_option Elab.async false
set_option linter.all false
set_option maxRecDepth 100000
namespace Q2
open PySem PySem.Spec PySem.W PyProof.Rows L2 Q
theorem ties_of {n : Int} : ∀ {tl : List (List Int)}, (∀ q ∈ tl, tieI n q) → ∃ ts : List Tie, tl = ts.map (fun p => [p.1, p.2]) ∧ tl.map tupD = ts.map tD ∧ (∀ p ∈ ts, 0 ≤ p.1 ∧ p.1 < p.2 ∧ p.2 < n) ∧ ts.length = tl.length
  | [], _ => ⟨[], rfl, rfl, fun p hp => (by cases hp), rfl⟩
  | q :: tl, h => by
    obtain ⟨ts, e0, e, r, l⟩ := ties_of (tl := tl) fun q hq => h q (List.mem_cons_of_mem _ hq)
    obtain ⟨a, b, rfl, h1⟩ := h q List.mem_cons_self
    refine ⟨(a, b) :: ts, by rw [e0]; rfl, by rw [List.map_cons, e]; rfl, fun p hp => ?_, by simp [l]⟩
    rcases List.mem_cons.mp hp with rfl | hp
    · exact h1
    · exact r p hp
section
variable {sc tw : D} {n : Int} {ts : List Tie} {rs bs : List Int} {bd : D} {kb : Bool} {h : Hq} {v2 v8 v9 v10 v11 v12 v13 v14 v15 : Sl}
noncomputable abbrev same (a b : ME) : MS := sIf (tNotM (tValM truD (eCall (m__law_same 4) (aCons a (aCons b aNil))))) (sRet (eC (.bool false))) sNil
structure NetOk (n : Int) (ts : List Tie) (rs : List Int) : Prop where
  n1 : 1 ≤ n
  n7 : n ≤ 7
  rg : ∀ p ∈ ts, 0 ≤ p.1 ∧ p.1 < p.2 ∧ p.2 < n
  nd : ts.Nodup
  few : ts.length ≤ 9
  rim : ∀ r ∈ rs, 0 ≤ r ∧ r < n
  rl : rs.length ≤ 7
end
end Q2
set_option Elab.async false
set_option linter.all false
set_option maxRecDepth 100000
namespace Q4
open PySem PySem.Spec PySem.W PyProof.Rows L2 Q Q2
def cE (r : List Int) (t : Tie) : Bool := decide (r.getLastD 0 = t.1 ∨ r.getLastD 0 = t.2) && (decide (t.1 ∉ r) || decide (t.2 ∉ r))
def ext (r : List Int) (t : Tie) : List Int := r ++ [t.1 + t.2 - r.getLastD 0]
def extAll (ts : List Tie) (r : List Int) : List (List Int) := (ts.filter (cE r)).map (ext r)
theorem last_mem {r : List Int} (h : r ≠ []) : r.getLastD 0 ∈ r := by
  rw [List.getLastD_eq_getLast?, List.getLast?_eq_some_getLast h]
  exact List.getLast_mem h
theorem ext_other {r : List Int} {t : Tie} (hr : r ≠ []) (hc : cE r t = true) : t.1 + t.2 - r.getLastD 0 ∉ r ∧ ((r.getLastD 0 = t.1 ∧ t.1 + t.2 - r.getLastD 0 = t.2) ∨ (r.getLastD 0 = t.2 ∧ t.1 + t.2 - r.getLastD 0 = t.1)) := by
  have hm := last_mem hr
  simp only [cE, Bool.and_eq_true, Bool.or_eq_true, decide_eq_true_eq] at hc
  obtain ⟨h1, h2⟩ := hc
  rcases h1 with h1 | h1
  · have e : t.1 + t.2 - r.getLastD 0 = t.2 := by omega
    refine ⟨?_, .inl ⟨h1, e⟩⟩
    rw [e]
    rcases h2 with h2 | h2
    · rw [h1] at hm; exact absurd hm h2
    · exact h2
  · have e : t.1 + t.2 - r.getLastD 0 = t.1 := by omega
    refine ⟨?_, .inr ⟨h1, e⟩⟩
    rw [e]
    rcases h2 with h2 | h2
    · exact h2
    · rw [h1] at hm; exact absurd hm h2
structure RowOk (n : Int) (k : Nat) (r : List Int) : Prop where
  len : r.length = k
  nd : r.Nodup
  rg : ∀ x ∈ r, 0 ≤ x ∧ x < n
theorem ext_row {n : Int} {ts : List Tie} {k : Nat} {r : List Int} {t : Tie} (R : RowOk n k r) (hk : 1 ≤ k) (rg : ∀ p ∈ ts, 0 ≤ p.1 ∧ p.1 < p.2 ∧ p.2 < n) (ht : t ∈ ts) (hc : cE r t = true) : RowOk n (k + 1) (ext r t) := by
  have hr : r ≠ [] := by rintro rfl; have := R.len; simp at this; omega
  obtain ⟨h1, h2⟩ := ext_other hr hc
  have g := rg t ht
  refine ⟨by unfold ext; rw [List.length_append, R.len]; rfl, ?_, fun x hx => ?_⟩
  · unfold ext
    rw [List.nodup_append]
    refine ⟨R.nd, by simp, fun a ha b hb => ?_⟩
    rw [List.mem_singleton.mp hb]
    exact fun e => h1 (e ▸ ha)
  · unfold ext at hx
    rcases List.mem_append.mp hx with hx | hx
    · exact R.rg x hx
    · rw [List.mem_singleton.mp hx]
      rcases h2 with ⟨_, e⟩ | ⟨_, e⟩ <;> rw [e] <;> omega
theorem ext_few {n : Int} {ts : List Tie} {k : Nat} {r : List Int} (R : RowOk n k r) (hk : 1 ≤ k) (n7 : n ≤ 7) (rg : ∀ p ∈ ts, 0 ≤ p.1 ∧ p.1 < p.2 ∧ p.2 < n) (nd : ts.Nodup) : (extAll ts r).length ≤ 7 - k := by
  have hr : r ≠ [] := by rintro rfl; have := R.len; simp at this; omega
  have ndo : ((ts.filter (cE r)).map fun t => t.1 + t.2 - r.getLastD 0).Nodup := by
    refine List.pairwise_map.mpr ((nd.filter _).imp_of_mem fun {a b} ha hb hne e => hne ?_)
    obtain ⟨ha1, ha2⟩ := List.mem_filter.mp ha
    obtain ⟨hb1, hb2⟩ := List.mem_filter.mp hb
    obtain ⟨_, oa⟩ := ext_other hr ha2
    obtain ⟨_, ob⟩ := ext_other hr hb2
    have ga := rg a ha1
    have gb := rg b hb1
    apply Prod.ext <;> rcases oa with ⟨a1, a2⟩ | ⟨a1, a2⟩ <;> rcases ob with ⟨b1, b2⟩ | ⟨b1, b2⟩ <;> omega
  have := few (n := n) (l := r ++ (ts.filter (cE r)).map fun t => t.1 + t.2 - r.getLastD 0) (by
    rw [List.nodup_append]
    refine ⟨R.nd, ndo, fun a ha b hb e => ?_⟩
    obtain ⟨t, ht, rfl⟩ := List.mem_map.mp hb
    exact (ext_other hr (List.mem_filter.mp ht).2).1 (e ▸ ha)) (fun x hx => by
    rcases List.mem_append.mp hx with hx | hx
    · exact R.rg x hx
    · obtain ⟨t, ht, rfl⟩ := List.mem_map.mp hx
      obtain ⟨h1, h2⟩ := List.mem_filter.mp ht
      have g := rg t h1
      rcases (ext_other hr h2).2 with ⟨_, e⟩ | ⟨_, e⟩ <;> rw [e] <;> omega)
  rw [List.length_append, List.length_map, R.len] at this
  unfold extAll
  rw [List.length_map]
  omega
theorem flat_len {α β : Type} (f : α → List β) (m : Nat) : ∀ l : List α, (∀ x ∈ l, (f x).length ≤ m) → (l.flatMap f).length ≤ l.length * m
  | [], _ => by simp
  | x :: l, h => by
    have := flat_len f m l fun y hy => h y (List.mem_cons_of_mem _ hy)
    have h1 := h x List.mem_cons_self
    rw [List.flatMap_cons, List.length_append, List.length_cons, Nat.add_mul]
    omega
def cap : Nat → Nat
  | 0 => 1
  | k + 1 => cap k * (7 - k)
theorem cap_le {k : Nat} (h : k ≤ 8) : cap k ≤ 5040 := by
  have : k = 0 ∨ k = 1 ∨ k = 2 ∨ k = 3 ∨ k = 4 ∨ k = 5 ∨ k = 6 ∨ k = 7 ∨ k = 8 := by omega
  rcases this with rfl | rfl | rfl | rfl | rfl | rfl | rfl | rfl | rfl <;> decide
theorem foldl_fm {α β : Type} (c : α → Bool) (f : α → β) : ∀ (l : List α) (a : List β), l.foldl (fun acc y => if c y = true then acc ++ [f y] else acc) a = a ++ (l.filter c).map f
  | [], a => by simp
  | y :: l, a => by
    rw [List.foldl_cons, foldl_fm c f l]
    cases z : c y with
    | true => rw [if_pos rfl, List.filter_cons_of_pos z]; simp
    | false => rw [if_neg Bool.false_ne_true, List.filter_cons_of_neg (by rw [z]; exact Bool.false_ne_true)]
theorem foldl_flat {α β : Type} (f : α → List β) : ∀ (l : List α) (a : List β), l.foldl (fun acc y => acc ++ f y) a = a ++ l.flatMap f
  | [], a => by simp
  | y :: l, a => by rw [List.foldl_cons, foldl_flat f l]; simp
section
variable {n : Int} {ts : List Tie} {rs : List Int} {h : Hq} {v1 v5 v6 : Sl} {rows got acc : List D}
abbrev RW (n : Int) (ts : List Tie) (rs : List Int) (v1 : Sl) (rows got : List D) (v4 v5 v6 : Sl) : Rho := [.val (netD n ts rs), v1, .val (.list rows), .val (.list got), v4, v5, v6]
noncomputable abbrev iCond : MT := (tAndM (tValM dB (eXQ (fIn false) (eQX fIx (qVal (eVar 5)) (eUn gNeg (eC (.int 1)))) (qVal (eVar 6)))) (tOrM (tValM dB (eXQ (fIn true) (eQX fIx (qVal (eVar 6)) (eC (.int 0))) (qVal (eVar 5)))) (tValM dB (eXQ (fIn true) (eQX fIx (qVal (eVar 6)) (eC (.int 1))) (qVal (eVar 5))))))
noncomputable abbrev iElt : ME := (eOp gCatT (eVar 5) (eA fTup (aCons (eOp gSubI (eOp gAddI (eQX fIx (qVal (eVar 6)) (eC (.int 0))) (eQX fIx (qVal (eVar 6)) (eC (.int 1)))) (eQX fIx (qVal (eVar 5)) (eUn gNeg (eC (.int 1))))) aNil)))
theorem icond {r : List Int} {t : Tie} {v4 : Sl} (hr : r ≠ []) : iCond (RW n ts rs v1 rows got v4 (.val (tupD r)) (.val (tD t))) h = some (cE r t, h) := by
  have z2 := ix_last (k := true) hr
  have y1 := in_ints false true (r.getLastD 0) [t.1, t.2]
  have y2 := in_ints true true t.1 r
  have y3 := in_ints true true t.2 r
  unfold cE
  generalize r.getLastD 0 = b at *
  rw [show iD [t.1, t.2] = [.int t.1, .int t.2] from rfl] at y1
  simp [iCond, tAndM, tOrM, tValM, eXQ, eQX, qVal, eVar, seqD, eC, z2, y1, y2, y3, at0, at1, gNeg, eUn, dB, tupD]
  by_cases c1 : b = t.1 ∨ b = t.2 <;> by_cases c2 : t.1 ∈ r <;> by_cases c3 : t.2 ∈ r <;> simp [c1, c2, c3] <;> exact not_or.mp c1
theorem ielt {r : List Int} {t : Tie} {v4 : Sl} (hr : r ≠ []) (hl : r.length ≤ 100) : iElt (RW n ts rs v1 rows got v4 (.val (tupD r)) (.val (tD t))) h = some (tupD (ext r t), h) := by
  have z2 := ix_last (k := true) hr
  unfold ext
  generalize r.getLastD 0 = b at *
  have l1 : (iD r).length + ([PyData.int (t.1 + t.2 - b)] : List D).length ≤ lim := le_lim (by rw [List.length_map]; simp; omega)
  simp only [iElt, eOp, eVar, List.getElem?_cons_succ, List.getElem?_cons_zero, eA, aCons, aNil, eQX, qVal, seqD, eC, at0, at1, eUn, gNeg, z2, tupD, gI, if_true, fTup, le_lim (show ([PyData.int (t.1 + t.2 - b)] : List D).length ≤ 1000000 by simp), gCatT, l1]
  simp
end
end Q4
set_option Elab.async false
set_option linter.all false
set_option maxRecDepth 100000
namespace Q4
open PySem PySem.Spec PySem.W PyProof.Rows L2 Q Q2
section
variable {n : Int} {ts : List Tie} {rs : List Int} {h : Hq} {v1 v5 v6 : Sl} {rows got acc : List D}
noncomputable abbrev inner : MS := (sFor (iVal (eQX fIx (qVal (eVar 0)) (eC (.int 1)))) (gN 6) (sIf iCond (sApp 4 iElt) sNil))
theorem inner_ex {r : List Int} (hr : r ≠ []) (hl : r.length ≤ 100) (ht : ts.length ≤ 9) (ha : acc.length ≤ 900000) : ∃ v6', inner (RW n ts rs v1 rows got (.own acc) (.val (tupD r)) v6) h = some (.nx (RW n ts rs v1 rows got (.own (acc ++ (extAll ts r).map tupD)) (.val (tupD r)) v6') h) := by
  obtain ⟨ρ', h', e, rfl, v6', rfl, _⟩ := forGo_foldi (g := gN 6) (mb := sIf iCond (sApp 4 iElt) sNil) tD (fun a t => if cE r t = true then a ++ [tupD (ext r t)] else a)
    (fun i a ρ h' => h' = h ∧ ∃ v6', ρ = RW n ts rs v1 rows got (.own a) (.val (tupD r)) v6' ∧ a.length ≤ 900000 + i) 20 ts 0 acc (RW n ts rs v1 rows got (.own acc) (.val (tupD r)) v6) h (by omega) ⟨rfl, v6, rfl, by omega⟩ (by
    rintro i a t ρ h' hi ht' ⟨rfl, v6', rfl, ll⟩
    have c := icond (n := n) (ts := ts) (rs := rs) (h := h') (v1 := v1) (rows := rows) (got := got) (v4 := .own a) (t := t) hr
    have el := ielt (n := n) (ts := ts) (rs := rs) (h := h') (v1 := v1) (rows := rows) (got := got) (v4 := .own a) (t := t) hr hl
    generalize iCond = mc at *
    generalize iElt = me at *
    cases q : cE r t with
    | true =>
      refine ⟨RW n ts rs v1 rows got (.own a) (.val (tupD r)) (.val (tD t)), RW n ts rs v1 rows got (.own (a ++ [tupD (ext r t)])) (.val (tupD r)) (.val (tD t)), h', by simp [gN], ?_, rfl, .val (tD t), by simp, by simp; omega⟩
      have lt := lt_lim (show a.length < 1000000 by omega)
      simp only [sIf, c, q, if_true, sApp, el, List.getElem?_cons_succ, List.getElem?_cons_zero, lt]
      simp
    | false =>
      refine ⟨RW n ts rs v1 rows got (.own a) (.val (tupD r)) (.val (tD t)), RW n ts rs v1 rows got (.own a) (.val (tupD r)) (.val (tD t)), h', by simp [gN], ?_, rfl, .val (tD t), by simp, by simp; omega⟩
      simp only [sIf, c, q, Bool.false_eq_true, if_false, sNil])
  refine ⟨v6', ?_⟩
  have ei : iVal (eQX fIx (qVal (eVar 0)) (eC (.int 1))) (RW n ts rs v1 rows got (.own acc) (.val (tupD r)) v6) h' = some (ts.map tD, h') := by simp [iVal, eQX, qVal, eVar, eC, seqD, at1]
  rw [foldl_fm] at e
  unfold inner
  simp only [sFor, ei]
  unfold extAll
  rw [List.map_map]
  exact e
theorem outer_ex {rw_ : List (List Int)} (hr : ∀ r ∈ rw_, r ≠ [] ∧ r.length ≤ 100) (ht : ts.length ≤ 9) (ha : rw_.length ≤ 50000) : ∃ v5' v6', sFor (iVal (eVar 2)) (gN 5) inner (RW n ts rs v1 (rw_.map tupD) got (.own []) v5 v6) h = some (.nx (RW n ts rs v1 (rw_.map tupD) got (.own ((rw_.flatMap (extAll ts)).map tupD)) v5' v6') h) := by
  obtain ⟨ρ', h', e, rfl, v5', v6', rfl, _⟩ := forGo_foldi (g := gN 5) (mb := inner) tupD (fun a r => a ++ (extAll ts r).map tupD)
    (fun i a ρ h' => h' = h ∧ ∃ v5' v6', ρ = RW n ts rs v1 (rw_.map tupD) got (.own a) v5' v6' ∧ a.length ≤ 9 * i) rw_.length rw_ 0 [] (RW n ts rs v1 (rw_.map tupD) got (.own []) v5 v6) h (by omega) ⟨rfl, v5, v6, rfl, by simp⟩ (by
    rintro i a r ρ h' hi hr' ⟨rfl, v5', v6', rfl, ll⟩
    obtain ⟨hr1, hr2⟩ := hr r hr'
    obtain ⟨w6, ei⟩ := inner_ex (n := n) (ts := ts) (rs := rs) (h := h') (v1 := v1) (rows := rw_.map tupD) (got := got) (acc := a) (v6 := v6') hr1 hr2 ht (by omega)
    refine ⟨RW n ts rs v1 (rw_.map tupD) got (.own a) (.val (tupD r)) v6', _, h', by simp [gN], ei, rfl, .val (tupD r), w6, rfl, ?_⟩
    have : (extAll ts r).length ≤ ts.length := by unfold extAll; rw [List.length_map]; exact List.length_filter_le _ _
    rw [List.length_append, List.length_map]
    omega)
  refine ⟨v5', v6', ?_⟩
  have ei : iVal (eVar 2) (RW n ts rs v1 (rw_.map tupD) got (.own []) v5 v6) h' = some (rw_.map tupD, h') := by simp [iVal, eVar, seqD]
  rw [foldl_flat, List.nil_append] at e
  simp only [sFor, ei]
  rw [List.map_flatMap]
  exact e
def cG (rs : List Int) (r : List Int) : Bool := decide (r.getLastD 0 ∈ rs) && decide (r.headD 0 < r.getLastD 0)
noncomputable abbrev gCond : MT := (tAndM (tValM dB (eXQ (fIn false) (eQX fIx (qVal (eVar 5)) (eUn gNeg (eC (.int 1)))) (qVal (eQX fIx (qVal (eVar 0)) (eC (.int 2)))))) (tValM dB (eOp gLtI (eQX fIx (qVal (eVar 5)) (eC (.int 0))) (eQX fIx (qVal (eVar 5)) (eUn gNeg (eC (.int 1)))))))
theorem gcond {r : List Int} {v4 : Sl} (hr : r ≠ []) : gCond (RW n ts rs v1 rows got v4 (.val (tupD r)) v6) h = some (cG rs r, h) := by
  have z1 := ix_first (k := true) hr
  have z2 := ix_last (k := true) hr
  have y1 := in_ints false true (r.getLastD 0) rs
  unfold cG
  generalize r.getLastD 0 = b at *
  generalize r.headD 0 = a at *
  simp [gCond, tAndM, tValM, eXQ, eQX, qVal, eVar, seqD, eC, z1, z2, y1, at2, gNeg, eUn, dB, tupD, eOp, gI]
  by_cases c1 : b ∈ rs <;> simp [c1]
noncomputable abbrev gStep : MS := (sFz 4 (sSet 3 (eOp gCatL (eVar 3) (eL (lLc [5] (iVal (eVar 4)) (gN 5) gCond (eVar 5))))))
theorem got_ex {ac gt : List (List Int)} (hr : ∀ r ∈ ac, r ≠ []) (l1 : ac.length ≤ 500000) (l2 : gt.length ≤ 400000) : gStep (RW n ts rs v1 rows (gt.map tupD) (.own (ac.map tupD)) v5 v6) h = some (.nx (RW n ts rs v1 rows ((gt ++ ac.filter (cG rs)).map tupD) (.val (.list (ac.map tupD))) v5 v6) h) := by
  have el : lLc [5] (iVal (eVar 4)) (gN 5) gCond (eVar 5) (RW n ts rs v1 rows (gt.map tupD) (.val (.list (ac.map tupD))) v5 v6) h = some ((ac.filter (cG rs)).map tupD, h) := by
    refine lLc_map tupD (cG rs) tupD ac (by omega) (by simp [iVal, eVar, seqD]) fun r hr' => ?_
    refine ⟨RW n ts rs v1 rows (gt.map tupD) (.val (.list (ac.map tupD))) (.val (tupD r)) v6, by simp [wipeR, gN], gcond (hr r hr'), fun _ => by simp [eVar]⟩
  unfold gStep
  generalize lLc [5] (iVal (eVar 4)) (gN 5) gCond (eVar 5) = ml at *
  have cat := catL_ok (xs := gt.map tupD) (ys := (ac.filter (cG rs)).map tupD) (by
    rw [List.length_map, List.length_map]
    have := List.length_filter_le (cG rs) ac
    omega)
  simp only [sFz, List.getElem?_cons_succ, List.getElem?_cons_zero]
  show sSet 3 (eOp gCatL (eVar 3) (eL ml)) (RW n ts rs v1 rows (gt.map tupD) (.val (.list (ac.map tupD))) v5 v6) h = _
  have ee : eOp gCatL (eVar 3) (eL ml) (RW n ts rs v1 rows (gt.map tupD) (.val (.list (ac.map tupD))) v5 v6) h = some (.list ((gt ++ ac.filter (cG rs)).map tupD), h) := by
    rw [List.map_append]
    simp only [eOp, eVar, List.getElem?_cons_succ, List.getElem?_cons_zero, eL, el, cat]
  exact sSet_of ee (by simp)
theorem asTups_of : ∀ {l : List (List Int)}, (∀ r ∈ l, r ≠ []) → asTups (l.map tupD) = some l
  | [], _ => rfl
  | [] :: l, h => absurd rfl (h [] List.mem_cons_self)
  | (x :: r) :: l, h => by
    have ih := asTups_of (l := l) fun r hr => h r (List.mem_cons_of_mem _ hr)
    have e := asInts_iD (x :: r)
    rw [List.map_cons]
    show asTups (.tuple (iD (x :: r)) :: l.map tupD) = _
    simp only [asTups, e, ih]
theorem sortA_rows {k : Bool} {l : List (List Int)} (h : ∀ r ∈ l, r ≠ []) : fSortA k (l.map tupD) = some (.list ((srtT l).map tupD)) := by
  cases l with
  | nil => rfl
  | cons r l =>
    have e := asTups_of h
    have a : asInts ((r :: l).map tupD) = none := rfl
    simp only [fSortA, a, e]
theorem lroutes_ex {Pg : TB} (N : NetOk n ts rs) : ∃ l : List (List Int), m__law_routes Pg [netD n ts rs] h = some (.list (l.map tupD), h) ∧ ∀ r ∈ l, r ≠ [] ∧ r.length ≤ 8 := by
  unfold m__law_routes
  rw [if_pos (by rfl)]
  have s1 : sSet 2 (eL (lLc [1] (iVal (eQX fIx (qVal (eVar 0)) (eC (.int 2)))) (gN 1) tYesM (eA fTup (aCons (eVar 1) aNil)))) [.val (netD n ts rs), .no, .no, .no, .no, .no, .no] h = some (.nx [.val (netD n ts rs), .no, .val (.list ((rs.map fun x => [x]).map tupD)), .no, .no, .no, .no] h) := by
    have el : lLc [1] (iVal (eQX fIx (qVal (eVar 0)) (eC (.int 2)))) (gN 1) tYesM (eA fTup (aCons (eVar 1) aNil)) [.val (netD n ts rs), .no, .no, .no, .no, .no, .no] h = some ((rs.filter fun _ => true).map fun x => tupD [x], h) := by
      refine lLc_map PyData.int (fun _ => true) (fun x => tupD [x]) rs (by have := N.rl; omega) (by simp [iVal, eQX, qVal, eVar, eC, seqD, at2]) fun x hx => ?_
      refine ⟨[.val (netD n ts rs), .val (.int x), .no, .no, .no, .no, .no], by simp [wipeR, gN], by simp [tYesM], fun _ => ?_⟩
      simp [eA, aCons, aNil, eVar, fTup, le_lim, tupD]
    rw [List.filter_eq_self.mpr (fun _ _ => rfl)] at el
    have ee : eL (lLc [1] (iVal (eQX fIx (qVal (eVar 0)) (eC (.int 2)))) (gN 1) tYesM (eA fTup (aCons (eVar 1) aNil))) [.val (netD n ts rs), .no, .no, .no, .no, .no, .no] h = some (.list ((rs.map fun x => [x]).map tupD), h) := by
      simp only [eL, el, List.map_map]
      rfl
    exact sSet_of ee (by simp)
  have s2 : sSet 3 (eA fLst aNil) [.val (netD n ts rs), .no, .val (.list ((rs.map fun x => [x]).map tupD)), .no, .no, .no, .no] h = some (.nx (RW n ts rs .no ((rs.map fun x => [x]).map tupD) [] .no .no .no) h) := by
    simp [sSet, eA, aNil, fLst, le_lim]
  obtain ⟨⟨k, rw_, gt⟩, ρ', ew, ⟨v1, v4, v5, v6, rfl, _, _, _, _, hg⟩, _⟩ := while_ex (h := h) (σ := Nat × List (List Int) × List (List Int)) (t := tValM truD (eVar 2)) (mb := (sSeq (sSetOwn 4 (lDisp aNil)) (sSeq (sFor (iVal (eVar 2)) (gN 5) inner) (sSeq gStep (sFz 4 (sSet 2 (eVar 4)))))))
    (fun s ρ => ∃ v1 v4 v5 v6, ρ = RW n ts rs v1 (s.2.1.map tupD) (s.2.2.map tupD) v4 v5 v6 ∧ 1 ≤ s.1 ∧ (∀ r ∈ s.2.1, RowOk n s.1 r) ∧ s.2.1.length ≤ cap s.1 ∧ s.2.2.length ≤ 5040 * s.1 ∧ ∀ r ∈ s.2.2, r ≠ [] ∧ r.length ≤ 8)
    (fun s => 9 - s.1) (by
    rintro ⟨k, rw_, gt⟩ ρ ⟨v1, v4, v5, v6, rfl, k1, ro, rc, gc, gr⟩
    cases rw_ with
    | nil => exact .inl (by simp [tValM, eVar, truD])
    | cons r0 rr =>
      refine .inr ⟨by simp [tValM, eVar, truD], ?_⟩
      dsimp only at k1 ro rc gc gr
      have k7 : k ≤ 7 := by
        have R0 := ro r0 List.mem_cons_self
        have := few R0.nd R0.rg
        rw [R0.len] at this
        have := N.n7
        omega
      generalize hrw : r0 :: rr = rw_ at *
      have capk := cap_le (k := k) (by omega)
      have hne : ∀ r ∈ rw_, r ≠ [] ∧ r.length ≤ 100 := fun r hr => by
        have R := ro r hr
        refine ⟨?_, by rw [R.len]; omega⟩
        rintro rfl
        have := R.len
        simp at this
        omega
      have s3 : sSetOwn 4 (lDisp aNil) (RW n ts rs v1 (rw_.map tupD) (gt.map tupD) v4 v5 v6) h = some (.nx (RW n ts rs v1 (rw_.map tupD) (gt.map tupD) (.own []) v5 v6) h) := by
        simp [sSetOwn, lDisp, aNil, le_lim]
      obtain ⟨w5, w6, s4⟩ := outer_ex (n := n) (ts := ts) (rs := rs) (h := h) (v1 := v1) (got := gt.map tupD) (v5 := v5) (v6 := v6) hne N.few (by omega)
      have hro : ∀ r ∈ rw_.flatMap (extAll ts), RowOk n (k + 1) r := fun r hr => by
        obtain ⟨r', h1, h2⟩ := List.mem_flatMap.mp hr
        obtain ⟨t, ht, rfl⟩ := List.mem_map.mp h2
        obtain ⟨h3, h4⟩ := List.mem_filter.mp ht
        exact ext_row (ro r' h1) k1 N.rg h3 h4
      have hlen : (rw_.flatMap (extAll ts)).length ≤ cap (k + 1) := by
        refine Nat.le_trans (flat_len (extAll ts) (7 - k) rw_ fun r hr => ext_few (ro r hr) k1 N.n7 N.rg N.nd) ?_
        exact Nat.mul_le_mul_right _ rc
      have capk1 := cap_le (k := k + 1) (by omega)
      have s5 := got_ex (n := n) (ts := ts) (rs := rs) (h := h) (v1 := v1) (rows := rw_.map tupD) (v5 := w5) (v6 := w6) (ac := rw_.flatMap (extAll ts)) (gt := gt) (fun r hr => by
        rintro rfl
        have := (hro [] hr).len
        simp at this) (by omega) (by omega)
      have s6 : sFz 4 (sSet 2 (eVar 4)) (RW n ts rs v1 (rw_.map tupD) ((gt ++ (rw_.flatMap (extAll ts)).filter (cG rs)).map tupD) (.val (.list ((rw_.flatMap (extAll ts)).map tupD))) w5 w6) h = some (.nx (RW n ts rs v1 ((rw_.flatMap (extAll ts)).map tupD) ((gt ++ (rw_.flatMap (extAll ts)).filter (cG rs)).map tupD) (.val (.list ((rw_.flatMap (extAll ts)).map tupD))) w5 w6) h) := by
        simp [sFz, sSet, eVar]
      refine ⟨(k + 1, rw_.flatMap (extAll ts), gt ++ (rw_.flatMap (extAll ts)).filter (cG rs)), _, ?_, ⟨v1, .val (.list ((rw_.flatMap (extAll ts)).map tupD)), w5, w6, rfl, by dsimp only; omega, hro, hlen, ?_, fun r hr => ?_⟩, by dsimp only; omega⟩
      · rw [seq_nx s3, seq_nx s4, seq_nx s5]
        exact s6
      · dsimp only
        rw [List.length_append]
        have := List.length_filter_le (cG rs) (rw_.flatMap (extAll ts))
        omega
      · rcases List.mem_append.mp hr with hr | hr
        · exact gr r hr
        · have R := hro r (List.mem_filter.mp hr).1
          refine ⟨?_, by rw [R.len]; omega⟩
          rintro rfl
          have := R.len
          simp at this) (1, rs.map fun x => [x], []) (RW n ts rs .no ((rs.map fun x => [x]).map tupD) [] .no .no .no) ⟨.no, .no, .no, .no, rfl, Nat.le_refl 1, fun r hr => by
      obtain ⟨x, hx, rfl⟩ := List.mem_map.mp hr
      exact ⟨rfl, by simp, fun y hy => by rw [List.mem_singleton.mp hy]; exact N.rim x hx⟩, by rw [List.length_map]; exact N.rl, by simp, fun r hr => by cases hr⟩
  refine ⟨srtT gt, ?_, fun r hr => hg r ((srtT_perm gt).mem_iff.mp hr)⟩
  refine runB_rt ?_
  show b__law_routes Pg [.val (netD n ts rs), .no, .no, .no, .no, .no, .no] h = _
  unfold b__law_routes
  rw [seq_nx s1, seq_nx s2]
  refine (seq_nx ew).trans ?_
  have sa := sortA_rows (k := false) (l := gt) fun r hr => (hg r hr).1
  simp only [sRet, eQ, qVal, eVar, List.getElem?_cons_succ, List.getElem?_cons_zero, seqD, sa]
end
end Q4
set_option Elab.async false
set_option linter.all false
set_option maxRecDepth 100000
namespace Q4
open PySem PySem.Spec PySem.W PyProof.Rows L2 Q Q2
def okT (d : D) : Prop := Dq 4 d ∧ ∀ xs, d = .tuple xs → xs.length ≤ 90
theorem dq_int {k : Nat} (i : Int) : Dq (k + 1) (.int i) := ⟨by simp [PyData.canLay0], by simp [PyData.depth]⟩
theorem okT_tup {xs : List D} (h : ∀ x ∈ xs, Dq 3 x) (hl : xs.length ≤ 90) : okT (.tuple xs) := ⟨dp_tuple h, fun ys e => by cases e; exact hl⟩
theorem cut_mem {ds : List D} {a b : Option Int} {d : D} (h : d ∈ Q.cutD ds a b) : d ∈ ds := List.mem_of_mem_drop (List.mem_of_mem_take h)
theorem cut_len (ds : List D) (a b : Option Int) : (Q.cutD ds a b).length ≤ ds.length := by
  unfold Q.cutD
  rw [List.length_take, List.length_drop]
  omega
section
variable {Pg : TB} {T : Hq} {ns : List Int} {n : Int} {ts : List Tie} {rs : List Int} {v2 v6 v7 v8 v9 v10 v11 v12 v13 : Sl} {ev : D} {th : List D}
abbrev L4 (ns : List Int) (T : Hq) (v2 : Sl) (n : Int) (ts : List Tie) (rs : List Int) (ev : D) (th : List D) (v6 v7 v8 v9 v10 v11 v12 v13 : Sl) : Rho := [.val (scI ns), .val (hdT T), v2, .val (netD n ts rs), .val ev, .own th, v6, v7, v8, v9, v10, v11, v12, v13]
noncomputable abbrev rStep : MS := (sSet 7 (eOp gCatT (eVar 7) (eA fTup (aCons (eCall m__law_draw (aCons (eVar 0) (aCons (eVar 1) (aCons (eOp gAddI (eQX fIx (qVal (eVar 3)) (eC (.int 0))) (eC (.int 1))) aNil)))) aNil))))
noncomputable abbrev rBody : MS := (sSeq (sSet 7 (eA fTup aNil)) (sSeq (sFor (iRange1 (eOp gAddI (eC (.int 2)) (eCall m__law_draw (aCons (eVar 0) (aCons (eVar 1) (aCons (eC (.int 3)) aNil)))))) (gN 8) rStep) (sApp 5 (eVar 7))))
theorem row_ex {xs : List D} (hx : xs.length < 700000) (n1 : 1 ≤ n) (ht : th.length ≤ 1000) :
    ∃ r v8' xs', rBody (L4 ns T v2 n ts rs ev th v6 v7 v8 v9 v10 v11 v12 v13) (Tw T xs) = some (.nx (L4 ns T v2 n ts rs ev (th ++ [.tuple (iD r)]) v6 (.val (.tuple (iD r))) v8' v9 v10 v11 v12 v13) (Tw T xs')) ∧ r.length ≤ 10 ∧ xs'.length ≤ xs.length + 10 := by
  obtain ⟨j, j0, j1, ej⟩ := draw_ex (T := T) (ns := ns) (xs := xs) (many := 3) (by omega) (by omega)
  have s1 : sSet 7 (eA fTup aNil) (L4 ns T v2 n ts rs ev th v6 v7 v8 v9 v10 v11 v12 v13) (Tw T xs) = some (.nx (L4 ns T v2 n ts rs ev th v6 (.val (.tuple (iD []))) v8 v9 v10 v11 v12 v13) (Tw T xs)) := by
    simp [sSet, eA, aNil, fTup, le_lim]
  obtain ⟨ρ', h', e, r, v8', xs', rfl, rfl, lr, lx⟩ := forGo_ex (g := gN 8) (mb := rStep) (fun i ρ h => ∃ r v8' xs', ρ = L4 ns T v2 n ts rs ev th v6 (.val (.tuple (iD r))) v8' v9 v10 v11 v12 v13 ∧ h = Tw T xs' ∧ r.length ≤ i ∧ xs'.length ≤ xs.length + 1 + i) (rangeD 0 (2 + j)) 0 (L4 ns T v2 n ts rs ev th v6 (.val (.tuple (iD []))) v8 v9 v10 v11 v12 v13) (Tw T (xs ++ [.int 0])) ⟨[], v8, _, rfl, rfl, by simp, by simp⟩ (by
    rintro i d ρ h hd ⟨r, v8', xs', rfl, rfl, lr, lx⟩
    obtain ⟨rfl, hi⟩ := rangeD_get hd
    obtain ⟨q, q0, q1, eq⟩ := draw_ex (T := T) (ns := ns) (xs := xs') (many := n + 1) (by omega) (by omega)
    refine ⟨L4 ns T v2 n ts rs ev th v6 (.val (.tuple (iD r))) (.val (.int (0 + i))) v9 v10 v11 v12 v13, L4 ns T v2 n ts rs ev th v6 (.val (.tuple (iD (r ++ [q])))) (.val (.int (0 + i))) v9 v10 v11 v12 v13, Tw T (xs' ++ [.int 0]), by simp [gN], ?_, r ++ [q], .val (.int (0 + i)), xs' ++ [.int 0], rfl, rfl, by simp; omega, by simp; omega⟩
    have l1 : (iD r).length + ([PyData.int q] : List D).length ≤ lim := le_lim (by rw [List.length_map]; simp; omega)
    have ga : gAddI (.int n) (.int 1) = some (.int (n + 1)) := by simp [gI]
    have ee : eOp gCatT (eVar 7) (eA fTup (aCons (eCall m__law_draw (aCons (eVar 0) (aCons (eVar 1) (aCons (eOp gAddI (eQX fIx (qVal (eVar 3)) (eC (.int 0))) (eC (.int 1))) aNil)))) aNil)) (L4 ns T v2 n ts rs ev th v6 (.val (.tuple (iD r))) (.val (.int (0 + i))) v9 v10 v11 v12 v13) (Tw T xs') = some (.tuple (iD (r ++ [q])), Tw T (xs' ++ [.int 0])) := by
      simp only [eOp, eVar, List.getElem?_cons_succ, List.getElem?_cons_zero, eA, aCons, aNil, eCall, eQX, qVal, seqD, eC, at0, ga, eq, fTup, le_lim (show ([PyData.int q] : List D).length ≤ 1000000 by simp), if_true, gCatT, l1]
      simp
    exact sSet_of ee (by simp))
  rw [rangeD_len] at lr lx
  have o := ok62_small (i := 2 + j) (by omega) (by omega)
  have s2 : sFor (iRange1 (eOp gAddI (eC (.int 2)) (eCall m__law_draw (aCons (eVar 0) (aCons (eVar 1) (aCons (eC (.int 3)) aNil)))))) (gN 8) rStep (L4 ns T v2 n ts rs ev th v6 (.val (.tuple (iD []))) v8 v9 v10 v11 v12 v13) (Tw T xs) = some (.nx (L4 ns T v2 n ts rs ev th v6 (.val (.tuple (iD r))) v8' v9 v10 v11 v12 v13) (Tw T xs')) := by
    have ga : gAddI (.int 2) (.int j) = some (.int (2 + j)) := by simp [gI]
    have ei : iRange1 (eOp gAddI (eC (.int 2)) (eCall m__law_draw (aCons (eVar 0) (aCons (eVar 1) (aCons (eC (.int 3)) aNil))))) (L4 ns T v2 n ts rs ev th v6 (.val (.tuple (iD []))) v8 v9 v10 v11 v12 v13) (Tw T xs) = some (rangeD 0 (2 + j), Tw T (xs ++ [.int 0])) := by
      simp only [iRange1, eOp, eC, eCall, aCons, aNil, eVar, List.getElem?_cons_succ, List.getElem?_cons_zero, ej, ga, o, if_true]
    simp only [sFor, ei]
    exact e
  refine ⟨r, v8', xs', ?_, by omega, by omega⟩
  unfold rBody
  rw [seq_nx s1, seq_nx s2]
  have lt := lt_lim (show th.length < 1000000 by omega)
  simp only [sApp, eVar, List.getElem?_cons_succ, List.getElem?_cons_zero, lt, if_true]
  simp
end
end Q4
set_option Elab.async false
set_option linter.all false
set_option maxRecDepth 100000
namespace Q4
open PySem PySem.Spec PySem.W PyProof.Rows L2 Q Q2
section
variable {Pg : TB} {T : Hq} {ns : List Int} {n : Int} {ts : List Tie} {rs : List Int} {v2 v6 v7 v8 v9 v10 v11 v12 v13 : Sl} {ev : D} {th : List D}
theorem sl_of {i : Nat} {ρ : Rho} {h : Hq} {ds : List D} {lo hi : MO} {l u : Option Int} (e : ρ[i]? = some (.val (.tuple ds))) (e1 : lo ρ h = some (l, h)) (e2 : hi ρ h = some (u, h)) : eSl (qVal (eVar i)) lo hi ρ h = some (.tuple (Q.cutD ds l u), h) := by
  simp only [eSl, qVal, eVar, e, seqD, e1, e2, if_true]
theorem cat_of {a b : ME} {ρ : Rho} {h : Hq} {x y : List D} (e1 : a ρ h = some (.tuple x, h)) (e2 : b ρ h = some (.tuple y, h)) (l : x.length + y.length ≤ 1000000) : eOp gCatT a b ρ h = some (.tuple (x ++ y), h) := by
  simp only [eOp, e1, e2, gCatT, le_lim l, if_true]
theorem yes_of {a : ME} {ρ : Rho} {h : Hq} {i : Int} (e : a ρ h = some (.int i, h)) : oYes a ρ h = some (some i, h) := by simp only [oYes, e]
theorem no_of {ρ : Rho} {h : Hq} : oNo ρ h = some (none, h) := by simp only [oNo]
theorem lst_of {a : MA} {ρ : Rho} {h h' : Hq} {ds : List D} (e : a ρ h = some (ds, h')) (l : ds.length ≤ 1000000) : eA fLst a ρ h = some (.list ds, h') := by simp [eA, e, fLst, le_lim l]
theorem add_own {i : Nat} {m : ME} {ρ : Rho} {h : Hq} {xs ys : List D} (e1 : ρ[i]? = some (.own xs)) (e2 : m ρ h = some (.list ys, h)) (hi : i < ρ.length) (l : xs.length + ys.length ≤ 1000000) : sSetOwn i (lCat (lOwn i) (lVal m)) ρ h = some (.nx (ρ.set i (.own (xs ++ ys))) h) := by
  simp only [sSetOwn, lCat, lOwn, e1, lVal, e2, le_lim l, if_true, hi]
theorem app_own {i : Nat} {m : ME} {ρ : Rho} {h : Hq} {xs : List D} {d : D} (e1 : ρ[i]? = some (.own xs)) (e2 : m ρ h = some (d, h)) (l : xs.length < 1000000) : sApp i m ρ h = some (.nx (ρ.set i (.own (xs ++ [d]))) h) := by
  simp only [sApp, e2, e1, lt_lim l, if_true]
noncomputable abbrev odds : ME := (eA fLst (aCons (eC .none) (aCons (eUn gNeg (eC (.int 1))) (aCons (eQX fIx (qVal (eVar 3)) (eC (.int 0))) (aCons (eC (.str "0")) (aCons (eA fTup aNil) (aCons (eC (.int 0)) (aCons (eC (.int 1)) (aCons (eOp gSubI (eQX fIx (qVal (eVar 3)) (eC (.int 0))) (eC (.int 1))) aNil)))))))))
noncomputable abbrev six : ME := (eA fLst (aCons (eVar 9) (aCons (eQ fLstQ (qVal (eVar 9))) (aCons (eRev (qVal (eVar 9))) (aCons (eSl (qVal (eVar 9)) oNo (oYes (eUn gNeg (eC (.int 1))))) (aCons (eSl (qVal (eVar 9)) (oYes (eC (.int 1))) oNo) (aCons (eOp gCatT (eVar 9) (eSl (qVal (eVar 9)) oNo (oYes (eC (.int 1))))) aNil)))))))
noncomputable abbrev two : ME := (eA fLst (aCons (eOp gCatT (eOp gCatT (eSl (qVal (eVar 9)) oNo (oYes (eVar 10))) (eA fTup (aCons (eVar 11) aNil))) (eSl (qVal (eVar 9)) (oYes (eOp gAddI (eVar 10) (eC (.int 1)))) oNo)) (aCons (eOp gCatT (eSl (qVal (eVar 9)) oNo (oYes (eVar 10))) (eSl (qVal (eVar 9)) (oYes (eOp gAddI (eVar 10) (eC (.int 1)))) oNo)) aNil)))
noncomputable abbrev thr : ME := (eOp gCatT (eOp gCatT (eSl (qVal (eVar 9)) oNo (oYes (eVar 10))) (eSl (qVal (eVar 9)) (oYes (eVar 10)) (oYes (eOp gAddI (eVar 10) (eC (.int 1)))))) (eSl (qVal (eVar 9)) (oYes (eVar 10)) oNo))
noncomputable abbrev tru : ME := (eQ (fun k ds => if k then none else some (.tuple ds)) (qVal (eL (lLc [12] (iVal (eVar 9)) (gN 12) tYesM (eIf (tValM dB (eOp gLtI (eVar 12) (eC (.int 2)))) (eOp gEq (eVar 12) (eC (.int 1))) (eVar 12))))))
noncomputable abbrev pBody : MS := (sSeq (sSet 9 (eCall m__law_pick (aCons (eVar 0) (aCons (eVar 1) (aCons (eVar 4) aNil))))) (sSeq (sSet 10 (eCall m__law_draw (aCons (eVar 0) (aCons (eVar 1) (aCons (eQ fLen (qVal (eVar 9))) aNil))))) (sSeq (sSet 11 (eCall m__law_pick (aCons (eVar 0) (aCons (eVar 1) (aCons odds aNil))))) (sSeq (sSetOwn 5 (lCat (lOwn 5) (lVal six))) (sSeq (sSetOwn 5 (lCat (lOwn 5) (lVal two))) (sSeq (sApp 5 thr) (sApp 5 tru)))))))
theorem six_ok {r : List Int} {h : Hq} (hr : r.length ≤ 8) : ∃ ys, six (L4 ns T v2 n ts rs ev th v6 v7 v8 (.val (tupD r)) v10 v11 v12 v13) h = some (.list ys, h) ∧ ys.length = 6 ∧ ∀ d ∈ ys, okT d := by
  have e9 : (L4 ns T v2 n ts rs ev th v6 v7 v8 (.val (tupD r)) v10 v11 v12 v13)[9]? = some (.val (.tuple (iD r))) := rfl
  have m1 : eUn gNeg (eC (.int 1)) (L4 ns T v2 n ts rs ev th v6 v7 v8 (.val (tupD r)) v10 v11 v12 v13) h = some (.int (-1), h) := by simp [eUn, eC, gNeg]
  have hi : ∀ d ∈ iD r, Dq 3 d := fun d hd => by obtain ⟨i, _, rfl⟩ := List.mem_map.mp hd; exact dq_int i
  have lr : (iD r).length ≤ 8 := by rw [List.length_map]; exact hr
  have l1 := cut_len (iD r) none (some (-1))
  have l2 := cut_len (iD r) (some 1) none
  have l3 := cut_len (iD r) none (some 1)
  refine ⟨[.tuple (iD r), .list (iD r), .tuple (iD r).reverse, .tuple (Q.cutD (iD r) none (some (-1))), .tuple (Q.cutD (iD r) (some 1) none), .tuple (iD r ++ Q.cutD (iD r) none (some 1))], ?_, rfl, ?_⟩
  · refine lst_of (aCons_of (eVar_of e9) (aCons_of (by simp [eQ, fLstQ, qVal, eVar, seqD, tupD]) (aCons_of (eRev_of (qVal_of (eVar_of e9))) (aCons_of (sl_of e9 no_of (yes_of m1)) (aCons_of (sl_of e9 (yes_of eC_of) no_of) (aCons_of (cat_of (eVar_of e9) (sl_of e9 no_of (yes_of eC_of)) (by omega)) aNil_of)))))) (by simp)
  · intro d hd
    simp only [List.mem_cons, List.not_mem_nil, or_false] at hd
    rcases hd with rfl | rfl | rfl | rfl | rfl | rfl
    · exact okT_tup hi (by omega)
    · exact ⟨dp_list hi, fun xs e => by cases e⟩
    · exact okT_tup (fun d hd => hi d (List.mem_reverse.mp hd)) (by rw [List.length_reverse]; omega)
    · exact okT_tup (fun d hd => hi d (cut_mem hd)) (by omega)
    · exact okT_tup (fun d hd => hi d (cut_mem hd)) (by omega)
    · refine okT_tup (fun d hd => ?_) (by rw [List.length_append]; omega)
      rcases List.mem_append.mp hd with hd | hd
      · exact hi d hd
      · exact hi d (cut_mem hd)
theorem two_ok {r : List Int} {a : Int} {o : D} {h : Hq} (hr : r.length ≤ 8) (ho : Dq 3 o) : ∃ ys, two (L4 ns T v2 n ts rs ev th v6 v7 v8 (.val (tupD r)) (.val (.int a)) (.val o) v12 v13) h = some (.list ys, h) ∧ ys.length = 2 ∧ ∀ d ∈ ys, okT d := by
  have e9 : (L4 ns T v2 n ts rs ev th v6 v7 v8 (.val (tupD r)) (.val (.int a)) (.val o) v12 v13)[9]? = some (.val (.tuple (iD r))) := rfl
  have e10 : (L4 ns T v2 n ts rs ev th v6 v7 v8 (.val (tupD r)) (.val (.int a)) (.val o) v12 v13)[10]? = some (.val (.int a)) := rfl
  have e11 : (L4 ns T v2 n ts rs ev th v6 v7 v8 (.val (tupD r)) (.val (.int a)) (.val o) v12 v13)[11]? = some (.val o) := rfl
  have ga : gAddI (.int a) (.int 1) = some (.int (a + 1)) := by simp [gI]
  have hi : ∀ d ∈ iD r, Dq 3 d := fun d hd => by obtain ⟨i, _, rfl⟩ := List.mem_map.mp hd; exact dq_int i
  have lr : (iD r).length ≤ 8 := by rw [List.length_map]; exact hr
  have l1 := cut_len (iD r) none (some a)
  have l2 := cut_len (iD r) (some (a + 1)) none
  refine ⟨[.tuple (Q.cutD (iD r) none (some a) ++ [o] ++ Q.cutD (iD r) (some (a + 1)) none), .tuple (Q.cutD (iD r) none (some a) ++ Q.cutD (iD r) (some (a + 1)) none)], ?_, rfl, ?_⟩
  · exact lst_of (aCons_of (cat_of (cat_of (sl_of e9 no_of (yes_of (eVar_of e10))) (eTup_of (aCons_of (eVar_of e11) aNil_of) (by simp)) (by simp; omega)) (sl_of e9 (yes_of (eOp_of (eVar_of e10) eC_of ga)) no_of) (by simp; omega)) (aCons_of (cat_of (sl_of e9 no_of (yes_of (eVar_of e10))) (sl_of e9 (yes_of (eOp_of (eVar_of e10) eC_of ga)) no_of) (by omega)) aNil_of)) (by simp)
  · intro d hd
    simp only [List.mem_cons, List.not_mem_nil, or_false] at hd
    rcases hd with rfl | rfl
    · refine okT_tup (fun d hd => ?_) (by simp; omega)
      rcases List.mem_append.mp hd with hd | hd
      · rcases List.mem_append.mp hd with hd | hd
        · exact hi d (cut_mem hd)
        · rw [List.mem_singleton.mp hd]; exact ho
      · exact hi d (cut_mem hd)
    · refine okT_tup (fun d hd => ?_) (by simp; omega)
      rcases List.mem_append.mp hd with hd | hd
      · exact hi d (cut_mem hd)
      · exact hi d (cut_mem hd)
theorem thr_ok {r : List Int} {a : Int} {h : Hq} (hr : r.length ≤ 8) : ∃ d, thr (L4 ns T v2 n ts rs ev th v6 v7 v8 (.val (tupD r)) (.val (.int a)) v11 v12 v13) h = some (d, h) ∧ okT d := by
  have e9 : (L4 ns T v2 n ts rs ev th v6 v7 v8 (.val (tupD r)) (.val (.int a)) v11 v12 v13)[9]? = some (.val (.tuple (iD r))) := rfl
  have e10 : (L4 ns T v2 n ts rs ev th v6 v7 v8 (.val (tupD r)) (.val (.int a)) v11 v12 v13)[10]? = some (.val (.int a)) := rfl
  have ga : gAddI (.int a) (.int 1) = some (.int (a + 1)) := by simp [gI]
  have hi : ∀ d ∈ iD r, Dq 3 d := fun d hd => by obtain ⟨i, _, rfl⟩ := List.mem_map.mp hd; exact dq_int i
  have lr : (iD r).length ≤ 8 := by rw [List.length_map]; exact hr
  have l1 := cut_len (iD r) none (some a)
  have l2 := cut_len (iD r) (some a) (some (a + 1))
  have l3 := cut_len (iD r) (some a) none
  refine ⟨_, cat_of (cat_of (sl_of e9 no_of (yes_of (eVar_of e10))) (sl_of e9 (yes_of (eVar_of e10)) (yes_of (eOp_of (eVar_of e10) eC_of ga))) (by omega)) (sl_of e9 (yes_of (eVar_of e10)) no_of) (by simp; omega), ?_⟩
  refine okT_tup (fun d hd => ?_) (by simp; omega)
  rcases List.mem_append.mp hd with hd | hd
  · rcases List.mem_append.mp hd with hd | hd
    · exact hi d (cut_mem hd)
    · exact hi d (cut_mem hd)
  · exact hi d (cut_mem hd)
theorem tru_ok {r : List Int} {h : Hq} (hr : r.length ≤ 8) : ∃ d, tru (L4 ns T v2 n ts rs ev th v6 v7 v8 (.val (tupD r)) v10 v11 v12 v13) h = some (d, h) ∧ okT d := by
  have el : lLc [12] (iVal (eVar 9)) (gN 12) tYesM (eIf (tValM dB (eOp gLtI (eVar 12) (eC (.int 2)))) (eOp gEq (eVar 12) (eC (.int 1))) (eVar 12)) (L4 ns T v2 n ts rs ev th v6 v7 v8 (.val (tupD r)) v10 v11 v12 v13) h = some ((r.filter fun _ => true).map fun x => if x < 2 then PyData.bool (decide (x = 1)) else .int x, h) := by
    refine lLc_map PyData.int (fun _ => true) (fun x => if x < 2 then PyData.bool (decide (x = 1)) else .int x) r (by omega) (by simp [iVal, eVar, seqD, tupD]) fun x hx => ?_
    refine ⟨L4 ns T v2 n ts rs ev th v6 v7 v8 (.val (tupD r)) v10 v11 (.val (.int x)) v13, by simp [wipeR, gN], by simp [tYesM], fun _ => ?_⟩
    by_cases c : x < 2
    · simp [eIf, tValM, eOp, eVar, eC, gI, dB, c, gEq, shp_int, eqv_int]
    · simp [eIf, tValM, eOp, eVar, eC, gI, dB, c]
  have key : ∀ (ml : ML) (ρ : Rho) (ds : List D), ml ρ h = some (ds, h) → eQ (fun k ds => if k then none else some (.tuple ds)) (qVal (eL ml)) ρ h = some (.tuple ds, h) := by
    intro ml ρ ds e
    simp only [eQ, qVal, eL, e, seqD, Bool.false_eq_true, if_false]
  refine ⟨.tuple ((r.filter fun _ => true).map fun x => if x < 2 then PyData.bool (decide (x = 1)) else .int x), ?_, okT_tup (fun d hd => ?_) ?_⟩
  · exact key _ _ _ el
  · obtain ⟨x, _, rfl⟩ := List.mem_map.mp hd
    split
    · exact ⟨by simp [PyData.canLay0], by simp [PyData.depth]⟩
    · exact dq_int x
  · rw [List.length_map]
    have := List.length_filter_le (fun _ : Int => true) r
    omega
end
end Q4
set_option Elab.async false
set_option linter.all false
set_option maxRecDepth 100000
namespace Q4
open PySem PySem.Spec PySem.W PyProof.Rows L2 Q Q2
section
variable {Pg : TB} {T : Hq} {ns : List Int} {n : Int} {ts : List Tie} {rs : List Int} {v2 v6 v7 v8 v9 v10 v11 v12 v13 : Sl} {ev : D} {th : List D}
theorem pick_body {xs : List D} {l : List (List Int)} (hx : xs.length < 700000) (hne : l ≠ []) (hl : ∀ r ∈ l, r ≠ [] ∧ r.length ≤ 8) (ht : th.length ≤ 1000) (hok : ∀ d ∈ th, okT d) :
    ∃ th' w9 w10 w11 xs', pBody (L4 ns T v2 n ts rs (.list (l.map tupD)) th v6 v7 v8 v9 v10 v11 v12 v13) (Tw T xs) = some (.nx (L4 ns T v2 n ts rs (.list (l.map tupD)) th' v6 v7 v8 w9 w10 w11 v12 v13) (Tw T xs')) ∧ th'.length = th.length + 10 ∧ (∀ d ∈ th', okT d) ∧ xs'.length ≤ xs.length + 3 := by
  obtain ⟨d, hd, e1⟩ := pick_ex (T := T) (ns := ns) (xs := xs) (ds := l.map tupD) (by omega) (by simpa using hne)
  obtain ⟨r, hr, rfl⟩ := List.mem_map.mp hd
  obtain ⟨r0, r8⟩ := hl r hr
  have rl : 0 < r.length := List.length_pos_iff.mpr r0
  obtain ⟨a, a0, a1, e2⟩ := draw_ex (T := T) (ns := ns) (xs := xs ++ [.int 0]) (many := (r.length : Int)) (by simp; omega) (by omega)
  obtain ⟨o, ho, e3⟩ := pick_ex (T := T) (ns := ns) (xs := xs ++ [.int 0] ++ [.int 0]) (ds := [.none, .int (-1), .int n, .str "0", .tuple [], .int 0, .int 1, .int (n - 1)]) (by simp; omega) (by simp)
  have s1 : sSet 9 (eCall m__law_pick (aCons (eVar 0) (aCons (eVar 1) (aCons (eVar 4) aNil)))) (L4 ns T v2 n ts rs (.list (l.map tupD)) th v6 v7 v8 v9 v10 v11 v12 v13) (Tw T xs) = some (.nx (L4 ns T v2 n ts rs (.list (l.map tupD)) th v6 v7 v8 (.val (tupD r)) v10 v11 v12 v13) (Tw T (xs ++ [.int 0]))) :=
    sSet_of (eCall_of (aCons_of (eVar_of rfl) (aCons_of (eVar_of rfl) (aCons_of (eVar_of rfl) aNil_of))) e1) (by simp)
  have s2 : sSet 10 (eCall m__law_draw (aCons (eVar 0) (aCons (eVar 1) (aCons (eQ fLen (qVal (eVar 9))) aNil)))) (L4 ns T v2 n ts rs (.list (l.map tupD)) th v6 v7 v8 (.val (tupD r)) v10 v11 v12 v13) (Tw T (xs ++ [.int 0])) = some (.nx (L4 ns T v2 n ts rs (.list (l.map tupD)) th v6 v7 v8 (.val (tupD r)) (.val (.int a)) v11 v12 v13) (Tw T (xs ++ [.int 0] ++ [.int 0]))) :=
    sSet_of (eCall_of (aCons_of (eVar_of rfl) (aCons_of (eVar_of rfl) (aCons_of (by simp [eQ, fLen, qVal, eVar, seqD, tupD]) aNil_of))) e2) (by simp)
  have eo : odds (L4 ns T v2 n ts rs (.list (l.map tupD)) th v6 v7 v8 (.val (tupD r)) (.val (.int a)) v11 v12 v13) (Tw T (xs ++ [.int 0] ++ [.int 0])) = some (.list [.none, .int (-1), .int n, .str "0", .tuple [], .int 0, .int 1, .int (n - 1)], Tw T (xs ++ [.int 0] ++ [.int 0])) := by
    have gs : gSubI (.int n) (.int 1) = some (.int (n - 1)) := by simp [gI]
    have q3 : eQX fIx (qVal (eVar 3)) (eC (.int 0)) (L4 ns T v2 n ts rs (.list (l.map tupD)) th v6 v7 v8 (.val (tupD r)) (.val (.int a)) v11 v12 v13) (Tw T (xs ++ [.int 0] ++ [.int 0])) = some (.int n, Tw T (xs ++ [.int 0] ++ [.int 0])) := by
      simp [eQX, qVal, eVar, seqD, eC, at0]
    exact lst_of (aCons_of eC_of (aCons_of (by simp [eUn, eC, gNeg]) (aCons_of q3 (aCons_of eC_of (aCons_of (eTup_of aNil_of (by simp)) (aCons_of eC_of (aCons_of eC_of (aCons_of (eOp_of q3 eC_of gs) aNil_of)))))))) (by simp)
  have s3 : sSet 11 (eCall m__law_pick (aCons (eVar 0) (aCons (eVar 1) (aCons odds aNil)))) (L4 ns T v2 n ts rs (.list (l.map tupD)) th v6 v7 v8 (.val (tupD r)) (.val (.int a)) v11 v12 v13) (Tw T (xs ++ [.int 0] ++ [.int 0])) = some (.nx (L4 ns T v2 n ts rs (.list (l.map tupD)) th v6 v7 v8 (.val (tupD r)) (.val (.int a)) (.val o) v12 v13) (Tw T (xs ++ [.int 0] ++ [.int 0] ++ [.int 0]))) :=
    sSet_of (eCall_of (aCons_of (eVar_of rfl) (aCons_of (eVar_of rfl) (aCons_of eo aNil_of))) e3) (by simp)
  have oo : Dq 3 o := by
    simp only [List.mem_cons, List.not_mem_nil, or_false] at ho
    rcases ho with rfl | rfl | rfl | rfl | rfl | rfl | rfl | rfl <;> exact ⟨by first | decide +kernel | simp [PyData.canLay0, PyData.canLayAll0], by simp [PyData.depth, PyData.depthAll]⟩
  obtain ⟨y6, e4, l6, k6⟩ := six_ok (ns := ns) (T := T) (n := n) (ts := ts) (rs := rs) (v2 := v2) (ev := .list (l.map tupD)) (th := th) (v6 := v6) (v7 := v7) (v8 := v8) (v10 := .val (.int a)) (v11 := .val o) (v12 := v12) (v13 := v13) (h := Tw T (xs ++ [.int 0] ++ [.int 0] ++ [.int 0])) r8
  have s4 := add_own (i := 5) (xs := th) rfl e4 (by simp) (by omega)
  obtain ⟨y2, e5, l2, k2⟩ := two_ok (ns := ns) (T := T) (n := n) (ts := ts) (rs := rs) (v2 := v2) (ev := .list (l.map tupD)) (th := th ++ y6) (v6 := v6) (v7 := v7) (v8 := v8) (v12 := v12) (v13 := v13) (a := a) (h := Tw T (xs ++ [.int 0] ++ [.int 0] ++ [.int 0])) r8 oo
  have s5 := add_own (i := 5) (xs := th ++ y6) rfl e5 (by simp) (by simp; omega)
  obtain ⟨d3, e6, k3⟩ := thr_ok (ns := ns) (T := T) (n := n) (ts := ts) (rs := rs) (v2 := v2) (ev := .list (l.map tupD)) (th := th ++ y6 ++ y2) (v6 := v6) (v7 := v7) (v8 := v8) (v11 := .val o) (v12 := v12) (v13 := v13) (a := a) (h := Tw T (xs ++ [.int 0] ++ [.int 0] ++ [.int 0])) r8
  have s6 := app_own (i := 5) (xs := th ++ y6 ++ y2) rfl e6 (by simp; omega)
  obtain ⟨d4, e7, k4⟩ := tru_ok (ns := ns) (T := T) (n := n) (ts := ts) (rs := rs) (v2 := v2) (ev := .list (l.map tupD)) (th := th ++ y6 ++ y2 ++ [d3]) (v6 := v6) (v7 := v7) (v8 := v8) (v10 := .val (.int a)) (v11 := .val o) (v12 := v12) (v13 := v13) (h := Tw T (xs ++ [.int 0] ++ [.int 0] ++ [.int 0])) r8
  have s7 := app_own (i := 5) (xs := th ++ y6 ++ y2 ++ [d3]) rfl e7 (by simp; omega)
  refine ⟨th ++ y6 ++ y2 ++ [d3] ++ [d4], .val (tupD r), .val (.int a), .val o, xs ++ [.int 0] ++ [.int 0] ++ [.int 0], ?_, by simp; omega, fun d hd => ?_, by simp⟩
  · unfold pBody
    rw [seq_nx s1, seq_nx s2, seq_nx s3]
    refine (seq_nx s4).trans ((seq_nx s5).trans ((seq_nx s6).trans ?_))
    exact s7
  · simp only [List.mem_append, List.mem_singleton] at hd
    rcases hd with (((hd | hd) | hd) | rfl) | rfl
    · exact hok d hd
    · exact k6 d hd
    · exact k2 d hd
    · exact k3
    · exact k4
theorem same_bool {b : Bool} {h : Hq} : m__law_same Pg [.bool b, .bool b] h = some (.bool true, h) := by
  unfold m__law_same
  rw [if_pos (by rfl)]
  refine runB_rt ?_
  show b__law_same Pg [.val (.bool b), .val (.bool b), .no, .no] h = _
  have i1 := isi_bool (shp_bool b)
  have q : PyData.eqv (.bool b) (.bool b) = true := by cases b <;> rfl
  unfold b__law_same
  have s1 : sIf (tValM dB (eOp gIs (eVar 1) (eC .none))) (sRet (eOp gIs (eVar 0) (eC .none))) sNil [.val (.bool b), .val (.bool b), .no, .no] h = some (.nx [.val (.bool b), .val (.bool b), .no, .no] h) := by
    simp [sIf, tValM, eOp, eVar, eC, gIs, dB, sNil]
  rw [seq_nx s1]
  refine seq_rt ?_
  simp [sIf, tValM, eUn, eVar, i1, truD, sRet, eAnd, eOp, gEq, shp_bool, q]
noncomputable abbrev cBody (Pg : TB) : MS := (sIf (tNotM (tValM truD (eCall (m__law_same Pg) (aCons (eCall (m_is_route Pg) (aCons (eVar 3) (aCons (eVar 13) aNil))) (aCons (eCall (m__law_is_route Pg) (aCons (eVar 3) (aCons (eVar 13) aNil))) aNil))))) (sRet (eC (.bool false))) sNil)
theorem check_ex {h : Hq} (hok : ∀ d ∈ th, okT d) (h0 : isTab (Pg 0) h[0]? = true) (h1 : isTab (Pg 1) h[1]? = true) (h2 : isTab (Pg 2) h[2]? = true) :
    ∃ w5 w13, sFz 5 (sFor (iVal (eVar 5)) (gN 13) (cBody Pg)) (L4 ns T v2 n ts rs ev th v6 v7 v8 v9 v10 v11 v12 v13) h = some (.nx [.val (scI ns), .val (hdT T), v2, .val (netD n ts rs), .val ev, w5, v6, v7, v8, v9, v10, v11, v12, w13] h) := by
  obtain ⟨_, k⟩ := forGo_chk (g := gN 13) (mb := cBody Pg) (h := h) (fun _ => false) (fun ρ => ∃ w13, ρ = [.val (scI ns), .val (hdT T), v2, .val (netD n ts rs), .val ev, .val (.list th), v6, v7, v8, v9, v10, v11, v12, w13]) th [.val (scI ns), .val (hdT T), v2, .val (netD n ts rs), .val ev, .val (.list th), v6, v7, v8, v9, v10, v11, v12, v13] ⟨_, rfl⟩ (by
    rintro d hd ρ ⟨w13, rfl⟩
    obtain ⟨dq, dl⟩ := hok d hd
    have sd := dp_shp dq (by omega)
    have a1 := route_ok (Pg := Pg) (n := n) (ts := ts) (rs := rs) (h := h) sd h0 h1 h2
    have a2 := lroute_ok (Pg := Pg) (n := n) (ts := ts) (rs := rs) (h := h) sd dl
    refine ⟨[.val (scI ns), .val (hdT T), v2, .val (netD n ts rs), .val ev, .val (.list th), v6, v7, v8, v9, v10, v11, v12, .val d], by simp [gN], fun hb => (by cases hb), fun _ => ⟨_, ?_, .val d, rfl⟩⟩
    have ec : eCall (m__law_same Pg) (aCons (eCall (m_is_route Pg) (aCons (eVar 3) (aCons (eVar 13) aNil))) (aCons (eCall (m__law_is_route Pg) (aCons (eVar 3) (aCons (eVar 13) aNil))) aNil)) [.val (scI ns), .val (hdT T), v2, .val (netD n ts rs), .val ev, .val (.list th), v6, v7, v8, v9, v10, v11, v12, .val d] h = some (.bool true, h) :=
      eCall_of (aCons_of (eCall_of (aCons_of (eVar_of rfl) (aCons_of (eVar_of rfl) aNil_of)) a1) (aCons_of (eCall_of (aCons_of (eVar_of rfl) (aCons_of (eVar_of rfl) aNil_of)) a2) aNil_of)) same_bool
    unfold cBody
    generalize eCall (m__law_same Pg) (aCons (eCall (m_is_route Pg) (aCons (eVar 3) (aCons (eVar 13) aNil))) (aCons (eCall (m__law_is_route Pg) (aCons (eVar 3) (aCons (eVar 13) aNil))) aNil)) = mm at ec ⊢
    simp [sIf, tNotM, tValM, ec, truD, sNil])
  obtain ⟨ρ', e, w13, rfl⟩ := k (by simp)
  refine ⟨.val (.list th), w13, ?_⟩
  simp only [sFz, List.getElem?_cons_succ, List.getElem?_cons_zero]
  show sFor (iVal (eVar 5)) (gN 13) (cBody Pg) [.val (scI ns), .val (hdT T), v2, .val (netD n ts rs), .val ev, .val (.list th), v6, v7, v8, v9, v10, v11, v12, v13] h = _
  have ei : iVal (eVar 5) [.val (scI ns), .val (hdT T), v2, .val (netD n ts rs), .val ev, .val (.list th), v6, v7, v8, v9, v10, v11, v12, v13] h = some (th, h) := by simp [iVal, eVar, seqD]
  simp only [sFor, ei]
  exact e
end
end Q4
set_option Elab.async false
set_option linter.all false
set_option maxRecDepth 100000
namespace Q4
open PySem PySem.Spec PySem.W PyProof.Rows L2 Q Q2
section
variable {Pg : TB} {T : Hq} {ns : List Int} {n : Int} {ts : List Tie} {rs : List Int} {v2 v3 v4 v5 v6 v7 v8 v9 v10 v11 v12 v13 : Sl}
noncomputable abbrev disp : MS := (sSetOwn 5 (lDisp (aCons (eC .none) (aCons (eC (.int 7)) (aCons (eA fTup aNil) (aCons (eC (.str "01")) (aCons (eA fTup (aCons (eC (.int 0)) aNil)) (aCons (eA fTup (aCons (eC (.int 0)) (aCons (eC (.int 1)) aNil))) (aCons (eA fTup (aCons (eC (.int 1)) (aCons (eC (.int 0)) aNil))) (aCons (eA fTup (aCons (eC (.int 0)) (aCons (eC (.int 0)) aNil))) (aCons (eA fTup (aCons (eC (.bool true)) (aCons (eC (.int 1)) aNil))) (aCons (eA fTup (aCons (eC (.int 0)) (aCons (eC (.bool true)) aNil))) (aCons (eA fTup (aCons (eA fTup (aCons (eC (.int 0)) (aCons (eC (.int 1)) aNil))) aNil)) (aCons (eA fLst (aCons (eC (.int 0)) (aCons (eC (.int 1)) aNil))) aNil))))))))))))))
theorem disp_ex {nD ev : D} {h : Hq} : ∃ th, disp [.val (scI ns), .val (hdT T), v2, .val nD, .val ev, v5, v6, v7, v8, v9, v10, v11, v12, v13] h = some (.nx [.val (scI ns), .val (hdT T), v2, .val nD, .val ev, .own th, v6, v7, v8, v9, v10, v11, v12, v13] h) ∧ th.length = 12 ∧ ∀ d ∈ th, okT d := by
  refine ⟨[.none, .int 7, .tuple [], .str "01", .tuple [.int 0], .tuple [.int 0, .int 1], .tuple [.int 1, .int 0], .tuple [.int 0, .int 0], .tuple [.bool true, .int 1], .tuple [.int 0, .bool true], .tuple [.tuple [.int 0, .int 1]], .list [.int 0, .int 1]], ?_, rfl, ?_⟩
  · simp [disp, sSetOwn, lDisp, eA, aCons, aNil, eC, fTup, fLst, le_lim]
  · intro d hd
    simp only [List.mem_cons, List.not_mem_nil, or_false] at hd
    rcases hd with rfl | rfl | rfl | rfl | rfl | rfl | rfl | rfl | rfl | rfl | rfl | rfl <;> exact ⟨⟨by decide +kernel, by simp [PyData.depth, PyData.depthAll]⟩, fun xs e => by cases e <;> simp⟩
noncomputable abbrev turn (Pg : TB) : MS := (sSeq (sSet 3 (eCall m__law_net (aCons (eVar 0) (aCons (eVar 1) (aCons (eC (.int 7)) (aCons (eC (.int 8)) aNil)))))) (sSeq (sSet 4 (eSl (qVal (eCall (m__law_routes Pg) (aCons (eVar 3) aNil))) oNo (oYes (eC (.int 60))))) (sSeq (sSetOwn 5 (lDisp (aCons (eC .none) (aCons (eC (.int 7)) (aCons (eA fTup aNil) (aCons (eC (.str "01")) (aCons (eA fTup (aCons (eC (.int 0)) aNil)) (aCons (eA fTup (aCons (eC (.int 0)) (aCons (eC (.int 1)) aNil))) (aCons (eA fTup (aCons (eC (.int 1)) (aCons (eC (.int 0)) aNil))) (aCons (eA fTup (aCons (eC (.int 0)) (aCons (eC (.int 0)) aNil))) (aCons (eA fTup (aCons (eC (.bool true)) (aCons (eC (.int 1)) aNil))) (aCons (eA fTup (aCons (eC (.int 0)) (aCons (eC (.bool true)) aNil))) (aCons (eA fTup (aCons (eA fTup (aCons (eC (.int 0)) (aCons (eC (.int 1)) aNil))) aNil)) (aCons (eA fLst (aCons (eC (.int 0)) (aCons (eC (.int 1)) aNil))) aNil)))))))))))))) (sSeq (sFor (iRange1 (eC (.int 6))) (gN 6) (sSeq (sSet 7 (eA fTup aNil)) (sSeq (sFor (iRange1 (eOp gAddI (eC (.int 2)) (eCall m__law_draw (aCons (eVar 0) (aCons (eVar 1) (aCons (eC (.int 3)) aNil)))))) (gN 8) (sSet 7 (eOp gCatT (eVar 7) (eA fTup (aCons (eCall m__law_draw (aCons (eVar 0) (aCons (eVar 1) (aCons (eOp gAddI (eQX fIx (qVal (eVar 3)) (eC (.int 0))) (eC (.int 1))) aNil)))) aNil))))) (sApp 5 (eVar 7))))) (sSeq (sFor (iRange1 (eOp gMulI (eC (.int 4)) (eUn gInt (eOp gNe (eVar 4) (eA fLst aNil))))) (gN 6) (sSeq (sSet 9 (eCall m__law_pick (aCons (eVar 0) (aCons (eVar 1) (aCons (eVar 4) aNil))))) (sSeq (sSet 10 (eCall m__law_draw (aCons (eVar 0) (aCons (eVar 1) (aCons (eQ fLen (qVal (eVar 9))) aNil))))) (sSeq (sSet 11 (eCall m__law_pick (aCons (eVar 0) (aCons (eVar 1) (aCons (eA fLst (aCons (eC .none) (aCons (eUn gNeg (eC (.int 1))) (aCons (eQX fIx (qVal (eVar 3)) (eC (.int 0))) (aCons (eC (.str "0")) (aCons (eA fTup aNil) (aCons (eC (.int 0)) (aCons (eC (.int 1)) (aCons (eOp gSubI (eQX fIx (qVal (eVar 3)) (eC (.int 0))) (eC (.int 1))) aNil))))))))) aNil))))) (sSeq (sSetOwn 5 (lCat (lOwn 5) (lVal (eA fLst (aCons (eVar 9) (aCons (eQ fLstQ (qVal (eVar 9))) (aCons (eRev (qVal (eVar 9))) (aCons (eSl (qVal (eVar 9)) oNo (oYes (eUn gNeg (eC (.int 1))))) (aCons (eSl (qVal (eVar 9)) (oYes (eC (.int 1))) oNo) (aCons (eOp gCatT (eVar 9) (eSl (qVal (eVar 9)) oNo (oYes (eC (.int 1))))) aNil)))))))))) (sSeq (sSetOwn 5 (lCat (lOwn 5) (lVal (eA fLst (aCons (eOp gCatT (eOp gCatT (eSl (qVal (eVar 9)) oNo (oYes (eVar 10))) (eA fTup (aCons (eVar 11) aNil))) (eSl (qVal (eVar 9)) (oYes (eOp gAddI (eVar 10) (eC (.int 1)))) oNo)) (aCons (eOp gCatT (eSl (qVal (eVar 9)) oNo (oYes (eVar 10))) (eSl (qVal (eVar 9)) (oYes (eOp gAddI (eVar 10) (eC (.int 1)))) oNo)) aNil)))))) (sSeq (sApp 5 (eOp gCatT (eOp gCatT (eSl (qVal (eVar 9)) oNo (oYes (eVar 10))) (eSl (qVal (eVar 9)) (oYes (eVar 10)) (oYes (eOp gAddI (eVar 10) (eC (.int 1)))))) (eSl (qVal (eVar 9)) (oYes (eVar 10)) oNo))) (sApp 5 (eQ (fun k ds => if k then none else some (.tuple ds)) (qVal (eL (lLc [12] (iVal (eVar 9)) (gN 12) tYesM (eIf (tValM dB (eOp gLtI (eVar 12) (eC (.int 2)))) (eOp gEq (eVar 12) (eC (.int 1))) (eVar 12)))))))))))))) (sFz 5 (sFor (iVal (eVar 5)) (gN 13) (sIf (tNotM (tValM truD (eCall (m__law_same Pg) (aCons (eCall (m_is_route Pg) (aCons (eVar 3) (aCons (eVar 13) aNil))) (aCons (eCall (m__law_is_route Pg) (aCons (eVar 3) (aCons (eVar 13) aNil))) aNil))))) (sRet (eC (.bool false))) sNil))))))))
theorem turn_ex {xs : List D} (hx : xs.length < 600000) (h0 : ∀ ys, isTab (Pg 0) (Tw T ys)[0]? = true) (h1 : ∀ ys, isTab (Pg 1) (Tw T ys)[1]? = true) (h2 : ∀ ys, isTab (Pg 2) (Tw T ys)[2]? = true) :
    ∃ w3 w4 w5 w6 w7 w8 w9 w10 w11 w12 w13 xs', turn Pg [.val (scI ns), .val (hdT T), v2, v3, v4, v5, v6, v7, v8, v9, v10, v11, v12, v13] (Tw T xs) = some (.nx [.val (scI ns), .val (hdT T), v2, w3, w4, w5, w6, w7, w8, w9, w10, w11, w12, w13] (Tw T xs')) ∧ xs'.length ≤ xs.length + 200 := by
  obtain ⟨n, tl, rs, xs1, en, l1, n1, n7, ht, _, t9, tn, _, hr, _, r7⟩ := net_ex (T := T) (ns := ns) (xs := xs) (high := 7) (wide := 8) (by omega) (by omega) (by omega) (by omega) (by omega)
  obtain ⟨ts, e0, et, rg, tl9⟩ := ties_of ht
  rw [et] at en
  have nd : ts.Nodup := by
    rw [e0] at tn
    refine (List.pairwise_map.mp tn).imp fun hne e => hne (by rw [e])
  have N : NetOk n ts rs := ⟨n1, n7, rg, nd, by omega, hr.2, r7⟩
  have s1 : sSet 3 (eCall m__law_net (aCons (eVar 0) (aCons (eVar 1) (aCons (eC (.int 7)) (aCons (eC (.int 8)) aNil))))) [.val (scI ns), .val (hdT T), v2, v3, v4, v5, v6, v7, v8, v9, v10, v11, v12, v13] (Tw T xs) = some (.nx [.val (scI ns), .val (hdT T), v2, .val (netD n ts rs), v4, v5, v6, v7, v8, v9, v10, v11, v12, v13] (Tw T xs1)) :=
    sSet_of (eCall_of (aCons_of (eVar_of rfl) (aCons_of (eVar_of rfl) (aCons_of eC_of (aCons_of eC_of aNil_of)))) en) (by simp)
  obtain ⟨l0, el, hl0⟩ := lroutes_ex (Pg := Pg) (h := Tw T xs1) N
  have s2 : sSet 4 (eSl (qVal (eCall (m__law_routes Pg) (aCons (eVar 3) aNil))) oNo (oYes (eC (.int 60)))) [.val (scI ns), .val (hdT T), v2, .val (netD n ts rs), v4, v5, v6, v7, v8, v9, v10, v11, v12, v13] (Tw T xs1) = some (.nx [.val (scI ns), .val (hdT T), v2, .val (netD n ts rs), .val (.list ((l0.take 60).map tupD)), v5, v6, v7, v8, v9, v10, v11, v12, v13] (Tw T xs1)) := by
    have ec : eCall (m__law_routes Pg) (aCons (eVar 3) aNil) [.val (scI ns), .val (hdT T), v2, .val (netD n ts rs), v4, v5, v6, v7, v8, v9, v10, v11, v12, v13] (Tw T xs1) = some (.list (l0.map tupD), Tw T xs1) := eCall_of (aCons_of (eVar_of rfl) aNil_of) el
    have es : eSl (qVal (eCall (m__law_routes Pg) (aCons (eVar 3) aNil))) oNo (oYes (eC (.int 60))) [.val (scI ns), .val (hdT T), v2, .val (netD n ts rs), v4, v5, v6, v7, v8, v9, v10, v11, v12, v13] (Tw T xs1) = some (.list ((l0.take 60).map tupD), Tw T xs1) := by
      have cc := cut_to (l0.map tupD) (w := 60) (by omega)
      simp only [eSl, qVal, ec, seqD, oNo, oYes, eC, cc, Bool.false_eq_true, if_false, List.map_take]
      rfl
    exact sSet_of es (by simp)
  have hl : ∀ r ∈ l0.take 60, r ≠ [] ∧ r.length ≤ 8 := fun r hr => hl0 r (List.mem_of_mem_take hr)
  have ll : (l0.take 60).length ≤ 60 := by rw [List.length_take]; omega
  generalize l0.take 60 = l at *
  obtain ⟨th, s3, tl12, hth⟩ := disp_ex (ns := ns) (T := T) (v2 := v2) (nD := netD n ts rs) (ev := .list (l.map tupD)) (v5 := v5) (v6 := v6) (v7 := v7) (v8 := v8) (v9 := v9) (v10 := v10) (v11 := v11) (v12 := v12) (v13 := v13) (h := Tw T xs1)
  obtain ⟨ρ4, h4, e4, w6, w7, w8, th4, xs4, rfl, rfl, lt4, ok4, lx4⟩ := forGo_ex (g := gN 6) (mb := rBody) (fun i ρ h => ∃ w6 w7 w8 th4 xs4, ρ = L4 ns T v2 n ts rs (.list (l.map tupD)) th4 w6 w7 w8 v9 v10 v11 v12 v13 ∧ h = Tw T xs4 ∧ th4.length ≤ 12 + i ∧ (∀ d ∈ th4, okT d) ∧ xs4.length ≤ xs1.length + 10 * i) (rangeD 0 6) 0 (L4 ns T v2 n ts rs (.list (l.map tupD)) th v6 v7 v8 v9 v10 v11 v12 v13) (Tw T xs1) ⟨v6, v7, v8, th, xs1, rfl, rfl, by omega, hth, by omega⟩ (by
    rintro i d ρ h hd ⟨w6, w7, w8, th4, xs4, rfl, rfl, lt4, ok4, lx4⟩
    obtain ⟨_, hi⟩ := rangeD_get hd
    obtain ⟨r, w8', xs5, er, lr, lx5⟩ := row_ex (ns := ns) (T := T) (n := n) (ts := ts) (rs := rs) (v2 := v2) (ev := .list (l.map tupD)) (th := th4) (v6 := .val d) (v7 := w7) (v8 := w8) (v9 := v9) (v10 := v10) (v11 := v11) (v12 := v12) (v13 := v13) (xs := xs4) (by omega) n1 (by omega)
    refine ⟨L4 ns T v2 n ts rs (.list (l.map tupD)) th4 (.val d) w7 w8 v9 v10 v11 v12 v13, _, _, by simp [gN], er, .val d, _, w8', _, xs5, rfl, rfl, by simp; omega, fun d hd => ?_, by omega⟩
    rcases List.mem_append.mp hd with hd | hd
    · exact ok4 d hd
    · rw [List.mem_singleton.mp hd]
      exact okT_tup (fun d hd => by obtain ⟨i, _, rfl⟩ := List.mem_map.mp hd; exact dq_int i) (by rw [List.length_map]; omega))
  rw [rangeD_len] at lt4 lx4
  have s4 : sFor (iRange1 (eC (.int 6))) (gN 6) rBody (L4 ns T v2 n ts rs (.list (l.map tupD)) th v6 v7 v8 v9 v10 v11 v12 v13) (Tw T xs1) = some (.nx (L4 ns T v2 n ts rs (.list (l.map tupD)) th4 w6 w7 w8 v9 v10 v11 v12 v13) (Tw T xs4)) := by
    have o := ok62_small (i := 6) (by omega) (by omega)
    have y : iRange1 (eC (.int 6)) (L4 ns T v2 n ts rs (.list (l.map tupD)) th v6 v7 v8 v9 v10 v11 v12 v13) (Tw T xs1) = some (rangeD 0 6, Tw T xs1) := by simp [iRange1, eC, o]
    simp only [sFor, y]
    exact e4
  have s5 : ∃ x6 x9 x10 x11 th5 xs5, sFor (iRange1 (eOp gMulI (eC (.int 4)) (eUn gInt (eOp gNe (eVar 4) (eA fLst aNil))))) (gN 6) pBody (L4 ns T v2 n ts rs (.list (l.map tupD)) th4 w6 w7 w8 v9 v10 v11 v12 v13) (Tw T xs4) = some (.nx (L4 ns T v2 n ts rs (.list (l.map tupD)) th5 x6 w7 w8 x9 x10 x11 v12 v13) (Tw T xs5)) ∧ (∀ d ∈ th5, okT d) ∧ xs5.length ≤ xs4.length + 12 := by
    have sh : shp (.list (l.map tupD)) = true := dp_shp (k := 3) (dp_list fun d hd => by
      obtain ⟨r, _, rfl⟩ := List.mem_map.mp hd
      exact dp_tuple fun d hd => by obtain ⟨i, _, rfl⟩ := List.mem_map.mp hd; exact dq_int i) (by omega)
    have sn : shp (.list []) = true := dp_shp (k := 1) (dp_list fun d hd => by cases hd) (by omega)
    cases l with
    | nil =>
      refine ⟨w6, v9, v10, v11, th4, xs4, ?_, ok4, by omega⟩
      have g1 : gNe (.list (([] : List (List Int)).map tupD)) (.list []) = some (.bool false) := by simp only [gNe, List.map_nil, sn, Bool.and_self, if_true]; rfl
      have g2 : gMulI (.int 4) (.int 0) = some (.int 0) := by simp [gI, in64]
      have o := ok62_small (i := 0) (by omega) (by omega)
      have y : iRange1 (eOp gMulI (eC (.int 4)) (eUn gInt (eOp gNe (eVar 4) (eA fLst aNil)))) (L4 ns T v2 n ts rs (.list (([] : List (List Int)).map tupD)) th4 w6 w7 w8 v9 v10 v11 v12 v13) (Tw T xs4) = some (rangeD 0 0, Tw T xs4) := by
        simp only [iRange1, eOp, eC, eUn, eVar, List.getElem?_cons_succ, List.getElem?_cons_zero, eA, aNil, fLst, le_lim (show ([] : List D).length ≤ 1000000 by simp), if_true, g1, gInt, Bool.false_eq_true, if_false, g2, o]
      simp only [sFor, y]
      rfl
    | cons r0 rr =>
      have g1 : gNe (.list ((r0 :: rr).map tupD)) (.list []) = some (.bool true) := by simp only [gNe, sh, sn, Bool.and_self, if_true]; rfl
      have g2 : gMulI (.int 4) (.int 1) = some (.int 4) := by simp [gI, in64]
      have o := ok62_small (i := 4) (by omega) (by omega)
      have y : iRange1 (eOp gMulI (eC (.int 4)) (eUn gInt (eOp gNe (eVar 4) (eA fLst aNil)))) (L4 ns T v2 n ts rs (.list ((r0 :: rr).map tupD)) th4 w6 w7 w8 v9 v10 v11 v12 v13) (Tw T xs4) = some (rangeD 0 4, Tw T xs4) := by
        simp only [iRange1, eOp, eC, eUn, eVar, List.getElem?_cons_succ, List.getElem?_cons_zero, eA, aNil, fLst, le_lim (show ([] : List D).length ≤ 1000000 by simp), if_true, g1, gInt, g2, o]
      obtain ⟨ρ5, h5, e5, x6, x9, x10, x11, th5, xs5, rfl, rfl, lt5, ok5, lx5⟩ := forGo_ex (g := gN 6) (mb := pBody) (fun i ρ h => ∃ x6 x9 x10 x11 th5 xs5, ρ = L4 ns T v2 n ts rs (.list ((r0 :: rr).map tupD)) th5 x6 w7 w8 x9 x10 x11 v12 v13 ∧ h = Tw T xs5 ∧ th5.length ≤ 100 + 10 * i ∧ (∀ d ∈ th5, okT d) ∧ xs5.length ≤ xs4.length + 3 * i) (rangeD 0 4) 0 (L4 ns T v2 n ts rs (.list ((r0 :: rr).map tupD)) th4 w6 w7 w8 v9 v10 v11 v12 v13) (Tw T xs4) ⟨w6, v9, v10, v11, th4, xs4, rfl, rfl, by omega, ok4, by omega⟩ (by
        rintro i d ρ h hd ⟨x6, x9, x10, x11, th5, xs5, rfl, rfl, lt5, ok5, lx5⟩
        obtain ⟨_, hi⟩ := rangeD_get hd
        obtain ⟨th6, y9, y10, y11, xs6, ep, lt6, ok6, lx6⟩ := pick_body (ns := ns) (T := T) (n := n) (ts := ts) (rs := rs) (v2 := v2) (l := r0 :: rr) (th := th5) (v6 := .val d) (v7 := w7) (v8 := w8) (v9 := x9) (v10 := x10) (v11 := x11) (v12 := v12) (v13 := v13) (xs := xs5) (by omega) (by simp) hl (by omega) ok5
        exact ⟨L4 ns T v2 n ts rs (.list ((r0 :: rr).map tupD)) th5 (.val d) w7 w8 x9 x10 x11 v12 v13, _, _, by simp [gN], ep, .val d, y9, y10, y11, th6, xs6, rfl, rfl, by omega, ok6, by omega⟩)
      rw [rangeD_len] at lx5
      refine ⟨x6, x9, x10, x11, th5, xs5, ?_, ok5, by omega⟩
      simp only [sFor, y]
      exact e5
  obtain ⟨x6, x9, x10, x11, th5, xs5, s5, ok5, lx5⟩ := s5
  obtain ⟨w5, w13, s6⟩ := check_ex (Pg := Pg) (ns := ns) (T := T) (n := n) (ts := ts) (rs := rs) (v2 := v2) (ev := .list (l.map tupD)) (th := th5) (v6 := x6) (v7 := w7) (v8 := w8) (v9 := x9) (v10 := x10) (v11 := x11) (v12 := v12) (v13 := v13) (h := Tw T xs5) ok5 (h0 xs5) (h1 xs5) (h2 xs5)
  refine ⟨.val (netD n ts rs), .val (.list (l.map tupD)), w5, x6, w7, w8, x9, x10, x11, v12, w13, xs5, ?_, by omega⟩
  unfold turn
  rw [seq_nx s1, seq_nx s2]
  refine (seq_nx s3).trans ?_
  rw [seq_nx s4, seq_nx s5]
  exact s6
end
theorem law_true {Pg : TB} {ns : List Int} (hl : ns.length ≤ 63) : ∃ h', m_law Pg [scr (ns.map PyData.int)] [.tab (Pg 0), .tab (Pg 1), .tab (Pg 2)] = some (.bool true, h') := by
  obtain ⟨ρ', h', e, v2, v3, v4, v5, v6, v7, v8, v9, v10, v11, v12, v13, xs', rfl, rfl, _⟩ := forGo_ex (g := gN 2) (mb := turn Pg) (fun i ρ h => ∃ v2 v3 v4 v5 v6 v7 v8 v9 v10 v11 v12 v13 xs, ρ = [.val (scI ns), .val (hdT [.tab (Pg 0), .tab (Pg 1), .tab (Pg 2)]), v2, v3, v4, v5, v6, v7, v8, v9, v10, v11, v12, v13] ∧ h = Tw [.tab (Pg 0), .tab (Pg 1), .tab (Pg 2)] xs ∧ xs.length ≤ 200 * i) (rangeD 0 6) 0 [.val (scI ns), .val (hdT [.tab (Pg 0), .tab (Pg 1), .tab (Pg 2)]), .no, .no, .no, .no, .no, .no, .no, .no, .no, .no, .no, .no] (Tw [.tab (Pg 0), .tab (Pg 1), .tab (Pg 2)] [])
    ⟨.no, .no, .no, .no, .no, .no, .no, .no, .no, .no, .no, .no, [], rfl, rfl, by simp⟩ (by
    rintro i d ρ h hd ⟨v2, v3, v4, v5, v6, v7, v8, v9, v10, v11, v12, v13, xs, rfl, rfl, ll⟩
    obtain ⟨_, hi⟩ := rangeD_get hd
    obtain ⟨w3, w4, w5, w6, w7, w8, w9, w10, w11, w12, w13, xs', et, lx⟩ := turn_ex (Pg := Pg) (T := [.tab (Pg 0), .tab (Pg 1), .tab (Pg 2)]) (ns := ns) (v2 := .val d) (v3 := v3) (v4 := v4) (v5 := v5) (v6 := v6) (v7 := v7) (v8 := v8) (v9 := v9) (v10 := v10) (v11 := v11) (v12 := v12) (v13 := v13) (xs := xs) (by omega) (fun ys => by simp [Tw, isTab]) (fun ys => by simp [Tw, isTab]) (fun ys => by simp [Tw, isTab])
    exact ⟨[.val (scI ns), .val (hdT [.tab (Pg 0), .tab (Pg 1), .tab (Pg 2)]), .val d, v3, v4, v5, v6, v7, v8, v9, v10, v11, v12, v13], _, _, by simp [gN], et, .val d, w3, w4, w5, w6, w7, w8, w9, w10, w11, w12, w13, xs', rfl, rfl, by omega⟩)
  refine ⟨Tw [.tab (Pg 0), .tab (Pg 1), .tab (Pg 2)] xs', ?_⟩
  unfold m_law
  rw [if_pos (by rfl)]
  refine runB_rt ?_
  show b_law Pg [.val (scI ns), .no, .no, .no, .no, .no, .no, .no, .no, .no, .no, .no, .no, .no] [.tab (Pg 0), .tab (Pg 1), .tab (Pg 2)] = _
  have s1 : sCell 1 (lDisp aNil) [.val (scI ns), .no, .no, .no, .no, .no, .no, .no, .no, .no, .no, .no, .no, .no] [.tab (Pg 0), .tab (Pg 1), .tab (Pg 2)] = some (.nx [.val (scI ns), .val (hdT [.tab (Pg 0), .tab (Pg 1), .tab (Pg 2)]), .no, .no, .no, .no, .no, .no, .no, .no, .no, .no, .no, .no] (Tw [.tab (Pg 0), .tab (Pg 1), .tab (Pg 2)] [])) := by
    simp [sCell, lDisp, aNil, le_lim, Tw]
  have s2 : sFor (iRange1 (eC (.int 6))) (gN 2) (turn Pg) [.val (scI ns), .val (hdT [.tab (Pg 0), .tab (Pg 1), .tab (Pg 2)]), .no, .no, .no, .no, .no, .no, .no, .no, .no, .no, .no, .no] (Tw [.tab (Pg 0), .tab (Pg 1), .tab (Pg 2)] []) = some (.nx [.val (scI ns), .val (hdT [.tab (Pg 0), .tab (Pg 1), .tab (Pg 2)]), v2, v3, v4, v5, v6, v7, v8, v9, v10, v11, v12, v13] (Tw [.tab (Pg 0), .tab (Pg 1), .tab (Pg 2)] xs')) := by
    have o := ok62_small (i := 6) (by omega) (by omega)
    have y : iRange1 (eC (.int 6)) [.val (scI ns), .val (hdT [.tab (Pg 0), .tab (Pg 1), .tab (Pg 2)]), .no, .no, .no, .no, .no, .no, .no, .no, .no, .no, .no, .no] (Tw [.tab (Pg 0), .tab (Pg 1), .tab (Pg 2)] []) = some (rangeD 0 6, Tw [.tab (Pg 0), .tab (Pg 1), .tab (Pg 2)] []) := by simp [iRange1, eC, o]
    simp only [sFor, y]
    exact e
  unfold b_law
  rw [seq_nx s1]
  refine (seq_nx s2).trans ?_
  simp [sRet, eC]
end Q4
set_option Elab.async false
set_option linter.all false
set_option maxRecDepth 100000
namespace Q4
open PySem PySem.Spec PySem.W PyProof.Rows L2 Q
set_option maxHeartbeats 0 in
theorem all_mk {l : OpenLaw} {q : Program} {loose : List Str} {mean : ExcName → Option Value} {w : World} {K : Fg} {h : Heap} {mg mb : Str → Option Value} {fa : Addr} {P0 : Addr} {P1 : Addr} {P2 : Addr} {f0 : Addr} {od0 an0 : Option Addr} {sl0 : Array (Option Value)} {oc0 kV0 dc0 pm0 ct0 : Value} {cd0 : Value} {f1 : Addr} {od1 an1 : Option Addr} {sl1 : Array (Option Value)} {oc1 kV1 dc1 pm1 ct1 : Value} {cd1 : Value} {f2 : Addr} {od2 an2 : Option Addr} {sl2 : Array (Option Value)} {oc2 kV2 dc2 pm2 ct2 : Value} {e2 : Addr} {oe2 : Value} {de2 : Option Addr} {us2 : Array Value} {se2 : Array (Option Value)} {r2 : DefRec} {f3 : Addr} {od3 an3 : Option Addr} {sl3 : Array (Option Value)} {oc3 kV3 dc3 pm3 ct3 : Value} {cd3 : Value} {f4 : Addr} {od4 an4 : Option Addr} {sl4 : Array (Option Value)} {oc4 kV4 dc4 pm4 ct4 : Value} {cd4 : Value} {f5 : Addr} {od5 an5 : Option Addr} {sl5 : Array (Option Value)} {oc5 kV5 dc5 pm5 ct5 : Value} {cd5 : Value} {f6 : Addr} {od6 an6 : Option Addr} {sl6 : Array (Option Value)} {oc6 kV6 dc6 pm6 ct6 : Value} {e6 : Addr} {oe6 : Value} {de6 : Option Addr} {us6 : Array Value} {se6 : Array (Option Value)} {r6 : DefRec} {f7 : Addr} {od7 an7 : Option Addr} {sl7 : Array (Option Value)} {oc7 kV7 dc7 pm7 ct7 : Value} {cd7 : Value} {f8 : Addr} {od8 an8 : Option Addr} {sl8 : Array (Option Value)} {oc8 kV8 dc8 pm8 ct8 : Value} {e8 : Addr} {oe8 : Value} {de8 : Option Addr} {us8 : Array Value} {se8 : Array (Option Value)} {r8 : DefRec} {f9 : Addr} {od9 an9 : Option Addr} {sl9 : Array (Option Value)} {oc9 kV9 dc9 pm9 ct9 : Value} {cd9 : Value} {f10 : Addr} {od10 an10 : Option Addr} {sl10 : Array (Option Value)} {oc10 kV10 dc10 pm10 ct10 : Value} {cd10 : Value} {f11 : Addr} {od11 an11 : Option Addr} {sl11 : Array (Option Value)} {oc11 kV11 dc11 pm11 ct11 : Value} {cd11 : Value} {f12 : Addr} {od12 an12 : Option Addr} {sl12 : Array (Option Value)} {oc12 kV12 dc12 pm12 ct12 : Value} {cd12 : Value} {f13 : Addr} {od13 an13 : Option Addr} {sl13 : Array (Option Value)} {oc13 kV13 dc13 pm13 ct13 : Value} {cd13 : Value} {f14 : Addr} {od14 an14 : Option Addr} {sl14 : Array (Option Value)} {oc14 kV14 dc14 pm14 ct14 : Value} {cd14 : Value} {f15 : Addr} {od15 an15 : Option Addr} {sl15 : Array (Option Value)} {oc15 kV15 dc15 pm15 ct15 : Value} {cd15 : Value} (X : K.In h) (T : Top q (looseW q loose) mean mg mb h) (hfa : mg "law" = some (.ref fa))
    (a0 : nsIn K mainGlobals "is_whole" = some (some (.ref f0))) (l0 : K.lookup f0 = some ⟨oc0, od0, .func (fnOf "is_whole" "is_whole" (defArgs s_is_whole) (defBody s_is_whole) (defScope s_is_whole) .none kV0 dc0 pm0 an0 cd0 ct0), sl0⟩) (c0 : codeIn K cd0 "is_whole" = true) (k0 : keepIn K (.ref f0) = true)
    (a1 : nsIn K mainGlobals "is_number" = some (some (.ref f1))) (l1 : K.lookup f1 = some ⟨oc1, od1, .func (fnOf "is_number" "is_number" (defArgs s_is_number) (defBody s_is_number) (defScope s_is_number) .none kV1 dc1 pm1 an1 cd1 ct1), sl1⟩) (c1 : codeIn K cd1 "is_number" = true) (k1 : keepIn K (.ref f1) = true)
    (a2 : nsIn K mainGlobals "is_rising" = some (some (.ref f2))) (l2 : K.lookup f2 = some ⟨oc2, od2, .func (fnOf "is_rising" "is_rising" (defArgs s_is_rising) (defBody s_is_rising) (defScope s_is_rising) .none kV2 dc2 pm2 an2 (.ref e2) ct2), sl2⟩) (c2 : codeIn K (.ref e2) "is_rising" = true) (k2 : keepIn K (.ref f2) = true)
    (t2 : K.lookup e2 = some ⟨oe2, de2, .fields us2, se2⟩) (v2 : us2[11]? = some (.ref P0)) (w2 : (recsOf q).find? (fun e => e.name == ("is_rising" : Str)) = some r2)
    (a3 : nsIn K mainGlobals "ordered_pair" = some (some (.ref f3))) (l3 : K.lookup f3 = some ⟨oc3, od3, .func (fnOf "ordered_pair" "ordered_pair" (defArgs s_ordered_pair) (defBody s_ordered_pair) (defScope s_ordered_pair) .none kV3 dc3 pm3 an3 cd3 ct3), sl3⟩) (c3 : codeIn K cd3 "ordered_pair" = true) (k3 : keepIn K (.ref f3) = true)
    (a4 : nsIn K mainGlobals "is_tied" = some (some (.ref f4))) (l4 : K.lookup f4 = some ⟨oc4, od4, .func (fnOf "is_tied" "is_tied" (defArgs s_is_tied) (defBody s_is_tied) (defScope s_is_tied) .none kV4 dc4 pm4 an4 cd4 ct4), sl4⟩) (c4 : codeIn K cd4 "is_tied" = true) (k4 : keepIn K (.ref f4) = true)
    (a5 : nsIn K mainGlobals "steps_of" = some (some (.ref f5))) (l5 : K.lookup f5 = some ⟨oc5, od5, .func (fnOf "steps_of" "steps_of" (defArgs s_steps_of) (defBody s_steps_of) (defScope s_steps_of) .none kV5 dc5 pm5 an5 cd5 ct5), sl5⟩) (c5 : codeIn K cd5 "steps_of" = true) (k5 : keepIn K (.ref f5) = true)
    (a6 : nsIn K mainGlobals "are_unlike_knots" = some (some (.ref f6))) (l6 : K.lookup f6 = some ⟨oc6, od6, .func (fnOf "are_unlike_knots" "are_unlike_knots" (defArgs s_are_unlike_knots) (defBody s_are_unlike_knots) (defScope s_are_unlike_knots) .none kV6 dc6 pm6 an6 (.ref e6) ct6), sl6⟩) (c6 : codeIn K (.ref e6) "are_unlike_knots" = true) (k6 : keepIn K (.ref f6) = true)
    (t6 : K.lookup e6 = some ⟨oe6, de6, .fields us6, se6⟩) (v6 : us6[11]? = some (.ref P1)) (w6 : (recsOf q).find? (fun e => e.name == ("are_unlike_knots" : Str)) = some r6)
    (a7 : nsIn K mainGlobals "has_route_ends" = some (some (.ref f7))) (l7 : K.lookup f7 = some ⟨oc7, od7, .func (fnOf "has_route_ends" "has_route_ends" (defArgs s_has_route_ends) (defBody s_has_route_ends) (defScope s_has_route_ends) .none kV7 dc7 pm7 an7 cd7 ct7), sl7⟩) (c7 : codeIn K cd7 "has_route_ends" = true) (k7 : keepIn K (.ref f7) = true)
    (a8 : nsIn K mainGlobals "is_route" = some (some (.ref f8))) (l8 : K.lookup f8 = some ⟨oc8, od8, .func (fnOf "is_route" "is_route" (defArgs s_is_route) (defBody s_is_route) (defScope s_is_route) .none kV8 dc8 pm8 an8 (.ref e8) ct8), sl8⟩) (c8 : codeIn K (.ref e8) "is_route" = true) (k8 : keepIn K (.ref f8) = true)
    (t8 : K.lookup e8 = some ⟨oe8, de8, .fields us8, se8⟩) (v8 : us8[11]? = some (.ref P2)) (w8 : (recsOf q).find? (fun e => e.name == ("is_route" : Str)) = some r8)
    (a9 : nsIn K mainGlobals "_law_same" = some (some (.ref f9))) (l9 : K.lookup f9 = some ⟨oc9, od9, .func (fnOf "_law_same" "_law_same" (defArgs s__law_same) (defBody s__law_same) (defScope s__law_same) .none kV9 dc9 pm9 an9 cd9 ct9), sl9⟩) (c9 : codeIn K cd9 "_law_same" = true) (k9 : keepIn K (.ref f9) = true)
    (a10 : nsIn K mainGlobals "_law_draw" = some (some (.ref f10))) (l10 : K.lookup f10 = some ⟨oc10, od10, .func (fnOf "_law_draw" "_law_draw" (defArgs s__law_draw) (defBody s__law_draw) (defScope s__law_draw) .none kV10 dc10 pm10 an10 cd10 ct10), sl10⟩) (c10 : codeIn K cd10 "_law_draw" = true) (k10 : keepIn K (.ref f10) = true)
    (a11 : nsIn K mainGlobals "_law_pick" = some (some (.ref f11))) (l11 : K.lookup f11 = some ⟨oc11, od11, .func (fnOf "_law_pick" "_law_pick" (defArgs s__law_pick) (defBody s__law_pick) (defScope s__law_pick) .none kV11 dc11 pm11 an11 cd11 ct11), sl11⟩) (c11 : codeIn K cd11 "_law_pick" = true) (k11 : keepIn K (.ref f11) = true)
    (a12 : nsIn K mainGlobals "_law_net" = some (some (.ref f12))) (l12 : K.lookup f12 = some ⟨oc12, od12, .func (fnOf "_law_net" "_law_net" (defArgs s__law_net) (defBody s__law_net) (defScope s__law_net) .none kV12 dc12 pm12 an12 cd12 ct12), sl12⟩) (c12 : codeIn K cd12 "_law_net" = true) (k12 : keepIn K (.ref f12) = true)
    (a13 : nsIn K mainGlobals "_law_routes" = some (some (.ref f13))) (l13 : K.lookup f13 = some ⟨oc13, od13, .func (fnOf "_law_routes" "_law_routes" (defArgs s__law_routes) (defBody s__law_routes) (defScope s__law_routes) .none kV13 dc13 pm13 an13 cd13 ct13), sl13⟩) (c13 : codeIn K cd13 "_law_routes" = true) (k13 : keepIn K (.ref f13) = true)
    (a14 : nsIn K mainGlobals "_law_is_route" = some (some (.ref f14))) (l14 : K.lookup f14 = some ⟨oc14, od14, .func (fnOf "_law_is_route" "_law_is_route" (defArgs s__law_is_route) (defBody s__law_is_route) (defScope s__law_is_route) .none kV14 dc14 pm14 an14 cd14 ct14), sl14⟩) (c14 : codeIn K cd14 "_law_is_route" = true) (k14 : keepIn K (.ref f14) = true)
    (a15 : nsIn K mainGlobals "law" = some (some (.ref f15))) (l15 : K.lookup f15 = some ⟨oc15, od15, .func (fnOf "law" "law" (defArgs s_law) (defBody s_law) (defScope s_law) .none kV15 dc15 pm15 an15 cd15 ct15), sl15⟩) (c15 : codeIn K cd15 "law" = true) (k15 : keepIn K (.ref f15) = true)
    (z_len : nsIn K mainGlobals "len" = some none)
    (z_isi : nsIn K mainGlobals "isinstance" = some none)
    (z_tuple : nsIn K mainGlobals "tuple" = some none)
    (z_list : nsIn K mainGlobals "list" = some none)
    (z_int : nsIn K mainGlobals "int" = some none)
    (z_bool : nsIn K mainGlobals "bool" = some none)
    (z_str : nsIn K mainGlobals "str" = some none)
    (z_range : nsIn K mainGlobals "range" = some none)
    (z_sorted : nsIn K mainGlobals "sorted" = some none)
    (z_all : nsIn K mainGlobals "all" = some none)
    (z_zip : nsIn K mainGlobals "zip" = some none)
    (z_min : nsIn K mainGlobals "min" = some none)
    (z_max : nsIn K mainGlobals "max" = some none)
    (z_enumerate : nsIn K mainGlobals "enumerate" = some none)
    (nt : noTabs K = true) (nd : [P0, P1, P2].Nodup) :
    ∃ (fd : FuncData) (tabs : List (Addr × Addr)) (m : MF), (∀ (s : Shared) (u : Value), BindsTo s fd ⟨[u], []⟩ [("_law_script", u)]) ∧ TabsAt tabs h ∧ (tabs.map (·.2)).Nodup ∧ noTabs K = true ∧
        (∀ base : Heap, K.In base → base.Ns mainGlobals mg → (∀ q ∈ tabs, CodeHd base q.1 q.2) → (∃ bm ob, BMod base mainGlobals mg bm ob) → FnOk l.prog w K mg base CX0 8 fa fd ["_law_script"] (spOf K m)) ∧
        ∀ ns : List Int, ns.length ≤ 63 → ∃ h', m [scr (ns.map PyData.int)] (tabs.map fun q => .tab q.2) = some (.bool true, h') := by
  have e := hfa.symm.trans (mg_of X T.g a15)
  cases e
  have nb : Nb mg := ⟨mg_none_of X T.g z_len, mg_none_of X T.g z_isi, mg_none_of X T.g z_tuple, mg_none_of X T.g z_list, mg_none_of X T.g z_int, mg_none_of X T.g z_bool, mg_none_of X T.g z_str, mg_none_of X T.g z_range, mg_none_of X T.g z_sorted, mg_none_of X T.g z_all, mg_none_of X T.g z_zip⟩
  have nc : Nc mg := ⟨mg_none_of X T.g z_min, mg_none_of X T.g z_max, mg_none_of X T.g z_enumerate⟩
  have F0 := func_mk (st := s_is_whole) l0 c0 k0
  have b0 := F0.fn.binds (ps := p_is_whole) fun _ _ _ _ _ _ us hl => match us, hl with | [_], _ => rfl
  have F1 := func_mk (st := s_is_number) l1 c1 k1
  have b1 := F1.fn.binds (ps := p_is_number) fun _ _ _ _ _ _ us hl => match us, hl with | [_, _], _ => rfl
  have F2 := func_mk (st := s_is_rising) l2 c2 k2
  have b2 := F2.fn.binds (ps := p_is_rising) fun _ _ _ _ _ _ us hl => match us, hl with | [_], _ => rfl
  have F3 := func_mk (st := s_ordered_pair) l3 c3 k3
  have b3 := F3.fn.binds (ps := p_ordered_pair) fun _ _ _ _ _ _ us hl => match us, hl with | [_, _], _ => rfl
  have F4 := func_mk (st := s_is_tied) l4 c4 k4
  have b4 := F4.fn.binds (ps := p_is_tied) fun _ _ _ _ _ _ us hl => match us, hl with | [_, _, _], _ => rfl
  have F5 := func_mk (st := s_steps_of) l5 c5 k5
  have b5 := F5.fn.binds (ps := p_steps_of) fun _ _ _ _ _ _ us hl => match us, hl with | [_], _ => rfl
  have F6 := func_mk (st := s_are_unlike_knots) l6 c6 k6
  have b6 := F6.fn.binds (ps := p_are_unlike_knots) fun _ _ _ _ _ _ us hl => match us, hl with | [_, _], _ => rfl
  have F7 := func_mk (st := s_has_route_ends) l7 c7 k7
  have b7 := F7.fn.binds (ps := p_has_route_ends) fun _ _ _ _ _ _ us hl => match us, hl with | [_, _], _ => rfl
  have F8 := func_mk (st := s_is_route) l8 c8 k8
  have b8 := F8.fn.binds (ps := p_is_route) fun _ _ _ _ _ _ us hl => match us, hl with | [_, _], _ => rfl
  have F9 := func_mk (st := s__law_same) l9 c9 k9
  have b9 := F9.fn.binds (ps := p__law_same) fun _ _ _ _ _ _ us hl => match us, hl with | [_, _], _ => rfl
  have F10 := func_mk (st := s__law_draw) l10 c10 k10
  have b10 := F10.fn.binds (ps := p__law_draw) fun _ _ _ _ _ _ us hl => match us, hl with | [_, _, _], _ => rfl
  have F11 := func_mk (st := s__law_pick) l11 c11 k11
  have b11 := F11.fn.binds (ps := p__law_pick) fun _ _ _ _ _ _ us hl => match us, hl with | [_, _, _], _ => rfl
  have F12 := func_mk (st := s__law_net) l12 c12 k12
  have b12 := F12.fn.binds (ps := p__law_net) fun _ _ _ _ _ _ us hl => match us, hl with | [_, _, _, _], _ => rfl
  have F13 := func_mk (st := s__law_routes) l13 c13 k13
  have b13 := F13.fn.binds (ps := p__law_routes) fun _ _ _ _ _ _ us hl => match us, hl with | [_], _ => rfl
  have F14 := func_mk (st := s__law_is_route) l14 c14 k14
  have b14 := F14.fn.binds (ps := p__law_is_route) fun _ _ _ _ _ _ us hl => match us, hl with | [_, _], _ => rfl
  have F15 := func_mk (st := s_law) l15 c15 k15
  have b15 := F15.fn.binds (ps := p_law) fun _ _ _ _ _ _ us hl => match us, hl with | [_], _ => rfl
  refine ⟨fnOf "law" "law" (defArgs s_law) (defBody s_law) (defScope s_law) .none kV15 dc15 pm15 an15 cd15 ct15, [(e2, P0), (e6, P1), (e8, P2)], (m_law (fun j => ([P0, P1, P2] : List Addr).getD j 0)), fun s v => .of_eq rfl, ?_, nd, nt, fun base XB gB hC hB => ?_, fun ns hl => law_true (Pg := fun j => ([P0, P1, P2] : List Addr).getD j 0) hl⟩
  · intro p hp
    simp only [List.mem_cons, List.not_mem_nil, or_false] at hp
    rcases hp with rfl | rfl | rfl
    · exact tab_of T X w2 (tabIn_of a2 l2 rfl t2 v2)
    · exact tab_of T X w6 (tabIn_of a6 l6 rfl t6 v6)
    · exact tab_of T X w8 (tabIn_of a8 l8 rfl t8 v8)
  have hC2 : CodeHd base e2 ((fun j => ([P0, P1, P2] : List Addr).getD j 0) 0) := hC (e2, P0) (by simp)
  have hC6 : CodeHd base e6 ((fun j => ([P0, P1, P2] : List Addr).getD j 0) 1) := hC (e6, P1) (by simp)
  have hC8 : CodeHd base e8 ((fun j => ([P0, P1, P2] : List Addr).getD j 0) 2) := hC (e8, P2) (by simp)
  have F_is_whole : FnF l.prog w K mg base "is_whole" p_is_whole 1 (m_is_whole (fun j => ([P0, P1, P2] : List Addr).getD j 0)) := ⟨f0, _, ok_is_whole nb nc F0, mg_of X T.g a0, k0, b0⟩
  have F_is_number : FnF l.prog w K mg base "is_number" p_is_number 2 (m_is_number (fun j => ([P0, P1, P2] : List Addr).getD j 0)) := ⟨f1, _, ok_is_number nb nc F_is_whole F1, mg_of X T.g a1, k1, b1⟩
  have F_is_rising : FnF l.prog w K mg base "is_rising" p_is_rising 2 (m_is_rising (fun j => ([P0, P1, P2] : List Addr).getD j 0)) := ⟨f2, _, ok_is_rising nb nc hC2 hB F2, mg_of X T.g a2, k2, b2⟩
  have F_ordered_pair : FnF l.prog w K mg base "ordered_pair" p_ordered_pair 1 (m_ordered_pair (fun j => ([P0, P1, P2] : List Addr).getD j 0)) := ⟨f3, _, ok_ordered_pair nb nc F3, mg_of X T.g a3, k3, b3⟩
  have F_is_tied : FnF l.prog w K mg base "is_tied" p_is_tied 2 (m_is_tied (fun j => ([P0, P1, P2] : List Addr).getD j 0)) := ⟨f4, _, ok_is_tied nb nc F_ordered_pair F4, mg_of X T.g a4, k4, b4⟩
  have F_steps_of : FnF l.prog w K mg base "steps_of" p_steps_of 1 (m_steps_of (fun j => ([P0, P1, P2] : List Addr).getD j 0)) := ⟨f5, _, ok_steps_of nb nc F5, mg_of X T.g a5, k5, b5⟩
  have F_are_unlike_knots : FnF l.prog w K mg base "are_unlike_knots" p_are_unlike_knots 4 (m_are_unlike_knots (fun j => ([P0, P1, P2] : List Addr).getD j 0)) := ⟨f6, _, ok_are_unlike_knots nb nc hC6 hB F_is_number F_is_rising F6, mg_of X T.g a6, k6, b6⟩
  have F_has_route_ends : FnF l.prog w K mg base "has_route_ends" p_has_route_ends 1 (m_has_route_ends (fun j => ([P0, P1, P2] : List Addr).getD j 0)) := ⟨f7, _, ok_has_route_ends nb nc F7, mg_of X T.g a7, k7, b7⟩
  have F_is_route : FnF l.prog w K mg base "is_route" p_is_route 5 (m_is_route (fun j => ([P0, P1, P2] : List Addr).getD j 0)) := ⟨f8, _, ok_is_route nb nc hC8 hB F_are_unlike_knots F_has_route_ends F_steps_of F_is_tied F8, mg_of X T.g a8, k8, b8⟩
  have F__law_same : FnF l.prog w K mg base "_law_same" p__law_same 1 (m__law_same (fun j => ([P0, P1, P2] : List Addr).getD j 0)) := ⟨f9, _, ok__law_same nb nc F9, mg_of X T.g a9, k9, b9⟩
  have F__law_draw : FnF l.prog w K mg base "_law_draw" p__law_draw 1 m__law_draw := ⟨f10, _, ok__law_draw nb nc F10, mg_of X T.g a10, k10, b10⟩
  have F__law_pick : FnF l.prog w K mg base "_law_pick" p__law_pick 2 m__law_pick := ⟨f11, _, ok__law_pick nb nc F__law_draw F11, mg_of X T.g a11, k11, b11⟩
  have F__law_net : FnF l.prog w K mg base "_law_net" p__law_net 3 m__law_net := ⟨f12, _, ok__law_net nb nc F__law_draw F__law_pick F12, mg_of X T.g a12, k12, b12⟩
  have F__law_routes : FnF l.prog w K mg base "_law_routes" p__law_routes 1 (m__law_routes (fun j => ([P0, P1, P2] : List Addr).getD j 0)) := ⟨f13, _, ok__law_routes nb nc F13, mg_of X T.g a13, k13, b13⟩
  have F__law_is_route : FnF l.prog w K mg base "_law_is_route" p__law_is_route 1 (m__law_is_route (fun j => ([P0, P1, P2] : List Addr).getD j 0)) := ⟨f14, _, ok__law_is_route nb nc F14, mg_of X T.g a14, k14, b14⟩
  exact ok_law nb nc F__law_net F__law_routes F__law_draw F__law_pick F__law_same F__law_is_route F_is_route F15
end Q4
set_option Elab.async false
open PySem PySem.W PyProof.Rows
set_option maxRecDepth 100000 in
set_option maxHeartbeats 0 in
theorem PySem.Challenge.cw_probeties_k04_whole_things_as_routes_holds : PySem.Challenge.rw_probeties_k04_whole_things_as_routes.Holds := by
  w_on; o_law; k_head; (case hw => w_witness2)
  k_fill
  refine Q.walk_tabs (l := PySem.Challenge.rw_probeties_k04_whole_things_as_routes) (n := 63) (k := 8) (x := "_law_script") rfl (by decide) rfl ⟨rfl, by decide, by decide, rfl⟩ (fun w h Y => PySem.W.kIn_of Y) ?F
  case F =>
    intro w mg mb mean fa h KX T hmg
    refine' Q4.all_mk KX T hmg ?a0 ?l0 ?c0 ?k0 ?a1 ?l1 ?c1 ?k1 ?a2 ?l2 ?c2 ?k2 ?t2 ?v2 ?w2 ?a3 ?l3 ?c3 ?k3 ?a4 ?l4 ?c4 ?k4 ?a5 ?l5 ?c5 ?k5 ?a6 ?l6 ?c6 ?k6 ?t6 ?v6 ?w6 ?a7 ?l7 ?c7 ?k7 ?a8 ?l8 ?c8 ?k8 ?t8 ?v8 ?w8 ?a9 ?l9 ?c9 ?k9 ?a10 ?l10 ?c10 ?k10 ?a11 ?l11 ?c11 ?k11 ?a12 ?l12 ?c12 ?k12 ?a13 ?l13 ?c13 ?k13 ?a14 ?l14 ?c14 ?k14 ?a15 ?l15 ?c15 ?k15 ?z_len ?z_isi ?z_tuple ?z_list ?z_int ?z_bool ?z_str ?z_range ?z_sorted ?z_all ?z_zip ?z_min ?z_max ?z_enumerate ?nt ?nd
    (case a0 => k_is)
    (case l0 => k_is)
    (case c0 => k_is)
    (case k0 => k_is)
    (case a1 => k_is)
    (case l1 => k_is)
    (case c1 => k_is)
    (case k1 => k_is)
    (case a2 => k_is)
    (case l2 => k_is)
    (case c2 => k_is)
    (case k2 => k_is)
    (case t2 => k_is)
    (case v2 => rfl)
    (case w2 => rfl)
    (case a3 => k_is)
    (case l3 => k_is)
    (case c3 => k_is)
    (case k3 => k_is)
    (case a4 => k_is)
    (case l4 => k_is)
    (case c4 => k_is)
    (case k4 => k_is)
    (case a5 => k_is)
    (case l5 => k_is)
    (case c5 => k_is)
    (case k5 => k_is)
    (case a6 => k_is)
    (case l6 => k_is)
    (case c6 => k_is)
    (case k6 => k_is)
    (case t6 => k_is)
    (case v6 => rfl)
    (case w6 => rfl)
    (case a7 => k_is)
    (case l7 => k_is)
    (case c7 => k_is)
    (case k7 => k_is)
    (case a8 => k_is)
    (case l8 => k_is)
    (case c8 => k_is)
    (case k8 => k_is)
    (case t8 => k_is)
    (case v8 => rfl)
    (case w8 => rfl)
    (case a9 => k_is)
    (case l9 => k_is)
    (case c9 => k_is)
    (case k9 => k_is)
    (case a10 => k_is)
    (case l10 => k_is)
    (case c10 => k_is)
    (case k10 => k_is)
    (case a11 => k_is)
    (case l11 => k_is)
    (case c11 => k_is)
    (case k11 => k_is)
    (case a12 => k_is)
    (case l12 => k_is)
    (case c12 => k_is)
    (case k12 => k_is)
    (case a13 => k_is)
    (case l13 => k_is)
    (case c13 => k_is)
    (case k13 => k_is)
    (case a14 => k_is)
    (case l14 => k_is)
    (case c14 => k_is)
    (case k14 => k_is)
    (case a15 => k_is)
    (case l15 => k_is)
    (case c15 => k_is)
    (case k15 => k_is)
    (case z_len => k_is)
    (case z_isi => k_is)
    (case z_tuple => k_is)
    (case z_list => k_is)
    (case z_int => k_is)
    (case z_bool => k_is)
    (case z_str => k_is)
    (case z_range => k_is)
    (case z_sorted => k_is)
    (case z_all => k_is)
    (case z_zip => k_is)
    (case z_min => k_is)
    (case z_max => k_is)
    (case z_enumerate => k_is)
    (case nt => first | k_is | rfl | decide)
    (case nd => decide)
