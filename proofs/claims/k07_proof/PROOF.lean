import PyProof.Rows.All
import Wide.All
import OpenK.AllK
import Wide.FinOn
import Lean
import PyProof.EqAt
import PyProof.EqKinds
import PyProof.TupleCall
import KE.KSortTup
import PyProof.Rows.SortShellK
import PyProof.StrCalls2
import PyProof.StrLawsTight
import PyProof.StrLawsJoin
import PyProof.Draws
import PyProof.EnumMake
import PyProof.DictValues
import PyProof.DictWalks
import PyProof.Rows.Range3
import PySem.Challenge.RW_cornerfill_k07_whole_boards_without_gaps
set_option Elab.async false
set_option linter.all false
set_option maxRecDepth 100000
set_option maxHeartbeats 4000000
set_option genSizeOf false
set_option genSizeOfSpec false
namespace L2
open PySem PySem.Spec PyProof.Rows

abbrev Key := Sum Int Str
def keyIs : Key → Value → Bool
  | .inl k, v => Value.isInt k v
  | .inr x, v => Value.isStrOf x v
def keyH (w : World) : Key → Int
  | .inl k => hashInt k
  | .inr x => hashStr w x
theorem keyIs_shape : ∀ {k : Key} {v : Value}, keyIs k v = true → (∃ i t, k = Sum.inl i ∧ v = Value.int i t) ∨ (∃ x t, k = Sum.inr x ∧ v = Value.str x t)
  | .inl i, v, h => by
    obtain ⟨t, e⟩ := Value.isInt_shape (k := i) (v := v) h
    exact .inl ⟨i, t, rfl, e⟩
  | .inr x, v, h => by
    obtain ⟨t, e⟩ := Value.isStrOf_shape (x := x) (v := v) h
    exact .inr ⟨x, t, rfl, e⟩
theorem keyIs_int (i : Int) (t : Tok) : keyIs (.inl i) (.int i t) = true := by simp [keyIs, Value.isInt]
theorem keyIs_str (x : Str) (t : Tok) : keyIs (.inr x) (.str x t) = true := by simp [keyIs, Value.isStrOf]
theorem key_ll (a b : Int) : decide ((Sum.inl a : Key) = Sum.inl b) = (a == b) := by
  by_cases e : a = b
  · subst e; simp
  · have h : ¬ (Sum.inl a : Key) = Sum.inl b := fun q => e (Sum.inl.inj q)
    rw [decide_eq_false h]
    exact (beq_eq_false_iff_ne.mpr e).symm
theorem key_rr (a b : Str) : decide ((Sum.inr a : Key) = Sum.inr b) = decide (a = b) := by
  by_cases e : a = b
  · subst e; simp
  · have h : ¬ (Sum.inr a : Key) = Sum.inr b := fun q => e (Sum.inr.inj q)
    rw [decide_eq_false h, decide_eq_false e]
theorem key_lr (a : Int) (b : Str) : decide ((Sum.inl a : Key) = Sum.inr b) = false := decide_eq_false (fun q => nomatch q)
theorem key_rl (a : Str) (b : Int) : decide ((Sum.inr a : Key) = Sum.inl b) = false := decide_eq_false (fun q => nomatch q)

def mixKind (prog : Program) (w : World) : PySem.KeyKind prog w Key where
  is := keyIs
  hash := keyH w
  inj := fun v a b ha hb => by
    rcases keyIs_shape ha with ⟨i, t, rfl, rfl⟩ | ⟨x, t, rfl, rfl⟩
    · rcases keyIs_shape hb with ⟨j, u, rfl, e⟩ | ⟨y, u, rfl, e⟩
      · injection e with e1 _; rw [e1]
      · exact nomatch e
    · rcases keyIs_shape hb with ⟨j, u, rfl, e⟩ | ⟨y, u, rfl, e⟩
      · exact nomatch e
      · injection e with e1 _; rw [e1]
  byValue := fun k v h => by
    rcases keyIs_shape h with ⟨i, t, rfl, rfl⟩ | ⟨x, t, rfl, rfl⟩ <;> rfl
  pyHash := fun hv h => by
    rcases keyIs_shape hv with ⟨i, t, rfl, rfl⟩ | ⟨x, t, rfl, rfl⟩
    · exact wpAny_pyHash_int h
    · exact wpAny_pyHash_str h
  eqBool := fun hu hv h => by
    rcases keyIs_shape hu with ⟨i, t, rfl, rfl⟩ | ⟨x, t, rfl, rfl⟩
    · rcases keyIs_shape hv with ⟨j, u, rfl, rfl⟩ | ⟨y, u, rfl, rfl⟩
      · rw [key_ll] at h; exact wpAny_eqBool_int h
      · rw [key_lr] at h; exact SeqAt.EqAt.int_str i t y u _ _ _ _ h
    · rcases keyIs_shape hv with ⟨j, u, rfl, rfl⟩ | ⟨y, u, rfl, rfl⟩
      · rw [key_rl] at h; exact SeqAt.EqAt.str_int x t j u _ _ _ _ h
      · rw [key_rr] at h; exact wpAny_eqBool_str h
  «strs» := fun k x t v h => by
    rcases keyIs_shape h with ⟨i, u, rfl, e⟩ | ⟨y, u, rfl, e⟩
    · exact nomatch e
    · injection e with e1 _
      subst e1
      cases v <;> rfl

theorem mixKind_int (prog : Program) (w : World) (i : Int) (t : Tok) : (mixKind prog w).is (.inl i) (.int i t) = true := keyIs_int i t
theorem mixKind_str (prog : Program) (w : World) (x : Str) (t : Tok) : (mixKind prog w).is (.inr x) (.str x t) = true := keyIs_str x t
end L2

namespace L2
open PySem PySem.Spec PyProof.Rows

inductive V where
  | non | bl (b : Bool) | int (i : Int) | str (x : Str) | byt (b : Array UInt8) | flt (b : UInt64) | ref (a : Addr) | ty (n : String)
  deriving DecidableEq

def RelV : V → Value → Prop
  | .non, u => u = Value.none
  | .bl b, u => u = Value.bool b
  | .int i, u => ∃ t, u = Value.int i t
  | .str x, u => ∃ t, u = Value.str x t
  | .byt b, u => ∃ t, u = Value.bytes b t
  | .flt b, u => ∃ t, u = Value.float b t
  | .ref a, u => u = Value.ref a
  | .ty n, u => u = Value.type n

abbrev Vals : List V → List Value → Prop := Paired RelV
theorem Vals.length {xs : List V} {us : List Value} (r : Vals xs us) : xs.length = us.length := Paired.length r
theorem Vals.get : ∀ {xs : List V} {us : List Value} {i : Nat} {x : V}, Vals xs us → xs[i]? = some x → ∃ u, us[i]? = some u ∧ RelV x u
  | _, _, _, _, .nil, e => by simp at e
  | _, _, 0, _, .cons r _, e => by simp at e; subst e; exact ⟨_, rfl, r⟩
  | _, _, i + 1, x, .cons _ t, e => by
    obtain ⟨u, h1, h2⟩ := Vals.get (i := i) (x := x) t (by simpa using e)
    exact ⟨u, by simpa using h1, h2⟩
theorem Vals.append : ∀ {xs ys : List V} {us ws : List Value}, Vals xs us → Vals ys ws → Vals (xs ++ ys) (us ++ ws)
  | _, _, _, _, .nil, s => s
  | _, _, _, _, .cons r t, s => .cons r (Vals.append t s)
def RelO : Option V → Option Value → Prop
  | some v, some u => RelV v u
  | none, none => True
  | _, _ => False
def KV {κ : Type} : List (κ × V) → List (κ × Value) → Prop := Paired fun (p : κ × V) (q : κ × Value) => p.1 = q.1 ∧ RelV p.2 q.2

def kV : Key → V
  | .inl i => .int i
  | .inr x => .str x

inductive HO where
  /-- a list -/
  | lst (xs : List V)
  /-- a tuple (never changes) -/
  | tup (xs : List V)
  /-- a dict whose keys are ints and texts; one whose keys are tuples of ints and texts (the empty one is both) -/
  | dK (kvs : List (Key × V)) | dT (kvs : List (List Key × V))
  /-- a set of ints: its members, its size -/
  | set (S : Int → Bool) (n : Nat)
  /-- an instance of the class at C, its dict at dx, its attributes -/
  | ins (C dx : Addr) (fs : List (Str × V))
  /-- the dict of the instance at x -/
  | own (x : Addr)
  /-- the dict of an exception -/
  | xd (fs : List (Str × V))
  /-- a bound method, f of x -/
  | met (f x : Addr)
  /-- a range object lo, lo + 1, .. below hi -/
  | rng (lo hi : Int)
  /-- a thing that is known to the object (the script; a dict while a loop walks it): read, never written while it is so -/
  | frz (o : Obj) (u : HO)
  /-- a code object's table -/
  | tbl (ps : Array Value)
  /-- any other thing, by what is true of its one object (a def of one's own: SetO a S n := HO.ext fun h => ..) -/
  | ext (φ : Heap → Prop)

abbrev Hp := Addr → Option HO
def upd (H : Hp) (a : Addr) (o : HO) : Hp := fun b => if b = a then some o else H b
theorem upd_same {H : Hp} {a : Addr} {o : HO} : upd H a o a = some o := by unfold upd; rw [if_pos rfl]
theorem upd_ne {H : Hp} {a b : Addr} {o : HO} (h : b ≠ a) : upd H a o b = H b := by unfold upd; rw [if_neg h]
theorem upd_upd {H : Hp} {a : Addr} {o u : HO} : upd (upd H a o) a u = upd H a u := by
  funext b; unfold upd; split <;> rfl
theorem ne_of {H : Hp} {a b : Addr} {o u : HO} (h : H a = some o) (h' : H b = some u) (d : o ≠ u) : a ≠ b := by
  intro e; subst e; rw [h] at h'; exact d (Option.some.inj h')
theorem ne_of_none {H : Hp} {a b : Addr} {o : HO} (h : H a = some o) (h' : H b = none) : a ≠ b := by
  intro e; subst e; rw [h] at h'; cases h'

section
variable (P : Program) (w : World)
def ObjOk (H : Hp) (h : Heap) (a : Addr) : HO → Prop
  | .lst xs => xs.length ≤ sizeLine ∧ ∃ (its : List Value) (n : Nat), Vals xs its ∧ h.get? a = some { cls := .type "list", data := .seq its.toArray n }
  | .tup xs => xs.length ≤ sizeLine ∧ ∃ its : List Value, Vals xs its ∧ IsTup h a its.toArray
  | .dK kvs => kvs.length ≤ sizeLine ∧ (a == sysModules) = false ∧ ∃ vs, KV kvs vs ∧ h.DictOf (mixKind P w) a vs
  | .dT kvs => kvs.length ≤ sizeLine ∧ (a == sysModules) = false ∧ ∃ xs : List (List Key × Addr × Value),
      Paired (fun (p : List Key × V) (q : List Key × Addr × Value) => p.1 = q.1 ∧ H q.2.1 = some (.tup (p.1.map kV)) ∧ RelV p.2 q.2.2) kvs xs ∧
      ∃ o es ep, h.get? a = some o ∧ o.ExactDict ∧ o.data = .dict es ep ∧ es.toList = xs.map (entryOfKey (tupleKind (mixKind P w))) ∧ (xs.map (·.1)).Nodup
  | .set S n => h.SetOf (intKind P w) a S n
  | .ins C dx fs => H dx = some (.own a) ∧ fs.length ≤ 1000 ∧ dx ≠ a ∧ h.get? a = some (PySem.W.instObj C dx) ∧
      ∃ mA, h.Ns1 dx mA ∧ (∀ f, RelO (fs.lookup f) (mA f)) ∧ PySem.Within mA (fs.map (·.1))
  | .own _ => ∃ o, h.get? a = some o
  | .xd fs => ∃ mA, h.Ns1 a mA ∧ ∀ f, RelO (fs.lookup f) (mA f)
  | .rng lo hi => ∃ t u v, h.get? a = some { cls := .type "range", data := .fields #[.int lo t, .int hi u, .int 1 v] }
  | .frz o u => h.get? a = some o ∧ ObjOk H h a u
  | .tbl ps => h.get? a = some { cls := .none, data := .fields ps }
  | .met f x => h.get? a = some (PySem.W.methodObj (.ref f) (.ref x))
  | .ext φ => φ h ∧ (∃ o, h.get? a = some o) ∧ ∀ h1 h2 : Heap, φ h1 → (∀ o, h1.get? a = some o → h2.get? a = some o) → φ h2
def HOk (H : Hp) (h : Heap) : Prop := ∀ a o, H a = some o → ObjOk P w H h a o
end

section
variable {P : Program} {w : World} {H H' : Hp} {h h' : Heap} {a : Addr} {o : HO}
theorem ObjOk.lt (x : ObjOk P w H h a o) : a < h.objs.size := by
  cases o with
  | lst xs => obtain ⟨_, _, _, _, e⟩ := x; exact Heap.lt_size e
  | tup xs => obtain ⟨_, _, _, p⟩ := x; exact p.lt
  | dK kvs => obtain ⟨_, _, _, _, o, _, _, e, _⟩ := x; exact Heap.lt_size e
  | dT kvs => obtain ⟨_, _, _, _, o, _, _, e, _⟩ := x; exact Heap.lt_size e
  | set S n => obtain ⟨o, _, _, _, e, _⟩ := x; exact Heap.lt_size e
  | ins C dx fs => obtain ⟨_, _, _, e, _⟩ := x; exact Heap.lt_size e
  | own y => obtain ⟨_, e⟩ := x; exact Heap.lt_size e
  | xd fs => obtain ⟨_, ⟨_, _, _, e, _⟩, _⟩ := x; exact Heap.lt_size e
  | rng lo hi => obtain ⟨_, _, _, e⟩ := x; exact Heap.lt_size e
  | frz ob u => obtain ⟨e, _⟩ := x; exact Heap.lt_size e
  | tbl ps => exact Heap.lt_size (show h.get? a = some _ from x)
  | met f y => exact Heap.lt_size (show h.get? a = some _ from x)
  | ext φ => obtain ⟨_, ⟨_, e⟩, _⟩ := x; exact Heap.lt_size e
theorem Paired.mapP {α β : Type} {F G : α → β → Prop} : ∀ {l₁ : List α} {l₂ : List β}, Paired F l₁ l₂ → (∀ a b, F a b → G a b) → Paired G l₁ l₂
  | _, _, .nil, _ => .nil
  | _, _, .cons r t, f => .cons (f _ _ r) (Paired.mapP t f)
theorem ObjOk.stay (x : ObjOk P w H h a o) (k : ∀ b u, (b = a ∨ H b = some (.own a)) → h.get? b = some u → h'.get? b = some u)
    (ho : ∀ b, H b = some (.own a) → H' b = some (.own a)) (ht : ∀ b xs, H b = some (.tup xs) → H' b = some (.tup xs)) : ObjOk P w H' h' a o := by
  induction o with
  | lst xs => obtain ⟨z, its, n, r, e⟩ := x; exact ⟨z, its, n, r, k _ _ (.inl rfl) e⟩
  | tup xs => obtain ⟨z, its, r, ob, e, c⟩ := x; exact ⟨z, its, r, ob, k _ _ (.inl rfl) e, c⟩
  | dK kvs => obtain ⟨z, y, vs, r, ob, es, ep, e, c⟩ := x; exact ⟨z, y, vs, r, ob, es, ep, k _ _ (.inl rfl) e, c⟩
  | dT kvs =>
    obtain ⟨z, y, xs, r, ob, es, ep, e, c⟩ := x
    exact ⟨z, y, xs, Paired.mapP r fun p q z => ⟨z.1, ht _ _ z.2.1, z.2.2⟩, ob, es, ep, k _ _ (.inl rfl) e, c⟩
  | set S n => obtain ⟨ob, es, ep, t, e, c⟩ := x; exact ⟨ob, es, ep, t, k _ _ (.inl rfl) e, c⟩
  | ins C dx fs =>
    obtain ⟨d, z, ne, e, mA, ⟨od, es, ep, e2, c⟩, r⟩ := x
    exact ⟨ho _ d, z, ne, k _ _ (.inl rfl) e, mA, ⟨od, es, ep, k _ _ (.inr d) e2, c⟩, r⟩
  | own y => obtain ⟨ob, e⟩ := x; exact ⟨ob, k _ _ (.inl rfl) e⟩
  | xd fs => obtain ⟨mA, ⟨od, es, ep, e, c⟩, r⟩ := x; exact ⟨mA, ⟨od, es, ep, k _ _ (.inl rfl) e, c⟩, r⟩
  | rng lo hi => obtain ⟨t, u, v, e⟩ := x; exact ⟨t, u, v, k _ _ (.inl rfl) e⟩
  | frz ob u ih => obtain ⟨e, q⟩ := x; exact ⟨k _ _ (.inl rfl) e, ih q⟩
  | tbl ps =>
    have e : h.get? a = some { cls := .none, data := .fields ps } := x
    show h'.get? a = some { cls := .none, data := .fields ps }
    exact k a _ (.inl rfl) e
  | met f y =>
    have e : h.get? a = some (PySem.W.methodObj (.ref f) (.ref y)) := x
    show h'.get? a = some (PySem.W.methodObj (.ref f) (.ref y))
    exact k a _ (.inl rfl) e
  | ext φ => obtain ⟨p, ⟨o, e⟩, st⟩ := x; exact ⟨st _ _ p fun o q => k _ _ (.inl rfl) q, ⟨o, k _ _ (.inl rfl) e⟩, st⟩
theorem HOk.lt (x : HOk P w H h) (e : H a = some o) : a < h.objs.size := (x a o e).lt
theorem HOk.fresh (x : HOk P w H h) (e : h.objs.size ≤ a) : H a = none := by
  cases q : H a with
  | none => rfl
  | some u => exact absurd (Nat.lt_of_lt_of_le (x.lt q) e) (Nat.lt_irrefl _)
theorem HOk.kept (x : HOk P w H h) (k : ∀ b u, h.get? b = some u → h'.get? b = some u) : HOk P w H h' := fun a o e =>
  (x a o e).stay (fun b u _ q => k b u q) (fun _ q => q) fun _ _ q => q
theorem HOk.laid (x : HOk P w H h) (k : ∀ b u, h.get? b = some u → h'.get? b = some u) (hp : h.objs.size ≤ a) (new : ObjOk P w (upd H a o) h' a o) : HOk P w (upd H a o) h' := fun b u e => by
  have hn := x.fresh hp
  by_cases hb : b = a
  · subst hb; rw [upd_same] at e; cases e; exact new
  · rw [upd_ne hb] at e
    exact (x b u e).stay (fun c v _ q => k c v q) (fun c q => by rw [upd_ne (ne_of_none q hn)]; exact q) fun c xs q => by rw [upd_ne (ne_of_none q hn)]; exact q
end

def Rd (H : Hp) (a : Addr) (u : HO) : Prop := H a = some u ∨ ∃ o, H a = some (.frz o u)
theorem Rd.ok {P : Program} {w : World} {H : Hp} {h : Heap} {a : Addr} {u : HO} (r : Rd H a u) (x : HOk P w H h) : ObjOk P w H h a u := by
  rcases r with r | ⟨o, r⟩
  · exact x a u r
  · obtain ⟨_, q⟩ := x a _ r
    exact q
def Mut : Option HO → Prop
  | some (.lst _) => True
  | some (.dK _) => True
  | some (.dT _) => True
  | some (.set _ _) => True
  | some (.ins _ _ _) => True
  | some (.ext _) => True
  | _ => False
section
variable {P : Program} {w : World} {H : Hp} {h h' : Heap} {x e : Addr} {o' : HO}
theorem HOk.write (ok : HOk P w H h) (mu : Mut (H x)) (he : e = x ∨ H e = some (.own x)) (k : ∀ b u, b ≠ e → h.get? b = some u → h'.get? b = some u) (heo : ∃ u, h'.get? e = some u)
    (new : ObjOk P w (upd H x o') h' x o') : HOk P w (upd H x o') h' := fun b u q => by
  have nown : ∀ c y, H c = some (.own y) → c ≠ x := fun c y r z => by subst z; rw [r] at mu; exact mu
  have ntup : ∀ c xs, H c = some (.tup xs) → c ≠ x := fun c xs r z => by subst z; rw [r] at mu; exact mu
  by_cases hb : b = x
  · subst hb; rw [upd_same] at q; cases q; exact new
  · rw [upd_ne hb] at q
    by_cases hbe : b = e
    · have q' : H b = some (.own x) := by
        rcases he with z | z
        · exact absurd (hbe.trans z) hb
        · rw [hbe]; exact z
      rw [q] at q'; cases q'
      obtain ⟨v, hv⟩ := heo
      exact ⟨v, by rw [hbe]; exact hv⟩
    · refine (ok b u q).stay (fun c v hc r => k c v ?_ r) (fun c r => by rw [upd_ne (nown c b r)]; exact r) fun c xs r => by rw [upd_ne (ntup c xs r)]; exact r
      rcases hc with rfl | hc
      · exact hbe
      · rintro rfl
        rcases he with z | z
        · exact nown c b hc z
        · rw [hc] at z; cases z; exact hb rfl
end

structure Un (fs ex : List Addr) (H H' : Hp) (h h' : Heap) : Prop where
  keep : ∀ b o, h.get? b = some o → H b = none → b ∉ fs → b ∉ ex → h'.get? b = some o
  slot : ∀ b o, h.get? b = some o → H b = none → b ∈ fs → b ∉ ex → ∃ sl, h'.get? b = some { o with slots := sl }
  free : ∀ b o, h.get? b = some o → H b = none → b ∉ ex → H' b = none
  there : ∀ b o, h.get? b = some o → b ∉ ex → ∃ o', h'.get? b = some o'
  tups : ∀ b xs, H b = some (.tup xs) → H' b = some (.tup xs)
  frzs : ∀ b o u, H b = some (.frz o u) → H' b = some (.frz o u)
  tbls : ∀ b ps, H b = some (.tbl ps) → ∃ more, H' b = some (.tbl (ps ++ more))
section
variable {fs fs' ex ex' : List Addr} {H H1 H2 : Hp} {h h1 h2 h' : Heap} {a x e : Addr} {o : HO}
theorem Un.any (u : Un fs ex H H1 h h1) {b : Addr} {ob : Obj} (q : h.get? b = some ob) (n : H b = none) (hx : b ∉ ex) : ∃ sl, h1.get? b = some { ob with slots := sl } := by
  by_cases hb : b ∈ fs
  · exact u.slot b ob q n hb hx
  · exact ⟨ob.slots, u.keep b ob q n hb hx⟩
theorem Un.kept (k : ∀ b u, h.get? b = some u → h'.get? b = some u) : Un fs ex H H h h' :=
  ⟨fun b ob q _ _ _ => k b ob q, fun b ob q _ _ _ => ⟨ob.slots, k b ob q⟩, fun _ _ _ n _ => n, fun b ob q _ => ⟨ob, k b ob q⟩, fun _ _ q => q, fun _ _ _ q => q, fun _ ps q => ⟨#[], by rw [q]; simp⟩⟩
theorem Un.refl : Un fs ex H H h h := Un.kept fun _ _ q => q
theorem Un.laid (k : ∀ b u, h.get? b = some u → h'.get? b = some u) (hp : h.objs.size ≤ a) (hn : H a = none) : Un fs ex H (upd H a o) h h' where
  keep := fun b u q _ _ _ => k b u q
  slot := fun b u q _ _ _ => ⟨u.slots, k b u q⟩
  free := fun b u q n _ => by rw [upd_ne (Nat.ne_of_lt (Nat.lt_of_lt_of_le (Heap.lt_size q) hp))]; exact n
  there := fun b u q _ => ⟨u, k b u q⟩
  tups := fun b xs q => by rw [upd_ne (ne_of_none q hn)]; exact q
  frzs := fun b u xs q => by rw [upd_ne (ne_of_none q hn)]; exact q
  tbls := fun b ps q => ⟨#[], by rw [upd_ne (ne_of_none q hn), q]; simp⟩
theorem Un.write (mu : Mut (H x)) (he : e = x ∨ H e = some (.own x)) (k : ∀ b u, b ≠ e → h.get? b = some u → h'.get? b = some u) (heo : ∃ u, h'.get? e = some u) : Un fs ex H (upd H x o) h h' := by
  have hx : ∀ b, H b = none → b ≠ x := fun b n z => by subst z; rw [n] at mu; exact mu
  have hb : ∀ b, H b = none → b ≠ e := fun b n z => by
    subst z
    rcases he with r | r
    · exact hx b n r
    · rw [n] at r; cases r
  have hm : ∀ b u, H b = some u → ¬ Mut (some u) → b ≠ x := fun b u q nm z => by subst z; rw [q] at mu; exact nm mu
  refine ⟨fun b u q n _ _ => k b u (hb b n) q, fun b u q n _ _ => ⟨u.slots, k b u (hb b n) q⟩, fun b u q n _ => by rw [upd_ne (hx b n)]; exact n, fun b u q _ => ?_,
    fun b xs q => by rw [upd_ne (hm b _ q fun z => z)]; exact q, fun b u xs q => by rw [upd_ne (hm b _ q fun z => z)]; exact q, fun b ps q => ⟨#[], by rw [upd_ne (hm b _ q fun z => z), q]; simp⟩⟩
  by_cases hbe : b = e
  · subst hbe; exact heo
  · exact ⟨u, k b u hbe q⟩
end

def trk (h : Heap) (H : Hp) : List Addr := (List.range h.objs.size).filter fun a => (H a).isSome
def hidT (h : Heap) (H : Hp) : Heap := PySem.W.hideAll h (trk h H)
theorem hidT_size (h : Heap) (H : Hp) : (hidT h H).objs.size = h.objs.size := PySem.W.hideAll_size _ _
theorem hidT_get {h : Heap} {H : Hp} {b : Addr} {o : Obj} (e : h.get? b = some o) (n : H b = none) : (hidT h H).get? b = some o :=
  PySem.W.hideAll_get _ e fun hm => by
    have q : (H b).isSome = true := (List.mem_filter.mp hm).2
    rw [n] at q; simp at q
theorem of_hidT {h : Heap} {H : Hp} {b : Addr} {o : Obj} (e : (hidT h H).get? b = some o) : h.get? b = some o ∧ H b = none := by
  have e' : h.get? b = some o := PySem.W.of_hideAll (trk h H) e
  refine ⟨e', ?_⟩
  cases q : H b with
  | none => rfl
  | some x =>
    have hm : b ∈ trk h H := List.mem_filter.mpr ⟨List.mem_range.mpr (Heap.lt_size e'), by simp [q]⟩
    have z : (hidT h H).get? b = none := PySem.W.hideAll_none (trk h H) hm
    rw [z] at e; cases e

end L2

namespace L2
open PySem PySem.Spec PyProof.Rows

structure Mod (K : PySem.W.Frag) (mg : Str → Option Value) (base : Heap) : Prop where
  kin : K.In base
  glob : base.Ns mainGlobals mg
  blt : ∃ mb, base.Ns builtinsNs mb ∧ ∀ x : Str, x ≠ "__name__" → mb x = bootBuiltins x
  nolimit : base.NoLimit

structure Cx where
  prog : Program
  w : World
  K : PySem.W.Frag
  mg : Str → Option Value
  base : Heap
  A : Around
  N : List Str
  s₀ : Shared
  H₀ : Hp
  env : Env
  outer : List Env
  stack : List Env
  ex : List Addr
  fn : Str → Bool
  calm : Bool
  pn : List (Addr × Obj)
  xe : Value → Shared → Prop
def frs (l : List Env) : List Addr := l.filterMap (·.frame)
abbrev Cx.fs (X : Cx) : List Addr := frs X.outer

def Vis (sc : Scope) (x : Str) : Prop := sc.names.lookup x = some .local ∨ sc.names.lookup x = some .cell ∨ sc.names.lookup x = some .free
def Loc (sc : Scope) (x : Str) : Prop := sc.names.lookup x = some .local ∨ sc.names.lookup x = some .cell
def Look (env : Env) (h : Heap) (m : Str → Option Value) (x : Str) (u : Value) : Prop :=
  (env.kindOf x = some .local ∧ m x = some u) ∨ ((env.kindOf x = some .cell ∨ env.kindOf x = some .free) ∧ ∃ c, env.cells.lookup x = some c ∧ h.IsCell c (some u))

structure Cx.Ok (X : Cx) : Prop where
  mod : Mod X.K X.mg X.base
  kind : X.env.scope.kind = .function
  glob : X.env.globals = mainGlobals
  blt : X.env.builtins = builtinsNs
  above : X.s₀.heap.objs.size ≤ X.env.locals
  inj : ∀ x y c, X.env.cells.lookup x = some c → X.env.cells.lookup y = some c → x = y
  has : ∀ x, (X.env.kindOf x = some .cell ∨ X.env.kindOf x = some .free) → ∃ c, X.env.cells.lookup x = some c
  cab : ∀ x c, X.fn x = true → X.env.cells.lookup x = some c → X.s₀.heap.objs.size ≤ c
  hd : X.calm = true → X.A.handled = none
  frames : X.A.frames = some X.stack
  stk : X.stack = X.outer ∨ (X.stack = X.env :: X.outer ∧ X.env.frame = some X.env.locals)
  exf : ∀ b ∈ X.ex, b ≠ X.env.locals ∧ ∀ x c, X.env.cells.lookup x = some c → c ≠ b
  bs : ∀ b o, X.base.get? b = some o → X.s₀.heap.get? b = some o ∧ X.H₀ b = none
  bsz : X.base.objs.size ≤ X.s₀.heap.objs.size
  noex : ∀ b o, X.base.get? b = some o → b ∉ X.ex
  exfs : ∀ b ∈ X.ex, b ∉ X.fs
  funs : X.s₀.heap.FunFrames X.base X.outer
  frf : ∀ b ∈ X.fs, X.H₀ b = none

structure Inv (X : Cx) (pins : List (Addr × Obj)) (σ : List (Option V)) (H : Hp) (s : Shared) : Prop where
  ok : X.Ok
  os : s.os = X.s₀.os
  bare : AllBare s.gens
  base : Un X.fs X.ex X.H₀ H X.s₀.heap s.heap
  loc : ∃ m, s.heap.Ns X.env.locals m ∧ ∀ (i : Nat) (x : Str) (v : V), X.N[i]? = some x → σ[i]? = some (some v) → Vis X.env.scope x → ∃ u, RelV v u ∧ Look X.env s.heap m x u
  cell : ∀ x c, X.env.cells.lookup x = some c → ∃ v, s.heap.IsCell c v
  free : H X.env.locals = none
  freeC : ∀ x c, X.env.cells.lookup x = some c → H c = none
  pin : ∀ p ∈ X.pn ++ pins, s.heap.get? p.1 = some p.2 ∧ H p.1 = none ∧ p.1 ≠ X.env.locals ∧ p.1 ∉ X.fs ∧ ∀ v, p.2.data ≠ .cell v
  hok : HOk X.prog X.w H s.heap
  len : σ.length = X.N.length

section
variable {X : Cx} {pins : List (Addr × Obj)} {σ : List (Option V)} {H H' : Hp} {s : Shared} {h' : Heap}

theorem Cx.Ok.nofr (ok : X.Ok) {b : Addr} {o : Obj} (e : X.base.get? b = some o) : b ∉ X.fs := fun hb => by
  have := (ok.funs.mem hb).1
  rw [e] at this; cases this
theorem Inv.bs (I : Inv X pins σ H s) : ∀ b o, X.base.get? b = some o → s.heap.get? b = some o ∧ H b = none := fun b o e =>
  ⟨I.base.keep b o (I.ok.bs b o e).1 (I.ok.bs b o e).2 (I.ok.nofr e) (I.ok.noex b o e), I.base.free b o (I.ok.bs b o e).1 (I.ok.bs b o e).2 (I.ok.noex b o e)⟩
theorem Inv.bk (I : Inv X pins σ H s) : ∀ b o, X.base.get? b = some o → s.heap.get? b = some o := fun b o e => (I.bs b o e).1
theorem Inv.mod (I : Inv X pins σ H s) : Mod X.K X.mg X.base := I.ok.mod
theorem Inv.kIn (I : Inv X pins σ H s) : X.K.In s.heap := I.ok.mod.kin.keeps I.bk
theorem Inv.lt (I : Inv X pins σ H s) : X.env.locals < s.heap.objs.size := let ⟨_, hn, _⟩ := I.loc; hn.lt
theorem Inv.sz (I : Inv X pins σ H s) : X.s₀.heap.objs.size ≤ s.heap.objs.size := Nat.le_trans I.ok.above (Nat.le_of_lt I.lt)
theorem Inv.nofs (I : Inv X pins σ H s) {a : Addr} (h : s.heap.objs.size ≤ a) : a ∉ X.fs := fun hb => by
  obtain ⟨_, o, ho, _⟩ := I.ok.funs.mem hb
  exact absurd (Nat.lt_of_lt_of_le (Heap.lt_size ho) (Nat.le_trans I.sz h)) (Nat.lt_irrefl _)
theorem Inv.cne (I : Inv X pins σ H s) : ∀ x c, X.env.cells.lookup x = some c → c ≠ X.env.locals := fun x c e z => by
  obtain ⟨v, o, ho, hd⟩ := I.cell x c e
  obtain ⟨m, ⟨o', es, ep, ho', hd', _⟩, _⟩ := I.loc
  rw [z, ho'] at ho; cases ho; rw [hd'] at hd; cases hd
theorem Inv.funs (I : Inv X pins σ H s) : s.heap.FunFrames X.base X.outer := by
  have all : ∀ (l : List Env), (∀ b ∈ frs l, b ∈ X.fs) → X.s₀.heap.FunFrames X.base l → s.heap.FunFrames X.base l := by
    intro l
    induction l with
    | nil => intro _ _; trivial
    | cons env r ih =>
      intro hs hl
      obtain ⟨hk, ⟨L, o, hf, hn, ho, hd⟩, hr⟩ := hl
      have hL : L ∈ X.fs := hs L (by unfold frs; rw [List.filterMap_cons, hf]; exact List.mem_cons_self)
      obtain ⟨sl, e⟩ := I.base.slot L o ho (I.ok.frf L hL) hL fun z => I.ok.exfs L z hL
      exact ⟨hk, ⟨L, _, hf, hn, e, hd⟩, ih (fun b hb => hs b (by unfold frs; rw [List.filterMap_cons, hf]; exact List.mem_cons_of_mem _ hb)) hr⟩
  exact all X.outer (fun _ hb => hb) I.ok.funs

theorem Inv.stack (I : Inv X pins σ H s) : s.heap.FunFrames X.base X.stack := by
  rcases I.ok.stk with e | ⟨e, hf⟩
  · rw [e]; exact I.funs
  · rw [e]
    obtain ⟨m, hn, _⟩ := I.loc
    refine .cons (by rw [I.ok.kind]; decide) hf hn ?_ I.funs
    exact Heap.get?_none_of_le (Nat.le_trans I.ok.bsz I.ok.above)
theorem Inv.stkSub (I : Inv X pins σ H s) : ∀ b ∈ frs X.stack, b ∈ X.env.locals :: X.fs := fun b hb => by
  rcases I.ok.stk with e | ⟨e, hf⟩
  · rw [e] at hb; exact List.mem_cons_of_mem _ hb
  · rw [e] at hb
    unfold frs at hb
    rw [List.filterMap_cons, hf] at hb
    exact hb
theorem Inv.stkFree (I : Inv X pins σ H s) : ∀ b ∈ frs X.stack, H b = none := fun b hb => by
  rcases List.mem_cons.mp (I.stkSub b hb) with e | hb
  · rw [e]; exact I.free
  · obtain ⟨_, o, ho, _⟩ := I.ok.funs.mem hb
    exact I.base.free b o ho (I.ok.frf b hb) fun z => I.ok.exfs b z hb

theorem Inv.step {g' : Array GenState} {t' : Nat} {d' : Drawn} {ch : List Addr} (I : Inv X pins σ H s)
    (hch : ∀ b ∈ ch, (b ∈ X.ex ∨ X.s₀.heap.objs.size ≤ b) ∧ b ≠ X.env.locals ∧ (∀ x c, X.env.cells.lookup x = some c → c ≠ b) ∧ ∀ p ∈ X.pn ++ pins, p.1 ≠ b)
    (keep : ∀ b o, b ≠ X.env.locals → b ∉ X.fs → b ∉ ch → s.heap.get? b = some o → H b = none → h'.get? b = some o)
    (slot : ∀ b o, b ≠ X.env.locals → b ∈ X.fs → b ∉ ch → s.heap.get? b = some o → H b = none → ∃ sl, h'.get? b = some { o with slots := sl }) (free : ∀ b o, b ∉ ch → s.heap.get? b = some o → H b = none → H' b = none)
    (there : ∀ b o, b ∉ ch → s.heap.get? b = some o → ∃ o', h'.get? b = some o')
    (tups : ∀ b xs, H b = some (.tup xs) → H' b = some (.tup xs)) (frzs : ∀ b o u, H b = some (.frz o u) → H' b = some (.frz o u)) (tbls : ∀ b ps, H b = some (.tbl ps) → ∃ more, H' b = some (.tbl (ps ++ more)))
    (ns : ∀ m, s.heap.Ns X.env.locals m → h'.Ns X.env.locals m) (hok : HOk X.prog X.w H' h') (hg : AllBare g') :
    Inv X pins σ H' { s with heap := h', gens := g', drawn := d', toks := t' } := by
  have neL : ∀ b o, X.s₀.heap.get? b = some o → b ≠ X.env.locals := fun b o e => Nat.ne_of_lt (Nat.lt_of_lt_of_le (Heap.lt_size e) I.ok.above)
  have neC : ∀ b o, X.s₀.heap.get? b = some o → b ∉ X.ex → b ∉ ch := fun b o e hx hb => by
    rcases (hch b hb).1 with z | z
    · exact hx z
    · exact absurd (Nat.lt_of_lt_of_le (Heap.lt_size e) z) (Nat.lt_irrefl _)
  have cellK : ∀ x c, X.env.cells.lookup x = some c → ∀ v, s.heap.IsCell c v → h'.IsCell c v := fun x c e v ⟨o, ho, hd⟩ => by
    have nch : c ∉ ch := fun z => (hch c z).2.2.1 x c e rfl
    by_cases hc : c ∈ X.fs
    · obtain ⟨sl, q⟩ := slot c o (I.cne x c e) hc nch ho (I.freeC x c e)
      exact ⟨_, q, hd⟩
    · exact ⟨o, keep c o (I.cne x c e) hc nch ho (I.freeC x c e), hd⟩
  refine ⟨I.ok, I.os, hg, ⟨fun b o e n hb hx => ?_, fun b o e n hb hx => ?_, fun b o e n hx => ?_, fun b o e hx => ?_, fun b xs e => tups b xs (I.base.tups b xs e), fun b o xs e => frzs b o xs (I.base.frzs b o xs e), fun b ps e => ?_⟩, ?_, fun x c e => ?_, ?_, fun x c e => ?_, fun p hp => ?_, hok, I.len⟩
  · exact keep b o (neL b o e) hb (neC b o e hx) (I.base.keep b o e n hb hx) (I.base.free b o e n hx)
  · obtain ⟨sl, e1⟩ := I.base.slot b o e n hb hx
    obtain ⟨sl', e2⟩ := slot b _ (neL b o e) hb (neC b o e hx) e1 (I.base.free b o e n hx)
    exact ⟨sl', e2⟩
  · obtain ⟨o', e1⟩ := I.base.there b o e hx
    exact free b o' (neC b o e hx) e1 (I.base.free b o e n hx)
  · obtain ⟨o', e1⟩ := I.base.there b o e hx
    exact there b o' (neC b o e hx) e1
  · obtain ⟨m1, e1⟩ := I.base.tbls b ps e
    obtain ⟨m2, e2⟩ := tbls b _ e1
    exact ⟨m1 ++ m2, by rw [e2, Array.append_assoc]⟩
  · obtain ⟨m, hn, hl⟩ := I.loc
    refine ⟨m, ns m hn, fun i x v e1 e2 e3 => ?_⟩
    obtain ⟨u, r, l⟩ := hl i x v e1 e2 e3
    refine ⟨u, r, ?_⟩
    rcases l with l | ⟨k, c, e, z⟩
    · exact .inl l
    · exact .inr ⟨k, c, e, cellK x c e _ z⟩
  · obtain ⟨v, z⟩ := I.cell x c e
    exact ⟨v, cellK x c e v z⟩
  · obtain ⟨m, ⟨o, _, _, ho, _⟩, _⟩ := I.loc
    exact free _ o (fun z => (hch _ z).2.1 rfl) ho I.free
  · obtain ⟨v, o, ho, hd⟩ := I.cell x c e
    exact free c o (fun z => (hch c z).2.2.1 x c e rfl) ho (I.freeC x c e)
  · obtain ⟨e, n, ne, nf, d⟩ := I.pin p hp
    have nch : p.1 ∉ ch := fun z => (hch p.1 z).2.2.2 p hp rfl
    exact ⟨keep p.1 p.2 ne nf nch e n, free p.1 p.2 nch e n, ne, nf, d⟩
theorem Inv.un {t' : Nat} (I : Inv X pins σ H s) (u : Un X.fs [] H H' s.heap h') (hok : HOk X.prog X.w H' h') : Inv X pins σ H' { s with heap := h', toks := t' } := by
  obtain ⟨m, ⟨o, es, ep, ho, r⟩, _⟩ := id I.loc
  obtain ⟨sl, hL⟩ := u.any ho I.free (by simp)
  exact I.step (g' := s.gens) (d' := s.drawn) (ch := []) (fun _ z => nomatch z) (fun b o _ hb _ e n => u.keep b o e n hb (by simp)) (fun b o _ hb _ e n => u.slot b o e n hb (by simp)) (fun b o _ e n => u.free b o e n (by simp)) (fun b o _ e => u.there b o e (by simp)) u.tups u.frzs u.tbls (fun m' hm => by
    obtain ⟨o', es', ep', ho', r'⟩ := hm
    rw [ho] at ho'; cases ho'
    exact ⟨_, es', ep', hL, r'⟩) hok I.bare
theorem Inv.call {g' : Array GenState} {t' : Nat} {d' : Drawn} {ch : List Addr} (I : Inv X pins σ H s) (u : Un (frs X.stack) ch H H' s.heap h') (hok : HOk X.prog X.w H' h') (hg : AllBare g')
    (hch : ∀ b ∈ ch, (b ∈ X.ex ∨ X.s₀.heap.objs.size ≤ b) ∧ b ≠ X.env.locals ∧ (∀ x c, X.env.cells.lookup x = some c → c ≠ b) ∧ ∀ p ∈ X.pn ++ pins, p.1 ≠ b) :
    Inv X pins σ H' { s with heap := h', gens := g', drawn := d', toks := t' } := by
  obtain ⟨m, ⟨o, es, ep, ho, r⟩, _⟩ := id I.loc
  obtain ⟨sl, hL⟩ := u.any ho I.free fun z => (hch _ z).2.1 rfl
  exact I.step (ch := ch) hch (fun b o hL hb hc e n => u.keep b o e n (fun z => (List.mem_cons.mp (I.stkSub b z)).elim hL hb) hc) (fun b o _ _ hc e n => u.any e n hc) (fun b o hc e n => u.free b o e n hc) (fun b o hc e => u.there b o e hc) u.tups u.frzs u.tbls (fun m' hm => by
    obtain ⟨o', es', ep', ho', r'⟩ := hm
    rw [ho] at ho'; cases ho'
    exact ⟨_, es', ep', hL, r'⟩) hok hg
theorem Inv.turned {t' : Nat} {it : Addr} (I : Inv X pins σ H s) (k : ∀ b o, b ≠ it → s.heap.get? b = some o → h'.get? b = some o) (hn : H it = none) (hL : it ≠ X.env.locals)
    (h1 : it ∈ X.ex ∨ X.s₀.heap.objs.size ≤ it) (h2 : ∀ x c, X.env.cells.lookup x = some c → c ≠ it) (h3 : ∀ p ∈ X.pn ++ pins, p.1 ≠ it) : Inv X pins σ H { s with heap := h', toks := t' } := by
  have nit : ∀ b u, H b = some u → b ≠ it := fun b u e z => by rw [z, hn] at e; cases e
  refine I.step (g' := s.gens) (d' := s.drawn) (ch := [it]) (fun b hb => ?_) (fun b o _ _ hc e _ => k b o (fun z => hc (by simp [z])) e) (fun b o _ _ hc e _ => ⟨o.slots, k b o (fun z => hc (by simp [z])) e⟩) (fun _ _ _ _ n => n)
    (fun b o hc e => ⟨o, k b o (fun z => hc (by simp [z])) e⟩) (fun _ _ e => e) (fun _ _ _ e => e) (fun b ps e => ⟨#[], by rw [e]; simp⟩) (fun m hm => ?_) (fun b u e => ?_) I.bare
  · have e : b = it := by simpa using hb
    subst e
    exact ⟨h1, hL, h2, h3⟩
  · obtain ⟨o, es, ep, ho, r⟩ := hm
    exact ⟨o, es, ep, k _ o (Ne.symm hL) ho, r⟩
  · refine (I.hok b u e).stay (fun c v hc q => k c v ?_ q) (fun _ q => q) fun _ _ q => q
    rcases hc with z | z
    · rw [z]; exact nit b u e
    · exact nit c _ z
theorem Inv.tok (I : Inv X pins σ H s) (t : Nat) : Inv X pins σ H { s with toks := t } := I.un (h' := s.heap) (t' := t) Un.refl I.hok
theorem Inv.kept {t' : Nat} (I : Inv X pins σ H s) (k : ∀ b u, s.heap.get? b = some u → h'.get? b = some u) : Inv X pins σ H { s with heap := h', toks := t' } := I.un (Un.kept k) (I.hok.kept k)
theorem Inv.laid {a : Addr} {o : HO} {t' : Nat} (I : Inv X pins σ H s) (k : ∀ b u, s.heap.get? b = some u → h'.get? b = some u) (hp : s.heap.objs.size ≤ a) (new : ObjOk X.prog X.w (upd H a o) h' a o) :
    Inv X pins σ (upd H a o) { s with heap := h', toks := t' } := I.un (Un.laid k hp (I.hok.fresh hp)) (I.hok.laid k hp new)
theorem Inv.write {x e : Addr} {o : HO} {t' : Nat} (I : Inv X pins σ H s) (mu : Mut (H x)) (he : e = x ∨ H e = some (.own x)) (k : ∀ b u, b ≠ e → s.heap.get? b = some u → h'.get? b = some u) (heo : ∃ u, h'.get? e = some u)
    (new : ObjOk X.prog X.w (upd H x o) h' x o) : Inv X pins σ (upd H x o) { s with heap := h', toks := t' } := I.un (Un.write mu he k heo) (I.hok.write mu he k heo new)
theorem Inv.weak {σ' : List (Option V)} (I : Inv X pins σ H s) (hl : σ'.length = σ.length) (w : ∀ (i : Nat) v, σ'[i]? = some (some v) → σ[i]? = some (some v)) : Inv X pins σ' H s :=
  ⟨I.ok, I.os, I.bare, I.base, let ⟨m, hn, hl'⟩ := I.loc; ⟨m, hn, fun i x v e1 e2 e3 => hl' i x v e1 (w i v e2) e3⟩, I.cell, I.free, I.freeC, I.pin, I.hok, hl.trans I.len⟩
theorem Inv.pins_of {pins' : List (Addr × Obj)} (I : Inv X pins σ H s) (h : ∀ p ∈ pins', s.heap.get? p.1 = some p.2 ∧ H p.1 = none ∧ p.1 ≠ X.env.locals ∧ p.1 ∉ X.fs ∧ ∀ v, p.2.data ≠ .cell v) : Inv X pins' σ H s :=
  ⟨I.ok, I.os, I.bare, I.base, I.loc, I.cell, I.free, I.freeC, fun p hp => (List.mem_append.mp hp).elim (fun z => I.pin p (List.mem_append_left _ z)) (h p), I.hok, I.len⟩

theorem nodup_ix {N : List Str} (hN : N.Nodup) {i j : Nat} {x : Str} (a : N[i]? = some x) (b : N[j]? = some x) : i = j := by
  obtain ⟨h1, e1⟩ := List.getElem?_eq_some_iff.mp a
  obtain ⟨h2, e2⟩ := List.getElem?_eq_some_iff.mp b
  exact (List.getElem_inj hN).mp (e1.trans e2.symm)

theorem store_ok2 {M : Model} {A : Around} {E : Value → Shared → Prop} {i : Nat} {x : Str} {v : V} {u : Value} {Q : Unit → Shared → Prop} (I : Inv X pins σ H s) (hN : X.N.Nodup) (hi : X.N[i]? = some x) (hx : Loc X.env.scope x) (r : RelV v u)
    (h : ∀ s', Inv X pins (σ.set i (some v)) H s' → (∃ a, Heap.SameBut a s.heap s'.heap ∧ (a = X.env.locals ∨ X.env.cells.lookup x = some a)) → Q () s') (hf : X.fn x = true ∨ X.env.scope.names.lookup x = some .local := by first | exact .inl rfl | exact .inr rfl | assumption) : wpAny M A (storeName X.env x u) Q E s := by
  obtain ⟨m, hn, hl⟩ := id I.loc
  have hcls : (X.env.scope.kind == .class || (X.env.scope.kind == .module && X.env.locals != X.env.globals)) = false := by rw [I.ok.kind]; rfl
  have hiσ : i < σ.length := by rw [I.len]; exact (List.getElem?_eq_some_iff.mp hi).1
  have cne := I.cne
  have tracked : ∀ {a : Addr} {h' : Heap}, (∃ o, s.heap.get? a = some o ∧ H a = none) → Heap.SameBut a s.heap h' → HOk X.prog X.w H h' := fun {a h'} ha hs b ob e => by
    obtain ⟨_, _, hfree⟩ := ha
    refine (I.hok b ob e).stay (fun c w' hc q => (hs.2 c ?_).trans q) (fun _ q => q) fun _ _ q => q
    rintro rfl
    rcases hc with rfl | hc
    · rw [hfree] at e; cases e
    · rw [hfree] at hc; cases hc
  rcases hx with hk | hk
  · refine wpAny_storeName_local hk hn (fun h' hn' hs => ?_) hcls
    obtain ⟨oL, _, _, hoL, _⟩ := id hn
    refine h _ ⟨I.ok, I.os, I.bare, ⟨fun b o e n hb hx => ?_, fun b o e n hb hx => ?_, I.base.free, fun b o e hx => ?_, I.base.tups, I.base.frzs, I.base.tbls⟩, ⟨_, hn', fun j y v' e1 e2 e3 => ?_⟩, fun y c e => ?_, I.free, I.freeC, fun p hp => ?_, tracked ⟨oL, hoL, I.free⟩ hs, by simpa using I.len⟩ ⟨_, hs, .inl rfl⟩
    · exact (hs.2 b (Nat.ne_of_lt (Nat.lt_of_lt_of_le (Heap.lt_size e) I.ok.above))).trans (I.base.keep b o e n hb hx)
    · obtain ⟨sl, e1⟩ := I.base.slot b o e n hb hx
      exact ⟨sl, (hs.2 b (Nat.ne_of_lt (Nat.lt_of_lt_of_le (Heap.lt_size e) I.ok.above))).trans e1⟩
    · obtain ⟨o', e1⟩ := I.base.there b o e hx
      exact ⟨o', (hs.2 b (Nat.ne_of_lt (Nat.lt_of_lt_of_le (Heap.lt_size e) I.ok.above))).trans e1⟩
    · by_cases hj : j = i
      · subst hj
        rw [hi] at e1; cases e1
        rw [List.getElem?_set_self hiσ] at e2
        cases e2
        exact ⟨u, r, .inl ⟨hk, by simp⟩⟩
      · rw [List.getElem?_set_ne (Ne.symm hj)] at e2
        obtain ⟨u', r', q⟩ := hl j y v' e1 e2 e3
        refine ⟨u', r', ?_⟩
        rcases q with ⟨k, e⟩ | ⟨k, c, e, z⟩
        · refine .inl ⟨k, ?_⟩
          have : y ≠ x := fun e => hj (nodup_ix hN e1 (e ▸ hi))
          simp [this, e]
        · exact .inr ⟨k, c, e, z.sameBut hs (cne y c e)⟩
    · obtain ⟨w', z⟩ := I.cell y c e
      exact ⟨w', z.sameBut hs (cne y c e)⟩
    · obtain ⟨e, n, ne, nf, d⟩ := I.pin p hp
      exact ⟨(hs.2 p.1 ne).trans e, n, ne, nf, d⟩
  · have hfn : X.fn x = true := by
      rcases hf with z | z
      · exact z
      · rw [z] at hk; cases hk
    obtain ⟨c, hc⟩ := I.ok.has x (.inl hk)
    obtain ⟨w', z⟩ := I.cell x c hc
    refine wpAny_storeName_cell I.ok.kind hk hc z (fun h' hc' hs => ?_)
    obtain ⟨oc, hoc, hocd⟩ := id z
    refine h { s with heap := h' } ⟨I.ok, I.os, I.bare, ⟨fun b o e n hb hx => ?_, fun b o e n hb hx => ?_, I.base.free, fun b o e hx => ?_, I.base.tups, I.base.frzs, I.base.tbls⟩, ⟨m, hn.sameBut hs (Ne.symm (cne x c hc)), fun j y v' e1 e2 e3 => ?_⟩, fun y c' e => ?_, I.free, I.freeC, fun p hp => ?_, tracked ⟨oc, hoc, I.freeC x c hc⟩ hs, by simpa using I.len⟩ ⟨c, hs, .inr hc⟩
    · exact (hs.2 b (Nat.ne_of_lt (Nat.lt_of_lt_of_le (Heap.lt_size e) (I.ok.cab x c hfn hc)))).trans (I.base.keep b o e n hb hx)
    · obtain ⟨sl, e1⟩ := I.base.slot b o e n hb hx
      exact ⟨sl, (hs.2 b (Nat.ne_of_lt (Nat.lt_of_lt_of_le (Heap.lt_size e) (I.ok.cab x c hfn hc)))).trans e1⟩
    · obtain ⟨o', e1⟩ := I.base.there b o e hx
      exact ⟨o', (hs.2 b (Nat.ne_of_lt (Nat.lt_of_lt_of_le (Heap.lt_size e) (I.ok.cab x c hfn hc)))).trans e1⟩
    · by_cases hj : j = i
      · subst hj
        rw [hi] at e1; cases e1
        rw [List.getElem?_set_self hiσ] at e2
        cases e2
        exact ⟨u, r, .inr ⟨.inl hk, c, hc, hc'⟩⟩
      · rw [List.getElem?_set_ne (Ne.symm hj)] at e2
        obtain ⟨u', r', q⟩ := hl j y v' e1 e2 e3
        refine ⟨u', r', ?_⟩
        rcases q with q | ⟨k, c', e, z'⟩
        · exact .inl q
        · refine .inr ⟨k, c', e, z'.sameBut hs ?_⟩
          rintro rfl
          exact hj (nodup_ix hN e1 (I.ok.inj _ _ _ e hc ▸ hi))
    · by_cases hcc : c' = c
      · subst hcc; exact ⟨_, hc'⟩
      · obtain ⟨w2, z2⟩ := I.cell y c' e
        exact ⟨w2, z2.sameBut hs hcc⟩
    · obtain ⟨e, n, ne, nf, d⟩ := I.pin p hp
      refine ⟨(hs.2 p.1 ?_).trans e, n, ne, nf, d⟩
      intro q
      rw [q, hoc] at e
      have q' : oc = p.2 := Option.some.inj e
      exact d w' (by rw [← q']; exact hocd)
theorem store_ok {M : Model} {A : Around} {E : Value → Shared → Prop} {i : Nat} {x : Str} {v : V} {u : Value} {Q : Unit → Shared → Prop} (I : Inv X pins σ H s) (hN : X.N.Nodup) (hi : X.N[i]? = some x) (hx : Loc X.env.scope x) (r : RelV v u)
    (h : ∀ s', Inv X pins (σ.set i (some v)) H s' → Q () s') (hf : X.fn x = true ∨ X.env.scope.names.lookup x = some .local := by first | exact .inl rfl | exact .inr rfl | assumption) : wpAny M A (storeName X.env x u) Q E s :=
  store_ok2 I hN hi hx r (fun s' I' _ => h s' I') hf
theorem Inv.call' {s' : Shared} {ch : List Addr} (I : Inv X pins σ H s) (ho : s'.os = s.os) (u : Un (frs X.stack) ch H H' s.heap s'.heap) (hok : HOk X.prog X.w H' s'.heap) (hg : AllBare s'.gens)
    (hch : ∀ b ∈ ch, (b ∈ X.ex ∨ X.s₀.heap.objs.size ≤ b) ∧ b ≠ X.env.locals ∧ (∀ x c, X.env.cells.lookup x = some c → c ≠ b) ∧ ∀ p ∈ X.pn ++ pins, p.1 ≠ b) : Inv X pins σ H' s' := by
  obtain ⟨h', g', d', t', o'⟩ := s'
  have e : o' = s.os := ho
  subst e
  exact I.call (g' := g') (t' := t') (d' := d') u hok hg hch
end

abbrev XK := Value → Option Addr → Hp → Prop
abbrev St := List (Option V)
abbrev VK := V → Hp → Prop
abbrev TE := St → Hp → VK → Prop
abbrev TT := St → Hp → (Bool → Hp → Prop) → Prop
abbrev TA := St → Hp → (List V → Hp → Prop) → Prop
structure Ends where
  nx : St → Hp → Prop
  rt : VK
  bk : St → Hp → Prop := fun _ _ => False
  ct : St → Hp → Prop := fun _ _ => False
abbrev TS := Ends → St → Hp → Prop

def EP (X : Cx) (pins : List (Addr × Obj)) (σ : St) (Q : VK) (u : Value) (s' : Shared) : Prop := ∃ v H', Inv X pins σ H' s' ∧ RelV v u ∧ Q v H'
def TP (X : Cx) (pins : List (Addr × Obj)) (σ : St) (Q : Bool → Hp → Prop) (b : Bool) (s' : Shared) : Prop := ∃ H', Inv X pins σ H' s' ∧ Q b H'
def AP (X : Cx) (pins : List (Addr × Obj)) (σ : St) (Q : List V → Hp → Prop) (us : List Value) (s' : Shared) : Prop := ∃ vs H', Inv X pins σ H' s' ∧ Vals vs us ∧ Q vs H'
def SP (X : Cx) (pins : List (Addr × Obj)) (D : Ends) (f : Flow) (s' : Shared) : Prop :=
  match f with
  | .next => ∃ σ' H', Inv X pins σ' H' s' ∧ D.nx σ' H'
  | .brk => ∃ σ' H', Inv X pins σ' H' s' ∧ D.bk σ' H'
  | .cont => ∃ σ' H', Inv X pins σ' H' s' ∧ D.ct σ' H'
  | .ret u => ∃ v σ' H', Inv X pins σ' H' s' ∧ RelV v u ∧ D.rt v H'

def PE (X : Cx) (e : Expr) (t : TE) : Prop :=
  ∀ (pins : List (Addr × Obj)) (s : Shared) (σ : St) (H : Hp) (Q : VK), Inv X pins σ H s → t σ H Q → wpAny (model X.prog X.w) X.A (eval e X.env) (EP X pins σ Q) X.xe s
def PT (X : Cx) (e : Expr) (t : TT) : Prop :=
  ∀ (pins : List (Addr × Obj)) (s : Shared) (σ : St) (H : Hp) (Q : Bool → Hp → Prop), Inv X pins σ H s → t σ H Q → wpAny (model X.prog X.w) X.A (isTrue e X.env (eval e X.env)) (TP X pins σ Q) X.xe s
def PW (X : Cx) (e : Expr) (t : TT) : Prop :=
  ∀ (whole : Sem Value) (pins : List (Addr × Obj)) (s : Shared) (σ : St) (H : Hp) (Q : Bool → Hp → Prop), Inv X pins σ H s → t σ H Q → wpAny (model X.prog X.w) X.A (isTrue e X.env whole) (TP X pins σ Q) X.xe s
theorem PW.pt {X : Cx} {e : Expr} {t : TT} (h : PW X e t) : PT X e t := h _
def PA (X : Cx) (es : List Expr) (t : TA) : Prop :=
  ∀ (pos : Pos) (pins : List (Addr × Obj)) (s : Shared) (σ : St) (H : Hp) (Q : List V → Hp → Prop), Inv X pins σ H s → t σ H Q → wpAny (model X.prog X.w) X.A (spliced (backTo pos (starEach es X.env))) (AP X pins σ Q) X.xe s
def PS (X : Cx) (st : Stmt) (t : TS) : Prop :=
  ∀ (pins : List (Addr × Obj)) (s : Shared) (σ : St) (H : Hp) (D : Ends), Inv X pins σ H s → t D σ H → wpAny (model X.prog X.w) X.A (exec st X.env) (SP X pins D) X.xe s
def PSs (X : Cx) (st : List Stmt) (t : TS) : Prop :=
  ∀ (pins : List (Addr × Obj)) (s : Shared) (σ : St) (H : Hp) (D : Ends), Inv X pins σ H s → t D σ H → wpAny (model X.prog X.w) X.A (execs st X.env) (SP X pins D) X.xe s
theorem thn {α : Type} {t : Sem α} {Q Q' : α → Shared → Prop} {M : Model} {A : Around} {E : Value → Shared → Prop} {s : Shared} (h : wpAny M A t Q E s) (hQ : ∀ a s, Q a s → Q' a s) : wpAny M A t Q' E s := wpAny_mono h hQ fun _ _ x => x
end L2

namespace L2
open PySem PySem.Spec PyProof.Rows
section
variable {X : Cx}

def tVar (i : Nat) : TE := fun σ H Q => ∃ v, σ[i]? = some (some v) ∧ Q v H
def tC (v : V) : TE := fun _ H Q => Q v H
theorem pe_var {i : Nat} {x : Str} {pos : Pos} (hN : X.N[i]? = some x) (hv : Vis X.env.scope x) (hd : (x == ("__debug__" : Str)) = false := by decide) (hcd : (x == ("__classdict__" : Str)) = false := by decide) : PE X (.Name x pos) (tVar i) := by
  intro pins s σ H Q I h
  obtain ⟨v, e, h⟩ := h
  obtain ⟨m, hn, hl⟩ := I.loc
  obtain ⟨u, r, l⟩ := hl i x v hN e hv
  have fin : EP X pins σ Q u s := ⟨v, H, I, r, h⟩
  rcases l with ⟨hk, hm⟩ | ⟨hk, c, hc, hcell⟩
  · exact wpAny_Name (wpAny_loadName_local I.ok.kind hk hn hm fin) hd
  · rcases hk with hk | hk
    · exact wpAny_Name (wpAny_loadName_cell I.ok.kind hk hc hcell fin) hd
    · exact wpAny_Name (wpAny_loadName_free I.ok.kind hk hc hcell fin hcd) hd
theorem pe_int {i j pos} : PE X (.Constant (.int i) j pos) (tC (.int i)) := fun _ _ _ H _ I h => wpAny_Constant_int ⟨.int i, H, I.tok _, ⟨_, rfl⟩, h⟩
theorem pe_bl {b j pos} : PE X (.Constant (.bool b) j pos) (tC (.bl b)) := fun _ _ _ H _ I h => Constant_bool ⟨.bl b, H, I, rfl, h⟩
theorem pe_non {j pos} : PE X (.Constant .none j pos) (tC .non) := fun _ _ _ H _ I h => Constant_none ⟨.non, H, I, rfl, h⟩
theorem pe_str {x j pos} : PE X (.Constant (.str x) j pos) (tC (.str x)) := fun _ _ _ H _ I h => Calls.Constant_str ⟨.str x, H, I.tok _, ⟨_, rfl⟩, h⟩

def Gl (X : Cx) (x : Str) : Prop := X.env.kindOf x = some .globalImplicit
theorem ld_glob {E : Value → Shared → Prop} {pins : List (Addr × Obj)} {s : Shared} {σ : St} {H : Hp} {x : Str} {u : Value} {pos : Pos} {Q : Value → Shared → Prop} (I : Inv X pins σ H s) (hg : Gl X x) (hm : X.mg x = some u) (h : Q u s)
    (hd : (x == ("__debug__" : Str)) = false := by decide) : wpAny (model X.prog X.w) X.A (eval (.Name x pos) X.env) Q E s :=
  Calls.Name_function_global I.ok.kind hg (Calls.loadGlobal_global (by rw [I.ok.glob]; exact I.mod.glob.keeps I.bk) hm h) hd
theorem ld_blt {E : Value → Shared → Prop} {pins : List (Addr × Obj)} {s : Shared} {σ : St} {H : Hp} {x : Str} {u : Value} {pos : Pos} {Q : Value → Shared → Prop} (I : Inv X pins σ H s) (hg : Gl X x) (hm : X.mg x = none) (hv : bootBuiltins x = some u) (h : Q u s)
    (hn : x ≠ "__name__" := by decide) (hd : (x == ("__debug__" : Str)) = false := by decide) : wpAny (model X.prog X.w) X.A (eval (.Name x pos) X.env) Q E s := by
  obtain ⟨mb, h1, h2⟩ := I.mod.blt
  exact Calls.Name_function_global I.ok.kind hg (Calls.loadGlobal_builtin (by rw [I.ok.glob]; exact I.mod.glob.keeps I.bk) hm (by rw [I.ok.blt]; exact h1.keeps I.bk) ((h2 x hn).trans hv) h) hd
theorem pe_glob {x : Str} {v : V} {u : Value} {pos : Pos} (hg : Gl X x) (hm : X.mg x = some u) (r : RelV v u) (hd : (x == ("__debug__" : Str)) = false := by decide) : PE X (.Name x pos) (tC v) :=
  fun _ _ _ H _ I h => ld_glob I hg hm ⟨v, H, I, r, h⟩ hd
theorem pe_bltn {x : Str} {v : V} {u : Value} {pos : Pos} (hg : Gl X x) (hm : X.mg x = none) (hv : bootBuiltins x = some u) (r : RelV v u) (hn : x ≠ "__name__" := by decide) (hd : (x == ("__debug__" : Str)) = false := by decide) : PE X (.Name x pos) (tC v) :=
  fun _ _ _ H _ I h => ld_blt I hg hm hv ⟨v, H, I, r, h⟩ hn hd

variable {a b : Expr} {ta tb : TE} {pos : Pos}
def PC (X : Cx) (op : CmpOp) (a b : Expr) (t : TE) : Prop :=
  ∀ (pins : List (Addr × Obj)) (s : Shared) (σ : St) (H : Hp) (Q : VK), Inv X pins σ H s → t σ H Q →
    wpAny (model X.prog X.w) X.A (eval a X.env) (fun v s₁ => wpAny (model X.prog X.w) X.A (eval b X.env) (fun u s₂ => wpAny (model X.prog X.w) X.A (compareOp op v u) (EP X pins σ Q) X.xe s₂) X.xe s₁) X.xe s
def tB (t : TE) : TT := fun σ H Q => t σ H fun x H1 => ∃ c, x = .bl c ∧ Q c H1
theorem pt_cmp {op : CmpOp} {t : TE} (h : PC X op a b t) (h1 : behindInMarks op b = false := by first | exact nobehind _ (by decide) (by decide) | rfl) : PT X (.Compare a [op] [b] pos) (tB t) := by
  intro pins s σ H Q I hw
  refine wpAny_isTrue_Compare1 (thn (h pins s σ H _ I hw) fun v s1 h1 => thn h1 fun u s2 h2 => thn h2 fun c s3 ⟨x, H1, I1, r1, q1⟩ => ?_) h1
  obtain ⟨d, rfl, q⟩ := q1
  cases r1
  exact wpAny_truthy_bool ⟨H1, I1, q⟩
theorem pt_val {e : Expr} {t : TE} (h : PE X e t) (he : ∀ whole, isTrue e X.env whole = (do let v ← whole; standAt e.pos; holding [v] (truthy v)) := by intro _; rfl) : PT X e (tB t) := by
  intro pins s σ H Q I hw
  refine isTrue_plain (thn (h pins s σ H _ I hw) fun v s1 ⟨x, H1, I1, r1, q1⟩ => ?_) (he _)
  obtain ⟨d, rfl, q⟩ := q1
  cases r1
  exact wpAny_truthy_bool ⟨H1, I1, q⟩

variable {tA tB' : TT} {rest : List Expr}
def tOr (t u : TT) : TT := fun σ H Q => t σ H fun c H1 => if c = true then Q true H1 else u σ H1 Q
def tNot (t : TT) : TT := fun σ H Q => t σ H fun c H1 => Q (!c) H1
theorem pw_or1 (ha : PT X a tA) : PW X (.BoolOp .Or [a] pos) tA := by
  intro wh pins s σ H Q I h
  refine isTrue_or (thn (ha pins s σ H Q I h) fun c s1 e => ?_)
  cases c with
  | false => exact isTrue_or_nil e
  | true => exact e
theorem pw_or (ha : PT X a tA) (hb : PW X (.BoolOp .Or (b :: rest) pos) tB') : PW X (.BoolOp .Or (a :: b :: rest) pos) (tOr tA tB') := by
  intro wh pins s σ H Q I h
  refine isTrue_or (thn (ha pins s σ H _ I h) fun c s1 ⟨H1, I1, q1⟩ => ?_)
  cases c with
  | true => exact ⟨H1, I1, q1⟩
  | false => exact hb wh pins s1 σ H1 Q I1 q1
theorem pt_not (ha : PT X a tA) : PT X (.UnaryOp .Not a pos) (tNot tA) := by
  intro pins s σ H Q I h
  exact isTrue_not (ha pins s σ H (fun c H1 => Q (!c) H1) I h)
def tAndV (ta tb : TE) : TE := fun σ H Q => ta σ H fun x H1 => ∃ c, x = .bl c ∧ if c = true then tb σ H1 Q else Q (.bl false) H1
def tOrV (ta tb : TE) : TE := fun σ H Q => ta σ H fun x H1 => ∃ c, x = .bl c ∧ if c = true then Q (.bl true) H1 else tb σ H1 Q
def tNotV (ta : TE) : TE := fun σ H Q => ta σ H fun x H1 => ∃ c, x = .bl c ∧ Q (.bl (!c)) H1
theorem pe_one {op} {t : TE} (h : PE X a t) : PE X (.BoolOp op [a] pos) t := fun pins s σ H Q I hw => BoolOp_one (h pins s σ H Q I hw)
theorem pe_and (ha : PE X a ta) (hb : PE X (.BoolOp .And (b :: rest) pos) tb) : PE X (.BoolOp .And (a :: b :: rest) pos) (tAndV ta tb) := by
  intro pins s σ H Q I h
  refine BoolOp_and (thn (ha pins s σ H _ I h) fun v s1 ⟨x, H1, I1, r1, q1⟩ => ?_)
  obtain ⟨c, rfl, q1⟩ := q1
  cases r1
  refine wpAny_truthy_bool ?_
  cases c with
  | true => exact hb pins s1 σ H1 Q I1 q1
  | false => exact ⟨.bl false, H1, I1, rfl, q1⟩
theorem pe_or (ha : PE X a ta) (hb : PE X (.BoolOp .Or (b :: rest) pos) tb) : PE X (.BoolOp .Or (a :: b :: rest) pos) (tOrV ta tb) := by
  intro pins s σ H Q I h
  refine BoolOp_or (thn (ha pins s σ H _ I h) fun v s1 ⟨x, H1, I1, r1, q1⟩ => ?_)
  obtain ⟨c, rfl, q1⟩ := q1
  cases r1
  refine wpAny_truthy_bool ?_
  cases c with
  | false => exact hb pins s1 σ H1 Q I1 q1
  | true => exact ⟨.bl true, H1, I1, rfl, q1⟩
theorem pe_not (ha : PE X a ta) : PE X (.UnaryOp .Not a pos) (tNotV ta) := by
  intro pins s σ H Q I h
  refine UnaryOp_ (thn (ha pins s σ H _ I h) fun v s1 ⟨x, H1, I1, r1, q1⟩ => ?_)
  obtain ⟨c, rfl, q1⟩ := q1
  cases r1
  exact not_of (wpAny_truthy_bool ⟨.bl (!c), H1, I1, rfl, q1⟩)
end
end L2

namespace L2
open PySem PySem.Spec PyProof.Rows

def SqL (K : PySem.W.Frag) (H : Hp) (a : Addr) (xs : List V) : Prop :=
  Rd H a (.lst xs) ∨
    ∃ (o : Obj) (its : Array Value) (n : Nat), K.lookup a = some o ∧ o.cls = .type "list" ∧ o.dict = none ∧ o.data = .seq its n ∧ its.size ≤ sizeLine ∧ Vals xs its.toList
def SqT (K : PySem.W.Frag) (H : Hp) (a : Addr) (xs : List V) : Prop :=
  Rd H a (.tup xs) ∨
    ∃ (o : Obj) (its : Array Value) (n : Nat), K.lookup a = some o ∧ o.cls = .type "tuple" ∧ o.data = .seq its n ∧ its.size ≤ sizeLine ∧ Vals xs its.toList
def absV : Value → Option V
  | .none => some .non
  | .bool b => some (.bl b)
  | .int i _ => some (.int i)
  | .str x _ => some (.str x)
  | .bytes b _ => some (.byt b)
  | .float b _ => some (.flt b)
  | .ref a => some (.ref a)
  | .type n => some (.ty n)
  | _ => none
theorem RelV.abs {x : V} {u : Value} (r : RelV x u) : absV u = some x := by
  cases x with
  | non => cases r; rfl
  | bl _ => cases r; rfl
  | int _ => obtain ⟨t, rfl⟩ := r; rfl
  | str _ => obtain ⟨t, rfl⟩ := r; rfl
  | byt _ => obtain ⟨t, rfl⟩ := r; rfl
  | flt _ => obtain ⟨t, rfl⟩ := r; rfl
  | ref _ => cases r; rfl
  | ty _ => cases r; rfl
theorem RelV.inj {x y : V} {u : Value} (r : RelV x u) (q : RelV y u) : x = y := Option.some.inj (r.abs.symm.trans q.abs)
theorem Vals.inj : ∀ {xs ys : List V} {us : List Value}, Vals xs us → Vals ys us → xs = ys
  | _, _, _, .nil, .nil => rfl
  | _, _, _, .cons r t, .cons r' t' => by rw [r.inj r', Vals.inj t t']
section
variable {X : Cx} {pins : List (Addr × Obj)} {σ : St} {H : Hp} {s : Shared} {a : Addr} {xs ys : List V}
theorem SqL.of {K : PySem.W.Frag} (h : H a = some (.lst xs)) : SqL K H a xs := .inl (.inl h)
theorem SqT.of {K : PySem.W.Frag} (h : H a = some (.tup xs)) : SqT K H a xs := .inl (.inl h)
theorem Inv.list (I : Inv X pins σ H s) (h : SqL X.K H a xs) : ∃ its : List Value, Vals xs its ∧ PlainL s.heap a its.toArray ∧ xs.length ≤ sizeLine := by
  rcases h with h | ⟨o, its, n, hk, hc, hd, hs, hz, r⟩
  · obtain ⟨z, its, n, r, e⟩ := h.ok I.hok
    exact ⟨its, r, ⟨_, n, e, rfl, rfl, rfl⟩, z⟩
  · refine ⟨its.toList, r, ⟨o, n, I.kIn a o hk, hc, hd, by simpa using hs⟩, ?_⟩
    have e := r.length
    simp only [Array.length_toList] at e
    omega
theorem Inv.tuple (I : Inv X pins σ H s) (h : SqT X.K H a xs) : ∃ its : List Value, Vals xs its ∧ IsTup s.heap a its.toArray ∧ xs.length ≤ sizeLine := by
  rcases h with h | ⟨o, its, n, hk, hc, hs, hz, r⟩
  · obtain ⟨z, its, r, p⟩ := h.ok I.hok
    exact ⟨its, r, p, z⟩
  · refine ⟨its.toList, r, ⟨o, I.kIn a o hk, hc, n, by simpa using hs⟩, ?_⟩
    have e := r.length
    simp only [Array.length_toList] at e
    omega
theorem Inv.list_inj (I : Inv X pins σ H s) (h : SqL X.K H a xs) (h' : SqL X.K H a ys) : xs = ys := by
  obtain ⟨its, r, ⟨o, n, e, _, _, d⟩, _⟩ := I.list h
  obtain ⟨its', r', ⟨o', n', e', _, _, d'⟩, _⟩ := I.list h'
  rw [e] at e'; cases e'
  rw [d] at d'
  injection d' with d1 _
  have : its = its' := by simpa using congrArg Array.toList d1
  subst this
  exact r.inj r'
theorem Inv.tuple_inj (I : Inv X pins σ H s) (h : SqT X.K H a xs) (h' : SqT X.K H a ys) : xs = ys := by
  obtain ⟨its, r, ⟨o, e, _, n, d⟩, _⟩ := I.tuple h
  obtain ⟨its', r', ⟨o', e', _, n', d'⟩, _⟩ := I.tuple h'
  rw [e] at e'; cases e'
  rw [d] at d'
  injection d' with d1 _
  have : its = its' := by simpa using congrArg Array.toList d1
  subst this
  exact r.inj r'
end

abbrev Cx.wish (X : Cx) (E : Value → Shared → Prop) : Cx := { X with xe := E }
abbrev Cx.nox (X : Cx) : Cx := X.wish fun _ _ => False
theorem Cx.Ok.wish {X : Cx} (ok : X.Ok) (E : Value → Shared → Prop) : (X.wish E).Ok :=
  ⟨ok.mod, ok.kind, ok.glob, ok.blt, ok.above, ok.inj, ok.has, ok.cab, ok.hd, ok.frames, ok.stk, ok.exf, ok.bs, ok.bsz, ok.noex, ok.exfs, ok.funs, ok.frf⟩
theorem Cx.Ok.unwish {X : Cx} {E : Value → Shared → Prop} (ok : (X.wish E).Ok) : X.Ok :=
  ⟨ok.mod, ok.kind, ok.glob, ok.blt, ok.above, ok.inj, ok.has, ok.cab, ok.hd, ok.frames, ok.stk, ok.exf, ok.bs, ok.bsz, ok.noex, ok.exfs, ok.funs, ok.frf⟩
section
variable {X : Cx} {pins : List (Addr × Obj)} {σ : St} {H : Hp} {s : Shared} {E : Value → Shared → Prop}
theorem Inv.wish (I : Inv X pins σ H s) (E : Value → Shared → Prop) : Inv (X.wish E) pins σ H s := ⟨I.ok.wish E, I.os, I.bare, I.base, I.loc, I.cell, I.free, I.freeC, I.pin, I.hok, I.len⟩
theorem Inv.unwish (I : Inv (X.wish E) pins σ H s) : Inv X pins σ H s := ⟨I.ok.unwish, I.os, I.bare, I.base, I.loc, I.cell, I.free, I.freeC, I.pin, I.hok, I.len⟩
theorem SP.unwish {D : Ends} {f : Flow} {s' : Shared} (h : SP (X.wish E) pins D f s') : SP X pins D f s' := by
  cases f with
  | next => obtain ⟨σ', H', I, q⟩ := h; exact ⟨σ', H', I.unwish, q⟩
  | brk => obtain ⟨σ', H', I, q⟩ := h; exact ⟨σ', H', I.unwish, q⟩
  | cont => obtain ⟨σ', H', I, q⟩ := h; exact ⟨σ', H', I.unwish, q⟩
  | ret u => obtain ⟨v, σ', H', I, r, q⟩ := h; exact ⟨v, σ', H', I.unwish, r, q⟩
theorem PSs.nox {st : List Stmt} {t : TS} (h : PSs X.nox st t) : PSs X st t := fun pins s σ H D I hw =>
  wpAny_mono (h pins s σ H D (I.wish _) hw) (fun _ _ q => q.unwish) fun _ _ z => False.elim z
end

section
variable {X : Cx} {st : Stmt} {rest : List Stmt} {t u : TS} {e : Expr} {te : TE} {pos : Pos}
def tNext : TS := fun D σ H => D.nx σ H
def tSeq (t u : TS) : TS := fun D σ H => t { D with nx := u D } σ H
theorem pss_nil : PSs X [] tNext := fun _ _ σ H _ I h => wpAny_execs_nil ⟨σ, H, I, h⟩
theorem pss_cons (h1 : PS X st t) (h2 : PSs X rest u) : PSs X (st :: rest) (tSeq t u) := by
  intro pins s σ H D I h
  refine wpAny_execs_cons (thn (h1 pins s σ H { D with nx := u D } I h) fun f s1 q => ?_)
  cases f with
  | next =>
    obtain ⟨σ', H', I', q⟩ := q
    exact h2 pins s1 σ' H' D I' q
  | ret v => exact q
  | brk => exact q
  | cont => exact q
theorem pss_one (h1 : PS X st t) : PSs X [st] t := by
  intro pins s σ H D I h
  refine wpAny_execs_cons (thn (h1 pins s σ H D I h) fun f s1 q => ?_)
  cases f with
  | next => exact wpAny_execs_nil q
  | ret v => exact q
  | brk => exact q
  | cont => exact q
theorem Inv.quiet {pins : List (Addr × Obj)} {σ : St} {H : Hp} {s : Shared} (I : Inv X pins σ H s) : interactive X.env = false := by simp [interactive, I.ok.kind]
def tDrop (te : TE) : TS := fun D σ H => te σ H fun _ H1 => D.nx σ H1
theorem ps_expr (he : PE X e te) (hs : swapsWith e none pos.line X.env = pure false := by rfl) : PS X (.Expr e pos) (tDrop te) := by
  intro pins s σ H D I h
  exact wpAny_Expr_any (thn (he pins s σ H _ I h) fun v s1 ⟨x, H1, I1, r1, q1⟩ => ⟨σ, H1, I1, q1⟩) I.quiet hs
def tRet (te : TE) : TS := fun D σ H => te σ H D.rt
theorem ps_ret (he : PE X e te) : PS X (.Return (some e) pos) (tRet te) := by
  intro pins s σ H D I h
  exact wpAny_Return_some (thn (he pins s σ H _ I h) fun v s1 ⟨x, H1, I1, r1, q1⟩ => ⟨x, σ, H1, I1, r1, q1⟩)
def tIfS (c : TT) (t u : TS) : TS := fun D σ H => c σ H fun b H1 => if b = true then t D σ H1 else u D σ H1
theorem ps_if {c : Expr} {a b : List Stmt} {tc : TT} (hc : PT X c tc) (ha : PSs X a t) (hb : PSs X b u) : PS X (.If c a b pos) (tIfS tc t u) := by
  intro pins s σ H D I h
  refine wpAny_If (thn (hc pins s σ H _ I h) fun d s1 ⟨H1, I1, q1⟩ => ?_)
  cases d with
  | true => exact ha pins s1 σ H1 D I1 q1
  | false => exact hb pins s1 σ H1 D I1 q1
def tNever : TS := fun _ _ _ => False
theorem pss_never {sts : List Stmt} : PSs X sts tNever := fun _ _ _ _ _ _ h => h.elim
end

abbrev TG := V → St → Hp → (St → Hp → Prop) → Prop
abbrev TGs := List V → St → Hp → (St → Hp → Prop) → Prop
def PG (X : Cx) (target : Expr) (t : TG) : Prop :=
  ∀ (pins : List (Addr × Obj)) (s : Shared) (σ : St) (H : Hp) (v : V) (u : Value) (Q : St → Hp → Prop), Inv X pins σ H s → RelV v u → t v σ H Q →
    wpAny (model X.prog X.w) X.A (assign target X.env u) (fun _ s' => ∃ σ' H', Inv X pins σ' H' s' ∧ Q σ' H') X.xe s
def PGs (X : Cx) (ts : List Expr) (t : TGs) : Prop :=
  ∀ (pins : List (Addr × Obj)) (s : Shared) (σ : St) (H : Hp) (vs : List V) (us : List Value) (Q : St → Hp → Prop), Inv X pins σ H s → Vals vs us → t vs σ H Q →
    wpAny (model X.prog X.w) X.A (assignInOrder ((assignEach ts X.env).map (·.2)) us) (fun _ s' => ∃ σ' H', Inv X pins σ' H' s' ∧ Q σ' H') X.xe s
section
variable {X : Cx} {pos : Pos}
def gName (i : Nat) : TG := fun v σ H Q => Q (σ.set i (some v)) H
theorem pg_name {i : Nat} {x : Str} (hN : X.N.Nodup) (hi : X.N[i]? = some x) (hx : Loc X.env.scope x) (hf : X.fn x = true ∨ X.env.scope.names.lookup x = some .local := by first | exact .inl rfl | exact .inr rfl | assumption) : PG X (.Name x pos) (gName i) := by
  intro pins s σ H v u Q I r h
  exact wpAny_assign_Name (store_ok I hN hi hx r (fun s' I' => ⟨_, H, I', h⟩) hf)
def gNil : TGs := fun vs σ H Q => vs = [] ∧ Q σ H
def gCons (t : TG) (u : TGs) : TGs := fun vs σ H Q => ∃ v r, vs = v :: r ∧ t v σ H fun σ' H' => u r σ' H' Q
theorem pgs_nil : PGs X [] gNil := by
  intro pins s σ H vs us Q I r h
  obtain ⟨e, h⟩ := h
  subst e
  cases r
  exact assignInOrder_nil ⟨σ, H, I, h⟩
theorem pgs_cons {e : Expr} {es : List Expr} {t : TG} {u : TGs} (h1 : PG X e t) (h2 : PGs X es u)
    (hs : (assignEach (e :: es) X.env).map (·.2) = assign e X.env :: (assignEach es X.env).map (·.2) := by rfl) : PGs X (e :: es) (gCons t u) := by
  intro pins s σ H vs us Q I r h
  obtain ⟨v, vr, e1, h⟩ := h
  subst e1
  cases r with
  | cons r rr =>
    rw [hs]
    refine assignInOrder_cons (thn (h1 pins s σ H _ _ _ I r h) fun _ s1 ⟨σ1, H1, I1, q1⟩ => ?_)
    exact h2 pins s1 σ1 H1 _ _ Q I1 rr q1
def gTup (K : PySem.W.Frag) (n : Nat) (t : TGs) : TG := fun v σ H Q => ∃ a xs, v = .ref a ∧ SqT K H a xs ∧ xs.length = n ∧ t xs σ H Q
theorem pg_tup {es : List Expr} {k : Nat} {t : TGs} {n : Nat} (hc : X.calm = true) (h : PGs X es t)
    (hn : (assignEach es X.env).length = n := by rfl) (hst : (assignEach es X.env).findIdx? (·.1) = none := by rfl) : PG X (.Tuple es k pos) (gTup X.K n t) := by
  intro pins s σ H v u Q I r hw
  obtain ⟨a, xs, e1, hq, hl, hw⟩ := hw
  subst e1
  cases r
  obtain ⟨its, rv, ht, hz⟩ := I.tuple hq
  refine assign_Tuple_tuple (I.ok.hd hc) ht (by simp [hn, ← hl, rv.length]) hst fun h' hx => ?_
  have I1 : Inv X pins σ H { s with heap := h' } := I.kept (t' := s.toks) fun b o e => hx b o (Nat.ne_of_lt (Heap.lt_size e)) e
  exact h pins _ σ H xs _ Q I1 (by simpa using rv) hw
def tAsg (te : TE) (g : TG) : TS := fun D σ H => te σ H fun x H1 => g x σ H1 D.nx
theorem ps_set {i : Nat} {x : Str} {e : Expr} {te : TE} {pos' : Pos} (hN : X.N.Nodup) (hi : X.N[i]? = some x) (hx : Loc X.env.scope x) (he : PE X e te) (hs : swapsWith e (some (.Name x pos')) pos.line X.env = pure false := by rfl) (hf : X.fn x = true ∨ X.env.scope.names.lookup x = some .local := by first | exact .inl rfl | exact .inr rfl | assumption) :
    PS X (.Assign [.Name x pos'] e pos) (tAsg te (gName i)) := by
  intro pins s σ H D I h
  refine wpAny_Assign_Name (thn (he pins s σ H _ I h) fun v s1 ⟨y, H1, I1, r1, q1⟩ => ?_) hs
  exact store_ok I1 hN hi hx r1 (fun s2 I2 => ⟨_, H1, I2, q1⟩) hf
end

section
variable {X : Cx} {pos : Pos}
end

structure It where
  go : Nat → Hp → Prop
  yld : Nat → Hp → V → Hp → Prop
  stop : Nat → Hp → Prop
def FpOk (X : Cx) (pins : List (Addr × Obj)) (H : Hp) (b : Addr) : Prop :=
  H b = none ∧ b ≠ X.env.locals ∧ b ∉ X.fs ∧ (b ∈ X.ex ∨ X.s₀.heap.objs.size ≤ b) ∧ (∀ x c, X.env.cells.lookup x = some c → c ≠ b) ∧ ∀ p ∈ X.pn ++ pins, p.1 ≠ b
theorem Inv.fpOk {X : Cx} {pins : List (Addr × Obj)} {σ : St} {H H' : Hp} {s : Shared} {b : Addr} (I : Inv X pins σ H s) (hb : s.heap.objs.size ≤ b) (hn : H' b = none) : FpOk X pins H' b := by
  refine ⟨hn, Nat.ne_of_gt (Nat.lt_of_lt_of_le I.lt hb), I.nofs hb, .inr (Nat.le_trans I.sz hb), fun x c e z => ?_, fun p hp z => ?_⟩
  · obtain ⟨v, q⟩ := I.cell x c e
    exact absurd (Nat.lt_of_lt_of_le q.lt (by rw [z]; exact hb)) (Nat.lt_irrefl _)
  · exact absurd (Nat.lt_of_lt_of_le (Heap.lt_size (I.pin p hp).1) (by rw [z]; exact hb)) (Nat.lt_irrefl _)
structure Turn (P : Program) (w : World) (K : PySem.W.Frag) (tg : Expr) (J : It) (fp : List Addr) (it : Addr) (tn : Nat → Heap → Prop) : Prop where
  mem : it ∈ fp
  obj : ∀ i h, tn i h → ∀ b ∈ fp, ∃ o, h.get? b = some o ∧ ∀ v, o.data ≠ .cell v
  keep : ∀ i h h', tn i h → (∀ b ∈ fp, ∀ o, h.get? b = some o → h'.get? b = some o) → tn i h'
  item : ∀ (X : Cx), X.prog = P → X.w = w → X.K = K → X.calm = true → ∀ (i : Nat) (pins : List (Addr × Obj)) (s : Shared) (σ : St) (H : Hp) (E : Value → Shared → Prop), Inv X pins σ H s → (∀ b ∈ fp, FpOk X pins H b) → tn i s.heap → J.go i H →
    wpAny (model P w) X.A (pyNext (.ref it)) (fun r s1 => ∃ u, r = some u ∧
      wpAny (model P w) X.A (letOwnedTupleGo tg (.ref it) u) (fun _ s2 => ∃ x H', Inv X pins σ H' s2 ∧ RelV x u ∧ J.yld i H x H' ∧ tn (i + 1) s2.heap ∧ ∀ b ∈ fp, H' b = none) E s1) E s
  done : ∀ (X : Cx), X.prog = P → X.w = w → X.K = K → X.calm = true → ∀ (i : Nat) (pins : List (Addr × Obj)) (s : Shared) (σ : St) (H : Hp) (E : Value → Shared → Prop), Inv X pins σ H s → (∀ b ∈ fp, FpOk X pins H b) → tn i s.heap → J.stop i H →
    wpAny (model P w) X.A (pyNext (.ref it)) (fun r s1 => r = none ∧ Inv X pins σ H s1) E s
  self : ∀ (A : Around) (i : Nat) (s : Shared) (Q : Value → Shared → Prop) (E : Value → Shared → Prop), tn i s.heap → Q (.ref it) s → wpAny (model P w) A (pyIter (.ref it)) Q E s
abbrev TI := St → Hp → (It → Hp → Prop) → Prop
def PIE (X : Cx) (pins : List (Addr × Obj)) (σ : St) (tg : Expr) (R : It → Hp → Prop) (itv : Value) (s2 : Shared) : Prop :=
  ∃ (it : Addr) (fp : List Addr) (tn : Nat → Heap → Prop) (J : It) (H' : Hp), itv = .ref it ∧ Inv X pins σ H' s2 ∧ Turn X.prog X.w X.K tg J fp it tn ∧ tn 0 s2.heap ∧ (∀ b ∈ fp, FpOk X pins H' b) ∧ R J H'
def PI (X : Cx) (tg iter : Expr) (wi : TI) : Prop :=
  ∀ (pins : List (Addr × Obj)) (s : Shared) (σ : St) (H : Hp) (R : It → Hp → Prop), Inv X pins σ H s → wi σ H R →
    wpAny (model X.prog X.w) X.A (eval iter X.env) (fun v s1 => wpAny (model X.prog X.w) X.A (pyIter v) (PIE X pins σ tg R) X.xe s1) X.xe s

theorem go_of {M : Model} {A : Around} {E : Value → Shared → Prop} {s : Shared} {tg : Expr} {it : Addr} {u : Value} {o : Obj} {n : String} {vs : Array Value} {Q : Unit → Shared → Prop} (ho : s.heap.get? it = some o) (hc : o.cls = .type n) (hd : o.data = .fields vs)
    (hn : ["enumerate", "zip", "dict_itemiterator", "dict_reverseitemiterator", "odict_iterator", "itertools.zip_longest", "itertools.pairwise"].contains n = false) (hQ : Q () s) : wpAny M A (letOwnedTupleGo tg (.ref it) u) Q E s := by
  unfold letOwnedTupleGo
  cases tg <;> first
    | exact wpAny_pure hQ
    | (cases u <;> first
        | exact wpAny_pure hQ
        | (refine wpAny_bind (wpAny_load ho ?_)
           rw [hc, hd]
           show wpAny M A (if (["enumerate", "zip", "dict_itemiterator", "dict_reverseitemiterator", "odict_iterator", "itertools.zip_longest", "itertools.pairwise"].contains n && vs[0]? == some (rawInt _)) = true then _ else _) Q E s
           rw [if_neg (by intro h; rw [hn, Bool.false_and] at h; cases h)]
           exact wpAny_pure hQ))

def Itl (K : PySem.W.Frag) (a : Addr) : It :=
  ⟨fun i H => ∃ xs x, SqL K H a xs ∧ xs[i]? = some x, fun i H x H' => H' = H ∧ ∀ xs, SqL K H a xs → xs[i]? = some x, fun i H => ∃ xs, SqL K H a xs ∧ xs.length ≤ i⟩
def Itt (K : PySem.W.Frag) (a : Addr) : It :=
  ⟨fun i H => ∃ xs x, SqT K H a xs ∧ xs[i]? = some x, fun i H x H' => H' = H ∧ ∀ xs, SqT K H a xs → xs[i]? = some x, fun i H => ∃ xs, SqT K H a xs ∧ xs.length ≤ i⟩
def Itr (lo : Int) (n : Nat) : It := ⟨fun i _ => i < n, fun i H x H' => H' = H ∧ x = .int (lo + i), fun i _ => n ≤ i⟩
theorem turn_list {P : Program} {w : World} {K : PySem.W.Frag} {tg : Expr} (a it : Addr) : Turn P w K tg (Itl K a) [it] it (fun i h => h.IsListIter it a i) where
  mem := by simp
  obj := fun i h st b hb => by
    have e : b = it := by simpa using hb
    subst e
    obtain ⟨o, e, c, d⟩ := st
    exact ⟨o, e, fun v z => by rw [d] at z; cases z⟩
  keep := fun i h h' st k => st.at fun o e => k it (by simp) o e
  item := by
    intro X hP hw hK hc i pins s σ H E I hf st hg
    subst hP hw hK
    obtain ⟨xs, x, hq, hx⟩ := hg
    obtain ⟨its, rv, p, hz⟩ := I.list hq
    obtain ⟨u, hu, ru⟩ := rv.get hx
    obtain ⟨f0, f1, f2, f3, f4, f5⟩ := hf it (by simp)
    refine wpAny_pyNext_list_item st p.isList (x := u) (by simpa using hu) fun h' st' sb => ?_
    have I1 : Inv X pins σ H { s with heap := h' } := I.turned (t' := s.toks) (fun b o hb e => (sb.2 b hb).trans e) f0 f1 f3 f4 f5
    obtain ⟨o, e, c, d⟩ := id st'
    exact ⟨u, rfl, go_of (s := { s with heap := h' }) e c d (by decide) ⟨x, H, I1, ru, ⟨rfl, fun ys hy => by rw [I.list_inj hy hq]; exact hx⟩, st', fun b hb => (hf b hb).1⟩⟩
  done := by
    intro X hP hw hK hc i pins s σ H E I hf st hg
    subst hP hw hK
    obtain ⟨xs, hq, hx⟩ := hg
    obtain ⟨its, rv, p, hz⟩ := I.list hq
    obtain ⟨f0, f1, f2, f3, f4, f5⟩ := hf it (by simp)
    have hl := rv.length
    exact wpAny_pyNext_list_end (I.ok.hd hc) st p.isList (by simp; omega) fun h' eb => ⟨rfl, I.turned (t' := s.toks) (fun b o hb e => eb b o hb e) f0 f1 f3 f4 f5⟩
  self := fun _ _ _ _ _ st h => wpAny_pyIter_listiter st h
theorem turn_tuple {P : Program} {w : World} {K : PySem.W.Frag} {tg : Expr} (a it : Addr) : Turn P w K tg (Itt K a) [it] it (fun i h => h.IsTupleIter it a i) where
  mem := by simp
  obj := fun i h st b hb => by
    have e : b = it := by simpa using hb
    subst e
    obtain ⟨o, e, c, d⟩ := st
    exact ⟨o, e, fun v z => by rw [d] at z; cases z⟩
  keep := fun i h h' st k => st.at fun o e => k it (by simp) o e
  item := by
    intro X hP hw hK hc i pins s σ H E I hf st hg
    subst hP hw hK
    obtain ⟨xs, x, hq, hx⟩ := hg
    obtain ⟨its, rv, p, hz⟩ := I.tuple hq
    obtain ⟨u, hu, ru⟩ := rv.get hx
    obtain ⟨f0, f1, f2, f3, f4, f5⟩ := hf it (by simp)
    refine wpAny_pyNext_tuple_item st (show s.heap.IsTuple a its.toArray from p) (x := u) (by simpa using hu) fun h' st' sb => ?_
    have I1 : Inv X pins σ H { s with heap := h' } := I.turned (t' := s.toks) (fun b o hb e => (sb.2 b hb).trans e) f0 f1 f3 f4 f5
    obtain ⟨o, e, c, d⟩ := id st'
    exact ⟨u, rfl, go_of (s := { s with heap := h' }) e c d (by decide) ⟨x, H, I1, ru, ⟨rfl, fun ys hy => by rw [I.tuple_inj hy hq]; exact hx⟩, st', fun b hb => (hf b hb).1⟩⟩
  done := by
    intro X hP hw hK hc i pins s σ H E I hf st hg
    subst hP hw hK
    obtain ⟨xs, hq, hx⟩ := hg
    obtain ⟨its, rv, p, hz⟩ := I.tuple hq
    obtain ⟨f0, f1, f2, f3, f4, f5⟩ := hf it (by simp)
    have hl := rv.length
    exact wpAny_pyNext_tuple_end (I.ok.hd hc) st (show s.heap.IsTuple a its.toArray from p) (by simp; omega) fun h' eb => ⟨rfl, I.turned (t' := s.toks) (fun b o hb e => eb b o hb e) f0 f1 f3 f4 f5⟩
  self := fun _ _ _ _ _ st h => wpAny_pyIter_tupleiter st h
theorem turn_range {P : Program} {w : World} {K : PySem.W.Frag} {tg : Expr} (it : Addr) (lo : Int) (n : Nat) : Turn P w K tg (Itr lo n) [it] it (fun i h => IsRangeIter h it (lo + (i : Nat) * 1) ((n : Int) - (i : Nat)) 1) where
  mem := by simp
  obj := fun i h st b hb => by
    have e : b = it := by simpa using hb
    subst e
    exact ⟨_, st, fun v z => by
      have z' : Data.fields _ = Data.cell v := z
      cases z'⟩
  keep := fun i h h' st k => k it (by simp) _ st
  item := by
    intro X hP hw hK hc i pins s σ H E I hf st hg
    subst hP hw hK
    obtain ⟨f0, f1, f2, f3, f4, f5⟩ := hf it (by simp)
    have W := Walks.range (prog := X.prog) (w := X.w) (I.ok.hd hc) it lo 1 n
    refine W.item i s _ _ hg st fun v h' tk hv st' kk => ?_
    obtain ⟨t, rfl⟩ := hv
    have I1 : Inv X pins σ H { s with heap := h', toks := tk } := I.turned (fun b o hb e => kk b o (by simpa using hb) e) f0 f1 f3 f4 f5
    refine ⟨_, rfl, go_of (s := { s with heap := h', toks := tk }) (n := "range_iterator") st' rfl rfl (by decide) ⟨.int (lo + i), H, I1, ⟨t, ?_⟩, ⟨rfl, rfl⟩, st', fun b hb => (hf b hb).1⟩⟩
    rw [Int.mul_one]
  done := by
    intro X hP hw hK hc i pins s σ H E I hf st hg
    subst hP hw hK
    obtain ⟨f0, f1, f2, f3, f4, f5⟩ := hf it (by simp)
    exact wpAny_pyNext_range_end (I.ok.hd hc) st (by have : n ≤ i := hg; omega) fun h' eb => ⟨rfl, I.turned (t' := s.toks) (fun b o hb e => eb b o hb e) f0 f1 f3 f4 f5⟩
  self := fun _ _ _ _ _ st h => wpAny_pyIter_rangeiter st h
end L2

namespace L2
open PySem PySem.Spec PyProof.Rows
section
variable {X : Cx} {tg : Expr}
def iList (K : PySem.W.Frag) (tl : TE) : TI := fun σ H R => tl σ H fun x H1 => ∃ a, x = .ref a ∧ (∃ xs, SqL K H1 a xs) ∧ R (Itl K a) H1
def iTup (K : PySem.W.Frag) (tl : TE) : TI := fun σ H R => tl σ H fun x H1 => ∃ a, x = .ref a ∧ (∃ xs, SqT K H1 a xs) ∧ R (Itt K a) H1
theorem pi_list {l : Expr} {tl : TE} (hl : PE X l tl) : PI X tg l (iList X.K tl) := by
  intro pins s σ H R I h
  refine thn (hl pins s σ H _ I h) fun v s1 ⟨x, H1, I1, r1, q1⟩ => ?_
  obtain ⟨a, e, ⟨xs, hq⟩, q⟩ := q1
  subst e
  cases r1
  obtain ⟨its, rv, p, hz⟩ := I1.list hq
  refine wpAny_pyIter_list p.isList ?_
  refine ⟨s1.heap.objs.size, [s1.heap.objs.size], _, _, H1, rfl, I1.kept (t' := s1.toks) fun b o e => Heap.get?_push_of_some _ e, turn_list a _, ⟨_, Heap.get?_push_size _ rfl, rfl, rfl⟩, fun b hb => ?_, q⟩
  have e : b = s1.heap.objs.size := by simpa using hb
  subst e
  exact I1.fpOk (Nat.le_refl _) (I1.hok.fresh (Nat.le_refl _))
theorem pi_tup {l : Expr} {tl : TE} (hl : PE X l tl) : PI X tg l (iTup X.K tl) := by
  intro pins s σ H R I h
  refine thn (hl pins s σ H _ I h) fun v s1 ⟨x, H1, I1, r1, q1⟩ => ?_
  obtain ⟨a, e, ⟨xs, hq⟩, q⟩ := q1
  subst e
  cases r1
  obtain ⟨its, rv, p, hz⟩ := I1.tuple hq
  refine wpAny_pyIter_tuple (show s1.heap.IsTuple a its.toArray from p) ?_
  refine ⟨s1.heap.objs.size, [s1.heap.objs.size], _, _, H1, rfl, I1.kept (t' := s1.toks) fun b o e => Heap.get?_push_of_some _ e, turn_tuple a _, ⟨_, Heap.get?_push_size _ rfl, rfl, rfl⟩, fun b hb => ?_, q⟩
  have e : b = s1.heap.objs.size := by simpa using hb
  subst e
  exact I1.fpOk (Nat.le_refl _) (I1.hok.fresh (Nat.le_refl _))
theorem range_it {pins : List (Addr × Obj)} {σ : St} {H : Hp} {s : Shared} {R : It → Hp → Prop} {E : Value → Shared → Prop} {lo hi : Int} {t u v : Tok} {tk : Nat} (I : Inv X pins σ H s) (h1 : -(2 ^ 62) ≤ lo) (h2 : lo < 2 ^ 62) (h3 : -(2 ^ 62) ≤ hi) (h4 : hi < 2 ^ 62)
    (q : R (Itr lo (hi - lo).toNat) H) : wpAny (model X.prog X.w) X.A (pyIter (.ref s.heap.objs.size)) (PIE X pins σ tg R) E { s with heap := s.heap.push { cls := .type "range", data := .fields #[.int lo t, .int hi u, .int 1 v] }, toks := tk } := by
  refine wpAny_pyIter_range (IsRange.new ..) (small_one h1 h2 h3 h4) ?_
  have I1 : Inv X pins σ H { s with heap := s.heap.push { cls := .type "range", data := .fields #[.int lo t, .int hi u, .int 1 v] }, toks := tk } := I.kept fun b o e => Heap.get?_push_of_some _ e
  refine ⟨(s.heap.push { cls := .type "range", data := .fields #[.int lo t, .int hi u, .int 1 v] }).objs.size, [(s.heap.push { cls := .type "range", data := .fields #[.int lo t, .int hi u, .int 1 v] }).objs.size], _, _, H, rfl,
    I1.kept (t' := tk) fun b o e => Heap.get?_push_of_some _ e, turn_range _ lo (hi - lo).toNat, ?_, fun b hb => ?_, q⟩
  · have e1 : lo + ((0 : Nat) : Int) * 1 = lo := by simp
    have e2 : (((hi - lo).toNat : Nat) : Int) - ((0 : Nat) : Int) = Builtin.Range.rangeSize lo hi 1 := by rw [rangeSize_one]; split <;> omega
    show IsRangeIter _ _ (lo + ((0 : Nat) : Int) * 1) ((((hi - lo).toNat : Nat) : Int) - ((0 : Nat) : Int)) 1
    rw [e1, e2]
    exact Heap.get?_push_size _ rfl
  · have e : b = (s.heap.push { cls := .type "range", data := .fields #[.int lo t, .int hi u, .int 1 v] }).objs.size := by simpa using hb
    subst e
    exact I1.fpOk (Nat.le_refl _) (I1.hok.fresh (Nat.le_refl _))
def iRng1 (ta : TA) : TI := fun σ H R => ta σ H fun vs H1 => ∃ j : Int, vs = [.int j] ∧ -(2 ^ 62) ≤ j ∧ j < 2 ^ 62 ∧ R (Itr 0 j.toNat) H1
theorem pi_range1 {a : Expr} {ta : TA} {p pos : Pos} (hg : Gl X "range") (hm : X.mg "range" = none) (ha : PA X [a] ta) (hs : starEach [a] X.env = [(false, eval a X.env)] := by rfl) : PI X tg (.Call (.Name "range" p) [a] [] pos) (iRng1 ta) := by
  intro pins s σ H R I h
  refine Call_ (ld_blt I hg hm boot_range (PyProof.Rows.callWith_type1 (thn (ha pos pins s σ H _ I h) fun us s1 ⟨vs, H1, I1, r1, q1⟩ => ?_) hs rfl))
  obtain ⟨j, e, q1, q2, q⟩ := q1
  subst e
  cases r1 with
  | cons r rr =>
    cases rr
    obtain ⟨t, rfl⟩ := r
    exact call_range_1 (range_it I1 (by omega) (by omega) q1 q2 (by simpa using q))
def tFor (wi : TI) (g : TG) (tb : TS) : TS := fun D σ H => wi σ H fun J H1 => ∃ W : Nat → Nat → St → Hp → Prop, (∃ m, W 0 m σ H1) ∧ ∀ i m σ H, W i m σ H →
  (J.stop i H ∧ D.nx σ H) ∨ (J.go i H ∧ ∃ N : St → Hp → Prop, (∀ σ' H', N σ' H' → ∃ m', m' < m ∧ W (i + 1) m' σ' H') ∧ ∀ x H', J.yld i H x H' → g x σ H' fun σ2 H2 => tb { D with nx := N, ct := N, bk := D.nx } σ2 H2)
def pinsAt (fp : List Addr) (h : Heap) : List (Addr × Obj) := fp.filterMap fun b => (h.get? b).map fun o => (b, o)
theorem mem_pinsAt {fp : List Addr} {h : Heap} {b : Addr} {o : Obj} (hb : b ∈ fp) (e : h.get? b = some o) : (b, o) ∈ pinsAt fp h := List.mem_filterMap.mpr ⟨b, hb, by rw [e]; rfl⟩
theorem of_pinsAt {fp : List Addr} {h : Heap} {p : Addr × Obj} (hp : p ∈ pinsAt fp h) : p.1 ∈ fp ∧ h.get? p.1 = some p.2 := by
  obtain ⟨b, hb, e⟩ := List.mem_filterMap.mp hp
  cases q : h.get? b with
  | none => rw [q] at e; cases e
  | some o =>
    rw [q] at e
    have e' : (b, o) = p := Option.some.inj e
    subst e'
    exact ⟨hb, q⟩
theorem Inv.pinned {pins : List (Addr × Obj)} {σ : St} {H : Hp} {s : Shared} {fp : List Addr} (I : Inv X pins σ H s) (hf : ∀ b ∈ fp, FpOk X pins H b) (ho : ∀ b ∈ fp, ∃ o, s.heap.get? b = some o ∧ ∀ v, o.data ≠ .cell v) : Inv X (pins ++ pinsAt fp s.heap) σ H s :=
  I.pins_of fun p hp => (List.mem_append.mp hp).elim (fun z => I.pin p (List.mem_append_right _ z)) fun z => by
    obtain ⟨hb, e⟩ := of_pinsAt z
    obtain ⟨f0, f1, f2, _⟩ := hf p.1 hb
    obtain ⟨o, e', d⟩ := ho p.1 hb
    rw [e] at e'; cases e'
    exact ⟨e, f0, f1, f2, d⟩
theorem Inv.unpinned {pins pl : List (Addr × Obj)} {σ : St} {H : Hp} {s : Shared} (I : Inv X (pins ++ pl) σ H s) : Inv X pins σ H s := I.pins_of fun p hp => I.pin p (List.mem_append_right _ (List.mem_append_left _ hp))
theorem ps_for {iter : Expr} {body : List Stmt} {wi : TI} {g : TG} {tb : TS} {pos : Pos} (hp : PassesOwn (model X.prog X.w) X.A X.env X.xe) (hc : X.calm = true) (hi : PI X tg iter wi) (hg : PG X tg g) (hb : PSs X body tb)
    (hs : ∀ x, foldedSetIterable iter X.env x = pure x := by intro _; rfl) : PS X (.For tg iter body [] pos) (tFor wi g tb) := by
  intro pins s σ H D I h
  refine wpAny_For (thn (hi pins s σ H _ I h) fun v s1 h1 => thn h1 fun itv s2 h2 => ?_) hs
  obtain ⟨it, fp, tn, J, H2, e, I2, T, st2, f2, W, ⟨m0, w0⟩, turn⟩ := h2
  subst e
  -- what stays true of the iterator's objects through the loop
  have stat : ∀ {H' : Hp}, (∀ b ∈ fp, H' b = none) → ∀ b ∈ fp, FpOk X pins H' b := fun hn b hb => ⟨hn b hb, (f2 b hb).2⟩
  refine codeAny_forLoop_any (fun n s' => ∃ i σ' H', Inv X pins σ' H' s' ∧ tn i s'.heap ∧ (∀ b ∈ fp, H' b = none) ∧ W i n σ' H') ?_ m0 ⟨0, σ, H2, I2, st2, fun b hb => (f2 b hb).1, w0⟩
  rintro n s3 ⟨i, σ3, H3, I3, st3, fr3, w3⟩
  rcases turn i n σ3 H3 w3 with ⟨stop, qn⟩ | ⟨go, N, hN, step⟩
  · refine wpAny_passesOwn hp (thn (T.done X rfl rfl rfl hc i pins s3 σ3 H3 X.xe I3 (stat fr3) st3 stop) fun r s4 ⟨hr, I4⟩ => ?_)
    subst hr
    exact wpAny_execs_nil ⟨σ3, H3, I4, qn⟩
  · refine wpAny_passesOwn hp (thn (T.item X rfl rfl rfl hc i pins s3 σ3 H3 X.xe I3 (stat fr3) st3 go) fun r s4 ⟨u, hr, h4⟩ => ?_)
    subst hr
    refine wpAny_passesOwn hp (thn h4 fun _ s5 ⟨x, H5, I5, r5, y5, st5, fr5⟩ => ?_)
    have I5' := I5.pinned (stat fr5) (T.obj _ _ st5)
    refine wpAny_passesOwn hp (thn (hg _ s5 σ3 H5 x u _ I5' r5 (step x H5 y5)) fun _ s6 ⟨σ6, H6, I6, q6⟩ => ?_)
    refine wpAny_passesOwn hp (thn (hb _ s6 σ6 H6 _ I6 q6) fun f s7 q7 => ?_)
    have again : ∀ {σ7 : St} {H7 : Hp}, Inv X (pins ++ pinsAt fp s5.heap) σ7 H7 s7 → N σ7 H7 → ∃ m, m < n ∧ ∃ i σ' H', Inv X pins σ' H' s7 ∧ tn i s7.heap ∧ (∀ b ∈ fp, H' b = none) ∧ W i m σ' H' := fun {σ7 H7} I7 n7 => by
      obtain ⟨m', hm, w7⟩ := hN σ7 H7 n7
      refine ⟨m', hm, i + 1, σ7, H7, I7.unpinned, T.keep _ _ _ st5 fun b hb o e => (I7.pin (b, o) (List.mem_append_right _ (List.mem_append_right _ (mem_pinsAt hb e)))).1, fun b hb => ?_, w7⟩
      obtain ⟨o, e, d⟩ := T.obj _ _ st5 b hb
      exact (I7.pin (b, o) (List.mem_append_right _ (List.mem_append_right _ (mem_pinsAt hb e)))).2.1
    cases f with
    | next => obtain ⟨σ7, H7, I7, n7⟩ := q7; exact again I7 n7
    | cont => obtain ⟨σ7, H7, I7, n7⟩ := q7; exact again I7 n7
    | brk => obtain ⟨σ7, H7, I7, q7⟩ := q7; exact ⟨σ7, H7, I7.unpinned, q7⟩
    | ret v => obtain ⟨x7, σ7, H7, I7, r7, q7⟩ := q7; exact ⟨x7, σ7, H7, I7.unpinned, r7, q7⟩
end

theorem for_list {K : PySem.W.Frag} {a : Addr} {xs : List V} {g : TG} {tb : TS} {D : Ends} {σ : St} {H : Hp} (Pv : Nat → St → Hp → Prop) (h0 : Pv 0 σ H) (hl : ∀ i σ H, i ≤ xs.length → Pv i σ H → SqL K H a xs)
    (hs : ∀ i x σ H, xs[i]? = some x → Pv i σ H → g x σ H fun σ2 H2 => tb { D with nx := Pv (i + 1), ct := Pv (i + 1), bk := D.nx } σ2 H2) (hd : ∀ σ H, Pv xs.length σ H → D.nx σ H) :
    ∃ W : Nat → Nat → St → Hp → Prop, (∃ m, W 0 m σ H) ∧ ∀ i m σ H, W i m σ H →
      ((Itl K a).stop i H ∧ D.nx σ H) ∨ ((Itl K a).go i H ∧ ∃ N : St → Hp → Prop, (∀ σ' H', N σ' H' → ∃ m', m' < m ∧ W (i + 1) m' σ' H') ∧ ∀ x H', (Itl K a).yld i H x H' → g x σ H' fun σ2 H2 => tb { D with nx := N, ct := N, bk := D.nx } σ2 H2) := by
  refine ⟨fun i m σ H => m = xs.length - i ∧ i ≤ xs.length ∧ Pv i σ H, ⟨xs.length, by simp, Nat.zero_le _, h0⟩, ?_⟩
  rintro i m σ H ⟨rfl, hi, p⟩
  have q := hl i σ H hi p
  by_cases hlt : i < xs.length
  · refine .inr ⟨⟨xs, xs[i], q, by simp [hlt]⟩, Pv (i + 1), fun σ' H' p' => ⟨xs.length - (i + 1), by omega, rfl, hlt, p'⟩, fun x H' y => ?_⟩
    obtain ⟨e, y⟩ := y
    subst e
    exact hs i x σ _ (y xs q) p
  · have e : i = xs.length := by omega
    subst e
    exact .inl ⟨⟨xs, q, Nat.le_refl _⟩, hd σ H p⟩
theorem for_tup {K : PySem.W.Frag} {a : Addr} {xs : List V} {g : TG} {tb : TS} {D : Ends} {σ : St} {H : Hp} (Pv : Nat → St → Hp → Prop) (h0 : Pv 0 σ H) (hl : ∀ i σ H, i ≤ xs.length → Pv i σ H → SqT K H a xs)
    (hs : ∀ i x σ H, xs[i]? = some x → Pv i σ H → g x σ H fun σ2 H2 => tb { D with nx := Pv (i + 1), ct := Pv (i + 1), bk := D.nx } σ2 H2) (hd : ∀ σ H, Pv xs.length σ H → D.nx σ H) :
    ∃ W : Nat → Nat → St → Hp → Prop, (∃ m, W 0 m σ H) ∧ ∀ i m σ H, W i m σ H →
      ((Itt K a).stop i H ∧ D.nx σ H) ∨ ((Itt K a).go i H ∧ ∃ N : St → Hp → Prop, (∀ σ' H', N σ' H' → ∃ m', m' < m ∧ W (i + 1) m' σ' H') ∧ ∀ x H', (Itt K a).yld i H x H' → g x σ H' fun σ2 H2 => tb { D with nx := N, ct := N, bk := D.nx } σ2 H2) := by
  refine ⟨fun i m σ H => m = xs.length - i ∧ i ≤ xs.length ∧ Pv i σ H, ⟨xs.length, by simp, Nat.zero_le _, h0⟩, ?_⟩
  rintro i m σ H ⟨rfl, hi, p⟩
  have q := hl i σ H hi p
  by_cases hlt : i < xs.length
  · refine .inr ⟨⟨xs, xs[i], q, by simp [hlt]⟩, Pv (i + 1), fun σ' H' p' => ⟨xs.length - (i + 1), by omega, rfl, hlt, p'⟩, fun x H' y => ?_⟩
    obtain ⟨e, y⟩ := y
    subst e
    exact hs i x σ _ (y xs q) p
  · have e : i = xs.length := by omega
    subst e
    exact .inl ⟨⟨xs, q, Nat.le_refl _⟩, hd σ H p⟩
theorem for_range {lo : Int} {n : Nat} {g : TG} {tb : TS} {D : Ends} {σ : St} {H : Hp} (Pv : Nat → St → Hp → Prop) (h0 : Pv 0 σ H)
    (hs : ∀ i σ H, i < n → Pv i σ H → g (.int (lo + i)) σ H fun σ2 H2 => tb { D with nx := Pv (i + 1), ct := Pv (i + 1), bk := D.nx } σ2 H2) (hd : ∀ σ H, Pv n σ H → D.nx σ H) :
    ∃ W : Nat → Nat → St → Hp → Prop, (∃ m, W 0 m σ H) ∧ ∀ i m σ H, W i m σ H →
      ((Itr lo n).stop i H ∧ D.nx σ H) ∨ ((Itr lo n).go i H ∧ ∃ N : St → Hp → Prop, (∀ σ' H', N σ' H' → ∃ m', m' < m ∧ W (i + 1) m' σ' H') ∧ ∀ x H', (Itr lo n).yld i H x H' → g x σ H' fun σ2 H2 => tb { D with nx := N, ct := N, bk := D.nx } σ2 H2) := by
  refine ⟨fun i m σ H => m = n - i ∧ i ≤ n ∧ Pv i σ H, ⟨n, by simp, Nat.zero_le _, h0⟩, ?_⟩
  rintro i m σ H ⟨rfl, hi, p⟩
  by_cases hlt : i < n
  · refine .inr ⟨hlt, Pv (i + 1), fun σ' H' p' => ⟨n - (i + 1), by omega, rfl, hlt, p'⟩, fun x H' y => ?_⟩
    obtain ⟨e, y⟩ := y
    subst e y
    exact hs i σ _ hlt p
  · have e : i = n := by omega
    subst e
    exact .inl ⟨Nat.le_refl _, hd σ H p⟩
end L2

namespace L2
open PySem PySem.Spec PyProof.Rows

abbrev R2 := V → V → Hp → VK → Prop
def OpR (X : Cx) (f : Value → Value → Sem Value) (r : R2) : Prop :=
  ∀ (pins : List (Addr × Obj)) (s : Shared) (σ : St) (H : Hp) (x y : V) (v u : Value) (Q : VK), Inv X pins σ H s → RelV x v → RelV y u → r x y H Q →
    wpAny (model X.prog X.w) X.A (f v u) (EP X pins σ Q) X.xe s
def CallR (X : Cx) (f : Value) (r : List V → Hp → VK → Prop) : Prop :=
  ∀ (pins : List (Addr × Obj)) (s : Shared) (σ : St) (H : Hp) (xs : List V) (us : List Value) (Q : VK), Inv X pins σ H s → Vals xs us → r xs H Q →
    wpAny (model X.prog X.w) X.A (call f us) (EP X pins σ Q) X.xe s
def TruR (X : Cx) (r : V → Hp → (Bool → Hp → Prop) → Prop) : Prop :=
  ∀ (pins : List (Addr × Obj)) (s : Shared) (σ : St) (H : Hp) (x : V) (v : Value) (Q : Bool → Hp → Prop), Inv X pins σ H s → RelV x v → r x H Q →
    wpAny (model X.prog X.w) X.A (truthy v) (TP X pins σ Q) X.xe s

def tOp (r : R2) (ta tb : TE) : TE := fun σ H Q => ta σ H fun x H1 => tb σ H1 fun y H2 => r x y H2 Q
def rI (C : Int → Int → Prop) (g : Int → Int → V) : R2 := fun x y H Q => ∃ i j, x = .int i ∧ y = .int j ∧ C i j ∧ Q (g i j) H
def rI0 (g : Int → Int → V) : R2 := fun x y H Q => ∃ i j, x = .int i ∧ y = .int j ∧ Q (g i j) H
section
variable {X : Cx} {a b c : Expr} {ta tb tc : TE} {pos : Pos}

theorem binT (ha : PE X a ta) (hb : PE X b tb) {pins : List (Addr × Obj)} {s : Shared} {σ : St} {H : Hp} {R : V → V → Hp → Prop} (I : Inv X pins σ H s)
    (h : ta σ H fun x H1 => tb σ H1 fun y H2 => R x y H2) {Q : Value → Shared → Prop} {f : Value → Value → Sem Value}
    (hf : ∀ v u s2 x y H2, Inv X pins σ H2 s2 → RelV x v → RelV y u → R x y H2 → wpAny (model X.prog X.w) X.A (f v u) Q X.xe s2) :
    wpAny (model X.prog X.w) X.A (eval a X.env) (fun v s₁ => wpAny (model X.prog X.w) X.A (eval b X.env) (fun u s₂ => wpAny (model X.prog X.w) X.A (f v u) Q X.xe s₂) X.xe s₁) X.xe s := by
  refine thn (ha pins s σ H _ I h) fun v s1 ⟨x, H1, I1, r1, q1⟩ => ?_
  refine thn (hb pins s1 σ H1 _ I1 q1) fun u s2 ⟨y, H2, I2, r2, q2⟩ => ?_
  exact hf v u s2 x y H2 I2 r1 r2 q2

theorem pe_op {op : Operator} {r : R2} (ho : OpR X (binaryOp op) r) (ha : PE X a ta) (hb : PE X b tb) : PE X (.BinOp a op b pos) (tOp r ta tb) := by
  intro pins s σ H Q I h
  exact wpAny_BinOp (binT ha hb I h fun v u s2 x y H2 I2 rx ry q => ho pins s2 σ H2 x y v u Q I2 rx ry q)
theorem opI {f : Value → Value → Sem Value} {C : Int → Int → Prop} {g : Int → Int → Int}
    (rule : ∀ (i j : Int) (t u : Tok) (s : Shared) (Q : Value → Shared → Prop) (E : Value → Shared → Prop), C i j → Q (.int (g i j) s.toks) { s with toks := s.toks + 1 } → wpAny (model X.prog X.w) X.A (f (.int i t) (.int j u)) Q E s) :
    OpR X f (rI C fun i j => .int (g i j)) := by
  intro pins s σ H x y v u Q I rx ry h
  obtain ⟨i, j, rfl, rfl, hc, q⟩ := h
  obtain ⟨t, rfl⟩ := rx
  obtain ⟨t', rfl⟩ := ry
  exact rule i j t t' s _ _ hc ⟨.int (g i j), H, I.tok _, ⟨_, rfl⟩, q⟩
theorem opI0 {f : Value → Value → Sem Value} {g : Int → Int → Int}
    (rule : ∀ (i j : Int) (t u : Tok) (s : Shared) (Q : Value → Shared → Prop) (E : Value → Shared → Prop), Q (.int (g i j) s.toks) { s with toks := s.toks + 1 } → wpAny (model X.prog X.w) X.A (f (.int i t) (.int j u)) Q E s) :
    OpR X f (rI0 fun i j => .int (g i j)) := by
  intro pins s σ H x y v u Q I rx ry h
  obtain ⟨i, j, rfl, rfl, q⟩ := h
  obtain ⟨t, rfl⟩ := rx
  obtain ⟨t', rfl⟩ := ry
  exact rule i j t t' s _ _ ⟨.int (g i j), H, I.tok _, ⟨_, rfl⟩, q⟩
theorem opB0 {f : Value → Value → Sem Value} {g : Int → Int → Bool}
    (rule : ∀ (i j : Int) (t u : Tok) (s : Shared) (Q : Value → Shared → Prop) (E : Value → Shared → Prop), Q (.bool (g i j)) s → wpAny (model X.prog X.w) X.A (f (.int i t) (.int j u)) Q E s) :
    OpR X f (rI0 fun i j => .bl (g i j)) := by
  intro pins s σ H x y v u Q I rx ry h
  obtain ⟨i, j, rfl, rfl, q⟩ := h
  obtain ⟨t, rfl⟩ := rx
  obtain ⟨t', rfl⟩ := ry
  exact rule i j t t' s _ _ ⟨.bl (g i j), H, I, rfl, q⟩

def CDiv (i j : Int) : Prop := 0 < j ∧ j < 1073741824
def CMul (i j : Int) : Prop := (-(2 ^ 64) < i ∧ i < 2 ^ 64) ∨ (-(2 ^ 64) < j ∧ j < 2 ^ 64)
theorem CMul.ok {i j : Int} (h : CMul i j) : IntMulOk i j := by
  rcases h with ⟨h1, h2⟩ | ⟨h1, h2⟩
  · exact .of_left (intBits_le_64 h1 h2)
  · exact .of_right (intBits_le_64 h1 h2)
theorem op_add : OpR X (binaryOp .Add) (rI0 fun i j => .int (i + j)) := opI0 fun _ _ _ _ _ _ _ q => add_int q
theorem op_sub : OpR X (binaryOp .Sub) (rI0 fun i j => .int (i - j)) := opI0 fun _ _ _ _ _ _ _ q => sub_int q
theorem op_mul : OpR X (binaryOp .Mult) (rI CMul fun i j => .int (i * j)) := opI fun _ _ _ _ _ _ _ hc q => mul_int q hc.ok
theorem op_fdiv : OpR X (binaryOp .FloorDiv) (rI CDiv fun i j => .int (i / j)) := opI fun i j _ _ _ _ _ hc q => by
  have h1 : (0 : Int) < j := hc.1
  have h2 : j < 1073741824 := hc.2
  exact floordiv_int (by omega) (by rw [Int.fdiv_eq_ediv_of_nonneg i (by omega)]; exact q) (.inl (PyProof.noPylong_small (by omega)))
theorem op_mod : OpR X (binaryOp .Mod) (rI (fun _ j => 0 < j) fun i j => .int (i % j)) := opI fun i j _ _ _ _ _ hc q => by
  have h1 : (0 : Int) < j := hc
  exact mod_int' (by omega) (by rw [Int.fmod_eq_emod_of_nonneg i (by omega)]; exact q)
end

def scal : V → V → Bool
  | .non, .non => true | .non, .int _ => true | .int _, .non => true | .non, .bl _ => true | .bl _, .non => true | .non, .str _ => true | .str _, .non => true
  | .int _, .int _ => true | .bl _, .bl _ => true | .str _, .str _ => true | .byt _, .byt _ => true
  | .int _, .str _ => true | .str _, .int _ => true | .bl _, .str _ => true | .str _, .bl _ => true
  | _, _ => false
def rEq : R2 := fun x y H Q => scal x y = true ∧ Q (.bl (decide (x = y))) H
def rNe : R2 := fun x y H Q => scal x y = true ∧ Q (.bl (!decide (x = y))) H

theorem dec_int {i j : Int} : decide (V.int i = V.int j) = (i == j) := by
  rw [Bool.eq_iff_iff]
  simp
theorem dec_bl {i j : Bool} : decide (V.bl i = V.bl j) = (i == j) := by
  rw [Bool.eq_iff_iff]
  simp
theorem dec_str {i j : Str} : decide (V.str i = V.str j) = (i == j) := by
  rw [Bool.eq_iff_iff]
  simp
theorem dec_byt {i j : Array UInt8} : decide (V.byt i = V.byt j) = (i.toList == j.toList) := by
  rw [Bool.eq_iff_iff]
  cases i
  cases j
  simp

section
variable {X : Cx} {a b c : Expr} {ta tb tc : TE} {pos : Pos}
theorem fin_bl {pins : List (Addr × Obj)} {σ : St} {H : Hp} {s : Shared} {Q : VK} {k k' : Bool} (I : Inv X pins σ H s) (q : Q (.bl k) H) (e : k = k') : EP X pins σ Q (.bool k') s := by
  subst e
  exact ⟨.bl k, H, I, rfl, q⟩
theorem op_eq : OpR X (compareOp .Eq) rEq := by
  intro pins s σ H x y v u Q I rx ry h
  obtain ⟨hs, q⟩ := h
  cases x with
  | non =>
    cases rx
    cases y with
    | non => cases ry; exact PySem.EqNone.eq_none_none (fin_bl I q (by simp))
    | bl j => cases ry; exact PySem.EqNone.eq_none_bool (fin_bl I q (by simp))
    | int j => obtain ⟨t', rfl⟩ := ry; exact PySem.EqNone.eq_none_int (fin_bl I q (by simp))
    | str j => obtain ⟨t', rfl⟩ := ry; exact PySem.EqNone.eq_none_str (fin_bl I q (by simp))
    | _ => exact absurd (show false = true from hs) Bool.false_ne_true
  | bl i =>
    cases rx
    cases y with
    | non => cases ry; exact PySem.EqNone.eq_bool_none (fin_bl I q (by simp))
    | bl j => cases ry; exact eq_bool (fin_bl I q dec_bl)
    | str j => obtain ⟨t', rfl⟩ := ry; exact PySem.EqMixed.eq_bool_str (fin_bl I q (by simp))
    | _ => exact absurd (show false = true from hs) Bool.false_ne_true
  | int i =>
    obtain ⟨t, rfl⟩ := rx
    cases y with
    | non => cases ry; exact PySem.EqNone.eq_int_none (fin_bl I q (by simp))
    | int j => obtain ⟨t', rfl⟩ := ry; exact eq_int (fin_bl I q dec_int)
    | str j => obtain ⟨t', rfl⟩ := ry; exact PySem.EqMixed.eq_int_str (fin_bl I q (by simp))
    | _ => exact absurd (show false = true from hs) Bool.false_ne_true
  | str i =>
    obtain ⟨t, rfl⟩ := rx
    cases y with
    | non => cases ry; exact PySem.EqNone.eq_str_none (fin_bl I q (by simp))
    | bl j => cases ry; exact PySem.EqMixed.eq_str_bool (fin_bl I q (by simp))
    | int j => obtain ⟨t', rfl⟩ := ry; exact PySem.EqMixed.eq_str_int (fin_bl I q (by simp))
    | str j => obtain ⟨t', rfl⟩ := ry; exact eq_str (fin_bl I q dec_str)
    | _ => exact absurd (show false = true from hs) Bool.false_ne_true
  | byt i =>
    obtain ⟨t, rfl⟩ := rx
    cases y with
    | byt j => obtain ⟨t', rfl⟩ := ry; exact PySem.W.eq_bytes (fin_bl I q dec_byt)
    | _ => exact absurd (show false = true from hs) Bool.false_ne_true
  | _ => cases y <;> exact absurd (show false = true from hs) Bool.false_ne_true
theorem op_ne : OpR X (compareOp .NotEq) rNe := by
  intro pins s σ H x y v u Q I rx ry h
  obtain ⟨hs, q⟩ := h
  cases x with
  | non =>
    cases rx
    cases y with
    | non => cases ry; exact PySem.EqNone.ne_none_none (fin_bl I q (by simp))
    | bl j => cases ry; exact PySem.EqNone.ne_none_bool (fin_bl I q (by simp))
    | int j => obtain ⟨t', rfl⟩ := ry; exact PySem.EqNone.ne_none_int (fin_bl I q (by simp))
    | str j => obtain ⟨t', rfl⟩ := ry; exact PySem.EqNone.ne_none_str (fin_bl I q (by simp))
    | _ => exact absurd (show false = true from hs) Bool.false_ne_true
  | bl i =>
    cases rx
    cases y with
    | non => cases ry; exact PySem.EqNone.ne_bool_none (fin_bl I q (by simp))
    | bl j => cases ry; exact ne_bool (fin_bl I q (congrArg not dec_bl))
    | str j => obtain ⟨t', rfl⟩ := ry; exact PySem.EqMixed.ne_bool_str (fin_bl I q (by simp))
    | _ => exact absurd (show false = true from hs) Bool.false_ne_true
  | int i =>
    obtain ⟨t, rfl⟩ := rx
    cases y with
    | non => cases ry; exact PySem.EqNone.ne_int_none (fin_bl I q (by simp))
    | int j => obtain ⟨t', rfl⟩ := ry; exact ne_int (fin_bl I q (congrArg not dec_int))
    | str j => obtain ⟨t', rfl⟩ := ry; exact PySem.EqMixed.ne_int_str (fin_bl I q (by simp))
    | _ => exact absurd (show false = true from hs) Bool.false_ne_true
  | str i =>
    obtain ⟨t, rfl⟩ := rx
    cases y with
    | non => cases ry; exact PySem.EqNone.ne_str_none (fin_bl I q (by simp))
    | bl j => cases ry; exact PySem.EqMixed.ne_str_bool (fin_bl I q (by simp))
    | int j => obtain ⟨t', rfl⟩ := ry; exact PySem.EqMixed.ne_str_int (fin_bl I q (by simp))
    | str j => obtain ⟨t', rfl⟩ := ry; exact ne_str (fin_bl I q (congrArg not dec_str))
    | _ => exact absurd (show false = true from hs) Bool.false_ne_true
  | byt i =>
    obtain ⟨t, rfl⟩ := rx
    cases y with
    | byt j => obtain ⟨t', rfl⟩ := ry; exact PySem.W.ne_bytes (fin_bl I q (congrArg not dec_byt))
    | _ => exact absurd (show false = true from hs) Bool.false_ne_true
  | _ => cases y <;> exact absurd (show false = true from hs) Bool.false_ne_true

theorem op_lt : OpR X (compareOp .Lt) (rI0 fun i j => .bl (decide (i < j))) := opB0 fun _ _ _ _ _ _ _ q => lt_int q
theorem op_le : OpR X (compareOp .LtE) (rI0 fun i j => .bl (decide (i ≤ j))) := opB0 fun _ _ _ _ _ _ _ q => le_int q
theorem op_gt : OpR X (compareOp .Gt) (rI0 fun i j => .bl (decide (j < i))) := opB0 fun _ _ _ _ _ _ _ q => gt_int q
theorem op_isN : OpR X (compareOp .Is) (fun x y H Q => y = .non ∧ Q (.bl (decide (x = .non))) H) := by
  intro pins s σ H x y v u Q I rx ry h
  obtain ⟨rfl, q⟩ := h
  cases ry
  refine is_none_gen (fin_bl I q ?_)
  cases x <;> first
    | (cases rx; rfl)
    | (obtain ⟨t, rfl⟩ := rx; rfl)
theorem nomark (b : Expr) {op : CmpOp} (h : op ≠ .In := by decide) (h2 : op ≠ .NotIn := by decide) : behindInMarks op b = false := by
  have e1 : (op == CmpOp.In) = false := by cases op <;> first | rfl | exact absurd rfl h
  have e2 : (op == CmpOp.NotIn) = false := by cases op <;> first | rfl | exact absurd rfl h2
  cases b <;> simp [behindInMarks, e1, e2]
theorem pe_cmpR {op : CmpOp} {r : R2} (ho : OpR X (compareOp op) r) (ha : PE X a ta) (hb : PE X b tb) (hm : behindInMarks op b = false) : PE X (.Compare a [op] [b] pos) (tOp r ta tb) := by
  intro pins s σ H Q I h
  exact wpAny_Compare1 (binT ha hb I h fun v u s2 x y H2 I2 rx ry q => ho pins s2 σ H2 x y v u Q I2 rx ry q) hm
def tTest (t : TE) : TT := fun σ H Q => t σ H fun x H' => ∃ k, x = .bl k ∧ Q k H'
theorem pt_cmpR {op : CmpOp} {r : R2} (ho : OpR X (compareOp op) r) (ha : PE X a ta) (hb : PE X b tb) (hm : behindInMarks op b = false) : PT X (.Compare a [op] [b] pos) (tTest (tOp r ta tb)) := by
  intro pins s σ H Q I h
  refine wpAny_isTrue_Compare1 (thn (ha pins s σ H _ I h) fun v s1 ⟨x, H1, I1, r1, q1⟩ => thn (hb pins s1 σ H1 _ I1 q1) fun u s2 ⟨y, H2, I2, r2, q2⟩ =>
    thn (ho pins s2 σ H2 x y v u _ I2 r1 r2 q2) fun c s3 ⟨z, H3, I3, r3, k, e, q3⟩ => ?_) hm
  subst e
  cases r3
  exact wpAny_truthy_bool ⟨H3, I3, q3⟩
def tChain (r r' : R2) (ta tb tc : TE) : TE := fun σ H Q => ta σ H fun x H1 => tb σ H1 fun y H2 => r x y H2 fun z H3 => ∃ k, z = .bl k ∧
  (if k = true then tc σ H3 fun w' H4 => r' y w' H4 Q else Q (.bl false) H3)
theorem pe_chain {op op' : CmpOp} {r r' : R2} (ho : OpR X (compareOp op) r) (ho' : OpR X (compareOp op') r') (ha : PE X a ta) (hb : PE X b tb) (hc : PE X c tc)
    (hm : lastMarks [op, op'] [b, c] = false := by with_unfolding_all rfl) : PE X (.Compare a [op, op'] [b, c] pos) (tChain r r' ta tb tc) := by
  intro pins s σ H Q I h
  refine Compare_chain (thn (ha pins s σ H _ I h) fun v s1 ⟨x, H1, I1, r1, q1⟩ => chain_link (thn (hb pins s1 σ H1 _ I1 q1) fun u s2 ⟨y, H2, I2, r2, q2⟩ =>
    thn (ho pins s2 σ H2 x y v u _ I2 r1 r2 q2) fun d s3 ⟨z, H3, I3, r3, k, e, q3⟩ => ?_)) hm
  subst e
  cases r3
  refine wpAny_truthy_bool ?_
  cases k with
  | false => exact ite_ff ⟨.bl false, H3, I3, rfl, q3⟩
  | true => exact ite_tt (chain_last (thn (hc pins s3 σ H3 _ I3 q3) fun w' s4 ⟨z', H4, I4, r4, q4⟩ => ho' pins s4 σ H4 y z' u w' Q I4 r2 r4 q4))
def TruV (K : PySem.W.Frag) (x : V) (H : Hp) (k : Bool) : Prop :=
  match x with
  | .non => k = false
  | .bl b => k = b
  | .int i => k = (i != 0)
  | .str y => y.length ≤ sizeLine ∧ k = ((y.length : Int) != 0)
  | .byt y => y.size ≤ sizeLine ∧ k = ((y.size : Int) != 0)
  | .ref p => (∃ xs, SqL K H p xs ∧ k = !xs.isEmpty) ∨ (∃ xs, SqT K H p xs ∧ k = !xs.isEmpty) ∨ ∃ kvs, H p = some (.dK kvs) ∧ k = !kvs.isEmpty
  | _ => False
theorem isEmpty_kv {κ : Type} {kvs : List (κ × V)} {vs : List (κ × Value)} (r : KV kvs vs) : (!vs.isEmpty) = !kvs.isEmpty := by
  cases r <;> rfl
theorem isEmpty_of {xs : List V} {its : List Value} (r : Vals xs its) : (!its.toArray.isEmpty) = !xs.isEmpty := by
  cases r <;> simp
theorem line63 : (sizeLine : Nat) < 2 ^ 63 := by rw [sizeLine_eq]; decide
theorem tru_ok : TruR X (fun x H Q => ∃ k, TruV X.K x H k ∧ Q k H) := by
  intro pins s σ H x v Q I rx h
  obtain ⟨k, e, q⟩ := h
  have hl := line63
  have hs : sizeLine = 16777216 := sizeLine_eq
  cases x with
  | non =>
    cases rx
    have e' : k = false := e
    subst e'
    exact truthy_none ⟨H, I, q⟩
  | bl b =>
    cases rx
    have e' : k = b := e
    subst e'
    exact wpAny_truthy_bool ⟨H, I, q⟩
  | int i =>
    obtain ⟨t, rfl⟩ := rx
    have e' : k = (i != 0) := e
    subst e'
    exact PySem.P.truthy_int ⟨H, I, q⟩
  | str y =>
    obtain ⟨t, rfl⟩ := rx
    obtain ⟨hy, e'⟩ : y.length ≤ sizeLine ∧ k = ((y.length : Int) != 0) := e
    subst e'
    exact PySem.P.truthy_str (by omega) ⟨H, I.tok _, q⟩
  | byt y =>
    obtain ⟨t, rfl⟩ := rx
    obtain ⟨hy, e'⟩ : y.size ≤ sizeLine ∧ k = ((y.size : Int) != 0) := e
    subst e'
    exact PySem.W.truthy_bytes (by omega) ⟨H, I.tok _, q⟩
  | ref p =>
    cases rx
    have e' : (∃ xs, SqL X.K H p xs ∧ k = !xs.isEmpty) ∨ (∃ xs, SqT X.K H p xs ∧ k = !xs.isEmpty) ∨ ∃ kvs, H p = some (.dK kvs) ∧ k = !kvs.isEmpty := e
    rcases e' with ⟨xs, hx, e'⟩ | ⟨xs, hx, e'⟩ | ⟨kvs, hx, e'⟩
    · subst e'
      obtain ⟨its, r, pl, hz⟩ := I.list hx
      have hlen := r.length
      exact wpAny_truthy_list pl.isList (by simp only [List.size_toArray]; omega) ⟨H, I.tok _, by rw [isEmpty_of r]; exact q⟩
    · subst e'
      obtain ⟨its, r, pl, hz⟩ := I.tuple hx
      have hlen := r.length
      exact truthy_tuple pl (by simp only [List.size_toArray]; omega) ⟨H, I.tok _, by rw [isEmpty_of r]; exact q⟩
    · subst e'
      obtain ⟨hz, hS, vs, r, m⟩ : kvs.length ≤ sizeLine ∧ (p == sysModules) = false ∧ ∃ vs, KV kvs vs ∧ s.heap.DictOf (mixKind X.prog X.w) p vs := I.hok p _ hx
      have hlen : kvs.length = vs.length := Paired.length r
      exact wpAny_truthy_dict hS m (by omega) ⟨H, I.tok _, by rw [isEmpty_kv r]; exact q⟩
  | _ => exact (show False from e).elim
theorem pt_truth (ha : PE X a ta) (he : ∀ whole, isTrue a X.env whole = (do let v ← whole; standAt a.pos; holding [v] (truthy v))) :
    PT X a (fun σ H Q => ta σ H fun x H' => ∃ k, TruV X.K x H' k ∧ Q k H') := by
  intro pins s σ H Q I h
  exact isTrue_plain (thn (ha pins s σ H _ I h) fun v s1 ⟨x, H1, I1, r1, q1⟩ => tru_ok pins s1 σ H1 x v Q I1 r1 q1) (he _)

theorem vals1 {x : V} {us : List Value} (r : Vals [x] us) : ∃ u, us = [u] ∧ RelV x u := by
  cases r with
  | cons r1 r2 => cases r2; exact ⟨_, rfl, r1⟩
theorem vals2 {x y : V} {us : List Value} (r : Vals [x, y] us) : ∃ u w', us = [u, w'] ∧ RelV x u ∧ RelV y w' := by
  cases r with
  | cons r1 r2 =>
    cases r2 with
    | cons r3 r4 => cases r4; exact ⟨_, _, rfl, r1, r3⟩
theorem call_min2 (hc : X.calm = true) : CallR X (.builtin "min") (fun xs H Q => ∃ i j, xs = [.int i, .int j] ∧ Q (.int (if j < i then j else i)) H) := by
  intro pins s σ H xs us Q I r h
  obtain ⟨i, j, rfl, q⟩ := h
  obtain ⟨u, w', rfl, ⟨t, rfl⟩, ⟨t', rfl⟩⟩ := vals2 r
  refine min_two_ints (I.ok.hd hc) fun h' tk k => ⟨_, H, I.kept k, ?_, q⟩
  by_cases hj : j < i
  · rw [if_pos hj, if_pos hj]; exact ⟨_, rfl⟩
  · rw [if_neg hj, if_neg hj]; exact ⟨_, rfl⟩
end
end L2

namespace L2
open PySem PySem.Spec PyProof.Rows

structure ObjM (h : Heap) (x dx C : Addr) (mA : Str → Option Value) : Prop where
  obj : h.get? x = some (PySem.W.instObj C dx)
  ns : h.Ns1 dx mA
  ne : dx ≠ x

theorem lookIn_ns {h : Heap} {dx : Addr} {mA : Str → Option Value} (n : h.Ns1 dx mA) : ∃ od, h.get? dx = some od ∧ ∀ name, PySem.W.lookIn name od = some (mA name) := by
  obtain ⟨o, es, ep, ho, hd, hk, _, hm⟩ := n
  refine ⟨o, ho, fun name => ?_⟩
  have e := hm name
  unfold nsFind findBy at e
  rw [← Array.find?_toList] at e
  unfold PySem.W.lookIn
  rw [hd]
  dsimp only
  split
  · rename_i y q
    rw [q] at e
    exact congrArg some e
  · rename_i q
    rw [q] at e
    have a : es.toList.any (·.refKey) = false := by
      rw [List.any_eq_false]
      intro y hy
      obtain ⟨z, t, hkey⟩ := hk y (Array.mem_toList_iff.mp hy)
      simp [DictEntry.refKey, hkey]
    have a' : ¬ es.toList.any (·.refKey) = true := by rw [a]; exact Bool.false_ne_true
    rw [if_neg a']
    exact congrArg some e

theorem ObjM.look {h : Heap} {x dx C : Addr} {mA : Str → Option Value} (I : ObjM h x dx C mA) : ∃ od, PySem.W.InstAt h x (PySem.W.instObj C dx) C (some od) ∧ ∀ name, PySem.W.lookIn name od = some (mA name) :=
  let ⟨od, ho, hl⟩ := lookIn_ns I.ns
  ⟨od, ⟨I.obj, rfl, rfl, ho⟩, hl⟩

section
variable {prog : Program} {w : World} {A : Around} {E : Value → Shared → Prop} {s : Shared} {K : PySem.W.Frag} {x dx C f : Addr} {mA : Str → Option Value} {name : Str} {v : Value}

theorem get_map {expr : Bool} {Q : Value → Shared → Prop} (X : K.In s.heap) (I : ObjM s.heap x dx C mA) (hg : PySem.W.plainGet K C name = true) (hh : PySem.W.hasDictIn K C = true)
    (ha : PySem.W.findIn K (.ref C) name = some none) (hv : mA name = some v) (hv' : PySem.W.handedIn v = true) (h : Q v { s with toks := s.toks + 1 }) :
    wpAny (model prog w) A (getAttr (.ref x) name expr) Q E s := by
  obtain ⟨od, J, hl⟩ := I.look
  exact PySem.W.get_value X J (PySem.W.plainGet_of hg).1 (PySem.W.findObj_own hh ha rfl (by rw [hl, hv])) hv' h

theorem get_meth {pl : Sem Bool} {Q : Value × List Value → Shared → Prop} (X : K.In s.heap) (I : ObjM s.heap x dx C mA) (hg : PySem.W.plainGet K C name = true)
    (hf : PySem.W.findIn K (.ref C) name = some (some (.ref f))) (ht : PySem.W.isFn K (.ref f) = true) (hv : mA name = none) (h : Q (.ref f, [.ref x]) s) :
    wpAny (model prog w) A (getMethod (.ref x) name pl) Q E s := by
  obtain ⟨od, J, hl⟩ := I.look
  exact PySem.W.method_fn X J (PySem.W.plainGet_of hg).1 (PySem.W.plainGet_of hg).2 hf (beq_iff_eq.mp ht) (by show (PySem.W.lookIn name od).map (·.isSome) = some false; rw [hl, hv]; rfl) h

theorem set_map {ns : List Str} {Q : Unit → Shared → Prop} (X : K.In s.heap) (I : ObjM s.heap x dx C mA)
    (hs : PySem.W.findIn K (.ref C) "__setattr__" = some (some (.builtin "object.__setattr__"))) (hp : PySem.W.plainOver K C = true) (ht : PySem.W.takerIn K C name = some none) (hh : PySem.W.hasDictIn K C = true)
    (hw : PySem.Within mA ns) (hsz : ns.length ≤ sizeLine)
    (h : ∀ h', ObjM h' x dx C (fun y => if y = name then some v else mA y) → Heap.SameBut dx s.heap h' → Q () { s with heap := h', toks := s.toks + 2 }) :
    wpAny (model prog w) A (setAttr (.ref x) name v) Q E s := by
  obtain ⟨od, J, hl⟩ := I.look
  refine PySem.W.set_plain X J hs (PySem.W.osa_open (s := { s with toks := s.toks + 1 }) (r := none) X J hp ht fun b => ?_)
  obtain ⟨cd, hc, hd'⟩ := PySem.W.any_some hh
  have hx : s.heap.get? x = some ⟨.ref C, some dx, .plain, #[]⟩ := I.obj
  refine wpAny_bind (wpAny_pure (wpAny_bind (wpAny_bind (wpAny_loadPart hx (wpAny_bind (PySem.W.Looks.here (s := { s with toks := s.toks + 1 }) (PySem.W.looks_clsIn X hc) ?_))))))
  rw [hd']
  refine wpAny_pure (a := some dx) (wpAny_bind (wpAny_pure (wpAny_bind ?_)))
  refine wpAny_nsSet1 (s := { s with toks := s.toks + 1 }) I.ns fun h' hn2 hs2 => ?_
  obtain ⟨oD, esD, epD, hoD, hdD, hcD⟩ := hn2.count (PySem.Within.cons name v hw)
  refine wpAny_bind (wpAny_lookBehind hoD (by rw [hdD]; exact pastItsLine_dict (Nat.le_trans hcD (by rw [List.length_cons]; omega))) ?_)
  exact wpAny_pure (h _ ⟨(hs2.2 _ (Ne.symm I.ne)).trans I.obj, hn2, I.ne⟩ hs2)

theorem make_map {R : Result → Shared → Prop} {vs : List Value} {kw : List (Str × Value)} (X : K.In s.heap) (hm : PySem.W.makesIn K C = true)
    (hi : PySem.W.findIn K (.ref C) "__init__" = some (some (.ref f))) (hf : PySem.W.typeIn K (.ref f) = some (.type "function"))
    (h : codeAny (model prog w) (A.under (.builtin "type.__call__" ⟨.ref C :: vs, kw⟩)) (.call (.ref f) ⟨.ref (s.heap.objs.size + 1) :: vs, kw⟩) (PySem.W.InitBack (s.heap.objs.size + 1) R)
      { s with heap := (s.heap.push PySem.W.emptyDict).push (PySem.W.instObj C s.heap.objs.size) }) :
    codeAny (model prog w) A (.call (.ref C) ⟨vs, kw⟩) R s := by
  obtain ⟨hh, g, d, t, os⟩ := s
  exact PySem.W.make_core (PySem.W.makes_of X hm) (PySem.W.looks_findIn X hi) (fun self => PySem.W.bind_fn X self hf) (.inl rfl) h
end

def putF (f : Str) (v : V) : List (Str × V) → List (Str × V)
  | [] => [(f, v)]
  | (g, x) :: r => if g = f then (g, v) :: r else (g, x) :: putF f v r
theorem lookup_putF (f g : Str) (v : V) : ∀ fs : List (Str × V), (putF f v fs).lookup g = if g = f then some v else fs.lookup g
  | [] => by
    show List.lookup g [(f, v)] = _
    by_cases h : g = f
    · have hb : (g == f) = true := beq_iff_eq.mpr h
      simp only [List.lookup, hb, if_pos h]
    · have hb : (g == f) = false := beq_eq_false_iff_ne.mpr h
      simp only [List.lookup, hb, if_neg h]
  | (k, x) :: r => by
    have ih := lookup_putF f g v r
    rw [show putF f v ((k, x) :: r) = (if k = f then (k, v) :: r else (k, x) :: putF f v r) from rfl]
    by_cases hk : k = f
    · rw [if_pos hk]
      by_cases h : g = k
      · have hb : (g == k) = true := beq_iff_eq.mpr h
        simp only [List.lookup, hb, if_pos (h.trans hk)]
      · have hb : (g == k) = false := beq_eq_false_iff_ne.mpr h
        simp only [List.lookup, hb, if_neg (fun e : g = f => h (e.trans hk.symm))]
    · rw [if_neg hk]
      by_cases h : g = k
      · have hb : (g == k) = true := beq_iff_eq.mpr h
        simp only [List.lookup, hb, if_neg (fun e : g = f => hk (h.symm.trans e))]
      · have hb : (g == k) = false := beq_eq_false_iff_ne.mpr h
        simp only [List.lookup, hb]
        exact ih
theorem keys_putF (f : Str) (v : V) : ∀ fs : List (Str × V), f ∈ (putF f v fs).map (·.1) ∧ ∀ g, g ∈ fs.map (·.1) → g ∈ (putF f v fs).map (·.1)
  | [] => ⟨by simp [putF], fun g h => by simp at h⟩
  | (k, x) :: r => by
    obtain ⟨i1, i2⟩ := keys_putF f v r
    rw [show putF f v ((k, x) :: r) = (if k = f then (k, v) :: r else (k, x) :: putF f v r) from rfl]
    by_cases hk : k = f
    · rw [if_pos hk]
      subst hk
      exact ⟨by simp, fun g h => by simpa using h⟩
    · rw [if_neg hk]
      refine ⟨?_, fun g h => ?_⟩
      · rw [List.map_cons]
        exact List.mem_cons_of_mem _ i1
      · rw [List.map_cons] at h ⊢
        rcases List.mem_cons.mp h with e | e
        · exact List.mem_cons.mpr (.inl e)
        · exact List.mem_cons_of_mem _ (i2 g e)
theorem length_putF (f : Str) (v : V) : ∀ fs : List (Str × V), (putF f v fs).length ≤ fs.length + 1
  | [] => by simp [putF]
  | (k, x) :: r => by
    have ih := length_putF f v r
    rw [show putF f v ((k, x) :: r) = (if k = f then (k, v) :: r else (k, x) :: putF f v r) from rfl]
    by_cases hk : k = f
    · rw [if_pos hk, List.length_cons, List.length_cons]; omega
    · rw [if_neg hk, List.length_cons, List.length_cons]; omega

theorem RelO.some_of {v : V} {o : Option Value} (r : RelO (some v) o) : ∃ u, o = some u ∧ RelV v u := by
  cases o with
  | none => exact (show False from r).elim
  | some u => exact ⟨u, rfl, r⟩
theorem RelO.none_of {o : Option Value} (r : RelO none o) : o = none := by
  cases o with
  | none => rfl
  | some u => exact (show False from r).elim
theorem handed_of {v : V} {u : Value} (r : RelV v u) : PySem.W.handedIn u = true := by
  cases v with
  | non => cases (show u = Value.none from r); rfl
  | bl b => cases (show u = Value.bool b from r); rfl
  | int i => obtain ⟨t, e⟩ := (show ∃ t, u = Value.int i t from r); cases e; rfl
  | str x => obtain ⟨t, e⟩ := (show ∃ t, u = Value.str x t from r); cases e; rfl
  | byt b => obtain ⟨t, e⟩ := (show ∃ t, u = Value.bytes b t from r); cases e; rfl
  | flt b => obtain ⟨t, e⟩ := (show ∃ t, u = Value.float b t from r); cases e; rfl
  | ref a => cases (show u = Value.ref a from r); rfl
  | ty n => cases (show u = Value.type n from r); rfl

section
variable {P : Program} {w : World} {H H' : Hp} {h h' : Heap} {a C dx : Addr} {fs fs' : List (Str × V)}
theorem ins_get (hok : HOk P w H h) (e : H a = some (.ins C dx fs)) : ∃ mA, ObjM h a dx C mA ∧ (∀ f, RelO (fs.lookup f) (mA f)) ∧ PySem.Within mA (fs.map (·.1)) ∧ fs.length ≤ 1000 ∧ H dx = some (.own a) := by
  obtain ⟨d, z, ne, ob, mA, n, r, q⟩ := (show ObjOk P w H h a (.ins C dx fs) from hok a _ e)
  exact ⟨mA, ⟨ob, n, ne⟩, r, q, z, d⟩
end

structure Cls (K : PySem.W.Frag) (C : Addr) : Prop where
  pg : PySem.W.plainGet K C Str.empty = true
  hd : PySem.W.hasDictIn K C = true
  po : PySem.W.plainOver K C = true
  sa : PySem.W.findIn K (.ref C) "__setattr__" = some (some (.builtin "object.__setattr__"))
theorem Cls.get {K : PySem.W.Frag} {C : Addr} (c : Cls K C) (f : Str) : PySem.W.plainGet K C f = true := c.pg
def NoAttr (K : PySem.W.Frag) (C : Addr) (f : Str) : Prop := PySem.W.findIn K (.ref C) f = some none
theorem NoAttr.taker {K : PySem.W.Frag} {C : Addr} {f : Str} (n : NoAttr K C f) : PySem.W.takerIn K C f = some none := by
  unfold PySem.W.takerIn
  rw [show PySem.W.findIn K (.ref C) f = some none from n]
  rfl
structure Meth (K : PySem.W.Frag) (C : Addr) (m : Str) (f : Addr) : Prop where
  at_ : PySem.W.findIn K (.ref C) m = some (some (.ref f))
  fn : PySem.W.isFn K (.ref f) = true
  kp : PySem.W.keepIn K (.ref f) = true

section
variable {X : Cx} {pins : List (Addr × Obj)} {σ : St} {H : Hp} {s : Shared} {a C dx : Addr} {fs : List (Str × V)} {f : Str} {v : V} {A : Around} {E : Value → Shared → Prop}

theorem getattr_ok {b : Bool} {Q : Value → Shared → Prop} (I : Inv X pins σ H s) (e : H a = some (.ins C dx fs)) (c : Cls X.K C) (n : NoAttr X.K C f) (l : fs.lookup f = some v)
    (h : ∀ u s', Inv X pins σ H s' → RelV v u → Q u s') : wpAny (model X.prog X.w) A (getAttr (.ref a) f b) Q E s := by
  obtain ⟨mA, O, r, _, _, _⟩ := ins_get I.hok e
  obtain ⟨u, hu, ru⟩ := RelO.some_of (v := v) (o := mA f) (by rw [← l]; exact r f)
  exact get_map I.kIn O (c.get f) c.hd n hu (handed_of ru) (h u _ (I.tok _) ru)

theorem getmeth_ok {m : Str} {g : Addr} {pl : Sem Bool} {Q : Value × List Value → Shared → Prop} (I : Inv X pins σ H s) (e : H a = some (.ins C dx fs)) (c : Cls X.K C) (k : Meth X.K C m g) (l : fs.lookup m = none)
    (h : Q (.ref g, [.ref a]) s) : wpAny (model X.prog X.w) A (getMethod (.ref a) m pl) Q E s := by
  obtain ⟨mA, O, r, _, _, _⟩ := ins_get I.hok e
  have hn : mA m = none := RelO.none_of (by rw [← l]; exact r m)
  exact get_meth I.kIn O (c.get m) k.at_ k.fn hn h

theorem setattr_ok {y : V} {u : Value} {Q : Unit → Shared → Prop} (I : Inv X pins σ H s) (e : H a = some (.ins C dx fs)) (c : Cls X.K C) (n : NoAttr X.K C f) (hl : fs.length < 1000) (ry : RelV y u)
    (h : ∀ s', Inv X pins σ (upd H a (.ins C dx (putF f y fs))) s' → Q () s') : wpAny (model X.prog X.w) A (setAttr (.ref a) f u) Q E s := by
  obtain ⟨mA, O, r, wi, _, ho⟩ := ins_get I.hok e
  have hz : (fs.map (·.1)).length ≤ sizeLine := by rw [List.length_map, sizeLine_eq]; omega
  refine set_map I.kIn O c.sa c.po n.taker c.hd wi hz fun h' O' sb => h _ ?_
  have hd : ∃ o, h'.get? dx = some o := let ⟨o, _, _, e', _⟩ := O'.ns; ⟨o, e'⟩
  refine I.write (x := a) (e := dx) (by rw [e]; exact True.intro) (.inr ho) (fun b q hb z => (sb.2 b hb).trans z) hd ?_
  refine ⟨by rw [upd_ne O.ne]; exact ho, ?_, O.ne, O'.obj, _, O'.ns, fun g => ?_, fun g hg => ?_⟩
  · have := length_putF f y fs; omega
  · show RelO ((putF f y fs).lookup g) (if g = f then some u else mA g)
    rw [lookup_putF]
    by_cases q : g = f
    · rw [if_pos q, if_pos q]; exact ry
    · rw [if_neg q, if_neg q]; exact r g
  · by_cases q : g = f
    · rw [q]; exact (keys_putF f y fs).1
    · refine (keys_putF f y fs).2 g (wi g fun z => hg ?_)
      show (if g = f then some u else mA g) = none
      rw [if_neg q]; exact z

theorem Inv.made (I : Inv X pins σ H s) : Inv X pins σ (upd (upd H s.heap.objs.size (.own (s.heap.objs.size + 1))) (s.heap.objs.size + 1) (.ins C s.heap.objs.size []))
    { s with heap := (s.heap.push PySem.W.emptyDict).push (PySem.W.instObj C s.heap.objs.size) } := by
  have e1 : (s.heap.push PySem.W.emptyDict).get? s.heap.objs.size = some PySem.W.emptyDict := Heap.get?_push_size s.heap rfl
  have e2 : ((s.heap.push PySem.W.emptyDict).push (PySem.W.instObj C s.heap.objs.size)).get? (s.heap.objs.size + 1) = some (PySem.W.instObj C s.heap.objs.size) := by
    have := Heap.get?_push_size (s.heap.push PySem.W.emptyDict) (o := PySem.W.instObj C s.heap.objs.size) rfl
    rwa [Heap.size_push] at this
  have e3 : (s.heap.push PySem.W.emptyDict).Ns s.heap.objs.size (fun _ => none) := ⟨PySem.W.emptyDict, #[], _, e1, rfl, (fun e he => absurd he (by simp)), fun _ => rfl⟩
  have I1 := I.laid (a := s.heap.objs.size) (o := .own (s.heap.objs.size + 1)) (h' := s.heap.push PySem.W.emptyDict) (t' := s.toks) (fun b u q => Heap.get?_push_of_some _ q) (Nat.le_refl _) ⟨_, e1⟩
  refine I1.laid (a := s.heap.objs.size + 1) (o := .ins C s.heap.objs.size []) (t' := s.toks) (fun b u q => Heap.get?_push_of_some _ q) (Nat.le_of_eq (Heap.size_push _ _)) ?_
  have ne : s.heap.objs.size ≠ s.heap.objs.size + 1 := Nat.ne_of_lt (Nat.lt_succ_self _)
  refine ⟨by rw [upd_ne ne, upd_same], Nat.zero_le _, ne, e2, fun _ => none, (Heap.Ns1.of_empty e3).at fun o q => Heap.get?_push_of_some _ q, fun _ => True.intro, fun y hy => absurd rfl hy⟩

theorem attr_of {prog : Program} {w : World} {env : Env} {e : Expr} {f : Str} {pos : Pos} {s : Shared} {Q : Value → Shared → Prop} (hb : attributeBase e f env (eval e env) = eval e env)
    (h : wpAny (model prog w) A (eval e env) (fun o s₁ => wpAny (model prog w) A (getAttr o f true) Q E s₁) E s) : wpAny (model prog w) A (eval (.Attribute e f pos) env) Q E s :=
  Attribute_any_ h (by rw [arm_eval_Attribute, hb])
end

def tFld (K : PySem.W.Frag) (ta : TE) (f : Str) : TE := fun σ H Q => ta σ H fun x H1 => ∃ a C dx fs v, x = .ref a ∧ H1 a = some (.ins C dx fs) ∧ Cls K C ∧ NoAttr K C f ∧ fs.lookup f = some v ∧ Q v H1
def sFld (K : PySem.W.Frag) (ta tv : TE) (f : Str) : TS := fun D σ H => tv σ H fun y H1 => ta σ H1 fun x H2 => ∃ a C dx fs, x = .ref a ∧ H2 a = some (.ins C dx fs) ∧ Cls K C ∧ NoAttr K C f ∧ fs.length < 1000 ∧
  D.nx σ (upd H2 a (.ins C dx (putF f y fs)))
section
variable {X : Cx} {o e value : Expr} {f : Str} {pos pos' tpos : Pos} {ta tv : TE}
theorem pe_fld (he : PE X e ta) (hb : attributeBase e f X.env (eval e X.env) = eval e X.env) : PE X (.Attribute e f pos) (tFld X.K ta f) := by
  intro pins s σ H Q I h
  refine attr_of hb (thn (he pins s σ H _ I h) fun u s1 ⟨x, H1, I1, rx, a, C, dx, fs, v, ex, ea, c, n, l, q⟩ => ?_)
  subst ex
  obtain rfl : u = Value.ref a := rx
  exact getattr_ok I1 ea c n l fun u' s2 I2 ru => ⟨v, H1, I2, ru, q⟩
theorem ps_fld (ha : PE X o ta) (hv : PE X value tv) (hs : swapsWith value (some (.Attribute o f pos')) pos.line X.env = pure false) : PS X (.Assign [.Attribute o f pos'] value pos) (sFld X.K ta tv f) := by
  intro pins s σ H D I h
  refine plainObj_wpAny_Assign_Attribute (thn (hv pins s σ H _ I h) fun u s1 ⟨y, H1, I1, ry, q⟩ => thn (ha pins s1 σ H1 _ I1 q) fun ov s2 ⟨x, H2, I2, rx, a, C, dx, fs, ex, ea, c, n, l, q2⟩ => ?_) hs
  subst ex
  obtain rfl : ov = Value.ref a := rx
  exact setattr_ok I2 ea c n l ry fun s3 I3 => ⟨σ, _, I3, q2⟩
end

section
variable {X : Cx} {pins : List (Addr × Obj)} {σ : St} {H : Hp} {s : Shared} {A : Around} {E : Value → Shared → Prop} {Q : Value → Shared → Prop} {c : Value} {b : Bool}
inductive TyOf (K : PySem.W.Frag) (H : Hp) : V → Value → Prop where
  | non : TyOf K H .non (.type "NoneType")
  | bl (x : Bool) : TyOf K H (.bl x) (.type "bool")
  | int (i : Int) : TyOf K H (.int i) (.type "int")
  | str (x : Str) : TyOf K H (.str x) (.type "str")
  | flt (x : UInt64) : TyOf K H (.flt x) (.type "float")
  | lst {a : Addr} {xs : List V} (e : H a = some (.lst xs)) : TyOf K H (.ref a) (.type "list")
  | frz {a : Addr} {o : Obj} {xs : List V} (e : H a = some (.frz o (.lst xs))) : TyOf K H (.ref a) (.type "list")
  | tup {a : Addr} {xs : List V} (e : H a = some (.tup xs)) : TyOf K H (.ref a) (.type "tuple")
  | dK {a : Addr} {kvs : List (Key × V)} (e : H a = some (.dK kvs)) : TyOf K H (.ref a) (.type "dict")
  | dT {a : Addr} {kvs : List (List Key × V)} (e : H a = some (.dT kvs)) : TyOf K H (.ref a) (.type "dict")
  | ins {a C dx : Addr} {fs : List (Str × V)} (e : H a = some (.ins C dx fs)) (cl : Cls K C) (ha : PySem.W.findIn K (.ref C) "__class__" = some (some (.builtin "object.__class__")))
      (hn : PySem.W.specialIn K (.builtin "object.__class__") "__get__" = some (some (.builtin "getset_descriptor.__get__"))) (htk : PySem.W.takesIn K (.builtin "object.__class__") = some true)
      (hm : PySem.W.mroIn K C (.type "object") = some true) : TyOf K H (.ref a) (.ref C)
theorem isinst_ok {x : V} {u t : Value} (I : Inv X pins σ H s) (rx : RelV x u) (ty : TyOf X.K H x t) (e : PySem.W.kitOne X.K t c = some b) (h : ∀ tk, Q (.bool b) { s with toks := tk }) :
    wpAny (model X.prog X.w) A (call (.builtin "isinstance") [u, c]) Q E s := by
  cases ty with
  | non => cases (show u = Value.none from rx); exact PySem.W.kia_one PySem.W.kitx_none I.kIn True.intro e (fun z => nomatch z) h
  | bl y => cases (show u = Value.bool y from rx); exact PySem.W.kia_one PySem.W.kitx_bool I.kIn True.intro e (fun z => nomatch z) h
  | int i => obtain ⟨t, q⟩ := (show ∃ t, u = Value.int i t from rx); cases q; exact PySem.W.kia_one PySem.W.kitx_int I.kIn True.intro e (fun z => nomatch z) h
  | str y => obtain ⟨t, q⟩ := (show ∃ t, u = Value.str y t from rx); cases q; exact PySem.W.kia_one PySem.W.kitx_str I.kIn True.intro e (fun z => nomatch z) h
  | flt y => obtain ⟨t, q⟩ := (show ∃ t, u = Value.float y t from rx); cases q; exact PySem.W.kia_one PySem.W.kitx_float I.kIn True.intro e (fun z => nomatch z) h
  | @lst a xs ea =>
    cases (show u = Value.ref a from rx)
    obtain ⟨_, _, n, _, h1⟩ := (show ObjOk X.prog X.w H s.heap a (.lst xs) from I.hok a _ ea)
    exact PySem.W.kia_one PySem.W.kitx_list I.kIn ⟨_, h1, rfl⟩ e (fun z => nomatch z) h
  | @frz a ob xs ea =>
    cases (show u = Value.ref a from rx)
    obtain ⟨_, _, _, n, _, h1⟩ := (show ObjOk X.prog X.w H s.heap a (.frz ob (.lst xs)) from I.hok a _ ea)
    exact PySem.W.kia_one PySem.W.kitx_list I.kIn ⟨_, h1, rfl⟩ e (fun z => nomatch z) h
  | @tup a xs ea =>
    cases (show u = Value.ref a from rx)
    obtain ⟨_, _, _, p⟩ := (show ObjOk X.prog X.w H s.heap a (.tup xs) from I.hok a _ ea)
    obtain ⟨o, h1, h2, _⟩ := p
    exact PySem.W.kia_one PySem.W.kitx_tuple I.kIn ⟨o, h1, h2⟩ e (fun z => nomatch z) h
  | @dK a kvs ea =>
    cases (show u = Value.ref a from rx)
    obtain ⟨_, _, vs, _, p⟩ := (show ObjOk X.prog X.w H s.heap a (.dK kvs) from I.hok a _ ea)
    obtain ⟨o, es, ep, h1, h2, _⟩ := p
    exact PySem.W.kia_one PySem.W.kitx_dict I.kIn ⟨o, h1, h2.1⟩ e (fun z => nomatch z) h
  | @dT a kvs ea =>
    cases (show u = Value.ref a from rx)
    obtain ⟨_, _, xs, _, o, es, ep, h1, h2, _⟩ := (show ObjOk X.prog X.w H s.heap a (.dT kvs) from I.hok a _ ea)
    exact PySem.W.kia_one PySem.W.kitx_dict I.kIn ⟨o, h1, h2.1⟩ e (fun z => nomatch z) h
  | @ins a C dx fs ea cl ha hn htk hm =>
    cases (show u = Value.ref a from rx)
    obtain ⟨mA, O, _⟩ := ins_get I.hok ea
    obtain ⟨od, J, _⟩ := O.look
    exact PySem.W.kia_one (PySem.W.kitx_own (cl.get _) cl.hd ha hn htk hm) I.kIn J e (fun z => nomatch z) h
end
end L2

namespace L2
open PySem PySem.Spec PyProof.Rows

structure Room (k : Nat) (A : Around) : Prop where
  hd : A.handled = none
  dp : A.depth + 3 * k + 5 < recursionLimit
  un : A.units + 16 * k + 200 < cLine
theorem Room.mono {j k : Nat} {A : Around} (r : Room k A) (h : j ≤ k) : Room j A := ⟨r.hd, by have := r.dp; omega, by have := r.un; omega⟩
theorem Room.deeper {k : Nat} {A : Around} (r : Room (k + 1) A) (env : Env) : Room k (A.deeper env) :=
  ⟨r.hd, by have := r.dp; show A.depth + 1 + 3 * k + 5 < _; omega, by have := r.un; show A.units + 3 + 16 * k + 200 < _; omega⟩
theorem make_depth {A : Around} {C : Addr} {us : List Value} {kw : List (Str × Value)} : (A.under (.builtin "type.__call__" ⟨.ref C :: us, kw⟩)).depth = A.depth + 1 := by
  first | rfl | simp [Around.under, Code.weight, Code.isCreation, Code.isGuard, Code.isCaller, Code.frames, Code.isFrame, guardIds]
theorem make_units {A : Around} {C : Addr} {us : List Value} {kw : List (Str × Value)} : (A.under (.builtin "type.__call__" ⟨.ref C :: us, kw⟩)).units = A.units + 1 := by
  first | rfl | simp [Around.under, Code.cUnits, Code.frames, Code.isFrame]
theorem Room.make {k : Nat} {A : Around} (r : Room (k + 1) A) (C : Addr) (us : List Value) (kw : List (Str × Value)) : Room k (A.under (.builtin "type.__call__" ⟨.ref C :: us, kw⟩)) :=
  ⟨r.hd, by have := r.dp; rw [make_depth]; omega, by have := r.un; rw [make_units]; omega⟩
theorem Room.depth {k : Nat} {A : Around} (r : Room k A) : A.depth < recursionLimit := by have := r.dp; omega
theorem Room.units {k : Nat} {A : Around} (r : Room k A) : A.units + 64 < cLine := by have := r.un; omega
def tNil : TA := fun _ H Q => Q [] H
def tCons (ta : TE) (tr : TA) : TA := fun σ H Q => ta σ H fun x H1 => tr σ H1 fun xs H2 => Q (x :: xs) H2
section
variable {X : Cx} {e : Expr} {es : List Expr} {te : TE} {t : TA} {pos : Pos}
theorem pa_nil : PA X [] tNil := fun _ _ _ _ H Q I h => Calls.spliced_nil ⟨[], H, I, .nil, h⟩
theorem pa_cons (ha : PE X e te) (hr : PA X es t) (hs : starEach (e :: es) X.env = (false, eval e X.env) :: starEach es X.env := by rfl) : PA X (e :: es) (tCons te t) := by
  intro pos pins s σ H Q I h
  rw [hs]
  show wpAny _ _ (spliced ((false, eval e X.env) :: backTo pos (starEach es X.env))) _ _ s
  refine Calls.spliced_cons (thn (ha pins s σ H _ I h) fun u s1 ⟨x, H1, I1, r1, q1⟩ => ?_)
  exact thn (hr pos pins s1 σ H1 _ I1 q1) fun us s2 ⟨xs, H2, I2, r2, q2⟩ => ⟨x :: xs, H2, I2, .cons r1 r2, q2⟩

def tTup (t : TA) : TE := fun σ H Q => t σ H fun xs H1 => xs.length ≤ sizeLine ∧ ∀ p, H1 p = none → Q (.ref p) (upd H1 p (.tup xs))
def tLst (t : TA) : TE := fun σ H Q => t σ H fun xs H1 => xs.length ≤ sizeLine ∧ ∀ p, H1 p = none → Q (.ref p) (upd H1 p (.lst xs))
theorem pe_tup {x1} (h : PA X es t) : PE X (.Tuple es x1 pos) (tTup t) := by
  intro pins s σ H Q I hq
  refine wpAny_Tuple_spliced (thn (h pos pins s σ H _ I hq) fun us s1 ⟨xs, H1, I1, r, z, q⟩ => ⟨by rw [← r.length]; exact z, ?_⟩)
  have hf : H1 s1.heap.objs.size = none := I1.hok.fresh (Nat.le_refl _)
  refine ⟨.ref s1.heap.objs.size, upd H1 s1.heap.objs.size (.tup xs), I1.laid (t' := s1.toks) (fun b u e => Heap.get?_push_of_some _ e) (Nat.le_refl _) ?_, rfl, q _ hf⟩
  exact ⟨z, us, r, ⟨_, Heap.get?_push_size _ rfl, rfl, _, rfl⟩⟩
theorem pe_lst (h : PA X es t) : PE X (.List es pos) (tLst t) := by
  intro pins s σ H Q I hq
  refine wpAny_List_spliced (thn (h pos pins s σ H _ I hq) fun us s1 ⟨xs, H1, I1, r, z, q⟩ => ⟨by rw [← r.length]; exact z, ?_⟩)
  have hf : H1 s1.heap.objs.size = none := I1.hok.fresh (Nat.le_refl _)
  refine ⟨.ref s1.heap.objs.size, upd H1 s1.heap.objs.size (.lst xs), I1.laid (t' := s1.toks) (fun b u e => Heap.get?_push_of_some _ e) (Nat.le_refl _) ?_, rfl, q _ hf⟩
  exact ⟨z, us, 0, r, Heap.get?_push_size _ rfl⟩
end

abbrev Sp := List V → Hp → VK → XK → Prop
abbrev CXT := List Env → Hp → Shared → XK → Value → Shared → Prop

structure Env0 (P : Program) (w : World) (K : PySem.W.Frag) (mg : Str → Option Value) (base : Heap) (A : Around) (outer : List Env) (s : Shared) (H : Hp) : Prop where
  frames : A.frames = some outer
  mod : Mod K mg base
  bs : ∀ b o, base.get? b = some o → s.heap.get? b = some o ∧ H b = none
  bsz : base.objs.size ≤ s.heap.objs.size
  funs : s.heap.FunFrames base outer
  frf : ∀ b ∈ frs outer, H b = none
  hok : HOk P w H s.heap
  bare : AllBare s.gens
def CE (outer : List Env) (P : Program) (w : World) (H : Hp) (s : Shared) (Q : VK) (u : Value) (s' : Shared) : Prop :=
  ∃ v H', s'.os = s.os ∧ AllBare s'.gens ∧ Un (frs outer) [] H H' s.heap s'.heap ∧ HOk P w H' s'.heap ∧ RelV v u ∧ Q v H'
def CR (CX : CXT) (outer : List Env) (P : Program) (w : World) (H : Hp) (s : Shared) (Q : VK) (E : XK) (r : Result) (s' : Shared) : Prop :=
  match r with
  | .ok (.ret u) => CE outer P w H s Q u s'
  | .ok _ => False
  | .error e => CX outer H s E e s'
structure FnOk (P : Program) (w : World) (K : PySem.W.Frag) (mg : Str → Option Value) (base : Heap) (CX : CXT) (k : Nat) (f : Addr) (fd : FuncData) (ps : List Str) (sp : Sp) : Prop where
  len : ∀ vs H Q E, sp vs H Q E → vs.length = ps.length
  run : ∀ (A : Around) (outer : List Env) (s : Shared) (H : Hp) (args : Args) (us : List Value) (vs : List V) (Q : VK) (E : XK), Room k A → Env0 P w K mg base A outer s H → BindsTo s fd args (ps.zip us) → Vals vs us → sp vs H Q E →
    codeAny (model P w) A (.call (.ref f) args) (CR CX outer P w H s Q E) s
theorem Env0.make {P : Program} {w : World} {K : PySem.W.Frag} {mg : Str → Option Value} {base : Heap} {A : Around} {outer : List Env} {s : Shared} {H : Hp} (e : Env0 P w K mg base A outer s H) (C : Addr) (us : List Value) (kw : List (Str × Value)) :
    Env0 P w K mg base (A.under (.builtin "type.__call__" ⟨.ref C :: us, kw⟩)) outer s H := ⟨by first | exact e.frames | (simpa [Around.under, Code.envs, Code.isFrame, pushEnvs] using e.frames), e.mod, e.bs, e.bsz, e.funs, e.frf, e.hok, e.bare⟩
section
variable {X : Cx} {pins : List (Addr × Obj)} {σ : St} {H : Hp} {s s' : Shared}
theorem Inv.env0 (I : Inv X pins σ H s) : Env0 X.prog X.w X.K X.mg X.base X.A X.stack s H :=
  ⟨I.ok.frames, I.ok.mod, I.bs, Nat.le_trans I.ok.bsz I.sz, I.stack, I.stkFree, I.hok, I.bare⟩
theorem Inv.after {Q : VK} {u : Value} (I : Inv X pins σ H s) (h : CE X.stack X.prog X.w H s Q u s') : EP X pins σ Q u s' := by
  obtain ⟨v, H', os, bare, un, hok, r, q⟩ := h
  obtain ⟨hh, g, d, t, os'⟩ := s'
  obtain rfl : os' = s.os := os
  exact ⟨v, H', I.call (h' := hh) (g' := g) (d' := d) (t' := t) (ch := []) un hok bare (fun b z => absurd z (by simp)), r, q⟩
end

def tCall (sp : Sp) (dvs : List V) (E : XK) (t : TA) : TE := fun σ H Q => t σ H fun vs H1 => sp (vs ++ dvs) H1 Q E
def tMeth (C : Addr) (m : Str) (sp : Sp) (dvs : List V) (E : XK) (ta : TE) (t : TA) : TE := fun σ H Q => ta σ H fun x H1 => ∃ a dx fs, x = .ref a ∧ H1 a = some (.ins C dx fs) ∧ fs.lookup m = none ∧
  t σ H1 fun vs H2 => sp (x :: (vs ++ dvs)) H2 Q E
def tMake (C : Addr) (sp : Sp) (dvs : List V) (E : XK) (t : TA) : TE := fun σ H Q => t σ H fun vs H1 => ∀ x dx, H1 x = none → H1 dx = none → dx ≠ x →
  sp (.ref x :: (vs ++ dvs)) (upd (upd H1 dx (.own x)) x (.ins C dx [])) (fun v H2 => v = .non ∧ Q (.ref x) H2) E

def Binds (K : PySem.W.Frag) (fd : FuncData) (ps : List Str) (ds : List Value) : Prop :=
  ∀ (s : Shared) (us : List Value), K.In s.heap → (us ++ ds).length = ps.length → BindsTo s fd ⟨us, []⟩ (ps.zip (us ++ ds))
theorem Binds.all {K : PySem.W.Frag} {fd : FuncData} {ps : List Str} (h : ∀ us : List Value, us.length = ps.length → bindArgs fd ⟨us, []⟩ = pure (ps.zip us)) : Binds K fd ps [] := fun s us _ hl => by
  rw [List.append_nil] at hl ⊢
  exact .of_eq (h us hl)

def Passes (CX : CXT) (X : Cx) (E : XK) : Prop := ∀ (pins : List (Addr × Obj)) (σ : St) (H : Hp) (s : Shared) (e : Value) (s' : Shared), Inv X pins σ H s → CX X.stack H s E e s' → X.xe e s'

section
variable {X : Cx} {CX : CXT} {k : Nat} {f C : Addr} {fd : FuncData} {ps : List Str} {sp : Sp} {dvs : List V} {ds : List Value} {E : XK} {x m : Str} {p pos apos : Pos} {e o : Expr} {es : List Expr} {ta : TE} {t : TA}

theorem run_fn {pins : List (Addr × Obj)} {σ : St} {H : Hp} {s : Shared} {Q : VK} {us : List Value} {vs : List V} (F : FnOk X.prog X.w X.K X.mg X.base CX k f fd ps sp) (hr : Room k X.A) (hb : Binds X.K fd ps ds) (hd : Vals dvs ds) (hx : Passes CX X E)
    (I : Inv X pins σ H s) (r : Vals vs us) (h : sp (vs ++ dvs) H Q E) : wpAny (model X.prog X.w) X.A (call (.ref f) us) (EP X pins σ Q) X.xe s := by
  have r2 : Vals (vs ++ dvs) (us ++ ds) := r.append hd
  have hl : (us ++ ds).length = ps.length := by rw [← r2.length]; exact F.len _ _ _ _ h
  refine wpAny_call (codeAny_mono (F.run X.A X.stack s H ⟨us, []⟩ (us ++ ds) (vs ++ dvs) Q E hr I.env0 (hb s us I.kIn hl) r2 h) fun r s' hq => ?_)
  cases r with
  | error e => exact hx pins σ H s e s' I hq
  | ok fl =>
    cases fl with
    | ret u => exact I.after hq
    | next => exact False.elim hq
    | brk => exact False.elim hq
    | cont => exact False.elim hq

theorem pe_call (F : FnOk X.prog X.w X.K X.mg X.base CX k f fd ps sp) (hr : Room k X.A) (hg : Gl X x) (hm : X.mg x = some (.ref f)) (hk : PySem.W.keepIn X.K (.ref f) = true) (hb : Binds X.K fd ps ds) (hd : Vals dvs ds) (hx : Passes CX X E)
    (ha : PA X (e :: es) t) (hdb : (x == ("__debug__" : Str)) = false := by decide) (he : starEach (e :: es) X.env = (false, eval e X.env) :: starEach es X.env := by rfl) (hpl : (backTo pos (starEach es X.env)).any (·.1) = false := by rfl) :
    PE X (.Call (.Name x p) (e :: es) [] pos) (tCall sp dvs E t) := by
  intro pins s σ H Q I h
  refine wpAny_Call_Name_kw (ld_glob I hg hm ?_ hdb)
  refine PySem.W.callWith_K (h₀ := X.base) I.ok.mod.kin hk (thn (ha pos pins s σ H _ I h) fun us s1 ⟨vs, H1, I1, r, q⟩ => ⟨I1.kIn, ?_⟩) he hpl
  exact run_fn F hr hb hd hx I1 r q
theorem pe_meth0 {pl : Sem Bool} (he : PE X o ta) (c : Cls X.K C) (hm : Meth X.K C m f) (F : FnOk X.prog X.w X.K X.mg X.base CX k f fd ps sp) (hr : Room k X.A) (hb : Binds X.K fd ps ds) (hd : Vals dvs ds) (hx : Passes CX X E)
    (ht : eval (.Call (.Attribute o m apos) [] [] pos) X.env = (do
      let ov ← eval o X.env
      standAt apos.atName
      let (f, first) ← holding [ov] (getMethod ov m pl)
      callWith pos f first (backTo pos (starEach [] X.env)) (backToKw pos (keywordEach [] X.env))) := by rfl) :
    PE X (.Call (.Attribute o m apos) [] [] pos) (tMeth C m sp dvs E ta tNil) := by
  intro pins s σ H Q I h
  refine PySem.W.methodCall_KW (pl := pl) (thn (he pins s σ H _ I h) fun u s1 ⟨x, H1, I1, rx, a, dx, fs, ex, ea, l, q⟩ => ?_) ht
  subst ex
  obtain rfl : u = Value.ref a := rx
  refine getmeth_ok I1 ea c hm l ?_
  exact PySem.W.callWith_K0 (first := [.ref a]) I1.kIn hm.kp (run_fn (us := [.ref a]) (vs := [.ref a]) F hr hb hd hx I1 (.cons rfl .nil) q)

structure Mk (K : PySem.W.Frag) (C f : Addr) : Prop where
  makes : PySem.W.makesIn K C = true
  init : PySem.W.findIn K (.ref C) "__init__" = some (some (.ref f))
  fn : PySem.W.isFn K (.ref f) = true
  kp : PySem.W.keepIn K (.ref C) = true

theorem run_make {pins : List (Addr × Obj)} {σ : St} {H : Hp} {s : Shared} {Q : VK} {us : List Value} {vs : List V} (M : Mk X.K C f) (F : FnOk X.prog X.w X.K X.mg X.base CX k f fd ps sp) (hr : Room (k + 1) X.A) (hb : Binds X.K fd ps ds) (hd : Vals dvs ds)
    (hx : Passes CX X E) (I : Inv X pins σ H s) (r : Vals vs us)
    (h : ∀ x dx, H x = none → H dx = none → dx ≠ x → sp (.ref x :: (vs ++ dvs)) (upd (upd H dx (.own x)) x (.ins C dx [])) (fun v H2 => v = .non ∧ Q (.ref x) H2) E) :
    wpAny (model X.prog X.w) X.A (call (.ref C) us) (EP X pins σ Q) X.xe s := by
  have hq := h (s.heap.objs.size + 1) s.heap.objs.size (I.hok.fresh (Nat.le_succ _)) (I.hok.fresh (Nat.le_refl _)) (Nat.ne_of_lt (Nat.lt_succ_self _))
  have I2 := Inv.made (C := C) I
  have r2 : Vals (V.ref (s.heap.objs.size + 1) :: (vs ++ dvs)) (Value.ref (s.heap.objs.size + 1) :: (us ++ ds)) := .cons rfl (r.append hd)
  have hl : (Value.ref (s.heap.objs.size + 1) :: us ++ ds).length = ps.length := by
    have e := r2.length
    rw [F.len _ _ _ _ hq] at e
    exact e.symm
  refine wpAny_call (make_map (f := f) I.kIn M.makes M.init (beq_iff_eq.mp M.fn) (codeAny_mono (F.run _ X.stack _ _ ⟨Value.ref (s.heap.objs.size + 1) :: us, []⟩ (Value.ref (s.heap.objs.size + 1) :: (us ++ ds)) _ _ E (hr.make C us [])
    (I2.env0.make C us []) (hb _ (Value.ref (s.heap.objs.size + 1) :: us) I2.kIn hl) r2 hq) fun r s' hq' => ?_))
  cases r with
  | error e => exact hx pins σ _ _ e s' I2 hq'
  | ok fl =>
    cases fl with
    | ret u =>
      obtain ⟨v, H', I3, rv, ev, q3⟩ := I2.after hq'
      subst ev
      exact ⟨rv, ⟨V.ref (s.heap.objs.size + 1), H', I3, rfl, q3⟩⟩
    | next => exact False.elim hq'
    | brk => exact False.elim hq'
    | cont => exact False.elim hq'
theorem pe_make (M : Mk X.K C f) (F : FnOk X.prog X.w X.K X.mg X.base CX k f fd ps sp) (hr : Room (k + 1) X.A) (hg : Gl X x) (hm : X.mg x = some (.ref C)) (hb : Binds X.K fd ps ds) (hd : Vals dvs ds) (hx : Passes CX X E)
    (ha : PA X (e :: es) t) (hdb : (x == ("__debug__" : Str)) = false := by decide) (he : starEach (e :: es) X.env = (false, eval e X.env) :: starEach es X.env := by rfl) (hpl : (backTo pos (starEach es X.env)).any (·.1) = false := by rfl) :
    PE X (.Call (.Name x p) (e :: es) [] pos) (tMake C sp dvs E t) := by
  intro pins s σ H Q I h
  refine wpAny_Call_Name_kw (ld_glob I hg hm ?_ hdb)
  refine PySem.W.callWith_K (h₀ := X.base) I.ok.mod.kin M.kp (thn (ha pos pins s σ H _ I h) fun us s1 ⟨vs, H1, I1, r, q⟩ => ⟨I1.kIn, ?_⟩) he hpl
  exact run_make M F hr hb hd hx I1 r q
end

section
variable {X : Cx} {CX : CXT} {k : Nat} {f C : Addr} {fd : FuncData} {ps ks : List Str} {sp : Sp} {E : XK} {x m : Str} {p pos apos kpos : Pos} {e o : Expr} {es : List Expr} {kws : List Keyword} {te ta : TE} {t tk : TA} {nm : Option Str}
variable {g : List Value → List Value → List Value} {gV : List V → List V → List V}
end

structure FnScope (N P : List Str) (sc : Scope) : Prop where
  kind : sc.kind = .function
  co : sc.isCoroutine = false
  gen : sc.isGenerator = false
  nd : N.Nodup
  pre : N.take P.length = P
  par : ∀ x ∈ P, sc.names.lookup x = some .local ∨ sc.names.lookup x = some .cell
  nofree : ∀ y ∈ sc.names, y.2 ≠ .free

theorem bindL_out {kindOf : Str → Option NameKind} {x : Str} : ∀ {binds : List (Str × Value)} {m : Str → Option Value}, (∀ v, (x, v) ∉ binds) → bindL kindOf binds m x = m x
  | [], _, _ => rfl
  | (n, v) :: r, m, h => by
    unfold bindL
    rw [bindL_out fun w hw => h w (List.mem_cons_of_mem _ hw)]
    split
    · have : x ≠ n := by rintro rfl; exact h v List.mem_cons_self
      simp [this]
    · rfl
theorem bindC_out {kindOf : Str → Option NameKind} {x : Str} : ∀ {binds : List (Str × Value)} {m : Str → Option Value}, (∀ v, (x, v) ∉ binds) → bindC kindOf binds m x = m x
  | [], _, _ => rfl
  | (n, v) :: r, m, h => by
    unfold bindC
    rw [bindC_out fun w hw => h w (List.mem_cons_of_mem _ hw)]
    split
    · rfl
    · have : x ≠ n := by rintro rfl; exact h v List.mem_cons_self
      simp [this]
theorem bindL_get {kindOf : Str → Option NameKind} {x : Str} {v : Value} : ∀ {P : List Str} {vs : List Value} {i : Nat} {m : Str → Option Value}, P.Nodup → P[i]? = some x → vs[i]? = some v → kindOf x = some .local →
    bindL kindOf (P.zip vs) m x = some v
  | [], _, _, _, _, h, _, _ => by simp at h
  | _ :: _, [], _, _, _, _, h, _ => by simp at h
  | p :: P, w :: vs, 0, m, nd, h1, h2, hk => by
    simp at h1 h2; subst h1; subst h2
    show bindL kindOf ((p, w) :: P.zip vs) m p = _
    unfold bindL
    rw [bindL_out fun v hv => (List.nodup_cons.mp nd).1 (List.of_mem_zip hv).1, if_pos hk]
    simp
  | p :: P, w :: vs, i + 1, m, nd, h1, h2, hk => by
    show bindL kindOf ((p, w) :: P.zip vs) m x = _
    unfold bindL
    exact bindL_get (i := i) (List.nodup_cons.mp nd).2 (by simpa using h1) (by simpa using h2) hk
theorem bindC_get {kindOf : Str → Option NameKind} {x : Str} {v : Value} : ∀ {P : List Str} {vs : List Value} {i : Nat} {m : Str → Option Value}, P.Nodup → P[i]? = some x → vs[i]? = some v → kindOf x ≠ some .local →
    bindC kindOf (P.zip vs) m x = some v
  | [], _, _, _, _, h, _, _ => by simp at h
  | _ :: _, [], _, _, _, _, h, _ => by simp at h
  | p :: P, w :: vs, 0, m, nd, h1, h2, hk => by
    simp at h1 h2; subst h1; subst h2
    show bindC kindOf ((p, w) :: P.zip vs) m p = _
    unfold bindC
    rw [bindC_out fun v hv => (List.nodup_cons.mp nd).1 (List.of_mem_zip hv).1, if_neg hk]
    simp
  | p :: P, w :: vs, i + 1, m, nd, h1, h2, hk => by
    show bindC kindOf ((p, w) :: P.zip vs) m x = _
    unfold bindC
    exact bindC_get (i := i) (List.nodup_cons.mp nd).2 (by simpa using h1) (by simpa using h2) hk

def start (N : List Str) (vs : List V) : St := vs.map some ++ List.replicate (N.length - vs.length) none

def cxOf (CX : CXT) (P : Program) (w : World) (K : PySem.W.Frag) (mg : Str → Option Value) (base : Heap) (N : List Str) (qual : Str) (scope : Scope) (f : Addr) (cd : Value) (A : Around) (outer : List Env) (s : Shared) (H : Hp) (E : XK) : Cx where
  prog := P
  w := w
  K := K
  mg := mg
  base := base
  A := A.deeper (envOfC qual scope s.heap.objs.size f cd)
  N := N
  s₀ := s
  H₀ := H
  env := envOfC qual scope s.heap.objs.size f cd
  outer := outer
  stack := envOfC qual scope s.heap.objs.size f cd :: outer
  ex := []
  calm := true
  fn := fun _ => true
  pn := []
  xe := fun e s' => wpAny (model P w) (A.deeper (envOfC qual scope s.heap.objs.size f cd)) (leaving (envOfC qual scope s.heap.objs.size f cd) e) (fun _ s'' => CX outer H s E e s'') (fun e' s'' => CX outer H s E e' s'') s'

theorem cell_has {sc : Scope} {n : Nat} {x : Str} (h : sc.names.lookup x = some .cell) : ∃ c, (cellsFrom n sc.names []).lookup x = some c := by
  have q := PySem.W.cellsFrom_some sc.names n [] (.inl h)
  exact Option.isSome_iff_exists.mp q

theorem inv_start {CX : CXT} {P : Program} {w : World} {K : PySem.W.Frag} {mg : Str → Option Value} {base : Heap} {N ps : List Str} {qual : Str} {scope : Scope} {f : Addr} {cd : Value} {A : Around} {outer : List Env} {s s1 : Shared} {H : Hp} {E : XK} {us : List Value} {vs : List V}
    (S : FnScope N ps scope) (hd : A.handled = none) (e0 : Env0 P w K mg base A outer s H) (hl : vs.length = ps.length) (r : Vals vs us)
    (x : InCallC s s.heap.objs.size (bindL (envOfC qual scope s.heap.objs.size f cd).kindOf (ps.zip us) fun _ => none) (cellsFrom (s.heap.objs.size + 1) scope.names []) (bindC (envOfC qual scope s.heap.objs.size f cd).kindOf (ps.zip us) fun _ => none) s1) :
    Inv (cxOf CX P w K mg base N qual scope f cd A outer s H E) [] (start N vs) H s1 := by
  have hpl : ps.length ≤ N.length := by have := congrArg List.length S.pre; rw [List.length_take] at this; omega
  obtain ⟨h1, tk, rfl, hk⟩ := x.done
  have noA : ∀ b : Addr, b ∉ (cxOf CX P w K mg base N qual scope f cd A outer s H E).ex := fun b z => absurd (show b ∈ ([] : List Addr) from z) (by simp)
  refine ⟨⟨e0.mod, S.kind, rfl, rfl, Nat.le_refl _, fun y z c h1 h2 => ?_, fun y hy => ?_, fun y c _ h => ?_, fun _ => hd, Around.frames_deeper e0.frames, .inr ⟨rfl, rfl⟩, fun b z => absurd z (noA b), e0.bs, e0.bsz, fun b _ _ => noA b, fun b z => absurd z (noA b), e0.funs, e0.frf⟩,
    rfl, e0.bare, Un.kept hk, ⟨_, x.toInCall.ns, fun i y v h1 h2 h3 => ?_⟩, fun y c h => ⟨_, x.cell y c h⟩, e0.hok.fresh (Nat.le_refl _), fun y c h => ?_, fun p hp => absurd (show p ∈ ([] : List (Addr × Obj)) from hp) (by simp), e0.hok.kept hk, ?_⟩
  · exact name_of_addr x.apart (PySem.mem_of_lookup h1) (PySem.mem_of_lookup h2)
  · have hy : scope.names.lookup y = some .cell ∨ scope.names.lookup y = some .free := hy
    rcases hy with hy | hy
    · exact cell_has hy
    · exact absurd rfl (S.nofree _ (PySem.mem_of_lookup hy))
  · exact Nat.le_of_lt (x.above y c (PySem.mem_of_lookup h))
  · have hi : i < vs.length := by
      unfold start at h2
      by_cases hi : i < vs.length
      · exact hi
      · rw [List.getElem?_append_right (by simpa using hi)] at h2
        rw [List.getElem?_replicate] at h2
        split at h2 <;> cases h2
    have ha : vs[i]? = some v := by
      unfold start at h2
      rw [List.getElem?_append_left (by simpa using hi), List.getElem?_map] at h2
      cases e : vs[i]? with
      | none => rw [e] at h2; cases h2
      | some a => rw [e] at h2; cases h2; rfl
    obtain ⟨u, hu, rv⟩ := r.get ha
    have hp : ps[i]? = some y := by
      rw [← S.pre, List.getElem?_take_of_lt (by omega)]; exact h1
    have ndP : ps.Nodup := by rw [← S.pre]; exact S.nd.sublist (List.take_sublist _ _)
    refine ⟨u, rv, ?_⟩
    rcases S.par y (List.mem_of_getElem? hp) with k | k
    · exact .inl ⟨k, bindL_get ndP hp hu k⟩
    · obtain ⟨c, e⟩ := cell_has (n := s.heap.objs.size + 1) k
      refine .inr ⟨.inl k, c, e, ?_⟩
      have q := x.cell y c e
      rw [bindC_get ndP hp hu (by show scope.names.lookup y ≠ _; rw [k]; decide)] at q
      exact q
  · exact e0.hok.fresh (Nat.le_of_lt (x.above y c (PySem.mem_of_lookup h)))
  · unfold start
    show _ = N.length
    rw [List.length_append, List.length_map, List.length_replicate]
    omega

theorem fn_of {CX : CXT} {P : Program} {w : World} {K : PySem.W.Frag} {mg : Str → Option Value} {base : Heap} {k : Nat} {f : Addr} {name qual : Str} {params : Arguments} {body : List Stmt} {scope : Scope} {dV kV doc pm cdv ct oc : Value} {an od : Option Addr}
    {osl : Array (Option Value)} {N ps : List Str} {sp : Sp} (lk : K.lookup f = some ⟨oc, od, .func (PySem.W.fnOf name qual params body scope dV kV doc pm an cdv ct), osl⟩) (hcd : PySem.W.codeIn K cdv qual = true) (S : FnScope N ps scope)
    (len : ∀ vs H Q E, sp vs H Q E → vs.length = ps.length)
    (hbody : ∀ (A : Around) (outer : List Env) (s : Shared) (H : Hp) (vs : List V) (Q : VK) (E : XK), Room k (A.deeper (envOfC qual scope s.heap.objs.size f cdv)) → sp vs H Q E →
      ∃ t, PSs (cxOf CX P w K mg base N qual scope f cdv A outer s H E) body t ∧ t { nx := fun _ H' => Q .non H', rt := Q } (start N vs) H) :
    FnOk P w K mg base CX (k + 1) f (PySem.W.fnOf name qual params body scope dV kV doc pm an cdv ct) ps sp := by
  refine ⟨len, fun A outer s H args us vs Q E hr e0 hb r hsp => ?_⟩
  have hl := len _ _ _ _ hsp
  have KX : K.In s.heap := e0.mod.kin.keeps fun b o e => (e0.bs b o e).1
  have lim : s.heap.NoLimit := e0.mod.nolimit.keeps fun b o e => (e0.bs b o e).1
  have hkind : ∀ y ∈ ps.zip us, scope.names.lookup y.1 = some .local ∨ (scope.names.lookup y.1 = some .cell ∧ ((cellsFrom (s.heap.objs.size + 1) scope.names []).lookup y.1).isSome = true) := fun ⟨n, v⟩ hy => by
    rcases S.par n (List.of_mem_zip hy).1 with q | q
    · exact .inl q
    · exact .inr ⟨q, PySem.W.cellsFrom_some _ _ _ (.inl q)⟩
  refine codeAny_call_function hr.depth (KX _ _ lk) rfl S.co S.gen rfl (PySem.W.codeRec_of KX hcd) (hb _ _ _ _ ?_)
  refine wpAny_newFunctionEnv_cells S.kind hkind fun env he s1 x => ?_
  subst he
  refine ⟨lim.keeps x.toInCall.keep, codeAny_func ?_⟩
  obtain ⟨t, ht, hq⟩ := hbody A outer s H vs Q E (hr.deeper _) hsp
  have I : Inv (cxOf CX P w K mg base N qual scope f cdv A outer s H E) [] (start N vs) H s1 := inv_start S hr.hd e0 hl r x
  refine wpAny_mono (ht [] s1 (start N vs) H _ I hq) (fun fl s' hs => ?_) fun e s' hs => hs
  have fin : ∀ {σ' : St} {H' : Hp} {v : V} {u : Value}, Inv (cxOf CX P w K mg base N qual scope f cdv A outer s H E) [] σ' H' s' → RelV v u → Q v H' → CE outer P w H s Q u s' :=
    fun {σ' H' v u} J rv q => ⟨v, H', J.os, J.bare, J.base, J.hok, rv, q⟩
  cases fl with
  | ret u =>
    obtain ⟨v, σ', H', J, rv, q⟩ := hs
    exact fin J rv q
  | next =>
    obtain ⟨σ', H', J, q⟩ := hs
    exact fin (v := V.non) (u := Value.none) J rfl q
  | brk =>
    obtain ⟨_, _, _, q⟩ := hs
    exact False.elim q
  | cont =>
    obtain ⟨_, _, _, q⟩ := hs
    exact False.elim q
end L2

namespace L2
open PySem PySem.Spec PyProof.Rows
section
variable {X : Cx} {x : Str} {p pos : Pos} {e : Expr} {es : List Expr} {t : TA} {id T : String} {r : List V → Hp → VK → Prop}

def tCB (r : List V → Hp → VK → Prop) (t : TA) : TE := fun σ H Q => t σ H fun vs H1 => r vs H1 Q
theorem pe_callB (hc : CallR X (.builtin id) r) (hg : Gl X x) (hm : X.mg x = none) (hv : bootBuiltins x = some (.builtin id)) (ha : PA X (e :: es) t) (hn : x ≠ "__name__" := by decide) (hdb : (x == ("__debug__" : Str)) = false := by decide)
    (he : starEach (e :: es) X.env = (false, eval e X.env) :: starEach es X.env := by rfl) (hpl : (backTo pos (starEach es X.env)).any (·.1) = false := by rfl) : PE X (.Call (.Name x p) (e :: es) [] pos) (tCB r t) := by
  intro pins s σ H Q I h
  refine wpAny_Call_Name_kw (ld_blt I hg hm hv ?_ hn hdb)
  exact PyProof.Rows.callWith_builtin1 (thn (ha pos pins s σ H _ I h) fun us s1 ⟨vs, H1, I1, r1, q1⟩ => hc pins s1 σ H1 vs us Q I1 r1 q1) he hpl
theorem pe_callTy (hc : CallR X (.type T) r) (hg : Gl X x) (hm : X.mg x = none) (hv : bootBuiltins x = some (.type T)) (ha : PA X (e :: es) t) (hn : x ≠ "__name__" := by decide) (hdb : (x == ("__debug__" : Str)) = false := by decide)
    (he : starEach (e :: es) X.env = (false, eval e X.env) :: starEach es X.env := by rfl) (hpl : (backTo pos (starEach es X.env)).any (·.1) = false := by rfl) : PE X (.Call (.Name x p) (e :: es) [] pos) (tCB r t) := by
  intro pins s σ H Q I h
  refine wpAny_Call_Name_kw (ld_blt I hg hm hv ?_ hn hdb)
  exact PyProof.Rows.callWith_type1 (thn (ha pos pins s σ H _ I h) fun us s1 ⟨vs, H1, I1, r1, q1⟩ => hc pins s1 σ H1 vs us Q I1 r1 q1) he hpl
end
end L2

namespace HT
open PySem PyProof.Rows

def lexLt : List Int → List Int → Bool
  | [], [] => false
  | [], _ :: _ => true
  | _ :: _, [] => false
  | x :: xs, y :: ys => if x = y then lexLt xs ys else decide (x < y)
theorem lexLt_cons (x y : Int) (xs ys : List Int) : lexLt (x :: xs) (y :: ys) = if x = y then lexLt xs ys else decide (x < y) := rfl
theorem lexLt_nil_nil : lexLt [] [] = false := rfl
theorem lexLt_nil_cons (y : Int) (ys : List Int) : lexLt [] (y :: ys) = true := rfl
theorem lexLt_cons_nil (x : Int) (xs : List Int) : lexLt (x :: xs) [] = false := rfl

theorem eqAt_int (A : Around) (s : Shared) (a : Int) (t : Tok) (c : Int) (u : Tok) : ∃ e, SeqAt.EqAt A s (.int a t) (.int c u) e ∧ (e = true ↔ a = c) :=
  ⟨(a == c), SeqAt.EqAt.int_int a t c u, by simp⟩
theorem rcLt_int (A : Around) (s : Shared) (a : Int) (t : Tok) (c : Int) (u : Tok) (prog : Program) (w : World) (E : Value → Shared → Prop) (Q : Value → Shared → Prop) (h : Q (.bool (decide (a < c))) s) :
    wpAny (model prog w) A (richCompare .Lt (.int a t) (.int c u)) Q E s :=
  (PyProof.Rows.lt_int h : wpAny (model prog w) A (compareOp .Lt (.int a t) (.int c u)) Q E s)

section
open PySem.SeqAt
open PySem.AutoSeq1 (wpAny_loadPart')
open PySem.MeetsSeq PySem.MeetsSeq2 PySem.MeetsSeq3

theorem tuple_lt_ints (l b : Addr) (items items2 : Array Value) (n n2 : Nat) (dd dd2 : Option Addr) (sl sl2 : Array (Option Value)) (ns ms : List Int) (hi : IntsAre items.toList ns) (hj : IntsAre items2.toList ms) :
    Meets (Builtin.«tuple.__lt__» ⟨[.ref l, .ref b], []⟩)
      (fun _ R s => s.heap.get? l = some { cls := .type "tuple", dict := dd, data := .seq items n, slots := sl } ∧ s.heap.get? b = some { cls := .type "tuple", dict := dd2, data := .seq items2 n2, slots := sl2 } ∧
        R (.ok (.ret (.bool (lexLt ns ms)))) s) :=
  .of_wp fun prog w A R s h => by
    obtain ⟨hp, g, d, tk, os⟩ := s; obtain ⟨hl, hb, h⟩ := h
    have f2 := AutoSeq1.sub_tuple_tuple
    have z1 : items.size = ns.length := by rw [← hi.length]; simp
    have z2 : items2.size = ms.length := by rw [← hj.length]; simp
    wp_walk using wpAny_loadPart' hl, wpAny_loadPart' hb, wpAny_forIn_list _ (fun rest b s' => b.1 = none ∧ s' = ⟨hp, g, d, tk, os⟩ ∧ ∃ (vs ws : List Value) (ns' ms' : List Int), rest = vs.zip ws ∧
      IntsAre vs ns' ∧ IntsAre ws ms' ∧ ns'.length + items2.size = ms'.length + items.size ∧ R (.ok (.ret (.bool (lexLt ns' ms')))) ⟨hp, g, d, tk, os⟩) _
    case turn =>
      rintro ⟨y, x⟩ rest b s' ⟨hb', rfl, vs, ws, ns', ms', hz, hvi, hwi, hlen, hR⟩
      cases hvi with
      | nil => rw [List.zip_nil_left] at hz; cases hz
      | cons a t hvi' =>
        cases hwi with
        | nil => rw [List.zip_nil_right] at hz; cases hz
        | cons c u hwi' =>
          rw [List.zip_cons_cons] at hz
          injection hz with hyx hrest
          injection hyx with hy hx
          subst hy hx
          rw [lexLt_cons] at hR
          simp only [List.length_cons] at hlen
          obtain ⟨e, he, hiff⟩ := eqAt_int A.in1 ⟨hp, g, d, tk, os⟩ a t c u
          refine wpAny_bind (he prog w _ _ ?_)
          cases e with
          | true =>
            rw [if_pos (hiff.mp rfl)] at hR
            wp_walk
            exact ⟨rfl, rfl, _, _, _, _, hrest, hvi', hwi', by omega, hR⟩
          | false =>
            rw [if_neg (fun q => absurd (hiff.mpr q) Bool.false_ne_true)] at hR
            have hri := rcLt_int A.in1 ⟨hp, g, d, tk, os⟩ a t c u prog w
            wp_walk using hri
            exact ⟨_, rfl, by simpa using hR⟩
    case fin =>
      rintro ⟨b1, b2⟩ s' ⟨hb', rfl, vs, ws, ns', ms', hz, hvi, hwi, hlen, hR⟩
      simp only at hb'
      subst hb'
      have hv : lexLt ns' ms' = decide (items.size < items2.size) := by
        cases hvi with
        | nil =>
          cases hwi with
          | nil =>
            simp only [List.length_nil] at hlen
            rw [lexLt_nil_nil]
            exact (decide_eq_false (by omega)).symm
          | cons c u hw =>
            simp only [List.length_nil, List.length_cons] at hlen
            rw [lexLt_nil_cons]
            exact (decide_eq_true (by omega)).symm
        | cons a t hv =>
          cases hwi with
          | nil =>
            simp only [List.length_nil, List.length_cons] at hlen
            rw [lexLt_cons_nil]
            exact (decide_eq_false (by omega)).symm
          | cons c u hw =>
            rw [List.zip_cons_cons] at hz
            cases hz
      rw [hv] at hR
      wp_walk
      exact ⟨_, rfl, by simpa [Builtin.Tuple.tupleCompareSizes] using hR⟩
    case h =>
      exact ⟨rfl, rfl, items.toList, items2.toList, ns, ms, rfl, hi, hj, by omega, h⟩
end

section
variable {prog : Program} {w : World} {A : Around} {E : Value → Shared → Prop} {s : Shared}

theorem lt_tupInts {l b : Addr} {items items2 : Array Value} {ns ms : List Int} {Q : Value → Shared → Prop} (hl : IsTup s.heap l items) (hb : IsTup s.heap b items2) (hi : IntsAre items.toList ns) (hj : IntsAre items2.toList ms)
    (hu : A.units < cLine) (h : Q (.bool (lexLt ns ms)) s) : wpAny (model prog w) A (compareOp .Lt (.ref l) (.ref b)) Q E s := by
  obtain ⟨⟨cls, dd, data, sl⟩, ho, hc, n, hd⟩ := id hl
  obtain ⟨⟨cls2, dd2, data2, sl2⟩, ho2, hc2, n2, hd2⟩ := id hb
  simp only at hc hd hc2 hd2
  subst hc hd hc2 hd2
  exact richCompare_meets_room (op := .Lt) ⟨_, ho, rfl⟩ ⟨_, ho2, rfl⟩ PySem.F.slot_tuple_lt PySem.F.entry_tuple_lt (PySem.F.args_tuple_lt_2 _ _) (tuple_lt_ints l b items items2 n n2 dd dd2 sl sl2 ns ms hi hj)
    ⟨ho, ho2, show Value.bool (lexLt ns ms) ≠ Value.notImplemented ∧ Q (.bool (lexLt ns ms)) s from ⟨(fun x => nomatch x), h⟩⟩ hu

end
end HT

namespace L2
open PySem PySem.Spec PyProof.Rows

theorem intsAre_of {ns : List Int} : ∀ {us : List Value}, Vals (ns.map V.int) us → IntsAre us ns := by
  induction ns with
  | nil => intro us r; rw [List.map_nil] at r; cases r; exact .nil
  | cons n ns ih =>
    intro us r
    rw [List.map_cons] at r
    cases r with
    | cons r1 r2 =>
      obtain ⟨t, e⟩ := r1
      subst e
      exact .cons n t (ih r2)

section
variable {X : Cx} {e : Expr} {te : TE} {lo hi : Option Expr} {tl th : TO} {pos p2 : Pos}

def rLtT (K : PySem.W.Frag) : R2 := fun x y H Q => ∃ a b ns ms, x = .ref a ∧ y = .ref b ∧ SqT K H a (ns.map V.int) ∧ SqT K H b (ms.map V.int) ∧ Q (.bl (HT.lexLt ns ms)) H
theorem op_ltT (hu : X.A.units < cLine) : OpR X (compareOp .Lt) (rLtT X.K) := by
  intro pins s σ H x y v u Q I rx ry h
  obtain ⟨a, b, ns, ms, rfl, rfl, ha, hb, q⟩ := h
  cases rx
  cases ry
  obtain ⟨its, r1, p1, _⟩ := I.tuple ha
  obtain ⟨its2, r2, p2, _⟩ := I.tuple hb
  have i1 : IntsAre its.toArray.toList ns := intsAre_of r1
  have i2 : IntsAre its2.toArray.toList ms := intsAre_of r2
  exact HT.lt_tupInts p1 p2 i1 i2 hu ⟨.bl (HT.lexLt ns ms), H, I, rfl, q⟩
end
end L2

namespace L2
open PySem PySem.Spec PyProof.Rows

def ixN (n : Nat) (i : Int) : Option Nat := if 0 ≤ i then (if i < n then some i.toNat else none) else if -(n : Int) ≤ i then some (i + n).toNat else none
def atI {α : Type} (xs : List α) (i : Int) : Option α := (ixN xs.length i).bind fun j => xs[j]?
theorem ixN_seq {n : Nat} {i : Int} {j : Nat} (h : ixN n i = some j) : seqIndex? i n = some j ∧ j < n ∧ -(n : Int) ≤ i ∧ i < n := by
  unfold ixN at h
  by_cases h0 : 0 ≤ i
  · rw [if_pos h0] at h
    by_cases h1 : i < n
    · rw [if_pos h1] at h
      have e : i.toNat = j := Option.some.inj h
      exact ⟨by rw [seqIndex_of h0 h1, e], by omega, by omega, h1⟩
    · rw [if_neg h1] at h; cases h
  · rw [if_neg h0] at h
    by_cases h1 : -(n : Int) ≤ i
    · rw [if_pos h1] at h
      have e : (i + n).toNat = j := Option.some.inj h
      exact ⟨by rw [seqIndex_neg (by omega) h1, e], by omega, h1, by omega⟩
    · rw [if_neg h1] at h; cases h
theorem atI_get {α : Type} {xs : List α} {i : Int} {v : α} (h : atI xs i = some v) : ∃ j, seqIndex? i xs.length = some j ∧ xs[j]? = some v ∧ j < xs.length ∧ -(xs.length : Int) ≤ i ∧ i < xs.length := by
  unfold atI at h
  cases e : ixN xs.length i with
  | none => rw [e] at h; cases h
  | some j =>
    rw [e] at h
    obtain ⟨h1, h2, h3, h4⟩ := ixN_seq e
    exact ⟨j, h1, h, h2, h3, h4⟩
theorem atI_nat {α : Type} {xs : List α} {j : Nat} {v : α} (h : xs[j]? = some v) : atI xs (j : Int) = some v := by
  have hj : j < xs.length := (List.getElem?_eq_some_iff.mp h).1
  have e : ixN xs.length (j : Int) = some j := by
    unfold ixN
    rw [if_pos (by omega), if_pos (by omega)]; simp
  unfold atI; rw [e]; exact h
def PlainIx (b : Expr) : Prop := ∀ o i, subscripted b false o i = operate [o, i] (getItem o i)
def IxR (X : Cx) (r : R2) : Prop :=
  ∀ (value slice : Expr) (pins : List (Addr × Obj)) (s : Shared) (σ : St) (H : Hp) (x y : V) (v u : Value) (Q : VK), Inv X pins σ H s → RelV x v → RelV y u → r x y H Q →
    subscripted slice false v u = operate [v, u] (getItem v u) → wpAny (model X.prog X.w) X.A (subscriptTail value slice v u) (EP X pins σ Q) X.xe s
def MtR (X : Cx) (id : String) (r : V → List V → Hp → VK → Prop) : Prop :=
  ∀ (pins : List (Addr × Obj)) (s : Shared) (σ : St) (H : Hp) (x : V) (xs : List V) (v : Value) (us : List Value) (Q : VK), Inv X pins σ H s → RelV x v → Vals xs us → r x xs H Q →
    wpAny (model X.prog X.w) X.A (call (.builtin id) (v :: us)) (EP X pins σ Q) X.xe s
section
variable {X : Cx} {a b : Expr} {ta tb : TE} {pos : Pos}
theorem pe_ix {r : R2} (hr : IxR X r) (ha : PE X a ta) (hb : PE X b tb) (hs : PlainIx b) : PE X (.Subscript a b pos) (tOp r ta tb) := by
  intro pins s σ H Q I h
  exact Subscript_ (binT ha hb I h fun v u s2 x y H2 I2 rx ry q => hr a b pins s2 σ H2 x y v u Q I2 rx ry q (hs _ _))

def rIxL (K : PySem.W.Frag) : R2 := fun x y H Q => ∃ p xs i v, x = .ref p ∧ y = .int i ∧ SqL K H p xs ∧ atI xs i = some v ∧ Q v H
def rIxT (K : PySem.W.Frag) : R2 := fun x y H Q => ∃ p xs i v, x = .ref p ∧ y = .int i ∧ SqT K H p xs ∧ atI xs i = some v ∧ Q v H
def rIxS : R2 := fun x y H Q => ∃ z i c, x = .str z ∧ y = .int i ∧ z.length ≤ sizeLine ∧ atI z.cps.toList i = some c ∧ Q (.str ⟨#[c]⟩) H
theorem ix_list : IxR X (rIxL X.K) := by
  intro value slice pins s σ H x y v u Q I rx ry h hs
  obtain ⟨p, xs, i, z, rfl, rfl, hq, he, q⟩ := h
  cases rx
  obtain ⟨t, rfl⟩ := ry
  obtain ⟨its, r, pl, hz⟩ := I.list hq
  obtain ⟨j, h1, h2, h3, h4, h5⟩ := atI_get he
  obtain ⟨w, ew, rw'⟩ := r.get h2
  have hl := r.length
  have hn := line63
  have fin : EP X pins σ Q w s := ⟨z, H, I, rw', q⟩
  by_cases h0 : 0 ≤ i
  · have hj : i.toNat = j := by
      rw [seqIndex_of h0 h5] at h1
      exact Option.some.inj h1
    exact item_listR pl.isList h0 (by omega) (by rw [hj]; simpa using ew) fin hs
  · have hj : (i + (its.toArray.size : Int)).toNat = j := by
      rw [seqIndex_neg (by omega) h4] at h1
      rw [List.size_toArray, ← hl]
      exact Option.some.inj h1
    exact subscriptTail_builtinR (x := w) pl.isList.typeIs slot_list_getitem.lookup
      (wpAny_getItem_list_neg (Q := fun r s' => r = w ∧ EP X pins σ Q r s') pl.isList (by omega) (by rw [List.size_toArray] <;> omega) (by omega) (by rw [hj]; simpa using ew) ⟨rfl, fin⟩) hs
theorem ix_tup : IxR X (rIxT X.K) := by
  intro value slice pins s σ H x y v u Q I rx ry h hs
  obtain ⟨p, xs, i, z, rfl, rfl, hq, he, q⟩ := h
  cases rx
  obtain ⟨t, rfl⟩ := ry
  obtain ⟨its, r, pl, hz⟩ := I.tuple hq
  obtain ⟨j, h1, h2, h3, h4, h5⟩ := atI_get he
  obtain ⟨w, ew, rw'⟩ := r.get h2
  have hl := r.length
  have hn := line63
  have fin : EP X pins σ Q w s := ⟨z, H, I, rw', q⟩
  exact subscriptTail_builtinR (x := w) pl.typeIs slot_tuple_getitem.lookup
    (getItem_tuple (j := j) (Q := fun r s' => r = w ∧ EP X pins σ Q r s') pl (by omega) (by omega) (by rw [List.size_toArray, ← hl]; exact h1) (by simpa using ew) ⟨rfl, fin⟩) hs
theorem ix_str : IxR X rIxS := by
  intro value slice pins s σ H x y v u Q I rx ry h hs
  obtain ⟨z, i, c, rfl, rfl, hz, he, q⟩ := h
  obtain ⟨t, rfl⟩ := rx
  obtain ⟨t', rfl⟩ := ry
  obtain ⟨j, h1, h2, h3, h4, h5⟩ := atI_get he
  have hl : z.cps.toList.length = z.length := by simp [Str.length]
  rw [hl] at h1 h4 h5
  have hn := line63
  exact tail_any (typeIs_str s z t) slot_str_getitem.lookup (getItem_str (c := c) (by
    have e1 : decide (i < -(2 ^ 63 : Int)) = false := decide_eq_false (by omega)
    have e2 : decide (i ≥ 2 ^ 63) = false := decide_eq_false (by omega)
    rw [e1, e2, Bool.or_false]) (by rw [h1]; simpa using h2) ⟨.str ⟨#[c]⟩, H, I.tok _, ⟨_, rfl⟩, q⟩) hs
theorem call_len_seq : CallR X (.builtin "len") (fun xs H Q => ∃ p ys, xs = [.ref p] ∧ (SqL X.K H p ys ∨ SqT X.K H p ys) ∧ Q (.int ys.length) H) := by
  intro pins s σ H xs us Q I r h
  obtain ⟨p, ys, rfl, hq, q⟩ := h
  obtain ⟨u, rfl, rx⟩ := vals1 r
  cases rx
  have hn := line63
  rcases hq with hq | hq
  · obtain ⟨its, r', pl, hz⟩ := I.list hq
    have hlen := r'.length
    exact Calls.call_len_list pl.isList (by simp only [List.size_toArray] <;> omega) ⟨.int ys.length, H, I.tok _, ⟨s.toks + 1, by rw [List.size_toArray, hlen]⟩, q⟩
  · obtain ⟨its, r', pl, hz⟩ := I.tuple hq
    have hlen := r'.length
    exact len_tuple pl (by simp only [List.size_toArray] <;> omega) ⟨.int ys.length, H, I.tok _, ⟨s.toks + 1, by rw [List.size_toArray, hlen]⟩, q⟩
theorem call_len_str : CallR X (.builtin "len") (fun xs H Q => ∃ z, xs = [.str z] ∧ z.length ≤ sizeLine ∧ Q (.int z.length) H) := by
  intro pins s σ H xs us Q I r h
  obtain ⟨z, rfl, hz, q⟩ := h
  obtain ⟨u, rfl, t, rfl⟩ := vals1 r
  have hn := line63
  exact len_str (by omega) ⟨.int z.length, H, I.tok _, ⟨_, rfl⟩, q⟩
theorem call_list_of : CallR X (.type "list") (fun xs H Q => ∃ p ys, xs = [.ref p] ∧ (SqL X.K H p ys ∨ SqT X.K H p ys) ∧ ∀ l, H l = none → Q (.ref l) (upd H l (.lst ys))) := by
  intro pins s σ H xs us Q I r h
  obtain ⟨p, ys, rfl, hq, q⟩ := h
  obtain ⟨u, rfl, rx⟩ := vals1 r
  cases rx
  have fin : ∀ (its : List Value), Vals ys its → ys.length ≤ sizeLine → ∀ (h' : Heap) (c' : Nat), (∀ b o', s.heap.get? b = some o' → h'.get? b = some o') →
      h'.get? s.heap.objs.size = some { cls := .type "list", dict := none, data := .seq its.toArray c', slots := #[] } → EP X pins σ Q (.ref s.heap.objs.size) { s with heap := h' } := fun its r' hz h' c' kp e =>
    ⟨.ref s.heap.objs.size, _, I.laid (t' := s.toks) kp (Nat.le_refl _) (show ObjOk X.prog X.w _ h' _ (.lst ys) from ⟨hz, its, c', r', e⟩), rfl, q _ (I.hok.fresh (Nat.le_refl _))⟩
  rcases hq with hq | hq
  · obtain ⟨its, r', pl, hz⟩ := I.list hq
    have hlen := r'.length
    obtain ⟨o, ho, hc, n, hd⟩ := pl.isList
    exact call_list_seq p (.inl rfl) ho hc hd (fun h' c' kp e => fin its r' hz h' c' kp e) (by simp only [List.size_toArray] <;> omega)
  · obtain ⟨its, r', pl, hz⟩ := I.tuple hq
    have hlen := r'.length
    obtain ⟨o, ho, hc, n, hd⟩ := pl
    exact call_list_seq p (.inr rfl) ho hc hd (fun h' c' kp e => fin its r' hz h' c' kp e) (by simp only [List.size_toArray] <;> omega)
theorem call_tuple_of : CallR X (.type "tuple") (fun xs H Q => ∃ p ys, xs = [.ref p] ∧ ((SqL X.K H p ys ∧ ∀ l, H l = none → Q (.ref l) (upd H l (.tup ys))) ∨ (SqT X.K H p ys ∧ Q (.ref p) H))) := by
  intro pins s σ H xs us Q I r h
  obtain ⟨p, ys, rfl, h⟩ := h
  obtain ⟨u, rfl, rx⟩ := vals1 r
  cases rx
  rcases h with ⟨hq, q⟩ | ⟨hq, q⟩
  · obtain ⟨its, r', pl, hz⟩ := I.list hq
    have hlen := r'.length
    refine call_tuple_list pl.isList (fun h' kp => ?_) (by simp only [List.size_toArray] <;> omega)
    have I1 : Inv X pins σ H { s with heap := h' } := I.kept (t' := s.toks) kp
    have I2 : Inv X pins σ (upd H h'.objs.size (.tup ys)) { s with heap := h'.push { cls := .type "tuple", data := .seq its.toArray } } :=
      I1.laid (t' := s.toks) (fun b o e => Heap.get?_push_of_some _ e) (Nat.le_refl _) (show ObjOk X.prog X.w _ _ _ (.tup ys) from ⟨hz, its, r', IsTup.new _ _⟩)
    exact ⟨.ref h'.objs.size, _, I2, rfl, q _ (I1.hok.fresh (Nat.le_refl _))⟩
  · obtain ⟨its, r', pl, hz⟩ := I.tuple hq
    exact call_tuple_same pl ⟨.ref p, H, I, rfl, q⟩

def tyV (K : PySem.W.Frag) (T : String) (x : V) (H : Hp) : Prop := match x with
  | .str _ => T = "str"
  | .int _ => T = "int"
  | .ref p => (T = "list" ∧ ∃ xs, SqL K H p xs) ∨ (T = "tuple" ∧ ∃ o, K.lookup p = some o ∧ o.cls = .type "tuple" ∧ o.dict = none) ∨
      (T = "dict" ∧ ((∃ kvs, H p = some (.dK kvs)) ∨ ∃ kvs, H p = some (.dT kvs))) ∨ (T = "set" ∧ ∃ S n, H p = some (.set S n))
  | _ => False
theorem tyV_is {pins : List (Addr × Obj)} {σ : St} {H : Hp} {s : Shared} {T : String} {x : V} {v : Value} (I : Inv X pins σ H s) (r : RelV x v) (ty : tyV X.K T x H) :
    s.TypeIs v T ∧ ∀ a, v = .ref a → ∃ ob, s.heap.get? a = some ob ∧ ob.dict = none := by
  cases x with
  | str z =>
    obtain ⟨t, rfl⟩ := r
    cases (show T = "str" from ty)
    exact ⟨typeIs_str s z t, fun _ e => nomatch e⟩
  | int i =>
    obtain ⟨t, rfl⟩ := r
    cases (show T = "int" from ty)
    exact ⟨typeIs_int s i t, fun _ e => nomatch e⟩
  | ref p =>
    cases r
    rcases ty with ⟨rfl, xs, hq⟩ | ⟨rfl, o, hk, hc, hd⟩ | ⟨rfl, hk⟩ | ⟨rfl, S, n, hk⟩
    · obtain ⟨its, _, pl, _⟩ := I.list hq
      refine ⟨pl.isList.typeIs, fun a e => ?_⟩
      cases e
      obtain ⟨o, n, e, c, hd, _⟩ := pl
      exact ⟨o, e, hd⟩
    · refine ⟨⟨o, I.kIn p o hk, hc⟩, fun a e => ?_⟩
      cases e
      exact ⟨o, I.kIn _ o hk, hd⟩
    · have z : ∃ o, s.heap.get? p = some o ∧ o.ExactDict := by
        rcases hk with ⟨kvs, hk⟩ | ⟨kvs, hk⟩
        · obtain ⟨_, _, _, _, o, _, _, e, ex, _⟩ := I.hok p _ hk
          exact ⟨o, e, ex⟩
        · obtain ⟨_, _, _, _, o, _, _, e, ex, _⟩ := I.hok p _ hk
          exact ⟨o, e, ex⟩
      obtain ⟨o, e, ex⟩ := z
      refine ⟨⟨o, e, ex.1⟩, fun a e2 => ?_⟩
      cases e2
      exact ⟨o, e, ex.2.1⟩
    · obtain ⟨o, _, _, _, e, ex, _⟩ := I.hok p _ hk
      refine ⟨⟨o, e, ex.1⟩, fun a e2 => ?_⟩
      cases e2
      exact ⟨o, e, ex.2.1⟩
  | _ => exact False.elim ty
def tBM0 (K : PySem.W.Frag) (T : String) (r : V → List V → Hp → VK → Prop) (to : TE) : TE := fun σ H Q => to σ H fun x H1 => tyV K T x H1 ∧ r x [] H1 Q
def tBM (K : PySem.W.Frag) (T : String) (r : V → List V → Hp → VK → Prop) (to : TE) (t : TA) : TE := fun σ H Q => to σ H fun x H1 => tyV K T x H1 ∧ t σ H1 fun xs H2 => r x xs H2 Q
variable {o e : Expr} {es : List Expr} {to : TE} {t : TA} {name : Str} {apos cpos : Pos} {T id : String} {r : V → List V → Hp → VK → Prop}
theorem pe_bm0 (pa : PlainAttrs T) (slot : Slot T name id) (hty : typeOf (.builtin id) = pure (.type "method_descriptor")) (hm : MtR X id r) (ho : PE X o to)
    (hbase : attributeBase o name X.env (eval o X.env) = eval o X.env := by rfl) (hline : (apos.endLine == cpos.line) = true := by rfl) : PE X (.Call (.Attribute o name apos) [] [] cpos) (tBM0 X.K T r to) := by
  intro pins s σ H Q I h
  refine wpAny_Call_method0_late hbase hline (thn (ho pins s σ H _ I h) fun v s1 ⟨x, H1, I1, r1, ty, q1⟩ => ?_)
  obtain ⟨h1, h2⟩ := tyV_is I1 r1 ty
  exact ⟨T, id, pa, slot, hty, h1, h2, Calls.callWith_builtin rfl (PySem.evalArgs_none (hm pins s1 σ H1 x [] v [] Q I1 r1 .nil q1))⟩
theorem pe_bm (pa : PlainAttrs T) (slot : Slot T name id) (hty : typeOf (.builtin id) = pure (.type "method_descriptor")) (hm : MtR X id r) (ho : PE X o to) (ha : PA X (e :: es) t)
    (hbase : attributeBase o name X.env (eval o X.env) = eval o X.env := by rfl)
    (hfew : ((backTo cpos (starEach (e :: es) X.env)).all (fun x => !x.1) && (backToKw cpos (keywordEach [] X.env)).all (fun x => x.1.isSome)
      && decide ((e :: es).length + ([] : List Keyword).length + (if ([] : List Keyword).isEmpty then 0 else 1) < 30)) = true := by rfl)
    (hline : (apos.endLine == cpos.line) = true := by rfl) (hs : starEach (e :: es) X.env = (false, eval e X.env) :: starEach es X.env := by rfl) (hplain : (backTo cpos (starEach es X.env)).any (·.1) = false := by rfl) :
    PE X (.Call (.Attribute o name apos) (e :: es) [] cpos) (tBM X.K T r to t) := by
  intro pins s σ H Q I h
  refine wpAny_Call_method_late hbase hfew hline rfl (thn (ho pins s σ H _ I h) fun v s1 ⟨x, H1, I1, r1, ty, q1⟩ => ?_)
  obtain ⟨h1, h2⟩ := tyV_is I1 r1 ty
  refine ⟨T, id, pa, slot, hty, h1, h2, ?_⟩
  have hA := ha cpos pins s1 σ H1 _ I1 q1
  rw [hs] at hA ⊢
  refine Calls.callWith_builtin (by show (false || (backTo cpos (starEach es X.env)).any (·.1)) = false; rw [hplain] <;> rfl) (Calls.evalArgs_plain ?_)
  exact thn hA fun us s2 ⟨vs, H2, I2, r2, q2⟩ => hm pins s2 σ H2 x vs v us Q I2 r1 r2 q2
end
end L2

namespace L2
open PySem PySem.Spec PyProof.Rows

def MtM (X : Cx) (id : String) (r : V → List V → Hp → VK → Prop) : Prop :=
  ∀ (pins : List (Addr × Obj)) (s : Shared) (σ : St) (H : Hp) (x : V) (xs : List V) (v : Value) (us : List Value) (Q : VK), Inv X pins σ H s → RelV x v → Vals xs us → r x xs H Q →
    wpAny (model X.prog X.w) X.A (call (.builtin id) (v :: us)) (EP X pins σ Q) X.xe s

theorem Vals.one : ∀ {x : V} {us : List Value}, Vals [x] us → ∃ u, us = [u] ∧ RelV x u
  | _, _, .cons r .nil => ⟨_, rfl, r⟩
theorem Vals.zero : ∀ {us : List Value}, Vals [] us → us = []
  | _, .nil => rfl
section
variable {X : Cx} {pins : List (Addr × Obj)} {σ : St} {H : Hp} {s : Shared} {l b : Addr} {xs ys zs : List V}

theorem Inv.lset {its its' : List Value} {n : Nat} {f : Array Value → Array Value} {t' : Nat} (I : Inv X pins σ H s) (hH : H l = some (.lst xs))
    (e : s.heap.get? l = some { cls := .type "list", data := .seq its.toArray n }) (hf : f its.toArray = its'.toArray) (hv : Vals ys its') (hz : ys.length ≤ sizeLine) :
    Inv X pins σ (upd H l (.lst ys)) { s with heap := s.heap.update l (Obj.mapSeq f), toks := t' } := by
  have q := PySem.IsL.update e f
  rw [hf] at q
  refine I.write (x := l) (e := l) (by rw [hH]; exact trivial) (.inl rfl) (fun b' u hb hu => (Heap.get?_update_other s.heap (Obj.mapSeq f) (Ne.symm hb)).trans hu) ⟨_, q⟩ ?_
  exact ⟨hz, its', _, hv, q⟩
theorem Inv.lnew {its : List Value} {t' : Nat} (I : Inv X pins σ H s) (hv : Vals ys its) (hz : ys.length ≤ sizeLine) :
    Inv X pins σ (upd H s.heap.objs.size (.lst ys)) { s with heap := s.heap.push { cls := .type "list", data := .seq its.toArray }, toks := t' } :=
  I.laid (fun _ _ q => Heap.get?_push_of_some _ q) (Nat.le_refl _) ⟨hz, its, 0, hv, Heap.get?_push_size _ rfl⟩
theorem Inv.fresh (I : Inv X pins σ H s) : H s.heap.objs.size = none := I.hok.fresh (Nat.le_refl _)
theorem Inv.lstM (I : Inv X pins σ H s) (hH : H l = some (.lst xs)) : xs.length ≤ sizeLine ∧ ∃ (its : List Value) (n : Nat), Vals xs its ∧ xs.length = its.length ∧ s.heap.get? l = some { cls := .type "list", data := .seq its.toArray n } := by
  obtain ⟨z, its, n, r, e⟩ := I.hok l _ hH
  exact ⟨z, its, n, r, r.length, e⟩

theorem notLongL {n : Nat} (h : n ≤ sizeLine) : Builtin.List.listTooLong n = false := by
  unfold Builtin.List.listTooLong
  exact decide_eq_false (by omega)
end

section
variable {X : Cx}

def rAppend : V → List V → Hp → VK → Prop := fun x vs H Q => ∃ l xs y, x = .ref l ∧ vs = [y] ∧ H l = some (.lst xs) ∧ xs.length < sizeLine ∧ Q .non (upd H l (.lst (xs ++ [y])))
theorem mt_append : MtM X "list.append" rAppend := by
  intro pins s σ H x vs v us Q I rx rv h
  obtain ⟨l, xs, y, rfl, rfl, hH, hz, q⟩ := h
  cases rx
  obtain ⟨u, rfl, ru⟩ := rv.one
  obtain ⟨z, its, n, r, hl, e⟩ := I.lstM hH
  refine call_meets F.slot_list_append ⟨_, e, rfl⟩ F.entry_list_append (F.args_list_append_2 _ _) (PySem.list_append l its.toArray n u (by rw [List.size_toArray]; omega)) ⟨e, ?_⟩
  refine ⟨.non, _, I.lset (its' := its ++ [u]) hH e (by simp) (r.append (.cons ru .nil)) ?_, rfl, q⟩
  rw [List.length_append, List.length_singleton]
  omega

def rExtend : V → List V → Hp → VK → Prop := fun x vs H Q => ∃ l b xs zs, x = .ref l ∧ vs = [.ref b] ∧ H l = some (.lst xs) ∧ H b = some (.lst zs) ∧ xs.length + zs.length ≤ sizeLine ∧ Q .non (upd H l (.lst (xs ++ zs)))
theorem mt_extend : MtM X "list.extend" rExtend := by
  intro pins s σ H x vs v us Q I rx rv h
  obtain ⟨l, b, xs, zs, rfl, rfl, hH, hB, hz, q⟩ := h
  cases rx
  obtain ⟨u, rfl, ru⟩ := rv.one
  cases ru
  obtain ⟨z, its, n, r, hl, e⟩ := I.lstM hH
  obtain ⟨z2, its2, n2, r2, hl2, e2⟩ := I.lstM hB
  have hsz : its.toArray.size + its2.toArray.size ≤ sizeLine := by rw [List.size_toArray, List.size_toArray]; omega
  have hlong : ¬ (!its.toArray.isEmpty && Builtin.List.listTooLong (its.toArray.size + its2.toArray.size)) = true := by
    rw [notLongL hsz, Bool.and_false]
    exact Bool.false_ne_true
  refine call_meets F.slot_list_extend ⟨_, e, rfl⟩ F.entry_list_extend (F.args_list_extend_2 _ _)
    (AutoSeq1.list_extend_list_list_0 l its.toArray n b its2.toArray n2 hlong (by rw [List.size_toArray]; omega) (by omega)) ⟨e, e2, ?_⟩
  refine ⟨.non, _, I.lset (its' := its ++ its2) hH e (by simp) (r.append r2) ?_, rfl, q⟩
  rw [List.length_append]
  omega

def rClear : V → List V → Hp → VK → Prop := fun x vs H Q => ∃ l xs, x = .ref l ∧ vs = [] ∧ H l = some (.lst xs) ∧ Q .non (upd H l (.lst []))
theorem mt_clear : MtM X "list.clear" rClear := by
  intro pins s σ H x vs v us Q I rx rv h
  obtain ⟨l, xs, rfl, rfl, hH, q⟩ := h
  cases rx
  have hus := rv.zero
  subst hus
  obtain ⟨z, its, n, r, hl, e⟩ := I.lstM hH
  refine call_meets F.slot_list_clear ⟨_, e, rfl⟩ F.entry_list_clear (F.args_list_clear_1 _) (AutoSeq1.list_clear_list_0 l its.toArray n (by rw [List.size_toArray]; omega)) ⟨e, ?_⟩
  exact ⟨.non, _, I.lset (its' := []) (ys := []) hH e rfl .nil (Nat.zero_le _), rfl, q⟩

def rCat : R2 := fun x y H Q => ∃ l b xs zs, x = .ref l ∧ y = .ref b ∧ H l = some (.lst xs) ∧ H b = some (.lst zs) ∧ xs.length + zs.length ≤ sizeLine ∧ ∀ p, H p = none → Q (.ref p) (upd H p (.lst (xs ++ zs)))
theorem op_cat : OpR X (binaryOp .Add) rCat := by
  intro pins s σ H x y v u Q I rx ry h
  obtain ⟨l, b, xs, zs, rfl, rfl, hH, hB, hz, q⟩ := h
  cases rx
  cases ry
  obtain ⟨z, its, n, r, hl, e⟩ := I.lstM hH
  obtain ⟨z2, its2, n2, r2, hl2, e2⟩ := I.lstM hB
  refine PySem.P.add_list e e2 ?_ (by rw [List.size_toArray, List.size_toArray]; omega)
  have ea : its.toArray ++ its2.toArray = (its ++ its2).toArray := by simp
  rw [ea]
  exact ⟨.ref _, _, I.lnew (t' := s.toks) (r.append r2) (by rw [List.length_append]; omega), rfl, q _ I.fresh⟩
end

section
variable {prog : Program} {w : World} {A : Around} {E : Value → Shared → Prop} {s : Shared}
end

section
variable {X : Cx}
end
end L2

namespace L2
open PySem PySem.Spec PyProof.Rows

section
variable {κ : Type} [DecidableEq κ]
def valV (kvs : List (κ × V)) (k : κ) : Option V := (kvs.find? fun kv => decide (kv.1 = k)).map (·.2)
def putK (kvs : List (κ × V)) (k : κ) (v : V) : List (κ × V) :=
  if (kvs.any fun kv => decide (kv.1 = k)) = true then kvs.map (fun kv => if kv.1 = k then (kv.1, v) else kv) else kvs ++ [(k, v)]
theorem valV_pos {p : κ × V} {r : List (κ × V)} {k : κ} (e : p.1 = k) : valV (p :: r) k = some p.2 := by simp [valV, List.find?_cons, e]
theorem valV_neg {p : κ × V} {r : List (κ × V)} {k : κ} (e : ¬ p.1 = k) : valV (p :: r) k = valV r k := by simp [valV, List.find?_cons, e]
theorem valV_any (k : κ) : ∀ kvs : List (κ × V), (kvs.any fun kv => decide (kv.1 = k)) = (valV kvs k).isSome
  | [] => rfl
  | p :: r => by
    rw [List.any_cons]
    by_cases e : p.1 = k
    · simp only [valV_pos e, decide_eq_true e, Bool.true_or, Option.isSome_some]
    · rw [valV_neg e, decide_eq_false e, Bool.false_or]; exact valV_any k r
theorem length_putK (kvs : List (κ × V)) (k : κ) (v : V) : (putK kvs k v).length ≤ kvs.length + 1 := by
  unfold putK
  split
  · rw [List.length_map]; omega
  · rw [List.length_append, List.length_cons, List.length_nil]; omega
theorem putK_new {kvs : List (κ × V)} {k : κ} (v : V) (h : valV kvs k = none) : putK kvs k v = kvs ++ [(k, v)] := by
  unfold putK
  rw [valV_any, h]
  exact if_neg (by decide)

theorem RelO.isSome_eq {o : Option V} {u : Option Value} (r : RelO o u) : o.isSome = u.isSome := by
  cases o with
  | none => cases u with
    | none => rfl
    | some _ => exact (show False from r).elim
  | some _ => cases u with
    | none => exact (show False from r).elim
    | some _ => rfl
theorem KV.val {kvs : List (κ × V)} {vs : List (κ × Value)} (r : KV kvs vs) (k : κ) : RelO (valV kvs k) (valueAt vs k) := by
  unfold KV at r
  induction r with
  | nil => exact True.intro
  | @cons p q ps qs h t ih =>
    obtain ⟨h1, h2⟩ := h
    by_cases e : p.1 = k
    · have e' : q.1 = k := h1.symm.trans e
      have b : valueAt (q :: qs) k = some q.2 := by simp [valueAt, List.find?_cons, e']
      rw [valV_pos e, b]; exact h2
    · have e' : ¬ q.1 = k := fun z => e (h1.trans z)
      have b : valueAt (q :: qs) k = valueAt qs k := by simp [valueAt, List.find?_cons, e']
      rw [valV_neg e, b]; exact ih
theorem KV.any {kvs : List (κ × V)} {vs : List (κ × Value)} (r : KV kvs vs) (k : κ) : (kvs.any fun kv => decide (kv.1 = k)) = vs.any fun kv => decide (kv.1 = k) := by
  unfold KV at r
  induction r with
  | nil => rfl
  | cons h t ih => rw [List.any_cons, List.any_cons, ih, h.1]
theorem KV.repl {kvs : List (κ × V)} {vs : List (κ × Value)} (r : KV kvs vs) (k : κ) {y : V} {u : Value} (ry : RelV y u) :
    KV (kvs.map fun kv => if kv.1 = k then (kv.1, y) else kv) (vs.map fun kv => if kv.1 = k then (kv.1, u) else kv) := by
  unfold KV at r ⊢
  induction r with
  | nil => exact .nil
  | @cons p q ps qs h t ih =>
    rw [List.map_cons, List.map_cons]
    refine .cons ?_ ih
    obtain ⟨h1, h2⟩ := h
    by_cases e : p.1 = k
    · rw [if_pos e, if_pos (h1.symm.trans e)]; exact ⟨h1, ry⟩
    · rw [if_neg e, if_neg (fun z => e (h1.trans z))]; exact ⟨h1, h2⟩
theorem KV.put {kvs : List (κ × V)} {vs : List (κ × Value)} (r : KV kvs vs) (k : κ) {y : V} {u : Value} (ry : RelV y u) : KV (putK kvs k y) (stored vs k u) := by
  unfold putK stored
  rw [r.any k]
  by_cases e : (vs.any fun kv => decide (kv.1 = k)) = true
  · rw [if_pos e, if_pos e]; exact r.repl k ry
  · rw [if_neg e, if_neg e]; exact Paired.snoc r ⟨rfl, ry⟩
theorem KV.length {kvs : List (κ × V)} {vs : List (κ × Value)} (r : KV kvs vs) : kvs.length = vs.length := Paired.length r
end


theorem kV_is {P : Program} {w : World} {k : Key} {u : Value} (r : RelV (kV k) u) : (mixKind P w).is k u = true := by
  cases k with
  | inl i => obtain ⟨t, e⟩ := (show ∃ t, u = Value.int i t from r); subst e; exact mixKind_int P w i t
  | inr x => obtain ⟨t, e⟩ := (show ∃ t, u = Value.str x t from r); subst e; exact mixKind_str P w x t
theorem items_are {P : Program} {w : World} : ∀ {ks : List Key} {us : List Value}, Vals (ks.map kV) us → ItemsAre (mixKind P w) ks us
  | [], _, r => by rw [List.map_nil] at r; cases r; exact .nil
  | k :: ks, _, r => by
    rw [List.map_cons] at r
    cases r with
    | cons h t => exact .cons (kV_is h) (items_are t)

abbrev KT (H : Hp) : List (List Key × V) → List (List Key × Addr × Value) → Prop := Paired fun p q => p.1 = q.1 ∧ H q.2.1 = some (.tup (p.1.map kV)) ∧ RelV p.2 q.2.2
theorem KT.val {H : Hp} {kvs : List (List Key × V)} {xs : List (List Key × Addr × Value)} (r : KT H kvs xs) (k : List Key) : RelO (valV kvs k) ((atKey xs k).map (·.2)) := by
  induction r with
  | nil => exact True.intro
  | @cons p q ps qs h t ih =>
    obtain ⟨h1, _, h2⟩ := h
    by_cases e : p.1 = k
    · have e' : q.1 = k := h1.symm.trans e
      have b : atKey (q :: qs) k = some q.2 := by simp [atKey, List.find?_cons, e']
      rw [valV_pos e, b]; exact h2
    · have e' : ¬ q.1 = k := fun z => e (h1.trans z)
      have b : atKey (q :: qs) k = atKey qs k := by simp [atKey, List.find?_cons, e']
      rw [valV_neg e, b]; exact ih
theorem KT.repl {H : Hp} {kvs : List (List Key × V)} {xs : List (List Key × Addr × Value)} (r : KT H kvs xs) (k : List Key) {y : V} {u : Value} (ry : RelV y u) :
    KT H (kvs.map fun kv => if kv.1 = k then (kv.1, y) else kv) (xs.map (putAt k u)) := by
  induction r with
  | nil => exact .nil
  | @cons p q ps qs h t ih =>
    rw [List.map_cons, List.map_cons]
    refine .cons ?_ ih
    obtain ⟨h1, h2, h3⟩ := h
    unfold putAt
    by_cases e : p.1 = k
    · rw [if_pos e, if_pos (h1.symm.trans e)]; exact ⟨h1, h2, ry⟩
    · rw [if_neg e, if_neg (fun z => e (h1.trans z))]; exact ⟨h1, h2, h3⟩
theorem KT.put {H : Hp} {kvs : List (List Key × V)} {xs : List (List Key × Addr × Value)} (r : KT H kvs xs) (k : List Key) {b : Addr} {y : V} {u : Value} (hb : H b = some (.tup (k.map kV))) (ry : RelV y u) :
    KT H (putK kvs k y) (storedH xs k b u) := by
  have e : (kvs.any fun kv => decide (kv.1 = k)) = (atKey xs k).isSome := by
    rw [valV_any, (r.val k).isSome_eq, Option.isSome_map]
  unfold putK storedH
  rw [e]
  by_cases q : (atKey xs k).isSome = true
  · rw [if_pos q, if_pos q]; exact r.repl k ry
  · rw [if_neg q, if_neg q]; exact Paired.snoc r ⟨rfl, hb, ry⟩
theorem KT.keeps {H H' : Hp} {kvs : List (List Key × V)} {xs : List (List Key × Addr × Value)} (r : KT H kvs xs) (ht : ∀ b ys, H b = some (.tup ys) → H' b = some (.tup ys)) : KT H' kvs xs :=
  Paired.mapP r fun _ _ z => ⟨z.1, ht _ _ z.2.1, z.2.2⟩

section
variable {P : Program} {w : World} {H : Hp} {h : Heap} {a : Addr}
theorem rd_of {u : HO} (ok : HOk P w H h) (e : Rd H a u) : ObjOk P w H h a u := e.ok ok
theorem dk_rd {kvs : List (Key × V)} (ok : HOk P w H h) (e : Rd H a (.dK kvs)) : kvs.length ≤ sizeLine ∧ (a == sysModules) = false ∧ ∃ vs, KV kvs vs ∧ h.DictOf (mixKind P w) a vs :=
  show ObjOk P w H h a (.dK kvs) from rd_of ok e
theorem dk_of {kvs : List (Key × V)} (ok : HOk P w H h) (e : H a = some (.dK kvs)) : kvs.length ≤ sizeLine ∧ (a == sysModules) = false ∧ ∃ vs, KV kvs vs ∧ h.DictOf (mixKind P w) a vs := dk_rd ok (.inl e)
theorem key_of {ks : List Key} (ok : HOk P w H h) (e : H a = some (.tup (ks.map kV))) : (tupleKind (mixKind P w)).is h ks a := by
  obtain ⟨_, its, r, o, h1, h2, n, h3⟩ := (show ObjOk P w H h a (.tup (ks.map kV)) from ok a _ e)
  exact ⟨o, its.toArray, n, h1, h2, h3, by simpa using items_are r⟩
theorem dt_rd {kvs : List (List Key × V)} (ok : HOk P w H h) (e : Rd H a (.dT kvs)) : kvs.length ≤ sizeLine ∧ (a == sysModules) = false ∧
    ∃ xs, KT H kvs xs ∧ h.DictOfH (tupleKind (mixKind P w)) a xs := by
  obtain ⟨z, y, xs, r, o, es, ep, h1, h2, h3, h4, h5⟩ := (show ObjOk P w H h a (.dT kvs) from rd_of ok e)
  refine ⟨z, y, xs, r, o, es, ep, h1, h2, h3, h4, fun x hx => ?_, h5⟩
  have all : ∀ {l : List (List Key × V)} {m : List (List Key × Addr × Value)}, KT H l m → ∀ x ∈ m, (tupleKind (mixKind P w)).is h x.1 x.2.1 := by
    intro l m q
    induction q with
    | nil => intro x hx; exact nomatch hx
    | @cons p q ps qs hq t ih =>
      intro x hx
      rcases List.mem_cons.mp hx with e | hx
      · subst e
        exact key_of ok (by rw [← hq.1]; exact hq.2.1)
      · exact ih x hx
  exact all r x hx
theorem dt_of {kvs : List (List Key × V)} (ok : HOk P w H h) (e : H a = some (.dT kvs)) : kvs.length ≤ sizeLine ∧ (a == sysModules) = false ∧
    ∃ xs, KT H kvs xs ∧ h.DictOfH (tupleKind (mixKind P w)) a xs := dt_rd ok (.inl e)
end

def DGet (H : Hp) (a : Addr) (y : V) (r : Option V) : Prop :=
  (∃ kvs k, Rd H a (.dK kvs) ∧ y = kV k ∧ r = valV kvs k) ∨ ∃ kvs k b, Rd H a (.dT kvs) ∧ y = .ref b ∧ H b = some (.tup (k.map kV)) ∧ r = valV kvs k
def DPut (H : Hp) (a : Addr) (y v : V) (H' : Hp) : Prop :=
  (∃ kvs k, H a = some (.dK kvs) ∧ y = kV k ∧ kvs.length < sizeLine ∧ H' = upd H a (.dK (putK kvs k v))) ∨
  ∃ kvs k b, H a = some (.dT kvs) ∧ y = .ref b ∧ H b = some (.tup (k.map kV)) ∧ kvs.length < sizeLine ∧ H' = upd H a (.dT (putK kvs k v))
theorem DGet.t {H : Hp} {a b : Addr} {kvs : List (List Key × V)} {k : List Key} (e : H a = some (.dT kvs)) (eb : H b = some (.tup (k.map kV))) : DGet H a (.ref b) (valV kvs k) := .inr ⟨kvs, k, b, .inl e, rfl, eb, rfl⟩
theorem DPut.t {H : Hp} {a b : Addr} {kvs : List (List Key × V)} {k : List Key} {v : V} (e : H a = some (.dT kvs)) (eb : H b = some (.tup (k.map kV))) (hl : kvs.length < sizeLine) :
    DPut H a (.ref b) v (upd H a (.dT (putK kvs k v))) := .inr ⟨kvs, k, b, e, rfl, eb, hl, rfl⟩


section
variable {X : Cx} {pins : List (Addr × Obj)} {σ : St} {H : Hp} {s : Shared} {a : Addr} {y v : V} {u r : Value} {o : Option V} {A : Around} {E : Value → Shared → Prop}

theorem Inv.big (I : Inv X pins σ H s) : sysModules < s.heap.objs.size := by
  have h : mainGlobals < s.heap.objs.size := (I.mod.glob.keeps I.bk).lt
  exact Nat.lt_trans (by decide) h

theorem d_getItem {Q : Value → Shared → Prop} (hu : A.units + 1 < cLine) (I : Inv X pins σ H s) (g : DGet H a y (some v)) (ry : RelV y u) (h : ∀ w' s', Inv X pins σ H s' → RelV v w' → Q w' s') :
    wpAny (model X.prog X.w) A (getItem (.ref a) u) Q E s := by
  rcases g with ⟨kvs, k, e, ey, l⟩ | ⟨kvs, k, b, e, ey, eb, l⟩
  · subst ey
    obtain ⟨z, hd, vs, rel, dd⟩ := dk_rd I.hok e
    obtain ⟨w', hw, rw'⟩ := RelO.some_of (v := v) (o := valueAt vs k) (by rw [l]; exact rel.val k)
    exact wpAny_getItem_of (kV_is ry) dd.mapOf hw (h w' _ (I.tok _) rw')
  · subst ey
    cases (show u = Value.ref b from ry)
    obtain ⟨z, hd, xs, rel, dd⟩ := dt_rd I.hok e
    obtain ⟨w', hw, rw'⟩ := RelO.some_of (v := v) (o := (atKey xs k).map (·.2)) (by rw [l]; exact rel.val k)
    obtain ⟨p, hp, hp2⟩ := Option.map_eq_some_iff.mp hw
    refine wpAny_getItem_heap (tupleKind_room_in1 hu) (key_of I.hok eb) dd hp ?_
    rw [hp2]
    exact h w' _ (I.tok _) rw'
theorem d_notIn {Q : Value → Shared → Prop} (hu : A.units + 1 < cLine) (I : Inv X pins σ H s) (g : DGet H a y o) (ry : RelV y u) (h : ∀ s', Inv X pins σ H s' → Q (.bool (!o.isSome)) s') :
    wpAny (model X.prog X.w) A (compareOp .NotIn u (.ref a)) Q E s := by
  rcases g with ⟨kvs, k, e, ey, l⟩ | ⟨kvs, k, b, e, ey, eb, l⟩
  · subst ey
    obtain ⟨z, hd, vs, rel, dd⟩ := dk_rd I.hok e
    refine wpAny_notIn_of (kV_is ry) hd dd.mapOf ?_
    rw [← (rel.val k).isSome_eq, ← l]
    exact h _ (I.tok _)
  · subst ey
    cases (show u = Value.ref b from ry)
    obtain ⟨z, hd, xs, rel, dd⟩ := dt_rd I.hok e
    refine wpAny_notIn_heap (tupleKind_room_in1 hu) (key_of I.hok eb) hd dd ?_
    have q := (rel.val k).isSome_eq
    rw [Option.isSome_map] at q
    rw [← q, ← l]
    exact h _ (I.tok _)
theorem d_write {h' : Heap} {t' : Nat} {ob : HO} (I : Inv X pins σ H s) (mu : Mut (H a)) (hs : Heap.SameBut a s.heap h') (he : ∃ q, h'.get? a = some q) (new : ObjOk X.prog X.w (upd H a ob) h' a ob) :
    Inv X pins σ (upd H a ob) { s with heap := h', toks := t' } :=
  I.write (x := a) (e := a) mu (.inl rfl) (fun b q hb z => (hs.2 b hb).trans z) he new
theorem dk_new {P : Program} {w : World} {H' : Hp} {h' : Heap} {kvs : List (Key × V)} {vs : List (Key × Value)} (z : kvs.length ≤ sizeLine) (hd : (a == sysModules) = false) (rel : KV kvs vs) (dd : h'.DictOf (mixKind P w) a vs) :
    ObjOk P w H' h' a (.dK kvs) := ⟨z, hd, vs, rel, dd⟩
theorem d_setItem {H' : Hp} {Q : Unit → Shared → Prop} (hu : A.units + 1 < cLine) (I : Inv X pins σ H s) (g : DPut H a y v H') (ry : RelV y u) (rv : RelV v r) (h : ∀ s', Inv X pins σ H' s' → Q () s') :
    wpAny (model X.prog X.w) A (setItem (.ref a) u r) Q E s := by
  rcases g with ⟨kvs, k, e, ey, l, eH⟩ | ⟨kvs, k, b, e, ey, eb, l, eH⟩
  · subst ey eH
    obtain ⟨z, hd, vs, rel, dd⟩ := dk_of I.hok e
    have hz : vs.length ≤ sizeLine := by rw [← rel.length]; exact z
    have hl : (putK kvs k v).length ≤ sizeLine := by have := length_putK kvs k v; omega
    refine wpAny_setItem_pairs (hsz := hz) (kV_is ry) dd fun h' dd' hs => h _ ?_
    have he : ∃ q, h'.get? a = some q := let ⟨q, _, _, hq, _⟩ := dd'; ⟨q, hq⟩
    exact d_write I (by rw [e]; exact True.intro) hs he (dk_new hl hd (rel.put k rv) dd')
  · subst ey eH
    cases (show u = Value.ref b from ry)
    obtain ⟨z, hd, xs, rel, dd⟩ := dt_of I.hok e
    have hz : xs.length ≤ sizeLine := by rw [← Paired.length rel]; exact z
    have hl : (putK kvs k v).length ≤ sizeLine := by have := length_putK kvs k v; omega
    refine wpAny_setItem_heap (hsz := hz) (tupleKind_room_in1 hu) (key_of I.hok eb) dd fun h' dd' hs => h _ ?_
    obtain ⟨q, es, ep, hq, h2, h3, h4, _, h5⟩ := dd'
    refine d_write I (by rw [e]; exact True.intro) hs ⟨q, hq⟩ ⟨hl, hd, _, (rel.put k eb rv).keeps fun c ys ec => ?_, q, es, ep, hq, h2, h3, h4, h5⟩
    rw [upd_ne (ne_of ec e (fun z => nomatch z))]
    exact ec
end

section
variable {X : Cx} {pins : List (Addr × Obj)} {σ : St} {H : Hp} {s : Shared} {a : Addr} {kvs : List (Key × V)} {k : Key} {u : Value} {A : Around} {E : Value → Shared → Prop}
end


def NoSl (i : Expr) : Prop := ∀ ov iv, subscripted i false ov iv = operate [ov, iv] (getItem ov iv)
theorem subD_of {prog : Program} {w : World} {A : Around} {E : Value → Shared → Prop} {s : Shared} {env : Env} {value slice : Expr} {pos : Pos} {T id : String} {Q : Value → Shared → Prop}
    (hl : typeLookup (.type T) "__getitem__" = pure (some (.builtin id))) (hs : NoSl slice)
    (h : wpAny (model prog w) A (eval value env) (fun o s₁ => wpAny (model prog w) A (eval slice env) (fun i s₂ => s₂.TypeIs o T ∧ wpAny (model prog w) A (getItem o i) Q E s₂) E s₁) E s) :
    wpAny (model prog w) A (eval (.Subscript value slice pos) env) Q E s := by
  refine Subscript_ (wpAny_mono h (fun o s₁ h₁ => wpAny_mono h₁ (fun i s₂ h₂ => ?_) fun _ _ x => x) fun _ _ x => x)
  obtain ⟨hT, h₂⟩ := h₂
  unfold subscriptTail
  refine wpAny_bind ?_
  rw [getitemInPython_of_ne hT.not_modules]
  refine wpAny_bind (wpAny_specialOf hT hl ?_)
  have fin : wpAny (model prog w) A (subscripted slice false o i) (fun r s₃ => wpAny (model prog w) A (letTemporaryGo value o r >>= fun _ => pure r) Q E s₃) E s₂ := by
    rw [hs o i]
    exact wpAny_operating (wpAny_mono h₂ (fun r s₃ h₃ => wpAny_bind (wpAny_letTemporaryGo (wpAny_pure h₃))) fun _ _ x => x)
  first
    | exact wpAny_pure (wpAny_bind fin)
    | exact wpAny_bind (wpAny_pure (wpAny_bind fin))
    | exact wpAny_bind fin

theorem dict_typeIs {X : Cx} {pins : List (Addr × Obj)} {σ : St} {H : Hp} {s : Shared} {a : Addr} {y : V} {o : Option V} (I : Inv X pins σ H s) (g : DGet H a y o) : s.TypeIs (.ref a) "dict" := by
  rcases g with ⟨kvs, k, e, _, _⟩ | ⟨kvs, k, b, e, _, _, _⟩
  · obtain ⟨_, _, vs, _, dd⟩ := dk_rd I.hok e
    exact dd.typeIs
  · obtain ⟨_, _, xs, _, dd⟩ := dt_rd I.hok e
    exact dd.typeIs
def tDGet (td ty : TE) : TE := fun σ H Q => td σ H fun x H1 => ty σ H1 fun y H2 => ∃ a v, x = .ref a ∧ DGet H2 a y (some v) ∧ Q v H2
def tDNotIn (ty td : TE) : TE := fun σ H Q => ty σ H fun y H1 => td σ H1 fun x H2 => ∃ a o, x = .ref a ∧ DGet H2 a y o ∧ Q (.bl (!o.isSome)) H2
def sDPut (td ty tv : TE) : TS := fun D σ H => tv σ H fun v H1 => td σ H1 fun x H2 => ty σ H2 fun y H3 => ∃ a H4, x = .ref a ∧ DPut H3 a y v H4 ∧ D.nx σ H4
section
variable {X : Cx} {o i e value : Expr} {pos pos' tpos : Pos} {td ty tv : TE}
theorem pe_dget (hu : X.A.units + 1 < cLine) (ho : PE X o td) (hi : PE X i ty) (hs : NoSl i) : PE X (.Subscript o i pos) (tDGet td ty) := by
  intro pins s σ H Q I h
  refine subD_of PySem.F.slot_dict_getitem.lookup hs (thn (ho pins s σ H _ I h) fun u s1 ⟨x, H1, I1, rx, q1⟩ => thn (hi pins s1 σ H1 _ I1 q1) fun iv s2 ⟨y, H2, I2, ry, a, v, ex, g, q2⟩ => ?_)
  subst ex
  obtain rfl : u = Value.ref a := rx
  exact ⟨dict_typeIs I2 g, d_getItem hu I2 g ry fun w' s3 I3 rw' => ⟨v, H2, I3, rw', q2⟩⟩
theorem pc_dnotin (hu : X.A.units + 1 < cLine) (hi : PE X i ty) (ho : PE X o td) : PC X .NotIn i o (tDNotIn ty td) := by
  intro pins s σ H Q I h
  refine thn (hi pins s σ H _ I h) fun iv s1 ⟨y, H1, I1, ry, q1⟩ => thn (ho pins s1 σ H1 _ I1 q1) fun u s2 ⟨x, H2, I2, rx, a, ov, ex, g, q2⟩ => ?_
  subst ex
  obtain rfl : u = Value.ref a := rx
  exact d_notIn hu I2 g ry fun s3 I3 => ⟨.bl (!ov.isSome), H2, I3, rfl, q2⟩
theorem ps_dput (hu : X.A.units + 1 < cLine) (ho : PE X o td) (hi : PE X i ty) (hv : PE X value tv) (hs : swapsWith value (some (.Subscript o i pos')) pos.line X.env = pure false) :
    PS X (.Assign [.Subscript o i pos'] value pos) (sDPut td ty tv) := by
  intro pins s σ H D I h
  refine wpAny_Assign_Subscript (thn (hv pins s σ H _ I h) fun r s1 ⟨v, H1, I1, rv, q1⟩ => thn (ho pins s1 σ H1 _ I1 q1) fun u s2 ⟨x, H2, I2, rx, q2⟩ => thn (hi pins s2 σ H2 _ I2 q2) fun iv s3 ⟨y, H3, I3, ry, a, H4, ex, g, q3⟩ => ?_) hs
  subst ex
  obtain rfl : u = Value.ref a := rx
  exact d_setItem hu I3 g ry rv fun s4 I4 => ⟨σ, H4, I4, q3⟩
end


theorem dk_empty {P : Program} {w : World} {H : Hp} (h : Heap) (hb : sysModules < h.objs.size) : ObjOk P w H (h.push { cls := .type "dict", data := .dict #[] }) h.objs.size (.dK []) :=
  ⟨Nat.zero_le _, beq_eq_false_iff_ne.mpr (Ne.symm (Nat.ne_of_lt hb)), [], .nil, Heap.DictOf.new h⟩
theorem dt_empty {P : Program} {w : World} {H : Hp} (h : Heap) (hb : sysModules < h.objs.size) : ObjOk P w H (h.push { cls := .type "dict", data := .dict #[] }) h.objs.size (.dT []) :=
  ⟨Nat.zero_le _, beq_eq_false_iff_ne.mpr (Ne.symm (Nat.ne_of_lt hb)), [], .nil, _, #[], 0, Heap.get?_push_size _ rfl, ⟨rfl, rfl, rfl⟩, rfl, rfl, List.nodup_nil⟩
def tDNewK : TE := fun _ H Q => ∀ p, H p = none → Q (.ref p) (upd H p (.dK []))
def tDNewT : TE := fun _ H Q => ∀ p, H p = none → Q (.ref p) (upd H p (.dT []))
section
variable {X : Cx} {pos : Pos}
theorem pe_dnewK : PE X (.Dict [] [] pos) tDNewK := fun pins s σ H Q I h =>
  wpAny_Dict_empty ⟨.ref s.heap.objs.size, _, I.laid (a := s.heap.objs.size) (o := .dK []) (t' := s.toks) (fun _ _ q => Heap.get?_push_of_some _ q) (Nat.le_refl _) (dk_empty s.heap I.big), rfl, h _ (I.hok.fresh (Nat.le_refl _))⟩
theorem pe_dnewT : PE X (.Dict [] [] pos) tDNewT := fun pins s σ H Q I h =>
  wpAny_Dict_empty ⟨.ref s.heap.objs.size, _, I.laid (a := s.heap.objs.size) (o := .dT []) (t' := s.toks) (fun _ _ q => Heap.get?_push_of_some _ q) (Nat.le_refl _) (dt_empty s.heap I.big), rfl, h _ (I.hok.fresh (Nat.le_refl _))⟩
end

structure M2 (X : Cx) (o : Expr) (m : Str) (apos : Pos) (e f : Expr) (cpos : Pos) : Prop where
  base : attributeBase o m X.env (eval o X.env) = eval o X.env
  few : ((backTo cpos (starEach [e, f] X.env)).all (fun x => !x.1) && (backToKw cpos (keywordEach [] X.env)).all (fun x => x.1.isSome)
    && decide (([e, f] : List Expr).length + ([] : List Keyword).length + (if ([] : List Keyword).isEmpty then 0 else 1) < 30)) = true
  line : (apos.endLine == cpos.line) = true
  trees : backTo cpos (starEach [e, f] X.env) = [(false, eval e X.env), (false, eval f X.env)]

def IsD (H : Hp) (a : Addr) : Prop := (∃ kvs, Rd H a (.dK kvs)) ∨ ∃ kvs, Rd H a (.dT kvs)
theorem isD_at {X : Cx} {pins : List (Addr × Obj)} {σ : St} {H : Hp} {s : Shared} {a : Addr} (I : Inv X pins σ H s) (d : IsD H a) :
    s.TypeIs (.ref a) "dict" ∧ (∀ b, Value.ref a = .ref b → ∃ ob, s.heap.get? b = some ob ∧ ob.dict = none) ∧ (a == sysModules) = false := by
  rcases d with ⟨kvs, e⟩ | ⟨kvs, e⟩
  · obtain ⟨_, hd, vs, _, dd⟩ := dk_rd I.hok e
    refine ⟨dd.typeIs, fun b q => ?_, hd⟩
    cases q
    obtain ⟨ob, _, _, h1, h2, _⟩ := dd
    exact ⟨ob, h1, h2.2.1⟩
  · obtain ⟨_, hd, xs, _, dd⟩ := dt_rd I.hok e
    refine ⟨dd.typeIs, fun b q => ?_, hd⟩
    cases q
    obtain ⟨ob, _, _, h1, h2, _⟩ := dd
    exact ⟨ob, h1, h2.2.1⟩

section
variable {X : Cx} {pins : List (Addr × Obj)} {σ : St} {H : Hp} {s : Shared} {a : Addr} {y d : V} {u r : Value} {o : Option V} {A : Around} {E : Value → Shared → Prop}
end

section
variable {X : Cx} {o e f : Expr} {apos cpos : Pos} {td ty tx : TE}
end

section
variable {X : Cx} {pins : List (Addr × Obj)} {σ : St} {H : Hp} {s : Shared} {a : Addr} {kvs : List (Key × V)} {A : Around} {E : Value → Shared → Prop}
end


section
variable {X : Cx} {pins : List (Addr × Obj)} {σ : St} {H : Hp} {s : Shared} {a : Addr} {y : V} {u : Value} {A : Around} {E : Value → Shared → Prop}
end
end L2

namespace Att
open PySem PySem.W PySem.Calls PyProof.Rows

theorem ints_of_wellAll {P : Params} {h : Heap} : ∀ (ns : List Int) (vs : List Value), WellAll P h vs (ns.map WData.int) → IntsAre vs ns := by
  intro ns
  induction ns with
  | nil =>
    intro vs w
    rw [List.map_nil] at w
    cases w
    exact .nil
  | cons n ns ih =>
    intro vs w
    rw [List.map_cons] at w
    cases w with
    | cons a b =>
      cases a
      exact .cons _ _ (ih _ b)

theorem script_of {l : OpenLaw} {n : Nat} (hn : l.most = some n) {P : Params} {h : Heap} {args : List WData} {vals : List Value}
    (hpre : l.row.toRowW.claim.pre args = true) (hwl : WellAll P h vals args) :
    ∃ a vs ns, vals = [Value.ref a] ∧ args = [WData.list (ns.map WData.int)] ∧ h.get? a = some { cls := .type "list", data := .seq vs.toArray } ∧ IntsAre vs ns ∧ ns.length ≤ n := by
  have hsh : WShape.hasAll [] args [.list .int] = true := (pre_splitW hpre).1
  have hc : l.pre.holds [] { args := args } = true := (pre_splitW hpre).2
  obtain ⟨d, r, rfl, h1, h2⟩ := hasAllW_cons hsh
  obtain rfl := hasAllW_nil h2
  obtain ⟨xs, rfl, h3⟩ := hasW_list h1
  obtain ⟨ns, rfl⟩ := items_int h3
  have hlen : ns.length ≤ n := by
    unfold OpenLaw.pre at hc
    have h4 : (WTm.not (.lt (.lit (.int (n : Int))) (.len (.arg 0)))).holds [] { args := [.list (ns.map .int)] } = true := by
      have h4 := (holds_andW hc).1
      rw [hn] at h4
      exact h4
    have h5 := condW_of h4 (w_not (w_lt w_lit (w_len_list (w_arg rfl))))
    rw [List.length_map] at h5
    refine Nat.le_of_not_lt fun q => ?_
    have q' : (n : Int) < ((ns.length : Nat) : Int) := by omega
    first
      | (rw [decide_eq_true q'] at h5; exact absurd h5 (by decide))
      | (simp at h5; omega)
  cases hwl with
  | cons w1 w2 =>
    cases w2
    cases w1 with
    | list ho hall => exact ⟨_, _, ns, rfl, rfl, ho, ints_of_wellAll ns _ hall, hlen⟩

theorem post_true (l : OpenLaw) (args : List WData) : l.row.toRowW.claim.post args (.bool true) args = true :=
  postW_of (r := l.row.toRowW) (X := (true == true))
    (show WShape.has [] (.bool true) .bool = true by first | rfl | decide | simp [WShape.has, WShape.arms, WShape.armsAll])
    (show (WTm.eq .res (.lit (.bool true))).value [] { args := args, res := some (.bool true), after := args } = some (.bool (true == true)) from w_eq_bool (w_res rfl) w_lit) rfl

theorem attach_call {l : OpenLaw} {n : Nat} {q : Program} {loose : List Str} {XP : (Str → Option Value) → Heap → Prop} {YP : World → Heap → Prop} {d : DefRec}
    (hn : l.most = some n) (hdf : d.params.defaults = [])
    (call : ∀ (w : World) (s₀ s₁ : Shared) (mg mb : Str → Option Value) (fa : Addr) (o : Obj) (pm cd doc : Value) (a : Addr) (vs : List Value) (ns : List Int),
      Ground q loose [] XP w s₀ mg mb s₁.heap → YP w s₁.heap →
      s₁.heap.get? fa = some o → o.data = .func (docDef d.name d.params d.body d.scope pm cd doc) → s₁.heap.CodeRec cd d.name → mg d.name = some (.ref fa) →
      s₁.heap.get? a = some { cls := .type "list", data := .seq vs.toArray } → IntsAre vs ns → ns.length ≤ n → s₁.gens = #[] →
      codeAny (model l.prog w) callerA (.call (.ref fa) ⟨[.ref a], []⟩) (fun r s' => r = .ok (.ret (.bool true)) ∧ OldK s₁.heap s'.heap ∧ s'.os = s₁.os ∧ AllBare s'.gens) s₁) :
    WalkO q loose XP YP l.row.toRowW d [] (fun f vs => PySem.call f vs) := by
  intro w s₀ s₁ mg mb G Y fa o pm cd doc dV kV ho hd hcd hD hmg hg args vals as hpre hlay hrd hwl hlo
  obtain rfl : dV = .none := Dflts.none hD hdf
  obtain rfl : kV = .none := Dflts.noKw hD
  obtain ⟨a, vs, ns, rfl, rfl, hobj, hints, hlen⟩ := script_of hn hpre hwl
  refine enter_call (codeAny_mono (call w s₀ s₁ mg mb fa o pm cd doc a vs ns G Y ho (fd_plain hd) hcd hmg hobj hints hlen hg) fun r s' hq => ?_)
  obtain ⟨rfl, h2, h3, h4⟩ := hq
  exact ⟨.inl ⟨.bool true, .bool true, [], rfl, fun _ => rfl, .bool true, post_true l _, fun _ => ⟨List.Pairwise.nil, fun _ hm => (nomatch hm)⟩⟩, h2, h3, h4⟩

section
variable {prog : Program} {w : World} {A : Around} {E : Value → Shared → Prop} {s : Shared} {K : Frag}

end
end Att

namespace L2
open PySem PySem.Spec PyProof.Rows

theorem vals_ints : ∀ {vs : List Value} {ns : List Int}, IntsAre vs ns → Vals (ns.map V.int) vs
  | _, _, .nil => .nil
  | _, _, .cons n t h => .cons ⟨t, rfl⟩ (vals_ints h)

def Only (H : Hp) : Prop := ∀ b, H b = none ∨ ∃ o xs, H b = some (.frz o (.lst xs))

theorem law_call {P : Program} {w : World} {K : PySem.W.Frag} {mg mb : Str → Option Value} {CX : CXT} {k : Nat} {fa a : Addr} {fd : FuncData} {x : Str} {sp : Sp} {s₁ : Shared} {vs : List Value} {ns : List Int}
    (KX : K.In s₁.heap) (hns : s₁.heap.Ns mainGlobals mg) (hb : s₁.heap.Ns builtinsNs mb) (hbb : ∀ x : Str, x ≠ "__name__" → mb x = bootBuiltins x) (hlim : s₁.heap.NoLimit) (hg : s₁.gens = #[])
    (ha : s₁.heap.get? a = some { cls := .type "list", data := .seq vs.toArray }) (hi : IntsAre vs ns) (hl : ns.length ≤ sizeLine) (hr : Room k callerA)
    (F : ∀ base : Heap, K.In base → base.Ns mainGlobals mg → FnOk P w K mg base CX k fa fd [x] sp) (hbind : ∀ (s : Shared) (u : Value), BindsTo s fd ⟨[u], []⟩ [(x, u)])
    (hsp : ∀ H : Hp, Only H → SqL K H a (ns.map V.int) → sp [.ref a] H (fun v _ => v = .bl true) fun _ _ _ => False)
    (hCX : ∀ H e s', CX [] H s₁ (fun _ _ _ => False) e s' → False) :
    codeAny (model P w) callerA (.call (.ref fa) ⟨[.ref a], []⟩) (fun r s' => r = .ok (.ret (.bool true)) ∧ OldK s₁.heap s'.heap ∧ s'.os = s₁.os ∧ AllBare s'.gens) s₁ := by
  have rv := vals_ints hi
  have lenV := hi.length
  -- from an abstract heap in which nothing but the script may be tracked
  have core : ∀ H : Hp, Only H → SqL K H a (ns.map V.int) → HOk P w H s₁.heap → (∀ b, H b ≠ none → b = a) → (H a ≠ none → K.lookup a = none) →
      codeAny (model P w) callerA (.call (.ref fa) ⟨[.ref a], []⟩) (fun r s' => r = .ok (.ret (.bool true)) ∧ OldK s₁.heap s'.heap ∧ s'.os = s₁.os ∧ AllBare s'.gens) s₁ := by
    intro H hO hS hok hA hK
    have base_of : ∀ {b : Addr} {o : Obj}, s₁.heap.get? b = some o → H b = none → (hidT s₁.heap H).get? b = some o := fun e n => hidT_get e n
    have noA : ∀ {b : Addr} {o : Obj} {es : Array DictEntry} {ep : Nat}, s₁.heap.get? b = some o → o.data = .dict es ep → H b = none := fun {b o es ep} e d => by
      cases q : H b with
      | none => rfl
      | some u =>
        have e' : b = a := hA b (by rw [q]; simp)
        subst e'
        rw [ha] at e; cases e
        have d' : Data.seq vs.toArray _ = Data.dict es ep := d
        cases d'
    have nsK : ∀ {b : Addr} {m : Str → Option Value}, s₁.heap.Ns b m → (hidT s₁.heap H).Ns b m := fun {b m} ⟨o, es, ep, e, d, r⟩ => ⟨o, es, ep, base_of e (noA e d), d, r⟩
    have hKb : K.In (hidT s₁.heap H) := fun b o e => base_of (KX b o e) (by
      cases q : H b with
      | none => rfl
      | some u =>
        have e' : b = a := hA b (by rw [q]; simp)
        subst e'
        rw [hK (by rw [q]; simp)] at e; cases e)
    have hM : Mod K mg (hidT s₁.heap H) := ⟨hKb, nsK hns, ⟨mb, nsK hb, hbb⟩, let ⟨mc, h1, h2⟩ := hlim; ⟨mc, nsK h1, h2⟩⟩
    have e0 : Env0 P w K mg (hidT s₁.heap H) callerA [] s₁ H := ⟨rfl, hM, fun b o e => of_hidT e, Nat.le_of_eq (hidT_size _ _), trivial, fun b hb => absurd (show b ∈ ([] : List Addr) from hb) (by simp), hok, .of_eq hg⟩
    refine codeAny_mono ((F _ hKb (nsK hns)).run callerA [] s₁ H ⟨[.ref a], []⟩ [.ref a] [.ref a] _ _ hr e0 (hbind s₁ (.ref a)) (.cons rfl .nil) (hsp H hO hS)) fun r s' h => ?_
    cases r with
    | error e => exact (hCX H e s' h).elim
    | ok fl =>
      cases fl with
      | next => exact False.elim h
      | brk => exact False.elim h
      | cont => exact False.elim h
      | ret u =>
        obtain ⟨v, H', os, bare, un, hok', r', q⟩ := h
        have q' : v = .bl true := q
        subst q'
        obtain rfl : u = Value.bool true := r'
        refine ⟨rfl, OldK.of_keep fun b o e => ?_, os, bare⟩
        cases q : H b with
        | none => exact un.keep b o e q (by intro z; exact absurd (show b ∈ ([] : List Addr) from z) (by simp)) (by simp)
        | some u =>
          rcases hO b with z | ⟨ob, xs, z⟩
          · rw [q] at z; cases z
          · have z2 := un.frzs b ob _ z
            obtain ⟨e1, _⟩ := hok b _ z
            obtain ⟨e2, _⟩ := hok' b _ z2
            rw [e] at e1; cases e1
            exact e2
  cases hk : K.lookup a with
  | some o =>
    -- the script is one of the module's own objects
    have e := KX a o hk
    rw [ha] at e
    cases e
    refine core (fun _ => none) (fun _ => .inl rfl) (.inr ⟨_, vs.toArray, _, hk, rfl, rfl, rfl, by rw [List.size_toArray, lenV]; exact hl, by simpa using rv⟩) (fun b u z => by have z' : (none : Option HO) = some u := z; cases z') (fun b z => absurd rfl z) fun z => absurd rfl z
  | none =>
    refine core (fun b => if b = a then some (.frz { cls := .type "list", data := .seq vs.toArray } (.lst (ns.map V.int))) else none) (fun b => ?_) (.inl (.inr ⟨{ cls := .type "list", data := .seq vs.toArray }, if_pos rfl⟩)) (fun b u z => ?_) (fun b z => ?_) fun _ => hk
    · by_cases hb : b = a
      · exact .inr ⟨_, _, if_pos hb⟩
      · exact .inl (if_neg hb)
    · by_cases hb : b = a
      · have z' := (if_pos hb).symm.trans z
        cases z'
        subst hb
        exact ⟨ha, by rw [List.length_map]; exact hl, vs, _, rv, ha⟩
      · have z' := (if_neg hb).symm.trans z
        cases z'
    · by_cases hb : b = a
      · exact hb
      · exact absurd (if_neg hb) z
end L2

namespace L2
open PySem PySem.Spec PyProof.Rows

theorem walk_of {l : PySem.W.OpenLaw} {n k : Nat} {q : Program} {loose : List Str} {XP : (Str → Option Value) → Heap → Prop} {YP : World → Heap → Prop} {d : DefRec} {K : Params → PySem.W.Frag} {CX : World → CXT} {sp : World → Sp} {x : Str}
    (hn : l.most = some n) (hn2 : n ≤ sizeLine) (hdf : d.params.defaults = []) (hr : Room k callerA)
    (hY : ∀ (w : World) (h : Heap), YP w h → (K w.params).In h)
    (F : ∀ (w : World) (mg : Str → Option Value) (fa : Addr) (h : Heap), (K w.params).In h → h.Ns mainGlobals mg → mg d.name = some (.ref fa) →
      ∃ fd : FuncData, (∀ (s : Shared) (u : Value), BindsTo s fd ⟨[u], []⟩ [(x, u)]) ∧
        ∀ base : Heap, (K w.params).In base → base.Ns mainGlobals mg → FnOk l.prog w (K w.params) mg base (CX w) k fa fd [x] (sp w))
    (hsp : ∀ (w : World) (H : Hp) (a : Addr) (ns : List Int), ns.length ≤ n → Only H → SqL (K w.params) H a (ns.map V.int) → sp w [.ref a] H (fun v _ => v = .bl true) fun _ _ _ => False)
    (hCX : ∀ (w : World) (H : Hp) (s : Shared) (e : Value) (s' : Shared), CX w [] H s (fun _ _ _ => False) e s' → False) :
    PySem.W.WalkO q loose XP YP l.row.toRowW d [] (fun f vs => PySem.call f vs) := by
  refine Att.attach_call hn hdf fun w s₀ s₁ mg mb fa o pm cd doc a vs ns G Y ho hd hcd hmg hobj hints hlen hg => ?_
  have KX := hY w _ Y
  obtain ⟨fd, hb, hF⟩ := F w mg fa _ KX G.T.g hmg
  exact law_call KX G.T.g G.T.b G.T.builtins G.T.nolimit hg hobj hints (Nat.le_trans hlen hn2) hr hF hb (fun H hO hS => hsp w H a ns hlen hO hS) fun H e s' => hCX w H s₁ e s'
end L2


namespace L2
open PySem PySem.Spec PyProof.Rows

def inClass (s : Stmt) (j : Nat) : Stmt := match s with
  | .ClassDef _ _ _ body _ _ _ _ _ _ _ => body.getD j (.Pass ⟨0, 0, 0, 0⟩)
  | _ => .Pass ⟨0, 0, 0, 0⟩
def defArgs (s : Stmt) : Arguments := match s with
  | .FunctionDef _ a _ _ _ _ _ _ _ _ => a
  | _ => { posonlyargs := [], args := [], vararg := none, kwonlyargs := [], kw_defaults := [], kwarg := none, defaults := [] }
def defBody (s : Stmt) : List Stmt := match s with
  | .FunctionDef _ _ b _ _ _ _ _ _ _ => b
  | _ => []
def defScope (s : Stmt) : Scope := match s with
  | .FunctionDef _ _ _ _ _ _ sc _ _ _ => sc
  | _ => { kind := .function, names := [], isGenerator := false, isCoroutine := false }

abbrev CX0 : CXT := fun _ _ _ _ _ _ => False
abbrev E0 : XK := fun _ _ _ => False
theorem pass0 {X : Cx} : Passes CX0 X E0 := fun _ _ _ _ _ _ _ h => h.elim

structure Fun (K : PySem.W.Frag) (x qual : Str) (st : Stmt) (f : Addr) (fd : FuncData) : Prop where
  ex : ∃ (oc : Value) (od : Option Addr) (kV doc pm : Value) (an : Option Addr) (cdv ct : Value) (osl : Array (Option Value)),
    fd = PySem.W.fnOf x qual (defArgs st) (defBody st) (defScope st) .none kV doc pm an cdv ct ∧ K.lookup f = some ⟨oc, od, .func fd, osl⟩ ∧ PySem.W.codeIn K cdv qual = true
  kp : PySem.W.keepIn K (.ref f) = true
section
variable {P : Program} {w : World} {K : PySem.W.Frag} {mg : Str → Option Value} {base : Heap}
theorem Fun.ok {x qual : Str} {st : Stmt} {f : Addr} {fd : FuncData} {N ps : List Str} {k : Nat} {sp : Sp} (F : Fun K x qual st f fd) (S : FnScope N ps (defScope st)) (len : ∀ vs H Q E, sp vs H Q E → vs.length = ps.length)
    (hbody : ∀ (cdv : Value) (A : Around) (outer : List Env) (s : Shared) (H : Hp) (vs : List V) (Q : VK) (E : XK), Room k (A.deeper (envOfC qual (defScope st) s.heap.objs.size f cdv)) → sp vs H Q E →
      ∃ t, PSs (cxOf CX0 P w K mg base N qual (defScope st) f cdv A outer s H E).nox (defBody st) t ∧ t { nx := fun _ H' => Q .non H', rt := Q } (start N vs) H) : FnOk P w K mg base CX0 (k + 1) f fd ps sp := by
  obtain ⟨oc, od, kV, doc, pm, an, cdv, ct, osl, rfl, lk, hcd⟩ := F.ex
  refine fn_of lk hcd S len fun A outer s H vs Q E hr hsp => ?_
  obtain ⟨t, h, q⟩ := hbody cdv A outer s H vs Q E hr hsp
  exact ⟨t, h.nox, q⟩
theorem Fun.binds {x qual : Str} {st : Stmt} {f : Addr} {fd : FuncData} {ps : List Str} (F : Fun K x qual st f fd)
    (h : ∀ (kV doc pm : Value) (an : Option Addr) (cdv ct : Value) (us : List Value), us.length = ps.length → bindArgs (PySem.W.fnOf x qual (defArgs st) (defBody st) (defScope st) .none kV doc pm an cdv ct) ⟨us, []⟩ = pure (ps.zip us)) : Binds K fd ps [] := by
  obtain ⟨oc, od, kV, doc, pm, an, cdv, ct, osl, rfl, lk, hcd⟩ := F.ex
  exact .all (h kV doc pm an cdv ct)
theorem fun_mk {x qual : Str} {st : Stmt} {f : Addr} {oc : Value} {od an : Option Addr} {osl : Array (Option Value)} {kV doc pm cdv ct : Value} (l : K.lookup f = some ⟨oc, od, .func (PySem.W.fnOf x qual (defArgs st) (defBody st) (defScope st) .none kV doc pm an cdv ct), osl⟩)
    (c : PySem.W.codeIn K cdv qual = true) (k : PySem.W.keepIn K (.ref f) = true) : Fun K x qual st f (PySem.W.fnOf x qual (defArgs st) (defBody st) (defScope st) .none kV doc pm an cdv ct) := ⟨⟨oc, od, kV, doc, pm, an, cdv, ct, osl, rfl, l, c⟩, k⟩
end
theorem hu_of {A : Around} {k : Nat} (hr : Room k A) : A.units + 1 < cLine := Nat.lt_of_le_of_lt (Nat.add_le_add_left (by decide : 1 ≤ 64) _) hr.units
theorem small1000 {n : Nat} (h : n ≤ 1000) : n < sizeLine := Nat.lt_of_le_of_lt h (by decide)

section
variable {X : Cx}
theorem pv (i : Nat) {x : Str} {pos : Pos} (hN : X.N[i]? = some x := by rfl) (hv : Vis X.env.scope x := by first | exact Or.inl rfl | exact Or.inr (Or.inl rfl) | exact Or.inr (Or.inr rfl)) (hd : (x == ("__debug__" : Str)) = false := by decide)
    (hcd : (x == ("__classdict__" : Str)) = false := by decide) : PE X (.Name x pos) (tVar i) := pe_var hN hv hd hcd
end

theorem iteF {A B : Prop} (h : B) : if false = true then A else B := by
  rw [if_neg Bool.false_ne_true]
  exact h
theorem iteT {A B : Prop} (h : A) : if true = true then A else B := by
  rw [if_pos rfl]
  exact h
theorem ite2 {c A B : Prop} [Decidable c] (h1 : c → A) (h2 : ¬ c → B) : if c then A else B := by
  by_cases h : c
  · rw [if_pos h]
    exact h1 h
  · rw [if_neg h]
    exact h2 h
def Same (H H' : Hp) : Prop := ∀ b o, H b = some o → H' b = some o
theorem Same.refl (H : Hp) : Same H H := fun _ _ h => h
theorem Same.trans {H H1 H2 : Hp} (a : Same H H1) (b : Same H1 H2) : Same H H2 := fun c o h => b c o (a c o h)
theorem Same.free {H H' : Hp} (e : Same H H') {l : Addr} (h : H' l = Option.none) : H l = Option.none := by
  cases q : H l with
  | none => rfl
  | some o =>
    rw [e l o q] at h
    cases h
theorem Same.seq {K : PySem.W.Frag} {H H' : Hp} {a : Addr} {xs : List V} (e : Same H H') (h : SqL K H a xs) : SqL K H' a xs := by
  rcases h with (h | ⟨o, h⟩) | h
  · exact .inl (.inl (e _ _ h))
  · exact .inl (.inr ⟨o, e _ _ h⟩)
  · exact .inr h

section
variable {κ : Type} [DecidableEq κ]
end
end L2
set_option autoImplicit false
namespace TS
section
variable {β : Type} (le : β → β → Prop)

structure MI (A B out ra rb : List β) : Prop where
  perm : (out ++ (ra ++ rb)).Perm (A ++ B)
  srt : out.Pairwise le
  sa : ra.Pairwise le
  sb : rb.Pairwise le
  ba : ∀ x ∈ out, ∀ y ∈ ra, le x y
  bb : ∀ x ∈ out, ∀ y ∈ rb, le x y
def Mg (A B r : List β) : Prop := r.Perm (A ++ B) ∧ r.Pairwise le
variable {le}
variable {A B out xs ra rb : List β}
theorem MI.start (sa : A.Pairwise le) (sb : B.Pairwise le) : MI le A B [] A B :=
  ⟨List.Perm.refl _, List.Pairwise.nil, sa, sb, fun _ h => absurd h (by simp), fun _ h => absurd h (by simp)⟩
theorem MI.takeA (h : MI le A B out (xs ++ ra) rb) (hx : ∀ x ∈ xs, ∀ y ∈ rb, le x y) : MI le A B (out ++ xs) ra rb where
  perm := by
    refine List.Perm.trans (List.Perm.of_eq ?_) h.perm
    simp only [List.append_assoc]
  srt := List.pairwise_append.mpr ⟨h.srt, (List.pairwise_append.mp h.sa).1, fun x hx y hy => h.ba x hx y (List.mem_append_left _ hy)⟩
  sa := (List.pairwise_append.mp h.sa).2.1
  sb := h.sb
  ba := fun x hx' y hy => (List.mem_append.mp hx').elim (fun z => h.ba x z y (List.mem_append_right _ hy)) fun z => (List.pairwise_append.mp h.sa).2.2 x z y hy
  bb := fun x hx' y hy => (List.mem_append.mp hx').elim (fun z => h.bb x z y hy) fun z => hx x z y hy
theorem MI.takeB (h : MI le A B out ra (xs ++ rb)) (hx : ∀ x ∈ xs, ∀ y ∈ ra, le x y) : MI le A B (out ++ xs) ra rb where
  perm := by
    refine List.Perm.trans ?_ h.perm
    rw [List.append_assoc]
    refine List.Perm.append_left _ ?_
    rw [← List.append_assoc, ← List.append_assoc]
    exact List.Perm.append_right _ List.perm_append_comm
  srt := List.pairwise_append.mpr ⟨h.srt, (List.pairwise_append.mp h.sb).1, fun x hx y hy => h.bb x hx y (List.mem_append_left _ hy)⟩
  sa := h.sa
  sb := (List.pairwise_append.mp h.sb).2.1
  ba := fun x hx' y hy => (List.mem_append.mp hx').elim (fun z => h.ba x z y hy) fun z => hx x z y hy
  bb := fun x hx' y hy => (List.mem_append.mp hx').elim (fun z => h.bb x z y (List.mem_append_right _ hy)) fun z => (List.pairwise_append.mp h.sb).2.2 x z y hy
theorem MI.endA (h : MI le A B out ra rb) (hx : ∀ x ∈ ra, ∀ y ∈ rb, le x y) : Mg le A B (out ++ ra ++ rb) :=
  ⟨by rw [List.append_assoc]; exact h.perm, List.pairwise_append.mpr ⟨List.pairwise_append.mpr ⟨h.srt, h.sa, h.ba⟩, h.sb, fun x hx' y hy =>
    (List.mem_append.mp hx').elim (fun z => h.bb x z y hy) fun z => hx x z y hy⟩⟩
theorem MI.endB (h : MI le A B out ra rb) (hx : ∀ x ∈ rb, ∀ y ∈ ra, le x y) : Mg le A B (out ++ rb ++ ra) :=
  ⟨by
    rw [List.append_assoc]
    exact (List.Perm.append_left _ List.perm_append_comm).trans h.perm, List.pairwise_append.mpr ⟨List.pairwise_append.mpr ⟨h.srt, h.sb, h.bb⟩, h.sa, fun x hx' y hy =>
    (List.mem_append.mp hx').elim (fun z => h.ba x z y hy) fun z => hx x z y hy⟩⟩

variable (le)
structure MH (A B T ra rb : List β) : Prop where
  perm : (ra ++ (rb ++ T)).Perm (A ++ B)
  srt : T.Pairwise le
  sa : ra.Pairwise le
  sb : rb.Pairwise le
  ba : ∀ x ∈ ra, ∀ y ∈ T, le x y
  bb : ∀ x ∈ rb, ∀ y ∈ T, le x y
variable {le}
variable {T : List β}
theorem MH.start (sa : A.Pairwise le) (sb : B.Pairwise le) : MH le A B [] A B :=
  ⟨by rw [List.append_nil], List.Pairwise.nil, sa, sb, fun _ _ _ h => absurd h (by simp), fun _ _ _ h => absurd h (by simp)⟩
theorem MH.takeA (h : MH le A B T (ra ++ xs) rb) (hx : ∀ y ∈ rb, ∀ x ∈ xs, le y x) : MH le A B (xs ++ T) ra rb where
  perm := by
    refine List.Perm.trans ?_ h.perm
    rw [List.append_assoc]
    refine List.Perm.append_left _ ?_
    rw [← List.append_assoc, ← List.append_assoc]
    exact List.Perm.append_right _ List.perm_append_comm
  srt := List.pairwise_append.mpr ⟨(List.pairwise_append.mp h.sa).2.1, h.srt, fun x hx y hy => h.ba x (List.mem_append_right _ hx) y hy⟩
  sa := (List.pairwise_append.mp h.sa).1
  sb := h.sb
  ba := fun x hx' y hy => (List.mem_append.mp hy).elim (fun z => (List.pairwise_append.mp h.sa).2.2 x hx' y z) fun z => h.ba x (List.mem_append_left _ hx') y z
  bb := fun x hx' y hy => (List.mem_append.mp hy).elim (fun z => hx x hx' y z) fun z => h.bb x hx' y z
theorem MH.takeB (h : MH le A B T ra (rb ++ xs)) (hx : ∀ y ∈ ra, ∀ x ∈ xs, le y x) : MH le A B (xs ++ T) ra rb where
  perm := by
    refine List.Perm.trans (List.Perm.of_eq ?_) h.perm
    simp only [List.append_assoc]
  srt := List.pairwise_append.mpr ⟨(List.pairwise_append.mp h.sb).2.1, h.srt, fun x hx y hy => h.bb x (List.mem_append_right _ hx) y hy⟩
  sa := h.sa
  sb := (List.pairwise_append.mp h.sb).1
  ba := fun x hx' y hy => (List.mem_append.mp hy).elim (fun z => hx x hx' y z) fun z => h.ba x hx' y z
  bb := fun x hx' y hy => (List.mem_append.mp hy).elim (fun z => (List.pairwise_append.mp h.sb).2.2 x hx' y z) fun z => h.bb x (List.mem_append_left _ hx') y z
theorem MH.endA (h : MH le A B T ra rb) (hx : ∀ x ∈ ra, ∀ y ∈ rb, le x y) : Mg le A B (ra ++ rb ++ T) :=
  ⟨by rw [List.append_assoc]; exact h.perm, List.pairwise_append.mpr ⟨List.pairwise_append.mpr ⟨h.sa, h.sb, hx⟩, h.srt, fun x hx' y hy =>
    (List.mem_append.mp hx').elim (fun z => h.ba x z y hy) fun z => h.bb x z y hy⟩⟩
theorem MH.endB (h : MH le A B T ra rb) (hx : ∀ x ∈ rb, ∀ y ∈ ra, le x y) : Mg le A B (rb ++ ra ++ T) :=
  ⟨by
    refine List.Perm.trans ?_ h.perm
    rw [← List.append_assoc]
    exact List.Perm.append_right _ List.perm_append_comm, List.pairwise_append.mpr ⟨List.pairwise_append.mpr ⟨h.sb, h.sa, hx⟩, h.srt, fun x hx' y hy =>
    (List.mem_append.mp hx').elim (fun z => h.bb x z y hy) fun z => h.ba x z y hy⟩⟩

variable (le)
structure LoI (a b out : Array β) (ia ib : Nat) : Prop where
  ha : ia ≤ a.size
  hb : ib ≤ b.size
  mi : MI le a.toList b.toList out.toList (a.toList.drop ia) (b.toList.drop ib)
structure HiI (a b out : Array β) (na nb : Nat) : Prop where
  ha : na ≤ a.size
  hb : nb ≤ b.size
  mi : MH le a.toList b.toList out.toList.reverse (a.toList.take na) (b.toList.take nb)
variable {le}
theorem drop_at {a : Array β} {i : Nat} {x : β} (h : a[i]? = some x) : a.toList.drop i = x :: a.toList.drop (i + 1) := by
  obtain ⟨hi, e⟩ := Array.getElem?_eq_some_iff.mp h
  rw [List.drop_eq_getElem_cons (by simpa using hi)]
  simp [← e]
theorem take_at {a : Array β} {i : Nat} {x : β} (h : a[i]? = some x) : a.toList.take (i + 1) = a.toList.take i ++ [x] := by
  obtain ⟨hi, e⟩ := Array.getElem?_eq_some_iff.mp h
  rw [List.take_succ_eq_append_getElem (by simpa using hi)]
  simp [← e]
theorem ext_list (a : Array β) (i j : Nat) : (a.extract i j).toList = (a.toList.drop i).take (j - i) := by
  simp
theorem drop_split (l : List β) (i k : Nat) : l.drop i = (l.drop i).take k ++ l.drop (i + k) := by
  rw [← List.drop_drop, List.take_append_drop]
theorem take_split (l : List β) {i k : Nat} (h : i ≤ k) : l.take k = l.take i ++ (l.drop i).take (k - i) := by
  rw [show k = i + (k - i) by lia, List.take_add]
  congr 1
  rw [show i + (k - i) - i = k - i by lia]
variable {a b o : Array β} {ia ib k : Nat} {x : β}
theorem LoI.pushA (h : LoI le a b o ia ib) (hx : a[ia]? = some x) (hl : ∀ y ∈ b.toList.drop ib, le x y) : LoI le a b (o.push x) (ia + 1) ib where
  ha := (Array.getElem?_eq_some_iff.mp hx).1
  hb := h.hb
  mi := by
    have m := h.mi
    rw [drop_at hx] at m
    have m' := MI.takeA (xs := [x]) m (fun z hz y hy => by rw [List.mem_singleton.mp hz]; exact hl y hy)
    simpa using m'
theorem LoI.pushB (h : LoI le a b o ia ib) (hx : b[ib]? = some x) (hl : ∀ y ∈ a.toList.drop ia, le x y) : LoI le a b (o.push x) ia (ib + 1) where
  ha := h.ha
  hb := (Array.getElem?_eq_some_iff.mp hx).1
  mi := by
    have m := h.mi
    rw [drop_at hx] at m
    have m' := MI.takeB (xs := [x]) m (fun z hz y hy => by rw [List.mem_singleton.mp hz]; exact hl y hy)
    simpa using m'
theorem LoI.manyA (h : LoI le a b o ia ib) (hk : ia + k ≤ a.size) (hl : ∀ x ∈ (a.toList.drop ia).take k, ∀ y ∈ b.toList.drop ib, le x y) : LoI le a b (o ++ a.extract ia (ia + k)) (ia + k) ib where
  ha := hk
  hb := h.hb
  mi := by
    have m := h.mi
    rw [drop_split a.toList ia k] at m
    have m' := MI.takeA m hl
    rw [Array.toList_append, ext_list, show ia + k - ia = k by (clear h hk hl m m'; lia)]
    exact m'
theorem LoI.manyB (h : LoI le a b o ia ib) (hk : ib + k ≤ b.size) (hl : ∀ x ∈ (b.toList.drop ib).take k, ∀ y ∈ a.toList.drop ia, le x y) : LoI le a b (o ++ b.extract ib (ib + k)) ia (ib + k) where
  ha := h.ha
  hb := hk
  mi := by
    have m := h.mi
    rw [drop_split b.toList ib k] at m
    have m' := MI.takeB m hl
    rw [Array.toList_append, ext_list, show ib + k - ib = k by (clear h hk hl m m'; lia)]
    exact m'
theorem drop_all (l : List β) {i n : Nat} (h : l.length ≤ n) : (l.drop i).take (n - i) = l.drop i := by
  rw [List.take_of_length_le]; rw [List.length_drop]; omega
theorem LoI.doneB (h : LoI le a b o ia ib) (e : ib = b.size) : Mg le a.toList b.toList (o ++ a.extract ia a.size ++ b.extract ib b.size).toList := by
  have m := MI.endA h.mi (fun x _ y hy => by
    rw [e, List.drop_of_length_le (by simp)] at hy
    exact absurd hy (by simp))
  rw [Array.toList_append, Array.toList_append, ext_list, ext_list, drop_all _ (by simp), drop_all _ (by simp)]
  exact m
theorem LoI.doneA (h : LoI le a b o ia ib) (e : ia = a.size) : Mg le a.toList b.toList (o ++ a.extract ia a.size ++ b.extract ib b.size).toList := by
  have m := MI.endA h.mi (fun x hx y hy => by
    rw [e, List.drop_of_length_le (by simp)] at hx
    exact absurd hx (by simp))
  rw [Array.toList_append, Array.toList_append, ext_list, ext_list, drop_all _ (by simp), drop_all _ (by simp)]
  exact m
theorem LoI.last (h : LoI le a b o ia ib) (hl : ∀ x ∈ b.toList.drop ib, ∀ y ∈ a.toList.drop ia, le x y) : Mg le a.toList b.toList (o ++ b.extract ib b.size ++ a.extract ia a.size).toList := by
  have m := MI.endB h.mi hl
  rw [Array.toList_append, Array.toList_append, ext_list, ext_list, drop_all _ (by simp), drop_all _ (by simp)]
  exact m
variable {na nb : Nat}
theorem HiI.pushA (h : HiI le a b o (na + 1) nb) (hx : a[na]? = some x) (hl : ∀ y ∈ b.toList.take nb, le y x) : HiI le a b (o.push x) na nb where
  ha := Nat.le_of_succ_le h.ha
  hb := h.hb
  mi := by
    have m := h.mi
    rw [take_at hx] at m
    have m' := MH.takeA (xs := [x]) m (fun y hy z hz => by rw [List.mem_singleton.mp hz]; exact hl y hy)
    simpa using m'
theorem HiI.pushB (h : HiI le a b o na (nb + 1)) (hx : b[nb]? = some x) (hl : ∀ y ∈ a.toList.take na, le y x) : HiI le a b (o.push x) na nb where
  ha := h.ha
  hb := Nat.le_of_succ_le h.hb
  mi := by
    have m := h.mi
    rw [take_at hx] at m
    have m' := MH.takeB (xs := [x]) m (fun y hy z hz => by rw [List.mem_singleton.mp hz]; exact hl y hy)
    simpa using m'
theorem HiI.manyA (h : HiI le a b o na nb) (hk : k ≤ na) (hl : ∀ y ∈ b.toList.take nb, ∀ x ∈ (a.toList.drop k).take (na - k), le y x) : HiI le a b (o ++ (a.extract k na).reverse) k nb where
  ha := Nat.le_trans hk h.ha
  hb := h.hb
  mi := by
    have m := h.mi
    rw [take_split a.toList hk] at m
    have m' := MH.takeA m hl
    rw [Array.toList_append, Array.toList_reverse, List.reverse_append, List.reverse_reverse, ext_list]
    exact m'
theorem HiI.manyB (h : HiI le a b o na nb) (hk : k ≤ nb) (hl : ∀ y ∈ a.toList.take na, ∀ x ∈ (b.toList.drop k).take (nb - k), le y x) : HiI le a b (o ++ (b.extract k nb).reverse) na k where
  ha := h.ha
  hb := Nat.le_trans hk h.hb
  mi := by
    have m := h.mi
    rw [take_split b.toList hk] at m
    have m' := MH.takeB m hl
    rw [Array.toList_append, Array.toList_reverse, List.reverse_append, List.reverse_reverse, ext_list]
    exact m'
theorem ext_take (a : Array β) (n : Nat) : (a.extract 0 n).toList = a.toList.take n := by simp
theorem HiI.done (h : HiI le a b o na nb) (hl : ∀ x ∈ a.toList.take na, ∀ y ∈ b.toList.take nb, le x y) : Mg le a.toList b.toList (a.extract 0 na ++ b.extract 0 nb ++ o.reverse).toList := by
  have m := MH.endA h.mi hl
  rw [Array.toList_append, Array.toList_append, ext_take, ext_take, Array.toList_reverse]
  exact m
theorem HiI.doneA (h : HiI le a b o na nb) (e : na = 0) : Mg le a.toList b.toList (a.extract 0 na ++ b.extract 0 nb ++ o.reverse).toList :=
  h.done fun x hx => by
    rw [e, List.take_zero] at hx
    exact absurd hx (by simp)
theorem HiI.doneB (h : HiI le a b o na nb) (e : nb = 0) : Mg le a.toList b.toList (a.extract 0 na ++ b.extract 0 nb ++ o.reverse).toList :=
  h.done fun x _ y hy => by
    rw [e, List.take_zero] at hy
    exact absurd hy (by simp)
theorem HiI.first (h : HiI le a b o na nb) (hl : ∀ x ∈ b.toList.take nb, ∀ y ∈ a.toList.take na, le x y) : Mg le a.toList b.toList (b.extract 0 nb ++ a.extract 0 na ++ o.reverse).toList := by
  have m := MH.endB h.mi hl
  rw [Array.toList_append, Array.toList_append, ext_take, ext_take, Array.toList_reverse]
  exact m
theorem mem_drop {a : Array β} {i : Nat} {y : β} (h : y ∈ a.toList.drop i) : ∃ j, i ≤ j ∧ a[j]? = some y := by
  obtain ⟨n, hn⟩ := List.mem_iff_getElem?.mp h
  rw [List.getElem?_drop] at hn
  exact ⟨i + n, by lia, by simpa using hn⟩
theorem mem_dropTake {a : Array β} {i k : Nat} {y : β} (h : y ∈ (a.toList.drop i).take k) : ∃ j, i ≤ j ∧ j < i + k ∧ a[j]? = some y := by
  obtain ⟨n, hn⟩ := List.mem_iff_getElem?.mp h
  rw [List.getElem?_take] at hn
  split at hn
  · rw [List.getElem?_drop] at hn
    exact ⟨i + n, by lia, by lia, by simpa using hn⟩
  · cases hn
theorem mem_take {a : Array β} {k : Nat} {y : β} (h : y ∈ a.toList.take k) : ∃ j, j < k ∧ a[j]? = some y := by
  obtain ⟨n, hn⟩ := List.mem_iff_getElem?.mp h
  rw [List.getElem?_take] at hn
  split at hn
  · exact ⟨n, by omega, by simpa using hn⟩
  · cases hn
end
end TS
namespace TS
open PySem PyProof.Rows

structure Asks (prog : Program) (w : World) (A : Around) (s : Shared) (kd : SortKind) (O : KeyOrd) (K : Keyed → O.α) (a₀ : Array Keyed) : Prop where
  lt : ∀ x y, x ∈ a₀.toList → y ∈ a₀.toList → ∀ (Q : Bool → Shared → Prop) (E : Value → Shared → Prop), Q (O.blt (K x) (K y)) s → wpAny (model prog w) A (keyLt' kd x.1 y.1) Q E s

section
variable {prog : Program} {w : World} {A : Around} {E : Value → Shared → Prop} {s : Shared} {kd : SortKind} {O : KeyOrd} {K : Keyed → O.α} {a₀ : Array Keyed}

theorem ask_lt (C : Asks prog w A s kd O K a₀) {st : SortSt} {x y : Keyed} {Q : Option Bool → SortSt → Prop} (hk : kindOf st = kd) (hx : x ∈ a₀.toList) (hy : y ∈ a₀.toList) (h : Q (some (O.blt (K x) (K y))) st) :
    wpS (model prog w) A E s (lt' x y) Q st := by
  rw [lt'_eq]
  refine wpS_bind (wpS_get ?_)
  rw [hk]
  exact wpS_bind (wpS_lift (wpAny_attempt (C.lt x y hx hy _ _ ⟨rfl, wpS_pure h⟩)))
theorem ask_elem {st : SortSt} {arr : Array Keyed} {i : Nat} {x : Keyed} {Q : Keyed → SortSt → Prop} (hx : arr[i]? = some x) (h : Q x st) : wpS (model prog w) A E s (elem' arr i) Q st := by
  rw [elem'_eq, hx]
  exact wpS_pure h
theorem forin_of {M : Model} {σ β : Type} {n : Nat} {f : Nat → β → StateT σ Sem (ForInStep β)} (I : Nat → β → σ → Prop) {Q : β → σ → Prop}
    (hstep : ∀ i c st, i < n → I i c st → wpS M A E s (f i c) (fun r st' => match r with | .done c' => Q c' st' | .yield c' => I (i + 1) c' st') st)
    (hend : ∀ c st, I n c st → Q c st) {c : β} {st : σ} (h : I 0 c st) : wpS M A E s (forIn [:n] c f) Q st :=
  wpS_forRange (a := 0) (b := n) I (fun i c st _ h2 hi => hstep i c st h2 hi) (fun c st hi => hend c st (by rwa [show max 0 n = n by (clear hstep hend h hi; lia)] at hi)) h

def gallop' : Bool → Keyed → Array Keyed → Nat → Nat → Nat → StateT SortSt Sem (Option Nat) := sortPriv% PySem.Builtin.gallop
def beyond' (left : Bool) (key : Keyed) (arr : Array Keyed) (base i : Nat) : StateT SortSt Sem (Option Bool) := do
  let x ← elem' arr (base + i)
  if left = true then lt' x key else do
    let r ← lt' key x
    pure (Option.map (fun b => !b) r)

theorem ask_beyond (C : Asks prog w A s kd O K a₀) {st : SortSt} {left : Bool} {key x : Keyed} {arr : Array Keyed} {base i : Nat} {Q : Option Bool → SortSt → Prop} (hk : kindOf st = kd) (hkey : key ∈ a₀.toList)
    (hx : arr[base + i]? = some x) (hx' : x ∈ a₀.toList) (h : Q (some (if left = true then O.blt (K x) (K key) else !O.blt (K key) (K x))) st) : wpS (model prog w) A E s (beyond' left key arr base i) Q st := by
  unfold beyond'
  refine wpS_bind (ask_elem hx ?_)
  cases left with
  | true =>
    rw [if_pos rfl] at h ⊢
    exact ask_lt C hk hx' hkey h
  | false =>
    rw [if_neg (by simp)] at h ⊢
    exact wpS_bind (ask_lt C hk hkey hx' (wpS_pure h))

theorem seek_of {M : Model} {st : SortSt} {n : Nat} {P : Nat → Bool} {Q : Option Nat → SortSt → Prop} {f : Nat → Option (Option Nat) × Nat × Nat → StateT SortSt Sem (ForInStep (Option (Option Nat) × Nat × Nat))}
    {g : Option (Option Nat) × Nat × Nat → StateT SortSt Sem (Option Nat)} (mono : ∀ i j, i ≤ j → j < n → P j = true → P i = true)
    (h : ∀ k, k ≤ n → (∀ i, i < k → P i = true) → (∀ i, k ≤ i → i < n → P i = false) → Q (some k) st)
    (f1 : ∀ i l u (R : ForInStep (Option (Option Nat) × Nat × Nat) → SortSt → Prop), l ≥ u → R (.done (none, l, u)) st → wpS M A E s (f i (none, l, u)) R st)
    (f2 : ∀ i l u (R : ForInStep (Option (Option Nat) × Nat × Nat) → SortSt → Prop), ¬ l ≥ u → u ≤ n → (P (l + (u - l) / 2) = true → R (.yield (none, l + (u - l) / 2 + 1, u)) st) → (P (l + (u - l) / 2) = false → R (.yield (none, l, l + (u - l) / 2)) st) → wpS M A E s (f i (none, l, u)) R st)
    (hg : ∀ l u (R : Option Nat → SortSt → Prop), R (some u) st → wpS M A E s (g (none, l, u)) R st)
    {lo hi : Nat} (h1 : lo ≤ hi) (h2 : hi ≤ n) (h3 : ∀ i, i < lo → P i = true) (h4 : ∀ i, hi ≤ i → i < n → P i = false) :
    wpS M A E s (forIn [:n] (none, lo, hi) f >>= g) Q st := by
  have up : ∀ i j, i ≤ j → j < n → P i = false → P j = false := fun i j h1 h2 h3 => by
    cases e : P j with
    | false => rfl
    | true => rw [mono i j h1 h2 e] at h3; cases h3
  refine wpS_bind (forin_of (I := fun i c st' => st' = st ∧ ∃ l u, c = (none, l, u) ∧ l ≤ u ∧ u ≤ n ∧ (u - l) + i ≤ n ∧ (∀ i, i < l → P i = true) ∧ (∀ i, u ≤ i → i < n → P i = false)) ?_ ?_ ⟨rfl, lo, hi, rfl, h1, h2, by (clear h4 up mono h f1 f2 hg h1 h3; lia), h3, h4⟩)
  · rintro i c st' hi ⟨rfl, l, u, rfl, a1, a2, a3, a4, a5⟩
    by_cases hlu : l ≥ u
    · have : l = u := by (clear mono h1 h2 h3 h4 up hi h a2 a3 a4 a5 f1 f2 hg; lia)
      subst this
      exact f1 _ _ _ _ hlu (hg _ _ _ (h l a2 a4 a5))
    · refine f2 _ _ _ _ hlu a2 (fun e => ?_) (fun e => ?_)
      · exact ⟨rfl, _, _, rfl, by (clear mono h1 h2 h3 h4 up hi h f1 f2 hg a1 a2 a3 a4 a5 e; lia), a2, by (clear mono h1 h2 h3 h4 up hi h f1 f2 hg a1 a4 a5 a2 e; lia), fun i hi => mono i _ (by (clear mono h1 h2 h3 h4 up h f1 f2 hg a1 a2 a3 a4 a5 hlu e; lia)) (by (clear mono h1 h2 h3 h4 up h f1 e hi f2 hg a3 a4 a1 a5; lia)) e, a5⟩
      · exact ⟨rfl, _, _, rfl, by (clear mono h1 h2 h3 h4 up hi h f1 f2 hg a1 a2 a3 a4 a5 hlu e; lia), by (clear mono h1 h2 h3 h4 up hi h hlu e f1 f2 a4 a5 hg a3; lia), by (clear mono h1 h2 h3 h4 up hi h f1 f2 hg a1 a4 a5 a2 e; lia), a4, fun i hi hin => up _ i hi hin e⟩
  · rintro c st' ⟨rfl, l, u, rfl, a1, a2, a3, a4, a5⟩
    have : l = u := by (clear mono h1 h2 h3 h4 up h f1 f2 hg a5 a2 a4; lia)
    subst this
    exact hg _ _ _ (h l a2 a4 a5)

theorem ask_gallop (C : Asks prog w A s kd O K a₀) {st : SortSt} {left : Bool} {key : Keyed} {arr : Array Keyed} {base n hint : Nat} {Q : Option Nat → SortSt → Prop} (hk : kindOf st = kd) (hkey : key ∈ a₀.toList)
    (harr : ∀ i, i < n → ∃ x, arr[base + i]? = some x ∧ x ∈ a₀.toList) (P : Nat → Bool) (hP : ∀ i x, i < n → arr[base + i]? = some x → P i = if left = true then O.blt (K x) (K key) else !O.blt (K key) (K x))
    (mono : ∀ i j, i ≤ j → j < n → P j = true → P i = true) (hh : hint < n) (h : ∀ k, k ≤ n → (∀ i, i < k → P i = true) → (∀ i, k ≤ i → i < n → P i = false) → Q (some k) st) :
    wpS (model prog w) A E s (gallop' left key arr base n hint) Q st := by
  have hb : ∀ i (R : Option Bool → SortSt → Prop), i < n → R (some (P i)) st → wpS (model prog w) A E s (beyond' left key arr base i) R st := fun i R hi q => by
    obtain ⟨x, e, hx⟩ := harr i hi
    rw [hP i x hi e] at q
    exact ask_beyond C hk hkey e hx q
  have up : ∀ i j, i ≤ j → j < n → P i = false → P j = false := fun i j h1 h2 h3 => by
    cases e : P j with
    | false => rfl
    | true => rw [mono i j h1 h2 e] at h3; cases h3
  refine wpS_bind (hb hint _ hh ?_)
  dsimp only
  cases e : P hint with
  | true =>
    rw [if_pos rfl]
    refine wpS_bind (forin_of (I := fun i c st' => st' = st ∧ ∃ l o, c = (none, l, o) ∧ l < o ∧ i < o ∧ l < n - hint ∧ P (hint + l) = true) ?_ ?_ ⟨rfl, 0, 1, rfl, by (clear C hk hkey harr hP mono hh h hb up e; lia), by (clear C hk hkey harr hP mono hh h hb up e; lia), by (clear hb up e C hk hkey harr hP mono h; lia), e⟩)
    · rintro i c st' hi ⟨rfl, l, o, rfl, a1, a2, a3, a4⟩
      dsimp only
      by_cases ho : o ≥ n - hint
      · rw [if_pos ho]
        refine wpS_pure ?_
        dsimp only
        refine seek_of (lo := hint + l + 1) (hi := hint + min o (n - hint)) mono h ?_ ?_ ?_ (by (clear C hkey harr hP mono hh up e ho hi hk h hb a2 a4; lia)) (by (clear C hkey harr hP mono hh up e ho hi hk h hb a1 a2 a4; omega)) (fun i hi => mono i (hint + l) (by (clear C hkey harr hP mono hh up e hk h hb a1 a2 a3 a4 ho; lia)) (by (clear C hkey harr hP mono hh up e hi hk h hb a1 a4 ho a2; omega)) a4) fun i h1 h2 => by (clear C hkey harr hP mono hh up e hi hk h hb a1 a2 a3 a4; omega)
        all_goals dsimp only
        · intro i l u R hlu q
          rw [if_pos hlu]
          exact wpS_pure q
        · intro i l u R hlu hu q1 q2
          rw [if_neg hlu]
          refine wpS_bind (hb _ _ (by (clear C hkey harr hP mono hh up e hi hk h hb a1 a2 a3 a4 q2 ho q1; lia)) ?_)
          dsimp only
          cases e3 : P (l + (u - l) / 2) with
          | true =>
            rw [if_pos rfl]
            exact wpS_pure (q1 e3)
          | false =>
            rw [if_neg (by simp)]
            exact wpS_pure (q2 e3)
        · intro l u R q
          exact wpS_pure q
      · rw [if_neg ho]
        refine wpS_bind (hb _ _ (by (clear C hkey harr hP mono hh up e hi hk h hb a1 a2 a3 a4; omega)) ?_)
        dsimp only
        cases e2 : P (hint + o) with
        | true =>
          rw [if_neg (by simp)]
          exact wpS_pure ⟨rfl, _, _, rfl, by (clear C hkey harr hP mono hh up e hi hk h hb a1 a2 a3 a4 ho e2; lia), by (clear C hkey harr hP mono hh up e ho e2 hi hk h hb a3 a4 a1; lia), by (clear C hkey harr hP mono hh up e hi hk h hb a1 a2 a3 a4 e2; lia), e2⟩
        | false =>
          rw [if_pos (by simp)]
          refine wpS_pure ?_
          dsimp only
          refine seek_of (lo := hint + l + 1) (hi := hint + min o (n - hint)) mono h ?_ ?_ ?_ (by (clear C hkey harr hP mono hh up e ho e2 hi hk h hb a2 a4; lia)) (by (clear C hkey harr hP mono hh up e hi hk h hb a1 a2 a3 a4 e2; omega)) (fun i hi => mono i (hint + l) (by (clear C hkey harr hP mono hh up e hk h hb a1 a2 a3 a4 ho e2; lia)) (by (clear C hkey harr hP mono hh up e e2 hi hk h hb a1 a4 ho a2; omega)) a4) fun i h1 h2 => up (hint + o) i (by (clear C hkey harr hP mono hh up e hi hk h hb a1 a2 a3 a4 ho e2; lia)) h2 e2
          all_goals dsimp only
          · intro i l u R hlu q
            rw [if_pos hlu]
            exact wpS_pure q
          · intro i l u R hlu hu q1 q2
            rw [if_neg hlu]
            refine wpS_bind (hb _ _ (by (clear C hkey harr hP mono hh up e hi hk h hb a1 a2 a3 a4 q1 q2 ho e2; lia)) ?_)
            dsimp only
            cases e3 : P (l + (u - l) / 2) with
            | true =>
              rw [if_pos rfl]
              exact wpS_pure (q1 e3)
            | false =>
              rw [if_neg (by simp)]
              exact wpS_pure (q2 e3)
          · intro l u R q
            exact wpS_pure q
    · rintro c st' ⟨rfl, l, o, rfl, a1, a2, a3, a4⟩
      dsimp only
      refine seek_of (lo := hint + l + 1) (hi := hint + min o (n - hint)) mono h ?_ ?_ ?_ (by (clear C hkey harr hP mono hh up e hk h hb a1 a4; lia)) (by (clear C hkey harr hP mono hh up e hk h hb a1 a4 a2; omega)) (fun i hi => mono i (hint + l) (by (clear C hkey harr hP mono hh up e hk h hb a1 a2 a3 a4; lia)) (by (clear C hkey harr hP mono hh up e hk h hb a1 a4 hi a2; omega)) a4) fun i h1 h2 => by (clear C hkey harr hP mono hh up e hk h hb a1 a3 a4; lia)
      all_goals dsimp only
      · intro i l u R hlu q
        rw [if_pos hlu]
        exact wpS_pure q
      · intro i l u R hlu hu q1 q2
        rw [if_neg hlu]
        refine wpS_bind (hb _ _ (by (clear C hkey harr hP mono hh up e hk h hb a1 a2 a3 q2 a4 q1; lia)) ?_)
        dsimp only
        cases e3 : P (l + (u - l) / 2) with
        | true =>
          rw [if_pos rfl]
          exact wpS_pure (q1 e3)
        | false =>
          rw [if_neg (by simp)]
          exact wpS_pure (q2 e3)
      · intro l u R q
        exact wpS_pure q
  | false =>
    rw [if_neg (by simp)]
    refine wpS_bind (forin_of (I := fun i c st' => st' = st ∧ ∃ l o, c = (none, l, o) ∧ l < o ∧ i < o ∧ l ≤ hint ∧ P (hint - l) = false) ?_ ?_ ⟨rfl, 0, 1, rfl, by (clear C hk hkey harr hP mono hh h hb up e; lia), by (clear C hk hkey harr hP mono hh h hb up e; lia), by (clear C hk hkey harr hP mono hh h hb up e; lia), e⟩)
    · rintro i c st' hi ⟨rfl, l, o, rfl, a1, a2, a3, a4⟩
      dsimp only
      by_cases ho : o ≥ hint + 1
      · rw [if_pos ho]
        refine wpS_pure ?_
        dsimp only
        refine seek_of (lo := hint + 1 - min o (hint + 1)) (hi := hint - l) mono h ?_ ?_ ?_ (by (clear C hkey harr hP mono hh up e hi hk h hb a1 a2 a3 a4; omega)) (by (clear hi hk h hb a1 a2 a3 a4 ho C hkey harr hP up e mono; omega)) (fun i hi => by (clear C hkey harr hP mono hh up e hk h hb a1 a2 a3 a4; omega)) fun i h1 h2 => up (hint - l) i (by (clear C hkey harr hP mono hh up e hi hk h hb a1 a2 a3 a4 h2 ho; omega)) h2 a4
        all_goals dsimp only
        · intro i l u R hlu q
          rw [if_pos hlu]
          exact wpS_pure q
        · intro i l u R hlu hu q1 q2
          rw [if_neg hlu]
          refine wpS_bind (hb _ _ (by (clear C hkey harr hP mono hh up e hi hk h hb a1 a2 a3 a4 q2 ho q1; lia)) ?_)
          dsimp only
          cases e3 : P (l + (u - l) / 2) with
          | true =>
            rw [if_pos rfl]
            exact wpS_pure (q1 e3)
          | false =>
            rw [if_neg (by simp)]
            exact wpS_pure (q2 e3)
        · intro l u R q
          exact wpS_pure q
      · rw [if_neg ho]
        refine wpS_bind (hb _ _ (by (clear hi hk h hb a1 a2 a3 a4 ho C hkey harr hP up e mono; omega)) ?_)
        dsimp only
        cases e2 : P (hint - o) with
        | true =>
          rw [if_pos rfl]
          refine wpS_pure ?_
          dsimp only
          refine seek_of (lo := hint + 1 - min o (hint + 1)) (hi := hint - l) mono h ?_ ?_ ?_ (by (clear C hkey harr hP mono hh up e ho e2 hi hk h hb a3 a4 a2; omega)) (by (clear hi hk h hb a1 a2 a3 a4 ho e2 C hkey harr hP up e mono; omega)) (fun i hi => mono i (hint - o) (by (clear C hkey harr hP mono hh up e hk h hb a1 a2 a3 a4 ho e2; omega)) (by (clear hk h hb a1 a2 a3 a4 ho e2 hi C hkey harr hP up e mono; omega)) e2) fun i h1 h2 => up (hint - l) i (by (clear C hkey harr hP mono hh up e hi hk h hb a1 a2 a3 a4 ho e2 h2; omega)) h2 a4
          all_goals dsimp only
          · intro i l u R hlu q
            rw [if_pos hlu]
            exact wpS_pure q
          · intro i l u R hlu hu q1 q2
            rw [if_neg hlu]
            refine wpS_bind (hb _ _ (by (clear C hkey harr hP mono hh up e hi hk h hb a1 a2 a3 a4 q1 q2 ho e2; lia)) ?_)
            dsimp only
            cases e3 : P (l + (u - l) / 2) with
            | true =>
              rw [if_pos rfl]
              exact wpS_pure (q1 e3)
            | false =>
              rw [if_neg (by simp)]
              exact wpS_pure (q2 e3)
          · intro l u R q
            exact wpS_pure q
        | false =>
          rw [if_neg (by simp)]
          exact wpS_pure ⟨rfl, _, _, rfl, by (clear C hkey harr hP mono hh up e hi hk h hb a1 a2 a3 a4 ho e2; lia), by (clear C hkey harr hP mono hh up e ho e2 hi hk h hb a3 a4 a1; lia), by (clear C hkey harr hP mono hh up e hi hk h hb a1 a2 a3 a4 e2; lia), e2⟩
    · rintro c st' ⟨rfl, l, o, rfl, a1, a2, a3, a4⟩
      dsimp only
      refine seek_of (lo := hint + 1 - min o (hint + 1)) (hi := hint - l) mono h ?_ ?_ ?_ (by (clear C hkey harr hP mono hh up e a2 a3 a4 hk h hb; omega)) (by (clear hk h hb a1 a2 a3 a4 C hkey harr hP up e mono; omega)) (fun i hi => by (clear C hkey harr hP hk h hb a1 up e mono a3 a4; omega)) fun i h1 h2 => up (hint - l) i (by (clear C hkey harr hP mono hh up e h2 hk h hb a1 a2 a3 a4; omega)) h2 a4
      all_goals dsimp only
      · intro i l u R hlu q
        rw [if_pos hlu]
        exact wpS_pure q
      · intro i l u R hlu hu q1 q2
        rw [if_neg hlu]
        refine wpS_bind (hb _ _ (by (clear C hkey harr hP mono hh up e hk h hb a1 a2 a3 q2 a4 q1; lia)) ?_)
        dsimp only
        cases e3 : P (l + (u - l) / 2) with
        | true =>
          rw [if_pos rfl]
          exact wpS_pure (q1 e3)
        | false =>
          rw [if_neg (by simp)]
          exact wpS_pure (q2 e3)
      · intro l u R q
        exact wpS_pure q
end
end TS
namespace TS
open PySem PyProof.Rows
section
variable {prog : Program} {w : World} {A : Around} {E : Value → Shared → Prop} {s : Shared} {kd : SortKind} {O : KeyOrd} {K : Keyed → O.α} {a₀ : Array Keyed}

abbrev kLe (O : KeyOrd) (K : Keyed → O.α) (x y : Keyed) : Prop := O.kle (K x) (K y)
abbrev kLt (O : KeyOrd) (K : Keyed → O.α) (x y : Keyed) : Prop := O.klt (K x) (K y)
def Srt (O : KeyOrd) (K : Keyed → O.α) (xs : Array Keyed) (lo hi : Nat) : Prop := ∀ i j x y, lo ≤ i → i ≤ j → j < hi → xs[i]? = some x → xs[j]? = some y → kLe O K x y
def Mem (a₀ xs : Array Keyed) (lo hi : Nat) : Prop := ∀ i, lo ≤ i → i < hi → ∃ x, xs[i]? = some x ∧ x ∈ a₀.toList
theorem Mem.sub {xs : Array Keyed} {lo hi lo' hi' : Nat} (m : Mem a₀ xs lo hi) (h1 : lo ≤ lo') (h2 : hi' ≤ hi) : Mem a₀ xs lo' hi' := fun i a b => m i (Nat.le_trans h1 a) (Nat.lt_of_lt_of_le b h2)
theorem Srt.sub {xs : Array Keyed} {lo hi lo' hi' : Nat} (m : Srt O K xs lo hi) (h1 : lo ≤ lo') (h2 : hi' ≤ hi) : Srt O K xs lo' hi' := fun i j x y a b c => m i j x y (Nat.le_trans h1 a) b (Nat.lt_of_lt_of_le c h2)
theorem Srt.pw {xs : Array Keyed} (m : Srt O K xs 0 xs.size) : xs.toList.Pairwise (kLe O K) := by
  rw [List.pairwise_iff_getElem]
  intro i j hi hj hij
  exact m i j _ _ (Nat.zero_le _) (Nat.le_of_lt hij) (by simpa using hj) (by simp at hi; simp [hi]) (by simp at hj; simp [hj])
theorem gallop_right (C : Asks prog w A s kd O K a₀) {st : SortSt} {key : Keyed} {arr : Array Keyed} {base n hint : Nat} {Q : Option Nat → SortSt → Prop} (hk : kindOf st = kd) (hkey : key ∈ a₀.toList)
    (hm : Mem a₀ arr base (base + n)) (hs : Srt O K arr base (base + n)) (hh : hint < n)
    (h : ∀ k, k ≤ n → (∀ j x, base ≤ j → j < base + k → arr[j]? = some x → kLe O K x key) → (∀ j x, base + k ≤ j → j < base + n → arr[j]? = some x → kLt O K key x) → Q (some k) st) :
    wpS (model prog w) A E s (gallop' false key arr base n hint) Q st := by
  have at_ : ∀ j x, arr[j]? = some x → arr.getD j (Value.none, Value.none) = x := fun j x e => by simp [Array.getD_eq_getD_getElem?, e]
  refine ask_gallop C hk hkey (fun i hi => hm (base + i) (by (clear C hk hkey hm hs hh h at_ hi; lia)) (by (clear C hk hkey hm hs hh h at_; lia))) (fun i => !O.blt (K key) (K (arr.getD (base + i) (Value.none, Value.none)))) (fun i x hi e => ?_) (fun i j hij hj hp => ?_) hh fun k hkn h1 h2 => ?_
  · rw [at_ _ _ e, if_neg (by simp)]
  · obtain ⟨x, ex, _⟩ := hm (base + i) (by (clear C hk hkey hm hs hh h at_ hij hj hp; lia)) (by (clear C hk hkey hm hs hh h at_ hp; lia))
    obtain ⟨y, ey, _⟩ := hm (base + j) (by (clear C hk hkey hm hs hh h at_ hij hj hp ex; lia)) (by (clear C hk hkey hm hs hh h at_ hp ex hij; lia))
    rw [at_ _ _ ey] at hp
    rw [at_ _ _ ex]
    have l1 : kLe O K x y := hs _ _ x y (by (clear C hk hkey hm hs hh h at_ hij hj ex hp ey; lia)) (by (clear C hk hkey hm hs hh h at_ ey ex hp hj; lia)) (by (clear C hk hkey hm hs hh h at_ ey ex hp hij; lia)) ex ey
    have l2 : kLe O K y key := by simpa [kLe, KeyOrd.kle] using hp
    have l3 : kLe O K x key := KeyOrd.kle_trans l1 l2
    simpa [kLe, KeyOrd.kle] using l3
  · refine h k hkn (fun j x hj1 hj2 ex => ?_) fun j x hj1 hj2 ex => ?_
    · have q := h1 (j - base) (by (clear C hk hkey hm hs hh h at_ hkn h1 h2 ex; lia))
      rw [show base + (j - base) = j by (clear C hk hkey hm hs hh h at_ hj2 ex q hkn h1 h2; lia), at_ _ _ ex] at q
      simpa [kLe, KeyOrd.kle] using q
    · have q := h2 (j - base) (by (clear C hk hkey hm hs hh h at_ hj2 ex hkn h1 h2; lia)) (by (clear C hk hkey hm hs hh h at_ hkn h1 h2 ex; lia))
      rw [show base + (j - base) = j by (clear C hk hkey hm hs hh h at_ hj2 ex q hkn h1 h2; lia), at_ _ _ ex] at q
      simpa [kLt, KeyOrd.klt] using q
theorem gallop_left (C : Asks prog w A s kd O K a₀) {st : SortSt} {key : Keyed} {arr : Array Keyed} {base n hint : Nat} {Q : Option Nat → SortSt → Prop} (hk : kindOf st = kd) (hkey : key ∈ a₀.toList)
    (hm : Mem a₀ arr base (base + n)) (hs : Srt O K arr base (base + n)) (hh : hint < n)
    (h : ∀ k, k ≤ n → (∀ j x, base ≤ j → j < base + k → arr[j]? = some x → kLt O K x key) → (∀ j x, base + k ≤ j → j < base + n → arr[j]? = some x → kLe O K key x) → Q (some k) st) :
    wpS (model prog w) A E s (gallop' true key arr base n hint) Q st := by
  have at_ : ∀ j x, arr[j]? = some x → arr.getD j (Value.none, Value.none) = x := fun j x e => by simp [Array.getD_eq_getD_getElem?, e]
  refine ask_gallop C hk hkey (fun i hi => hm (base + i) (by (clear C hk hkey hm hs hh h at_ hi; lia)) (by (clear C hk hkey hm hs hh h at_; lia))) (fun i => O.blt (K (arr.getD (base + i) (Value.none, Value.none))) (K key)) (fun i x hi e => ?_) (fun i j hij hj hp => ?_) hh fun k hkn h1 h2 => ?_
  · rw [at_ _ _ e, if_pos rfl]
  · obtain ⟨x, ex, _⟩ := hm (base + i) (by (clear C hk hkey hm hs hh h at_ hij hj hp; lia)) (by (clear C hk hkey hm hs hh h at_ hp; lia))
    obtain ⟨y, ey, _⟩ := hm (base + j) (by (clear C hk hkey hm hs hh h at_ hij hj hp ex; lia)) (by (clear C hk hkey hm hs hh h at_ hp ex hij; lia))
    rw [at_ _ _ ey] at hp
    rw [at_ _ _ ex]
    have l1 : kLe O K x y := hs _ _ x y (by (clear C hk hkey hm hs hh h at_ hij hj ex hp ey; lia)) (by (clear C hk hkey hm hs hh h at_ ey ex hp hj; lia)) (by (clear C hk hkey hm hs hh h at_ ey ex hp hij; lia)) ex ey
    exact KeyOrd.klt_of_kle_of_klt l1 hp
  · refine h k hkn (fun j x hj1 hj2 ex => ?_) fun j x hj1 hj2 ex => ?_
    · have q := h1 (j - base) (by (clear C hk hkey hm hs hh h at_ hkn h1 h2 ex; lia))
      rw [show base + (j - base) = j by (clear C hk hkey hm hs hh h at_ hj2 ex q hkn h1 h2; lia), at_ _ _ ex] at q
      exact q
    · have q := h2 (j - base) (by (clear C hk hkey hm hs hh h at_ hj2 ex hkn h1 h2; lia)) (by (clear C hk hkey hm hs hh h at_ hkn h1 h2 ex; lia))
      rw [show base + (j - base) = j by (clear C hk hkey hm hs hh h at_ hj2 ex q hkn h1 h2; lia), at_ _ _ ex] at q
      exact q

def mergeLo' : Array Keyed → Array Keyed → StateT SortSt Sem (Array Keyed) := sortPriv% PySem.Builtin.mergeLo
def mergeHi' : Array Keyed → Array Keyed → StateT SortSt Sem (Array Keyed) := sortPriv% PySem.Builtin.mergeHi
structure SameSt (st st' : SortSt) : Prop where
  kind : kindOf st' = kindOf st
  arr : arrOf st' = arrOf st
  pend : pendingOf st' = pendingOf st
  failed : failedOf st' = failedOf st
theorem SameSt.refl (st : SortSt) : SameSt st st := ⟨rfl, rfl, rfl, rfl⟩
theorem SameSt.gal {st st' : SortSt} (h : SameSt st st') (g : Nat) : SameSt st (SortSt.mk' (kindOf st') (arrOf st') (pendingOf st') g (failedOf st')) := ⟨h.kind, h.arr, h.pend, h.failed⟩

def setMinGallop' : Nat → StateT SortSt Sem Unit := sortPriv% PySem.Builtin.setMinGallop
theorem ask_patience {st st' : SortSt} {g : Nat} {Q : Unit → SortSt → Prop} (sm : SameSt st st') (h : ∀ st2, SameSt st st2 → Q () st2) : wpS (model prog w) A E s (setMinGallop' g) Q st' :=
  wpS_modify (h _ (sm.gal g))

structure LoW (O : KeyOrd) (K : Keyed → O.α) (a b : Array Keyed) (t : Nat) (st st' : SortSt) (out : Array Keyed) (ia ib : Nat) : Prop where
  li : LoI (kLe O K) a b out ia ib
  la : ia + 1 < a.size
  lb : ib < b.size
  go : t + 1 ≤ ia + ib
  sm : SameSt st st'

theorem srt_drop {xs : Array Keyed} {i : Nat} {x y : Keyed} (hs : Srt O K xs 0 xs.size) (hx : xs[i]? = some x) (hy : y ∈ xs.toList.drop i) : kLe O K x y := by
  obtain ⟨j, hj, e⟩ := mem_drop hy
  exact hs i j x y (Nat.zero_le _) hj (Array.getElem?_eq_some_iff.mp e).1 hx e

theorem ask_mergeLo (C : Asks prog w A s kd O K a₀) {st : SortSt} {a b : Array Keyed} {Q : Array Keyed → SortSt → Prop} (hk : kindOf st = kd) (ma : Mem a₀ a 0 a.size) (mb : Mem a₀ b 0 b.size) (na : 0 < a.size) (nb : 0 < b.size)
    (sa : Srt O K a 0 a.size) (sb : Srt O K b 0 b.size) (h0 : ∀ x y, b[0]? = some x → a[0]? = some y → kLt O K x y) (hl : ∀ x y, y ∈ b.toList → a[a.size - 1]? = some x → kLe O K y x)
    (h : ∀ out st', SameSt st st' → Mg (kLe O K) a.toList b.toList out.toList → Q out st') : wpS (model prog w) A E s (mergeLo' a b) Q st := by
  have lastOk : ∀ ia ib, ia + 1 = a.size → ∀ x ∈ b.toList.drop ib, ∀ y ∈ a.toList.drop ia, kLe O K x y := fun ia ib e x hx y hy => by
    obtain ⟨j, hj, ej⟩ := mem_drop hy
    have hlt := (Array.getElem?_eq_some_iff.mp ej).1
    have : j = a.size - 1 := by (clear C hk ma mb na nb sa sb h0 hl hx hy h ej; lia)
    subst this
    exact hl y x (List.mem_of_mem_drop hx) ej
  refine wpS_bind (wpS_lift (wpAny_rule ⟨rfl, ?_⟩))
  obtain ⟨b0, eb0, mb0⟩ := mb 0 (Nat.le_refl _) nb
  obtain ⟨x0, ea0, mx0⟩ := ma 0 (Nat.le_refl _) na
  refine wpS_bind (ask_elem eb0 ?_)
  have l0 : LoI (kLe O K) a b #[b0] 0 1 := by
    have l := LoI.mk (le := kLe O K) (a := a) (b := b) (out := #[]) (ia := 0) (ib := 0) (Nat.zero_le _) (Nat.zero_le _) (by simpa using MI.start sa.pw sb.pw)
    have l2 := l.pushB eb0 fun y hy => by
      have := srt_drop sa ea0 hy
      exact KeyOrd.kle_trans (KeyOrd.kle_of_klt (h0 b0 x0 eb0 ea0)) this
    simpa using l2
  dsimp only
  by_cases hb1 : 1 = b.size
  · rw [if_pos (by simpa using hb1)]
    exact wpS_pure (h _ _ (SameSt.refl _) (l0.doneB hb1))
  · rw [if_neg (by simpa using hb1)]
    by_cases ha1 : 0 + 1 = a.size
    · rw [if_pos (by simpa using ha1)]
      exact wpS_pure (h _ _ (SameSt.refl _) (l0.last (lastOk 0 1 ha1)))
    · rw [if_neg (by simpa using ha1)]
      refine wpS_bind (wpS_get ?_)
      refine wpS_bind (forin_of (I := fun t c st' => ∃ out ia ib mg, c = (none, out, ia, ib, mg) ∧ LoW O K a b t st st' out ia ib) ?step ?fin ⟨_, _, _, _, rfl, l0, by (clear h0 hl h lastOk eb0 mb0 ea0 mx0 C hk ma mb sa sb l0 hb1 nb; lia), by (clear h0 hl h lastOk eb0 mb0 ea0 mx0 C hk ma mb sa sb ha1 na l0; lia), by (clear C hk ma mb na nb sa sb h0 hl h lastOk eb0 mb0 ea0 mx0 l0 hb1 ha1; lia), SameSt.refl _⟩)
      case fin =>
        rintro c st' ⟨out, ia, ib, mg, rfl, W⟩
        have := W.go; have := W.la; have := W.lb
        (clear C hk ma mb na nb sa sb h0 hl h lastOk eb0 mb0 ea0 mx0 l0 hb1 ha1 W; lia)
      case step =>
        rintro t c st' ht ⟨out, ia, ib, mg, rfl, W⟩
        dsimp only
        refine wpS_bind (wpS_mono (forin_of (I := fun _ c st' => ∃ out ia ib ac bc, c = (none, out, ia, ib, ac, bc) ∧ LoW O K a b t st st' out ia ib)
          (Q := fun c st' => (∃ r c2, c = (some r, c2) ∧ SameSt st st' ∧ Mg (kLe O K) a.toList b.toList r.toList) ∨ ∃ out ia ib ac bc, c = (none, out, ia, ib, ac, bc) ∧ LoW O K a b t st st' out ia ib) ?istep ?ifin ⟨_, _, _, _, _, rfl, W⟩) ?ipost)
        case ifin => exact fun c st' q => .inr q
        case istep =>
          rintro i c st' _ ⟨out, ia, ib, ac, bc, rfl, W⟩
          dsimp only
          obtain ⟨y, ey, my⟩ := mb ib (Nat.zero_le _) W.lb
          obtain ⟨x, ex, mx⟩ := ma ia (Nat.zero_le _) (by have := W.la; (clear C hk ma mb na nb sa sb h0 hl h lastOk eb0 mb0 ea0 mx0 l0 hb1 ha1 ht W ey my; lia))
          have hk' : kindOf st' = kd := W.sm.kind.trans hk
          refine wpS_bind (ask_elem ey (wpS_bind (ask_elem ex (wpS_bind (ask_lt C hk' my mx ?_)))))
          dsimp only
          cases e : O.blt (K y) (K x) with
          | true =>
            rw [if_pos rfl]
            refine wpS_bind (ask_elem ey ?_)
            have l2 := W.li.pushB ey fun z hz => KeyOrd.kle_trans (KeyOrd.kle_of_klt e) (srt_drop sa ex hz)
            by_cases hz : ib + 1 = b.size
            · rw [if_pos (by simpa using hz)]
              exact wpS_pure (.inl ⟨_, _, rfl, W.sm, l2.doneB hz⟩)
            · rw [if_neg (by simpa using hz)]
              have W2 : LoW O K a b t st st' (out.push y) ia (ib + 1) := ⟨l2, W.la, by have := W.lb; (clear C hk ma mb na nb sa sb h0 hl h lastOk eb0 mb0 ea0 mx0 l0 hb1 ha1 ht W ey my ex mx hk' e l2; lia), by have := W.go; (clear C hk ma mb na nb sa sb h0 hl h lastOk eb0 mb0 ea0 mx0 l0 hb1 ha1 ht W ey my ex mx hk' e l2 hz; lia), W.sm⟩
              by_cases hg : bc + 1 ≥ mg
              · rw [if_pos hg]
                exact wpS_pure (.inr ⟨_, _, _, _, _, rfl, W2⟩)
              · rw [if_neg hg]
                exact wpS_pure ⟨_, _, _, _, _, rfl, W2⟩
          | false =>
            rw [if_neg (by simp)]
            refine wpS_bind (ask_elem ex ?_)
            have l2 := W.li.pushA ex fun z hz => KeyOrd.kle_trans (show kLe O K x y from e) (srt_drop sb ey hz)
            by_cases hz : ia + 1 + 1 = a.size
            · rw [if_pos (by simpa using hz)]
              exact wpS_pure (.inl ⟨_, _, rfl, W.sm, l2.last (lastOk _ _ hz)⟩)
            · rw [if_neg (by simpa using hz)]
              have W2 : LoW O K a b t st st' (out.push x) (ia + 1) ib := ⟨l2, by have := W.la; (clear C hk ma mb na nb sa sb h0 hl h lastOk eb0 mb0 ea0 mx0 l0 hb1 ha1 ht W ey my ex mx hk' e l2; lia), W.lb, by have := W.go; (clear C hk ma mb na nb sa sb h0 hl h lastOk eb0 mb0 ea0 mx0 l0 hb1 ha1 ht W ey my ex mx hk' e l2 hz; lia), W.sm⟩
              by_cases hg : ac + 1 ≥ mg
              · rw [if_pos hg]
                exact wpS_pure (.inr ⟨_, _, _, _, _, rfl, W2⟩)
              · rw [if_neg hg]
                exact wpS_pure ⟨_, _, _, _, _, rfl, W2⟩
        case ipost =>
          rintro c st' (⟨r, c2, rfl, sm, mg2⟩ | ⟨out, ia, ib, ac, bc, rfl, W⟩)
          · exact wpS_pure (wpS_pure (h r st' sm mg2))
          · dsimp only
            refine wpS_bind (wpS_lift (wpAny_rule ⟨rfl, ?_⟩))
            refine wpS_bind (wpS_mono (forin_of (I := fun i c st' => ∃ out ia ib mg ac bc, c = (none, out, ia, ib, mg, ac, bc) ∧ LoW O K a b (t + i) st st' out ia ib)
              (Q := fun c st' => (∃ r c2, c = (some r, c2) ∧ SameSt st st' ∧ Mg (kLe O K) a.toList b.toList r.toList) ∨ ∃ out ia ib mg ac bc, c = (none, out, ia, ib, mg, ac, bc) ∧ LoW O K a b (t + 1) st st' out ia ib) ?gstep ?gfin ⟨_, _, _, _, _, _, rfl, W⟩) ?gpost)
            case gfin =>
              rintro c st' ⟨out, ia, ib, mg, ac, bc, rfl, W⟩
              exact .inr ⟨_, _, _, _, _, _, rfl, W.li, W.la, W.lb, by have := W.go; (clear C hk ma mb na nb sa sb h0 hl h lastOk eb0 mb0 ea0 mx0 l0 hb1 ha1 W; lia), W.sm⟩
            case gpost =>
              rintro c st' (⟨r, c2, rfl, sm, mg2⟩ | ⟨out, ia, ib, mg, ac, bc, rfl, W⟩)
              · exact wpS_pure (wpS_pure (h r st' sm mg2))
              · refine wpS_bind (wpS_modify ?_)
                exact wpS_pure ⟨_, _, _, _, rfl, W.li, W.la, W.lb, W.go, W.sm.gal _⟩
            case gstep =>
              rintro i c st' _ ⟨out, ia, ib, mg, ac, bc, rfl, W⟩
              dsimp only
              obtain ⟨y, ey, my⟩ := mb ib (Nat.zero_le _) W.lb
              have go := W.go
              have la := W.la
              have lb := W.lb
              by_cases hm : mg > 1
              · rw [if_pos hm]
                refine wpS_bind (ask_patience W.sm fun st2 sm2 => ?_)
                refine wpS_bind (ask_elem ey ?_)
                refine wpS_bind (gallop_right C (sm2.kind.trans hk) my (ma.sub (Nat.zero_le _) (by (clear C hk ma mb na nb sa sb h0 hl h lastOk eb0 mb0 ea0 mx0 l0 hb1 ha1 ht W ey my go hm sm2 lb; lia))) (sa.sub (Nat.zero_le _) (by (clear C hk ma mb na nb sa sb h0 hl h lastOk eb0 mb0 ea0 mx0 l0 hb1 ha1 ht W ey my go hm sm2 lb; lia))) (by (clear C hk ma mb na nb sa sb h0 hl h lastOk eb0 mb0 ea0 mx0 l0 hb1 ha1 ht W ey my go hm sm2 lb; lia)) fun k hkn h1 h2 => ?_)
                dsimp only
                by_cases hk0 : k > 0
                · rw [if_pos hk0]
                  have l2 := W.li.manyA (k := k) (by (clear C hk ma mb na nb sa sb h0 hl h lastOk eb0 mb0 ea0 mx0 l0 hb1 ha1 ht W ey my go la lb hm sm2 h1 h2; lia)) fun u hu z hz => by
                    obtain ⟨j, hj1, hj2, ej⟩ := mem_dropTake hu
                    exact KeyOrd.kle_trans (h1 j u hj1 hj2 ej) (srt_drop sb ey hz)
                  by_cases e1 : ia + k + 1 = a.size
                  · rw [if_pos (by simpa using e1)]
                    exact wpS_pure (.inl ⟨_, _, rfl, sm2, l2.last (lastOk _ _ e1)⟩)
                  · rw [if_neg (by simpa using e1)]
                    by_cases e2 : ia + k = a.size
                    · rw [if_pos (by simpa using e2)]
                      exact wpS_pure (.inl ⟨_, _, rfl, sm2, l2.doneA e2⟩)
                    · rw [if_neg (by simpa using e2)]
                      generalize (out ++ a.extract ia (ia + k)) = out2 at l2 ⊢
                      have hia : ia ≤ ia + k ∧ ia + k + 1 < a.size := ⟨by (clear C hk ma mb na nb sa sb h0 hl h lastOk eb0 mb0 ea0 mx0 l0 hb1 ha1 ht W ey my go la lb hm sm2 hkn h1 h2 hk0 e1 e2 l2; lia), by (clear C hk ma mb na nb sa sb h0 hl h lastOk eb0 mb0 ea0 mx0 l0 hb1 ha1 ht W ey my go la lb hm sm2 l2 h1 h2; lia)⟩
                      have hab : ∀ j z, ia + k ≤ j → j < a.size → a[j]? = some z → kLt O K y z := fun j z q1 q2 q3 => h2 j z q1 (by (clear C hk ma mb na nb sa sb h0 hl h lastOk eb0 mb0 ea0 mx0 l0 hb1 ha1 ht W ey my go la lb hm sm2 hkn h1 h2 hk0 e1 e2 l2 hia q3 q1; lia)) q3
                      generalize ia + k = ia2 at l2 hia hab ⊢
                      have hx2 : ∃ x, a[ia2]? = some x ∧ x ∈ a₀.toList := ma ia2 (Nat.zero_le _) (by (clear C hk ma mb na nb sa sb h0 hl h lastOk eb0 mb0 ea0 mx0 l0 hb1 ha1 ht W ey my go la lb hm sm2 hkn h1 h2 hk0 hab e1 e2 l2; lia))
                      obtain ⟨x, ex, mx⟩ := hx2
                      refine wpS_bind (ask_elem ey ?_)
                      have l3 := l2.pushB ey fun z hz => by
                        obtain ⟨j, hj, ej⟩ := mem_drop hz
                        exact KeyOrd.kle_of_klt (hab j z hj (Array.getElem?_eq_some_iff.mp ej).1 ej)
                      by_cases hz : ib + 1 = b.size
                      · rw [if_pos (by simpa using hz)]
                        exact wpS_pure (.inl ⟨_, _, rfl, sm2, l3.doneB hz⟩)
                      · rw [if_neg (by simpa using hz)]
                        refine wpS_bind (ask_elem ex ?_)
                        refine wpS_bind (gallop_left C (sm2.kind.trans hk) mx (mb.sub (Nat.zero_le _) (by (clear C hk ma mb na nb sa sb h0 hl h lastOk eb0 mb0 ea0 mx0 l0 hb1 ha1 ht W ey my go e1 e2 l2 hia hab ex mx l3 hz hkn h1 h2 hk0 hm sm2 la; lia))) (sb.sub (Nat.zero_le _) (by (clear C hk ma mb na nb sa sb h0 hl h lastOk eb0 mb0 ea0 mx0 l0 hb1 ha1 ht W ey my go e1 e2 l2 hia hab ex mx l3 hz hkn h1 h2 hk0 hm sm2 la; lia))) (by (clear C hk ma mb na nb sa sb h0 hl h lastOk eb0 mb0 ea0 mx0 l0 hb1 ha1 ht W ey my go e1 e2 l2 hia hab ex mx l3 hkn h1 h2 hk0 hm sm2 la; lia)) fun k2 hkn2 h3 h4 => ?_)
                        dsimp only
                        by_cases hk2 : k2 > 0
                        · rw [if_pos hk2]
                          have l4 := l3.manyB (k := k2) (by (clear C hk ma mb na nb sa sb h0 hl h lastOk eb0 mb0 ea0 mx0 l0 hb1 ha1 ht W ey my go la lb hm sm2 hkn h1 h2 hk0 e1 e2 l2 hia hab ex mx l3 h3 h4 hz; omega)) fun u hu z hz => by
                            obtain ⟨j, hj1, hj2, ej⟩ := mem_dropTake hu
                            exact KeyOrd.kle_trans (KeyOrd.kle_of_klt (h3 j u hj1 hj2 ej)) (srt_drop sa ex hz)
                          by_cases hz2 : ib + 1 + k2 = b.size
                          · rw [if_pos (by simpa using hz2)]
                            exact wpS_pure (.inl ⟨_, _, rfl, sm2, l4.doneB hz2⟩)
                          · rw [if_neg (by simpa using hz2)]
                            generalize (out2.push y ++ b.extract (ib + 1) (ib + 1 + k2)) = out3 at l4 ⊢
                            have hib : ib + 1 ≤ ib + 1 + k2 ∧ ib + 1 + k2 < b.size := ⟨by (clear C hk ma mb na nb sa sb h0 hl h lastOk eb0 mb0 ea0 mx0 l0 hb1 ha1 ht W ey my go la lb hm sm2 hkn h1 h2 hk0 e1 e2 l2 hia hab ex mx l3 hz hkn2 h3 h4 hk2 hz2 l4; lia), by (clear C hk ma mb na nb sa sb h0 hl h lastOk eb0 mb0 ea0 mx0 l0 hb1 ha1 ht W ey my go la lb hm sm2 hkn h1 h2 hk0 e1 e2 l2 hia hab ex mx l3 h3 h4 l4 hz; omega)⟩
                            have h5 : ∀ j z, ib + 1 + k2 ≤ j → j < b.size → b[j]? = some z → kLe O K x z := fun j z q1 q2 q3 => h4 j z q1 (by (clear C hk ma mb na nb sa sb h0 hl h lastOk eb0 mb0 ea0 mx0 l0 hb1 ha1 ht W ey my go la lb hm sm2 hkn h1 h2 hk0 e1 e2 l2 hia hab ex mx l3 hz hkn2 h3 h4 hk2 hz2 l4 hib q3 q1; lia)) q3
                            generalize ib + 1 + k2 = ib3 at l4 hib h5 ⊢
                            refine wpS_bind (ask_elem ex ?_)
                            have l5 := l4.pushA ex fun z hz => by
                              obtain ⟨j, hj, ej⟩ := mem_drop hz
                              exact h5 j z hj (Array.getElem?_eq_some_iff.mp ej).1 ej
                            by_cases hz3 : ia2 + 1 + 1 = a.size
                            · rw [if_pos (by simpa using hz3)]
                              exact wpS_pure (.inl ⟨_, _, rfl, sm2, l5.last (lastOk _ _ hz3)⟩)
                            · rw [if_neg (by simpa using hz3)]
                              split
                              · exact wpS_pure (.inr ⟨_, _, _, _, _, _, rfl, l5, by (clear C hk ma mb na nb sa sb h0 hl h lastOk eb0 mb0 ea0 mx0 l0 hb1 ha1 ht W ey my go la lb hm sm2 hkn h1 h2 hk0 hz hkn2 h3 h4 hk2 hz2 l4 hib hab ex mx l3 e1 e2 h5 l5 l2; lia), by (clear C hk ma mb na nb sa sb h0 hl h lastOk eb0 mb0 ea0 mx0 l0 hb1 ha1 ht W ey my go la lb hm sm2 hkn h1 h2 hk0 e1 e2 l2 hia hab ex mx l3 h5 l5 hz3 hz hkn2 h3 h4 hk2 hz2 l4; lia), by (clear C hk ma mb na nb sa sb h0 hl h lastOk eb0 mb0 ea0 mx0 la lb hm sm2 hkn h1 h2 hk0 h5 l5 hz3 l0 hb1 ha1 ht hab ex mx l3 hz hkn2 h3 h4 W ey e1 e2 hk2 hz2 my l2 l4; lia), sm2⟩)
                              · exact wpS_pure ⟨_, _, _, _, _, _, rfl, l5, by (clear C hk ma mb na nb sa sb h0 hl h lastOk eb0 mb0 ea0 mx0 l0 hb1 ha1 ht W ey my go la lb hm sm2 hkn h1 h2 hk0 hz hkn2 h3 h4 hk2 hz2 l4 hib hab ex mx l3 e1 e2 h5 l5 l2; lia), by (clear C hk ma mb na nb sa sb h0 hl h lastOk eb0 mb0 ea0 mx0 l0 hb1 ha1 ht W ey my go la lb hm sm2 hkn h1 h2 hk0 e1 e2 l2 hia hab ex mx l3 h5 l5 hz3 hz hkn2 h3 h4 hk2 hz2 l4; lia), by (clear C hk ma mb na nb sa sb h0 hl h lastOk eb0 mb0 ea0 mx0 la lb hm sm2 hkn h1 h2 hk0 h5 l5 hz3 l0 hb1 ha1 ht hab ex mx l3 hz hkn2 h3 h4 W ey e1 e2 hk2 hz2 my l2 l4; lia), sm2⟩
                        · rw [if_neg hk2]
                          have l4 := l3
                          have hib : ib + 1 ≤ ib + 1 ∧ ib + 1 < b.size := ⟨Nat.le_refl _, by (clear C hk ma mb na nb sa sb h0 hl h lastOk eb0 mb0 ea0 mx0 l0 hb1 ha1 ht W ey my go e1 e2 l2 hia hab ex mx l3 hkn h1 h2 hk0 hk2 l4 hm sm2 h3 h4 la hkn2; lia)⟩
                          have h5 : ∀ j z, ib + 1 ≤ j → j < b.size → b[j]? = some z → kLe O K x z := fun j z q1 q2 q3 => h4 j z (by (clear C hk ma mb na nb sa sb h0 hl h lastOk eb0 mb0 ea0 mx0 l0 hb1 ha1 ht W ey my go la lb hm sm2 hkn h1 h2 hk0 e1 e2 l2 hia hab ex mx l3 q2 q3 hz hkn2 h3 h4 l4 hib; lia)) (by (clear C hk ma mb na nb sa sb h0 hl h lastOk eb0 mb0 ea0 mx0 l0 hb1 ha1 ht W ey my go la lb hm sm2 hkn h1 h2 hk0 e1 e2 l2 hia hab ex mx l3 hz hkn2 h3 h4 hk2 l4 hib q1 q3; lia)) q3
                          generalize (out2.push y) = out3 at l4 ⊢
                          generalize hg : ib + 1 = ib3 at l4 hib h5 ⊢
                          refine wpS_bind (ask_elem ex ?_)
                          have l5 := l4.pushA ex fun z hz => by
                            obtain ⟨j, hj, ej⟩ := mem_drop hz
                            exact h5 j z hj (Array.getElem?_eq_some_iff.mp ej).1 ej
                          by_cases hz3 : ia2 + 1 + 1 = a.size
                          · rw [if_pos (by simpa using hz3)]
                            exact wpS_pure (.inl ⟨_, _, rfl, sm2, l5.last (lastOk _ _ hz3)⟩)
                          · rw [if_neg (by simpa using hz3)]
                            split
                            · exact wpS_pure (.inr ⟨_, _, _, _, _, _, rfl, l5, by (clear C hk ma mb na nb sa sb h0 hl h lastOk eb0 mb0 ea0 mx0 l0 hb1 ha1 ht W ey my go la lb hm sm2 hkn h1 h2 hk0 hz hkn2 h3 h4 hk2 hg l4 hib hab ex mx l3 e1 e2 h5 l5 l2; lia), by (clear C hk ma mb na nb sa sb h0 hl h lastOk eb0 mb0 ea0 mx0 l0 hb1 ha1 ht W ey my go la lb hm sm2 hkn h1 h2 hk0 e1 e2 l2 hia hab ex mx l3 h5 l5 hz3 hz hkn2 h3 h4 hk2 hg l4; lia), by (clear C hk ma mb na nb sa sb h0 hl h lastOk eb0 mb0 ea0 mx0 la lb hm sm2 hkn h1 h2 hk0 h5 l5 hz3 l0 hb1 ha1 ht hab ex mx l3 hz hkn2 h3 h4 W ey e1 e2 l4 hib my l2 hk2; lia), sm2⟩)
                            · exact wpS_pure ⟨_, _, _, _, _, _, rfl, l5, by (clear C hk ma mb na nb sa sb h0 hl h lastOk eb0 mb0 ea0 mx0 l0 hb1 ha1 ht W ey my go la lb hm sm2 hkn h1 h2 hk0 hz hkn2 h3 h4 hk2 hg l4 hib hab ex mx l3 e1 e2 h5 l5 l2; lia), by (clear C hk ma mb na nb sa sb h0 hl h lastOk eb0 mb0 ea0 mx0 l0 hb1 ha1 ht W ey my go la lb hm sm2 hkn h1 h2 hk0 e1 e2 l2 hia hab ex mx l3 h5 l5 hz3 hz hkn2 h3 h4 hk2 hg l4; lia), by (clear C hk ma mb na nb sa sb h0 hl h lastOk eb0 mb0 ea0 mx0 la lb hm sm2 hkn h1 h2 hk0 h5 l5 hz3 l0 hb1 ha1 ht hab ex mx l3 hz hkn2 h3 h4 W ey e1 e2 l4 hib my l2 hk2; lia), sm2⟩
                · rw [if_neg hk0]
                  have l2 := W.li
                  have hia : ia ≤ ia ∧ ia + 1 < a.size := ⟨Nat.le_refl _, by (clear C hk ma mb na nb sa sb h0 hl h lastOk eb0 mb0 ea0 mx0 l0 hb1 ha1 ht W ey my go l2 hkn h1 h2 hk0 hm sm2 lb; omega)⟩
                  have hab : ∀ j z, ia ≤ j → j < a.size → a[j]? = some z → kLt O K y z := fun j z q1 q2 q3 => h2 j z (by (clear C hk ma mb na nb sa sb h0 hl h lastOk eb0 mb0 ea0 mx0 l0 hb1 ha1 ht W ey my go la lb hm sm2 q3 hkn h1 l2 hia h2 q2; lia)) (by (clear C hk ma mb na nb sa sb h0 hl h lastOk eb0 mb0 ea0 mx0 l0 hb1 ha1 ht W ey my go la lb hm sm2 hkn h1 h2 hk0 q3 l2 hia q1; lia)) q3
                  generalize hga : out = out2 at l2 ⊢
                  generalize hgi : ia = ia2 at l2 hia hab ⊢
                  have hx2 : ∃ x, a[ia2]? = some x ∧ x ∈ a₀.toList := ma ia2 (Nat.zero_le _) (by (clear C hk ma mb na nb sa sb h0 hl h lastOk eb0 mb0 ea0 mx0 l0 hb1 ha1 ht W ey my go la lb hm sm2 hkn h1 h2 hk0 hab hga hgi l2; lia))
                  obtain ⟨x, ex, mx⟩ := hx2
                  refine wpS_bind (ask_elem ey ?_)
                  have l3 := l2.pushB ey fun z hz => by
                    obtain ⟨j, hj, ej⟩ := mem_drop hz
                    exact KeyOrd.kle_of_klt (hab j z hj (Array.getElem?_eq_some_iff.mp ej).1 ej)
                  by_cases hz : ib + 1 = b.size
                  · rw [if_pos (by simpa using hz)]
                    exact wpS_pure (.inl ⟨_, _, rfl, sm2, l3.doneB hz⟩)
                  · rw [if_neg (by simpa using hz)]
                    refine wpS_bind (ask_elem ex ?_)
                    refine wpS_bind (gallop_left C (sm2.kind.trans hk) mx (mb.sub (Nat.zero_le _) (by (clear C hk ma mb na nb sa sb h0 hl h lastOk eb0 mb0 ea0 mx0 l0 hb1 ha1 ht W ey my go hga hgi l2 hia hab ex mx l3 hz hkn h1 h2 hk0 hm sm2 la; lia))) (sb.sub (Nat.zero_le _) (by (clear C hk ma mb na nb sa sb h0 hl h lastOk eb0 mb0 ea0 mx0 l0 hb1 ha1 ht W ey my go hga hgi l2 hia hab ex mx l3 hz hkn h1 h2 hk0 hm sm2 la; lia))) (by (clear C hk ma mb na nb sa sb h0 hl h lastOk eb0 mb0 ea0 mx0 l0 hb1 ha1 ht W ey my go hga hgi l2 hia hab ex mx l3 hkn h1 h2 hk0 hm sm2 la; lia)) fun k2 hkn2 h3 h4 => ?_)
                    dsimp only
                    by_cases hk2 : k2 > 0
                    · rw [if_pos hk2]
                      have l4 := l3.manyB (k := k2) (by (clear C hk ma mb na nb sa sb h0 hl h lastOk eb0 mb0 ea0 mx0 l0 hb1 ha1 ht W ey my go la lb hm sm2 hkn h1 h2 hk0 hga hgi l2 hia hab ex mx l3 h3 h4 hz; omega)) fun u hu z hz => by
                        obtain ⟨j, hj1, hj2, ej⟩ := mem_dropTake hu
                        exact KeyOrd.kle_trans (KeyOrd.kle_of_klt (h3 j u hj1 hj2 ej)) (srt_drop sa ex hz)
                      by_cases hz2 : ib + 1 + k2 = b.size
                      · rw [if_pos (by simpa using hz2)]
                        exact wpS_pure (.inl ⟨_, _, rfl, sm2, l4.doneB hz2⟩)
                      · rw [if_neg (by simpa using hz2)]
                        generalize (out2.push y ++ b.extract (ib + 1) (ib + 1 + k2)) = out3 at l4 ⊢
                        have hib : ib + 1 ≤ ib + 1 + k2 ∧ ib + 1 + k2 < b.size := ⟨by (clear C hk ma mb na nb sa sb h0 hl h lastOk eb0 mb0 ea0 mx0 l0 hb1 ha1 ht W ey my go la lb hm sm2 hkn h1 h2 hk0 hga hgi l2 hia hab ex mx l3 hz hkn2 h3 h4 hk2 hz2 l4; lia), by (clear C hk ma mb na nb sa sb h0 hl h lastOk eb0 mb0 ea0 mx0 l0 hb1 ha1 ht W ey my go la lb hm sm2 hkn h1 h2 hk0 hga hgi l2 hia hab ex mx l3 h3 h4 l4 hz; omega)⟩
                        have h5 : ∀ j z, ib + 1 + k2 ≤ j → j < b.size → b[j]? = some z → kLe O K x z := fun j z q1 q2 q3 => h4 j z q1 (by (clear C hk ma mb na nb sa sb h0 hl h lastOk eb0 mb0 ea0 mx0 l0 hb1 ha1 ht W ey my go la lb hm sm2 hkn h1 h2 hk0 hga hgi l2 hia hab ex mx l3 hz hkn2 h3 h4 hk2 hz2 l4 hib q3 q1; lia)) q3
                        generalize ib + 1 + k2 = ib3 at l4 hib h5 ⊢
                        refine wpS_bind (ask_elem ex ?_)
                        have l5 := l4.pushA ex fun z hz => by
                          obtain ⟨j, hj, ej⟩ := mem_drop hz
                          exact h5 j z hj (Array.getElem?_eq_some_iff.mp ej).1 ej
                        by_cases hz3 : ia2 + 1 + 1 = a.size
                        · rw [if_pos (by simpa using hz3)]
                          exact wpS_pure (.inl ⟨_, _, rfl, sm2, l5.last (lastOk _ _ hz3)⟩)
                        · rw [if_neg (by simpa using hz3)]
                          split
                          · exact wpS_pure (.inr ⟨_, _, _, _, _, _, rfl, l5, by (clear C hk ma mb na nb sa sb h0 hl h lastOk eb0 mb0 ea0 mx0 l0 hb1 ha1 ht W ey my go la lb hm sm2 hkn h1 h2 hk0 hz hkn2 h3 h4 hk2 hz2 l4 hib hab ex mx l3 hga hgi h5 l5 l2; lia), by (clear C hk ma mb na nb sa sb h0 hl h lastOk eb0 mb0 ea0 mx0 l0 hb1 ha1 ht W ey my go la lb hm sm2 hkn h1 h2 hk0 hga hgi l2 hia hab ex mx l3 h5 l5 hz3 hz hkn2 h3 h4 hk2 hz2 l4; lia), by (clear C hk ma mb na nb sa sb h0 hl h lastOk eb0 mb0 ea0 mx0 la lb hm sm2 hkn h1 h2 hk0 h5 l5 hz3 l0 hb1 ha1 ht hab ex mx l3 hz hkn2 h3 h4 W ey l2 hia hk2 hz2 my hga l4; lia), sm2⟩)
                          · exact wpS_pure ⟨_, _, _, _, _, _, rfl, l5, by (clear C hk ma mb na nb sa sb h0 hl h lastOk eb0 mb0 ea0 mx0 l0 hb1 ha1 ht W ey my go la lb hm sm2 hkn h1 h2 hk0 hz hkn2 h3 h4 hk2 hz2 l4 hib hab ex mx l3 hga hgi h5 l5 l2; lia), by (clear C hk ma mb na nb sa sb h0 hl h lastOk eb0 mb0 ea0 mx0 l0 hb1 ha1 ht W ey my go la lb hm sm2 hkn h1 h2 hk0 hga hgi l2 hia hab ex mx l3 h5 l5 hz3 hz hkn2 h3 h4 hk2 hz2 l4; lia), by (clear C hk ma mb na nb sa sb h0 hl h lastOk eb0 mb0 ea0 mx0 la lb hm sm2 hkn h1 h2 hk0 h5 l5 hz3 l0 hb1 ha1 ht hab ex mx l3 hz hkn2 h3 h4 W ey l2 hia hk2 hz2 my hga l4; lia), sm2⟩
                    · rw [if_neg hk2]
                      have l4 := l3
                      have hib : ib + 1 ≤ ib + 1 ∧ ib + 1 < b.size := ⟨Nat.le_refl _, by (clear C hk ma mb na nb sa sb h0 hl h lastOk eb0 mb0 ea0 mx0 l0 hb1 ha1 ht W ey my go hga hgi l2 hia hab ex mx l3 hkn h1 h2 hk0 hk2 l4 hm sm2 h3 h4 la hkn2; lia)⟩
                      have h5 : ∀ j z, ib + 1 ≤ j → j < b.size → b[j]? = some z → kLe O K x z := fun j z q1 q2 q3 => h4 j z (by (clear C hk ma mb na nb sa sb h0 hl h lastOk eb0 mb0 ea0 mx0 l0 hb1 ha1 ht W ey my go la lb hm sm2 hkn h1 h2 hk0 hga hgi l2 hia hab ex mx l3 q2 q3 hz hkn2 h3 h4 l4 hib; lia)) (by (clear C hk ma mb na nb sa sb h0 hl h lastOk eb0 mb0 ea0 mx0 l0 hb1 ha1 ht W ey my go la lb hm sm2 hkn h1 h2 hk0 hga hgi l2 hia hab ex mx l3 hz hkn2 h3 h4 hk2 l4 hib q1 q3; lia)) q3
                      generalize (out2.push y) = out3 at l4 ⊢
                      generalize hg : ib + 1 = ib3 at l4 hib h5 ⊢
                      refine wpS_bind (ask_elem ex ?_)
                      have l5 := l4.pushA ex fun z hz => by
                        obtain ⟨j, hj, ej⟩ := mem_drop hz
                        exact h5 j z hj (Array.getElem?_eq_some_iff.mp ej).1 ej
                      by_cases hz3 : ia2 + 1 + 1 = a.size
                      · rw [if_pos (by simpa using hz3)]
                        exact wpS_pure (.inl ⟨_, _, rfl, sm2, l5.last (lastOk _ _ hz3)⟩)
                      · rw [if_neg (by simpa using hz3)]
                        split
                        · exact wpS_pure (.inr ⟨_, _, _, _, _, _, rfl, l5, by (clear C hk ma mb na nb sa sb h0 hl h lastOk eb0 mb0 ea0 mx0 l0 hb1 ha1 ht W ey my go la lb hm sm2 hkn h1 h2 hk0 hz hkn2 h3 h4 hk2 hg l4 hib hab ex mx l3 hga hgi h5 l5 l2; lia), by (clear C hk ma mb na nb sa sb h0 hl h lastOk eb0 mb0 ea0 mx0 l0 hb1 ha1 ht W ey my go la lb hm sm2 hkn h1 h2 hk0 hga hgi l2 hia hab ex mx l3 h5 l5 hz3 hz hkn2 h3 h4 hk2 hg l4; lia), by (clear C hk ma mb na nb sa sb h0 hl h lastOk eb0 mb0 ea0 mx0 la lb hm sm2 hkn h1 h2 hk0 h5 l5 hz3 l0 hb1 ha1 ht hab ex mx l3 hz hkn2 h3 h4 W ey l2 hia l4 hib my hga hk2; lia), sm2⟩)
                        · exact wpS_pure ⟨_, _, _, _, _, _, rfl, l5, by (clear C hk ma mb na nb sa sb h0 hl h lastOk eb0 mb0 ea0 mx0 l0 hb1 ha1 ht W ey my go la lb hm sm2 hkn h1 h2 hk0 hz hkn2 h3 h4 hk2 hg l4 hib hab ex mx l3 hga hgi h5 l5 l2; lia), by (clear C hk ma mb na nb sa sb h0 hl h lastOk eb0 mb0 ea0 mx0 l0 hb1 ha1 ht W ey my go la lb hm sm2 hkn h1 h2 hk0 hga hgi l2 hia hab ex mx l3 h5 l5 hz3 hz hkn2 h3 h4 hk2 hg l4; lia), by (clear C hk ma mb na nb sa sb h0 hl h lastOk eb0 mb0 ea0 mx0 la lb hm sm2 hkn h1 h2 hk0 h5 l5 hz3 l0 hb1 ha1 ht hab ex mx l3 hz hkn2 h3 h4 W ey l2 hia l4 hib my hga hk2; lia), sm2⟩
              · rw [if_neg hm]
                refine wpS_bind (ask_patience W.sm fun st2 sm2 => ?_)
                refine wpS_bind (ask_elem ey ?_)
                refine wpS_bind (gallop_right C (sm2.kind.trans hk) my (ma.sub (Nat.zero_le _) (by (clear C hk ma mb na nb sa sb h0 hl h lastOk eb0 mb0 ea0 mx0 l0 hb1 ha1 ht W ey my go hm sm2 lb; lia))) (sa.sub (Nat.zero_le _) (by (clear C hk ma mb na nb sa sb h0 hl h lastOk eb0 mb0 ea0 mx0 l0 hb1 ha1 ht W ey my go hm sm2 lb; lia))) (by (clear C hk ma mb na nb sa sb h0 hl h lastOk eb0 mb0 ea0 mx0 l0 hb1 ha1 ht W ey my go hm sm2 lb; lia)) fun k hkn h1 h2 => ?_)
                dsimp only
                by_cases hk0 : k > 0
                · rw [if_pos hk0]
                  have l2 := W.li.manyA (k := k) (by (clear C hk ma mb na nb sa sb h0 hl h lastOk eb0 mb0 ea0 mx0 l0 hb1 ha1 ht W ey my go la lb hm sm2 h1 h2; lia)) fun u hu z hz => by
                    obtain ⟨j, hj1, hj2, ej⟩ := mem_dropTake hu
                    exact KeyOrd.kle_trans (h1 j u hj1 hj2 ej) (srt_drop sb ey hz)
                  by_cases e1 : ia + k + 1 = a.size
                  · rw [if_pos (by simpa using e1)]
                    exact wpS_pure (.inl ⟨_, _, rfl, sm2, l2.last (lastOk _ _ e1)⟩)
                  · rw [if_neg (by simpa using e1)]
                    by_cases e2 : ia + k = a.size
                    · rw [if_pos (by simpa using e2)]
                      exact wpS_pure (.inl ⟨_, _, rfl, sm2, l2.doneA e2⟩)
                    · rw [if_neg (by simpa using e2)]
                      generalize (out ++ a.extract ia (ia + k)) = out2 at l2 ⊢
                      have hia : ia ≤ ia + k ∧ ia + k + 1 < a.size := ⟨by (clear C hk ma mb na nb sa sb h0 hl h lastOk eb0 mb0 ea0 mx0 l0 hb1 ha1 ht W ey my go la lb hm sm2 hkn h1 h2 hk0 e1 e2 l2; lia), by (clear C hk ma mb na nb sa sb h0 hl h lastOk eb0 mb0 ea0 mx0 l0 hb1 ha1 ht W ey my go la lb hm sm2 l2 h1 h2; lia)⟩
                      have hab : ∀ j z, ia + k ≤ j → j < a.size → a[j]? = some z → kLt O K y z := fun j z q1 q2 q3 => h2 j z q1 (by (clear C hk ma mb na nb sa sb h0 hl h lastOk eb0 mb0 ea0 mx0 l0 hb1 ha1 ht W ey my go la lb hm sm2 hkn h1 h2 hk0 e1 e2 l2 hia q3 q1; lia)) q3
                      generalize ia + k = ia2 at l2 hia hab ⊢
                      have hx2 : ∃ x, a[ia2]? = some x ∧ x ∈ a₀.toList := ma ia2 (Nat.zero_le _) (by (clear C hk ma mb na nb sa sb h0 hl h lastOk eb0 mb0 ea0 mx0 l0 hb1 ha1 ht W ey my go la lb hm sm2 hkn h1 h2 hk0 hab e1 e2 l2; lia))
                      obtain ⟨x, ex, mx⟩ := hx2
                      refine wpS_bind (ask_elem ey ?_)
                      have l3 := l2.pushB ey fun z hz => by
                        obtain ⟨j, hj, ej⟩ := mem_drop hz
                        exact KeyOrd.kle_of_klt (hab j z hj (Array.getElem?_eq_some_iff.mp ej).1 ej)
                      by_cases hz : ib + 1 = b.size
                      · rw [if_pos (by simpa using hz)]
                        exact wpS_pure (.inl ⟨_, _, rfl, sm2, l3.doneB hz⟩)
                      · rw [if_neg (by simpa using hz)]
                        refine wpS_bind (ask_elem ex ?_)
                        refine wpS_bind (gallop_left C (sm2.kind.trans hk) mx (mb.sub (Nat.zero_le _) (by (clear C hk ma mb na nb sa sb h0 hl h lastOk eb0 mb0 ea0 mx0 l0 hb1 ha1 ht W ey my go e1 e2 l2 hia hab ex mx l3 hz hkn h1 h2 hk0 hm sm2 la; lia))) (sb.sub (Nat.zero_le _) (by (clear C hk ma mb na nb sa sb h0 hl h lastOk eb0 mb0 ea0 mx0 l0 hb1 ha1 ht W ey my go e1 e2 l2 hia hab ex mx l3 hz hkn h1 h2 hk0 hm sm2 la; lia))) (by (clear C hk ma mb na nb sa sb h0 hl h lastOk eb0 mb0 ea0 mx0 l0 hb1 ha1 ht W ey my go e1 e2 l2 hia hab ex mx l3 hkn h1 h2 hk0 hm sm2 la; lia)) fun k2 hkn2 h3 h4 => ?_)
                        dsimp only
                        by_cases hk2 : k2 > 0
                        · rw [if_pos hk2]
                          have l4 := l3.manyB (k := k2) (by (clear C hk ma mb na nb sa sb h0 hl h lastOk eb0 mb0 ea0 mx0 l0 hb1 ha1 ht W ey my go la lb hm sm2 hkn h1 h2 hk0 e1 e2 l2 hia hab ex mx l3 h3 h4 hz; omega)) fun u hu z hz => by
                            obtain ⟨j, hj1, hj2, ej⟩ := mem_dropTake hu
                            exact KeyOrd.kle_trans (KeyOrd.kle_of_klt (h3 j u hj1 hj2 ej)) (srt_drop sa ex hz)
                          by_cases hz2 : ib + 1 + k2 = b.size
                          · rw [if_pos (by simpa using hz2)]
                            exact wpS_pure (.inl ⟨_, _, rfl, sm2, l4.doneB hz2⟩)
                          · rw [if_neg (by simpa using hz2)]
                            generalize (out2.push y ++ b.extract (ib + 1) (ib + 1 + k2)) = out3 at l4 ⊢
                            have hib : ib + 1 ≤ ib + 1 + k2 ∧ ib + 1 + k2 < b.size := ⟨by (clear C hk ma mb na nb sa sb h0 hl h lastOk eb0 mb0 ea0 mx0 l0 hb1 ha1 ht W ey my go la lb hm sm2 hkn h1 h2 hk0 e1 e2 l2 hia hab ex mx l3 hz hkn2 h3 h4 hk2 hz2 l4; lia), by (clear C hk ma mb na nb sa sb h0 hl h lastOk eb0 mb0 ea0 mx0 l0 hb1 ha1 ht W ey my go la lb hm sm2 hkn h1 h2 hk0 e1 e2 l2 hia hab ex mx l3 h3 h4 l4 hz; omega)⟩
                            have h5 : ∀ j z, ib + 1 + k2 ≤ j → j < b.size → b[j]? = some z → kLe O K x z := fun j z q1 q2 q3 => h4 j z q1 (by (clear C hk ma mb na nb sa sb h0 hl h lastOk eb0 mb0 ea0 mx0 l0 hb1 ha1 ht W ey my go la lb hm sm2 hkn h1 h2 hk0 e1 e2 l2 hia hab ex mx l3 hz hkn2 h3 h4 hk2 hz2 l4 hib q3 q1; lia)) q3
                            generalize ib + 1 + k2 = ib3 at l4 hib h5 ⊢
                            refine wpS_bind (ask_elem ex ?_)
                            have l5 := l4.pushA ex fun z hz => by
                              obtain ⟨j, hj, ej⟩ := mem_drop hz
                              exact h5 j z hj (Array.getElem?_eq_some_iff.mp ej).1 ej
                            by_cases hz3 : ia2 + 1 + 1 = a.size
                            · rw [if_pos (by simpa using hz3)]
                              exact wpS_pure (.inl ⟨_, _, rfl, sm2, l5.last (lastOk _ _ hz3)⟩)
                            · rw [if_neg (by simpa using hz3)]
                              split
                              · exact wpS_pure (.inr ⟨_, _, _, _, _, _, rfl, l5, by (clear C hk ma mb na nb sa sb h0 hl h lastOk eb0 mb0 ea0 mx0 l0 hb1 ha1 ht W ey my go la lb hm sm2 hkn h1 h2 hk0 hz hkn2 h3 h4 hk2 hz2 l4 hib hab ex mx l3 e1 e2 h5 l5 l2; lia), by (clear C hk ma mb na nb sa sb h0 hl h lastOk eb0 mb0 ea0 mx0 l0 hb1 ha1 ht W ey my go la lb hm sm2 hkn h1 h2 hk0 e1 e2 l2 hia hab ex mx l3 h5 l5 hz3 hz hkn2 h3 h4 hk2 hz2 l4; lia), by (clear C hk ma mb na nb sa sb h0 hl h lastOk eb0 mb0 ea0 mx0 la lb hm sm2 hkn h1 h2 hk0 h5 l5 hz3 l0 hb1 ha1 ht hab ex mx l3 hz hkn2 h3 h4 W ey e1 e2 hk2 hz2 my l2 l4; lia), sm2⟩)
                              · exact wpS_pure ⟨_, _, _, _, _, _, rfl, l5, by (clear C hk ma mb na nb sa sb h0 hl h lastOk eb0 mb0 ea0 mx0 l0 hb1 ha1 ht W ey my go la lb hm sm2 hkn h1 h2 hk0 hz hkn2 h3 h4 hk2 hz2 l4 hib hab ex mx l3 e1 e2 h5 l5 l2; lia), by (clear C hk ma mb na nb sa sb h0 hl h lastOk eb0 mb0 ea0 mx0 l0 hb1 ha1 ht W ey my go la lb hm sm2 hkn h1 h2 hk0 e1 e2 l2 hia hab ex mx l3 h5 l5 hz3 hz hkn2 h3 h4 hk2 hz2 l4; lia), by (clear C hk ma mb na nb sa sb h0 hl h lastOk eb0 mb0 ea0 mx0 la lb hm sm2 hkn h1 h2 hk0 h5 l5 hz3 l0 hb1 ha1 ht hab ex mx l3 hz hkn2 h3 h4 W ey e1 e2 hk2 hz2 my l2 l4; lia), sm2⟩
                        · rw [if_neg hk2]
                          have l4 := l3
                          have hib : ib + 1 ≤ ib + 1 ∧ ib + 1 < b.size := ⟨Nat.le_refl _, by (clear C hk ma mb na nb sa sb h0 hl h lastOk eb0 mb0 ea0 mx0 l0 hb1 ha1 ht W ey my go e1 e2 l2 hia hab ex mx l3 hkn h1 h2 hk0 hk2 l4 hm sm2 h3 h4 la hkn2; lia)⟩
                          have h5 : ∀ j z, ib + 1 ≤ j → j < b.size → b[j]? = some z → kLe O K x z := fun j z q1 q2 q3 => h4 j z (by (clear C hk ma mb na nb sa sb h0 hl h lastOk eb0 mb0 ea0 mx0 l0 hb1 ha1 ht W ey my go la lb hm sm2 hkn h1 h2 hk0 e1 e2 l2 hia hab ex mx l3 q2 q3 hz hkn2 h3 h4 l4 hib; lia)) (by (clear C hk ma mb na nb sa sb h0 hl h lastOk eb0 mb0 ea0 mx0 l0 hb1 ha1 ht W ey my go la lb hm sm2 hkn h1 h2 hk0 e1 e2 l2 hia hab ex mx l3 hz hkn2 h3 h4 hk2 l4 hib q1 q3; lia)) q3
                          generalize (out2.push y) = out3 at l4 ⊢
                          generalize hg : ib + 1 = ib3 at l4 hib h5 ⊢
                          refine wpS_bind (ask_elem ex ?_)
                          have l5 := l4.pushA ex fun z hz => by
                            obtain ⟨j, hj, ej⟩ := mem_drop hz
                            exact h5 j z hj (Array.getElem?_eq_some_iff.mp ej).1 ej
                          by_cases hz3 : ia2 + 1 + 1 = a.size
                          · rw [if_pos (by simpa using hz3)]
                            exact wpS_pure (.inl ⟨_, _, rfl, sm2, l5.last (lastOk _ _ hz3)⟩)
                          · rw [if_neg (by simpa using hz3)]
                            split
                            · exact wpS_pure (.inr ⟨_, _, _, _, _, _, rfl, l5, by (clear C hk ma mb na nb sa sb h0 hl h lastOk eb0 mb0 ea0 mx0 l0 hb1 ha1 ht W ey my go la lb hm sm2 hkn h1 h2 hk0 hz hkn2 h3 h4 hk2 hg l4 hib hab ex mx l3 e1 e2 h5 l5 l2; lia), by (clear C hk ma mb na nb sa sb h0 hl h lastOk eb0 mb0 ea0 mx0 l0 hb1 ha1 ht W ey my go la lb hm sm2 hkn h1 h2 hk0 e1 e2 l2 hia hab ex mx l3 h5 l5 hz3 hz hkn2 h3 h4 hk2 hg l4; lia), by (clear C hk ma mb na nb sa sb h0 hl h lastOk eb0 mb0 ea0 mx0 la lb hm sm2 hkn h1 h2 hk0 h5 l5 hz3 l0 hb1 ha1 ht hab ex mx l3 hz hkn2 h3 h4 W ey e1 e2 l4 hib my l2 hk2; lia), sm2⟩)
                            · exact wpS_pure ⟨_, _, _, _, _, _, rfl, l5, by (clear C hk ma mb na nb sa sb h0 hl h lastOk eb0 mb0 ea0 mx0 l0 hb1 ha1 ht W ey my go la lb hm sm2 hkn h1 h2 hk0 hz hkn2 h3 h4 hk2 hg l4 hib hab ex mx l3 e1 e2 h5 l5 l2; lia), by (clear C hk ma mb na nb sa sb h0 hl h lastOk eb0 mb0 ea0 mx0 l0 hb1 ha1 ht W ey my go la lb hm sm2 hkn h1 h2 hk0 e1 e2 l2 hia hab ex mx l3 h5 l5 hz3 hz hkn2 h3 h4 hk2 hg l4; lia), by (clear C hk ma mb na nb sa sb h0 hl h lastOk eb0 mb0 ea0 mx0 la lb hm sm2 hkn h1 h2 hk0 h5 l5 hz3 l0 hb1 ha1 ht hab ex mx l3 hz hkn2 h3 h4 W ey e1 e2 l4 hib my l2 hk2; lia), sm2⟩
                · rw [if_neg hk0]
                  have l2 := W.li
                  have hia : ia ≤ ia ∧ ia + 1 < a.size := ⟨Nat.le_refl _, by (clear C hk ma mb na nb sa sb h0 hl h lastOk eb0 mb0 ea0 mx0 l0 hb1 ha1 ht W ey my go l2 hkn h1 h2 hk0 hm sm2 lb; omega)⟩
                  have hab : ∀ j z, ia ≤ j → j < a.size → a[j]? = some z → kLt O K y z := fun j z q1 q2 q3 => h2 j z (by (clear C hk ma mb na nb sa sb h0 hl h lastOk eb0 mb0 ea0 mx0 l0 hb1 ha1 ht W ey my go la lb hm sm2 q3 hkn h1 l2 hia h2 q2; lia)) (by (clear C hk ma mb na nb sa sb h0 hl h lastOk eb0 mb0 ea0 mx0 l0 hb1 ha1 ht W ey my go la lb hm sm2 hkn h1 h2 hk0 q3 l2 hia q1; lia)) q3
                  generalize hga : out = out2 at l2 ⊢
                  generalize hgi : ia = ia2 at l2 hia hab ⊢
                  have hx2 : ∃ x, a[ia2]? = some x ∧ x ∈ a₀.toList := ma ia2 (Nat.zero_le _) (by (clear C hk ma mb na nb sa sb h0 hl h lastOk eb0 mb0 ea0 mx0 l0 hb1 ha1 ht W ey my go la lb hm sm2 hkn h1 h2 hk0 hab hga hgi l2; lia))
                  obtain ⟨x, ex, mx⟩ := hx2
                  refine wpS_bind (ask_elem ey ?_)
                  have l3 := l2.pushB ey fun z hz => by
                    obtain ⟨j, hj, ej⟩ := mem_drop hz
                    exact KeyOrd.kle_of_klt (hab j z hj (Array.getElem?_eq_some_iff.mp ej).1 ej)
                  by_cases hz : ib + 1 = b.size
                  · rw [if_pos (by simpa using hz)]
                    exact wpS_pure (.inl ⟨_, _, rfl, sm2, l3.doneB hz⟩)
                  · rw [if_neg (by simpa using hz)]
                    refine wpS_bind (ask_elem ex ?_)
                    refine wpS_bind (gallop_left C (sm2.kind.trans hk) mx (mb.sub (Nat.zero_le _) (by (clear C hk ma mb na nb sa sb h0 hl h lastOk eb0 mb0 ea0 mx0 l0 hb1 ha1 ht W ey my go hga hgi l2 hia hab ex mx l3 hz hkn h1 h2 hk0 hm sm2 la; lia))) (sb.sub (Nat.zero_le _) (by (clear C hk ma mb na nb sa sb h0 hl h lastOk eb0 mb0 ea0 mx0 l0 hb1 ha1 ht W ey my go hga hgi l2 hia hab ex mx l3 hz hkn h1 h2 hk0 hm sm2 la; lia))) (by (clear C hk ma mb na nb sa sb h0 hl h lastOk eb0 mb0 ea0 mx0 l0 hb1 ha1 ht W ey my go hga hgi l2 hia hab ex mx l3 hkn h1 h2 hk0 hm sm2 la; lia)) fun k2 hkn2 h3 h4 => ?_)
                    dsimp only
                    by_cases hk2 : k2 > 0
                    · rw [if_pos hk2]
                      have l4 := l3.manyB (k := k2) (by (clear C hk ma mb na nb sa sb h0 hl h lastOk eb0 mb0 ea0 mx0 l0 hb1 ha1 ht W ey my go la lb hm sm2 hkn h1 h2 hk0 hga hgi l2 hia hab ex mx l3 h3 h4 hz; omega)) fun u hu z hz => by
                        obtain ⟨j, hj1, hj2, ej⟩ := mem_dropTake hu
                        exact KeyOrd.kle_trans (KeyOrd.kle_of_klt (h3 j u hj1 hj2 ej)) (srt_drop sa ex hz)
                      by_cases hz2 : ib + 1 + k2 = b.size
                      · rw [if_pos (by simpa using hz2)]
                        exact wpS_pure (.inl ⟨_, _, rfl, sm2, l4.doneB hz2⟩)
                      · rw [if_neg (by simpa using hz2)]
                        generalize (out2.push y ++ b.extract (ib + 1) (ib + 1 + k2)) = out3 at l4 ⊢
                        have hib : ib + 1 ≤ ib + 1 + k2 ∧ ib + 1 + k2 < b.size := ⟨by (clear C hk ma mb na nb sa sb h0 hl h lastOk eb0 mb0 ea0 mx0 l0 hb1 ha1 ht W ey my go la lb hm sm2 hkn h1 h2 hk0 hga hgi l2 hia hab ex mx l3 hz hkn2 h3 h4 hk2 hz2 l4; lia), by (clear C hk ma mb na nb sa sb h0 hl h lastOk eb0 mb0 ea0 mx0 l0 hb1 ha1 ht W ey my go la lb hm sm2 hkn h1 h2 hk0 hga hgi l2 hia hab ex mx l3 h3 h4 l4 hz; omega)⟩
                        have h5 : ∀ j z, ib + 1 + k2 ≤ j → j < b.size → b[j]? = some z → kLe O K x z := fun j z q1 q2 q3 => h4 j z q1 (by (clear C hk ma mb na nb sa sb h0 hl h lastOk eb0 mb0 ea0 mx0 l0 hb1 ha1 ht W ey my go la lb hm sm2 hkn h1 h2 hk0 hga hgi l2 hia hab ex mx l3 hz hkn2 h3 h4 hk2 hz2 l4 hib q3 q1; lia)) q3
                        generalize ib + 1 + k2 = ib3 at l4 hib h5 ⊢
                        refine wpS_bind (ask_elem ex ?_)
                        have l5 := l4.pushA ex fun z hz => by
                          obtain ⟨j, hj, ej⟩ := mem_drop hz
                          exact h5 j z hj (Array.getElem?_eq_some_iff.mp ej).1 ej
                        by_cases hz3 : ia2 + 1 + 1 = a.size
                        · rw [if_pos (by simpa using hz3)]
                          exact wpS_pure (.inl ⟨_, _, rfl, sm2, l5.last (lastOk _ _ hz3)⟩)
                        · rw [if_neg (by simpa using hz3)]
                          split
                          · exact wpS_pure (.inr ⟨_, _, _, _, _, _, rfl, l5, by (clear C hk ma mb na nb sa sb h0 hl h lastOk eb0 mb0 ea0 mx0 l0 hb1 ha1 ht W ey my go la lb hm sm2 hkn h1 h2 hk0 hz hkn2 h3 h4 hk2 hz2 l4 hib hab ex mx l3 hga hgi h5 l5 l2; lia), by (clear C hk ma mb na nb sa sb h0 hl h lastOk eb0 mb0 ea0 mx0 l0 hb1 ha1 ht W ey my go la lb hm sm2 hkn h1 h2 hk0 hga hgi l2 hia hab ex mx l3 h5 l5 hz3 hz hkn2 h3 h4 hk2 hz2 l4; lia), by (clear C hk ma mb na nb sa sb h0 hl h lastOk eb0 mb0 ea0 mx0 la lb hm sm2 hkn h1 h2 hk0 h5 l5 hz3 l0 hb1 ha1 ht hab ex mx l3 hz hkn2 h3 h4 W ey l2 hia hk2 hz2 my hga l4; lia), sm2⟩)
                          · exact wpS_pure ⟨_, _, _, _, _, _, rfl, l5, by (clear C hk ma mb na nb sa sb h0 hl h lastOk eb0 mb0 ea0 mx0 l0 hb1 ha1 ht W ey my go la lb hm sm2 hkn h1 h2 hk0 hz hkn2 h3 h4 hk2 hz2 l4 hib hab ex mx l3 hga hgi h5 l5 l2; lia), by (clear C hk ma mb na nb sa sb h0 hl h lastOk eb0 mb0 ea0 mx0 l0 hb1 ha1 ht W ey my go la lb hm sm2 hkn h1 h2 hk0 hga hgi l2 hia hab ex mx l3 h5 l5 hz3 hz hkn2 h3 h4 hk2 hz2 l4; lia), by (clear C hk ma mb na nb sa sb h0 hl h lastOk eb0 mb0 ea0 mx0 la lb hm sm2 hkn h1 h2 hk0 h5 l5 hz3 l0 hb1 ha1 ht hab ex mx l3 hz hkn2 h3 h4 W ey l2 hia hk2 hz2 my hga l4; lia), sm2⟩
                    · rw [if_neg hk2]
                      have l4 := l3
                      have hib : ib + 1 ≤ ib + 1 ∧ ib + 1 < b.size := ⟨Nat.le_refl _, by (clear C hk ma mb na nb sa sb h0 hl h lastOk eb0 mb0 ea0 mx0 l0 hb1 ha1 ht W ey my go hga hgi l2 hia hab ex mx l3 hkn h1 h2 hk0 hk2 l4 hm sm2 h3 h4 la hkn2; lia)⟩
                      have h5 : ∀ j z, ib + 1 ≤ j → j < b.size → b[j]? = some z → kLe O K x z := fun j z q1 q2 q3 => h4 j z (by (clear C hk ma mb na nb sa sb h0 hl h lastOk eb0 mb0 ea0 mx0 l0 hb1 ha1 ht W ey my go la lb hm sm2 hkn h1 h2 hk0 hga hgi l2 hia hab ex mx l3 q2 q3 hz hkn2 h3 h4 l4 hib; lia)) (by (clear C hk ma mb na nb sa sb h0 hl h lastOk eb0 mb0 ea0 mx0 l0 hb1 ha1 ht W ey my go la lb hm sm2 hkn h1 h2 hk0 hga hgi l2 hia hab ex mx l3 hz hkn2 h3 h4 hk2 l4 hib q1 q3; lia)) q3
                      generalize (out2.push y) = out3 at l4 ⊢
                      generalize hg : ib + 1 = ib3 at l4 hib h5 ⊢
                      refine wpS_bind (ask_elem ex ?_)
                      have l5 := l4.pushA ex fun z hz => by
                        obtain ⟨j, hj, ej⟩ := mem_drop hz
                        exact h5 j z hj (Array.getElem?_eq_some_iff.mp ej).1 ej
                      by_cases hz3 : ia2 + 1 + 1 = a.size
                      · rw [if_pos (by simpa using hz3)]
                        exact wpS_pure (.inl ⟨_, _, rfl, sm2, l5.last (lastOk _ _ hz3)⟩)
                      · rw [if_neg (by simpa using hz3)]
                        split
                        · exact wpS_pure (.inr ⟨_, _, _, _, _, _, rfl, l5, by (clear C hk ma mb na nb sa sb h0 hl h lastOk eb0 mb0 ea0 mx0 l0 hb1 ha1 ht W ey my go la lb hm sm2 hkn h1 h2 hk0 hz hkn2 h3 h4 hk2 hg l4 hib hab ex mx l3 hga hgi h5 l5 l2; lia), by (clear C hk ma mb na nb sa sb h0 hl h lastOk eb0 mb0 ea0 mx0 l0 hb1 ha1 ht W ey my go la lb hm sm2 hkn h1 h2 hk0 hga hgi l2 hia hab ex mx l3 h5 l5 hz3 hz hkn2 h3 h4 hk2 hg l4; lia), by (clear C hk ma mb na nb sa sb h0 hl h lastOk eb0 mb0 ea0 mx0 la lb hm sm2 hkn h1 h2 hk0 h5 l5 hz3 l0 hb1 ha1 ht hab ex mx l3 hz hkn2 h3 h4 W ey l2 hia l4 hib my hga hk2; lia), sm2⟩)
                        · exact wpS_pure ⟨_, _, _, _, _, _, rfl, l5, by (clear C hk ma mb na nb sa sb h0 hl h lastOk eb0 mb0 ea0 mx0 l0 hb1 ha1 ht W ey my go la lb hm sm2 hkn h1 h2 hk0 hz hkn2 h3 h4 hk2 hg l4 hib hab ex mx l3 hga hgi h5 l5 l2; lia), by (clear C hk ma mb na nb sa sb h0 hl h lastOk eb0 mb0 ea0 mx0 l0 hb1 ha1 ht W ey my go la lb hm sm2 hkn h1 h2 hk0 hga hgi l2 hia hab ex mx l3 h5 l5 hz3 hz hkn2 h3 h4 hk2 hg l4; lia), by (clear C hk ma mb na nb sa sb h0 hl h lastOk eb0 mb0 ea0 mx0 la lb hm sm2 hkn h1 h2 hk0 h5 l5 hz3 l0 hb1 ha1 ht hab ex mx l3 hz hkn2 h3 h4 W ey l2 hia l4 hib my hga hk2; lia), sm2⟩
end
end TS
namespace TS
open PySem PyProof.Rows
section
variable {prog : Program} {w : World} {A : Around} {E : Value → Shared → Prop} {s : Shared} {kd : SortKind} {O : KeyOrd} {K : Keyed → O.α} {a₀ : Array Keyed}
structure HiW (O : KeyOrd) (K : Keyed → O.α) (a b : Array Keyed) (t : Nat) (st st' : SortSt) (out : Array Keyed) (na nb : Nat) : Prop where
  li : HiI (kLe O K) a b out na nb
  la : 0 < na
  lb : 1 < nb
  go : t + 1 + na + nb ≤ a.size + b.size
  sm : SameSt st st'
theorem srt_take' {xs : Array Keyed} {i k : Nat} {x y : Keyed} (hs : Srt O K xs 0 xs.size) (hx : xs[i]? = some x) (hk : k ≤ i + 1) (hy : y ∈ xs.toList.take k) : kLe O K y x := by
  obtain ⟨j, hj, e⟩ := mem_take hy
  exact hs j i y x (Nat.zero_le _) (by (clear hs hx hy e; lia)) (Array.getElem?_eq_some_iff.mp hx).1 e hx

theorem ask_mergeHi (C : Asks prog w A s kd O K a₀) {st : SortSt} {a b : Array Keyed} {Q : Array Keyed → SortSt → Prop} (hk : kindOf st = kd) (ma : Mem a₀ a 0 a.size) (mb : Mem a₀ b 0 b.size) (na : 0 < a.size) (nb : 0 < b.size)
    (sa : Srt O K a 0 a.size) (sb : Srt O K b 0 b.size) (h0 : ∀ x y, b[0]? = some x → a[0]? = some y → kLt O K x y) (hl : ∀ x y, y ∈ b.toList → a[a.size - 1]? = some x → kLe O K y x)
    (h : ∀ out st', SameSt st st' → Mg (kLe O K) a.toList b.toList out.toList → Q out st') : wpS (model prog w) A E s (mergeHi' a b) Q st := by
  have firstOk : ∀ na, ∀ x ∈ b.toList.take 1, ∀ y ∈ a.toList.take na, kLe O K x y := fun na x hx y hy => by
    obtain ⟨j, hj, ej⟩ := mem_take hx
    have : j = 0 := by (clear C hk ma mb nb sa sb h0 hl h hx hy ej; lia)
    subst this
    obtain ⟨i, hi, ei⟩ := mem_take hy
    obtain ⟨x0, ex0, _⟩ := ma 0 (Nat.le_refl _) (by (clear C hk ma mb nb sa sb h0 hl h hx hy hj ej hi ei; omega))
    exact KeyOrd.kle_trans (KeyOrd.kle_of_klt (h0 x x0 ej ex0)) (sa 0 i x0 y (Nat.le_refl _) (Nat.zero_le _) (Array.getElem?_eq_some_iff.mp ei).1 ex0 ei)
  refine wpS_bind (wpS_lift (wpAny_rule ⟨rfl, ?_⟩))
  obtain ⟨xl, exl, mxl⟩ := ma (a.size - 1) (Nat.zero_le _) (by (clear h0 hl h firstOk C hk ma mb sa sb nb; omega))
  refine wpS_bind (ask_elem exl ?_)
  have l0 : HiI (kLe O K) a b #[xl] (a.size - 1) b.size := by
    have l := HiI.mk (le := kLe O K) (a := a) (b := b) (out := #[]) (na := a.size - 1 + 1) (nb := b.size) (by (clear h0 hl h firstOk exl mxl C hk ma mb sa sb nb; omega)) (Nat.le_refl _) (by
      rw [show a.size - 1 + 1 = a.size by (clear h0 hl h firstOk exl mxl C hk ma mb sa sb nb; lia), List.take_of_length_le (by simp), List.take_of_length_le (by simp)]
      simpa using MH.start sa.pw sb.pw)
    have l2 := l.pushA exl fun y hy => hl xl y (List.mem_of_mem_take hy) exl
    simpa using l2
  dsimp only
  by_cases ha1 : a.size - 1 = 0
  · rw [if_pos (by simpa using ha1)]
    exact wpS_pure (h _ _ (SameSt.refl _) (l0.doneA ha1))
  · rw [if_neg (by simpa using ha1)]
    by_cases hb1 : b.size = 1
    · rw [if_pos (by simpa using hb1)]
      exact wpS_pure (h _ _ (SameSt.refl _) (l0.first (by rw [hb1]; exact firstOk _)))
    · rw [if_neg (by simpa using hb1)]
      refine wpS_bind (wpS_get ?_)
      refine wpS_bind (forin_of (I := fun t c st' => ∃ na nb out mg, c = (none, na, nb, out, mg) ∧ HiW O K a b t st st' out na nb) ?step ?fin ⟨_, _, _, _, rfl, l0, by (clear C hk ma mb na nb sa sb hb1 h0 hl h firstOk exl mxl l0; lia), by (clear h0 hl h firstOk exl mxl l0 ha1 C hk ma mb sa sb na; lia), by (clear C hk ma mb na nb sa sb hb1 h0 hl h firstOk exl mxl l0; lia), SameSt.refl _⟩)
      case fin =>
        rintro c st' ⟨na, nb, out, mg, rfl, W⟩
        have := W.go; have := W.la; have := W.lb
        (clear C hk ma mb sa sb h0 hl h firstOk exl mxl l0 ha1 hb1 W this; lia)
      case step =>
        rintro t c st' ht ⟨na, nb, out, mg, rfl, W⟩
        dsimp only
        refine wpS_bind (wpS_mono (forin_of (I := fun _ c st' => ∃ na nb out ac bc, c = (none, na, nb, out, ac, bc) ∧ HiW O K a b t st st' out na nb)
          (Q := fun c st' => (∃ r c2, c = (some r, c2) ∧ SameSt st st' ∧ Mg (kLe O K) a.toList b.toList r.toList) ∨ ∃ na nb out ac bc, c = (none, na, nb, out, ac, bc) ∧ HiW O K a b t st st' out na nb) ?istep ?ifin ⟨_, _, _, _, _, rfl, W⟩) ?ipost)
        case ifin => exact fun c st' q => .inr q
        case istep =>
          rintro i c st' _ ⟨na, nb, out, ac, bc, rfl, W⟩
          dsimp only
          have go := W.go
          have la := W.la
          have lb := W.lb
          have za := W.li.ha
          have zb := W.li.hb
          obtain ⟨y, ey, my⟩ := mb (nb - 1) (Nat.zero_le _) (by (clear C hk ma mb sa sb h0 hl h firstOk exl mxl l0 ha1 hb1 ht W go la lb za; omega))
          obtain ⟨x, ex, mx⟩ := ma (na - 1) (Nat.zero_le _) (by (clear C hk ma mb sa sb h0 hl h firstOk exl mxl l0 ha1 hb1 ht W go la lb ey my zb; omega))
          have hk' : kindOf st' = kd := W.sm.kind.trans hk
          refine wpS_bind (ask_elem ey (wpS_bind (ask_elem ex (wpS_bind (ask_lt C hk' my mx ?_)))))
          dsimp only
          cases e : O.blt (K y) (K x) with
          | true =>
            rw [if_pos rfl]
            refine wpS_bind (ask_elem ex ?_)
            have li := W.li
            rw [show na = na - 1 + 1 by (clear C hk ma mb sa sb h0 hl h firstOk exl mxl l0 ha1 hb1 ht ex mx hk' e li za zb ey my W go lb; lia)] at li
            have l2 := li.pushA ex fun z hz => KeyOrd.kle_trans (srt_take' sb ey (by (clear C hk ma mb sa sb h0 hl h firstOk exl mxl l0 ha1 hb1 ht W go la lb za zb ey my ex mx hk' e li hz; omega)) hz) (KeyOrd.kle_of_klt e)
            by_cases hz : na - 1 = 0
            · rw [if_pos (by simpa using hz)]
              exact wpS_pure (.inl ⟨_, _, rfl, W.sm, l2.doneA hz⟩)
            · rw [if_neg (by simpa using hz)]
              have W2 : HiW O K a b t st st' (out.push x) (na - 1) nb := ⟨l2, by (clear C hk ma mb sa sb h0 hl h firstOk exl mxl l0 ha1 hb1 ht W go la lb za zb ey my ex mx hk' e li l2; lia), by (clear C hk ma mb sa sb h0 hl h firstOk exl mxl l0 ha1 hb1 ht ex mx hk' e li l2 hz za zb ey my W go la; omega), by (clear C hk ma mb sa sb h0 hl h firstOk exl mxl l0 ha1 hb1 ht ex mx hk' e li l2 hz za zb ey my la lb W; lia), W.sm⟩
              by_cases hg : ac + 1 ≥ mg
              · rw [if_pos hg]
                exact wpS_pure (.inr ⟨_, _, _, _, _, rfl, W2⟩)
              · rw [if_neg hg]
                exact wpS_pure ⟨_, _, _, _, _, rfl, W2⟩
          | false =>
            rw [if_neg (by simp)]
            refine wpS_bind (ask_elem ey ?_)
            have li := W.li
            rw [show nb = nb - 1 + 1 by (clear C hk ma mb sa sb h0 hl h firstOk exl mxl l0 ha1 hb1 ht ex mx hk' e li za zb ey my W go la; lia)] at li
            have l2 := li.pushB ey fun z hz => KeyOrd.kle_trans (srt_take' sa ex (by (clear C hk ma mb sa sb h0 hl h firstOk exl mxl l0 ha1 hb1 ht W go la lb za zb ey my ex mx hk' e li hz; omega)) hz) (show kLe O K x y from e)
            by_cases hz : nb - 1 = 1
            · rw [if_pos (by simpa using hz)]
              exact wpS_pure (.inl ⟨_, _, rfl, W.sm, l2.first (by rw [hz]; exact firstOk _)⟩)
            · rw [if_neg (by simpa using hz)]
              have W2 : HiW O K a b t st st' (out.push y) na (nb - 1) := ⟨l2, by (clear C hk ma mb sa sb h0 hl h firstOk exl mxl l0 ha1 hb1 ht ex mx hk' e li l2 hz za zb ey my W go lb; omega), by (clear C hk ma mb sa sb h0 hl h firstOk exl mxl l0 ha1 hb1 ht za zb ey my ex mx hk' e W go li l2 la; lia), by (clear C hk ma mb sa sb h0 hl h firstOk exl mxl l0 ha1 hb1 ht ex mx hk' e li l2 hz za zb ey my la lb W; lia), W.sm⟩
              by_cases hg : bc + 1 ≥ mg
              · rw [if_pos hg]
                exact wpS_pure (.inr ⟨_, _, _, _, _, rfl, W2⟩)
              · rw [if_neg hg]
                exact wpS_pure ⟨_, _, _, _, _, rfl, W2⟩
        case ipost =>
          rintro c st' (⟨r, c2, rfl, sm, mg2⟩ | ⟨na, nb, out, ac, bc, rfl, W⟩)
          · exact wpS_pure (wpS_pure (h r st' sm mg2))
          · dsimp only
            refine wpS_bind (wpS_lift (wpAny_rule ⟨rfl, ?_⟩))
            refine wpS_bind (wpS_mono (forin_of (I := fun i c st' => ∃ na nb out mg ac bc, c = (none, na, nb, out, mg, ac, bc) ∧ HiW O K a b (t + i) st st' out na nb)
              (Q := fun c st' => (∃ r c2, c = (some r, c2) ∧ SameSt st st' ∧ Mg (kLe O K) a.toList b.toList r.toList) ∨ ∃ na nb out mg ac bc, c = (none, na, nb, out, mg, ac, bc) ∧ HiW O K a b (t + 1) st st' out na nb) ?gstep ?gfin ⟨_, _, _, _, _, _, rfl, W⟩) ?gpost)
            case gfin =>
              rintro c st' ⟨na, nb, out, mg, ac, bc, rfl, W⟩
              exact .inr ⟨_, _, _, _, _, _, rfl, W.li, W.la, W.lb, by have := W.go; (clear C hk ma mb sa sb h0 hl h firstOk exl mxl l0 ha1 hb1 ht W; lia), W.sm⟩
            case gpost =>
              rintro c st' (⟨r, c2, rfl, sm, mg2⟩ | ⟨na, nb, out, mg, ac, bc, rfl, W⟩)
              · exact wpS_pure (wpS_pure (h r st' sm mg2))
              · refine wpS_bind (wpS_modify ?_)
                exact wpS_pure ⟨_, _, _, _, rfl, W.li, W.la, W.lb, W.go, W.sm.gal _⟩
            case gstep =>
              rintro i c st' _ ⟨na, nb, out, mg, ac, bc, rfl, W⟩
              dsimp only
              obtain ⟨y, ey, my⟩ := mb (nb - 1) (Nat.zero_le _) (by have := W.lb; have := W.li.hb; (clear C hk ma mb sa sb h0 hl h firstOk exl mxl l0 ha1 hb1 ht W; omega))
              have go := W.go
              have la := W.la
              have lb := W.lb
              have za := W.li.ha
              have zb := W.li.hb
              by_cases hm : mg > 1
              · rw [if_pos hm]
                refine wpS_bind (ask_patience W.sm fun st2 sm2 => ?_)
                refine wpS_bind (ask_elem ey ?_)
                refine wpS_bind (gallop_right C (sm2.kind.trans hk) my (ma.sub (Nat.zero_le _) (by (clear C hk ma mb sa sb h0 hl h firstOk exl mxl l0 ha1 hb1 ht hm sm2 W ey my go la lb zb; lia))) (sa.sub (Nat.zero_le _) (by (clear C hk ma mb sa sb h0 hl h firstOk exl mxl l0 ha1 hb1 ht hm sm2 W ey my go la lb zb; lia))) (by (clear C hk ma mb sa sb h0 hl h firstOk exl mxl l0 ha1 hb1 ht hm sm2 W ey my go za zb lb; omega)) fun k hkn h1 h2 => ?_)
                dsimp only
                by_cases hk0 : na - k > 0
                · rw [if_pos hk0]
                  have l2 := W.li.manyA (k := k) (by (clear C hk ma mb sa sb h0 hl h firstOk exl mxl l0 ha1 hb1 ht W ey my go la lb za zb hm sm2 hkn h1 h2; omega)) fun u hu z hz => by
                    obtain ⟨j, hj1, hj2, ej⟩ := mem_dropTake hz
                    exact KeyOrd.kle_trans (srt_take' sb ey (by (clear C hk ma mb sa sb h0 hl h firstOk exl mxl l0 ha1 hb1 ht W ey my go la lb za zb hm sm2 hkn h1 h2 hk0 hu hz hj1 hj2 ej; omega)) hu) (KeyOrd.kle_of_klt (h2 j z (by (clear C hk ma mb sa sb h0 hl h firstOk exl mxl l0 ha1 hb1 ht W ey my go la lb za zb hm sm2 hkn h1 h2 hk0 hu hz ej hj2; lia)) (by (clear C hk ma mb sa sb h0 hl h firstOk exl mxl l0 ha1 hb1 ht W ey my go la lb za zb hm sm2 hkn h1 h2 hk0 hu hz ej; omega)) ej))
                  by_cases e1 : k = 0
                  · rw [if_pos (by simpa using e1)]
                    exact wpS_pure (.inl ⟨_, _, rfl, sm2, l2.doneA e1⟩)
                  · rw [if_neg (by simpa using e1)]
                    generalize (out ++ (a.extract k na).reverse) = out2 at l2 ⊢
                    have hia : k ≤ na ∧ 0 < k := ⟨by (clear C hk ma mb sa sb h0 hl h firstOk exl mxl l0 ha1 hb1 ht W ey my go la lb za zb hm sm2 hkn h1 e1 l2 h2; omega), by (clear C hk ma mb sa sb h0 hl h firstOk exl mxl l0 ha1 hb1 ht W ey my go la lb za zb hm sm2 hkn h1 h2 hk0 l2; lia)⟩
                    have hab : ∀ j z, j < k → a[j]? = some z → kLe O K z y := fun j z q1 q3 => h1 j z (Nat.zero_le _) (by (clear C hk ma mb sa sb h0 hl h firstOk exl mxl l0 ha1 hb1 ht W ey my go la lb za zb hm sm2 hkn h1 h2 hk0 e1 l2 q3 hia; lia)) q3
                    generalize hgk : k = na2 at l2 hia hab ⊢
                    have hx2 : ∃ x, a[na2 - 1]? = some x ∧ x ∈ a₀.toList := ma (na2 - 1) (Nat.zero_le _) (by (clear C hk ma mb sa sb h0 hl h firstOk exl mxl l0 ha1 hb1 ht hm sm2 hkn h1 h2 hk0 e1 hgk W ey my go la lb hab zb l2; omega))
                    obtain ⟨x, ex, mx⟩ := hx2
                    refine wpS_bind (ask_elem ey ?_)
                    have l3 := HiI.pushB (nb := nb - 1) (by rw [show nb - 1 + 1 = nb by (clear C hk ma mb sa sb h0 hl h firstOk exl mxl l0 ha1 hb1 ht hm sm2 hkn h1 h2 hk0 e1 hgk l2 hia hab ex mx W ey my go za zb la; lia)]; exact l2) ey fun z hz => by
                      obtain ⟨j, hj, ej⟩ := mem_take hz
                      exact hab j z hj ej
                    by_cases hz : nb - 1 = 1
                    · rw [if_pos (by simpa using hz)]
                      exact wpS_pure (.inl ⟨_, _, rfl, sm2, l3.first (by rw [hz]; exact firstOk _)⟩)
                    · rw [if_neg (by simpa using hz)]
                      refine wpS_bind (ask_elem ex ?_)
                      refine wpS_bind (gallop_left C (sm2.kind.trans hk) mx (mb.sub (Nat.zero_le _) (by (clear C hk ma mb sa sb h0 hl h firstOk exl mxl l0 ha1 hb1 ht hm sm2 hkn h1 h2 hk0 e1 hgk l2 hia hab ex mx l3 hz W ey my go la lb za; lia))) (sb.sub (Nat.zero_le _) (by (clear C hk ma mb sa sb h0 hl h firstOk exl mxl l0 ha1 hb1 ht hm sm2 hkn h1 h2 hk0 e1 hgk l2 hia hab ex mx l3 hz W ey my go la lb za; lia))) (by (clear C hk ma mb sa sb h0 hl h firstOk exl mxl l0 ha1 hb1 ht hm sm2 hkn h1 h2 hk0 e1 hgk l2 hia hab ex mx l3 hz W ey my go za zb la; lia)) fun k2 hkn2 h3 h4 => ?_)
                      dsimp only
                      by_cases hk2 : nb - 1 - k2 > 0
                      · rw [if_pos hk2]
                        have l4 := l3.manyB (k := k2) (by (clear C hk ma mb sa sb h0 hl h firstOk exl mxl l0 ha1 hb1 ht W ey my go la lb za zb hm sm2 hkn h1 h2 hk0 e1 hgk l2 hia hab ex mx l3 hz hkn2 h3 h4; omega)) fun u hu z hz => by
                          obtain ⟨j, hj1, hj2, ej⟩ := mem_dropTake hz
                          exact KeyOrd.kle_trans (srt_take' sa ex (by (clear C hk ma mb sa sb h0 hl h firstOk exl mxl l0 ha1 hb1 ht W ey my go la lb za zb hm sm2 hkn h1 h2 hk0 e1 hgk l2 hia hab ex mx l3 hkn2 h3 h4 hk2 hu hz hj1 hj2 ej; omega)) hu) (h4 j z (by (clear C hk ma mb sa sb h0 hl h firstOk exl mxl l0 ha1 hb1 ht W ey my go la lb za zb hm sm2 hkn h1 h2 hk0 e1 hgk l2 hia hab ex mx l3 hkn2 h3 h4 hk2 hu hz ej hj2; lia)) (by (clear C hk ma mb sa sb h0 hl h firstOk exl mxl l0 ha1 hb1 ht W ey my go la lb za zb hm sm2 hkn h1 h2 hk0 e1 hgk l2 hia hab ex mx l3 hkn2 h3 h4 hk2 hu hz ej; omega)) ej)
                        by_cases hz2 : k2 = 1
                        · rw [if_pos (by simpa using hz2)]
                          exact wpS_pure (.inl ⟨_, _, rfl, sm2, l4.first (by rw [hz2]; exact firstOk _)⟩)
                        · rw [if_neg (by simpa using hz2)]
                          by_cases hz4 : k2 = 0
                          · rw [if_pos (by simpa using hz4)]
                            exact wpS_pure (.inl ⟨_, _, rfl, sm2, l4.doneB hz4⟩)
                          · rw [if_neg (by simpa using hz4)]
                            generalize (out2.push y ++ (b.extract k2 (nb - 1)).reverse) = out3 at l4 ⊢
                            have hib : k2 ≤ nb - 1 ∧ 1 < k2 := ⟨by (clear C hk ma mb sa sb h0 hl h firstOk exl mxl l0 ha1 hb1 ht W ey my go la lb za zb hm sm2 hkn h1 h2 hk0 e1 hgk l2 hia hab ex mx l3 hz hkn2 hz4 l4 h3 h4 hz2; omega), by (clear C hk ma mb sa sb h0 hl h firstOk exl mxl l0 ha1 hb1 ht W ey my go la lb za zb hm sm2 hkn h1 h2 hk0 e1 hgk l2 hia hab ex mx l3 hz hkn2 h3 h4 hk2 l4; lia)⟩
                            have h5 : ∀ j z, j < k2 → b[j]? = some z → kLt O K z x := fun j z q1 q3 => h3 j z (Nat.zero_le _) (by (clear C hk ma mb sa sb h0 hl h firstOk exl mxl l0 ha1 hb1 ht W ey my go la lb za zb hm sm2 hkn h1 h2 hk0 e1 hgk l2 hia hab ex mx l3 hz hkn2 q3 h3 h4 hk2 hz2 hz4 l4 hib; lia)) q3
                            refine wpS_bind (ask_elem ex ?_)
                            have l5 := HiI.pushA (na := na2 - 1) (by rw [show na2 - 1 + 1 = na2 by (clear C hk ma mb sa sb h0 hl h firstOk exl mxl l0 ha1 hb1 ht W ey my go la lb za zb hm sm2 hkn h1 h2 hk0 e1 hgk h3 h4 hk2 hz2 hz4 l4 hib h5 mx l3 hz hkn2 hab ex l2; lia)]; exact l4) ex fun z hz => by
                              obtain ⟨j, hj, ej⟩ := mem_take hz
                              exact KeyOrd.kle_of_klt (h5 j z hj ej)
                            by_cases hz3 : na2 - 1 = 0
                            · rw [if_pos (by simpa using hz3)]
                              exact wpS_pure (.inl ⟨_, _, rfl, sm2, l5.doneA hz3⟩)
                            · rw [if_neg (by simpa using hz3)]
                              split
                              · exact wpS_pure (.inr ⟨_, _, _, _, _, _, rfl, l5, by (clear C hk ma mb sa sb h0 hl h firstOk exl mxl l0 ha1 hb1 ht W ey my go la lb za zb hm sm2 hkn h1 h2 hk0 e1 hgk l2 hia hab ex mx l3 hz hkn2 h3 h4 hk2 hz2 hz4 l4 hib h5 l5; lia), by (clear C hk ma mb sa sb h0 hl h firstOk exl mxl l0 ha1 hb1 ht W ey my go la lb za zb hm sm2 hkn h1 h2 hk0 e1 hgk l2 hia hab ex mx l3 hz hkn2 l5 hz3 h3 h4 hk2 hz2 hz4 l4 h5; lia), by (clear C hk ma mb sa sb h0 hl h firstOk exl mxl l0 ha1 hb1 ht hm sm2 hkn h1 h2 hk0 e1 hgk h3 h4 hk2 hz2 hz4 l4 hib h5 l5 hz3 la lb za zb W ey hab ex mx l3 my l2 hz; lia), sm2⟩)
                              · exact wpS_pure ⟨_, _, _, _, _, _, rfl, l5, by (clear C hk ma mb sa sb h0 hl h firstOk exl mxl l0 ha1 hb1 ht W ey my go la lb za zb hm sm2 hkn h1 h2 hk0 e1 hgk l2 hia hab ex mx l3 hz hkn2 h3 h4 hk2 hz2 hz4 l4 hib h5 l5; lia), by (clear C hk ma mb sa sb h0 hl h firstOk exl mxl l0 ha1 hb1 ht W ey my go la lb za zb hm sm2 hkn h1 h2 hk0 e1 hgk l2 hia hab ex mx l3 hz hkn2 l5 hz3 h3 h4 hk2 hz2 hz4 l4 h5; lia), by (clear C hk ma mb sa sb h0 hl h firstOk exl mxl l0 ha1 hb1 ht hm sm2 hkn h1 h2 hk0 e1 hgk h3 h4 hk2 hz2 hz4 l4 hib h5 l5 hz3 la lb za zb W ey hab ex mx l3 my l2 hz; omega), sm2⟩
                      · rw [if_neg hk2]
                        have ek : k2 = nb - 1 := by (clear C hk ma mb sa sb h0 hl h firstOk exl mxl l0 ha1 hb1 ht W ey my go la lb za zb hm sm2 hkn h1 h2 hk0 e1 hgk l2 hia hab ex mx l3 h3 h4 hz; omega)
                        have l4 := l3
                        rw [← ek] at l4
                        rw [← ek]
                        have hib : k2 ≤ nb - 1 ∧ 1 < k2 := ⟨by (clear C hk ma mb sa sb h0 hl h firstOk exl mxl l0 ha1 hb1 ht W ey my go la lb za zb hm sm2 hkn h1 h2 hk0 e1 hgk l2 hia hab ex mx l3 hz hkn2 l4 h3 h4 hk2; lia), by (clear C hk ma mb sa sb h0 hl h firstOk exl mxl l0 ha1 hb1 ht hm sm2 hkn h1 h2 hk0 e1 hgk W ey my go l2 hia hab ex l4 za zb mx l3 h3 h4 la hkn2 hk2; lia)⟩
                        have h5 : ∀ j z, j < k2 → b[j]? = some z → kLt O K z x := fun j z q1 q3 => h3 j z (Nat.zero_le _) (by (clear C hk ma mb sa sb h0 hl h firstOk exl mxl l0 ha1 hb1 ht W ey my go la lb za zb hm sm2 hkn h1 h2 hk0 e1 hgk l2 hia hab ex mx l3 hz hkn2 h3 h4 hk2 ek l4 hib q3; lia)) q3
                        generalize (out2.push y) = out3 at l4 ⊢
                        refine wpS_bind (ask_elem ex ?_)
                        have l5 := HiI.pushA (na := na2 - 1) (by rw [show na2 - 1 + 1 = na2 by (clear C hk ma mb sa sb h0 hl h firstOk exl mxl l0 ha1 hb1 ht W ey my go la lb za zb hm sm2 hkn h1 h2 hk0 e1 hgk h3 h4 hk2 ek hib h5 l4 mx l3 hz hkn2 hab ex l2; lia)]; exact l4) ex fun z hz => by
                          obtain ⟨j, hj, ej⟩ := mem_take hz
                          exact KeyOrd.kle_of_klt (h5 j z hj ej)
                        by_cases hz3 : na2 - 1 = 0
                        · rw [if_pos (by simpa using hz3)]
                          exact wpS_pure (.inl ⟨_, _, rfl, sm2, l5.doneA hz3⟩)
                        · rw [if_neg (by simpa using hz3)]
                          split
                          · exact wpS_pure (.inr ⟨_, _, _, _, _, _, rfl, l5, by (clear C hk ma mb sa sb h0 hl h firstOk exl mxl l0 ha1 hb1 ht W ey my go la lb za zb hm sm2 hkn h1 h2 hk0 e1 hgk l2 hia hab ex mx l3 hz hkn2 h3 h4 hk2 ek hib h5 l4 l5; lia), by (clear C hk ma mb sa sb h0 hl h firstOk exl mxl l0 ha1 hb1 ht W ey my go la lb za zb hm sm2 hkn h1 h2 hk0 e1 hgk l2 hia hab ex mx l3 hz hkn2 hz3 h3 h4 hk2 ek l4 l5 h5; lia), by (clear C hk ma mb sa sb h0 hl h firstOk exl mxl l0 ha1 hb1 ht hm sm2 hkn h1 h2 hk0 e1 hgk h3 h4 hk2 ek hib h5 l4 l5 hz3 la lb za zb W ey hab ex mx l3 my l2 hz; lia), sm2⟩)
                          · exact wpS_pure ⟨_, _, _, _, _, _, rfl, l5, by (clear C hk ma mb sa sb h0 hl h firstOk exl mxl l0 ha1 hb1 ht W ey my go la lb za zb hm sm2 hkn h1 h2 hk0 e1 hgk l2 hia hab ex mx l3 hz hkn2 h3 h4 hk2 ek hib h5 l4 l5; lia), by (clear C hk ma mb sa sb h0 hl h firstOk exl mxl l0 ha1 hb1 ht W ey my go la lb za zb hm sm2 hkn h1 h2 hk0 e1 hgk l2 hia hab ex mx l3 hz hkn2 hz3 h3 h4 hk2 ek l4 l5 h5; lia), by (clear C hk ma mb sa sb h0 hl h firstOk exl mxl l0 ha1 hb1 ht hm sm2 hkn h1 h2 hk0 e1 hgk h3 h4 hk2 ek hib h5 l4 l5 hz3 la lb za zb W ey hab ex mx l3 my l2 hz; omega), sm2⟩
                · rw [if_neg hk0]
                  have l2 := W.li
                  have hia : na ≤ na ∧ 0 < na := ⟨Nat.le_refl _, by (clear C hk ma mb sa sb h0 hl h firstOk exl mxl l0 ha1 hb1 ht hm sm2 hkn h1 h2 hk0 l2 W ey my go za zb lb; omega)⟩
                  have hab : ∀ j z, j < na → a[j]? = some z → kLe O K z y := fun j z q1 q3 => h1 j z (Nat.zero_le _) (by (clear C hk ma mb sa sb h0 hl h firstOk exl mxl l0 ha1 hb1 ht W ey my go la lb za zb hm sm2 hkn h1 l2 hia h2 q3; lia)) q3
                  generalize hga : out = out2 at l2 ⊢
                  generalize hgi : na = na2 at l2 hia hab ⊢
                  have hx2 : ∃ x, a[na2 - 1]? = some x ∧ x ∈ a₀.toList := ma (na2 - 1) (Nat.zero_le _) (by (clear C hk ma mb sa sb h0 hl h firstOk exl mxl l0 ha1 hb1 ht l2 hia hab W ey my go hm sm2 hkn h1 la lb h2 hk0 zb hga; omega))
                  obtain ⟨x, ex, mx⟩ := hx2
                  refine wpS_bind (ask_elem ey ?_)
                  have l3 := HiI.pushB (nb := nb - 1) (by rw [show nb - 1 + 1 = nb by (clear C hk ma mb sa sb h0 hl h firstOk exl mxl l0 ha1 hb1 ht hm sm2 hkn h1 h2 hk0 hga hgi l2 hia hab ex mx W ey my go za zb la; lia)]; exact l2) ey fun z hz => by
                    obtain ⟨j, hj, ej⟩ := mem_take hz
                    exact hab j z hj ej
                  by_cases hz : nb - 1 = 1
                  · rw [if_pos (by simpa using hz)]
                    exact wpS_pure (.inl ⟨_, _, rfl, sm2, l3.first (by rw [hz]; exact firstOk _)⟩)
                  · rw [if_neg (by simpa using hz)]
                    refine wpS_bind (ask_elem ex ?_)
                    refine wpS_bind (gallop_left C (sm2.kind.trans hk) mx (mb.sub (Nat.zero_le _) (by (clear C hk ma mb sa sb h0 hl h firstOk exl mxl l0 ha1 hb1 ht hm sm2 hkn h1 h2 hk0 hga hgi l2 hia hab ex mx l3 hz W ey my go la lb za; lia))) (sb.sub (Nat.zero_le _) (by (clear C hk ma mb sa sb h0 hl h firstOk exl mxl l0 ha1 hb1 ht hm sm2 hkn h1 h2 hk0 hga hgi l2 hia hab ex mx l3 hz W ey my go la lb za; lia))) (by (clear C hk ma mb sa sb h0 hl h firstOk exl mxl l0 ha1 hb1 ht hm sm2 hkn h1 h2 hk0 hga hgi l2 hia hab ex mx l3 hz W ey my go za zb la; lia)) fun k2 hkn2 h3 h4 => ?_)
                    dsimp only
                    by_cases hk2 : nb - 1 - k2 > 0
                    · rw [if_pos hk2]
                      have l4 := l3.manyB (k := k2) (by (clear C hk ma mb sa sb h0 hl h firstOk exl mxl l0 ha1 hb1 ht W ey my go la lb za zb hm sm2 hkn h1 h2 hk0 hga hgi l2 hia hab ex mx l3 hz hkn2 h3 h4; omega)) fun u hu z hz => by
                        obtain ⟨j, hj1, hj2, ej⟩ := mem_dropTake hz
                        exact KeyOrd.kle_trans (srt_take' sa ex (by (clear C hk ma mb sa sb h0 hl h firstOk exl mxl l0 ha1 hb1 ht W ey my go la lb za zb hm sm2 hkn h1 h2 hk0 hga hgi l2 hia hab ex mx l3 hkn2 h3 h4 hk2 hu hz hj1 hj2 ej; omega)) hu) (h4 j z (by (clear C hk ma mb sa sb h0 hl h firstOk exl mxl l0 ha1 hb1 ht W ey my go la lb za zb hm sm2 hkn h1 h2 hk0 hga hgi l2 hia hab ex mx l3 hkn2 h3 h4 hk2 hu hz ej hj2; lia)) (by (clear C hk ma mb sa sb h0 hl h firstOk exl mxl l0 ha1 hb1 ht W ey my go la lb za zb hm sm2 hkn h1 h2 hk0 hga hgi l2 hia hab ex mx l3 hkn2 h3 h4 hk2 hu hz ej; omega)) ej)
                      by_cases hz2 : k2 = 1
                      · rw [if_pos (by simpa using hz2)]
                        exact wpS_pure (.inl ⟨_, _, rfl, sm2, l4.first (by rw [hz2]; exact firstOk _)⟩)
                      · rw [if_neg (by simpa using hz2)]
                        by_cases hz4 : k2 = 0
                        · rw [if_pos (by simpa using hz4)]
                          exact wpS_pure (.inl ⟨_, _, rfl, sm2, l4.doneB hz4⟩)
                        · rw [if_neg (by simpa using hz4)]
                          generalize (out2.push y ++ (b.extract k2 (nb - 1)).reverse) = out3 at l4 ⊢
                          have hib : k2 ≤ nb - 1 ∧ 1 < k2 := ⟨by (clear C hk ma mb sa sb h0 hl h firstOk exl mxl l0 ha1 hb1 ht W ey my go la lb za zb hm sm2 hkn h1 h2 hk0 hga hgi l2 hia hab ex mx l3 hz hkn2 hz4 l4 h3 h4 hz2; omega), by (clear C hk ma mb sa sb h0 hl h firstOk exl mxl l0 ha1 hb1 ht W ey my go la lb za zb hm sm2 hkn h1 h2 hk0 hga hgi l2 hia hab ex mx l3 hz hkn2 h3 h4 hk2 l4; lia)⟩
                          have h5 : ∀ j z, j < k2 → b[j]? = some z → kLt O K z x := fun j z q1 q3 => h3 j z (Nat.zero_le _) (by (clear C hk ma mb sa sb h0 hl h firstOk exl mxl l0 ha1 hb1 ht W ey my go la lb za zb hm sm2 hkn h1 h2 hk0 hga hgi l2 hia hab ex mx l3 hz hkn2 q3 h3 h4 hk2 hz2 hz4 l4 hib; lia)) q3
                          refine wpS_bind (ask_elem ex ?_)
                          have l5 := HiI.pushA (na := na2 - 1) (by rw [show na2 - 1 + 1 = na2 by (clear C hk ma mb sa sb h0 hl h firstOk exl mxl l0 ha1 hb1 ht W ey my go la lb za zb hm sm2 hkn h1 h2 hk0 hga hgi h3 h4 hk2 hz2 hz4 l4 hib h5 mx l3 hz hkn2 hab ex l2; lia)]; exact l4) ex fun z hz => by
                            obtain ⟨j, hj, ej⟩ := mem_take hz
                            exact KeyOrd.kle_of_klt (h5 j z hj ej)
                          by_cases hz3 : na2 - 1 = 0
                          · rw [if_pos (by simpa using hz3)]
                            exact wpS_pure (.inl ⟨_, _, rfl, sm2, l5.doneA hz3⟩)
                          · rw [if_neg (by simpa using hz3)]
                            split
                            · exact wpS_pure (.inr ⟨_, _, _, _, _, _, rfl, l5, by (clear C hk ma mb sa sb h0 hl h firstOk exl mxl l0 ha1 hb1 ht W ey my go la lb za zb hm sm2 hkn h1 h2 hk0 hga hgi l2 hia hab ex mx l3 hz hkn2 h3 h4 hk2 hz2 hz4 l4 hib h5 l5; lia), by (clear C hk ma mb sa sb h0 hl h firstOk exl mxl l0 ha1 hb1 ht W ey my go la lb za zb hm sm2 hkn h1 h2 hk0 hga hgi l2 hia hab ex mx l3 hz hkn2 l5 hz3 h3 h4 hk2 hz2 hz4 l4 h5; lia), by (clear C hk ma mb sa sb h0 hl h firstOk exl mxl l0 ha1 hb1 ht l2 hia hab ex mx l3 hz hkn2 l5 hz3 la lb za zb hm sm2 hkn h1 h3 h4 hk2 hz2 W ey h2 hk0 hz4 l4 my hga h5; lia), sm2⟩)
                            · exact wpS_pure ⟨_, _, _, _, _, _, rfl, l5, by (clear C hk ma mb sa sb h0 hl h firstOk exl mxl l0 ha1 hb1 ht W ey my go la lb za zb hm sm2 hkn h1 h2 hk0 hga hgi l2 hia hab ex mx l3 hz hkn2 h3 h4 hk2 hz2 hz4 l4 hib h5 l5; lia), by (clear C hk ma mb sa sb h0 hl h firstOk exl mxl l0 ha1 hb1 ht W ey my go la lb za zb hm sm2 hkn h1 h2 hk0 hga hgi l2 hia hab ex mx l3 hz hkn2 l5 hz3 h3 h4 hk2 hz2 hz4 l4 h5; lia), by (clear C hk ma mb sa sb h0 hl h firstOk exl mxl l0 ha1 hb1 ht l2 hia hab ex mx l3 hz hkn2 l5 hz3 la lb za zb hm sm2 hkn h1 h3 h4 hk2 hz2 W ey h2 hk0 hz4 l4 my hga h5; omega), sm2⟩
                    · rw [if_neg hk2]
                      have ek : k2 = nb - 1 := by (clear C hk ma mb sa sb h0 hl h firstOk exl mxl l0 ha1 hb1 ht W ey my go la lb za zb hm sm2 hkn h1 h2 hk0 hga hgi l2 hia hab ex mx l3 h3 h4 hz; omega)
                      have l4 := l3
                      rw [← ek] at l4
                      rw [← ek]
                      have hib : k2 ≤ nb - 1 ∧ 1 < k2 := ⟨by (clear C hk ma mb sa sb h0 hl h firstOk exl mxl l0 ha1 hb1 ht W ey my go la lb za zb hm sm2 hkn h1 h2 hk0 hga hgi l2 hia hab ex mx l3 hz hkn2 l4 h3 h4 hk2; lia), by (clear C hk ma mb sa sb h0 hl h firstOk exl mxl l0 ha1 hb1 ht hm sm2 hkn h1 h2 hk0 hga hgi W ey my go l2 hia hab ex l4 za zb mx l3 h3 h4 la hkn2 hk2; lia)⟩
                      have h5 : ∀ j z, j < k2 → b[j]? = some z → kLt O K z x := fun j z q1 q3 => h3 j z (Nat.zero_le _) (by (clear C hk ma mb sa sb h0 hl h firstOk exl mxl l0 ha1 hb1 ht W ey my go la lb za zb hm sm2 hkn h1 h2 hk0 hga hgi l2 hia hab ex mx l3 hz hkn2 h3 h4 hk2 ek l4 hib q3; lia)) q3
                      generalize (out2.push y) = out3 at l4 ⊢
                      refine wpS_bind (ask_elem ex ?_)
                      have l5 := HiI.pushA (na := na2 - 1) (by rw [show na2 - 1 + 1 = na2 by (clear C hk ma mb sa sb h0 hl h firstOk exl mxl l0 ha1 hb1 ht W ey my go la lb za zb hm sm2 hkn h1 h2 hk0 hga hgi h3 h4 hk2 ek hib h5 l4 mx l3 hz hkn2 hab ex l2; lia)]; exact l4) ex fun z hz => by
                        obtain ⟨j, hj, ej⟩ := mem_take hz
                        exact KeyOrd.kle_of_klt (h5 j z hj ej)
                      by_cases hz3 : na2 - 1 = 0
                      · rw [if_pos (by simpa using hz3)]
                        exact wpS_pure (.inl ⟨_, _, rfl, sm2, l5.doneA hz3⟩)
                      · rw [if_neg (by simpa using hz3)]
                        split
                        · exact wpS_pure (.inr ⟨_, _, _, _, _, _, rfl, l5, by (clear C hk ma mb sa sb h0 hl h firstOk exl mxl l0 ha1 hb1 ht W ey my go la lb za zb hm sm2 hkn h1 h2 hk0 hga hgi l2 hia hab ex mx l3 hz hkn2 h3 h4 hk2 ek hib h5 l4 l5; lia), by (clear C hk ma mb sa sb h0 hl h firstOk exl mxl l0 ha1 hb1 ht W ey my go la lb za zb hm sm2 hkn h1 h2 hk0 hga hgi l2 hia hab ex mx l3 hz hkn2 hz3 h3 h4 hk2 ek l4 l5 h5; lia), by (clear C hk ma mb sa sb h0 hl h firstOk exl mxl l0 ha1 hb1 ht l2 hia hab ex mx l3 hz hkn2 hz3 la lb za zb hm sm2 hkn h1 h3 h4 hk2 ek W ey h2 hk0 l4 l5 my hga h5; lia), sm2⟩)
                        · exact wpS_pure ⟨_, _, _, _, _, _, rfl, l5, by (clear C hk ma mb sa sb h0 hl h firstOk exl mxl l0 ha1 hb1 ht W ey my go la lb za zb hm sm2 hkn h1 h2 hk0 hga hgi l2 hia hab ex mx l3 hz hkn2 h3 h4 hk2 ek hib h5 l4 l5; lia), by (clear C hk ma mb sa sb h0 hl h firstOk exl mxl l0 ha1 hb1 ht W ey my go la lb za zb hm sm2 hkn h1 h2 hk0 hga hgi l2 hia hab ex mx l3 hz hkn2 hz3 h3 h4 hk2 ek l4 l5 h5; lia), by (clear C hk ma mb sa sb h0 hl h firstOk exl mxl l0 ha1 hb1 ht l2 hia hab ex mx l3 hz hkn2 hz3 la lb za zb hm sm2 hkn h1 h3 h4 hk2 ek W ey h2 hk0 l4 l5 my hga h5; omega), sm2⟩
              · rw [if_neg hm]
                refine wpS_bind (ask_patience W.sm fun st2 sm2 => ?_)
                refine wpS_bind (ask_elem ey ?_)
                refine wpS_bind (gallop_right C (sm2.kind.trans hk) my (ma.sub (Nat.zero_le _) (by (clear C hk ma mb sa sb h0 hl h firstOk exl mxl l0 ha1 hb1 ht hm sm2 W ey my go la lb zb; lia))) (sa.sub (Nat.zero_le _) (by (clear C hk ma mb sa sb h0 hl h firstOk exl mxl l0 ha1 hb1 ht hm sm2 W ey my go la lb zb; lia))) (by (clear C hk ma mb sa sb h0 hl h firstOk exl mxl l0 ha1 hb1 ht hm sm2 W ey my go za zb lb; omega)) fun k hkn h1 h2 => ?_)
                dsimp only
                by_cases hk0 : na - k > 0
                · rw [if_pos hk0]
                  have l2 := W.li.manyA (k := k) (by (clear C hk ma mb sa sb h0 hl h firstOk exl mxl l0 ha1 hb1 ht W ey my go la lb za zb hm sm2 hkn h1 h2; omega)) fun u hu z hz => by
                    obtain ⟨j, hj1, hj2, ej⟩ := mem_dropTake hz
                    exact KeyOrd.kle_trans (srt_take' sb ey (by (clear C hk ma mb sa sb h0 hl h firstOk exl mxl l0 ha1 hb1 ht W ey my go la lb za zb hm sm2 hkn h1 h2 hk0 hu hz hj1 hj2 ej; omega)) hu) (KeyOrd.kle_of_klt (h2 j z (by (clear C hk ma mb sa sb h0 hl h firstOk exl mxl l0 ha1 hb1 ht W ey my go la lb za zb hm sm2 hkn h1 h2 hk0 hu hz ej hj2; lia)) (by (clear C hk ma mb sa sb h0 hl h firstOk exl mxl l0 ha1 hb1 ht W ey my go la lb za zb hm sm2 hkn h1 h2 hk0 hu hz ej; omega)) ej))
                  by_cases e1 : k = 0
                  · rw [if_pos (by simpa using e1)]
                    exact wpS_pure (.inl ⟨_, _, rfl, sm2, l2.doneA e1⟩)
                  · rw [if_neg (by simpa using e1)]
                    generalize (out ++ (a.extract k na).reverse) = out2 at l2 ⊢
                    have hia : k ≤ na ∧ 0 < k := ⟨by (clear C hk ma mb sa sb h0 hl h firstOk exl mxl l0 ha1 hb1 ht W ey my go la lb za zb hm sm2 hkn h1 e1 l2 h2; omega), by (clear C hk ma mb sa sb h0 hl h firstOk exl mxl l0 ha1 hb1 ht W ey my go la lb za zb hm sm2 hkn h1 h2 hk0 l2; lia)⟩
                    have hab : ∀ j z, j < k → a[j]? = some z → kLe O K z y := fun j z q1 q3 => h1 j z (Nat.zero_le _) (by (clear C hk ma mb sa sb h0 hl h firstOk exl mxl l0 ha1 hb1 ht W ey my go la lb za zb hm sm2 hkn h1 h2 hk0 e1 l2 q3 hia; lia)) q3
                    generalize hgk : k = na2 at l2 hia hab ⊢
                    have hx2 : ∃ x, a[na2 - 1]? = some x ∧ x ∈ a₀.toList := ma (na2 - 1) (Nat.zero_le _) (by (clear C hk ma mb sa sb h0 hl h firstOk exl mxl l0 ha1 hb1 ht hm sm2 hkn h1 h2 hk0 e1 hgk W ey my go la lb hab zb l2; omega))
                    obtain ⟨x, ex, mx⟩ := hx2
                    refine wpS_bind (ask_elem ey ?_)
                    have l3 := HiI.pushB (nb := nb - 1) (by rw [show nb - 1 + 1 = nb by (clear C hk ma mb sa sb h0 hl h firstOk exl mxl l0 ha1 hb1 ht hm sm2 hkn h1 h2 hk0 e1 hgk l2 hia hab ex mx W ey my go za zb la; lia)]; exact l2) ey fun z hz => by
                      obtain ⟨j, hj, ej⟩ := mem_take hz
                      exact hab j z hj ej
                    by_cases hz : nb - 1 = 1
                    · rw [if_pos (by simpa using hz)]
                      exact wpS_pure (.inl ⟨_, _, rfl, sm2, l3.first (by rw [hz]; exact firstOk _)⟩)
                    · rw [if_neg (by simpa using hz)]
                      refine wpS_bind (ask_elem ex ?_)
                      refine wpS_bind (gallop_left C (sm2.kind.trans hk) mx (mb.sub (Nat.zero_le _) (by (clear C hk ma mb sa sb h0 hl h firstOk exl mxl l0 ha1 hb1 ht hm sm2 hkn h1 h2 hk0 e1 hgk l2 hia hab ex mx l3 hz W ey my go la lb za; lia))) (sb.sub (Nat.zero_le _) (by (clear C hk ma mb sa sb h0 hl h firstOk exl mxl l0 ha1 hb1 ht hm sm2 hkn h1 h2 hk0 e1 hgk l2 hia hab ex mx l3 hz W ey my go la lb za; lia))) (by (clear C hk ma mb sa sb h0 hl h firstOk exl mxl l0 ha1 hb1 ht hm sm2 hkn h1 h2 hk0 e1 hgk l2 hia hab ex mx l3 hz W ey my go za zb la; lia)) fun k2 hkn2 h3 h4 => ?_)
                      dsimp only
                      by_cases hk2 : nb - 1 - k2 > 0
                      · rw [if_pos hk2]
                        have l4 := l3.manyB (k := k2) (by (clear C hk ma mb sa sb h0 hl h firstOk exl mxl l0 ha1 hb1 ht W ey my go la lb za zb hm sm2 hkn h1 h2 hk0 e1 hgk l2 hia hab ex mx l3 hz hkn2 h3 h4; omega)) fun u hu z hz => by
                          obtain ⟨j, hj1, hj2, ej⟩ := mem_dropTake hz
                          exact KeyOrd.kle_trans (srt_take' sa ex (by (clear C hk ma mb sa sb h0 hl h firstOk exl mxl l0 ha1 hb1 ht W ey my go la lb za zb hm sm2 hkn h1 h2 hk0 e1 hgk l2 hia hab ex mx l3 hkn2 h3 h4 hk2 hu hz hj1 hj2 ej; omega)) hu) (h4 j z (by (clear C hk ma mb sa sb h0 hl h firstOk exl mxl l0 ha1 hb1 ht W ey my go la lb za zb hm sm2 hkn h1 h2 hk0 e1 hgk l2 hia hab ex mx l3 hkn2 h3 h4 hk2 hu hz ej hj2; lia)) (by (clear C hk ma mb sa sb h0 hl h firstOk exl mxl l0 ha1 hb1 ht W ey my go la lb za zb hm sm2 hkn h1 h2 hk0 e1 hgk l2 hia hab ex mx l3 hkn2 h3 h4 hk2 hu hz ej; omega)) ej)
                        by_cases hz2 : k2 = 1
                        · rw [if_pos (by simpa using hz2)]
                          exact wpS_pure (.inl ⟨_, _, rfl, sm2, l4.first (by rw [hz2]; exact firstOk _)⟩)
                        · rw [if_neg (by simpa using hz2)]
                          by_cases hz4 : k2 = 0
                          · rw [if_pos (by simpa using hz4)]
                            exact wpS_pure (.inl ⟨_, _, rfl, sm2, l4.doneB hz4⟩)
                          · rw [if_neg (by simpa using hz4)]
                            generalize (out2.push y ++ (b.extract k2 (nb - 1)).reverse) = out3 at l4 ⊢
                            have hib : k2 ≤ nb - 1 ∧ 1 < k2 := ⟨by (clear C hk ma mb sa sb h0 hl h firstOk exl mxl l0 ha1 hb1 ht W ey my go la lb za zb hm sm2 hkn h1 h2 hk0 e1 hgk l2 hia hab ex mx l3 hz hkn2 hz4 l4 h3 h4 hz2; omega), by (clear C hk ma mb sa sb h0 hl h firstOk exl mxl l0 ha1 hb1 ht W ey my go la lb za zb hm sm2 hkn h1 h2 hk0 e1 hgk l2 hia hab ex mx l3 hz hkn2 h3 h4 hk2 l4; lia)⟩
                            have h5 : ∀ j z, j < k2 → b[j]? = some z → kLt O K z x := fun j z q1 q3 => h3 j z (Nat.zero_le _) (by (clear C hk ma mb sa sb h0 hl h firstOk exl mxl l0 ha1 hb1 ht W ey my go la lb za zb hm sm2 hkn h1 h2 hk0 e1 hgk l2 hia hab ex mx l3 hz hkn2 q3 h3 h4 hk2 hz2 hz4 l4 hib; lia)) q3
                            refine wpS_bind (ask_elem ex ?_)
                            have l5 := HiI.pushA (na := na2 - 1) (by rw [show na2 - 1 + 1 = na2 by (clear C hk ma mb sa sb h0 hl h firstOk exl mxl l0 ha1 hb1 ht W ey my go la lb za zb hm sm2 hkn h1 h2 hk0 e1 hgk h3 h4 hk2 hz2 hz4 l4 hib h5 mx l3 hz hkn2 hab ex l2; lia)]; exact l4) ex fun z hz => by
                              obtain ⟨j, hj, ej⟩ := mem_take hz
                              exact KeyOrd.kle_of_klt (h5 j z hj ej)
                            by_cases hz3 : na2 - 1 = 0
                            · rw [if_pos (by simpa using hz3)]
                              exact wpS_pure (.inl ⟨_, _, rfl, sm2, l5.doneA hz3⟩)
                            · rw [if_neg (by simpa using hz3)]
                              split
                              · exact wpS_pure (.inr ⟨_, _, _, _, _, _, rfl, l5, by (clear C hk ma mb sa sb h0 hl h firstOk exl mxl l0 ha1 hb1 ht W ey my go la lb za zb hm sm2 hkn h1 h2 hk0 e1 hgk l2 hia hab ex mx l3 hz hkn2 h3 h4 hk2 hz2 hz4 l4 hib h5 l5; lia), by (clear C hk ma mb sa sb h0 hl h firstOk exl mxl l0 ha1 hb1 ht W ey my go la lb za zb hm sm2 hkn h1 h2 hk0 e1 hgk l2 hia hab ex mx l3 hz hkn2 l5 hz3 h3 h4 hk2 hz2 hz4 l4 h5; lia), by (clear C hk ma mb sa sb h0 hl h firstOk exl mxl l0 ha1 hb1 ht hm sm2 hkn h1 h2 hk0 e1 hgk h3 h4 hk2 hz2 hz4 l4 hib h5 l5 hz3 la lb za zb W ey hab ex mx l3 my l2 hz; lia), sm2⟩)
                              · exact wpS_pure ⟨_, _, _, _, _, _, rfl, l5, by (clear C hk ma mb sa sb h0 hl h firstOk exl mxl l0 ha1 hb1 ht W ey my go la lb za zb hm sm2 hkn h1 h2 hk0 e1 hgk l2 hia hab ex mx l3 hz hkn2 h3 h4 hk2 hz2 hz4 l4 hib h5 l5; lia), by (clear C hk ma mb sa sb h0 hl h firstOk exl mxl l0 ha1 hb1 ht W ey my go la lb za zb hm sm2 hkn h1 h2 hk0 e1 hgk l2 hia hab ex mx l3 hz hkn2 l5 hz3 h3 h4 hk2 hz2 hz4 l4 h5; lia), by (clear C hk ma mb sa sb h0 hl h firstOk exl mxl l0 ha1 hb1 ht hm sm2 hkn h1 h2 hk0 e1 hgk h3 h4 hk2 hz2 hz4 l4 hib h5 l5 hz3 la lb za zb W ey hab ex mx l3 my l2 hz; omega), sm2⟩
                      · rw [if_neg hk2]
                        have ek : k2 = nb - 1 := by (clear C hk ma mb sa sb h0 hl h firstOk exl mxl l0 ha1 hb1 ht W ey my go la lb za zb hm sm2 hkn h1 h2 hk0 e1 hgk l2 hia hab ex mx l3 h3 h4 hz; omega)
                        have l4 := l3
                        rw [← ek] at l4
                        rw [← ek]
                        have hib : k2 ≤ nb - 1 ∧ 1 < k2 := ⟨by (clear C hk ma mb sa sb h0 hl h firstOk exl mxl l0 ha1 hb1 ht W ey my go la lb za zb hm sm2 hkn h1 h2 hk0 e1 hgk l2 hia hab ex mx l3 hz hkn2 l4 h3 h4 hk2; lia), by (clear C hk ma mb sa sb h0 hl h firstOk exl mxl l0 ha1 hb1 ht hm sm2 hkn h1 h2 hk0 e1 hgk W ey my go l2 hia hab ex l4 za zb mx l3 h3 h4 la hkn2 hk2; lia)⟩
                        have h5 : ∀ j z, j < k2 → b[j]? = some z → kLt O K z x := fun j z q1 q3 => h3 j z (Nat.zero_le _) (by (clear C hk ma mb sa sb h0 hl h firstOk exl mxl l0 ha1 hb1 ht W ey my go la lb za zb hm sm2 hkn h1 h2 hk0 e1 hgk l2 hia hab ex mx l3 hz hkn2 h3 h4 hk2 ek l4 hib q3; lia)) q3
                        generalize (out2.push y) = out3 at l4 ⊢
                        refine wpS_bind (ask_elem ex ?_)
                        have l5 := HiI.pushA (na := na2 - 1) (by rw [show na2 - 1 + 1 = na2 by (clear C hk ma mb sa sb h0 hl h firstOk exl mxl l0 ha1 hb1 ht W ey my go la lb za zb hm sm2 hkn h1 h2 hk0 e1 hgk h3 h4 hk2 ek hib h5 l4 mx l3 hz hkn2 hab ex l2; lia)]; exact l4) ex fun z hz => by
                          obtain ⟨j, hj, ej⟩ := mem_take hz
                          exact KeyOrd.kle_of_klt (h5 j z hj ej)
                        by_cases hz3 : na2 - 1 = 0
                        · rw [if_pos (by simpa using hz3)]
                          exact wpS_pure (.inl ⟨_, _, rfl, sm2, l5.doneA hz3⟩)
                        · rw [if_neg (by simpa using hz3)]
                          split
                          · exact wpS_pure (.inr ⟨_, _, _, _, _, _, rfl, l5, by (clear C hk ma mb sa sb h0 hl h firstOk exl mxl l0 ha1 hb1 ht W ey my go la lb za zb hm sm2 hkn h1 h2 hk0 e1 hgk l2 hia hab ex mx l3 hz hkn2 h3 h4 hk2 ek hib h5 l4 l5; lia), by (clear C hk ma mb sa sb h0 hl h firstOk exl mxl l0 ha1 hb1 ht W ey my go la lb za zb hm sm2 hkn h1 h2 hk0 e1 hgk l2 hia hab ex mx l3 hz hkn2 hz3 h3 h4 hk2 ek l4 l5 h5; lia), by (clear C hk ma mb sa sb h0 hl h firstOk exl mxl l0 ha1 hb1 ht hm sm2 hkn h1 h2 hk0 e1 hgk h3 h4 hk2 ek hib h5 l4 l5 hz3 la lb za zb W ey hab ex mx l3 my l2 hz; lia), sm2⟩)
                          · exact wpS_pure ⟨_, _, _, _, _, _, rfl, l5, by (clear C hk ma mb sa sb h0 hl h firstOk exl mxl l0 ha1 hb1 ht W ey my go la lb za zb hm sm2 hkn h1 h2 hk0 e1 hgk l2 hia hab ex mx l3 hz hkn2 h3 h4 hk2 ek hib h5 l4 l5; lia), by (clear C hk ma mb sa sb h0 hl h firstOk exl mxl l0 ha1 hb1 ht W ey my go la lb za zb hm sm2 hkn h1 h2 hk0 e1 hgk l2 hia hab ex mx l3 hz hkn2 hz3 h3 h4 hk2 ek l4 l5 h5; lia), by (clear C hk ma mb sa sb h0 hl h firstOk exl mxl l0 ha1 hb1 ht hm sm2 hkn h1 h2 hk0 e1 hgk h3 h4 hk2 ek hib h5 l4 l5 hz3 la lb za zb W ey hab ex mx l3 my l2 hz; omega), sm2⟩
                · rw [if_neg hk0]
                  have l2 := W.li
                  have hia : na ≤ na ∧ 0 < na := ⟨Nat.le_refl _, by (clear C hk ma mb sa sb h0 hl h firstOk exl mxl l0 ha1 hb1 ht hm sm2 hkn h1 h2 hk0 l2 W ey my go za zb lb; omega)⟩
                  have hab : ∀ j z, j < na → a[j]? = some z → kLe O K z y := fun j z q1 q3 => h1 j z (Nat.zero_le _) (by (clear C hk ma mb sa sb h0 hl h firstOk exl mxl l0 ha1 hb1 ht W ey my go la lb za zb hm sm2 hkn h1 l2 hia h2 q3; lia)) q3
                  generalize hga : out = out2 at l2 ⊢
                  generalize hgi : na = na2 at l2 hia hab ⊢
                  have hx2 : ∃ x, a[na2 - 1]? = some x ∧ x ∈ a₀.toList := ma (na2 - 1) (Nat.zero_le _) (by (clear C hk ma mb sa sb h0 hl h firstOk exl mxl l0 ha1 hb1 ht l2 hia hab W ey my go hm sm2 hkn h1 la lb h2 hk0 zb hga; omega))
                  obtain ⟨x, ex, mx⟩ := hx2
                  refine wpS_bind (ask_elem ey ?_)
                  have l3 := HiI.pushB (nb := nb - 1) (by rw [show nb - 1 + 1 = nb by (clear C hk ma mb sa sb h0 hl h firstOk exl mxl l0 ha1 hb1 ht hm sm2 hkn h1 h2 hk0 hga hgi l2 hia hab ex mx W ey my go za zb la; lia)]; exact l2) ey fun z hz => by
                    obtain ⟨j, hj, ej⟩ := mem_take hz
                    exact hab j z hj ej
                  by_cases hz : nb - 1 = 1
                  · rw [if_pos (by simpa using hz)]
                    exact wpS_pure (.inl ⟨_, _, rfl, sm2, l3.first (by rw [hz]; exact firstOk _)⟩)
                  · rw [if_neg (by simpa using hz)]
                    refine wpS_bind (ask_elem ex ?_)
                    refine wpS_bind (gallop_left C (sm2.kind.trans hk) mx (mb.sub (Nat.zero_le _) (by (clear C hk ma mb sa sb h0 hl h firstOk exl mxl l0 ha1 hb1 ht hm sm2 hkn h1 h2 hk0 hga hgi l2 hia hab ex mx l3 hz W ey my go la lb za; lia))) (sb.sub (Nat.zero_le _) (by (clear C hk ma mb sa sb h0 hl h firstOk exl mxl l0 ha1 hb1 ht hm sm2 hkn h1 h2 hk0 hga hgi l2 hia hab ex mx l3 hz W ey my go la lb za; lia))) (by (clear C hk ma mb sa sb h0 hl h firstOk exl mxl l0 ha1 hb1 ht hm sm2 hkn h1 h2 hk0 hga hgi l2 hia hab ex mx l3 hz W ey my go za zb la; lia)) fun k2 hkn2 h3 h4 => ?_)
                    dsimp only
                    by_cases hk2 : nb - 1 - k2 > 0
                    · rw [if_pos hk2]
                      have l4 := l3.manyB (k := k2) (by (clear C hk ma mb sa sb h0 hl h firstOk exl mxl l0 ha1 hb1 ht W ey my go la lb za zb hm sm2 hkn h1 h2 hk0 hga hgi l2 hia hab ex mx l3 hz hkn2 h3 h4; omega)) fun u hu z hz => by
                        obtain ⟨j, hj1, hj2, ej⟩ := mem_dropTake hz
                        exact KeyOrd.kle_trans (srt_take' sa ex (by (clear C hk ma mb sa sb h0 hl h firstOk exl mxl l0 ha1 hb1 ht W ey my go la lb za zb hm sm2 hkn h1 h2 hk0 hga hgi l2 hia hab ex mx l3 hkn2 h3 h4 hk2 hu hz hj1 hj2 ej; omega)) hu) (h4 j z (by (clear C hk ma mb sa sb h0 hl h firstOk exl mxl l0 ha1 hb1 ht W ey my go la lb za zb hm sm2 hkn h1 h2 hk0 hga hgi l2 hia hab ex mx l3 hkn2 h3 h4 hk2 hu hz ej hj2; lia)) (by (clear C hk ma mb sa sb h0 hl h firstOk exl mxl l0 ha1 hb1 ht W ey my go la lb za zb hm sm2 hkn h1 h2 hk0 hga hgi l2 hia hab ex mx l3 hkn2 h3 h4 hk2 hu hz ej; omega)) ej)
                      by_cases hz2 : k2 = 1
                      · rw [if_pos (by simpa using hz2)]
                        exact wpS_pure (.inl ⟨_, _, rfl, sm2, l4.first (by rw [hz2]; exact firstOk _)⟩)
                      · rw [if_neg (by simpa using hz2)]
                        by_cases hz4 : k2 = 0
                        · rw [if_pos (by simpa using hz4)]
                          exact wpS_pure (.inl ⟨_, _, rfl, sm2, l4.doneB hz4⟩)
                        · rw [if_neg (by simpa using hz4)]
                          generalize (out2.push y ++ (b.extract k2 (nb - 1)).reverse) = out3 at l4 ⊢
                          have hib : k2 ≤ nb - 1 ∧ 1 < k2 := ⟨by (clear C hk ma mb sa sb h0 hl h firstOk exl mxl l0 ha1 hb1 ht W ey my go la lb za zb hm sm2 hkn h1 h2 hk0 hga hgi l2 hia hab ex mx l3 hz hkn2 hz4 l4 h3 h4 hz2; omega), by (clear C hk ma mb sa sb h0 hl h firstOk exl mxl l0 ha1 hb1 ht W ey my go la lb za zb hm sm2 hkn h1 h2 hk0 hga hgi l2 hia hab ex mx l3 hz hkn2 h3 h4 hk2 l4; lia)⟩
                          have h5 : ∀ j z, j < k2 → b[j]? = some z → kLt O K z x := fun j z q1 q3 => h3 j z (Nat.zero_le _) (by (clear C hk ma mb sa sb h0 hl h firstOk exl mxl l0 ha1 hb1 ht W ey my go la lb za zb hm sm2 hkn h1 h2 hk0 hga hgi l2 hia hab ex mx l3 hz hkn2 q3 h3 h4 hk2 hz2 hz4 l4 hib; lia)) q3
                          refine wpS_bind (ask_elem ex ?_)
                          have l5 := HiI.pushA (na := na2 - 1) (by rw [show na2 - 1 + 1 = na2 by (clear C hk ma mb sa sb h0 hl h firstOk exl mxl l0 ha1 hb1 ht W ey my go la lb za zb hm sm2 hkn h1 h2 hk0 hga hgi h3 h4 hk2 hz2 hz4 l4 hib h5 mx l3 hz hkn2 hab ex l2; lia)]; exact l4) ex fun z hz => by
                            obtain ⟨j, hj, ej⟩ := mem_take hz
                            exact KeyOrd.kle_of_klt (h5 j z hj ej)
                          by_cases hz3 : na2 - 1 = 0
                          · rw [if_pos (by simpa using hz3)]
                            exact wpS_pure (.inl ⟨_, _, rfl, sm2, l5.doneA hz3⟩)
                          · rw [if_neg (by simpa using hz3)]
                            split
                            · exact wpS_pure (.inr ⟨_, _, _, _, _, _, rfl, l5, by (clear C hk ma mb sa sb h0 hl h firstOk exl mxl l0 ha1 hb1 ht W ey my go la lb za zb hm sm2 hkn h1 h2 hk0 hga hgi l2 hia hab ex mx l3 hz hkn2 h3 h4 hk2 hz2 hz4 l4 hib h5 l5; lia), by (clear C hk ma mb sa sb h0 hl h firstOk exl mxl l0 ha1 hb1 ht W ey my go la lb za zb hm sm2 hkn h1 h2 hk0 hga hgi l2 hia hab ex mx l3 hz hkn2 l5 hz3 h3 h4 hk2 hz2 hz4 l4 h5; lia), by (clear C hk ma mb sa sb h0 hl h firstOk exl mxl l0 ha1 hb1 ht l2 hia hab ex mx l3 hz hkn2 l5 hz3 la lb za zb hm sm2 hkn h1 h3 h4 hk2 hz2 W ey h2 hk0 hz4 l4 my hga h5; lia), sm2⟩)
                            · exact wpS_pure ⟨_, _, _, _, _, _, rfl, l5, by (clear C hk ma mb sa sb h0 hl h firstOk exl mxl l0 ha1 hb1 ht W ey my go la lb za zb hm sm2 hkn h1 h2 hk0 hga hgi l2 hia hab ex mx l3 hz hkn2 h3 h4 hk2 hz2 hz4 l4 hib h5 l5; lia), by (clear C hk ma mb sa sb h0 hl h firstOk exl mxl l0 ha1 hb1 ht W ey my go la lb za zb hm sm2 hkn h1 h2 hk0 hga hgi l2 hia hab ex mx l3 hz hkn2 l5 hz3 h3 h4 hk2 hz2 hz4 l4 h5; lia), by (clear C hk ma mb sa sb h0 hl h firstOk exl mxl l0 ha1 hb1 ht l2 hia hab ex mx l3 hz hkn2 l5 hz3 la lb za zb hm sm2 hkn h1 h3 h4 hk2 hz2 W ey h2 hk0 hz4 l4 my hga h5; omega), sm2⟩
                    · rw [if_neg hk2]
                      have ek : k2 = nb - 1 := by (clear C hk ma mb sa sb h0 hl h firstOk exl mxl l0 ha1 hb1 ht W ey my go la lb za zb hm sm2 hkn h1 h2 hk0 hga hgi l2 hia hab ex mx l3 h3 h4 hz; omega)
                      have l4 := l3
                      rw [← ek] at l4
                      rw [← ek]
                      have hib : k2 ≤ nb - 1 ∧ 1 < k2 := ⟨by (clear C hk ma mb sa sb h0 hl h firstOk exl mxl l0 ha1 hb1 ht W ey my go la lb za zb hm sm2 hkn h1 h2 hk0 hga hgi l2 hia hab ex mx l3 hz hkn2 l4 h3 h4 hk2; lia), by (clear C hk ma mb sa sb h0 hl h firstOk exl mxl l0 ha1 hb1 ht hm sm2 hkn h1 h2 hk0 hga hgi W ey my go l2 hia hab ex l4 za zb mx l3 h3 h4 la hkn2 hk2; lia)⟩
                      have h5 : ∀ j z, j < k2 → b[j]? = some z → kLt O K z x := fun j z q1 q3 => h3 j z (Nat.zero_le _) (by (clear C hk ma mb sa sb h0 hl h firstOk exl mxl l0 ha1 hb1 ht W ey my go la lb za zb hm sm2 hkn h1 h2 hk0 hga hgi l2 hia hab ex mx l3 hz hkn2 h3 h4 hk2 ek l4 hib q3; lia)) q3
                      generalize (out2.push y) = out3 at l4 ⊢
                      refine wpS_bind (ask_elem ex ?_)
                      have l5 := HiI.pushA (na := na2 - 1) (by rw [show na2 - 1 + 1 = na2 by (clear C hk ma mb sa sb h0 hl h firstOk exl mxl l0 ha1 hb1 ht W ey my go la lb za zb hm sm2 hkn h1 h2 hk0 hga hgi h3 h4 hk2 ek hib h5 l4 mx l3 hz hkn2 hab ex l2; lia)]; exact l4) ex fun z hz => by
                        obtain ⟨j, hj, ej⟩ := mem_take hz
                        exact KeyOrd.kle_of_klt (h5 j z hj ej)
                      by_cases hz3 : na2 - 1 = 0
                      · rw [if_pos (by simpa using hz3)]
                        exact wpS_pure (.inl ⟨_, _, rfl, sm2, l5.doneA hz3⟩)
                      · rw [if_neg (by simpa using hz3)]
                        split
                        · exact wpS_pure (.inr ⟨_, _, _, _, _, _, rfl, l5, by (clear C hk ma mb sa sb h0 hl h firstOk exl mxl l0 ha1 hb1 ht W ey my go la lb za zb hm sm2 hkn h1 h2 hk0 hga hgi l2 hia hab ex mx l3 hz hkn2 h3 h4 hk2 ek hib h5 l4 l5; lia), by (clear C hk ma mb sa sb h0 hl h firstOk exl mxl l0 ha1 hb1 ht W ey my go la lb za zb hm sm2 hkn h1 h2 hk0 hga hgi l2 hia hab ex mx l3 hz hkn2 hz3 h3 h4 hk2 ek l4 l5 h5; lia), by (clear C hk ma mb sa sb h0 hl h firstOk exl mxl l0 ha1 hb1 ht l2 hia hab ex mx l3 hz hkn2 hz3 la lb za zb hm sm2 hkn h1 h3 h4 hk2 ek W ey h2 hk0 l4 l5 my hga h5; lia), sm2⟩)
                        · exact wpS_pure ⟨_, _, _, _, _, _, rfl, l5, by (clear C hk ma mb sa sb h0 hl h firstOk exl mxl l0 ha1 hb1 ht W ey my go la lb za zb hm sm2 hkn h1 h2 hk0 hga hgi l2 hia hab ex mx l3 hz hkn2 h3 h4 hk2 ek hib h5 l4 l5; lia), by (clear C hk ma mb sa sb h0 hl h firstOk exl mxl l0 ha1 hb1 ht W ey my go la lb za zb hm sm2 hkn h1 h2 hk0 hga hgi l2 hia hab ex mx l3 hz hkn2 hz3 h3 h4 hk2 ek l4 l5 h5; lia), by (clear C hk ma mb sa sb h0 hl h firstOk exl mxl l0 ha1 hb1 ht l2 hia hab ex mx l3 hz hkn2 hz3 la lb za zb hm sm2 hkn h1 h3 h4 hk2 ek W ey h2 hk0 l4 l5 my hga h5; omega), sm2⟩
end
end TS
namespace TS
open PySem PyProof.Rows
section
variable {β : Type}
def wr (xs : Array β) (o : Nat) (l : List β) (n : Nat) : Array β := (l.zipIdx n).foldl (fun a p => a.setIfInBounds (o + p.2) p.1) xs
theorem wr_get (o : Nat) : ∀ (l : List β) (n : Nat) (xs : Array β) (k : Nat), o + n + l.length ≤ xs.size → (wr xs o l n)[k]? = if o + n ≤ k ∧ k < o + n + l.length then l[k - (o + n)]? else xs[k]?
  | [], n, xs, k, _ => by
    show xs[k]? = _
    rw [if_neg (by simp)]
  | x :: l, n, xs, k, h => by
    have e : wr xs o (x :: l) n = wr (xs.setIfInBounds (o + n) x) o l (n + 1) := by
      unfold wr
      rw [List.zipIdx_cons, List.foldl_cons]
    rw [List.length_cons] at h
    rw [e, wr_get o l (n + 1) _ k (by rw [Array.size_setIfInBounds]; lia), List.length_cons]
    by_cases h1 : o + n = k
    · subst h1
      rw [if_neg (by lia), if_pos (by lia), Array.getElem?_setIfInBounds_self_of_lt (by lia)]
      simp
    · by_cases h2 : o + (n + 1) ≤ k ∧ k < o + (n + 1) + l.length
      · rw [if_pos h2, if_pos (by lia)]
        obtain ⟨d, hd⟩ : ∃ d, k - (o + n) = d + 1 := ⟨k - (o + n) - 1, by lia⟩
        rw [hd, show k - (o + (n + 1)) = d by (clear h e h1 h2; omega)]
        rfl
      · rw [if_neg h2, if_neg (by lia), Array.getElem?_setIfInBounds_ne h1]
theorem wr_list (xs : Array β) (o : Nat) (l : List β) (h : o + l.length ≤ xs.size) : (wr xs o l 0).toList = xs.toList.take o ++ (l ++ xs.toList.drop (o + l.length)) := by
  apply List.ext_getElem?
  intro k
  rw [Array.getElem?_toList, wr_get o l 0 xs k (by omega)]
  have hx : xs.toList.length = xs.size := by simp
  by_cases h1 : k < o
  · rw [if_neg (by lia), List.getElem?_append_left (by rw [List.length_take]; lia), List.getElem?_take, if_pos h1, Array.getElem?_toList]
  · have e1 : (xs.toList.take o).length = o := by rw [List.length_take]; lia
    rw [List.getElem?_append_right (by lia), e1]
    by_cases h2 : k < o + l.length
    · rw [if_pos (by lia), List.getElem?_append_left (by lia)]
      rfl
    · rw [if_neg (by (clear h hx h1 e1; lia)), List.getElem?_append_right (by (clear h hx h1 e1; omega)), List.getElem?_drop, Array.getElem?_toList]
      congr 1
      (clear h hx h1 e1; omega)
theorem wr_perm (xs : Array β) (o : Nat) (l : List β) (h : o + l.length ≤ xs.size) (hp : l.Perm ((xs.toList.drop o).take l.length)) : (wr xs o l 0).Perm xs := by
  rw [Array.perm_iff_toList_perm, wr_list xs o l h]
  have e : xs.toList = xs.toList.take o ++ ((xs.toList.drop o).take l.length ++ xs.toList.drop (o + l.length)) := by
    rw [← List.drop_drop, List.take_append_drop, List.take_append_drop]
  exact (List.Perm.append_left _ (List.Perm.append_right _ hp)).trans (List.Perm.of_eq e.symm)
end

section
variable {prog : Program} {w : World} {A : Around} {E : Value → Shared → Prop} {s : Shared} {kd : SortKind} {O : KeyOrd} {K : Keyed → O.α} {a₀ : Array Keyed}
structure Base (kd : SortKind) (a₀ : Array Keyed) (st : SortSt) : Prop where
  perm : (arrOf st).Perm a₀
  kind : kindOf st = kd
  failed : failedOf st = none
theorem Base.size {st : SortSt} (h : Base kd a₀ st) : (arrOf st).size = a₀.size := h.perm.size_eq
theorem Base.mem {st : SortSt} (h : Base kd a₀ st) : Mem a₀ (arrOf st) 0 (arrOf st).size := fun i _ hi =>
  ⟨(arrOf st)[i], getElem?_pos _ i hi, (Array.perm_iff_toList_perm.mp h.perm).mem_iff.mp (by simp)⟩
theorem wpS_set {M : Model} {σ : Type} {x : σ} {Q : PUnit → σ → Prop} {st : σ} (h : Q ⟨⟩ x) : wpS M A E s (set x : StateT σ Sem PUnit) Q st := by
  unfold wpS
  rw [StateT.run_set]
  exact wpAny_pure ⟨rfl, h⟩

theorem ext_at {xs : Array Keyed} {i j k : Nat} (h : k < j - i) (hj : j ≤ xs.size) : (xs.extract i j)[k]? = xs[i + k]? := by
  rw [Array.getElem?_extract]
  rw [if_pos (by lia)]
theorem ext_mem {xs : Array Keyed} {i j : Nat} (m : Mem a₀ xs 0 xs.size) (hj : j ≤ xs.size) : Mem a₀ (xs.extract i j) 0 (xs.extract i j).size := fun k _ hk => by
  have hs : (xs.extract i j).size = j - i := by rw [Array.size_extract]; lia
  rw [hs] at hk
  rw [ext_at hk hj]
  exact m (i + k) (Nat.zero_le _) (by lia)
theorem ext_srt {xs : Array Keyed} {i j : Nat} (m : Srt O K xs i j) (hj : j ≤ xs.size) : Srt O K (xs.extract i j) 0 (xs.extract i j).size := fun a b x y _ hab hb ex ey => by
  have hs : (xs.extract i j).size = j - i := by rw [Array.size_extract]; (clear ex ey hab hb m; lia)
  rw [hs] at hb
  rw [ext_at (by (clear ex ey hs m hj; lia)) hj] at ex
  rw [ext_at hb hj] at ey
  exact m _ _ x y (by (clear m hj hab hb ex ey hs; lia)) (by (clear ex ey hs m hj hb; lia)) (by (clear ex ey hs m hj hab; omega)) ex ey

theorem merged_ok {arr : Array Keyed} {sa na nb k nc : Nat} {M : Array Keyed} (hsz : sa + na + nb ≤ arr.size) (hkn : k < na) (hnc : nc ≤ nb) (hn0 : 0 < nb) (s1 : Srt O K arr sa (sa + na)) (s2 : Srt O K arr (sa + na) (sa + na + nb))
    (h1 : ∀ j x y, sa ≤ j → j < sa + k → arr[j]? = some x → arr[sa + na]? = some y → kLe O K x y) (h2 : ∀ j x z, sa + na + nc ≤ j → j < sa + na + nb → arr[j]? = some x → arr[sa + na - 1]? = some z → kLe O K z x)
    (mg : Mg (kLe O K) (arr.extract (sa + k) (sa + na)).toList (arr.extract (sa + na) (sa + na + nc)).toList M.toList) :
    (wr arr (sa + k) M.toList 0).Perm arr ∧ (∀ i, i < sa ∨ sa + na + nb ≤ i → (wr arr (sa + k) M.toList 0)[i]? = arr[i]?) ∧ Srt O K (wr arr (sa + k) M.toList 0) sa (sa + na + nb) := by
  obtain ⟨mp, ms⟩ := mg
  have hlen : M.toList.length = na - k + nc := by
    rw [mp.length_eq, List.length_append, ext_list, ext_list, List.length_take, List.length_take, List.length_drop, List.length_drop, Array.length_toList]
    (clear mp ms s1 s2 h1 h2 hkn hn0; lia)
  have hfit : sa + k + M.toList.length ≤ arr.size := by rw [hlen]; (clear mp ms hlen s1 s2 h1 h2 hn0; lia)
  have eXY : (arr.extract (sa + k) (sa + na)).toList ++ (arr.extract (sa + na) (sa + na + nc)).toList = (arr.toList.drop (sa + k)).take M.toList.length := by
    rw [ext_list, ext_list, hlen, show sa + na - (sa + k) = na - k by (clear hsz hkn hnc hn0 s1 s2 h1 h2 mp ms hlen hfit; lia), show sa + na + nc - (sa + na) = nc by (clear hsz hkn hnc hn0 s1 s2 h1 h2 mp ms hlen hfit; lia), List.take_add, List.drop_drop, show sa + k + (na - k) = sa + na by (clear mp ms hlen hfit s1 s2 h1 h2 hnc hn0 hsz; lia)]
  have get := fun i => wr_get (sa + k) M.toList 0 arr i (by (clear hsz hkn hnc hn0 s1 s2 h1 h2 eXY mp ms hlen; omega))
  obtain ⟨y0, ey0⟩ : ∃ y, arr[sa + na]? = some y := ⟨_, getElem?_pos arr (sa + na) (by (clear mp ms hlen hfit eXY get s1 s2 h1 h2 hkn hnc; lia))⟩
  obtain ⟨z0, ez0⟩ : ∃ z, arr[sa + na - 1]? = some z := ⟨_, getElem?_pos arr (sa + na - 1) (by (clear mp ms hlen hfit eXY get ey0 s1 s2 h1 h2 hnc hn0; lia))⟩
  have memM : ∀ x ∈ M.toList, (∃ j, sa + k ≤ j ∧ j < sa + na ∧ arr[j]? = some x) ∨ ∃ j, sa + na ≤ j ∧ j < sa + na + nc ∧ arr[j]? = some x := fun x hx => by
    rcases List.mem_append.mp (mp.mem_iff.mp hx) with q | q
    · rw [ext_list] at q
      obtain ⟨j, a1, a2, a3⟩ := mem_dropTake q
      exact .inl ⟨j, a1, by (clear hsz hkn hnc hn0 s1 s2 h1 h2 mp ms hlen hfit eXY get ey0 ez0 a3 hx q; omega), a3⟩
    · rw [ext_list] at q
      obtain ⟨j, a1, a2, a3⟩ := mem_dropTake q
      exact .inr ⟨j, a1, by (clear hsz hkn hnc hn0 s1 s2 h1 h2 mp ms hlen hfit eXY get ey0 ez0 a3 hx q a1; omega), a3⟩
  refine ⟨wr_perm arr (sa + k) M.toList hfit (mp.trans (List.Perm.of_eq eXY)), fun i hi => ?_, fun i j x y hi hij hj ex ey => ?_⟩
  · rw [get i, if_neg (by (clear s1 s2 h1 h2 eXY get ey0 ez0 mp ms hsz hn0 hfit memM; lia))]
  · rw [get i] at ex
    rw [get j] at ey
    -- the low part, the merge, the high part
    have lowM : ∀ i x y, sa ≤ i → i < sa + k → arr[i]? = some x → y ∈ M.toList → kLe O K x y := fun i x y q1 q2 q3 q4 => by
      rcases memM y q4 with ⟨j, b1, b2, b3⟩ | ⟨j, b1, b2, b3⟩
      · exact s1 i j x y q1 (by (clear hsz hkn hnc hn0 s1 s2 h1 h2 mp ms hlen hfit eXY get ey0 ez0 memM hi hij hj b3 ex ey q3 q4 q1 b2; lia)) b2 q3 b3
      · exact KeyOrd.kle_trans (h1 i x y0 q1 q2 q3 ey0) (s2 _ j y0 y (Nat.le_refl _) b1 (by (clear mp ms hlen hfit eXY get ey0 ez0 memM hi hij hj ex ey q1 q2 s1 s2 h1 h2 b3 hsz hkn q3 q4 hn0 b1; lia)) ey0 b3)
    have mHigh : ∀ j x y, sa + na + nc ≤ j → j < sa + na + nb → arr[j]? = some y → x ∈ M.toList → kLe O K x y := fun j x y q1 q2 q3 q4 => by
      rcases memM x q4 with ⟨i, b1, b2, b3⟩ | ⟨i, b1, b2, b3⟩
      · exact KeyOrd.kle_trans (s1 i (sa + na - 1) x z0 (by (clear hsz hkn hnc hn0 s1 s2 h1 h2 mp ms hlen hfit eXY get ey0 ez0 memM hi hij hj ex ey lowM q1 b2 b3 q2 q3 q4; lia)) (by (clear hsz hkn hnc hn0 s1 s2 h1 h2 mp ms hlen hfit eXY get ey0 ez0 memM hi hij hj ex ey lowM q1 q2 q3 q4 b1 b3; omega)) (by (clear hsz hkn hnc hn0 s1 s2 h1 h2 mp ms hlen hfit eXY get ey0 ez0 memM hi hij hj ex ey lowM q1 q2 q3 q4 b1 b3; omega)) b3 ez0) (h2 j y z0 q1 q2 q3 ez0)
      · exact s2 i j x y b1 (by (clear hsz hkn hnc hn0 s1 s2 h1 h2 mp ms hlen hfit eXY get ey0 ez0 memM hi hij hj q2 q3 q4 b1 ex ey lowM b3; lia)) q2 b3 q3
    by_cases c1 : i < sa + k
    · rw [if_neg (by (clear hsz hkn hnc hn0 s1 s2 h1 h2 mp ms hlen hfit eXY get ey0 ez0 memM hi hij hj ex ey lowM mHigh; lia))] at ex
      by_cases c2 : j < sa + k
      · rw [if_neg (by (clear hsz hkn hnc hn0 s1 s2 h1 h2 mp ms hlen hfit eXY get ey0 ez0 memM hi hij hj ex ey lowM mHigh c1; lia))] at ey
        exact s1 i j x y hi hij (by (clear mp ms hlen hfit eXY get ey0 ez0 memM hi hij hj ex ey lowM mHigh s1 s2 h1 h2 hnc hn0 hsz c1; lia)) ex ey
      · by_cases c3 : j < sa + na + nc
        · rw [if_pos (by rw [hlen]; (clear hsz hkn hnc hn0 s1 s2 h1 h2 mp ms hlen hfit eXY get ey0 ez0 memM hi hij hj ex ey lowM mHigh c1; lia))] at ey
          exact lowM i x y hi c1 ex (List.mem_of_getElem? ey)
        · rw [if_neg (by rw [hlen]; (clear mp ms hlen hfit eXY get ey0 ez0 memM hi hij hj ex ey lowM mHigh s1 s2 h1 h2 hnc hn0 c1 c2 hsz; lia))] at ey
          exact KeyOrd.kle_trans (h1 i x y0 hi c1 ex ey0) (s2 _ j y0 y (Nat.le_refl _) (by (clear hsz hkn hnc hn0 s1 s2 h1 h2 mp ms hlen hfit eXY get ey0 ez0 memM hi hij hj ex ey lowM mHigh c1 c2; lia)) hj ey0 ey)
    · by_cases c3 : i < sa + na + nc
      · rw [if_pos (by rw [hlen]; (clear hsz hkn hnc hn0 s1 s2 h1 h2 mp ms hlen hfit eXY get ey0 ez0 memM hi hij hj ex ey lowM mHigh; lia))] at ex
        by_cases c4 : j < sa + na + nc
        · rw [if_pos (by rw [hlen]; (clear hsz hkn hnc hn0 s1 s2 h1 h2 mp ms hlen hfit eXY get ey0 ez0 ex ey lowM mHigh memM hi hj c3; lia))] at ey
          by_cases e : i = j
          · subst e
            rw [ex] at ey
            cases ey
            exact KeyOrd.kle_refl _
          · obtain ⟨g1, g2⟩ := List.getElem?_eq_some_iff.mp ex
            obtain ⟨g3, g4⟩ := List.getElem?_eq_some_iff.mp ey
            have := List.pairwise_iff_getElem.mp ms _ _ g1 g3 (by (clear hsz hkn hnc hn0 s1 s2 h1 h2 mp ms hlen hfit eXY get ey0 ez0 ex ey lowM mHigh g1 g2 g3 g4 memM hi hj c3 c4; lia))
            rw [g2, g4] at this
            exact this
        · rw [if_neg (by rw [hlen]; (clear mp ms hlen hfit eXY get ey0 ez0 memM hi hij hj ex ey lowM mHigh s1 s2 h1 h2 hnc hn0 c1 c3 hsz; lia))] at ey
          exact mHigh j x y (by (clear hsz hkn hnc hn0 s1 s2 h1 h2 mp ms hlen hfit eXY get ey0 ez0 memM hi hij hj ex ey lowM mHigh c1 c3; lia)) hj ey (List.mem_of_getElem? ex)
      · rw [if_neg (by rw [hlen]; (clear mp ms hlen hfit eXY get ey0 ez0 memM hi hij hj ex ey lowM mHigh s1 s2 h1 h2 hnc hn0 hsz c1; lia))] at ex
        rw [if_neg (by rw [hlen]; (clear mp ms hlen hfit eXY get ey0 ez0 s1 s2 h1 h2 ex ey lowM mHigh hnc hn0 memM hi hsz hj c1; lia))] at ey
        exact s2 i j x y (by (clear hsz hkn hnc hn0 s1 s2 h1 h2 mp ms hlen hfit eXY get ey0 ez0 memM hi hij hj ex ey lowM mHigh c1; lia)) hij hj ex ey

def mergeAtT : Nat → StateT SortSt Sem Bool := sortPriv% PySem.Builtin.mergeAt
theorem ask_mergeAt (C : Asks prog w A s kd O K a₀) {st : SortSt} {i sa na nb pw pw2 : Nat} {Q : Bool → SortSt → Prop} (hB : Base kd a₀ st) (e1 : (pendingOf st)[i]? = some (sa, na, pw)) (e2 : (pendingOf st)[i + 1]? = some (sa + na, nb, pw2))
    (n1 : 0 < na) (n2 : 0 < nb) (hsz : sa + na + nb ≤ a₀.size) (s1 : Srt O K (arrOf st) sa (sa + na)) (s2 : Srt O K (arrOf st) (sa + na) (sa + na + nb))
    (h : ∀ st', Base kd a₀ st' → pendingOf st' = ((pendingOf st).setIfInBounds i (sa, na + nb, pw)).eraseIdxIfInBounds (i + 1) → (∀ j, j < sa ∨ sa + na + nb ≤ j → (arrOf st')[j]? = (arrOf st)[j]?) → Srt O K (arrOf st') sa (sa + na + nb) → Q true st') :
    wpS (model prog w) A E s (mergeAtT i) Q st := by
  have hz : (arrOf st).size = a₀.size := hB.size
  refine wpS_bind (wpS_get ?_)
  have em : ((pendingOf st)[i]?, (pendingOf st)[i + 1]?) = (some (sa, na, pw), some (sa + na, nb, pw2)) := by rw [e1, e2]
  dsimp only
  rw [e1, e2]
  dsimp only
  refine wpS_bind (wpS_set ?_)
  have hm := hB.mem
  obtain ⟨y, ey, my⟩ := hm (sa + na) (Nat.zero_le _) (by (clear C hB e1 e2 hm s2 h n1 s1 em; lia))
  refine wpS_bind (ask_elem ey ?_)
  refine wpS_bind (gallop_right C (st := _) hB.kind my (hm.sub (Nat.zero_le _) (by (clear C hB e1 e2 hm ey my n1 n2 s2 h s1 em; lia))) s1 n1 fun k hkn h1 h2 => ?_)
  dsimp only
  by_cases c1 : na - k = 0
  · rw [if_pos (by simpa using c1)]
    refine wpS_pure (h _ ⟨hB.perm, hB.kind, hB.failed⟩ rfl (fun _ _ => rfl) fun i j x z hi hij hj ex ez => ?_)
    by_cases c2 : j < sa + na
    · exact s1 i j x z hi hij c2 ex ez
    · by_cases c3 : i < sa + na
      · exact KeyOrd.kle_trans (h1 i x hi (by (clear C hB e1 e2 n1 n2 hsz s1 s2 h hz em hm ey my hkn hij hj ex ez h1 h2 hi c2; omega)) ex) (s2 _ j y z (Nat.le_refl _) (by (clear C hB e1 e2 n1 n2 hsz s1 s2 h hz em hm ey my hkn h1 h2 c1 hi hij hj ex ez c3; lia)) hj ey ez)
      · exact s2 i j x z (by (clear C hB e1 e2 n1 n2 hsz s1 s2 h hz em hm ey my hkn h1 h2 c1 hi hij hj ex ez c2; lia)) hij hj ex ez
  · rw [if_neg (by simpa using c1)]
    obtain ⟨xl, exl, mxl⟩ := hm (sa + na - 1) (Nat.zero_le _) (by (clear h1 h2 c1 C hB e1 e2 hm ey my hkn s2 h n1 s1 em; omega))
    refine wpS_bind (ask_elem (x := xl) (by rw [show sa + k + (na - k) - 1 = sa + na - 1 by (clear C hB e1 e2 n1 n2 hsz s1 s2 h hz em hm ey my hkn mxl h1 h2 exl; lia)]; exact exl) ?_)
    refine wpS_bind (gallop_left C (st := _) hB.kind mxl (hm.sub (Nat.zero_le _) (by (clear h1 h2 c1 exl mxl C hB e1 e2 hm ey my hkn n1 n2 s2 h s1 em; lia))) s2 (by (clear s2 h hz em hm ey my hkn h1 h2 c1 exl mxl C hB e1 e2 hsz s1 n1; omega)) fun nc hnc h3 h4 => ?_)
    dsimp only
    by_cases c4 : nc = 0
    · rw [if_pos (by simpa using c4)]
      refine wpS_pure (h _ ⟨hB.perm, hB.kind, hB.failed⟩ rfl (fun _ _ => rfl) fun i j x z hi hij hj ex ez => ?_)
      by_cases c2 : j < sa + na
      · exact s1 i j x z hi hij c2 ex ez
      · by_cases c3 : i < sa + na
        · exact KeyOrd.kle_trans (s1 i (sa + na - 1) x xl hi (by (clear C hB e1 e2 n1 n2 hsz s1 s2 h hz em hm ey my hkn h1 h2 c1 exl mxl hnc h3 h4 c4 hi hij hj ex ez c2; omega)) (by (clear C hB e1 e2 n1 n2 hsz s1 s2 h hz em hm ey my hkn h1 h2 c1 exl mxl hnc h3 h4 c4 hi hij hj ex ez c2; omega)) ex exl) (h4 j z (by (clear C hB e1 e2 n1 n2 hsz s1 s2 h hz em hm ey my hkn h1 h2 c1 exl mxl hnc h3 h4 hij hj ex ez hi c3; lia)) hj ez)
        · exact s2 i j x z (by (clear C hB e1 e2 n1 n2 hsz s1 s2 h hz em hm ey my hkn h1 h2 c1 exl mxl hnc h3 h4 c4 hi hij hj ex ez c2; lia)) hij hj ex ez
    · rw [if_neg (by simpa using c4)]
      have mX := ext_mem (i := sa + k) (j := sa + na) hm (by (clear h1 h2 c1 exl mxl hnc h3 h4 c4 C hB e1 e2 hm ey my hkn n1 n2 s2 h s1 em; lia))
      have mY := ext_mem (i := sa + na) (j := sa + na + nc) hm (by (clear c4 mX C hB e1 e2 hm ey my hkn h1 h2 c1 exl n1 n2 s2 h h3 h4 s1 em mxl; lia))
      have sX : Srt O K ((arrOf st).extract (sa + k) (sa + na)) 0 _ := ext_srt (s1.sub (by (clear C hB e1 e2 n1 n2 hsz s1 s2 h hz em hm ey my hkn h1 h2 c1 exl mxl hnc h3 h4 c4 mX mY; lia)) (Nat.le_refl _)) (by (clear h1 h2 c1 exl mxl hnc h3 h4 c4 mX mY C hB e1 e2 hm ey my hkn n1 n2 s2 h s1 em; lia))
      have sY : Srt O K ((arrOf st).extract (sa + na) (sa + na + nc)) 0 _ := ext_srt (s2.sub (Nat.le_refl _) (by (clear C hB e1 e2 n1 n2 hsz s1 s2 h hz em hm ey my hkn c4 mX mY sX h1 h2 c1 exl h3 h4 mxl; lia))) (by (clear c4 mX mY sX C hB e1 e2 hm ey my hkn h1 h2 c1 exl n1 n2 s2 h h3 h4 s1 em mxl; lia))
      have zX : ((arrOf st).extract (sa + k) (sa + na)).size = na - k := by rw [Array.size_extract]; (clear h1 h2 c1 exl mxl hnc h3 h4 c4 mX mY sX sY C hB e1 e2 hm ey my hkn n1 n2 s2 h s1 em; lia)
      have zY : ((arrOf st).extract (sa + na) (sa + na + nc)).size = nc := by rw [Array.size_extract]; (clear c4 mX mY sX sY zX C hB e1 e2 hm ey my hkn h1 h2 c1 exl n1 n2 s2 h h3 h4 s1 em mxl; lia)
      have f0 : ∀ x z, ((arrOf st).extract (sa + na) (sa + na + nc))[0]? = some x → ((arrOf st).extract (sa + k) (sa + na))[0]? = some z → kLt O K x z := fun x z ex ez => by
        rw [ext_at (by (clear C hB e1 e2 n1 n2 hsz s1 s2 h hz em hm ey my hkn h1 h2 c1 exl mxl hnc h3 h4 ez sY zX zY ex mY sX mX; lia)) (by (clear c4 mX mY sX sY zX zY ex ez C hB e1 e2 hm ey my hkn h1 h2 c1 exl n1 n2 s2 h h3 h4 s1 em mxl; lia))] at ex
        rw [ext_at (by (clear C hB e1 e2 n1 n2 hsz s1 s2 h hz em hm ey my hkn c4 mX mY sX sY zX zY ex ez mxl hnc h3 h4 h1 h2 exl; lia)) (by (clear h1 h2 c1 exl mxl hnc h3 h4 c4 mX mY sX sY zX zY ex ez C hB e1 e2 hm ey my hkn n1 n2 s2 h s1 em; lia))] at ez
        rw [Nat.add_zero, ey] at ex
        cases ex
        exact h2 _ z (by (clear C hB e1 e2 n1 n2 hsz s1 s2 h hz em hm ey my hkn h1 h2 c1 exl mxl hnc h3 h4 c4 mX mY sX sY zX zY ez; lia)) (by (clear C hB e1 e2 n1 n2 hsz s1 s2 h hz em hm ey my hkn c4 mX mY sX sY zX zY ez mxl hnc h3 h4 h1 h2 exl; lia)) ez
      have fl : ∀ x z, z ∈ ((arrOf st).extract (sa + na) (sa + na + nc)).toList → ((arrOf st).extract (sa + k) (sa + na))[((arrOf st).extract (sa + k) (sa + na)).size - 1]? = some x → kLe O K z x := fun x z hz ex => by
        rw [zX, ext_at (by (clear C hB e1 e2 n1 n2 hsz s1 s2 h em hm ey my hkn h1 mX mY sX sY zX zY f0 hz ex hnc h3 h4 c4 exl mxl h2; lia)) (by (clear s2 h em hm ey my hkn h1 h2 c1 exl mxl hnc h3 h4 c4 mX mY sX sY zX zY f0 hz ex C hB e1 e2 n1 n2 s1; lia)), show sa + k + (na - k - 1) = sa + na - 1 by (clear C hB e1 e2 n1 n2 hsz s1 s2 h em hm ey my hkn h1 mX mY sX sY zX zY f0 hz ex hnc h3 h4 c4 exl mxl h2; lia), exl] at ex
        cases ex
        rw [ext_list] at hz
        obtain ⟨j, q1, q2, q3⟩ := mem_dropTake hz
        exact KeyOrd.kle_of_klt (h3 j z q1 (by (clear C hB e1 e2 n1 n2 hsz s1 s2 h em hm ey my hkn h1 h2 c1 exl mxl hnc h3 h4 c4 mX mY sX sY zX zY f0 hz q3 q1; lia)) q3)
      have pX : 0 < ((arrOf st).extract (sa + k) (sa + na)).size := by rw [zX]; (clear C hB e1 e2 n1 n2 hsz s1 s2 h hz em hm ey my hkn c4 mX mY sX sY zX zY f0 fl mxl hnc h3 h4 h1 h2 exl; lia)
      have pY : 0 < ((arrOf st).extract (sa + na) (sa + na + nc)).size := by rw [zY]; (clear C hB e1 e2 n1 n2 hsz s1 s2 h hz em hm ey my hkn h1 h2 c1 exl mxl hnc h3 h4 fl pX sY zX zY f0 mY sX mX; lia)
      have fin : ∀ (M : Array Keyed) (st' : SortSt) (p' : Array (Nat × Nat × Nat)), p' = ((pendingOf st).setIfInBounds i (sa, na + nb, pw)).eraseIdxIfInBounds (i + 1) → SameSt (SortSt.mk' (kindOf st) (arrOf st) p' (gallopOf st) (failedOf st)) st' →
          Mg (kLe O K) ((arrOf st).extract (sa + k) (sa + na)).toList ((arrOf st).extract (sa + na) (sa + na + nc)).toList M.toList →
          Q (failedOf st').isNone (SortSt.mk' (kindOf st') (wr (arrOf st') (sa + k) M.toList 0) (pendingOf st') (gallopOf st') (failedOf st')) := fun M st' p' ep sm mg => by
        obtain ⟨p1, p2, p3⟩ := merged_ok (by (clear h1 h2 c1 exl mxl hnc h3 h4 c4 mX mY sX sY zX zY f0 fl pX pY ep sm mg C hB e1 e2 hm ey my hkn n1 n2 s2 h s1 em; lia)) (by (clear C hB e1 e2 n1 n2 hsz s1 s2 h hz em hm ey my hkn h1 h2 c1 exl mxl hnc h3 h4 c4 mX mY sX sm mg zY f0 pY ep sY fl; omega)) hnc n2 s1 s2 (fun j x y' q1 q2 q3 q4 => by rw [ey] at q4; cases q4; exact h1 j x q1 q2 q3) (fun j x z q1 q2 q3 q4 => by rw [exl] at q4; cases q4; exact h4 j x q1 q2 q3) mg
        have hf : failedOf st' = none := sm.failed.trans hB.failed
        have ha : arrOf st' = arrOf st := sm.arr
        have hp : pendingOf st' = p' := sm.pend
        rw [hf, ha]
        exact h _ ⟨p1.trans hB.perm, sm.kind.trans hB.kind, rfl⟩ (hp.trans ep) p2 p3
      by_cases c5 : na - k ≤ nc
      · rw [if_pos c5]
        refine wpS_bind (ask_mergeLo C (st := _) hB.kind mX mY pX pY sX sY f0 fl fun M st' sm mg => ?_)
        exact wpS_bind (wpS_modify (wpS_bind (wpS_get (wpS_pure (fin M st' _ rfl sm mg)))))
      · rw [if_neg c5]
        refine wpS_bind (ask_mergeHi C (st := _) hB.kind mX mY pX pY sX sY f0 fl fun M st' sm mg => ?_)
        exact wpS_bind (wpS_modify (wpS_bind (wpS_get (wpS_pure (fin M st' _ rfl sm mg)))))
end
end TS
namespace TS
open PySem PyProof.Rows
section
variable {prog : Program} {w : World} {A : Around} {E : Value → Shared → Prop} {s : Shared} {kd : SortKind} {O : KeyOrd} {K : Keyed → O.α} {a₀ : Array Keyed}
def KX (K : Keyed → O.α) (xs : Array Keyed) (i : Nat) : O.α := K (xs.getD i (Value.none, Value.none))
theorem KX_congr {xs ys : Array Keyed} {i j : Nat} (h : xs[i]? = ys[j]?) : KX K xs i = KX K ys j := by unfold KX; rw [Array.getD_eq_getD_getElem?, Array.getD_eq_getD_getElem?, h]
theorem KX_at {xs : Array Keyed} {i : Nat} {x : Keyed} (h : xs[i]? = some x) : KX K xs i = K x := by unfold KX; rw [Array.getD_eq_getD_getElem?, h]; rfl
theorem KX_mirror {xs : Array Keyed} {i j : Nat} (hj : j ≤ xs.size) (k : Nat) :
    KX K (mirror xs i j ((j - i) / 2)) k = if i ≤ k ∧ k < j then KX K xs (i + j - 1 - k) else KX K xs k := by
  have e := getElem?_mirror_all (i := i) hj k
  split
  · rename_i h1; rw [if_pos h1] at e; exact KX_congr e
  · rename_i h1; rw [if_neg h1] at e; exact KX_congr e
theorem KX_mirror_equal {xs : Array Keyed} {i j : Nat} (hj : j ≤ xs.size) (heq : ∀ k, i ≤ k → k < j → KX K xs k = KX K xs (j - 1)) (k : Nat) :
    KX K (mirror xs i j ((j - i) / 2)) k = KX K xs k := by
  rw [KX_mirror hj]
  split
  · rw [heq _ (by omega) (by omega), heq k (by lia) (by lia)]
  · rfl
def Up (K : Keyed → O.α) (xs : Array Keyed) (lo hi : Nat) : Prop := ∀ i j, lo ≤ i → i ≤ j → j < hi → O.kle (KX K xs i) (KX K xs j)
def Dn (K : Keyed → O.α) (xs : Array Keyed) (lo hi : Nat) : Prop := ∀ i j, lo ≤ i → i ≤ j → j < hi → O.kle (KX K xs j) (KX K xs i)
theorem Up.srt {xs : Array Keyed} {lo hi : Nat} (h : Up K xs lo hi) : Srt O K xs lo hi := fun i j x y a b c ex ey => by
  have := h i j a b c
  rw [KX_at ex, KX_at ey] at this
  exact this
structure Kp (kd : SortKind) (a₀ : Array Keyed) (lo : Nat) (st st' : SortSt) : Prop where
  base : Base kd a₀ st'
  pend : pendingOf st' = pendingOf st
  low : ∀ j, j < lo → (arrOf st')[j]? = (arrOf st)[j]?
theorem Kp.refl {lo : Nat} {st : SortSt} (h : Base kd a₀ st) : Kp kd a₀ lo st st := ⟨h, rfl, fun _ _ => rfl⟩
theorem Kp.mirror {lo i j : Nat} {st st' : SortSt} (h : Kp kd a₀ lo st st') (hi : lo ≤ i) (hj : j ≤ a₀.size) : Kp kd a₀ lo st (setArr st' (PyProof.Rows.mirror (arrOf st') i j ((j - i) / 2))) where
  base := ⟨(mirror_perm _ _ _ _).trans h.base.perm, h.base.kind, h.base.failed⟩
  pend := h.pend
  low := fun k hk => by
    have e := getElem?_mirror_all (i := i) (j := j) (xs := arrOf st') (by rw [h.base.size]; exact hj) k
    rw [if_neg (by lia)] at e
    exact e.trans (h.low k hk)
theorem ask_at (C : Asks prog w A s kd O K a₀) {st : SortSt} {i j : Nat} {Q : Option Bool → SortSt → Prop} (hB : Base kd a₀ st) (hi : i < a₀.size) (hj : j < a₀.size) (h : Q (some (O.blt (KX K (arrOf st) i) (KX K (arrOf st) j))) st) :
    wpS (model prog w) A E s (ltAt' i j) Q st := by
  obtain ⟨x, ex, mx⟩ := hB.mem i (Nat.zero_le _) (by rw [hB.size]; exact hi)
  obtain ⟨y, ey, my⟩ := hB.mem j (Nat.zero_le _) (by rw [hB.size]; exact hj)
  rw [KX_at ex, KX_at ey] at h
  rw [ltAt'_eq]
  refine wpS_bind (wpS_get ?_)
  exact wpS_bind (ask_elem ex (wpS_bind (ask_elem ey (ask_lt C hB.kind mx my h))))
theorem ask_rev {st : SortSt} {i j : Nat} {M : Model} {Q : Unit → SortSt → Prop} (h : Q () (setArr st (PyProof.Rows.mirror (arrOf st) i j ((j - i) / 2)))) : wpS M A E s (reverseSlice' i j) Q st := by
  rw [reverseSlice'_eq]
  exact wpS_modify h

theorem asc_of {M : Model} {st : SortSt} {lo a nrem : Nat} {Q : Option (Option Nat) × Nat → SortSt → Prop} {f : Nat → Option (Option Nat) × Nat → StateT SortSt Sem (ForInStep (Option (Option Nat) × Nat))}
    (f1 : ∀ x n (R : ForInStep (Option (Option Nat) × Nat) → SortSt → Prop), a ≤ n → n < nrem → (O.blt (KX K (arrOf st) (lo + n)) (KX K (arrOf st) (lo + n - 1)) = true → R (.done (none, n)) st) →
      (O.blt (KX K (arrOf st) (lo + n)) (KX K (arrOf st) (lo + n - 1)) = false → R (.yield (none, n + 1)) st) → wpS M A E s (f x (none, n)) R st)
    (ha : 1 ≤ a) (han : a ≤ nrem) (hs : Up K (arrOf st) lo (lo + a))
    (h : ∀ n, a ≤ n → n ≤ nrem → Up K (arrOf st) lo (lo + n) → (n = nrem ∨ O.klt (KX K (arrOf st) (lo + n)) (KX K (arrOf st) (lo + n - 1))) → Q (none, n) st) :
    wpS M A E s (forIn [a:nrem] (none, a) f) Q st := by
  refine wpS_forRange (I := fun x c st' => st' = st ∧ c = (none, x) ∧ Up K (arrOf st) lo (lo + x)) ?step ?fin ⟨rfl, rfl, hs⟩
  case fin =>
    rintro c st' ⟨rfl, rfl, hs'⟩
    rw [show max a nrem = nrem by (clear h hs' f1 hs ha; lia)] at hs' ⊢
    exact h nrem han (Nat.le_refl _) hs' (.inl rfl)
  case step =>
    rintro x c st' hax hxn ⟨rfl, rfl, hs'⟩
    refine f1 _ _ _ hax hxn (fun e => h x hax (by (clear e f1 hs h hs' ha han hax; lia)) hs' (.inr e)) fun e => ⟨rfl, rfl, fun i j hi hij hj => ?_⟩
    by_cases hjx : j < lo + x
    · exact hs' i j hi hij hjx
    · have hj' : j = lo + x := by (clear ha han hax hxn f1 hs h hs' e hi hij; lia)
      subst hj'
      by_cases hi' : i = lo + x
      · subst hi'; exact KeyOrd.kle_refl _
      · exact KeyOrd.kle_trans (hs' i (lo + x - 1) hi (by (clear ha han hax hxn f1 hs h hs' e hi hj hjx; lia)) (by (clear ha han hax hxn f1 hs h hs' e hi hj hjx; lia))) e

def countRunT : Nat → Nat → StateT SortSt Sem (Option Nat) := sortPriv% PySem.Builtin.countRun

theorem ask_count (C : Asks prog w A s kd O K a₀) {st : SortSt} {lo nrem : Nat} {Q : Option Nat → SortSt → Prop} (hB : Base kd a₀ st) (h1 : 1 ≤ nrem) (hn : lo + nrem ≤ a₀.size)
    (h : ∀ m st', Kp kd a₀ lo st st' → 1 ≤ m → m ≤ nrem → Up K (arrOf st') lo (lo + m) → Q (some m) st') : wpS (model prog w) A E s (countRunT lo nrem) Q st := by
  refine wpS_bind (asc_of (K := K) (lo := lo) ?f1 (Nat.le_refl 1) h1 (fun i j hi hij hj => by have : i = j := (by (clear C hB h1 hn h; lia)); subst this; exact KeyOrd.kle_refl _) fun n hn1 hn2 hsn hor => ?_)
  case f1 =>
    intro x n R hx1 hx2 q1 q2
    refine wpS_bind (ask_at C hB (by (clear q2 C hB h hx1 h1 q1; lia)) (by (clear q2 C hB h hx1 h1 q1; lia)) ?_)
    dsimp only
    cases e : O.blt (KX K (arrOf st) (lo + n)) (KX K (arrOf st) (lo + n - 1)) with
    | true => rw [if_pos rfl]; exact wpS_pure (q1 e)
    | false => rw [if_neg (by simp)]; exact wpS_pure (q2 e)
  dsimp only
  by_cases hnn : n = nrem
  · rw [if_pos (by simpa using hnn)]
    exact wpS_pure (h n st (Kp.refl hB) hn1 hn2 hsn)
  · rw [if_neg (by simpa using hnn)]
    have hlt : O.klt (KX K (arrOf st) (lo + n)) (KX K (arrOf st) (lo + n - 1)) := hor.resolve_left hnn
    by_cases hgt : n > 1
    · rw [if_pos hgt]
      refine wpS_bind (ask_at C hB (by (clear hor hnn hlt hgt h hn1 hn2 hsn C hB; lia)) (by (clear hor hnn hlt hgt C hB h hn1 hsn; omega)) ?_)
      dsimp only
      cases hrose : O.blt (KX K (arrOf st) lo) (KX K (arrOf st) (lo + n - 1)) with
      | true =>
        rw [if_pos rfl]
        exact wpS_pure (h n st (Kp.refl hB) hn1 hn2 hsn)
      | false =>
        rw [if_neg (by simp)]
        have hsz : lo + n ≤ (arrOf st).size := by rw [hB.size]; (clear hor hnn hlt hgt hrose C hB h hn1 h1 hsn; lia)
        have hall : ∀ k, lo ≤ k → k < lo + n → KX K (arrOf st) k = KX K (arrOf st) (lo + n - 1) := by
          intro k hk0 hk
          have a1 := hsn lo k (by (clear C hB h1 hn h hn1 hn2 hsn hor hnn hlt hgt hrose hsz hk0 hk; lia)) hk0 hk
          have a2 := hsn k (lo + n - 1) hk0 (by (clear C hB h1 hn h hn1 hn2 hsn a1 hor hnn hlt hgt hrose hsz hk0; omega)) (by (clear C hB h1 hn h hn1 hn2 hsn a1 hor hnn hlt hgt hrose hsz hk0; omega))
          exact KeyOrd.kle_antisymm a2 (KeyOrd.kle_trans hrose a1)
        refine wpS_bind (ask_rev ?_)
        have kp0 := (Kp.refl (lo := lo) hB).mirror (i := lo) (j := lo + n) (Nat.le_refl _) (by (clear hor hnn hlt hgt hrose hsz hall C hB h hn1 h1 hsn; lia))
        have dn0 : Dn K (arrOf (setArr st (PyProof.Rows.mirror (arrOf st) lo (lo + n) ((lo + n - lo) / 2)))) lo (lo + (n + 1)) := by
          intro i j hi hij hj
          show O.kle (KX K (PyProof.Rows.mirror (arrOf st) _ _ _) j) (KX K (PyProof.Rows.mirror (arrOf st) _ _ _) i)
          rw [KX_mirror_equal hsz hall, KX_mirror_equal hsz hall]
          by_cases hjn : j < lo + n
          · rw [hall i (by (clear C hB h1 hn h hn1 hn2 hsn hor hnn hlt hgt hrose hsz hall kp0 hj hjn hij; omega)) (by (clear C hB h1 hn h hn1 hn2 hsn hor hnn hlt hgt hrose hsz hall kp0 hi hj; lia)), hall j (by (clear C hB h1 hn h hn1 hn2 hsn hor hnn hlt hgt hrose hsz hall kp0 hj hjn; lia)) hjn]; exact KeyOrd.kle_refl _
          · have hj' : j = lo + n := by (clear C hB h1 hn h hn1 hn2 hsn hor hnn hlt hgt hrose hsz hall kp0 hi hij; lia)
            subst hj'
            by_cases hi' : i = lo + n
            · subst hi'; exact KeyOrd.kle_refl _
            · rw [hall i (by (clear C hB h1 hn h hn1 hn2 hsn hor hnn hlt hgt hrose hsz hall kp0 hi' hj hjn hij; omega)) (by (clear C hB h1 hn h hn1 hn2 hsn hor hnn hlt hgt hrose hsz hall kp0 hj hjn hi; lia))]; exact KeyOrd.kle_of_klt hlt
        generalize (setArr st (PyProof.Rows.mirror (arrOf st) lo (lo + n) ((lo + n - lo) / 2))) = st1 at kp0 dn0 ⊢
        refine wpS_bind (wpS_lift (wpAny_rule ⟨rfl, ?_⟩))
        refine wpS_bind (wpS_mono (wpS_forRange (I := fun x c st' => ∃ neq, c = (none, x, neq) ∧ Kp kd a₀ lo st st' ∧ Dn K (arrOf st') lo (lo + x) ∧ neq + 1 ≤ x ∧ (∀ i, lo + x - (neq + 1) ≤ i → i < lo + x → KX K (arrOf st') i = KX K (arrOf st') (lo + x - 1)))
          (Q := fun c st' => ∃ m neq, c = (none, m, neq) ∧ 1 ≤ m ∧ m ≤ nrem ∧ Kp kd a₀ lo st st' ∧ Dn K (arrOf st') lo (lo + m) ∧ neq + 1 ≤ m ∧ (∀ i, lo + m - (neq + 1) ≤ i → i < lo + m → KX K (arrOf st') i = KX K (arrOf st') (lo + m - 1))) ?_ ?_ ⟨0, rfl, kp0, dn0, by (clear C hB h1 hn h hn1 hn2 hsn hor hnn hlt hgt hrose hsz hall kp0 dn0; lia), fun i g1 g2 => by congr 1; (clear C hB h1 hn h hn1 hn2 hsn hor hnn hlt hgt hrose hsz hall kp0 dn0; lia)⟩) ?_)
        · rintro x c st' hax hxn ⟨neq, rfl, kp', hs', hq, he⟩
          dsimp only
          have hsz1 : lo + x ≤ (arrOf st').size := by rw [kp'.base.size]; (clear hor hnn hlt hgt hrose hsz hall kp0 h hn1 hn2 hsn hs' hq he C hB dn0 hax h1 kp'; lia)
          refine wpS_bind (ask_at C kp'.base (by (clear hor hnn hlt hgt hrose hsz hall kp0 h hn1 hn2 hsn hs' hq he hsz1 C hB dn0 hax h1 kp'; lia)) (by (clear hor hnn hlt hgt hrose hsz hall kp0 h hn1 hn2 hsn hs' hq he hsz1 C hB dn0 hax h1 kp'; omega)) ?_)
          dsimp only
          cases hless : O.blt (KX K (arrOf st') (lo + x)) (KX K (arrOf st') (lo + x - 1)) with
          | true =>
            rw [if_pos rfl]
            have step1 : ∀ xs : Array Keyed, (∀ k, KX K xs k = KX K (arrOf st') k) → Dn K xs lo (lo + (x + 1)) := by
              intro xs hk i j hi hij hj
              rw [hk, hk]
              by_cases hjx : j < lo + x
              · exact hs' i j hi hij hjx
              · have hj' : j = lo + x := by (clear C hB h1 hn h hn1 hn2 hsn hor hnn hlt hgt hrose hsz hall kp0 dn0 hax hxn kp' hs' hq he hsz1 hless hk hi hij; lia)
                subst hj'
                by_cases hi' : i = lo + x
                · subst hi'; exact KeyOrd.kle_refl _
                · exact KeyOrd.kle_trans (KeyOrd.kle_of_klt hless) (hs' i (lo + x - 1) hi (by (clear C hB h1 hn h hn1 hn2 hsn hor hnn hlt hgt hrose hsz hall kp0 dn0 hax hxn kp' hs' hq he hsz1 hless hk hj hjx hi; lia)) (by (clear C hB h1 hn h hn1 hn2 hsn hor hnn hlt hgt hrose hsz hall kp0 dn0 hax hxn kp' hs' hq he hsz1 hless hk hj hjx hi; lia)))
            by_cases hneq : neq > 0
            · rw [if_pos hneq]
              exact wpS_bind (ask_rev (wpS_pure ⟨0, rfl, kp'.mirror (by (clear C hB h1 hn h hn1 hn2 hsn hor hnn hlt hgt hrose hsz hall kp0 hless step1 hneq dn0 hax hxn kp' he hsz1 hs'; lia)) (by (clear hor hnn hlt hgt hrose hsz hall kp0 hless step1 hneq h hn1 hn2 hsn hs' hq he hsz1 C hB dn0 hax h1 kp'; lia)), step1 _ (KX_mirror_equal hsz1 he), by (clear C hB h1 hn h hn1 hn2 hsn hor hnn hlt hgt hrose hsz hall kp0 dn0 hax hxn kp' hs' hq he hsz1 hless step1 hneq; lia), fun i g1 g2 => by congr 1; (clear C hB h1 hn h hn1 hn2 hsn hor hnn hlt hgt hrose hsz hall kp0 dn0 hax hxn kp' hs' hq he hsz1 hless step1 hneq; lia)⟩))
            · rw [if_neg hneq]
              exact wpS_pure ⟨0, rfl, kp', step1 _ (fun _ => rfl), by (clear C hB h1 hn h hn1 hn2 hsn hor hnn hlt hgt hrose hsz hall kp0 dn0 hax hxn kp' hs' hq he hsz1 hless step1 hneq; lia), fun i g1 g2 => by congr 1; (clear C hB h1 hn h hn1 hn2 hsn hor hnn hlt hgt hrose hsz hall kp0 dn0 hax hxn kp' hs' hq he hsz1 hless step1 hneq; lia)⟩
          | false =>
            rw [if_neg (by simp)]
            refine wpS_bind (ask_at C kp'.base (by (clear hor hnn hlt hgt hrose hsz hall kp0 hless h hn1 hn2 hsn hs' hq he hsz1 C hB dn0 hax h1 kp'; omega)) (by (clear hor hnn hlt hgt hrose hsz hall kp0 hless h hn1 hn2 hsn hs' hq he hsz1 C hB dn0 hax h1 kp'; lia)) ?_)
            dsimp only
            cases hlarger : O.blt (KX K (arrOf st') (lo + x - 1)) (KX K (arrOf st') (lo + x)) with
            | true =>
              rw [if_pos rfl]
              exact wpS_pure ⟨x, neq, rfl, by (clear C hB h1 hn h hn1 hn2 hsn hor hnn hlt hgt hrose hsz hall kp0 hless hlarger dn0 hax hxn kp' he hsz1 hs'; lia), by (clear C hB h1 hn h hn1 hn2 hsn hor hnn hlt hgt hrose hsz hall kp0 hless hlarger hs' hq he hsz1 dn0 hax kp'; lia), kp', hs', hq, he⟩
            | false =>
              rw [if_neg (by simp)]
              have heqx : KX K (arrOf st') (lo + x) = KX K (arrOf st') (lo + x - 1) := KeyOrd.kle_antisymm hlarger hless
              refine wpS_pure ⟨neq + 1, rfl, kp', fun i j hi hij hj => ?_, by (clear C hB h1 hn h hn1 hn2 hsn hor hnn hlt hgt hrose hsz hall kp0 hless hlarger heqx dn0 hax hxn kp' he hsz1 hs'; lia), fun i g1 g2 => ?_⟩
              · by_cases hjx : j < lo + x
                · exact hs' i j hi hij hjx
                · have hj' : j = lo + x := by (clear C hB h1 hn h hn1 hn2 hsn hor hnn hlt hgt hrose hsz hall kp0 dn0 hax hxn kp' hs' hq he hsz1 hless hlarger heqx hi hij; lia)
                  subst hj'
                  by_cases hi' : i = lo + x
                  · subst hi'; exact KeyOrd.kle_refl _
                  · rw [heqx]; exact hs' i (lo + x - 1) hi (by (clear C hB h1 hn h hn1 hn2 hsn hor hnn hlt hgt hrose hsz hall kp0 dn0 hax hxn kp' hs' hq he hsz1 hless hlarger heqx hi hj hjx; lia)) (by (clear C hB h1 hn h hn1 hn2 hsn hor hnn hlt hgt hrose hsz hall kp0 dn0 hax hxn kp' hs' hq he hsz1 hless hlarger heqx hi hj hjx; lia))
              · rw [show lo + (x + 1) - 1 = lo + x by (clear C hB h1 hn h hn1 hn2 hsn hor hnn hlt hgt hrose hsz hall kp0 dn0 hax hxn kp' hs' hq he hsz1 hless hlarger heqx g1 g2; lia)]
                by_cases hix : i = lo + x
                · subst hix; rfl
                · rw [heqx]; exact he i (by (clear C hB h1 hn h hn1 hn2 hsn hor hnn hlt hgt hrose hsz hall kp0 dn0 hax hxn kp' hs' hq he hsz1 g2 hix hless hlarger heqx; lia)) (by (clear C hB h1 hn h hn1 hn2 hsn hor hnn hlt hgt hrose hsz hall kp0 dn0 hax hxn kp' hs' hq he hsz1 hless hlarger heqx g1; lia))
        · rintro c st' ⟨neq, rfl, kp', hs', hq, he⟩
          rw [show max (n + 1) nrem = nrem by (clear dn0 kp' hs' hq he C hB h1 hn hrose hsz hall kp0 h hn1 hlt hgt hsn hor; lia)] at hs' hq he ⊢
          exact ⟨nrem, neq, rfl, h1, Nat.le_refl _, kp', hs', hq, he⟩
        · rintro c st' ⟨m, neq, rfl, hm1, hm2, kp', hs', hq, he⟩
          dsimp only
          have hsz1 : lo + m ≤ (arrOf st').size := by rw [kp'.base.size]; (clear hor hnn hlt hgt hrose hsz hall kp0 h hn1 hn2 hsn hs' hq he C hB dn0 hm1 h1 kp'; lia)
          by_cases hneq : neq > 0
          · rw [if_pos hneq]
            refine wpS_bind (ask_rev ?_)
            have kp2 := kp'.mirror (i := lo + m - (neq + 1)) (j := lo + m) (by (clear C hB h1 hn h hn1 hn2 hsn hor hnn hlt hgt hrose hsz hall kp0 hneq dn0 hm1 hm2 kp' he hsz1 hs'; lia)) (by (clear hor hnn hlt hgt hrose hsz hall kp0 hneq h hn1 hn2 hsn hs' hq he hsz1 C hB dn0 hm1 h1 kp'; lia))
            have dn2 : Dn K (arrOf (setArr st' (PyProof.Rows.mirror (arrOf st') (lo + m - (neq + 1)) (lo + m) ((lo + m - (lo + m - (neq + 1))) / 2)))) lo (lo + m) := by
              intro i j hi hij hj
              show O.kle (KX K (PyProof.Rows.mirror (arrOf st') _ _ _) j) (KX K (PyProof.Rows.mirror (arrOf st') _ _ _) i)
              rw [KX_mirror_equal hsz1 he, KX_mirror_equal hsz1 he]
              exact hs' i j hi hij hj
            generalize (setArr st' (PyProof.Rows.mirror (arrOf st') (lo + m - (neq + 1)) (lo + m) ((lo + m - (lo + m - (neq + 1))) / 2))) = st2 at kp2 dn2 ⊢
            refine wpS_bind (ask_rev ?_)
            have hsz2 : lo + m ≤ (arrOf st2).size := by rw [kp2.base.size]; (clear hor hnn hlt hgt hrose hsz hall kp0 hneq kp2 dn2 h hn1 hn2 hsn hs' hq he hsz1 C hB dn0 hm1 h1 kp'; lia)
            have kp3 := kp2.mirror (i := lo) (j := lo + m) (Nat.le_refl _) (by (clear hor hnn hlt hgt hrose hsz hall kp0 hneq kp2 dn2 hsz2 h hn1 hn2 hsn hs' hq he hsz1 C hB dn0 hm1 h1 kp'; lia))
            have up3 : Up K (arrOf (setArr st2 (PyProof.Rows.mirror (arrOf st2) lo (lo + m) ((lo + m - lo) / 2)))) lo (lo + m) := by
              intro i j hi hij hj
              show O.kle (KX K (PyProof.Rows.mirror (arrOf st2) _ _ _) i) (KX K (PyProof.Rows.mirror (arrOf st2) _ _ _) j)
              rw [KX_mirror hsz2, KX_mirror hsz2, if_pos (by (clear C hB h1 hn h hn1 hn2 hsn hor hnn hlt hgt hrose hsz hall kp0 dn0 hm1 hm2 kp' hs' hq he hsz1 hneq kp2 dn2 hsz2 kp3; lia)), if_pos (by (clear C hB h1 hn h hn1 hn2 hsn hor hnn hlt hgt hrose hsz hall kp0 dn0 hm1 hm2 kp' hs' hq he hsz1 hneq kp2 dn2 hsz2 kp3; lia))]
              exact dn2 _ _ (by (clear C hB h1 hn h hn1 hn2 hsn hor hnn hlt hgt hrose hsz hall kp0 dn0 hm1 hm2 kp' hs' hq he hsz1 hneq kp2 dn2 hsz2 kp3 hi hij; omega)) (by (clear C hB h1 hn h hn1 hn2 hsn hor hnn hlt hgt hrose hsz hall kp0 dn0 hm1 hm2 kp' hs' hq he hsz1 hneq kp2 dn2 hsz2 kp3 hi hj; omega)) (by (clear C hB h1 hn h hn1 hn2 hsn hor hnn hlt hgt hrose hsz hall kp0 dn0 hm1 hm2 kp' hs' hq he hsz1 hneq kp2 dn2 hsz2 kp3 hij; omega))
            generalize (setArr st2 (PyProof.Rows.mirror (arrOf st2) lo (lo + m) ((lo + m - lo) / 2))) = st3 at kp3 up3 ⊢
            refine wpS_bind (asc_of (K := K) (lo := lo) ?_ (by (clear C hB h1 hn h hn1 hn2 hsn hor hnn hlt hgt hrose hsz hall kp0 hneq kp2 dn2 hsz2 kp3 up3 dn0 hm1 hm2 kp' he hsz1 hs'; lia)) (by (clear C hB h1 hn h hn1 hn2 hsn hor hnn hlt hgt hrose hsz hall kp0 hneq kp2 dn2 hsz2 kp3 up3 hs' hq he hsz1 dn0 hm1 kp'; omega)) up3 fun p hp1 hp2 hsp _ => wpS_pure (h p st3 kp3 (by (clear C hB h1 hn h hn1 hn2 hsn hor hnn hlt hgt hrose hsz hall kp0 hsp dn0 hm1 hm2 kp' hneq kp2 dn2 hsz2 he hsz1 kp3 up3 hs' hp2; lia)) hp2 hsp))
            intro x p R hx1 hx2 q1 q2
            refine wpS_bind (ask_at C kp3.base (by (clear hor hnn hlt hgt hrose hsz hall kp0 dn0 hm1 hm2 kp' hs' hq he hsz1 q1 q2 h hn1 hn2 hsn hneq kp2 dn2 hsz2 C hB kp3 up3 h1 hx1; lia)) (by (clear hor hnn hlt hgt hrose hsz hall kp0 dn0 hm1 hm2 kp' hs' hq he hsz1 q1 q2 h hn1 hn2 hsn hneq kp2 dn2 hsz2 C hB kp3 up3 h1 hx1; lia)) ?_)
            dsimp only
            cases e : O.blt (KX K (arrOf st3) (lo + p)) (KX K (arrOf st3) (lo + p - 1)) with
            | true => rw [if_pos rfl]; exact wpS_pure (q1 e)
            | false => rw [if_neg (by simp)]; exact wpS_pure (q2 e)
          · rw [if_neg hneq]
            have kp2 := kp'
            have dn2 := hs'
            generalize hst2 : st' = st2 at kp2 dn2 ⊢
            refine wpS_bind (ask_rev ?_)
            have hsz2 : lo + m ≤ (arrOf st2).size := by rw [kp2.base.size]; (clear hor hnn hlt hgt hrose hsz hall kp0 hneq hst2 kp2 dn2 h hn1 hn2 hsn hs' hq he hsz1 C hB dn0 hm1 h1 kp'; lia)
            have kp3 := kp2.mirror (i := lo) (j := lo + m) (Nat.le_refl _) (by (clear hor hnn hlt hgt hrose hsz hall kp0 hneq hst2 kp2 dn2 hsz2 h hn1 hn2 hsn hs' hq he hsz1 C hB dn0 hm1 h1 kp'; lia))
            have up3 : Up K (arrOf (setArr st2 (PyProof.Rows.mirror (arrOf st2) lo (lo + m) ((lo + m - lo) / 2)))) lo (lo + m) := by
              intro i j hi hij hj
              show O.kle (KX K (PyProof.Rows.mirror (arrOf st2) _ _ _) i) (KX K (PyProof.Rows.mirror (arrOf st2) _ _ _) j)
              rw [KX_mirror hsz2, KX_mirror hsz2, if_pos (by (clear C hB h1 hn h hn1 hn2 hsn hor hnn hlt hgt hrose hsz hall kp0 dn0 hm1 hm2 kp' hs' hq he hsz1 hneq hst2 kp2 dn2 hsz2 kp3; lia)), if_pos (by (clear C hB h1 hn h hn1 hn2 hsn hor hnn hlt hgt hrose hsz hall kp0 dn0 hm1 hm2 kp' hs' hq he hsz1 hneq hst2 kp2 dn2 hsz2 kp3; lia))]
              exact dn2 _ _ (by (clear C hB h1 hn h hn1 hn2 hsn hor hnn hlt hgt hrose hsz hall kp0 dn0 hm1 hm2 kp' hs' hq he hsz1 hneq hst2 kp2 dn2 hsz2 kp3 hi hij; omega)) (by (clear C hB h1 hn h hn1 hn2 hsn hor hnn hlt hgt hrose hsz hall kp0 dn0 hm1 hm2 kp' hs' hq he hsz1 hj hneq hst2 kp2 dn2 hsz2 kp3 hi; omega)) (by (clear C hB h1 hn h hn1 hn2 hsn hor hnn hlt hgt hrose hsz hall kp0 dn0 hm1 hm2 kp' hs' hq he hsz1 hneq hst2 kp2 dn2 hsz2 kp3 hij; omega))
            generalize (setArr st2 (PyProof.Rows.mirror (arrOf st2) lo (lo + m) ((lo + m - lo) / 2))) = st3 at kp3 up3 ⊢
            refine wpS_bind (asc_of (K := K) (lo := lo) ?_ (by (clear C hB h1 hn h hn1 hn2 hsn hor hnn hlt hgt hrose hsz hall kp0 hneq hst2 kp2 dn2 hsz2 kp3 up3 dn0 hm1 hm2 kp' he hsz1 hs'; lia)) (by (clear C hB h1 hn h hn1 hn2 hsn hor hnn hlt hgt hrose hsz hall kp0 hneq hst2 kp2 dn2 hsz2 kp3 up3 hs' hq he hsz1 dn0 hm1 kp'; omega)) up3 fun p hp1 hp2 hsp _ => wpS_pure (h p st3 kp3 (by (clear C hB h1 hn h hn1 hn2 hsn hor hnn hlt hgt hrose hsz hall kp0 hp2 hsp dn0 hm1 hm2 kp' hneq hst2 kp2 dn2 he hsz1 hsz2 kp3 hs' up3; lia)) hp2 hsp))
            intro x p R hx1 hx2 q1 q2
            refine wpS_bind (ask_at C kp3.base (by (clear hor hnn hlt hgt hrose hsz hall kp0 dn0 hm1 hm2 kp' hs' hq he hsz1 hneq hst2 kp2 dn2 hsz2 kp3 up3 hx1 h hn1 hn2 hsn C hB q2 h1 q1; lia)) (by (clear hor hnn hlt hgt hrose hsz hall kp0 dn0 hm1 hm2 kp' hs' hq he hsz1 hneq hst2 kp2 dn2 hsz2 kp3 up3 hx1 h hn1 hn2 hsn C hB q2 h1 q1; lia)) ?_)
            dsimp only
            cases e : O.blt (KX K (arrOf st3) (lo + p)) (KX K (arrOf st3) (lo + p - 1)) with
            | true => rw [if_pos rfl]; exact wpS_pure (q1 e)
            | false => rw [if_neg (by simp)]; exact wpS_pure (q2 e)
    · rw [if_neg hgt]
      have hn1' : n = 1 := by (clear C hB h1 hn hn2 hsn hor hnn h hlt; lia)
      have kp0 : Kp kd a₀ lo st st := Kp.refl hB
      have dn0 : Dn K (arrOf st) lo (lo + (n + 1)) := by
        intro i j hi hij hj
        by_cases hi' : i = j
        · subst hi'; exact KeyOrd.kle_refl _
        · have hi0 : i = lo + n - 1 := by (clear C hB h1 hn h hn1 hn2 hsn hor hnn hlt hgt kp0; lia)
          have hj1 : j = lo + n := by (clear C hB h1 hn h hn1 hn2 hsn hor hnn hlt hgt hn1' kp0 hi; lia)
          subst hi0; subst hj1
          exact KeyOrd.kle_of_klt hlt
      generalize hst1 : st = st1 at kp0 dn0 ⊢
      refine wpS_bind (wpS_lift (wpAny_rule ⟨rfl, ?_⟩))
      refine wpS_bind (wpS_mono (wpS_forRange (I := fun x c st' => ∃ neq, c = (none, x, neq) ∧ Kp kd a₀ lo st st' ∧ Dn K (arrOf st') lo (lo + x) ∧ neq + 1 ≤ x ∧ (∀ i, lo + x - (neq + 1) ≤ i → i < lo + x → KX K (arrOf st') i = KX K (arrOf st') (lo + x - 1)))
        (Q := fun c st' => ∃ m neq, c = (none, m, neq) ∧ 1 ≤ m ∧ m ≤ nrem ∧ Kp kd a₀ lo st st' ∧ Dn K (arrOf st') lo (lo + m) ∧ neq + 1 ≤ m ∧ (∀ i, lo + m - (neq + 1) ≤ i → i < lo + m → KX K (arrOf st') i = KX K (arrOf st') (lo + m - 1))) ?_ ?_ ⟨0, rfl, by rw [hst1]; exact kp0, dn0, by (clear C hB h1 hn h hn1 hn2 hsn hor hnn hlt hgt hn1' hst1 kp0 dn0; lia), fun i g1 g2 => by congr 1; (clear C hB h1 hn h hn1 hn2 hsn hor hnn hlt hgt hn1' hst1 kp0 dn0; lia)⟩) ?_)
      · rintro x c st' hax hxn ⟨neq, rfl, kp', hs', hq, he⟩
        dsimp only
        have hsz1 : lo + x ≤ (arrOf st').size := by rw [kp'.base.size]; (clear hor hnn hlt hgt hn1' hst1 kp0 dn0 h hn1 hn2 hsn hq he C hB kp' hs' h1 hax; lia)
        refine wpS_bind (ask_at C kp'.base (by (clear hor hnn hlt hgt hn1' hst1 kp0 dn0 h hn1 hn2 hsn hq he hsz1 C hB kp' hs' h1 hax; lia)) (by (clear hor hnn hlt hgt hn1' hst1 kp0 dn0 h hn1 hn2 hsn hq he hsz1 C hB kp' hs' h1 hax; omega)) ?_)
        dsimp only
        cases hless : O.blt (KX K (arrOf st') (lo + x)) (KX K (arrOf st') (lo + x - 1)) with
        | true =>
          rw [if_pos rfl]
          have step1 : ∀ xs : Array Keyed, (∀ k, KX K xs k = KX K (arrOf st') k) → Dn K xs lo (lo + (x + 1)) := by
            intro xs hk i j hi hij hj
            rw [hk, hk]
            by_cases hjx : j < lo + x
            · exact hs' i j hi hij hjx
            · have hj' : j = lo + x := by (clear C hB h1 hn h hn1 hn2 hsn hor hnn hlt hgt hn1' hst1 kp0 dn0 hax hxn kp' hs' hq he hsz1 hless hk hi hij; lia)
              subst hj'
              by_cases hi' : i = lo + x
              · subst hi'; exact KeyOrd.kle_refl _
              · exact KeyOrd.kle_trans (KeyOrd.kle_of_klt hless) (hs' i (lo + x - 1) hi (by (clear C hB h1 hn h hn1 hn2 hsn hor hnn hlt hgt hn1' hst1 kp0 dn0 hax hxn kp' hs' hq he hsz1 hless hk hi hj hjx; lia)) (by (clear C hB h1 hn h hn1 hn2 hsn hor hnn hlt hgt hn1' hst1 kp0 dn0 hax hxn kp' hs' hq he hsz1 hless hk hi hj hjx; lia)))
          by_cases hneq : neq > 0
          · rw [if_pos hneq]
            exact wpS_bind (ask_rev (wpS_pure ⟨0, rfl, kp'.mirror (by (clear C hB h1 hn h hn1 hn2 hsn hor hnn hlt hgt hn1' hst1 kp0 dn0 step1 hneq hax hxn kp' hs' hsz1 hless he; lia)) (by (clear hor hnn hlt hgt hn1' hst1 kp0 dn0 step1 hneq h hn1 hn2 hsn hq he hsz1 hless C hB kp' hs' h1 hax; lia)), step1 _ (KX_mirror_equal hsz1 he), by (clear C hB h1 hn h hn1 hn2 hsn hor hnn hlt hgt hn1' hst1 kp0 dn0 hax hxn kp' hs' hq he hsz1 hless step1 hneq; lia), fun i g1 g2 => by congr 1; (clear C hB h1 hn h hn1 hn2 hsn hor hnn hlt hgt hn1' hst1 kp0 dn0 hax hxn kp' hs' hq he hsz1 hless step1 hneq; lia)⟩))
          · rw [if_neg hneq]
            exact wpS_pure ⟨0, rfl, kp', step1 _ (fun _ => rfl), by (clear C hB h1 hn h hn1 hn2 hsn hor hnn hlt hgt hn1' hst1 kp0 dn0 hax hxn kp' hs' hq he hsz1 hless step1 hneq; lia), fun i g1 g2 => by congr 1; (clear C hB h1 hn h hn1 hn2 hsn hor hnn hlt hgt hn1' hst1 kp0 dn0 hax hxn kp' hs' hq he hsz1 hless step1 hneq; lia)⟩
        | false =>
          rw [if_neg (by simp)]
          refine wpS_bind (ask_at C kp'.base (by (clear hor hnn hlt hgt hn1' hst1 kp0 dn0 h hn1 hn2 hsn hq he hsz1 hless C hB kp' hs' h1 hax; omega)) (by (clear hor hnn hlt hgt hn1' hst1 kp0 dn0 h hn1 hn2 hsn hq he hsz1 hless C hB kp' hs' h1 hax; lia)) ?_)
          dsimp only
          cases hlarger : O.blt (KX K (arrOf st') (lo + x - 1)) (KX K (arrOf st') (lo + x)) with
          | true =>
            rw [if_pos rfl]
            exact wpS_pure ⟨x, neq, rfl, by (clear C hB h1 hn h hn1 hn2 hsn hor hnn hlt hgt hn1' hst1 kp0 dn0 hlarger hax hxn kp' hs' hsz1 hless he; lia), by (clear C hB h1 hn h hn1 hn2 hsn hor hnn hlt hgt hn1' hst1 kp0 dn0 hlarger hq he hsz1 hless kp' hs' hax; lia), kp', hs', hq, he⟩
          | false =>
            rw [if_neg (by simp)]
            have heqx : KX K (arrOf st') (lo + x) = KX K (arrOf st') (lo + x - 1) := KeyOrd.kle_antisymm hlarger hless
            refine wpS_pure ⟨neq + 1, rfl, kp', fun i j hi hij hj => ?_, by (clear C hB h1 hn h hn1 hn2 hsn hor hnn hlt hgt hn1' hst1 kp0 dn0 hlarger heqx hax hxn kp' hs' hsz1 hless he; lia), fun i g1 g2 => ?_⟩
            · by_cases hjx : j < lo + x
              · exact hs' i j hi hij hjx
              · have hj' : j = lo + x := by (clear C hB h1 hn h hn1 hn2 hsn hor hnn hlt hgt hn1' hst1 kp0 dn0 hax hxn kp' hs' hq he hsz1 hless hlarger heqx hi hij; lia)
                subst hj'
                by_cases hi' : i = lo + x
                · subst hi'; exact KeyOrd.kle_refl _
                · rw [heqx]; exact hs' i (lo + x - 1) hi (by (clear C hB h1 hn h hn1 hn2 hsn hor hnn hlt hgt hn1' hst1 kp0 dn0 hax hxn kp' hs' hq he hsz1 hless hlarger heqx hj hjx hi; lia)) (by (clear C hB h1 hn h hn1 hn2 hsn hor hnn hlt hgt hn1' hst1 kp0 dn0 hax hxn kp' hs' hq he hsz1 hless hlarger heqx hj hjx hi; lia))
            · rw [show lo + (x + 1) - 1 = lo + x by (clear C hB h1 hn h hn1 hn2 hsn hor hnn hlt hgt hn1' hst1 kp0 dn0 hax hxn kp' hs' hq he hsz1 hless hlarger heqx g1 g2; lia)]
              by_cases hix : i = lo + x
              · subst hix; rfl
              · rw [heqx]; exact he i (by (clear C hB h1 hn h hn1 hn2 hsn hor hnn hlt hgt hn1' hst1 kp0 dn0 hax hxn kp' hs' hq he hsz1 hless hix hlarger heqx g2; lia)) (by (clear C hB h1 hn h hn1 hn2 hsn hor hnn hlt hgt hn1' hst1 kp0 dn0 hax hxn kp' hs' hq he hsz1 hless hlarger heqx g1; lia))
      · rintro c st' ⟨neq, rfl, kp', hs', hq, he⟩
        rw [show max (n + 1) nrem = nrem by (clear kp' hs' he C hB h1 hn hn1' hst1 kp0 dn0 h hn1 hlt hsn hor; lia)] at hs' hq he ⊢
        exact ⟨nrem, neq, rfl, h1, Nat.le_refl _, kp', hs', hq, he⟩
      · rintro c st' ⟨m, neq, rfl, hm1, hm2, kp', hs', hq, he⟩
        dsimp only
        have hsz1 : lo + m ≤ (arrOf st').size := by rw [kp'.base.size]; (clear hor hnn hlt hgt hn1' hst1 kp0 dn0 h hn1 hn2 hsn hq he C hB kp' hs' h1 hm1; lia)
        by_cases hneq : neq > 0
        · rw [if_pos hneq]
          refine wpS_bind (ask_rev ?_)
          have kp2 := kp'.mirror (i := lo + m - (neq + 1)) (j := lo + m) (by (clear C hB h1 hn h hn1 hn2 hsn hor hnn hlt hgt hn1' hst1 kp0 dn0 hm1 hm2 kp' hs' hsz1 hneq he; lia)) (by (clear hor hnn hlt hgt hn1' hst1 kp0 dn0 h hn1 hn2 hsn hq he hsz1 hneq C hB kp' hs' h1 hm1; lia))
          have dn2 : Dn K (arrOf (setArr st' (PyProof.Rows.mirror (arrOf st') (lo + m - (neq + 1)) (lo + m) ((lo + m - (lo + m - (neq + 1))) / 2)))) lo (lo + m) := by
            intro i j hi hij hj
            show O.kle (KX K (PyProof.Rows.mirror (arrOf st') _ _ _) j) (KX K (PyProof.Rows.mirror (arrOf st') _ _ _) i)
            rw [KX_mirror_equal hsz1 he, KX_mirror_equal hsz1 he]
            exact hs' i j hi hij hj
          generalize (setArr st' (PyProof.Rows.mirror (arrOf st') (lo + m - (neq + 1)) (lo + m) ((lo + m - (lo + m - (neq + 1))) / 2))) = st2 at kp2 dn2 ⊢
          refine wpS_bind (ask_rev ?_)
          have hsz2 : lo + m ≤ (arrOf st2).size := by rw [kp2.base.size]; (clear hor hnn hlt hgt hn1' hst1 kp0 dn0 kp2 dn2 h hn1 hn2 hsn hq he hsz1 hneq C hB kp' hs' h1 hm1; lia)
          have kp3 := kp2.mirror (i := lo) (j := lo + m) (Nat.le_refl _) (by (clear hor hnn hlt hgt hn1' hst1 kp0 dn0 kp2 dn2 hsz2 h hn1 hn2 hsn hq he hsz1 hneq C hB kp' hs' h1 hm1; lia))
          have up3 : Up K (arrOf (setArr st2 (PyProof.Rows.mirror (arrOf st2) lo (lo + m) ((lo + m - lo) / 2)))) lo (lo + m) := by
            intro i j hi hij hj
            show O.kle (KX K (PyProof.Rows.mirror (arrOf st2) _ _ _) i) (KX K (PyProof.Rows.mirror (arrOf st2) _ _ _) j)
            rw [KX_mirror hsz2, KX_mirror hsz2, if_pos (by (clear C hB h1 hn h hn1 hn2 hsn hor hnn hlt hgt hn1' hst1 kp0 dn0 hm1 hm2 kp' hs' hq he hsz1 hneq kp2 dn2 hsz2 kp3; lia)), if_pos (by (clear C hB h1 hn h hn1 hn2 hsn hor hnn hlt hgt hn1' hst1 kp0 dn0 hm1 hm2 kp' hs' hq he hsz1 hneq kp2 dn2 hsz2 kp3; lia))]
            exact dn2 _ _ (by (clear C hB h1 hn h hn1 hn2 hsn hor hnn hlt hgt hn1' hst1 kp0 dn0 hm1 hm2 kp' hs' hq he hsz1 hneq kp2 dn2 hsz2 kp3 hi hij; omega)) (by (clear C hB h1 hn h hn1 hn2 hsn hor hnn hlt hgt hn1' hst1 kp0 dn0 hm1 hm2 kp' hs' hq he hsz1 hneq kp2 dn2 hsz2 kp3 hj hi; omega)) (by (clear C hB h1 hn h hn1 hn2 hsn hor hnn hlt hgt hn1' hst1 kp0 dn0 hm1 hm2 kp' hs' hq he hsz1 hneq kp2 dn2 hsz2 kp3 hij; omega))
          generalize (setArr st2 (PyProof.Rows.mirror (arrOf st2) lo (lo + m) ((lo + m - lo) / 2))) = st3 at kp3 up3 ⊢
          refine wpS_bind (asc_of (K := K) (lo := lo) ?_ (by (clear C hB h1 hn h hn1 hn2 hsn hor hnn hlt hgt hn1' hst1 kp0 dn0 kp2 dn2 hsz2 kp3 up3 hm1 hm2 kp' hs' hsz1 hneq he; lia)) (by (clear C hB h1 hn h hn1 hn2 hsn hor hnn hlt hgt hn1' hst1 kp0 dn0 kp2 dn2 hsz2 kp3 up3 hq he hsz1 hneq kp' hs' hm1; omega)) up3 fun p hp1 hp2 hsp _ => wpS_pure (h p st3 kp3 (by (clear C hB h1 hn h hn1 hn2 hsn hor hnn hlt hgt hn1' hst1 kp0 dn0 hm1 hm2 kp' hs' kp2 dn2 hsz2 kp3 hsz1 hneq hp2 hsp he up3; lia)) hp2 hsp))
          intro x p R hx1 hx2 q1 q2
          refine wpS_bind (ask_at C kp3.base (by (clear hor hnn hlt hgt hn1' hst1 kp0 dn0 hm1 hm2 kp' hs' hq he hsz1 hneq q2 h hn1 hn2 hsn kp2 dn2 hsz2 kp3 C hB up3 hx1 h1 q1; lia)) (by (clear hor hnn hlt hgt hn1' hst1 kp0 dn0 hm1 hm2 kp' hs' hq he hsz1 hneq q2 h hn1 hn2 hsn kp2 dn2 hsz2 kp3 C hB up3 hx1 h1 q1; lia)) ?_)
          dsimp only
          cases e : O.blt (KX K (arrOf st3) (lo + p)) (KX K (arrOf st3) (lo + p - 1)) with
          | true => rw [if_pos rfl]; exact wpS_pure (q1 e)
          | false => rw [if_neg (by simp)]; exact wpS_pure (q2 e)
        · rw [if_neg hneq]
          have kp2 := kp'
          have dn2 := hs'
          generalize hst2 : st' = st2 at kp2 dn2 ⊢
          refine wpS_bind (ask_rev ?_)
          have hsz2 : lo + m ≤ (arrOf st2).size := by rw [kp2.base.size]; (clear hor hnn hlt hgt hn1' hst1 kp0 dn0 hst2 kp2 dn2 h hn1 hn2 hsn hq he hsz1 hneq C hB kp' hs' h1 hm1; lia)
          have kp3 := kp2.mirror (i := lo) (j := lo + m) (Nat.le_refl _) (by (clear hor hnn hlt hgt hn1' hst1 kp0 dn0 hst2 kp2 dn2 hsz2 h hn1 hn2 hsn hq he hsz1 hneq C hB kp' hs' h1 hm1; lia))
          have up3 : Up K (arrOf (setArr st2 (PyProof.Rows.mirror (arrOf st2) lo (lo + m) ((lo + m - lo) / 2)))) lo (lo + m) := by
            intro i j hi hij hj
            show O.kle (KX K (PyProof.Rows.mirror (arrOf st2) _ _ _) i) (KX K (PyProof.Rows.mirror (arrOf st2) _ _ _) j)
            rw [KX_mirror hsz2, KX_mirror hsz2, if_pos (by (clear C hB h1 hn h hn1 hn2 hsn hor hnn hlt hgt hn1' hst1 kp0 dn0 hm1 hm2 kp' hs' hq he hsz1 hneq hst2 kp2 dn2 hsz2 kp3; lia)), if_pos (by (clear C hB h1 hn h hn1 hn2 hsn hor hnn hlt hgt hn1' hst1 kp0 dn0 hm1 hm2 kp' hs' hq he hsz1 hneq hst2 kp2 dn2 hsz2 kp3; lia))]
            exact dn2 _ _ (by (clear C hB h1 hn h hn1 hn2 hsn hor hnn hlt hgt hn1' hst1 kp0 dn0 hm1 hm2 kp' hs' hq he hsz1 hneq hst2 kp2 dn2 hsz2 kp3 hi hij; omega)) (by (clear C hB h1 hn h hn1 hn2 hsn hor hnn hlt hgt hn1' hst1 kp0 dn0 hm1 hm2 kp' hs' hq he hsz1 hneq hst2 kp2 dn2 hsz2 kp3 hi hj; omega)) (by (clear C hB h1 hn h hn1 hn2 hsn hor hnn hlt hgt hn1' hst1 kp0 dn0 hm1 hm2 kp' hs' hq he hsz1 hneq hst2 kp2 dn2 hsz2 kp3 hij; omega))
          generalize (setArr st2 (PyProof.Rows.mirror (arrOf st2) lo (lo + m) ((lo + m - lo) / 2))) = st3 at kp3 up3 ⊢
          refine wpS_bind (asc_of (K := K) (lo := lo) ?_ (by (clear C hB h1 hn h hn1 hn2 hsn hor hnn hlt hgt hn1' hst1 kp0 dn0 hst2 kp2 dn2 hsz2 kp3 up3 hm1 hm2 kp' hs' hsz1 hneq he; lia)) (by (clear C hB h1 hn h hn1 hn2 hsn hor hnn hlt hgt hn1' hst1 kp0 dn0 hst2 kp2 dn2 hsz2 kp3 up3 hq he hsz1 hneq kp' hs' hm1; omega)) up3 fun p hp1 hp2 hsp _ => wpS_pure (h p st3 kp3 (by (clear C hB h1 hn h hn1 hn2 hsn hor hnn hlt hgt hn1' hst1 kp0 dn0 hsp hm1 hm2 kp' hs' hst2 kp2 dn2 hsz2 hsz1 hneq kp3 up3 he hp2; lia)) hp2 hsp))
          intro x p R hx1 hx2 q1 q2
          refine wpS_bind (ask_at C kp3.base (by (clear hor hnn hlt hgt hn1' hst1 kp0 dn0 hm1 hm2 kp' hs' hq he hsz1 hneq q1 q2 h hn1 hn2 hsn hst2 kp2 dn2 hsz2 C hB kp3 up3 h1 hx1; lia)) (by (clear hor hnn hlt hgt hn1' hst1 kp0 dn0 hm1 hm2 kp' hs' hq he hsz1 hneq q1 q2 h hn1 hn2 hsn hst2 kp2 dn2 hsz2 C hB kp3 up3 h1 hx1; lia)) ?_)
          dsimp only
          cases e : O.blt (KX K (arrOf st3) (lo + p)) (KX K (arrOf st3) (lo + p - 1)) with
          | true => rw [if_pos rfl]; exact wpS_pure (q1 e)
          | false => rw [if_neg (by simp)]; exact wpS_pure (q2 e)
end
end TS
namespace TS
open PySem PyProof.Rows
section
variable {prog : Program} {w : World} {A : Around} {E : Value → Shared → Prop} {s : Shared} {kd : SortKind} {O : KeyOrd} {K : Keyed → O.α} {a₀ : Array Keyed}
theorem KX_bubble {xs : Array Keyed} {src d : Nat} (hs : src < xs.size) (hd : d ≤ src) (k : Nat) :
    KX K (bubble xs src d) k = if k = src - d then KX K xs src else if src - d < k ∧ k ≤ src then KX K xs (k - 1) else KX K xs k := by
  have e := getElem?_bubble hs d hd k
  by_cases h1 : k = src - d
  · rw [if_pos h1] at e ⊢; exact KX_congr e
  · rw [if_neg h1] at e ⊢
    by_cases h2 : src - d < k ∧ k ≤ src
    · rw [if_pos h2] at e ⊢; exact KX_congr e
    · rw [if_neg h2] at e ⊢; exact KX_congr e
theorem Kp.bubble {lo src d : Nat} {st st' : SortSt} (h : Kp kd a₀ lo st st') (hs : src < a₀.size) (hd : d ≤ src) (hl : lo ≤ src - d) : Kp kd a₀ lo st (setArr st' (PyProof.Rows.bubble (arrOf st') src d)) where
  base := ⟨(bubble_perm _ _ _).trans h.base.perm, h.base.kind, h.base.failed⟩
  pend := h.pend
  low := fun k hk => by
    have e := getElem?_bubble (xs := arrOf st') (src := src) (by rw [h.base.size]; exact hs) d hd k
    rw [if_neg (by (clear h hs hd e; lia)), if_neg (by (clear h hs hd e; lia))] at e
    exact e.trans (h.low k hk)
def binarySortT : Nat → Nat → Nat → StateT SortSt Sem Bool := sortPriv% PySem.Builtin.binarySort
theorem ask_binary (C : Asks prog w A s kd O K a₀) {st : SortSt} {lo n ok : Nat} {Q : Bool → SortSt → Prop} (hB : Base kd a₀ st) (hn : lo + n ≤ a₀.size) (hok : ok ≤ n) (hs : Up K (arrOf st) lo (lo + ok))
    (h : ∀ st', Kp kd a₀ lo st st' → Up K (arrOf st') lo (lo + n) → Q true st') : wpS (model prog w) A E s (binarySortT lo n ok) Q st := by
  refine wpS_bind (wpS_mono (wpS_forRange (I := fun k c st' => c = (none, ()) ∧ Kp kd a₀ lo st st' ∧ Up K (arrOf st') lo (lo + min k n))
    (Q := fun c st' => c = (none, ()) ∧ Kp kd a₀ lo st st' ∧ Up K (arrOf st') lo (lo + n)) ?step ?fin ?init) ?post)
  case post =>
    rintro c st' ⟨rfl, kp, hs'⟩
    exact wpS_pure (h st' kp hs')
  case init =>
    refine ⟨rfl, Kp.refl hB, fun i j hi hij hj => ?_⟩
    by_cases h1 : ok = 0
    · have : i = j := by (clear C hB hn hok hs h; lia)
      subst this; exact KeyOrd.kle_refl _
    · exact hs i j hi hij (by (clear C hB hn hok hs h hi hij; lia))
  case fin =>
    rintro c st' ⟨hc, kp, hs'⟩
    refine ⟨hc, kp, ?_⟩
    rwa [show min (max (max ok 1) n) n = n by (clear C hB hn hok hs h hc kp hs'; lia)] at hs'
  case step =>
    rintro k c st' hak hkn ⟨rfl, kp, hs'⟩
    rw [show min k n = k by (clear kp hs' C hB hn hok hs h hak; lia)] at hs'
    refine wpS_bind (wpS_mono (forin_of (I := fun x c st'' => st'' = st' ∧ ∃ l r, c = (none, l, r) ∧ l ≤ r ∧ r ≤ k ∧ r - l ≤ k - x ∧
        (∀ i, lo ≤ i → i < lo + l → O.kle (KX K (arrOf st') i) (KX K (arrOf st') (lo + k))) ∧ (∀ i, lo + r ≤ i → i < lo + k → O.klt (KX K (arrOf st') (lo + k)) (KX K (arrOf st') i)))
      (Q := fun c st'' => st'' = st' ∧ ∃ l r, c = (none, l, r) ∧ l ≤ k ∧
        (∀ i, lo ≤ i → i < lo + l → O.kle (KX K (arrOf st') i) (KX K (arrOf st') (lo + k))) ∧ (∀ i, lo + l ≤ i → i < lo + k → O.klt (KX K (arrOf st') (lo + k)) (KX K (arrOf st') i))) ?istep ?ifin ?iinit) ?ipost)
    case iinit => exact ⟨rfl, 0, k, rfl, by (clear C hB hn hok hs h hak hkn kp hs'; lia), by (clear C hB hn hok hs h hak hkn kp hs'; lia), by (clear C hB hn hok hs h hak hkn kp hs'; lia), fun i _ hi => by (clear C hB hn hok hs h hak hkn kp hs'; lia), fun i h1 h2 => by (clear C hB hn hok hs h hak hkn kp hs'; lia)⟩
    case ifin =>
      rintro c st'' ⟨rfl, l, r, rfl, hlr, hrk, hm, hlo, hhi⟩
      have : l = r := by (clear C hB hn hok hs h hak hkn kp hs' hhi hrk hlo; lia)
      subst this
      exact ⟨rfl, l, l, rfl, hrk, hlo, hhi⟩
    case istep =>
      rintro x c st'' hxk ⟨rfl, l, r, rfl, hlr, hrk, hm, hlo, hhi⟩
      dsimp only
      by_cases hge : l ≥ r
      · rw [if_pos hge]
        have : l = r := by (clear C hB hn hok hs h hak hkn hrk hm hlo hhi hxk kp hs'; lia)
        subst this
        exact wpS_pure ⟨rfl, l, l, rfl, hrk, hlo, hhi⟩
      · rw [if_neg hge]
        refine wpS_bind (ask_at C kp.base (by (clear hxk kp hs' hlr hrk hm hlo hhi hge C hB hs h hok hak; lia)) (by (clear hge C hB hs h hxk kp hlo hhi hok hak hs' hm; lia)) ?_)
        dsimp only
        cases hless : O.blt (KX K (arrOf st'') (lo + k)) (KX K (arrOf st'') (lo + (l + r) / 2)) with
        | true =>
          rw [if_pos rfl]
          refine wpS_pure ⟨rfl, l, (l + r) / 2, rfl, by (clear C hB hn hok hs h hak hkn hxk kp hs' hlr hrk hm hlo hhi hless; lia), by (clear C hB hn hok hs h hak hkn hge hless hxk kp hlo hhi hs' hm; lia), by (clear C hB hn hok hs h hak hkn hge hless hxk kp hs' hlr hlo hhi hrk; omega), hlo, fun i h1 h2 => ?_⟩
          exact KeyOrd.klt_of_klt_of_kle hless (hs' _ _ (by (clear C hB hn hok hs h hak hkn hxk kp hs' hlr hrk hm hlo hhi hge hless h1 h2; lia)) h1 h2)
        | false =>
          rw [if_neg (by simp)]
          refine wpS_pure ⟨rfl, (l + r) / 2 + 1, r, rfl, by (clear C hB hn hok hs h hak hkn hxk kp hs' hlr hrk hm hlo hhi hless; lia), by (clear C hB hn hok hs h hak hkn hge hless hxk kp hs' hlr hlo hhi hm; omega), by (clear C hB hn hok hs h hak hkn hge hless hxk kp hs' hlr hlo hhi hrk; omega), fun i h1 h2 => ?_, hhi⟩
          exact KeyOrd.kle_trans (hs' i (lo + (l + r) / 2) h1 (by (clear C hB hn hok hs h hak hkn hxk kp hs' hlr hrk hm hlo hhi hge hless h1; lia)) (by (clear C hB hn hok hs h hak hkn hxk kp hs' hlr hlo hhi h1 h2 hm hless; lia))) (show O.kle _ _ from hless)
    case ipost =>
      rintro c st'' ⟨rfl, l, r, rfl, hlk, hlo, hhi⟩
      dsimp only
      have hks : lo + k < (arrOf st'').size := by rw [kp.base.size]; (clear kp hs' hlk hlo hhi C hB hs h hok hak; lia)
      have kp2 := kp.bubble (src := lo + k) (d := lo + k - (lo + l)) (by (clear kp hs' hlk hlo hhi hks C hB hs h hok hak; lia)) (by (clear C hB hn hok hs h hak hkn kp hs' hlk hlo hhi hks; omega)) (by (clear C hB hn hok hs h hak hkn kp hs' hlk hlo hhi hks; omega))
      refine wpS_bind (wpS_modify (wpS_pure ⟨rfl, kp2, ?_⟩))
      rw [show min (k + 1) n = k + 1 by (clear kp hs' hlk hlo hhi hks kp2 C hB hn hok hs h hak; lia)]
      intro i j hi hij hj
      show O.kle (KX K (PyProof.Rows.bubble (arrOf st'') (lo + k) (lo + k - (lo + l))) i) (KX K (PyProof.Rows.bubble (arrOf st'') (lo + k) (lo + k - (lo + l))) j)
      rw [KX_bubble hks (by (clear C hB hn hok hs h hak hkn kp hs' hlk hlo hhi hks kp2 hi hij hj; omega)), KX_bubble hks (by (clear C hB hn hok hs h hak hkn kp hs' hlk hlo hhi hks kp2 hi hij hj; omega)), show lo + k - (lo + k - (lo + l)) = lo + l by (clear C hB hn hok hs h hak hkn hij hj hhi hks kp2 hi kp hs' hlo; lia)]
      repeat' split
      all_goals first
        | (exfalso; (clear C hB hn hok hs h hak hkn kp hs' hlk hlo hhi hks kp2 hi; omega))
        | exact KeyOrd.kle_refl _
        | exact hlo _ (by (clear C hB hn hok hs h hak hkn hij hj kp hs' hlk hlo hhi hks kp2; omega)) (by (clear C hB hn hok hs h hak hkn kp hs' hlk hlo hhi hks kp2 hi hj; lia))
        | exact KeyOrd.kle_of_klt (hhi _ (by (clear C hB hn hok hs h hak hkn kp hs' hlk hlo hhi hks kp2 hi hij hj; omega)) (by (clear C hB hn hok hs h hak hkn kp hs' hlk hlo hhi hks kp2 hi hij hj; omega)))
        | exact hs' _ _ (by (clear C hB hn hok hs h hak hkn kp hs' hlk hlo hhi hks kp2 hij hj; omega)) (by (clear C hB hn hok hs h hak hkn kp hs' hlk hlo hhi hks kp2 hi hj; omega)) (by (clear C hB hn hok hs h hak hkn kp hs' hlo hhi hks kp2 hi hij; omega))
end
end TS
namespace TS
open PySem PyProof.Rows
section
variable {prog : Program} {w : World} {A : Around} {E : Value → Shared → Prop} {s : Shared} {kd : SortKind} {O : KeyOrd} {K : Keyed → O.α} {a₀ : Array Keyed}
def Runs (O : KeyOrd) (K : Keyed → O.α) (xs : Array Keyed) : List (Nat × Nat × Nat) → Nat → Nat → Prop
  | [], a, b => a = b
  | r :: rs, a, b => r.1 = a ∧ 0 < r.2.1 ∧ Srt O K xs a (a + r.2.1) ∧ Runs O K xs rs (a + r.2.1) b
theorem Runs.le {xs : Array Keyed} : ∀ {p : List (Nat × Nat × Nat)} {a b : Nat}, Runs O K xs p a b → a + p.length ≤ b
  | [], a, b, h => by rw [show a = b from h]; simp
  | r :: rs, a, b, h => by
    obtain ⟨_, h2, _, h4⟩ := h
    have := Runs.le h4
    rw [List.length_cons]
    lia
theorem Runs.append {xs : Array Keyed} : ∀ {p q : List (Nat × Nat × Nat)} {a b : Nat}, Runs O K xs (p ++ q) a b ↔ ∃ c, Runs O K xs p a c ∧ Runs O K xs q c b
  | [], q, a, b => ⟨fun h => ⟨a, rfl, h⟩, fun ⟨c, h1, h2⟩ => by rw [show a = c from h1]; exact h2⟩
  | r :: rs, q, a, b => by
    refine ⟨fun h => ?_, fun h => ?_⟩
    · obtain ⟨h1, h2, h3, h4⟩ := h
      obtain ⟨c, g1, g2⟩ := Runs.append.mp h4
      exact ⟨c, ⟨h1, h2, h3, g1⟩, g2⟩
    · obtain ⟨c, ⟨h1, h2, h3, h4⟩, g⟩ := h
      exact ⟨h1, h2, h3, Runs.append.mpr ⟨c, h4, g⟩⟩
theorem Srt.congr {xs ys : Array Keyed} {lo hi : Nat} (h : Srt O K xs lo hi) (e : ∀ j, lo ≤ j → j < hi → ys[j]? = xs[j]?) : Srt O K ys lo hi := fun i j x y a b c ex ey =>
  h i j x y a b c (by rw [← e i a (by (clear h e ey a ex; lia))]; exact ex) (by rw [← e j (by (clear c ex ey h e; lia)) c]; exact ey)
theorem Runs.congr {xs ys : Array Keyed} : ∀ {p : List (Nat × Nat × Nat)} {a b : Nat}, Runs O K xs p a b → (∀ j, a ≤ j → j < b → ys[j]? = xs[j]?) → Runs O K ys p a b
  | [], a, b, h, _ => h
  | r :: rs, a, b, h, e => by
    obtain ⟨h1, h2, h3, h4⟩ := h
    have := Runs.le h4
    exact ⟨h1, h2, h3.congr fun j q1 q2 => e j q1 (by (clear e h1 h2 h3 h4 q1; lia)), h4.congr fun j q1 q2 => e j (by (clear e h1 h2 h3 h4 this q2; lia)) q2⟩
theorem Runs.one {xs : Array Keyed} {a n q : Nat} (hn : 0 < n) (h : Srt O K xs a (a + n)) : Runs O K xs [(a, n, q)] a (a + n) := ⟨rfl, hn, h, rfl⟩
theorem Runs.power {xs : Array Keyed} {p : List (Nat × Nat × Nat)} {a b : Nat} (f : Nat × Nat × Nat → Nat × Nat × Nat) (hf : ∀ r, (f r).1 = r.1 ∧ (f r).2.1 = r.2.1) (h : Runs O K xs p a b) (i : Nat) : Runs O K xs (p.modify i f) a b := by
  induction p generalizing a i with
  | nil => simpa using h
  | cons r rs ih =>
    obtain ⟨h1, h2, h3, h4⟩ := h
    cases i with
    | zero =>
      rw [List.modify_zero_cons]
      obtain ⟨f1, f2⟩ := hf r
      refine ⟨f1.trans h1, by rw [f2]; exact h2, by rw [f2]; exact h3, by rw [f2]; exact h4⟩
    | succ i =>
      rw [List.modify_succ_cons]
      exact ⟨h1, h2, h3, ih h4 i⟩
theorem two_of {α : Type} : ∀ (l : List α) (i : Nat), i + 1 < l.length → ∃ p x y q, l = p ++ x :: y :: q ∧ p.length = i
  | x :: y :: q, 0, _ => ⟨[], x, y, q, rfl, rfl⟩
  | [_], 0, h => by simp at h
  | [], _, h => by simp at h
  | z :: l, i + 1, h => by
    obtain ⟨p, x, y, q, e, hp⟩ := two_of l i (by simpa using h)
    exact ⟨z :: p, x, y, q, by rw [e]; rfl, by rw [List.length_cons, hp]⟩
theorem ask_mergeRun (C : Asks prog w A s kd O K a₀) {st : SortSt} {i lo : Nat} {Q : Bool → SortSt → Prop} (hB : Base kd a₀ st) (hr : Runs O K (arrOf st) (pendingOf st).toList 0 lo) (hlo : lo ≤ a₀.size) (hi : i + 1 < (pendingOf st).size)
    (h : ∀ st', Base kd a₀ st' → Runs O K (arrOf st') (pendingOf st').toList 0 lo → (pendingOf st').size + 1 = (pendingOf st).size → (∀ j, lo ≤ j → (arrOf st')[j]? = (arrOf st)[j]?) → Q true st') : wpS (model prog w) A E s (mergeAtT i) Q st := by
  obtain ⟨p, ⟨sa, na, pw⟩, ⟨sb, nb, pw2⟩, q, e, hp⟩ := two_of (pendingOf st).toList i (by simpa using hi)
  rw [e] at hr
  obtain ⟨c, r1, r2⟩ := Runs.append.mp hr
  obtain ⟨g1, g2, g3, g4, g5, g6, g7⟩ := r2
  dsimp only at g1 g2 g3 g4 g5 g6 g7
  subst g1
  subst g4
  have l7 := g7.le
  have e1 : (pendingOf st)[i]? = some (sa, na, pw) := by
    rw [← Array.getElem?_toList, e, ← hp, List.getElem?_append_right (Nat.le_refl _), Nat.sub_self]
    rfl
  have e2 : (pendingOf st)[i + 1]? = some (sa + na, nb, pw2) := by
    rw [← Array.getElem?_toList, e, ← hp, List.getElem?_append_right (by (clear C hB hlo hi h hp g2 g5 r1 g3 g6 g7 hr e l7 e1; lia)), show p.length + 1 - p.length = 1 by (clear C hB hlo hi h hp g2 g5 r1 g3 g6 g7 hr e l7 e1; lia)]
    rfl
  refine ask_mergeAt C hB e1 e2 g2 g5 (by (clear e2 h hp g2 g5 r1 g3 g6 g7 C hB hr e hi e1; lia)) g3 g6 fun st' hB' hpe hout hs => ?_
  have el : (pendingOf st').toList = p ++ (sa, na + nb, pw) :: q := by
    rw [hpe, Array.toList_eraseIdxIfInBounds, Array.toList_setIfInBounds, e, ← hp, List.set_append_right _ _ (Nat.le_refl _), Nat.sub_self, List.set_cons_zero, List.eraseIdx_append_of_length_le (by (clear C hB hlo hi h hp g2 g5 r1 g3 g6 g7 hr e l7 e1 e2 hB' hpe hout hs; lia)), show p.length + 1 - p.length = 1 by (clear C hB hlo hi h hp g2 g5 r1 g3 g6 g7 hr e l7 e1 e2 hB' hpe hout hs; lia)]
    rfl
  have lr1 := r1.le
  refine h st' hB' ?_ ?_ fun j hj => hout j (.inr (by (clear C hB hlo hi h hp g2 g5 r1 g3 g6 g7 e2 hB' hpe hout hr e hs el e1 lr1; lia)))
  · rw [el]
    refine Runs.append.mpr ⟨sa, r1.congr fun j _ q2 => hout j (.inl q2), rfl, by show 0 < na + nb; (clear r1 g3 g6 g7 hr e l7 e1 e2 hB' hpe hout hs el lr1 C hB hlo hi h hp g2; lia), ?_, ?_⟩
    · show Srt O K _ sa (sa + (na + nb))
      rw [← Nat.add_assoc]
      exact hs
    · show Runs O K _ q (sa + (na + nb)) lo
      rw [← Nat.add_assoc]
      exact g7.congr fun j q1 _ => hout j (.inr q1)
  · have : (pendingOf st').toList.length + 1 = (pendingOf st).toList.length := by
      rw [el, e]
      simp
      (clear C hB hlo hi h hp g2 g5 r1 g3 g6 g7 hr e l7 e1 e2 hB' hpe hout hs el lr1; lia)
    simpa using this

abbrev setPend (st : SortSt) (p : Array (Nat × Nat × Nat)) : SortSt := SortSt.mk' (kindOf st) (arrOf st) p (gallopOf st) (failedOf st)
def sortRunsT : StateT SortSt Sem Unit := sortPriv% PySem.Builtin.sortRuns

theorem pick_lt {n : Nat} (b : Prop) [Decidable b] (h : 1 < n) : (if b then n - 2 - 1 else n - 2) + 1 < n := by split <;> omega
theorem ask_runs (C : Asks prog w A s kd O K a₀) {st : SortSt} {Q : Unit → SortSt → Prop} (hB : Base kd a₀ st) (hp0 : pendingOf st = #[])
    (h : ∀ st', (arrOf st').Perm a₀ → failedOf st' = none → Srt O K (arrOf st') 0 a₀.size → Q () st') : wpS (model prog w) A E s sortRunsT Q st := by
  refine wpS_bind (wpS_get ?_)
  dsimp only
  have hz : (arrOf st).size = a₀.size := hB.size
  generalize hmr : (sortPriv% PySem.Builtin.minRun) (arrOf st).size (arrOf st).size 0 = minrun
  rw [hz]
  refine wpS_bind (wpS_mono (forin_of (I := fun x c st' => ∃ lo, c = (none, lo) ∧ Base kd a₀ st' ∧ Runs O K (arrOf st') (pendingOf st').toList 0 lo ∧ lo ≤ a₀.size ∧ x ≤ lo)
    (Q := fun c st' => c = (none, a₀.size) ∧ Base kd a₀ st' ∧ Runs O K (arrOf st') (pendingOf st').toList 0 a₀.size) ?step ?fin ⟨0, rfl, hB, by rw [hp0]; rfl, Nat.zero_le _, Nat.le_refl _⟩) ?post)
  case fin =>
    rintro c st' ⟨lo, rfl, hB', hr, hlo, hx⟩
    have : lo = a₀.size := by (clear C hB hp0 h hz hmr hB' hr; lia)
    subst this
    exact ⟨rfl, hB', hr⟩
  case step =>
    rintro x c st' hx ⟨lo, rfl, hB', hr, hlo, hxl⟩
    dsimp only
    by_cases hge : lo ≥ a₀.size
    · rw [if_pos hge]
      have : lo = a₀.size := by (clear C hB hp0 h hz hmr hx hB' hr hxl; lia)
      subst this
      exact wpS_pure ⟨rfl, hB', hr⟩
    · rw [if_neg hge]
      refine wpS_bind (ask_count C hB' (by (clear C hB hp0 h hz hmr hx hB' hr hlo hxl; lia)) (by (clear C hB hp0 h hz hmr hx hB' hr hlo hxl; lia)) fun m st2 kp2 hm1 hm2 hs2 => ?_)
      dsimp only
      have hr2 : Runs O K (arrOf st2) (pendingOf st2).toList 0 lo := by
        rw [kp2.pend]
        exact hr.congr fun j _ q => kp2.low j q
      by_cases hlt : m < minrun
      · rw [if_pos hlt]
        refine wpS_bind (wpS_lift (wpAny_rule ⟨rfl, ?_⟩))
        refine wpS_bind (ask_binary C kp2.base (by (clear C hB hp0 h hz hmr hx hB' hr2 hlt hr hlo hxl hge kp2 hs2; lia)) (by (clear C hB hp0 h hz hmr hx hB' hr hlo hxl hge kp2 hm1 hs2 hr2; lia)) hs2 fun st3 kp3 hs3 => ?_)
        rw [if_neg (by simp)]
        have hr3 : Runs O K (arrOf st3) (pendingOf st3).toList 0 lo := by
          rw [kp3.pend]
          exact hr2.congr fun j _ q => kp3.low j q
        have hB3 := kp3.base
        have hn1 : 1 ≤ min (a₀.size - lo) minrun ∧ lo + min (a₀.size - lo) minrun ≤ a₀.size := ⟨by (clear C hB hp0 h hz hmr hx hB' hr hlo hxl hge hr3 hB3 kp3 hs3 kp2 hs2 hr2; lia), by (clear C hB hp0 h hz hmr hx hB' hr2 hlt kp3 hs3 hr3 hB3 hr hlo hxl hge kp2 hs2; lia)⟩
        generalize min (a₀.size - lo) minrun = n at hs3 hn1 ⊢
        refine wpS_bind (wpS_get ?_)
        have endp : ∀ st4 : SortSt, Base kd a₀ st4 → Runs O K (arrOf st4) (pendingOf st4).toList 0 lo → (∀ j, lo ≤ j → (arrOf st4)[j]? = (arrOf st3)[j]?) →
            ∃ lo', ((none, lo + n) : Option Unit × Nat) = (none, lo') ∧ Base kd a₀ (setPend st4 ((pendingOf st4).push (lo, n, 0))) ∧ Runs O K (arrOf st4) ((pendingOf st4).push (lo, n, 0)).toList 0 lo' ∧ lo' ≤ a₀.size ∧ x + 1 ≤ lo' := fun st4 hB4 hr4 hk4 => by
          refine ⟨lo + n, rfl, ⟨hB4.perm, hB4.kind, hB4.failed⟩, ?_, hn1.2, by (clear C hB hp0 h hz hmr hx hB' hr4 hk4 kp2 hm1 hm2 hs2 hr2 hlt kp3 hr3 hr hlo hB3 hs3 hge hB4; lia)⟩
          rw [Array.toList_push]
          exact Runs.append.mpr ⟨lo, hr4, Runs.one hn1.1 (hs3.srt.congr fun j q1 _ => hk4 j q1)⟩
        cases hbk : (pendingOf st3).back? with
        | none =>
          dsimp only
          exact wpS_bind (wpS_modify (wpS_pure (endp st3 hB3 hr3 fun _ _ => rfl)))
        | some r =>
          obtain ⟨s1, n1, pq⟩ := r
          dsimp only
          generalize (sortPriv% PySem.Builtin.power) a₀.size (2 * s1 + n1) (2 * s1 + n1 + n1 + n) a₀.size = pw
          refine wpS_bind (wpS_mono (forin_of (I := fun _ c st4 => c = (none, ()) ∧ Base kd a₀ st4 ∧ Runs O K (arrOf st4) (pendingOf st4).toList 0 lo ∧ ∀ j, lo ≤ j → (arrOf st4)[j]? = (arrOf st3)[j]?)
            (Q := fun c st4 => c = (none, ()) ∧ Base kd a₀ st4 ∧ Runs O K (arrOf st4) (pendingOf st4).toList 0 lo ∧ ∀ j, lo ≤ j → (arrOf st4)[j]? = (arrOf st3)[j]?) ?_ (fun _ _ z => z) ⟨rfl, hB3, hr3, fun _ _ => rfl⟩) ?_)
          · rintro y c st4 _ ⟨rfl, hB4, hr4, hk4⟩
            refine wpS_bind (wpS_get ?_)
            by_cases hg : (pendingOf st4).size > 1
            · obtain ⟨⟨o1, o2, older⟩, ho⟩ : ∃ r, (pendingOf st4)[(pendingOf st4).size - 2]? = some r := ⟨_, getElem?_pos _ _ (by (clear C hB hp0 h hz hmr hx hB' hr hlo hxl hge kp2 hm1 hm2 hs2 hr2 hlt kp3 hr3 hB3 hs3 hn1 endp hbk hB4 hr4 hk4; omega))⟩
              rw [if_pos hg, ho]
              dsimp only
              by_cases hle : older ≤ pw
              · rw [if_pos hle]
                exact wpS_pure ⟨rfl, hB4, hr4, hk4⟩
              · rw [if_neg hle]
                refine wpS_bind (ask_mergeRun C hB4 hr4 hlo (show (pendingOf st4).size - 2 + 1 < (pendingOf st4).size by (clear C hB hp0 h hz hmr hx hB' hr hlo hxl hge kp2 hm1 hm2 hs2 hr2 hlt kp3 hr3 hB3 hs3 hn1 endp hbk hB4 hr4 hk4 hle ho; lia)) fun st5 hB5 hr5 _ hk5 => ?_)
                rw [if_neg (by simp)]
                exact wpS_pure ⟨rfl, hB5, hr5, fun j hj => (hk5 j hj).trans (hk4 j hj)⟩
            · rw [if_neg hg]
              exact wpS_pure ⟨rfl, hB4, hr4, hk4⟩
          · rintro c st4 ⟨rfl, hB4, hr4, hk4⟩
            dsimp only
            refine wpS_bind (wpS_modify ?_)
            refine wpS_bind (wpS_modify (wpS_pure (endp (setPend st4 ((pendingOf st4).modify ((pendingOf st4).size - 1) fun r => (r.1, r.2.1, pw))) ⟨hB4.perm, hB4.kind, hB4.failed⟩ ?_ hk4)))
            show Runs O K (arrOf st4) ((pendingOf st4).modify ((pendingOf st4).size - 1) fun r => (r.1, r.2.1, pw)).toList 0 lo
            rw [Array.toList_modify]
            exact Runs.power (fun r => (r.1, r.2.1, pw)) (fun r => ⟨rfl, rfl⟩) hr4 _
      · rw [if_neg hlt]
        have hs3 := hs2
        have hr3 := hr2
        have hB3 := kp2.base
        have hn1 : 1 ≤ m ∧ lo + m ≤ a₀.size := ⟨hm1, by (clear C hB hp0 h hz hmr hx hB' hr2 hlt hs3 hr3 hB3 hr hlo hxl hge kp2 hs2; lia)⟩
        generalize hgm : m = n at hs3 hn1 ⊢
        generalize hgs : st2 = st3 at hs3 hr3 hB3 ⊢
        refine wpS_bind (wpS_get ?_)
        have endp : ∀ st4 : SortSt, Base kd a₀ st4 → Runs O K (arrOf st4) (pendingOf st4).toList 0 lo → (∀ j, lo ≤ j → (arrOf st4)[j]? = (arrOf st3)[j]?) →
            ∃ lo', ((none, lo + n) : Option Unit × Nat) = (none, lo') ∧ Base kd a₀ (setPend st4 ((pendingOf st4).push (lo, n, 0))) ∧ Runs O K (arrOf st4) ((pendingOf st4).push (lo, n, 0)).toList 0 lo' ∧ lo' ≤ a₀.size ∧ x + 1 ≤ lo' := fun st4 hB4 hr4 hk4 => by
          refine ⟨lo + n, rfl, ⟨hB4.perm, hB4.kind, hB4.failed⟩, ?_, hn1.2, by (clear C hB hp0 h hz hmr hx hB' hB4 hr4 hk4 kp2 hm1 hm2 hs2 hgs hs3 hr3 hB3 hr hlo hr2 hlt hge hgm; lia)⟩
          rw [Array.toList_push]
          exact Runs.append.mpr ⟨lo, hr4, Runs.one hn1.1 (hs3.srt.congr fun j q1 _ => hk4 j q1)⟩
        cases hbk : (pendingOf st3).back? with
        | none =>
          dsimp only
          exact wpS_bind (wpS_modify (wpS_pure (endp st3 hB3 hr3 fun _ _ => rfl)))
        | some r =>
          obtain ⟨s1, n1, pq⟩ := r
          dsimp only
          generalize (sortPriv% PySem.Builtin.power) a₀.size (2 * s1 + n1) (2 * s1 + n1 + n1 + n) a₀.size = pw
          refine wpS_bind (wpS_mono (forin_of (I := fun _ c st4 => c = (none, ()) ∧ Base kd a₀ st4 ∧ Runs O K (arrOf st4) (pendingOf st4).toList 0 lo ∧ ∀ j, lo ≤ j → (arrOf st4)[j]? = (arrOf st3)[j]?)
            (Q := fun c st4 => c = (none, ()) ∧ Base kd a₀ st4 ∧ Runs O K (arrOf st4) (pendingOf st4).toList 0 lo ∧ ∀ j, lo ≤ j → (arrOf st4)[j]? = (arrOf st3)[j]?) ?_ (fun _ _ z => z) ⟨rfl, hB3, hr3, fun _ _ => rfl⟩) ?_)
          · rintro y c st4 _ ⟨rfl, hB4, hr4, hk4⟩
            refine wpS_bind (wpS_get ?_)
            by_cases hg : (pendingOf st4).size > 1
            · obtain ⟨⟨o1, o2, older⟩, ho⟩ : ∃ r, (pendingOf st4)[(pendingOf st4).size - 2]? = some r := ⟨_, getElem?_pos _ _ (by (clear C hB hp0 h hz hmr hx hB' hr hlo hxl hge kp2 hm1 hm2 hs2 hr2 hlt hgm hn1 hgs hs3 hr3 hB3 endp hbk hB4 hr4 hk4; omega))⟩
              rw [if_pos hg, ho]
              dsimp only
              by_cases hle : older ≤ pw
              · rw [if_pos hle]
                exact wpS_pure ⟨rfl, hB4, hr4, hk4⟩
              · rw [if_neg hle]
                refine wpS_bind (ask_mergeRun C hB4 hr4 hlo (show (pendingOf st4).size - 2 + 1 < (pendingOf st4).size by (clear C hB hp0 h hz hmr hx hB' hr hlo hxl hge kp2 hm1 hm2 hs2 hr2 hlt hgm hn1 hgs hs3 hr3 hB3 endp hbk hB4 hr4 ho hle hk4; lia)) fun st5 hB5 hr5 _ hk5 => ?_)
                rw [if_neg (by simp)]
                exact wpS_pure ⟨rfl, hB5, hr5, fun j hj => (hk5 j hj).trans (hk4 j hj)⟩
            · rw [if_neg hg]
              exact wpS_pure ⟨rfl, hB4, hr4, hk4⟩
          · rintro c st4 ⟨rfl, hB4, hr4, hk4⟩
            dsimp only
            refine wpS_bind (wpS_modify ?_)
            refine wpS_bind (wpS_modify (wpS_pure (endp (setPend st4 ((pendingOf st4).modify ((pendingOf st4).size - 1) fun r => (r.1, r.2.1, pw))) ⟨hB4.perm, hB4.kind, hB4.failed⟩ ?_ hk4)))
            show Runs O K (arrOf st4) ((pendingOf st4).modify ((pendingOf st4).size - 1) fun r => (r.1, r.2.1, pw)).toList 0 lo
            rw [Array.toList_modify]
            exact Runs.power (fun r => (r.1, r.2.1, pw)) (fun r => ⟨rfl, rfl⟩) hr4 _
  case post =>
    rintro c st' ⟨rfl, hB', hr⟩
    dsimp only
    have hl := hr.le
    refine wpS_bind (wpS_mono (forin_of (I := fun x c st2 => c = (none, ()) ∧ Base kd a₀ st2 ∧ Runs O K (arrOf st2) (pendingOf st2).toList 0 a₀.size ∧ (pendingOf st2).size + x ≤ a₀.size)
      (Q := fun c st2 => c = (none, ()) ∧ Base kd a₀ st2 ∧ Runs O K (arrOf st2) (pendingOf st2).toList 0 a₀.size ∧ (pendingOf st2).size ≤ 1) ?_ ?_ ⟨rfl, hB', hr, by simpa using hl⟩) ?_)
    · rintro x c st2 hx ⟨rfl, hB2, hr2, hc⟩
      refine wpS_bind (wpS_get ?_)
      by_cases h1 : (pendingOf st2).size ≤ 1
      · rw [if_pos h1]
        exact wpS_pure ⟨rfl, hB2, hr2, h1⟩
      · rw [if_neg h1]
        refine wpS_bind (ask_mergeRun C hB2 hr2 (Nat.le_refl _) (pick_lt (n := (pendingOf st2).size) _ (by (clear C hB hp0 h hz hmr hB' hr hl hx hB2 hr2 hc; lia))) fun st3 hB3 hr3 hc3 _ => ?_)
        rw [if_neg (by simp)]
        exact wpS_pure ⟨rfl, hB3, hr3, by (clear C hB hp0 h hz hmr hB' hr hl hx hB2 hr2 hB3 hr3 h1; lia)⟩
    · rintro c st2 ⟨rfl, hB2, hr2, hc⟩
      exact ⟨rfl, hB2, hr2, by (clear C hB hp0 h hz hmr hB' hr hl hB2 hr2; lia)⟩
    · rintro c st2 ⟨rfl, hB2, hr2, hc⟩
      refine wpS_pure (h st2 hB2.perm hB2.failed ?_)
      have hc' : (pendingOf st2).toList.length ≤ 1 := by simpa using hc
      match hpl : (pendingOf st2).toList, hc' with
      | [], _ =>
        rw [hpl] at hr2
        have : 0 = a₀.size := hr2
        intro i j x y _ _ hj
        (clear C hB hp0 h hz hmr hB' hr hl hB2 hr2 hc hc' hpl; lia)
      | [r], _ =>
        rw [hpl] at hr2
        obtain ⟨_, _, g3, g4⟩ := hr2
        have : 0 + r.2.1 = a₀.size := g4
        rw [this] at g3
        exact g3
end
end TS
set_option autoImplicit true
namespace L2
open PySem PySem.Spec PyProof.Rows

structure CompD where
  C : Addr
  cl : List (Str × Addr)
  s₀ : Shared
  H₀ : Hp
  ex : List Addr
  pn : List (Addr × Obj)
def compCx (X : Cx) (scope : Scope) (N : List Str) (d : CompD) : Cx where
  prog := X.prog
  w := X.w
  K := X.K
  mg := X.mg
  base := X.base
  A := X.A
  N := N
  s₀ := d.s₀
  H₀ := d.H₀
  env := compEnvC scope d.cl d.C X.env
  outer := X.stack
  stack := X.stack
  ex := d.ex
  fn := fun _ => false
  calm := true
  pn := d.pn
  xe := fun _ _ => False
structure CompScope (X : Cx) (scope : Scope) (N : List Str) (caps : List (Option Nat)) : Prop where
  kind : scope.kind = .function
  nocell : ∀ y ∈ scope.names, y.2 ≠ .cell
  names : ∀ y ∈ scope.names, y.2 = .local → scope.names.lookup y.1 = some .local
  free : ∀ y ∈ scope.names, y.2 = .free → X.env.kindOf y.1 = some .cell ∨ X.env.kindOf y.1 = some .free
  len : caps.length = N.length
  cap : ∀ (i j : Nat), caps[i]? = some (some j) → ∃ x, N[i]? = some x ∧ X.N[j]? = some x ∧ (x, NameKind.free) ∈ scope.names ∧ scope.names.lookup x = some .free
def capt (caps : List (Option Nat)) (σ : St) : St := caps.map fun o => match o with
  | some j => (σ[j]?).getD none
  | none => none
theorem capt_get {caps : List (Option Nat)} {σ : St} {i : Nat} {v : V} (h : (capt caps σ)[i]? = some (some v)) : ∃ j, caps[i]? = some (some j) ∧ σ[j]? = some (some v) := by
  unfold capt at h
  rw [List.getElem?_map] at h
  cases e : caps[i]? with
  | none => rw [e] at h; cases h
  | some o =>
    rw [e] at h
    cases o with
    | none => cases h
    | some j =>
      refine ⟨j, rfl, ?_⟩
      have h' : (σ[j]?).getD none = some v := Option.some.inj h
      cases q : σ[j]? with
      | none => rw [q] at h'; cases h'
      | some z =>
        rw [q] at h'
        have : z = some v := h'
        rw [this]

theorem closure_step {env : Env} : ∀ (names : List (Str × NameKind)) (cs : List (Str × Addr)), (∀ y ∈ names, y.2 = .free → ∃ c, env.cells.lookup y.1 = some c) → (∀ x c, cs.lookup x = some c → env.cells.lookup x = some c) →
    ∃ cl, (forIn names cs fun x r => (match x with
      | (name, kind) => if (kind == NameKind.free) = true then (do let a ← cellOf env name; pure (ForInStep.yield ((name, a) :: r))) else pure (ForInStep.yield r) : Sem (ForInStep (List (Str × Addr))))) = pure cl ∧
      (∀ x c, cl.lookup x = some c → env.cells.lookup x = some c) ∧ (∀ x c, cs.lookup x = some c → ∃ c', cl.lookup x = some c') ∧ ∀ y ∈ names, y.2 = .free → ∃ c, cl.lookup y.1 = some c
  | [], cs, _, h => ⟨cs, by rw [List.forIn_nil], h, fun x c e => ⟨c, e⟩, fun y hy => by cases hy⟩
  | (n, k) :: r, cs, hf, h => by
    rw [List.forIn_cons]
    by_cases hk : (k == NameKind.free) = true
    · have hk' : k = .free := by simpa using hk
      obtain ⟨c, hc⟩ := hf (n, k) List.mem_cons_self hk'
      have hco : cellOf env n = pure c := by unfold cellOf; rw [hc]
      obtain ⟨cl, e, h1, h2, h3⟩ := closure_step r ((n, c) :: cs) (fun y hy => hf y (List.mem_cons_of_mem _ hy)) (fun x c' e => by
        by_cases hx : (x == n) = true
        · rw [List.lookup_cons, hx] at e
          have : c = c' := Option.some.inj e
          rw [← this, (eq_of_beq hx : x = n)]; exact hc
        · have hx' : (x == n) = false := by simpa using hx
          rw [List.lookup_cons, hx'] at e
          exact h x c' e)
      refine ⟨cl, ?_, h1, fun x c' e' => ?_, fun y hy hy2 => ?_⟩
      · simp only [hk, if_true, hco, pure_bind]
        exact e
      · by_cases hx : (x == n) = true
        · exact h2 x c (by rw [List.lookup_cons, hx])
        · have hx' : (x == n) = false := by simpa using hx
          exact h2 x c' (by rw [List.lookup_cons, hx']; exact e')
      · rcases List.mem_cons.mp hy with rfl | hy
        · exact h2 n c (by rw [List.lookup_cons, beq_self_eq_true])
        · exact h3 y hy hy2
    · obtain ⟨cl, e, h1, h2, h3⟩ := closure_step r cs (fun y hy => hf y (List.mem_cons_of_mem _ hy)) h
      refine ⟨cl, ?_, h1, h2, fun y hy hy2 => ?_⟩
      · simp only [hk, if_false, pure_bind]
        exact e
      · rcases List.mem_cons.mp hy with rfl | hy
        · exact absurd hy2 (by simpa using hk)
        · exact h3 y hy hy2
theorem closure_of {env : Env} {scope : Scope} (hf : ∀ y ∈ scope.names, y.2 = .free → ∃ c, env.cells.lookup y.1 = some c) :
    ∃ cl, closureFor scope env = pure cl ∧ (∀ x c, cl.lookup x = some c → env.cells.lookup x = some c) ∧ ∀ y ∈ scope.names, y.2 = .free → ∃ c, cl.lookup y.1 = some c := by
  obtain ⟨cl, e, h1, _, h3⟩ := closure_step scope.names [] hf (fun x c e => by cases e)
  refine ⟨cl, ?_, h1, h3⟩
  exact (congrArg (fun z => z >>= fun c => pure c) e).trans (pure_bind cl _)

theorem relabel_look {env : Env} {scope : Scope} {x : Str} {k : NameKind} (hn : ∀ y ∈ scope.names, y.2 ≠ .cell) (hk : k = .cell ∨ k = .free) (h : (relabel scope env).names.lookup x = some k) : (x, NameKind.free) ∈ scope.names := by
  have hm : (x, k) ∈ (relabel scope env).names := by
    have : ∀ (l : List (Str × NameKind)), l.lookup x = some k → (x, k) ∈ l := by
      intro l
      induction l with
      | nil => intro h; cases h
      | cons p r ih =>
        intro h
        obtain ⟨n, j⟩ := p
        rw [List.lookup_cons] at h
        cases hx : x == n with
        | true =>
          rw [hx] at h
          have e1 : j = k := Option.some.inj h
          rw [← e1, (eq_of_beq hx : x = n)]
          exact List.mem_cons_self
        | false =>
          rw [hx] at h
          exact List.mem_cons_of_mem _ (ih h)
    exact this _ h
  unfold relabel at hm
  obtain ⟨⟨n, j⟩, hy, e⟩ := List.mem_map.mp hm
  dsimp only at e
  split at e
  · rename_i hc
    have e1 : n = x := (Prod.mk.inj e).1
    have hj : j = .free := by
      simp only [Bool.and_eq_true, beq_iff_eq] at hc
      exact hc.1.1
    rw [← e1, ← hj]
    exact hy
  · have e1 : n = x := (Prod.mk.inj e).1
    have e2 : j = k := (Prod.mk.inj e).2
    subst e1 e2
    rcases hk with rfl | rfl
    · exact absurd rfl (hn _ hy)
    · exact hy
theorem relabel_free {env : Env} : ∀ {names : List (Str × NameKind)} {x : Str}, names.lookup x = some .free →
    (names.map fun (n, k) => if (k == NameKind.free && env.scope.kind == .function && env.kindOf n == some .cell) then (n, NameKind.cell) else (n, k)).lookup x = some .cell ∨
    (names.map fun (n, k) => if (k == NameKind.free && env.scope.kind == .function && env.kindOf n == some .cell) then (n, NameKind.cell) else (n, k)).lookup x = some .free
  | [], _, h => by simp at h
  | (n, k) :: r, x, h => by
    have ih := @relabel_free env r x
    show List.lookup x ((if (k == NameKind.free && env.scope.kind == .function && env.kindOf n == some .cell) = true then (n, NameKind.cell) else (n, k)) :: _) = _ ∨ List.lookup x ((if (k == NameKind.free && env.scope.kind == .function && env.kindOf n == some .cell) = true then (n, NameKind.cell) else (n, k)) :: _) = _
    cases hx : x == n with
    | true =>
      simp only [List.lookup_cons, hx] at h
      have hk : k = .free := Option.some.inj h
      subst hk
      by_cases hc : (NameKind.free == NameKind.free && env.scope.kind == .function && env.kindOf n == some .cell) = true
      · rw [if_pos hc]; left; simp only [List.lookup_cons, hx]
      · rw [if_neg hc]; right; simp only [List.lookup_cons, hx]
    | false =>
      simp only [List.lookup_cons, hx] at h
      by_cases hc : (k == NameKind.free && env.scope.kind == .function && env.kindOf n == some .cell) = true
      · rw [if_pos hc]; simp only [List.lookup_cons, hx]; exact ih h
      · rw [if_neg hc]; simp only [List.lookup_cons, hx]; exact ih h

section
variable {X : Cx} {pins : List (Addr × Obj)} {σ : St} {H : Hp} {s : Shared} {scope : Scope} {N : List Str} {caps : List (Option Nat)} {cl : List (Str × Addr)} {fp : List Addr}
theorem inv_comp {h1 : Heap} {m0 : Str → Option Value} {t' : Nat} (I : Inv X pins σ H s) (S : CompScope X scope N caps) (hc : X.calm = true) (c1 : ∀ x c, cl.lookup x = some c → X.env.cells.lookup x = some c) (c2 : ∀ y ∈ scope.names, y.2 = .free → ∃ c, cl.lookup y.1 = some c)
    (hfp : ∀ b ∈ fp, FpOk X pins H b) (hlt : ∀ b ∈ fp, b < s.heap.objs.size) (hns : h1.Ns s.heap.objs.size m0) (keep : ∀ b o, s.heap.get? b = some o → h1.get? b = some o) :
    Inv (compCx X scope N ⟨s.heap.objs.size, cl, s, H, fp, X.pn ++ pins⟩) [] (capt caps σ) H { s with heap := h1, toks := t' } where
  ok := {
    mod := I.ok.mod
    kind := S.kind
    glob := I.ok.glob
    blt := I.ok.blt
    above := Nat.le_refl _
    inj := fun x y c hx hy => I.ok.inj x y c (c1 x c hx) (c1 y c hy)
    has := fun x hx => by
      have hm : (x, NameKind.free) ∈ scope.names := by
        rcases hx with hx | hx
        · exact relabel_look S.nocell (.inl rfl) hx
        · exact relabel_look S.nocell (.inr rfl) hx
      exact c2 _ hm rfl
    cab := fun x c hx => by cases hx
    hd := fun _ => I.ok.hd hc
    frames := I.ok.frames
    stk := .inl rfl
    exf := fun b hb => ⟨Nat.ne_of_lt (hlt b hb), fun x c e => (hfp b hb).2.2.2.2.1 x c (c1 x c e)⟩
    bs := I.bs
    bsz := Nat.le_trans I.ok.bsz I.sz
    noex := fun b o e hb => by
      rcases (hfp b hb).2.2.2.1 with z | z
      · exact I.ok.noex b o e z
      · exact absurd (Nat.lt_of_lt_of_le (Heap.lt_size e) (Nat.le_trans I.ok.bsz z)) (Nat.lt_irrefl _)
    exfs := fun b hb z => by
      rcases List.mem_cons.mp (I.stkSub b z) with e | e
      · exact (hfp b hb).2.1 e
      · exact (hfp b hb).2.2.1 e
    funs := I.stack
    frf := I.stkFree }
  os := rfl
  bare := I.bare
  base := Un.kept keep
  loc := by
    refine ⟨m0, hns, fun i x v e1 e2 e3 => ?_⟩
    obtain ⟨j, hj, hσ⟩ := capt_get e2
    obtain ⟨y, g1, g2, g3, g4⟩ := S.cap i j hj
    have g1' : N[i]? = some x := e1
    rw [g1] at g1'
    cases g1'
    obtain ⟨m, hn, hl⟩ := I.loc
    have hk := S.free _ g3 rfl
    obtain ⟨u, r, l⟩ := hl j x v g2 hσ (by rcases hk with z | z; exact .inr (.inl z); exact .inr (.inr z))
    refine ⟨u, r, .inr ⟨relabel_free g4, ?_⟩⟩
    rcases l with ⟨k1, _⟩ | ⟨k1, c, ec, hcell⟩
    · rcases hk with z | z <;> (rw [k1] at z; cases z)
    · obtain ⟨c', ec'⟩ := c2 _ g3 rfl
      have := c1 _ _ ec'
      rw [ec] at this
      cases this
      obtain ⟨o, ho, hd⟩ := hcell
      exact ⟨c, ec', o, keep _ _ ho, hd⟩
  cell := fun x c e => by
    obtain ⟨v, o, ho, hd⟩ := I.cell x c (c1 x c e)
    exact ⟨v, o, keep _ _ ho, hd⟩
  free := I.hok.fresh (Nat.le_refl _)
  freeC := fun x c e => I.freeC x c (c1 x c e)
  pin := fun p hp => by
    have hp' : p ∈ (X.pn ++ pins) ++ [] := hp
    rw [List.append_nil] at hp'
    obtain ⟨a1, a2, a3, a4, a5⟩ := I.pin p hp'
    refine ⟨keep _ _ a1, a2, Nat.ne_of_lt (Heap.lt_size a1), fun z => ?_, a5⟩
    rcases List.mem_cons.mp (I.stkSub _ z) with e | e
    · exact a3 e
    · exact a4 e
  hok := I.hok.kept keep
  len := by
    show (capt caps σ).length = N.length
    unfold capt
    rw [List.length_map]
    exact S.len
theorem comp_out {σ' : St} {H' : Hp} {s' : Shared} {h' : Heap} {d : CompD} (I : Inv X pins σ H s) (hfp : ∀ b ∈ d.ex, FpOk X pins H b) (e0 : d.s₀ = s) (e1 : d.H₀ = H) (hC : s.heap.objs.size ≤ d.C) (I' : Inv (compCx X scope N d) [] σ' H' s') (hs : Heap.SameBut d.C s'.heap h') :
    Inv X pins σ H' { s' with heap := h' } := by
  have hCn : H' d.C = none := I'.free
  have b' : Un (frs X.stack) d.ex H H' s.heap s'.heap := by
    have := I'.base
    rw [show (compCx X scope N d).H₀ = H from e1, show (compCx X scope N d).s₀ = s from e0] at this
    exact this
  have same : ∀ b o, s'.heap.get? b = some o → b ≠ d.C → h'.get? b = some o := fun b o e hb => (hs.2 b hb).trans e
  have low : ∀ b o, s.heap.get? b = some o → b ≠ d.C := fun b o e => Nat.ne_of_lt (Nat.lt_of_lt_of_le (Heap.lt_size e) hC)
  have u : Un (frs X.stack) d.ex H H' s.heap h' := by
    refine ⟨fun b o e n h1 h2 => same b o (b'.keep b o e n h1 h2) (low b o e), fun b o e n h1 h2 => ?_, b'.free, fun b o e h2 => ?_, b'.tups, b'.frzs, b'.tbls⟩
    · obtain ⟨sl, q⟩ := b'.slot b o e n h1 h2
      exact ⟨sl, same b _ q (low b o e)⟩
    · obtain ⟨o', q⟩ := b'.there b o e h2
      exact ⟨o', same b o' q (low b o e)⟩
  have hok : HOk X.prog X.w H' h' := fun a o e => by
    refine (I'.hok a o e).stay (fun b v hb q => same b v q ?_) (fun _ q => q) fun _ _ q => q
    rintro rfl
    rcases hb with z | z
    · rw [← z, hCn] at e; cases e
    · rw [hCn] at z; cases z
  have os' : s'.os = s.os := by
    have := I'.os
    rw [show (compCx X scope N d).s₀ = s from e0] at this
    exact this
  exact I.call' (s' := { s' with heap := h' }) (ch := d.ex) os' u hok I'.bare fun b hb => ⟨(hfp b hb).2.2.2.1, (hfp b hb).2.1, (hfp b hb).2.2.2.2.1, (hfp b hb).2.2.2.2.2⟩
end

def PTs (X : Cx) (ifs : List Expr) (t : TT) : Prop :=
  ∀ (pins : List (Addr × Obj)) (s : Shared) (σ : St) (H : Hp) (Q : Bool → Hp → Prop), Inv X pins σ H s → t σ H Q →
    wpAny (model X.prog X.w) X.A (forIn ifs true fun c r => if r = true then do let ok ← isTrue c X.env (eval c X.env); pure (ForInStep.yield ok) else pure (ForInStep.yield r)) (TP X pins σ Q) X.xe s
def tYes : TT := fun _ H Q => Q true H
theorem pts_nil {X : Cx} : PTs X [] tYes := fun pins s σ H Q I h => by
  rw [List.forIn_nil]
  exact wpAny_pure ⟨H, I, h⟩
theorem pts_one {X : Cx} {c : Expr} {t : TT} (h : PT X c t) : PTs X [c] t := fun pins s σ H Q I q => by
  rw [List.forIn_cons]
  refine wpAny_bind ?_
  rw [if_pos rfl]
  refine wpAny_bind (thn (h pins s σ H Q I q) fun b s' hb => wpAny_pure ?_)
  dsimp only
  rw [List.forIn_nil]
  exact wpAny_pure hb

theorem comp_loop {prog : Program} {w : World} {A : Around} {R : Result → Shared → Prop} {s : Shared} {elt target iter : Expr} {ifs : List Expr} {scope : Scope} {pos : Pos} {it acc : Value} {env : Env} (I : Nat → Shared → Prop)
    (turn : ∀ n s, I n s → wpAny (model prog w) A (pyNext it) (fun r s₁ => match r with
      | none => R (.ok .next) s₁
      | some v => wpAny (model prog w) A (letOwnedTupleGo target it v) (fun _ s₁' => wpAny (model prog w) A (assign target env v) (fun _ s₂ =>
          wpAny (model prog w) A (forIn ifs true fun c r => if r = true then do let ok ← isTrue c env (eval c env); pure (ForInStep.yield ok) else pure (ForInStep.yield r)) (fun ok s₃ =>
            if ok = true then wpAny (model prog w) A (eval elt env) (fun x s₄ =>
              wpAny (model prog w) A (call (.builtin "list.append") [acc, x]) (fun _ s₅ => ∃ m, m < n ∧ I m s₅) (fun _ _ => False) s₄) (fun _ _ => False) s₃
            else ∃ m, m < n ∧ I m s₃) (fun _ _ => False) s₂) (fun _ _ => False) s₁') (fun _ _ => False) s₁) (fun _ _ => False) s)
    (n : Nat) (h : I n s) :
    codeAny (model prog w) A (.compLoop (.ListComp elt [⟨target, iter, ifs, 0⟩] scope pos) 0 it acc env) R s := by
  refine codeAny_loop rfl I (fun n s hI => ?_) n h
  show wpAny _ A ((compTurn (.ListComp elt [⟨target, iter, ifs, 0⟩] scope pos) 0 it acc env).onRaise (fun x => do noteFrame x env; theTreesLotGoes x)) _ _ s
  refine wpAny_noted ?_
  rw [compTurn_list]
  refine wpAny_bind (wpAny_standAt (wpAny_bind (wpAny_mono (turn n s hI) (fun r s₁ h₁ => ?_) fun _ _ h' => h'.elim)))
  cases r with
  | none => exact wpAny_pure h₁
  | some v =>
    refine wpAny_bind (wpAny_mono h₁ (fun _ s₁' h₁' => ?_) fun _ _ h' => h'.elim)
    refine wpAny_bind (wpAny_mono h₁' (fun _ s₂ h₂ => wpAny_bind (wpAny_mono h₂ (fun ok s₃ h₃ => ?_) fun _ _ h' => h'.elim)) fun _ _ h' => h'.elim)
    cases ok with
    | false => exact wpAny_pure ⟨rfl, h₃⟩
    | true =>
      exact wpAny_bind (wpAny_bind (wpAny_mono h₃ (fun x s₄ h₄ => wpAny_bind (wpAny_mono h₄ (fun _ s₅ h₅ => wpAny_pure (wpAny_pure ⟨rfl, h₅⟩)) fun _ _ h' => h'.elim)) fun _ _ h' => h'.elim))

def KpS (σ σ' : St) : Prop := σ'.length = σ.length ∧ ∀ (k : Nat) (v : V), σ[k]? = some (some v) → σ'[k]? = some (some v)
def GKeeps (caps : List (Option Nat)) (g : TG) : Prop := ∀ (σ : St) (x : V) (H : Hp) (Q : St → Hp → Prop), g x (capt caps σ) H Q → g x (capt caps σ) H fun σ4 H4 => KpS (capt caps σ) σ4 ∧ Q σ4 H4
theorem kps_set {caps : List (Option Nat)} {σ σ' : St} {i : Nat} (h : caps[i]? = some none) (k : KpS (capt caps σ) σ') (v : V) : KpS (capt caps σ) (σ'.set i (some v)) := by
  refine ⟨by rw [List.length_set]; exact k.1, fun j u e => ?_⟩
  have hij : i ≠ j := by
    rintro rfl
    obtain ⟨j', e1, _⟩ := capt_get e
    rw [h] at e1
    cases e1
  rw [List.getElem?_set_ne hij]
  exact k.2 j u e
theorem kps_refl (σ : St) : KpS σ σ := ⟨rfl, fun _ _ e => e⟩
theorem gkeeps_name {caps : List (Option Nat)} {i : Nat} (h : caps[i]? = some none) : GKeeps caps (gName i) := fun σ x H Q q => ⟨kps_set h (kps_refl _) x, q⟩
theorem gkeeps_two {K : PySem.W.Frag} {caps : List (Option Nat)} {i j : Nat} (hi : caps[i]? = some none) (hj : caps[j]? = some none) : GKeeps caps (gTup K 2 (gCons (gName i) (gCons (gName j) gNil))) := fun σ x H Q q => by
  obtain ⟨a, xs, e1, e2, e3, v, r, e4, v', r', e5, e6, q⟩ := q
  exact ⟨a, xs, e1, e2, e3, v, r, e4, v', r', e5, e6, kps_set hj (kps_set hi (kps_refl _) v) v', q⟩

def CompW (J : It) (caps : List (Option Nat)) (g : TG) (tt : TT) (te : TE) (σ : St) (D : Addr) (H1 : Hp) (Q : VK) : Prop := ∃ W : Nat → Nat → List V → Hp → Prop, (∃ m, W 0 m [] (upd H1 D (.lst []))) ∧ ∀ i m ys H2, W i m ys H2 →
  (J.stop i H2 ∧ Q (.ref D) H2) ∨ (J.go i H2 ∧ ∃ Nx : List V → Hp → Prop, (∀ zs H', Nx zs H' → ∃ m', m' < m ∧ W (i + 1) m' zs H') ∧ ∀ x H3, J.yld i H2 x H3 → g x (capt caps σ) H3 fun σ4 H4 => tt σ4 H4 fun b H5 =>
    if b = true then te σ4 H5 fun v H6 => ∃ zs, H6 D = some (.lst zs) ∧ zs.length < sizeLine ∧ Nx (ys ++ [v]) (upd H6 D (.lst (zs ++ [v]))) else Nx ys H5)
def tComp (caps : List (Option Nat)) (wi : TI) (g : TG) (tt : TT) (te : TE) : TE := fun σ H Q => wi σ H fun J H1 => ∀ D, H1 D = none → CompW J caps g tt te σ D H1 Q
structure Own (X : Cx) (pins : List (Addr × Obj)) (H : Hp) (h : Heap) (C : Addr) : Prop where
  ns : ∃ m, h.Ns C m
  fr : H C = none
  ne : C ≠ X.env.locals
  ab : X.s₀.heap.objs.size ≤ C
  ce : ∀ x c, X.env.cells.lookup x = some c → c ≠ C
  pi : ∀ p ∈ X.pn ++ pins, p.1 ≠ C
theorem comp_core {X : Cx} {tg iter elt : Expr} {ifs : List Expr} {scope : Scope} {pos : Pos} {N : List Str} {caps : List (Option Nat)} {wi : TI} {g : TG} {tt : TT} {te : TE} (S : CompScope X scope N caps) (hc : X.calm = true) (hi : PI X tg iter wi) (hgk : GKeeps caps g)
    (hg : ∀ d, PG (compCx X scope N d) tg g) (ht : ∀ d, PTs (compCx X scope N d) ifs tt) (he : ∀ d, PE (compCx X scope N d) elt te) (hs : ∀ x, foldedSetIterable iter X.env x = pure x)
    {pins : List (Addr × Obj)} {s : Shared} {σ : St} {H : Hp} {Q : VK} {use : Option (Value → Sem Unit)} {QQ : Value → Shared → Prop} {pos' : Pos} (I : Inv X pins σ H s) (h : tComp caps wi g tt te σ H Q)
    (fin : ∀ D C s6 H5, Inv X pins σ H5 s6 → Own X pins H5 s6.heap C → Q (.ref D) H5 → compPost (model X.prog X.w) X.A X.xe use QQ (.ref D) C (.ok .next) s6) :
    wpAny (model X.prog X.w) X.A (comprehension (.ListComp elt [⟨tg, iter, ifs, 0⟩] scope pos) scope X.env pos' (newList []) false (eval iter X.env) use) QQ X.xe s := by
  obtain ⟨cl, hclos, c1, c2⟩ := closure_of (env := X.env) (scope := scope) fun y hy hf => I.ok.has y.1 (S.free y hy hf)
  refine wpAny_comprehension_free (use := use) (g := ⟨tg, iter, ifs, 0⟩) (gs := []) rfl hs hclos S.kind S.names ?_
  refine thn (hi pins s σ H _ I h) fun v s1 h1 => thn h1 fun itv s2 h2 => ?_
  obtain ⟨it, fp, tn, J, H2, e, I2, T, st2, f2, body⟩ := h2
  subst e
  refine wpAny_newList ?_
  have I3 : Inv X pins σ (upd H2 s2.heap.objs.size (.lst [])) { s2 with heap := s2.heap.push { cls := .type "list", data := .seq ([] : List Value).toArray } } := I2.lnew (ys := []) .nil (Nat.zero_le _)
  obtain ⟨W, ⟨m0, w0⟩, turn⟩ := body s2.heap.objs.size I2.fresh
  have hD : ∀ b ∈ fp, b ≠ s2.heap.objs.size := fun b hb => by
    obtain ⟨o, ho, _⟩ := T.obj _ _ st2 b hb
    exact Nat.ne_of_lt (Heap.lt_size ho)
  have f3 : ∀ b ∈ fp, FpOk X pins (upd H2 s2.heap.objs.size (.lst [])) b := fun b hb => ⟨by rw [upd_ne (hD b hb)]; exact (f2 b hb).1, (f2 b hb).2⟩
  have kp3 : ∀ b o, s2.heap.get? b = some o → (s2.heap.push { cls := .type "list", data := .seq ([] : List Value).toArray }).get? b = some o := fun b o e => Heap.get?_push_of_some _ e
  generalize hs3 : ({ s2 with heap := s2.heap.push { cls := .type "list", data := .seq ([] : List Value).toArray } } : Shared) = s3 at I3
  have hh3 : s3.heap = s2.heap.push { cls := .type "list", data := .seq ([] : List Value).toArray } := by rw [← hs3]
  have st3 : tn 0 s3.heap := T.keep _ _ _ st2 fun b _ o e => by rw [hh3]; exact kp3 b o e
  have f3' : ∀ b ∈ fp, b < s3.heap.objs.size := fun b hb => by
    obtain ⟨o, ho, _⟩ := T.obj _ _ st3 b hb
    exact Heap.lt_size ho
  subst hs3
  refine wpAny_newFunctionEnv S.nocell (by intro y hy; simp at hy) (fun h1 hns hsb => ?_) S.kind
  dsimp only at hns hsb I3 f3' st3 ⊢
  generalize hG : s2.heap.push { cls := .type "list", dict := none, data := .seq ([] : List Value).toArray } = G at hns hsb I3 f3' st3 ⊢
  have keep : ∀ b o, G.get? b = some o → h1.get? b = some o := fun b o e => hsb.extBut b o (Nat.ne_of_lt (Heap.lt_size e)) (Heap.get?_push_of_some _ e)
  have I4 := inv_comp (t' := s2.toks + ([] : List (Str × Value)).length) I3 S hc c1 c2 f3 f3' hns keep
  have st4 : tn 0 h1 := T.keep _ _ _ st3 fun b _ o e => keep b o e
  generalize hd : (⟨G.objs.size, cl, { s2 with heap := G }, upd H2 s2.heap.objs.size (.lst []), fp, X.pn ++ pins⟩ : CompD) = d at I4
  have dC : d.C = G.objs.size := by rw [← hd]
  have dcl : d.cl = cl := by rw [← hd]
  have ds : d.s₀ = { s2 with heap := G } := by rw [← hd]
  have dH : d.H₀ = upd H2 s2.heap.objs.size (.lst []) := by rw [← hd]
  have dex : d.ex = fp := by rw [← hd]
  have dpn : d.pn = X.pn ++ pins := by rw [← hd]
  have fY : ∀ {H' : Hp}, (∀ b ∈ fp, H' b = none) → ∀ b ∈ fp, FpOk (compCx X scope N d) [] H' b := fun hn b hb => by
    refine ⟨hn b hb, ?_, ?_, .inl ?_, fun x c e => ?_, fun p hp => ?_⟩
    · show b ≠ d.C
      rw [dC]
      exact Nat.ne_of_lt (f3' b hb)
    · intro z
      rcases List.mem_cons.mp (I3.stkSub b z) with e | e
      · exact (f3 b hb).2.1 e
      · exact (f3 b hb).2.2.1 e
    · show b ∈ d.ex
      rw [dex]
      exact hb
    · have e' : d.cl.lookup x = some c := e
      rw [dcl] at e'
      exact (f3 b hb).2.2.2.2.1 x c (c1 x c e')
    · have hp' : p ∈ d.pn ++ [] := hp
      rw [List.append_nil, dpn] at hp'
      exact (f3 b hb).2.2.2.2.2 p hp'
  have env_eq : compEnvC scope cl G.objs.size X.env = (compCx X scope N d).env := by
    show compEnvC scope cl G.objs.size X.env = compEnvC scope d.cl d.C X.env
    rw [dcl, dC]
  have loop : ∀ s4 : Shared, s4 = { s2 with heap := h1, toks := s2.toks + ([] : List (Str × Value)).length } →
      codeAny (model X.prog X.w) X.A (.compLoop (.ListComp elt [⟨tg, iter, ifs, 0⟩] scope pos) 0 (.ref it) (.ref s2.heap.objs.size) (compEnvC scope cl G.objs.size X.env))
        (compPost (model X.prog X.w) X.A X.xe use QQ (.ref s2.heap.objs.size) G.objs.size) s4 := by
    rintro s4 rfl
    rw [env_eq]
    refine comp_loop (fun n s' => ∃ i ys H', Inv (compCx X scope N d) [] (capt caps σ) H' s' ∧ tn i s'.heap ∧ (∀ b ∈ fp, H' b = none) ∧ W i n ys H') ?_ m0 ⟨0, [], _, I4, st4, fun b hb => (f3 b hb).1, w0⟩
    rintro n s5 ⟨i, ys, H5, I5, st5, fr5, w5⟩
    rcases turn i n ys H5 w5 with ⟨stop, q⟩ | ⟨go, Nx, hNx, step⟩
    · refine thn (T.done (compCx X scope N d) rfl rfl rfl rfl i [] s5 _ H5 _ I5 (fY fr5) st5 stop) fun r s6 ⟨hr, I6⟩ => ?_
      subst hr
      obtain ⟨m, hn, _⟩ := I6.loc
      have hn' : s6.heap.Ns G.objs.size m := by
        have : s6.heap.Ns d.C m := hn
        rwa [dC] at this
      have I6' : Inv X pins σ H5 s6 := comp_out (h' := s6.heap) (d := d) I3 (by rw [dex]; exact f3) ds dH (by rw [dC]; exact Nat.le_refl _) I6 (Heap.SameBut.refl _ _)
      have hfr : H5 G.objs.size = none := by
        have : H5 d.C = none := I6.free
        rwa [dC] at this
      refine fin _ _ s6 H5 I6' ⟨⟨m, hn'⟩, hfr, (Nat.ne_of_gt I3.lt), I3.sz, fun x c e => ?_, fun p hp => ?_⟩ q
      · obtain ⟨v, o, ho, _⟩ := I3.cell x c e
        exact Nat.ne_of_lt (Heap.lt_size ho)
      · exact Nat.ne_of_lt (Heap.lt_size (I3.pin p hp).1)
    · refine thn (T.item (compCx X scope N d) rfl rfl rfl rfl i [] s5 _ H5 _ I5 (fY fr5) st5 go) fun r s6 ⟨u, hr, h6⟩ => ?_
      subst hr
      refine thn h6 fun _ s7 ⟨x, H7, I7, r7, y7, st7, fr7⟩ => ?_
      have I7' := I7.pinned (fY fr7) (T.obj _ _ st7)
      refine thn (hg d _ s7 _ H7 x u _ I7' r7 (hgk _ _ _ _ (step x H7 y7))) fun _ s8 ⟨σ8, H8, I8, k8, q8⟩ => ?_
      have again : ∀ {s9 : Shared} {H9 : Hp} {zs : List V}, Inv (compCx X scope N d) ([] ++ pinsAt fp s7.heap) σ8 H9 s9 → (∃ m', m' < n ∧ W (i + 1) m' zs H9) → ∃ m, m < n ∧ ∃ i ys H', Inv (compCx X scope N d) [] (capt caps σ) H' s9 ∧ tn i s9.heap ∧ (∀ b ∈ fp, H' b = none) ∧ W i m ys H' := fun {s9 H9 zs} I9 ⟨m', hm, w9⟩ => by
        refine ⟨m', hm, i + 1, zs, H9, ?_, T.keep _ _ _ st7 fun b hb o e => (I9.pin (b, o) (List.mem_append_right _ (List.mem_append_right _ (mem_pinsAt hb e)))).1, fun b hb => ?_, w9⟩
        · exact I9.unpinned.weak k8.1.symm k8.2
        · obtain ⟨o, e, _⟩ := T.obj _ _ st7 b hb
          exact (I9.pin (b, o) (List.mem_append_right _ (List.mem_append_right _ (mem_pinsAt hb e)))).2.1
      refine thn (ht d _ s8 σ8 H8 _ I8 q8) fun ok s9 ⟨H9, I9, q9⟩ => ?_
      cases ok with
      | false =>
        rw [if_neg (by simp)] at q9 ⊢
        exact again I9 (hNx _ _ q9)
      | true =>
        rw [if_pos rfl] at q9 ⊢
        refine thn (he d _ s9 σ8 H9 _ I9 q9) fun y s10 ⟨v, H10, I10, r10, zs, e10, z10, q10⟩ => ?_
        exact thn (mt_append _ s10 σ8 H10 (.ref s2.heap.objs.size) [v] (.ref s2.heap.objs.size) [y] _ I10 rfl (.cons r10 .nil) ⟨_, zs, v, rfl, rfl, e10, z10, q10⟩) fun _ s11 ⟨_, H11, I11, _, q11⟩ => again I11 (hNx _ _ q11)
  exact codeAny_compStart_list (loop _ rfl) (T.self _ 0 _ _ _ st4 (loop _ rfl))
theorem pe_comp {X : Cx} {tg iter elt : Expr} {ifs : List Expr} {scope : Scope} {pos : Pos} {N : List Str} {caps : List (Option Nat)} {wi : TI} {g : TG} {tt : TT} {te : TE} (S : CompScope X scope N caps) (hc : X.calm = true) (hi : PI X tg iter wi) (hgk : GKeeps caps g)
    (hg : ∀ d, PG (compCx X scope N d) tg g) (ht : ∀ d, PTs (compCx X scope N d) ifs tt) (he : ∀ d, PE (compCx X scope N d) elt te) (hs : ∀ x, foldedSetIterable iter X.env x = pure x := by intro _; rfl) :
    PE X (.ListComp elt [⟨tg, iter, ifs, 0⟩] scope pos) (tComp caps wi g tt te) := by
  intro pins s σ H Q I h
  rw [eval_ListComp]
  refine comp_core (use := none) S hc hi hgk hg ht he hs I h fun D C s6 H5 I6 O q => ?_
  obtain ⟨m, hn⟩ := O.ns
  exact ⟨m, hn, fun h' hs' => ⟨.ref D, H5, I6.turned (t' := s6.toks) (fun b o hb e => (hs'.2 b hb).trans e) O.fr O.ne (.inr O.ab) O.ce O.pi, rfl, q⟩⟩
theorem ps_setc {X : Cx} {tg iter elt : Expr} {ifs : List Expr} {scope : Scope} {pos spos py : Pos} {y : Str} {k : Nat} {N : List Str} {caps : List (Option Nat)} {wi : TI} {g : TG} {tt : TT} {te : TE} (S : CompScope X scope N caps) (hc : X.calm = true) (hN : X.N.Nodup) (hk : X.N[k]? = some y) (hy : X.env.scope.names.lookup y = some .local)
    (hsw : swapsWith (.ListComp elt [⟨tg, iter, ifs, 0⟩] scope pos) (some (.Name y py)) spos.line X.env = pure true) (hi : PI X tg iter wi) (hgk : GKeeps caps g)
    (hg : ∀ d, PG (compCx X scope N d) tg g) (ht : ∀ d, PTs (compCx X scope N d) ifs tt) (he : ∀ d, PE (compCx X scope N d) elt te) (hs : ∀ x, foldedSetIterable iter X.env x = pure x := by intro _; rfl) :
    PS X (.Assign [.Name y py] (.ListComp elt [⟨tg, iter, ifs, 0⟩] scope pos) spos) (tAsg (tComp caps wi g tt te) (gName k)) := by
  intro pins s σ H D I h
  rw [exec_Assign_Name_used _ _ _ _ hsw]
  refine wpAny_bind (wpAny_standAt (wpAny_bind ?_))
  show wpAny _ X.A (do let _ ← comprehension (.ListComp elt [⟨tg, iter, ifs, 0⟩] scope pos) scope X.env _ (newList []) false (eval iter X.env) (some (assign (.Name y py) X.env))) _ _ s
  refine wpAny_bind (wpAny_mono (comp_core (use := some (assign (.Name y py) X.env)) (QQ := fun _ s' => SP X pins D .next s') S hc hi hgk hg ht he hs I h fun Da C s6 H5 I6 O q => ?_) (fun _ s' hq => wpAny_pure (wpAny_pure hq)) fun _ _ e => e)
  show wpAny _ X.A (assign (.Name y py) X.env (.ref Da)) _ _ _
  obtain ⟨m, hn⟩ := O.ns
  refine wpAny_assign_Name (store_ok2 (v := .ref Da) I6 hN hk (.inl hy) rfl (fun s7 I7 hs7 => ?_) (.inr hy))
  obtain ⟨a, sb, ha⟩ := hs7
  have hCa : C ≠ a := by
    rcases ha with z | z
    · rw [z]; exact O.ne
    · exact Ne.symm (O.ce _ _ z)
  refine ⟨m, hn.sameBut sb hCa, fun h' hs' => ?_⟩
  exact ⟨_, H5, I7.turned (t' := s7.toks) (fun b o hb e => (hs'.2 b hb).trans e) O.fr O.ne (.inr O.ab) O.ce O.pi, q⟩

theorem comp_list {K : PySem.W.Frag} {a D : Addr} {xs : List V} {caps : List (Option Nat)} {g : TG} {tt : TT} {te : TE} {σ : St} {H1 : Hp} {Q : VK} (Pv : Nat → List V → Hp → Prop) (h0 : Pv 0 [] (upd H1 D (.lst []))) (hl : ∀ i ys H, i ≤ xs.length → Pv i ys H → SqL K H a xs)
    (hs : ∀ i x ys H, xs[i]? = some x → Pv i ys H → g x (capt caps σ) H fun σ4 H4 => tt σ4 H4 fun b H5 => if b = true then te σ4 H5 fun v H6 => ∃ zs, H6 D = some (.lst zs) ∧ zs.length < sizeLine ∧ Pv (i + 1) (ys ++ [v]) (upd H6 D (.lst (zs ++ [v]))) else Pv (i + 1) ys H5)
    (hd : ∀ ys H, Pv xs.length ys H → Q (.ref D) H) : CompW (Itl K a) caps g tt te σ D H1 Q := by
  refine ⟨fun i m ys H => m = xs.length - i ∧ i ≤ xs.length ∧ Pv i ys H, ⟨_, rfl, Nat.zero_le _, h0⟩, ?_⟩
  rintro i m ys H ⟨rfl, hi, p⟩
  have sl := hl i ys H hi p
  by_cases e : i = xs.length
  · subst e
    exact .inl ⟨⟨xs, sl, Nat.le_refl _⟩, hd ys H p⟩
  · have hlt : i < xs.length := by (clear h0 hl hs hd p sl; lia)
    have ex : xs[i]? = some xs[i] := List.getElem?_eq_getElem hlt
    refine .inr ⟨⟨xs, _, sl, ex⟩, Pv (i + 1), fun zs H' p' => ⟨_, ?_, rfl, hlt, p'⟩, fun x H3 hy => ?_⟩
    · (clear h0 hl hs hd hi p sl e p' ex; omega)
    · obtain ⟨rfl, hx⟩ := hy
      exact hs i x ys H3 (hx xs sl) p
theorem comp_range {lo : Int} {n : Nat} {D : Addr} {caps : List (Option Nat)} {g : TG} {tt : TT} {te : TE} {σ : St} {H1 : Hp} {Q : VK} (Pv : Nat → List V → Hp → Prop) (h0 : Pv 0 [] (upd H1 D (.lst [])))
    (hs : ∀ i ys H, i < n → Pv i ys H → g (.int (lo + (i : Int))) (capt caps σ) H fun σ4 H4 => tt σ4 H4 fun b H5 => if b = true then te σ4 H5 fun v H6 => ∃ zs, H6 D = some (.lst zs) ∧ zs.length < sizeLine ∧ Pv (i + 1) (ys ++ [v]) (upd H6 D (.lst (zs ++ [v]))) else Pv (i + 1) ys H5)
    (hd : ∀ ys H, Pv n ys H → Q (.ref D) H) : CompW (Itr lo n) caps g tt te σ D H1 Q := by
  refine ⟨fun i m ys H => m = n - i ∧ i ≤ n ∧ Pv i ys H, ⟨_, rfl, Nat.zero_le _, h0⟩, ?_⟩
  rintro i m ys H ⟨rfl, hi, p⟩
  by_cases e : i = n
  · subst e
    exact .inl ⟨Nat.le_refl _, hd ys H p⟩
  · have hlt : i < n := by (clear h0 hs hd p; lia)
    refine .inr ⟨hlt, Pv (i + 1), fun zs H' p' => ⟨_, ?_, rfl, hlt, p'⟩, fun x H3 hy => ?_⟩
    · (clear h0 hs hd hi p e p'; lia)
    · obtain ⟨rfl, rfl⟩ := hy
      exact hs i ys H3 hlt p

def compOk (so : Scope) (NX : List Str) (scope : Scope) (N : List Str) (caps : List (Option Nat)) : Bool :=
  (scope.kind == .function) && scope.names.all (fun y => !(y.2 == .cell)) && scope.names.all (fun y => !(y.2 == .local) || (scope.names.lookup y.1 == some .local)) &&
  scope.names.all (fun y => !(y.2 == .free) || (so.names.lookup y.1 == some .cell) || (so.names.lookup y.1 == some .free)) && (caps.length == N.length) &&
  (List.range caps.length).all fun i => match caps[i]? with
    | some (some j) => (match N[i]? with
      | some x => (NX[j]? == some x) && (scope.names.lookup x == some .free) && scope.names.any (fun y => y.1 == x && y.2 == .free)
      | none => false)
    | _ => true
theorem CompScope.of {X : Cx} {scope : Scope} {N : List Str} {caps : List (Option Nat)} (h : compOk X.env.scope X.N scope N caps = true) : CompScope X scope N caps := by
  simp only [compOk, Bool.and_eq_true, List.all_eq_true, Bool.or_eq_true, Bool.not_eq_true', beq_iff_eq, List.mem_range] at h
  obtain ⟨⟨⟨⟨⟨h1, h2⟩, h3⟩, h4⟩, h5⟩, h6⟩ := h
  refine ⟨h1, fun y hy e => ?_, fun y hy e => ?_, fun y hy e => ?_, h5, fun i j e => ?_⟩
  · have := h2 y hy
    rw [e] at this
    cases this
  · rcases h3 y hy with z | z
    · rw [e] at z; cases z
    · exact z
  · rcases h4 y hy with (z | z) | z
    · rw [e] at z; cases z
    · exact .inl z
    · exact .inr z
  · have hi : i < caps.length := (List.getElem?_eq_some_iff.mp e).1
    have := h6 i hi
    rw [e] at this
    dsimp only at this
    cases q : N[i]? with
    | none => rw [q] at this; cases this
    | some x =>
      rw [q] at this
      simp only [Bool.and_eq_true, beq_iff_eq, List.any_eq_true] at this
      obtain ⟨⟨g1, g2⟩, ⟨n, k⟩, hy, e1, e2⟩ := this
      simp only at e1 e2
      subst e1 e2
      exact ⟨_, rfl, g1, hy, g2⟩
end L2
namespace L2
open PySem PySem.Spec PyProof.Rows

mutual
def VD (H : Hp) : PyData → V → Prop
  | .none, v => v = .non
  | .bool b, v => v = .bl b
  | .int i, v => v = .int i
  | .str x, v => v = .str x
  | .tuple ds, v => ∃ a vs, v = .ref a ∧ H a = some (.tup vs) ∧ VDs H ds vs
  | _, _ => False
def VDs (H : Hp) : List PyData → List V → Prop
  | [], vs => vs = []
  | d :: ds, vs => ∃ v r, vs = v :: r ∧ VD H d v ∧ VDs H ds r
end
def TupK (H H' : Hp) : Prop := ∀ b xs, H b = some (.tup xs) → H' b = some (.tup xs)
theorem TupK.trans {H H1 H2 : Hp} (a : TupK H H1) (b : TupK H1 H2) : TupK H H2 := fun c xs e => b c xs (a c xs e)
theorem Same.tk {H H' : Hp} (s : Same H H') : TupK H H' := fun b xs e => s b _ e
theorem TupK.upd {H : Hp} {a : Addr} {o : HO} (h : ∀ xs, H a ≠ some (.tup xs)) : TupK H (upd H a o) := fun b xs e => by
  rw [upd_ne]
  · exact e
  · rintro rfl
    exact h xs e
theorem TupK.new {H : Hp} {a : Addr} {o : HO} (h : H a = none) : TupK H (L2.upd H a o) := .upd fun xs e => by rw [h] at e; cases e
theorem TupK.lst {H : Hp} {a : Addr} {o : HO} {ys : List V} (h : H a = some (.lst ys)) : TupK H (L2.upd H a o) := .upd fun xs e => by rw [h] at e; cases e
mutual
theorem VD.keep {H H' : Hp} (k : TupK H H') : ∀ (d : PyData) (v : V), VD H d v → VD H' d v
  | .none, v, h => h
  | .bool b, v, h => h
  | .int i, v, h => h
  | .str x, v, h => h
  | .tuple ds, v, h => by
    obtain ⟨a, vs, rfl, e, r⟩ := h
    exact ⟨a, vs, rfl, k _ _ e, VDs.keep k ds vs r⟩
  | .list _, _, h => h.elim
  | .dict _, _, h => h.elim
theorem VDs.keep {H H' : Hp} (k : TupK H H') : ∀ (ds : List PyData) (vs : List V), VDs H ds vs → VDs H' ds vs
  | [], vs, h => h
  | d :: ds, vs, h => by
    obtain ⟨v, r, rfl, h1, h2⟩ := h
    exact ⟨v, r, rfl, VD.keep k d v h1, VDs.keep k ds r h2⟩
end

theorem VDs.length {H : Hp} : ∀ {ds : List PyData} {vs : List V}, VDs H ds vs → ds.length = vs.length
  | [], vs, h => by rw [show vs = [] from h]; rfl
  | d :: ds, vs, h => by
    obtain ⟨v, r, rfl, _, h2⟩ := h
    rw [List.length_cons, List.length_cons, VDs.length h2]
theorem VDs.snoc {H : Hp} {d : PyData} {v : V} (hv : VD H d v) : ∀ {ds : List PyData} {vs : List V}, VDs H ds vs → VDs H (ds ++ [d]) (vs ++ [v])
  | [], vs, h => by rw [show vs = [] from h]; exact ⟨v, [], rfl, hv, rfl⟩
  | e :: ds, vs, h => by
    obtain ⟨u, r, rfl, h1, h2⟩ := h
    exact ⟨u, r ++ [v], rfl, h1, VDs.snoc hv h2⟩
theorem VDs.append {H : Hp} : ∀ {ds es : List PyData} {vs us : List V}, VDs H ds vs → VDs H es us → VDs H (ds ++ es) (vs ++ us)
  | [], es, vs, us, h, h' => by rw [show vs = [] from h]; exact h'
  | e :: ds, es, vs, us, h, h' => by
    obtain ⟨u, r, rfl, h1, h2⟩ := h
    exact ⟨u, r ++ us, rfl, h1, VDs.append h2 h'⟩
theorem VDs.get {H : Hp} : ∀ {ds : List PyData} {vs : List V} {i : Nat} {d : PyData}, VDs H ds vs → ds[i]? = some d → ∃ v, vs[i]? = some v ∧ VD H d v
  | [], vs, i, d, _, e => by simp at e
  | e :: ds, vs, 0, d, h, q => by
    obtain ⟨u, r, rfl, h1, h2⟩ := h
    have : e = d := by simpa using q
    subst this
    exact ⟨u, rfl, h1⟩
  | e :: ds, vs, i + 1, d, h, q => by
    obtain ⟨u, r, rfl, h1, h2⟩ := h
    obtain ⟨v, g1, g2⟩ := VDs.get (i := i) h2 (by simpa using q)
    exact ⟨v, by simpa using g1, g2⟩
theorem VDs.get' {H : Hp} {ds : List PyData} {vs : List V} {i : Nat} {v : V} (h : VDs H ds vs) (e : vs[i]? = some v) : ∃ d, ds[i]? = some d ∧ VD H d v := by
  have hl := h.length
  have hi : i < vs.length := (List.getElem?_eq_some_iff.mp e).1
  have q : ds[i]? = some (ds[i]'(by lia)) := List.getElem?_eq_getElem _
  obtain ⟨u, g1, g2⟩ := h.get q
  rw [e] at g1
  cases g1
  exact ⟨_, q, g2⟩
theorem VD.fn {H : Hp} : ∀ {d e : PyData} {v : V}, VD H d v → VD H e v → d = e := by
  have main : (∀ (d : PyData) (e : PyData) (v : V), VD H d v → VD H e v → d = e) ∧ True := by
    refine ⟨fun d => ?_, trivial⟩
    refine PyData.rec (motive_1 := fun d => ∀ (e : PyData) (v : V), VD H d v → VD H e v → d = e) (motive_2 := fun ds => ∀ (es : List PyData) (vs : List V), VDs H ds vs → VDs H es vs → ds = es)
      (motive_3 := fun _ => True) (motive_4 := fun _ => True) ?_ ?_ ?_ ?_ ?_ ?_ ?_ ?_ ?_ ?_ ?_ ?_ d
    · intro e v h1 h2
      have : v = .non := h1
      subst this
      cases e <;> first | rfl | (exact absurd h2 (by simp [VD]))
    · intro b e v h1 h2
      have : v = .bl b := h1
      subst this
      cases e with
      | bool b' =>
        have : V.bl b = V.bl b' := h2
        cases this; rfl
      | _ => exact absurd h2 (by simp [VD])
    · intro b e v h1 h2
      have : v = .int b := h1
      subst this
      cases e with
      | int b' =>
        have : V.int b = V.int b' := h2
        cases this; rfl
      | _ => exact absurd h2 (by simp [VD])
    · intro b e v h1 h2
      have : v = .str b := h1
      subst this
      cases e with
      | str b' =>
        have : V.str b = V.str b' := h2
        cases this; rfl
      | _ => exact absurd h2 (by simp [VD])
    · intro ds _ e v h1; exact h1.elim
    · intro ds ih e v h1 h2
      obtain ⟨a, vs, rfl, ea, r1⟩ := h1
      cases e with
      | tuple es =>
        obtain ⟨b, us, eb, hb, r2⟩ := h2
        cases eb
        rw [ea] at hb
        cases hb
        rw [ih _ _ r1 r2]
      | _ => exact absurd h2 (by simp [VD])
    · intro kvs _ e v h1; exact h1.elim
    · intro es vs h1 h2
      have : vs = [] := h1
      subst this
      cases es with
      | nil => rfl
      | cons e es => obtain ⟨_, _, z, _⟩ := h2; cases z
    · intro d ds ih1 ih2 es vs h1 h2
      obtain ⟨v, r, rfl, g1, g2⟩ := h1
      cases es with
      | nil => cases (show v :: r = [] from h2)
      | cons e es =>
        obtain ⟨v', r', z, k1, k2⟩ := h2
        cases z
        rw [ih1 _ _ g1 k1, ih2 _ _ g2 k2]
    · trivial
    · intros; trivial
    · intros; trivial
  intro d e v h1 h2
  exact main.1 d e v h1 h2
section
variable {X : Cx} {pins : List (Addr × Obj)} {σ : St} {H : Hp} {s : Shared}
theorem VD.reads (I : Inv X pins σ H s) : ∀ {d : PyData} {v : V} {u : Value}, VD H d v → RelV v u → ∃ as, Reads s.heap u d as := by
  have main : (∀ (d : PyData) (v : V) (u : Value), VD H d v → RelV v u → ∃ as, Reads s.heap u d as) := by
    intro d
    refine PyData.rec (motive_1 := fun d => ∀ (v : V) (u : Value), VD H d v → RelV v u → ∃ as, Reads s.heap u d as) (motive_2 := fun ds => ∀ (vs : List V) (us : List Value), VDs H ds vs → Vals vs us → ∃ as, ReadsAll s.heap us ds as)
      (motive_3 := fun _ => True) (motive_4 := fun _ => True) ?_ ?_ ?_ ?_ ?_ ?_ ?_ ?_ ?_ ?_ ?_ ?_ d
    · rintro v u rfl r
      rw [show u = Value.none from r]
      exact ⟨_, .none⟩
    · rintro b v u rfl r
      rw [show u = Value.bool b from r]
      exact ⟨_, .bool b⟩
    · rintro b v u rfl ⟨t, rfl⟩
      exact ⟨_, .int b t⟩
    · rintro b v u rfl ⟨t, rfl⟩
      exact ⟨_, .str b t⟩
    · intro ds _ v u h; exact h.elim
    · rintro ds ih v u ⟨a, vs, rfl, ea, r⟩ ru
      rw [show u = Value.ref a from ru]
      obtain ⟨its, rel, ⟨o, ho, hc, n, hd⟩, _⟩ := I.tuple (SqT.of ea)
      obtain ⟨as, q⟩ := ih vs its r rel
      exact ⟨as, .tuple ho hc hd q⟩
    · intro kvs _ v u h; exact h.elim
    · rintro vs us rfl r
      cases r
      exact ⟨_, .nil⟩
    · rintro d ds ih1 ih2 vs us ⟨v, r, rfl, g1, g2⟩ rel
      cases rel with
      | cons r1 r2 =>
        obtain ⟨as, q1⟩ := ih1 _ _ g1 r1
        obtain ⟨bs, q2⟩ := ih2 _ _ g2 r2
        exact ⟨_, .cons q1 q2⟩
    · trivial
    · intros; trivial
    · intros; trivial
  intro d v u h r
  exact main d v u h r
theorem VDs.reads (I : Inv X pins σ H s) : ∀ {ds : List PyData} {vs : List V} {us : List Value}, VDs H ds vs → Vals vs us → ∃ as, ReadsAll s.heap us ds as
  | [], vs, us, h, r => by
    rw [show vs = [] from h] at r
    cases r
    exact ⟨_, .nil⟩
  | d :: ds, vs, us, h, r => by
    obtain ⟨v, q, rfl, h1, h2⟩ := h
    cases r with
    | cons r1 r2 =>
      obtain ⟨as, q1⟩ := VD.reads I h1 r1
      obtain ⟨bs, q2⟩ := VDs.reads I h2 r2
      exact ⟨_, .cons q1 q2⟩
theorem list_reads {a : Addr} {xs : List V} {ds : List PyData} (I : Inv X pins σ H s) (h : SqL X.K H a xs) (hd : VDs H ds xs) : ∃ as, Reads s.heap (.ref a) (.list ds) as := by
  obtain ⟨its, rel, ⟨o, n, ho, hc, _, hdt⟩, _⟩ := I.list h
  obtain ⟨as, q⟩ := VDs.reads I hd rel
  exact ⟨_, .list ho hc hdt q⟩
end

structure Enc (α : Type) [DecidableEq α] where
  enc : α → PyData
  eqv : ∀ a b, PyData.eqv (enc a) (enc b) = decide (a = b)
  lay : ∀ a, (enc a).canLay0 = true
  dep : ∀ a, (enc a).depth ≤ 20
theorem Enc.inj {α : Type} [DecidableEq α] (E : Enc α) {a b : α} (h : E.enc a = E.enc b) : a = b := by
  have e := E.eqv a b
  rw [← h, E.eqv a a] at e
  simpa using e.symm
def eInt : Enc Int where
  enc := .int
  eqv := fun a b => by
    show (a == b) = decide (a = b)
    by_cases h : a = b <;> simp [h]
  lay := fun a => by simp [PyData.canLay0]
  dep := fun a => by simp [PyData.depth]
def eBool : Enc Bool where
  enc := .bool
  eqv := fun a b => by
    show (a == b) = decide (a = b)
    by_cases h : a = b <;> simp [h]
  lay := fun a => by simp [PyData.canLay0]
  dep := fun a => by simp [PyData.depth]
section
variable {α β : Type} [DecidableEq α] [DecidableEq β]
def ePair (A : Enc α) (B : Enc β) (ha : ∀ a, (A.enc a).depth ≤ 10) (hb : ∀ b, (B.enc b).depth ≤ 10) : Enc (α × β) where
  enc := fun p => .tuple [A.enc p.1, B.enc p.2]
  eqv := fun p q => by
    simp only [PyData.eqv, PyData.eqvAll, A.eqv, B.eqv, Bool.and_true]
    obtain ⟨p1, p2⟩ := p
    obtain ⟨q1, q2⟩ := q
    by_cases h1 : p1 = q1 <;> by_cases h2 : p2 = q2 <;> simp [h1, h2]
  lay := fun p => by simp [PyData.canLay0, PyData.canLayAll0, A.lay, B.lay]
  dep := fun p => by
    have := ha p.1
    have := hb p.2
    simp only [PyData.depth, PyData.depthAll]
    omega
def eTrip (A : Enc α) (ha : ∀ a, (A.enc a).depth ≤ 10) : Enc (α × α × α) where
  enc := fun p => .tuple [A.enc p.1, A.enc p.2.1, A.enc p.2.2]
  eqv := fun p q => by
    simp only [PyData.eqv, PyData.eqvAll, A.eqv, Bool.and_true]
    obtain ⟨p1, p2, p3⟩ := p
    obtain ⟨q1, q2, q3⟩ := q
    by_cases h1 : p1 = q1 <;> by_cases h2 : p2 = q2 <;> by_cases h3 : p3 = q3 <;> simp [h1, h2, h3]
  lay := fun p => by simp [PyData.canLay0, PyData.canLayAll0, A.lay]
  dep := fun p => by
    have := ha p.1
    have := ha p.2.1
    have := ha p.2.2
    simp only [PyData.depth, PyData.depthAll]
    omega
theorem Enc.all (A : Enc α) : ∀ (as bs : List α), PyData.eqvAll (as.map A.enc) (bs.map A.enc) = decide (as = bs)
  | [], [] => rfl
  | [], _ :: _ => by simp [PyData.eqvAll]
  | _ :: _, [] => by simp [PyData.eqvAll]
  | a :: as, b :: bs => by
    rw [List.map_cons, List.map_cons, PyData.eqvAll, A.eqv, Enc.all A as bs]
    by_cases h1 : a = b <;> by_cases h2 : as = bs <;> simp [h1, h2]
theorem Enc.layAll (A : Enc α) : ∀ (as : List α), PyData.canLayAll0 (as.map A.enc) = true ∧ PyData.depthAll (as.map A.enc) ≤ 20
  | [] => ⟨rfl, by simp [PyData.depthAll]⟩
  | a :: as => by
    obtain ⟨h1, h2⟩ := Enc.layAll A as
    have := A.dep a
    refine ⟨by rw [List.map_cons, PyData.canLayAll0, A.lay, h1]; rfl, ?_⟩
    rw [List.map_cons, PyData.depthAll]
    lia
theorem Enc.shaped (A : Enc α) (as : List α) : SeqAt.shaped (.list (as.map A.enc)) = true := by
  obtain ⟨h1, h2⟩ := A.layAll as
  simp only [SeqAt.shaped, PyData.canLay0, h1, PyData.depth, Bool.true_and]
  exact decide_eq_true (by lia)
end
abbrev Cel := Int × Int
def eCel : Enc Cel := ePair eInt eInt (fun _ => by simp [eInt, PyData.depth]) (fun _ => by simp [eInt, PyData.depth])
abbrev Crn := Cel × Cel × Cel
theorem eCel_dep (c : Cel) : (eCel.enc c).depth ≤ 10 := by simp [eCel, ePair, eInt, PyData.depth, PyData.depthAll]
def eCrn : Enc Crn := eTrip eCel eCel_dep
theorem vd_cel {H : Hp} {c : Cel} {v : V} : VD H (eCel.enc c) v ↔ ∃ a, v = .ref a ∧ H a = some (.tup [.int c.1, .int c.2]) := by
  constructor
  · rintro ⟨a, vs, rfl, e, v1, r1, rfl, h1, v2, r2, rfl, h2, rfl⟩
    have h1 : v1 = .int c.1 := h1
    have h2 : v2 = .int c.2 := h2
    subst h1 h2
    exact ⟨a, rfl, e⟩
  · rintro ⟨a, rfl, e⟩
    exact ⟨a, _, rfl, e, _, _, rfl, rfl, _, _, rfl, rfl, rfl⟩
theorem vd_crn {H : Hp} {c : Crn} {v : V} : VD H (eCrn.enc c) v ↔ ∃ a v1 v2 v3, v = .ref a ∧ H a = some (.tup [v1, v2, v3]) ∧ VD H (eCel.enc c.1) v1 ∧ VD H (eCel.enc c.2.1) v2 ∧ VD H (eCel.enc c.2.2) v3 := by
  constructor
  · rintro ⟨a, vs, rfl, e, v1, r1, rfl, h1, v2, r2, rfl, h2, v3, r3, rfl, h3, rfl⟩
    exact ⟨a, v1, v2, v3, rfl, e, h1, h2, h3⟩
  · rintro ⟨a, v1, v2, v3, rfl, e, h1, h2, h3⟩
    exact ⟨a, _, rfl, e, _, _, rfl, h1, _, _, rfl, h2, _, _, rfl, h3, rfl⟩

section
variable {X : Cx}
def rEqL (neg : Bool) (K : PySem.W.Frag) : R2 := fun x y H Q => ∃ (α : Type) (_ : DecidableEq α) (A : Enc α) (a b : Addr) (xs ys : List V) (cs ds : List α), x = .ref a ∧ y = .ref b ∧ SqL K H a xs ∧ SqL K H b ys ∧ VDs H (cs.map A.enc) xs ∧ VDs H (ds.map A.enc) ys ∧
  Q (.bl (if neg then !decide (cs = ds) else decide (cs = ds))) H
theorem op_eqL (hu : X.A.units + 64 < cLine) : OpR X (compareOp .Eq) (rEqL false X.K) := by
  intro pins s σ H x y v u Q I rx ry h
  obtain ⟨α, _, A, a, b, xs, ys, cs, ds, rfl, rfl, h1, h2, d1, d2, q⟩ := h
  cases (show v = Value.ref a from rx)
  cases (show u = Value.ref b from ry)
  obtain ⟨as, ra⟩ := list_reads I h1 d1
  obtain ⟨bs, rb⟩ := list_reads I h2 d2
  refine eq_dataH ra rb (A.shaped _) (A.shaped _) hu ?_
  rw [PyData.eqv, A.all]
  exact ⟨.bl _, H, I, rfl, q⟩
end
theorem call_isi {X : Cx} : CallR X (.builtin "isinstance") (fun xs H Q => ∃ x n t b, xs = [x, .ty n] ∧ TyOf X.K H x t ∧ PySem.W.kitOne X.K t (.type n) = some b ∧ Q (.bl b) H) := by
  intro pins s σ H xs us Q I r h
  obtain ⟨x, n, t, b, rfl, ty, e, q⟩ := h
  obtain ⟨u, w', rfl, r1, r2⟩ := vals2 r
  rw [show w' = Value.type n from r2]
  exact isinst_ok I r1 ty e fun tk => ⟨.bl b, H, I.tok tk, rfl, q⟩
end L2
namespace L2
open PySem PySem.Spec PyProof.Rows TS

section
variable {prog : Program} {w : World} {A : Around} {E : Value → Shared → Prop} {s : Shared}
theorem list_sort_any {O : KeyOrd} {K : Keyed → O.α} {kd : SortKind} {a : Addr} {us : List Value} {n : Nat} {P : PySem.Fin → Shared → Prop} (ho : s.heap.get? a = some (seqObj "list" us.toArray n)) (hz : us.length ≤ sizeLine)
    (ask : ∀ h6, (∀ b o, b ≠ a → s.heap.get? b = some o → h6.get? b = some o) → 2 ≤ us.length → Asks prog w A { s with heap := h6 } kd O K (pairsOf us) ∧ ∀ (Q : SortKind → Shared → Prop) (E : Value → Shared → Prop), Q kd { s with heap := h6 } → wpAny (model prog w) A (keyKind' us.toArray) Q E { s with heap := h6 })
    (h : ∀ st' : SortSt, (arrOf st').Perm (pairsOf us) → Srt O K (arrOf st') 0 (pairsOf us).size → P (.done (.ret .none)) { s with heap := sortedHeap s.heap a us ((arrOf st').map (·.2)) }) :
    wpAny (model prog w) A (Builtin.«list.sort» ⟨[.ref a], []⟩) P E s := by
  rw [list_sort_plain]
  have ha : a < s.heap.objs.size := Heap.lt_size ho
  have hsz : us.toArray.size = us.length := by simp
  refine wpAny_bind (listItems_at ho rfl ?_)
  refine wpAny_bind (listUpdate_at ho rfl ?_ (by rw [hsz]; exact hz) (Nat.zero_le _))
  obtain ⟨e1, ho1⟩ : ∃ e1, (s.heap.update a (Obj.mapSeq fun _ => #[])).get? a = some (seqObj "list" #[] e1) := ⟨_, get?_update_seq ho (fun _ => #[])⟩
  refine wpAny_bind (seqEpoch_at ho1 rfl ?_)
  refine wpAny_bind (wpAny_newTuple ?_ (by simpa using hz))
  refine wpAny_bind (wpAny_newList ?_ (Nat.zero_le _))
  refine wpAny_holding ?_
  have ho6 : (((s.heap.update a (Obj.mapSeq fun _ => #[])).push (seqObj "tuple" us.toArray 0)).push (seqObj "list" #[] 0)).get? a = some (seqObj "list" #[] e1) := by
    rw [Heap.get?_push_ne _ _ _ (by rw [size_push', Heap.size_update]; exact Nat.ne_of_lt (Nat.lt_succ_of_lt ha)), Heap.get?_push_ne _ _ _ (by rw [Heap.size_update]; exact Nat.ne_of_lt ha)]
    exact ho1
  have kept : ∀ b o, b ≠ a → s.heap.get? b = some o → (((s.heap.update a (Obj.mapSeq fun _ => #[])).push (seqObj "tuple" us.toArray 0)).push (seqObj "list" #[] 0)).get? b = some o := fun b o hb e => by
    refine Heap.get?_push_of_some _ (Heap.get?_push_of_some _ ?_)
    rw [Heap.get?_update_ne _ _ _ _ hb]
    exact e
  show wpAny (model prog w) A _ P E { s with heap := ((s.heap.update a (Obj.mapSeq fun _ => #[])).push (seqObj "tuple" us.toArray 0)).push (seqObj "list" #[] 0) }
  dsimp only
  by_cases h2 : us.toArray.size < 2
  · rw [if_pos h2, if_pos h2]
    refine wpAny_bind (wpAny_pure ?_)
    rw [StateT.run_pure]
    refine wpAny_bind (wpAny_pure ?_)
    dsimp only
    refine wpAny_bind (seqEpoch_at ho6 rfl ?_)
    refine wpAny_bind (listUpdate_at ho6 rfl ?_ (Nat.zero_le _) (hsz2 := by rw [Array.size_map]; show (pairsOf us).size ≤ _; rw [pairsOf_size]; (clear kept h2 ha hsz ho1 ho6 ask h ho; lia)))
    simp only [bne_self_eq_false, Bool.false_eq_true, if_false]
    refine wpAny_pure (h (SortSt.mk' general' (us.toArray.zip us.toArray) #[] 7 none) (Array.Perm.refl _) ?_)
    intro i j x y _ hij hj ex ey
    have : i = j := by rw [pairsOf_size] at hj; (clear ho hz ask h ex ey ho1 ho6 ha kept; lia)
    subst this
    rw [ex] at ey
    cases ey
    exact KeyOrd.kle_refl _
  · rw [if_neg h2, if_neg h2]
    obtain ⟨C, kk⟩ := ask _ kept (by (clear ho hz ask h ho1 ho6 ha kept; lia))
    refine wpAny_bind (kk _ _ ?_)
    refine wpAny_bind (wpAny_mono (ask_runs (st := SortSt.mk' kd (us.toArray.zip us.toArray) #[] 7 none)
      (Q := fun _ st' => (arrOf st').Perm (pairsOf us) ∧ failedOf st' = none ∧ Srt O K (arrOf st') 0 (pairsOf us).size) C ⟨Array.Perm.refl _, rfl, rfl⟩ rfl fun st' a1 a2 a3 => ⟨a1, a2, a3⟩) ?_ fun _ _ e => e)
    rintro ⟨⟨⟩, st'⟩ s' ⟨rfl, hp, hf, hs⟩
    dsimp only
    refine wpAny_bind (seqEpoch_at ho6 rfl ?_)
    refine wpAny_bind (listUpdate_at ho6 rfl ?_ (Nat.zero_le _) (hsz2 := by refine Nat.le_trans (Nat.le_of_eq ((Array.size_map ..).trans (hp.size_eq.trans (pairsOf_size _)))) ?_; (clear kept h2 C kk hp hf hs ha hsz ho1 ho6 ask h ho; lia)))
    rw [hf]
    simp only [bne_self_eq_false, Bool.false_eq_true, if_false]
    exact wpAny_pure (h st' hp hs)
theorem sorted_any {O : KeyOrd} {K : Keyed → O.α} {kd : SortKind} {l : Addr} {us : List Value} {Q : Value → Shared → Prop} (hl : s.heap.IsList l us.toArray) (hz : us.length ≤ sizeLine)
    (ask : ∀ h6, (∀ b o, s.heap.get? b = some o → h6.get? b = some o) → 2 ≤ us.length → Asks prog w A.in1.in1 { s with heap := h6 } kd O K (pairsOf us) ∧ ∀ (Q : SortKind → Shared → Prop) (E : Value → Shared → Prop), Q kd { s with heap := h6 } → wpAny (model prog w) A.in1.in1 (keyKind' us.toArray) Q E { s with heap := h6 })
    (h : ∀ st' : SortSt, (arrOf st').Perm (pairsOf us) → Srt O K (arrOf st') 0 (pairsOf us).size → Q (.ref (s.heap.objs.size + 1)) { s with heap := sortedAll s.heap us ((arrOf st').map (·.2)) }) :
    wpAny (model prog w) A (call (.builtin "sorted") [.ref l]) Q E s := by
  refine Calls.call_function_entry kind_sorted plain_sorted entry_sorted (args_sorted1 _) ?_
  unfold Builtin.«sorted»
  refine wpAny_bind (m := checkCount "sorted" 1 1 _) (wpAny_pure ?_)
  refine wpAny_bind (collect_list hl ?_ hz)
  refine wpAny_bind (wpAny_newList ?_ hz)
  have hsz : ((s.heap.push (seqObj "list" #[] 0)).update s.heap.objs.size (Obj.mapSeq (· ++ us.toArray))).objs.size = s.heap.objs.size + 1 := by
    rw [Heap.size_update, size_push']
  have hoL : (((s.heap.push (seqObj "list" #[] 0)).update s.heap.objs.size (Obj.mapSeq (· ++ us.toArray))).push (seqObj "list" us.toArray 0)).get? (s.heap.objs.size + 1) = some (seqObj "list" us.toArray 0) := by
    rw [← hsz]; exact Heap.get?_push_size _ rfl
  have keep : ∀ b o, s.heap.get? b = some o → (((s.heap.push (seqObj "list" #[] 0)).update s.heap.objs.size (Obj.mapSeq (· ++ us.toArray))).push (seqObj "list" us.toArray 0)).get? b = some o := fun b o q => by
    have hlt : b < s.heap.objs.size := Heap.lt_size q
    rw [Heap.get?_push_ne _ _ _ (by rw [hsz]; exact Nat.ne_of_lt (Nat.lt_succ_of_lt hlt)), Heap.get?_update_ne _ _ _ _ (Nat.ne_of_lt hlt), Heap.get?_push_ne _ _ _ (Nat.ne_of_lt hlt)]
    exact q
  show wpAny _ _ _ _ _ { s with heap := ((s.heap.push (seqObj "list" #[] 0)).update s.heap.objs.size (Obj.mapSeq (· ++ us.toArray))).push (seqObj "list" us.toArray 0) }
  rw [hsz]
  refine wpAny_bind (wpAny_holding (wpAny_call_entry slot_list_sort ⟨_, hoL, rfl⟩ entry_list_sort (list_sort_any (O := O) (K := K) (kd := kd) (s := { s with heap := _ }) hoL hz (fun h6 k6 h2 => ?_) fun st' a1 a2 => ⟨_, rfl, ?_⟩) (args_list_sort _)))
  · exact ask h6 (fun b o e => k6 b o (Nat.ne_of_lt (Nat.lt_succ_of_lt (Heap.lt_size e))) (keep b o e)) h2
  · exact wpAny_pure ⟨_, rfl, h st' a1 a2⟩
end

structure CmpOk (O : KeyOrd) [DecidableEq O.α] (A : Enc O.α) (kd : SortKind) : Prop where
  kind : ∀ (X : Cx) (pins : List (Addr × Obj)) (σ : St) (H : Hp) (s : Shared) (xs : List V) (us : List Value) (cs : List O.α) (A' : Around) (Q : SortKind → Shared → Prop) (E : Value → Shared → Prop), Inv X pins σ H s → VDs H (cs.map A.enc) xs → Vals xs us → 0 < us.length → Q kd s →
    wpAny (model X.prog X.w) A' (keyKind' us.toArray) Q E s
  lt : ∀ (X : Cx) (pins : List (Addr × Obj)) (σ : St) (H : Hp) (s : Shared) (x y : V) (u v : Value) (c d : O.α) (A' : Around) (Q : Bool → Shared → Prop) (E : Value → Shared → Prop), Inv X pins σ H s → A'.units + 64 < cLine → VD H (A.enc c) x → VD H (A.enc d) y → RelV x u → RelV y v →
    Q (O.blt c d) s → wpAny (model X.prog X.w) A' (keyLt' kd u v) Q E s
section
variable {X : Cx} {pins : List (Addr × Obj)} {σ : St} {H : Hp} {s : Shared}
theorem mem_vals {O : KeyOrd} [DecidableEq O.α] {A : Enc O.α} : ∀ {cs : List O.α} {xs : List V} {us : List Value}, VDs H (cs.map A.enc) xs → Vals xs us → ∀ u ∈ us, ∃ x c, RelV x u ∧ VD H (A.enc c) x
  | [], xs, us, h, r, u, hu => by
    rw [show xs = [] from h] at r
    cases r
    cases hu
  | c :: cs, xs, us, h, r, u, hu => by
    obtain ⟨v, q, rfl, h1, h2⟩ := h
    cases r with
    | cons r1 r2 =>
      rcases List.mem_cons.mp hu with rfl | hu
      · exact ⟨v, c, r1, h1⟩
      · exact mem_vals h2 r2 u hu
theorem map_keys {O : KeyOrd} [DecidableEq O.α] {A : Enc O.α} {K : Keyed → O.α} (hK : ∀ (p : Keyed) x c, RelV x p.1 → VD H (A.enc c) x → K p = c) : ∀ {cs : List O.α} {xs : List V} {us : List Value}, VDs H (cs.map A.enc) xs → Vals xs us → (us.zip us).map K = cs
  | [], xs, us, h, r => by
    rw [show xs = [] from h] at r
    cases r
    rfl
  | c :: cs, xs, us, h, r => by
    obtain ⟨v, q, rfl, h1, h2⟩ := h
    cases r with
    | cons r1 r2 =>
      rw [List.zip_cons_cons, List.map_cons, map_keys hK h2 r2, hK _ v c r1 h1]
theorem build_vals {O : KeyOrd} [DecidableEq O.α] {A : Enc O.α} {K : Keyed → O.α} : ∀ (ps : List Keyed), (∀ p ∈ ps, ∃ x, RelV x p.2 ∧ VD H (A.enc (K p)) x) → ∃ xs, Vals xs (ps.map (·.2)) ∧ VDs H ((ps.map K).map A.enc) xs
  | [], _ => ⟨[], .nil, rfl⟩
  | p :: ps, h => by
    obtain ⟨x, r, d⟩ := h p List.mem_cons_self
    obtain ⟨xs, h1, h2⟩ := build_vals ps fun q hq => h q (List.mem_cons_of_mem _ hq)
    exact ⟨x :: xs, .cons r h1, x, xs, rfl, d, h2⟩
theorem zip_mem {us : List Value} {p : Keyed} (h : p ∈ us.zip us) : p.1 = p.2 ∧ p.1 ∈ us := by
  induction us with
  | nil => cases h
  | cons u us ih =>
    rw [List.zip_cons_cons] at h
    rcases List.mem_cons.mp h with rfl | h
    · exact ⟨rfl, List.mem_cons_self⟩
    · exact ⟨(ih h).1, List.mem_cons_of_mem _ (ih h).2⟩
theorem call_sorted {O : KeyOrd} [DecidableEq O.α] {A : Enc O.α} {kd : SortKind} (C : CmpOk O A kd) (hu : X.A.units + 100 < cLine) :
    CallR X (.builtin "sorted") (fun xs H Q => ∃ (a : Addr) (ys : List V) (cs : List O.α), xs = [.ref a] ∧ SqL X.K H a ys ∧ VDs H (cs.map A.enc) ys ∧ ∀ (zs : List V) (ds : List O.α), ds.Perm cs → ds.Pairwise O.kle → VDs H (ds.map A.enc) zs → ∀ p, H p = none → Q (.ref p) (upd H p (.lst zs))) := by
  intro pins s σ H xs us Q I r h
  obtain ⟨a, ys, cs, rfl, hl, hd, q⟩ := h
  obtain ⟨u, rfl, ru⟩ := vals1 r
  rw [show u = Value.ref a from ru]
  obtain ⟨its, rel, ⟨o, n, ho, hc, _, hdt⟩, hz⟩ := I.list hl
  have hlen : its.length = ys.length := rel.length.symm
  by_cases hne : Nonempty O.α
  · let K : Keyed → O.α := fun p => @Classical.epsilon O.α hne fun c => ∃ x, RelV x p.1 ∧ VD H (A.enc c) x
    have hK : ∀ (p : Keyed) x c, RelV x p.1 → VD H (A.enc c) x → K p = c := fun p x c r1 d1 => by
      have sp := @Classical.epsilon_spec O.α (fun c => ∃ x, RelV x p.1 ∧ VD H (A.enc c) x) ⟨c, x, r1, d1⟩
      obtain ⟨y, r2, d2⟩ := sp
      have : x = y := RelV.inj r1 r2
      subst this
      exact A.inj (VD.fn d2 d1)
    have kof : ∀ p ∈ (pairsOf its).toList, p.1 = p.2 ∧ ∃ x, RelV x p.1 ∧ VD H (A.enc (K p)) x := fun p hp => by
      rw [pairsOf_toList] at hp
      obtain ⟨e, hm⟩ := zip_mem hp
      obtain ⟨x, c, r1, d1⟩ := mem_vals hd rel p.1 hm
      refine ⟨e, x, r1, ?_⟩
      rw [hK p x c r1 d1]
      exact d1
    refine sorted_any (O := O) (K := K) (kd := kd) ⟨o, ho, hc, n, hdt⟩ (by (clear C hu I hl hd q ru r kof ho hc rel hdt hK; lia)) (fun h6 k6 h2 => ?_) fun st' hp hs => ?_
    · have I6 : Inv X pins σ H { s with heap := h6 } := I.kept (t' := s.toks) k6
      have hu2 : X.A.in1.in1.units + 64 < cLine := by show X.A.units + 1 + 1 + 64 < cLine; (clear kof k6 h2 I6 hd q ru r rel hz ho hc I hl hdt hlen C hK; lia)
      refine ⟨⟨fun x y hx hy Q' E' q' => ?_⟩, fun Q' E' q' => C.kind X pins σ H _ ys its cs _ Q' E' I6 hd rel (by (clear C hu I hl hd q ru r rel hz ho hc hu2 q' hdt hlen kof k6 hK I6; lia)) q'⟩
      obtain ⟨_, vx, rx, dx⟩ := kof x hx
      obtain ⟨_, vy, ry, dy⟩ := kof y hy
      exact C.lt X pins σ H _ vx vy x.1 y.1 (K x) (K y) _ Q' E' I6 hu2 dx dy rx ry q'
    · have pl := Array.perm_iff_toList_perm.mp hp
      obtain ⟨zs, hv, hvd⟩ := build_vals (H := H) (A := A) (K := K) (arrOf st').toList fun p hp' => by
        obtain ⟨e, x, r1, d1⟩ := kof p (pl.mem_iff.mp hp')
        rw [e] at r1
        exact ⟨x, r1, d1⟩
      have hperm : ((arrOf st').toList.map K).Perm cs := by
        have := pl.map K
        rw [pairsOf_toList, map_keys hK hd rel] at this
        exact this
      have hsrt : ((arrOf st').toList.map K).Pairwise O.kle := by
        rw [List.pairwise_map]
        have hs' : Srt O K (arrOf st') 0 (arrOf st').size := by rw [hp.size_eq]; exact hs
        exact hs'.pw
      obtain ⟨e, he⟩ := sortedAll_at s.heap its ((arrOf st').map (·.2))
      have hfr : H (s.heap.objs.size + 1) = none := I.hok.fresh (Nat.le_succ _)
      refine ⟨.ref (s.heap.objs.size + 1), upd H (s.heap.objs.size + 1) (.lst zs), I.laid (t' := s.toks) (fun b u e => sortedAll_old e) (Nat.le_succ _) ?_, rfl, q zs _ hperm hsrt hvd _ hfr⟩
      have hlz : zs.length ≤ sizeLine := by
        have l1 := hvd.length
        rw [List.length_map, hperm.length_eq] at l1
        have l2 := hd.length
        rw [List.length_map] at l2
        (clear C hu I hl hd q ru r kof hp hs pl hv hvd hperm hsrt ho hc hdt hlen he hfr rel hK; lia)
      refine ⟨hlz, ((arrOf st').map (·.2)).toList, e, ?_, ?_⟩
      · rw [Array.toList_map]
        exact hv
      · rw [he]
  · have hcs : cs = [] := by
      cases cs with
      | nil => rfl
      | cons c _ => exact absurd ⟨c⟩ hne
    subst hcs
    have : ys = [] := hd
    subst this
    have hi : its = [] := by
      cases rel
      rfl
    subst hi
    let O2 : KeyOrd := ⟨Unit, fun _ _ => false, fun _ => rfl, fun _ _ _ h _ => h, fun _ _ _ h => .inl h, fun _ _ _ _ => rfl⟩
    refine sorted_any (O := O2) (K := fun _ => ()) (kd := kd) ⟨o, ho, hc, n, hdt⟩ (by simp) (fun h6 k6 h2 => by simp at h2) fun st' hp hs => ?_
    have e0 : arrOf st' = #[] := by
      have := hp.size_eq
      rw [pairsOf_size] at this
      exact Array.eq_empty_of_size_eq_zero this
    obtain ⟨e, he⟩ := sortedAll_at s.heap [] ((arrOf st').map (·.2))
    have hfr : H (s.heap.objs.size + 1) = none := I.hok.fresh (Nat.le_succ _)
    refine ⟨.ref (s.heap.objs.size + 1), upd H (s.heap.objs.size + 1) (.lst []), I.laid (t' := s.toks) (fun b u e => sortedAll_old e) (Nat.le_succ _) ?_, rfl, q [] [] (List.Perm.refl _) List.Pairwise.nil rfl _ hfr⟩
    refine ⟨Nat.zero_le _, [], e, .nil, ?_⟩
    rw [he, e0]
    simp
end

def cLt (a b : Cel) : Bool := if a.1 = b.1 then decide (a.2 < b.2) else decide (a.1 < b.1)
theorem cLt_iff {a b : Cel} : cLt a b = true ↔ a.1 < b.1 ∨ (a.1 = b.1 ∧ a.2 < b.2) := by
  unfold cLt
  split
  · rename_i h; simp [h]
  · rename_i h
    simp only [decide_eq_true_eq]
    omega
theorem cLt_not {a b : Cel} : cLt a b = false ↔ b.1 < a.1 ∨ (b.1 = a.1 ∧ b.2 ≤ a.2) := by
  rw [Bool.eq_false_iff, Ne, cLt_iff]
  omega
def oCel : KeyOrd where
  α := Cel
  blt := cLt
  irrefl := fun a => cLt_not.mpr (by omega)
  trans := fun a b c h1 h2 => by rw [cLt_iff] at *; omega
  negTrans := fun a b c h => by rw [cLt_iff] at *; rw [cLt_iff]; omega
  total := fun a b h1 h2 => by
    rw [cLt_not] at *
    obtain ⟨a1, a2⟩ := a
    obtain ⟨b1, b2⟩ := b
    simp only at h1 h2
    have e1 : a1 = b1 := by omega
    have e2 : a2 = b2 := by omega
    rw [e1, e2]
instance : DecidableEq oCel.α := inferInstanceAs (DecidableEq Cel)
section
open PySem.W
theorem kat_tups {X : Cx} {pins : List (Addr × Obj)} {σ : St} {H : Hp} {s : Shared} {α : Type} [DecidableEq α] {A : Enc α} (I : Inv X pins σ H s) (hA : ∀ c v, VD H (A.enc c) v → ∃ a x r, v = .ref a ∧ H a = some (.tup (x :: r))) :
    ∀ {cs : List α} {xs : List V} {us : List Value}, VDs H (cs.map A.enc) xs → Vals xs us → ∃ fs, KatTups s.heap us fs ∧ fs.length = us.length ∧ ∀ f ∈ fs, ∃ c v a x r, VD H (A.enc c) v ∧ v = V.ref a ∧ H a = some (.tup (x :: r)) ∧ RelV x f
  | [], xs, us, h, r => by
    rw [show xs = [] from h] at r
    cases r
    exact ⟨[], .nil, rfl, fun f hf => by cases hf⟩
  | c :: cs, xs, us, h, r => by
    obtain ⟨v, q, rfl, h1, h2⟩ := h
    cases r with
    | cons r1 r2 =>
      obtain ⟨fs, k1, k2, k3⟩ := kat_tups I hA h2 r2
      obtain ⟨a, x, rr, rfl, e⟩ := hA c v h1
      cases (show _ = Value.ref a from r1)
      obtain ⟨its, rel, ⟨o, ho, hc, n, hd⟩, _⟩ := I.tuple (SqT.of e)
      cases rel with
      | @cons _ b0 _ l0 rx rrest =>
        refine ⟨b0 :: fs, .cons (f := b0) ho hc hd (by simp) k1, by simp [k2], fun f hf => ?_⟩
        rcases List.mem_cons.mp hf with rfl | hf
        · exact ⟨c, _, a, x, rr, h1, rfl, e, rx⟩
        · exact k3 f hf
theorem cmp_cel : CmpOk oCel eCel (tuples' true) where
  kind := fun X pins σ H s xs us cs A' Q E I hd rel hne q => by
    obtain ⟨fs, k1, k2, k3⟩ := kat_tups (A := eCel) I (fun c v h => by
      obtain ⟨a, rfl, e⟩ := vd_cel.mp h
      exact ⟨a, _, _, rfl, e⟩) hd rel
    refine kat_kind (T := .type "int") k1 (by (clear I hd q k1 rel k3; lia)) (fun f hf => ?_) rfl q
    obtain ⟨c, v, a, x, r, h1, rfl, e, rx⟩ := k3 f hf
    obtain ⟨b, eb, e2⟩ := vd_cel.mp h1
    cases eb
    rw [e] at e2
    cases e2
    obtain ⟨t, rfl⟩ := rx
    exact Looks.of_pure rfl
  lt := fun X pins σ H s x y u v c d A' Q E I hu h1 h2 r1 r2 q => by
    obtain ⟨a, rfl, ea⟩ := vd_cel.mp h1
    obtain ⟨b, rfl, eb⟩ := vd_cel.mp h2
    cases (show u = Value.ref a from r1)
    cases (show v = Value.ref b from r2)
    obtain ⟨its, rel, ⟨o, ho, hc, n, hdt⟩, _⟩ := I.tuple (SqT.of ea)
    obtain ⟨its2, rel2, ⟨o2, ho2, hc2, n2, hdt2⟩, _⟩ := I.tuple (SqT.of eb)
    cases rel with
    | cons p1 p2 =>
    cases p2 with
    | cons p2 p3 =>
    cases p3 with
    | nil =>
    cases rel2 with
    | cons q1 q2 =>
    cases q2 with
    | cons q2 q3 =>
    cases q3 with
    | nil =>
    obtain ⟨t1, rfl⟩ := p1
    obtain ⟨t2, rfl⟩ := p2
    obtain ⟨t3, rfl⟩ := q1
    obtain ⟨t4, rfl⟩ := q2
    refine kat_lt ho hdt ho2 hdt2 ?_
    show KatLex _ _ _ _ _ _ [(_, _), (_, _)] 0 _
    have q' : Q (cLt c d) s := q
    refine kat_cons (SeqAt.EqAt.int_int _ _ _ _ _ _ _ _ (kat_go (fun e => kat_yes ?_) (fun e => kat_no ?_)))
    · have e1 : c.1 = d.1 := by simpa using e
      refine kat_cons (SeqAt.EqAt.int_int _ _ _ _ _ _ _ _ (kat_go (fun e => kat_yes (kat_nil ?_)) (fun e => kat_no ?_)))
      · have e2 : c.2 = d.2 := by simpa using e
        rw [show cLt c d = false from cLt_not.mpr (by (clear I hu q ea h1 eb h2 r1 r2 ho hc ho2 hc2 hdt hdt2 q' e; lia))] at q'
        simpa using q'
      · have e2 : ¬ c.2 = d.2 := by simpa using e
        refine kat_one _ _ (lt_int ?_)
        show Q (decide (c.2 < d.2)) s
        unfold cLt at q'
        rw [if_pos e1] at q'
        exact q'
    · have e1 : ¬ c.1 = d.1 := by simpa using e
      refine oneLt_int ?_
      unfold cLt at q'
      rw [if_neg e1] at q'
      exact q'
end
theorem sorted_one {O : KeyOrd} : ∀ {l m : List O.α}, l.Perm m → l.Pairwise O.kle → m.Pairwise O.kle → l = m
  | [], m, p, _, _ => by rw [List.nil_perm.mp p]
  | a :: l, [], p, _, _ => by have := p.length_eq; simp at this
  | a :: l, b :: m, p, h1, h2 => by
    have ha : a ∈ b :: m := p.mem_iff.mp List.mem_cons_self
    have hb : b ∈ a :: l := p.mem_iff.mpr List.mem_cons_self
    obtain ⟨s1, s2⟩ := List.pairwise_cons.mp h1
    obtain ⟨t1, t2⟩ := List.pairwise_cons.mp h2
    have e : a = b := by
      rcases List.mem_cons.mp ha with e | ha
      · exact e
      · rcases List.mem_cons.mp hb with e | hb
        · exact e.symm
        · exact KeyOrd.kle_antisymm (s1 b hb) (t1 a ha)
    subst e
    rw [sorted_one ((List.perm_cons a).mp p) s2 t2]
end L2
namespace L2
open PySem PySem.Spec PyProof.Rows

theorem Same.new {H H' : Hp} {l : Addr} {o : HO} (s : Same H H') (h : H l = none) : Same H (upd H' l o) := fun b u e => by
  rw [upd_ne (ne_of_none e h)]
  exact s b u e
theorem same_of_upd {H : Hp} {l : Addr} {o : HO} (h : H l = none) : Same H (upd H l o) := (Same.refl H).new h
theorem app_cel {H : Hp} {l p : Addr} {xs : List V} {cs : List Cel} {c : Cel} (hl : H l = some (.lst xs)) (hp : H p = none) (hd : VDs H (cs.map eCel.enc) xs) :
    (upd (upd H p (.tup [.int c.1, .int c.2])) l (.lst (xs ++ [.ref p]))) l = some (.lst (xs ++ [.ref p])) ∧ VDs (upd (upd H p (.tup [.int c.1, .int c.2])) l (.lst (xs ++ [.ref p]))) ((cs ++ [c]).map eCel.enc) (xs ++ [.ref p]) := by
  have hlp : l ≠ p := ne_of_none hl hp
  have k1 : TupK H (upd H p (.tup [.int c.1, .int c.2])) := .new hp
  have k2 : TupK (upd H p (.tup [.int c.1, .int c.2])) (upd (upd H p (.tup [.int c.1, .int c.2])) l (.lst (xs ++ [.ref p]))) := .lst (ys := xs) (by rw [upd_ne hlp]; exact hl)
  refine ⟨upd_same, ?_⟩
  rw [List.map_append]
  refine (VDs.keep (k1.trans k2) _ _ hd).snoc (vd_cel.mpr ⟨p, rfl, ?_⟩)
  rw [upd_ne (Ne.symm hlp), upd_same]
theorem sz_small {n : Nat} (h : n ≤ 100000) : n < sizeLine := Nat.lt_of_le_of_lt h (by decide)
theorem map_cel_len {H : Hp} {cs : List Cel} {xs : List V} (h : VDs H (cs.map eCel.enc) xs) : xs.length = cs.length := by
  have := h.length
  rw [List.length_map] at this
  exact this.symm
theorem VDs.item {H : Hp} {α : Type} [DecidableEq α] {A : Enc α} {cs : List α} {xs : List V} {i : Nat} {v : V} (h : VDs H (cs.map A.enc) xs) (e : xs[i]? = some v) : ∃ c, cs[i]? = some c ∧ VD H (A.enc c) v := by
  obtain ⟨d, h1, h2⟩ := h.get' e
  rw [List.getElem?_map] at h1
  cases q : cs[i]? with
  | none => rw [q] at h1; cases h1
  | some c =>
    rw [q] at h1
    have : A.enc c = d := Option.some.inj h1
    subst this
    exact ⟨c, rfl, h2⟩
theorem VDs.item' {H : Hp} {α : Type} [DecidableEq α] {A : Enc α} {cs : List α} {xs : List V} {i : Nat} {c : α} (h : VDs H (cs.map A.enc) xs) (e : cs[i]? = some c) : ∃ v, xs[i]? = some v ∧ VD H (A.enc c) v :=
  h.get (by rw [List.getElem?_map, e]; rfl)
end L2

namespace CF
open L2 PyProof.Rows
def col (h : Nat) (x : Nat) : List Cel := (List.range h).map fun (y : Nat) => ((x : Int), (y : Int))
def cells (w h : Nat) : List Cel := (List.range w).flatMap (col h)
theorem cells_succ (w h : Nat) : cells (w + 1) h = cells w h ++ col h w := by
  unfold cells
  rw [List.range_succ, List.flatMap_append]
  simp
theorem col_succ (h x : Nat) : col (h + 1) x = col h x ++ [((x : Int), (h : Int))] := by
  unfold col
  rw [List.range_succ, List.map_append]
  rfl
theorem col_len (h x : Nat) : (col h x).length = h := by simp [col]
theorem cells_len (w h : Nat) : (cells w h).length = w * h := by
  induction w with
  | zero => simp [cells]
  | succ w ih => rw [cells_succ, List.length_append, ih, col_len, Nat.succ_mul]
theorem mem_col {h x : Nat} {c : Cel} : c ∈ col h x ↔ c.1 = x ∧ 0 ≤ c.2 ∧ c.2 < h := by
  unfold col
  rw [List.mem_map]
  constructor
  · rintro ⟨y, hy, rfl⟩
    have := List.mem_range.mp hy
    exact ⟨rfl, by simp, by simpa using this⟩
  · rintro ⟨h1, h2, h3⟩
    refine ⟨c.2.toNat, List.mem_range.mpr (by lia), ?_⟩
    obtain ⟨a, b⟩ := c
    simp only at h1 h2 h3 ⊢
    rw [h1]
    congr 1
    lia
theorem mem_cells {w h : Nat} {c : Cel} : c ∈ cells w h ↔ 0 ≤ c.1 ∧ c.1 < w ∧ 0 ≤ c.2 ∧ c.2 < h := by
  unfold cells
  rw [List.mem_flatMap]
  constructor
  · rintro ⟨x, hx, hc⟩
    obtain ⟨h1, h2, h3⟩ := mem_col.mp hc
    have := List.mem_range.mp hx
    lia
  · rintro ⟨h1, h2, h3, h4⟩
    exact ⟨c.1.toNat, List.mem_range.mpr (by lia), mem_col.mpr ⟨by lia, h3, h4⟩⟩
theorem col_rise (h x : Nat) : (col h x).Pairwise fun a b => cLt a b = true := by
  induction h with
  | zero => exact List.Pairwise.nil
  | succ h ih =>
    rw [col_succ]
    refine List.pairwise_append.mpr ⟨ih, List.pairwise_singleton _ _, fun a ha b hb => ?_⟩
    rw [List.mem_singleton.mp hb]
    obtain ⟨h1, h2, h3⟩ := mem_col.mp ha
    exact cLt_iff.mpr (.inr ⟨h1, h3⟩)
theorem cells_rise (w h : Nat) : (cells w h).Pairwise fun a b => cLt a b = true := by
  induction w with
  | zero => exact List.Pairwise.nil
  | succ w ih =>
    rw [cells_succ]
    refine List.pairwise_append.mpr ⟨ih, col_rise h w, fun a ha b hb => ?_⟩
    have h1 := (mem_cells.mp ha).2.1
    have h2 := (mem_col.mp hb).1
    exact cLt_iff.mpr (.inl (by lia))
theorem rise_nodup {l : List Cel} (h : l.Pairwise fun a b => cLt a b = true) : l.Nodup := by
  unfold List.Nodup
  refine h.imp fun {a b} hab e => ?_
  rw [e, show cLt b b = false from oCel.irrefl b] at hab
  cases hab
theorem cells_by (w h : Nat) : cells w h = (List.range (w * h)).map fun (k : Nat) => (((k / h : Nat) : Int), ((k % h : Nat) : Int)) := by
  apply List.ext_getElem?
  intro i
  induction w generalizing i with
  | zero => simp [cells]
  | succ w ih =>
    rw [cells_succ]
    by_cases hi : i < w * h
    · rw [List.getElem?_append_left (by rw [cells_len]; exact hi), ih, List.getElem?_map, List.getElem?_map, List.getElem?_range hi, List.getElem?_range (by rw [Nat.succ_mul]; lia)]
    · rw [List.getElem?_append_right (by rw [cells_len]; omega), cells_len]
      by_cases hj : i < (w + 1) * h
      · rw [Nat.succ_mul] at hj
        have hh : i - w * h < h := by omega
        unfold col
        rw [List.getElem?_map, List.getElem?_range hh, List.getElem?_map, List.getElem?_range (by rw [Nat.succ_mul]; omega)]
        have e1 : i / h = w := by
          have : i = h * w + (i - w * h) := by rw [Nat.mul_comm h w]; omega
          rw [this, Nat.mul_add_div (by (clear this ih hi hj; lia)), Nat.div_eq_of_lt hh, Nat.add_zero]
        have e2 : i % h = i - w * h := by
          have : i = h * w + (i - w * h) := by rw [Nat.mul_comm h w]; (clear e1 hj hh ih; omega)
          rw [this, Nat.mul_add_mod, Nat.mod_eq_of_lt hh]
          rw [Nat.mul_comm h w]; (clear ih hi hj hh e1 this; lia)
        rw [Option.map_some, Option.map_some, e1, e2]
      · rw [List.getElem?_eq_none (by rw [col_len]; rw [Nat.succ_mul] at hj; omega), List.getElem?_eq_none (by simp; omega)]
end CF
namespace L2
open PySem PySem.Spec PyProof.Rows
end L2
namespace L2
open PySem PySem.Spec PyProof.Rows

section
variable {α β : Type} [DecidableEq α] [DecidableEq β]
def Ls (A : Enc α) (H : Hp) (l : Addr) (cs : List α) : Prop := ∃ xs, H l = some (.lst xs) ∧ VDs H (cs.map A.enc) xs
theorem Ls.same {A : Enc α} {H H' : Hp} {l : Addr} {cs : List α} (h : Ls A H l cs) (s : Same H H') : Ls A H' l cs := by
  obtain ⟨xs, h1, h2⟩ := h
  exact ⟨xs, s _ _ h1, VDs.keep s.tk _ _ h2⟩
theorem Ls.nil {A : Enc α} {H : Hp} {l : Addr} (h : H l = some (.lst [])) : Ls A H l [] := ⟨[], h, rfl⟩
theorem VDs.len {A : Enc α} {H : Hp} {cs : List α} {xs : List V} (h : VDs H (cs.map A.enc) xs) : xs.length = cs.length := by
  have := h.length
  rw [List.length_map] at this
  exact this.symm
theorem VDs.ints {H : Hp} : ∀ {bs : List Int} {xs : List V}, VDs H (bs.map eInt.enc) xs → xs = bs.map V.int
  | [], xs, h => h
  | b :: bs, xs, h => by
    obtain ⟨v, r, rfl, h1, h2⟩ := h
    rw [VDs.ints h2, show v = V.int b from h1]
    rfl

structure Walk (J : It) (H1 : Hp) (n : Nat) (at_ : Nat → V) : Prop where
  go : ∀ i H, Same H1 H → i < n → J.go i H
  yld : ∀ i H x H', Same H1 H → i < n → J.yld i H x H' → H' = H ∧ x = at_ i
  stop : ∀ H, Same H1 H → J.stop n H
theorem Same.seqT {K : PySem.W.Frag} {H H' : Hp} {a : Addr} {xs : List V} (e : Same H H') (h : SqT K H a xs) : SqT K H' a xs := by
  rcases h with (h | ⟨o, h⟩) | h
  · exact .inl (.inl (e _ _ h))
  · exact .inl (.inr ⟨o, e _ _ h⟩)
  · exact .inr h
theorem Walk.list {K : PySem.W.Frag} {H1 : Hp} {a : Addr} {xs : List V} (h : SqL K H1 a xs) : Walk (Itl K a) H1 xs.length (fun i => xs.getD i .non) where
  go := fun i H s hi => ⟨xs, xs[i], s.seq h, by simp [hi]⟩
  yld := fun i H x H' s hi y => by
    obtain ⟨e, y⟩ := y
    refine ⟨e, ?_⟩
    have := y xs (s.seq h)
    rw [List.getD_eq_getElem?_getD, this]
    rfl
  stop := fun H s => ⟨xs, s.seq h, Nat.le_refl _⟩
theorem Walk.tup {K : PySem.W.Frag} {H1 : Hp} {a : Addr} {xs : List V} (h : SqT K H1 a xs) : Walk (Itt K a) H1 xs.length (fun i => xs.getD i .non) where
  go := fun i H s hi => ⟨xs, xs[i], s.seqT h, by simp [hi]⟩
  yld := fun i H x H' s hi y => by
    obtain ⟨e, y⟩ := y
    refine ⟨e, ?_⟩
    have := y xs (s.seqT h)
    rw [List.getD_eq_getElem?_getD, this]
    rfl
  stop := fun H s => ⟨xs, s.seqT h, Nat.le_refl _⟩
theorem Walk.range {lo : Int} {n : Nat} {H1 : Hp} : Walk (Itr lo n) H1 n (fun i => .int (lo + i)) where
  go := fun i H s hi => hi
  yld := fun i H x H' s hi y => y
  stop := fun H s => Nat.le_refl _
theorem filter_take_succ {cs : List α} {p : α → Bool} {i : Nat} {c : α} (h : cs[i]? = some c) : (cs.take (i + 1)).filter p = (cs.take i).filter p ++ (if p c = true then [c] else []) := by
  rw [List.take_add_one, h, List.filter_append]
  congr 1
  by_cases e : p c = true
  · rw [if_pos e]; simp [e]
  · rw [if_neg e]; simp [e]
theorem comp_fm {J : It} {H1 : Hp} {n : Nat} {at_ : Nat → V} {B : Enc β} {cs : List α} {p : α → Bool} {f : α → β} {caps : List (Option Nat)} {g : TG} {tt : TT} {te : TE} {σ : St} {D : Addr} {Q : VK} (V0 : α → V → Prop)
    (W : Walk J H1 n at_) (hn : cs.length = n) (hz : cs.length ≤ 100000) (hv : ∀ i c, cs[i]? = some c → V0 c (at_ i)) (hD : H1 D = none)
    (hs : ∀ (c : α) (v : V) (H : Hp) (R1 : Hp → Prop) (R2 : VK), c ∈ cs → V0 c v → Same H1 H → (p c = false → ∀ H', Same H H' → R1 H') → (p c = true → ∀ u H', Same H H' → VD H' (B.enc (f c)) u → R2 u H') →
      g v (capt caps σ) H fun σ4 H4 => tt σ4 H4 fun b H5 => if b = true then te σ4 H5 R2 else R1 H5)
    (k : ∀ H', Same H1 H' → Ls B H' D ((cs.filter p).map f) → Q (.ref D) H') : CompW J caps g tt te σ D H1 Q := by
  refine ⟨fun i m ys H => m = n - i ∧ i ≤ n ∧ Same H1 H ∧ H D = some (.lst ys) ∧ VDs H ((((cs.take i).filter p).map f).map B.enc) ys, ⟨_, rfl, Nat.zero_le _, same_of_upd hD, upd_same, rfl⟩, ?_⟩
  rintro i m ys H ⟨rfl, hi, s, hD', dv⟩
  by_cases e : i = n
  · subst e
    refine .inl ⟨W.stop H s, k H s ⟨ys, hD', ?_⟩⟩
    rw [← hn, List.take_length] at dv
    exact dv
  · have hlt : i < n := by (clear W hn hz hv hD hs s hD' k dv; lia)
    obtain ⟨c, hc⟩ : ∃ c, cs[i]? = some c := ⟨cs[i]'(by (clear hD hs k hi s hD' dv e hz hv W; lia)), List.getElem?_eq_getElem _⟩
    refine .inr ⟨W.go i H s hlt, fun zs H' => Same H1 H' ∧ H' D = some (.lst zs) ∧ VDs H' ((((cs.take (i + 1)).filter p).map f).map B.enc) zs, fun zs H' q => ⟨_, ?_, rfl, hlt, q⟩, fun x H3 hy => ?_⟩
    · (clear W hn hz hv hD hs k hi s hD' dv e q hc; lia)
    · obtain ⟨rfl, rfl⟩ := W.yld i H x H3 s hlt hy
      refine hs c _ H3 _ _ (List.mem_of_getElem? hc) (hv i c hc) s (fun hp H' s' => ⟨s.trans s', s' _ _ hD', ?_⟩) fun hp u H' s' hu => ⟨ys, s' _ _ hD', ?_, (s.trans s').new hD, upd_same, ?_⟩
      · rw [filter_take_succ hc, if_neg (by rw [hp]; simp), List.append_nil]
        exact VDs.keep s'.tk _ _ dv
      · have l1 := VDs.len dv
        rw [List.length_map] at l1
        have l2 : ((cs.take i).filter p).length ≤ (cs.take i).length := List.length_filter_le _ _
        rw [List.length_take] at l2
        exact sz_small (by (clear e hlt hc s hD' dv hy hp hD hs k hi W hn s' hu hv; lia))
      · rw [filter_take_succ hc, if_pos hp, List.map_append, List.map_append]
        have kk : TupK H' (upd H' D (.lst (ys ++ [u]))) := .lst (s' _ _ hD')
        exact (VDs.keep (s'.tk.trans kk) _ _ dv).snoc (VD.keep kk _ _ hu)
theorem comp_L {K : PySem.W.Frag} {H1 : Hp} {a : Addr} {xs : List V} {A : Enc α} {B : Enc β} {cs : List α} {caps : List (Option Nat)} {g : TG} {tt : TT} {te : TE} {σ : St} {D : Addr} {Q : VK} (p : α → Bool) (f : α → β)
    (ha : SqL K H1 a xs) (dx : VDs H1 (cs.map A.enc) xs) (hz : cs.length ≤ 100000) (hD : H1 D = none)
    (hs : ∀ (c : α) (v : V) (H : Hp) (R1 : Hp → Prop) (R2 : VK), c ∈ cs → VD H (A.enc c) v → Same H1 H → (p c = false → ∀ H', Same H H' → R1 H') → (p c = true → ∀ u H', Same H H' → VD H' (B.enc (f c)) u → R2 u H') →
      g v (capt caps σ) H fun σ4 H4 => tt σ4 H4 fun b H5 => if b = true then te σ4 H5 R2 else R1 H5)
    (k : ∀ H', Same H1 H' → Ls B H' D ((cs.filter p).map f) → Q (.ref D) H') : CompW (Itl K a) caps g tt te σ D H1 Q :=
  comp_fm (fun c v => VD H1 (A.enc c) v) (Walk.list ha) (by rw [VDs.len dx]) hz (fun i c hc => by
    obtain ⟨v, h1, h2⟩ := dx.item' hc
    rw [List.getD_eq_getElem?_getD, h1]
    exact h2) hD (fun c v H R1 R2 hc hv s r1 r2 => hs c v H R1 R2 hc (VD.keep s.tk _ _ hv) s r1 r2) k
theorem comp_T {K : PySem.W.Frag} {H1 : Hp} {a : Addr} {xs : List V} {A : Enc α} {B : Enc β} {cs : List α} {caps : List (Option Nat)} {g : TG} {tt : TT} {te : TE} {σ : St} {D : Addr} {Q : VK} (p : α → Bool) (f : α → β)
    (ha : SqT K H1 a xs) (dx : VDs H1 (cs.map A.enc) xs) (hz : cs.length ≤ 100000) (hD : H1 D = none)
    (hs : ∀ (c : α) (v : V) (H : Hp) (R1 : Hp → Prop) (R2 : VK), c ∈ cs → VD H (A.enc c) v → Same H1 H → (p c = false → ∀ H', Same H H' → R1 H') → (p c = true → ∀ u H', Same H H' → VD H' (B.enc (f c)) u → R2 u H') →
      g v (capt caps σ) H fun σ4 H4 => tt σ4 H4 fun b H5 => if b = true then te σ4 H5 R2 else R1 H5)
    (k : ∀ H', Same H1 H' → Ls B H' D ((cs.filter p).map f) → Q (.ref D) H') : CompW (Itt K a) caps g tt te σ D H1 Q :=
  comp_fm (fun c v => VD H1 (A.enc c) v) (Walk.tup ha) (by rw [VDs.len dx]) hz (fun i c hc => by
    obtain ⟨v, h1, h2⟩ := dx.item' hc
    rw [List.getD_eq_getElem?_getD, h1]
    exact h2) hD (fun c v H R1 R2 hc hv s r1 r2 => hs c v H R1 R2 hc (VD.keep s.tk _ _ hv) s r1 r2) k
theorem comp_R {H1 : Hp} {B : Enc β} {lo : Int} {n : Nat} {caps : List (Option Nat)} {g : TG} {tt : TT} {te : TE} {σ : St} {D : Addr} {Q : VK} (p : Nat → Bool) (f : Nat → β) (hz : n ≤ 100000) (hD : H1 D = none)
    (hs : ∀ (i : Nat) (H : Hp) (R1 : Hp → Prop) (R2 : VK), i < n → Same H1 H → (p i = false → ∀ H', Same H H' → R1 H') → (p i = true → ∀ u H', Same H H' → VD H' (B.enc (f i)) u → R2 u H') →
      g (.int (lo + (i : Int))) (capt caps σ) H fun σ4 H4 => tt σ4 H4 fun b H5 => if b = true then te σ4 H5 R2 else R1 H5)
    (k : ∀ H', Same H1 H' → Ls B H' D (((List.range n).filter p).map f) → Q (.ref D) H') : CompW (Itr lo n) caps g tt te σ D H1 Q :=
  comp_fm (cs := List.range n) (fun i v => v = .int (lo + (i : Int))) Walk.range List.length_range (by rw [List.length_range]; exact hz) (fun i c hc => by
    obtain ⟨h1, h2⟩ := List.getElem?_eq_some_iff.mp hc
    simp at h2
    rw [h2]) hD (fun c v H R1 R2 hc hv s r1 r2 => by
    subst hv
    exact hs c H R1 R2 (List.mem_range.mp hc) s r1 r2) k
end
theorem vd_bl {H : Hp} {b : Bool} : VD H (eBool.enc b) (.bl b) := rfl
theorem filter_true {α : Type} (cs : List α) : cs.filter (fun _ => true) = cs := List.filter_eq_self.mpr fun _ _ => rfl
theorem vd_crn_of {H : Hp} {p : Addr} {xs : List V} {a b c : Cel} (h : H p = some (.tup xs)) (d : VDs H ([a, b, c].map eCel.enc) xs) : VD H (eCrn.enc (a, b, c)) (.ref p) := by
  obtain ⟨v1, r1, rfl, h1, v2, r2, rfl, h2, v3, r3, rfl, h3, rfl⟩ := d
  exact vd_crn.mpr ⟨p, v1, v2, v3, rfl, h, h1, h2, h3⟩
end L2
namespace L2
open PySem PySem.Spec PyProof.Rows
def bestI (lt : Int → Int → Bool) (ns : List Int) : Int := ns.getD (PySem.argBest (fun i j => lt (ns.getD i 0) (ns.getD j 0)) (ns.length - 1)) 0
section
variable {X : Cx}
theorem ints_at {X : Cx} {ns : List Int} {its : List Value} (rel : Vals (ns.map V.int) its) {i : Nat} {v : Value} (e : its.toArray[i]? = some v) : ∃ t, v = .int (ns.getD i 0) t ∧ i < ns.length := by
  have e' : its[i]? = some v := by simpa using e
  have hlen : its.length = ns.length := by rw [← rel.length, List.length_map]
  have hi : i < ns.length := by rw [← hlen]; exact (List.getElem?_eq_some_iff.mp e').1
  obtain ⟨u', h1, h2⟩ := rel.get (i := i) (x := .int ns[i]) (by rw [List.getElem?_map, List.getElem?_eq_getElem hi]; rfl)
  rw [e'] at h1
  cases h1
  obtain ⟨t, rfl⟩ := h2
  exact ⟨t, by rw [List.getD_eq_getElem?_getD, List.getElem?_eq_getElem hi]; rfl, hi⟩
theorem call_maxL (hc : X.calm = true) : CallR X (.builtin "max") (fun xs H Q => ∃ (a : Addr) (ns : List Int), xs = [.ref a] ∧ SqL X.K H a (ns.map V.int) ∧ 0 < ns.length ∧ Q (.int (bestI (fun a b => decide (b < a)) ns)) H) := by
  intro pins s σ H xs us Q I r h
  obtain ⟨a, ns, rfl, hl, h0, q⟩ := h
  obtain ⟨u, rfl, ru⟩ := vals1 r
  rw [show u = Value.ref a from ru]
  obtain ⟨its, rel, pl, hz⟩ := I.list hl
  have hlen : its.length = ns.length := by rw [← rel.length, List.length_map]
  refine call_max_walk (wpAny_pyIter_list pl.isList ?_)
  have hne : a ≠ s.heap.objs.size := by
    obtain ⟨o, n, ho, _⟩ := pl
    exact Nat.ne_of_lt (Heap.lt_size ho)
  refine ⟨s.heap.objs.size, _, _, _, _, _, fun i j => decide (ns.getD j 0 < ns.getD i 0), rfl, Walks.list (A := X.A.in1) (show X.A.in1.handled = none from I.ok.hd hc) s.heap.objs.size a hne its.toArray, ⟨⟨_, Heap.get?_push_size _ rfl, rfl, rfl⟩, ?_⟩, ?_, ?_, ?_, fun v h' tk hv kp => ?_⟩
  · obtain ⟨o, n, ho, h1, _, h2⟩ := pl
    exact ⟨o, Heap.get?_push_of_some _ ho, h1, n, h2⟩
  · intro b hb
    simp only [List.mem_cons, List.not_mem_nil, or_false] at hb
    have hs : ∀ o : Obj, (s.heap.push o).objs.size = s.heap.objs.size + 1 := fun o => by simp [Heap.push]
    rcases hb with rfl | rfl
    · rw [hs]; exact Nat.lt_succ_self _
    · rw [hs]
      obtain ⟨o, n, ho, _⟩ := pl
      exact Nat.lt_succ_of_lt (Heap.lt_size ho)
  · simp only [List.size_toArray, hlen]
    exact h0
  · intro i j vi vj s' Q' E' h1 h2 q'
    obtain ⟨t1, rfl, _⟩ := ints_at (X := X) rel h1
    obtain ⟨t2, rfl, _⟩ := ints_at (X := X) rel h2
    exact gt_int q'
  · obtain ⟨t, rfl, _⟩ := ints_at (X := X) rel hv
    refine ⟨.int (bestI (fun a b => decide (b < a)) ns), H, I.kept (t' := tk) fun b o e => kp b o ?_ (Heap.get?_push_of_some _ e), ⟨t, ?_⟩, q⟩
    · have := Heap.lt_size e
      simp only [List.mem_singleton]
      exact Nat.ne_of_lt this
    · unfold bestI
      simp only [List.size_toArray, hlen]
theorem call_minL (hc : X.calm = true) : CallR X (.builtin "min") (fun xs H Q => ∃ (a : Addr) (ns : List Int), xs = [.ref a] ∧ SqL X.K H a (ns.map V.int) ∧ 0 < ns.length ∧ Q (.int (bestI (fun a b => decide (a < b)) ns)) H) := by
  intro pins s σ H xs us Q I r h
  obtain ⟨a, ns, rfl, hl, h0, q⟩ := h
  obtain ⟨u, rfl, ru⟩ := vals1 r
  rw [show u = Value.ref a from ru]
  obtain ⟨its, rel, pl, hz⟩ := I.list hl
  have hlen : its.length = ns.length := by rw [← rel.length, List.length_map]
  refine call_min_walk (wpAny_pyIter_list pl.isList ?_)
  have hne : a ≠ s.heap.objs.size := by
    obtain ⟨o, n, ho, _⟩ := pl
    exact Nat.ne_of_lt (Heap.lt_size ho)
  refine ⟨s.heap.objs.size, _, _, _, _, _, fun i j => decide (ns.getD i 0 < ns.getD j 0), rfl, Walks.list (A := X.A.in1) (show X.A.in1.handled = none from I.ok.hd hc) s.heap.objs.size a hne its.toArray, ⟨⟨_, Heap.get?_push_size _ rfl, rfl, rfl⟩, ?_⟩, ?_, ?_, ?_, fun v h' tk hv kp => ?_⟩
  · obtain ⟨o, n, ho, h1, _, h2⟩ := pl
    exact ⟨o, Heap.get?_push_of_some _ ho, h1, n, h2⟩
  · intro b hb
    simp only [List.mem_cons, List.not_mem_nil, or_false] at hb
    have hs : ∀ o : Obj, (s.heap.push o).objs.size = s.heap.objs.size + 1 := fun o => by simp [Heap.push]
    rcases hb with rfl | rfl
    · rw [hs]; exact Nat.lt_succ_self _
    · rw [hs]
      obtain ⟨o, n, ho, _⟩ := pl
      exact Nat.lt_succ_of_lt (Heap.lt_size ho)
  · simp only [List.size_toArray, hlen]
    exact h0
  · intro i j vi vj s' Q' E' h1 h2 q'
    obtain ⟨t1, rfl, _⟩ := ints_at (X := X) rel h1
    obtain ⟨t2, rfl, _⟩ := ints_at (X := X) rel h2
    exact lt_int q'
  · obtain ⟨t, rfl, _⟩ := ints_at (X := X) rel hv
    refine ⟨.int (bestI (fun a b => decide (a < b)) ns), H, I.kept (t' := tk) fun b o e => kp b o ?_ (Heap.get?_push_of_some _ e), ⟨t, ?_⟩, q⟩
    · have := Heap.lt_size e
      simp only [List.mem_singleton]
      exact Nat.ne_of_lt this
    · unfold bestI
      simp only [List.size_toArray, hlen]
end
theorem best3 (lt : Int → Int → Bool) (a b c : Int) : bestI lt [a, b, c] = (if lt c (if lt b a then b else a) then c else if lt b a then b else a) := by
  show List.getD [a, b, c] (if lt c (List.getD [a, b, c] (if lt b a then 1 else 0) 0) then 2 else if lt b a then 1 else 0) 0 = _
  cases h1 : lt b a with
  | true =>
    simp
    cases h2 : lt c b <;> simp
  | false =>
    simp
    cases h2 : lt c a <;> simp

section
variable {X : Cx} {pins : List (Addr × Obj)} {σ : St} {H : Hp} {s : Shared}
end
section
variable {X : Cx}
end
theorem op_ltC {X : Cx} (hu : X.A.units < cLine) : OpR X (compareOp .Lt) (fun x y H Q => ∃ c d : Cel, VD H (eCel.enc c) x ∧ VD H (eCel.enc d) y ∧ Q (.bl (cLt c d)) H) := by
  intro pins s σ H x y v u Q I rx ry h
  obtain ⟨c, d, h1, h2, q⟩ := h
  obtain ⟨a, rfl, ha⟩ := vd_cel.mp h1
  obtain ⟨b, rfl, hb⟩ := vd_cel.mp h2
  refine op_ltT hu pins s σ H _ _ v u Q I rx ry ⟨a, b, [c.1, c.2], [d.1, d.2], rfl, rfl, SqT.of ha, SqT.of hb, ?_⟩
  have e : HT.lexLt [c.1, c.2] [d.1, d.2] = cLt c d := by
    simp only [HT.lexLt, cLt]
    by_cases e1 : c.1 = d.1 <;> by_cases e2 : c.2 = d.2 <;> simp [e1, e2]
  rw [e]
  exact q
end L2
namespace CF
open PySem PySem.Spec L2 PyProof.Rows
def cov (cs : List Crn) : List Cel := cs.flatMap fun k => [k.1, k.2.1, k.2.2]
theorem cov_append (as bs : List Crn) : cov (as ++ bs) = cov as ++ cov bs := by unfold cov; rw [List.flatMap_append]
theorem cov_cons (k : Crn) (bs : List Crn) : cov (k :: bs) = [k.1, k.2.1, k.2.2] ++ cov bs := rfl
theorem cov_len (cs : List Crn) : (cov cs).length = 3 * cs.length := by
  induction cs with
  | nil => rfl
  | cons k cs ih => rw [cov_cons, List.length_append, ih, List.length_cons, List.length_cons, List.length_cons, List.length_cons, List.length_nil]; lia
def maxI : Int → Int → Bool := fun a b => decide (b < a)
def minI : Int → Int → Bool := fun a b => decide (a < b)
def spanOk (a b c : Int) : Bool := decide (bestI maxI [a, b, c] - bestI minI [a, b, c] = 1)
def isCrn (k : Crn) : Bool := spanOk k.1.1 k.2.1.1 k.2.2.1 && spanOk k.1.2 k.2.1.2 k.2.2.2 && (cLt k.1 k.2.1 && cLt k.2.1 k.2.2)
theorem bmax (a b c : Int) : bestI maxI [a, b, c] = max (max a b) c := by
  rw [best3]
  simp only [maxI, decide_eq_true_eq]
  by_cases h1 : a < b
  · rw [if_pos h1]
    by_cases h2 : b < c
    · rw [if_pos h2]; lia
    · rw [if_neg h2]; lia
  · rw [if_neg h1]
    by_cases h2 : a < c
    · rw [if_pos h2]; lia
    · rw [if_neg h2]; omega
theorem bmin (a b c : Int) : bestI minI [a, b, c] = min (min a b) c := by
  rw [best3]
  simp only [minI, decide_eq_true_eq]
  by_cases h1 : b < a
  · rw [if_pos h1]
    by_cases h2 : c < b
    · rw [if_pos h2]; lia
    · rw [if_neg h2]; lia
  · rw [if_neg h1]
    by_cases h2 : c < a
    · rw [if_pos h2]; lia
    · rw [if_neg h2]; lia
theorem span_iff {a b c : Int} : spanOk a b c = true ↔ max (max a b) c - min (min a b) c = 1 := by
  unfold spanOk
  rw [decide_eq_true_eq, bmax, bmin]
def crns (x y : Int) : List Crn := [((x, y + 1), (x + 1, y), (x + 1, y + 1)), ((x, y), (x + 1, y), (x + 1, y + 1)), ((x, y), (x, y + 1), (x + 1, y + 1)), ((x, y), (x, y + 1), (x + 1, y))]
theorem isCrn_of {x y : Int} {k : Crn} (h : k ∈ crns x y) : isCrn k = true := by
  simp only [crns, List.mem_cons, List.not_mem_nil, or_false] at h
  simp only [isCrn, Bool.and_eq_true, span_iff, cLt_iff]
  rcases h with rfl | rfl | rfl | rfl
  · exact ⟨⟨by dsimp only; lia, by dsimp only; lia⟩, by dsimp only; lia, by dsimp only; lia⟩
  · exact ⟨⟨by dsimp only; lia, by dsimp only; lia⟩, by dsimp only; lia, by dsimp only; lia⟩
  · exact ⟨⟨by dsimp only; lia, by dsimp only; lia⟩, by dsimp only; lia, by dsimp only; lia⟩
  · exact ⟨⟨by dsimp only; lia, by dsimp only; lia⟩, by dsimp only; lia, by dsimp only; lia⟩
def Fills (cs : List Crn) (F : List Cel) : Prop := (∀ k ∈ cs, isCrn k = true) ∧ (cov cs).Perm F
end CF
namespace L2
open PySem PySem.Spec PyProof.Rows
section
variable {X : Cx}
end
end L2
namespace L2
open PySem PySem.Spec PyProof.Rows
section
variable {prog : Program} {w : World} {K : Type} [DecidableEq K]
end

section
variable {X : Cx} {pins : List (Addr × Obj)} {σ : St} {H : Hp} {s : Shared} {a b : Addr} {d : V} {r : Value} {A : Around} {E : Value → Shared → Prop} {kvs : List (List Key × V)} {k : List Key}
end
section
variable {X : Cx} {o e f : Expr} {apos cpos : Pos} {td ty tx : TE}
end
end L2
namespace CF
open PySem PySem.Spec L2 PyProof.Rows
end CF
namespace L2
open PySem PySem.Spec PyProof.Rows
def vbm : List Value := [Value.type "ValueError", Value.type "Exception", Value.type "BaseException", Value.type "object"]
theorem own_cls {K : PySem.W.Frag} {mg : Str → Option Value} {base : Heap} {P : Program} {x : Str} {C : Addr} (M : Mod K mg base) (hx : PySem.W.nsIn K mainGlobals x = some (some (.ref C))) (he : PySem.W.excIn K C vbm "ValueError.__new__" = true) : OwnCls x C vbm "ValueError.__new__" mg base := by
  obtain ⟨mb, hb, hbo⟩ := M.blt
  obtain ⟨o, es, ep, ho, hd, sk, hm⟩ := id M.glob
  refine PySem.W.own_of_in (p := P) (loose := es.toList.filterMap fun e => match e.key with | .str n _ => some n | _ => none) M.kin ⟨M.glob, hb, M.nolimit, hbo, fun y _ hy _ _ _ => ?_⟩ hx he
  rw [← hm y]
  unfold nsFind findBy
  rw [Option.map_eq_none_iff, Array.find?_eq_none]
  intro e he' hs
  obtain ⟨n, t, hk⟩ := sk e he'
  rw [hk] at hs
  have hn : n = y := by simpa [Value.isStr] using hs
  subst hn
  exact hy (List.mem_filterMap.mpr ⟨e, by simpa using he', by rw [hk]⟩)
def FlyHead (h0 h : Heap) (H : Hp) (x : Addr) (vs : Array Value) : Prop := vs[1]? = some .none ∨ ∃ T oT ts, vs[1]? = some (.ref T) ∧ T ≠ x ∧ h0.get? T = none ∧ H T = none ∧ h.get? T = some oT ∧ oT.data = .fields ts ∧ 3 < ts.size ∧ ts[3]? = some .none
def Fly (h0 h : Heap) (H : Hp) (x C : Addr) : Prop := h0.get? x = none ∧ H x = none ∧ ∃ oe vs, h.get? x = some oe ∧ oe.cls = .ref C ∧ oe.dict = none ∧ oe.data = .fields vs ∧ 1 < vs.size ∧ FlyHead h0 h H x vs
def CX1 (P : Program) (w : World) : CXT := fun outer H s E e s' => ∃ x C H', e = .ref x ∧ s'.os = s.os ∧ AllBare s'.gens ∧ Un (frs outer) [] H H' s.heap s'.heap ∧ HOk P w H' s'.heap ∧ Fly s.heap s'.heap H' x C ∧ E (.ref C) (some x) H'
theorem entry_exact {M : Model} {A : Around} {E : Value → Shared → Prop} {s : Shared} {base : Heap} {env : Env} {outer : List Env} {L x : Addr} {oe : Obj} {vs : Array Value} {head : Value} {hn : Bool} {Q : Unit → Shared → Prop} (hf : A.frames = some (env :: outer)) (hF : s.heap.FunFrames base (env :: outer)) (hL : env.frame = some L)
    (g1 : s.heap.get? x = some oe) (g3 : oe.data = .fields vs) (hsz : 1 < vs.size) (hxF : x ∉ frs (env :: outer))
    (k : ∀ (h' : Heap) (tb : Addr) (ts : Array Value), s.heap.objs.size ≤ tb → h'.get? x = some { oe with data := .fields (vs.setIfInBounds 1 (.ref tb)) } → h'.get? tb = some { cls := .type "traceback", data := .fields ts } → 3 < ts.size → ts[3]? = some .none →
      (∀ b o, s.heap.get? b = some o → b ∉ frs (env :: outer) → b ≠ x → h'.get? b = some o) → (∀ b o, s.heap.get? b = some o → b ∈ frs (env :: outer) → b ≠ x → ∃ sl, h'.get? b = some { o with slots := sl }) → Q () { s with heap := h' }) :
    wpAny M A (do
      let a ← PySem.frameOf env
      let pl ← entryPlaceOf L hn
      let b ← EntryCells.newEntry head a Value.none (rawInt ↑L) Value.none pl
      setField (Value.ref x) 1 b) (fun _ s' => wpAny M A (setFlight (Value.ref x) none) Q E s') E s := by
  refine wpAny_bind (wpAny_frameOf_fun hf hF hL fun h1 so => wpAny_bind (wpAny_entryPlaceOf fun pl ip => ?_))
  obtain ⟨z1, z2, z3⟩ := so
  have kx : h1.get? x = some oe := by rw [z2 x hxF]; exact g1
  have hxs : x < h1.objs.size := Heap.lt_size kx
  obtain ⟨ts, hts, h5⟩ : ∃ ts : List Value, ts = [head, Value.ref L, Value.none, rawInt ↑L, Value.none] ++ (if pl.isEmpty = true then List.replicate 6 Value.none else pl) ∧ 5 ≤ ts.length ∧ ts.length ≤ 11 := by
    refine ⟨_, rfl, by simp, ?_⟩
    rcases ip with rfl | ⟨a, b, c, d, c9, b10, _, rfl⟩ <;> simp
  refine wpAny_bind ?_
  show wpAny M A (newFields "traceback" ([head, Value.ref L, Value.none, rawInt ↑L, Value.none] ++ (if pl.isEmpty = true then List.replicate 6 Value.none else pl))) _ _ _
  rw [← hts]
  refine wpAny_newObj_type ?_ (show sizeOk (.fields ts.toArray) from by
    show ts.toArray.size ≤ sizeLine + 2
    rw [List.size_toArray]
    exact Nat.le_trans h5.2 (by decide))
  obtain ⟨oc, od, odt, osl⟩ := oe
  cases (show odt = .fields vs from g3)
  have hx2 : (h1.push { cls := .type "traceback", data := .fields ts.toArray }).get? x = some ⟨oc, od, .fields vs, osl⟩ := Heap.get?_push_of_some _ kx
  have ht2 : (h1.push { cls := .type "traceback", data := .fields ts.toArray }).get? h1.objs.size = some { cls := .type "traceback", data := .fields ts.toArray } := Heap.get?_push_size _ rfl
  have ntx : h1.objs.size ≠ x := Nat.ne_of_gt hxs
  refine wpAny_setField (s := { s with heap := h1.push { cls := .type "traceback", data := .fields ts.toArray } }) hx2 rfl hsz ?_
  -- setFlight
  have hx3 := Heap.get?_update_self (Obj.mapFields fun x_1 => x_1.setIfInBounds 1 (Value.ref h1.objs.size)) hx2 rfl
  have ht3 := Heap.get?_update_of_ne (Obj.mapFields fun x_1 => x_1.setIfInBounds 1 (Value.ref h1.objs.size)) (Ne.symm ntx) ht2
  have hv3 : (vs.setIfInBounds 1 (Value.ref h1.objs.size))[1]? = some (Value.ref h1.objs.size) := by
    rw [Array.getElem?_setIfInBounds_self_of_lt hsz]
  refine wpAny_setFlight_none hx3 rfl hv3 ht3 rfl (by rw [List.size_toArray]; omega) ?_
  have key : ∀ (h4 : Heap), h4 = ((h1.push { cls := .type "traceback", data := .fields ts.toArray }).update x (Obj.mapFields fun x_1 => x_1.setIfInBounds 1 (Value.ref h1.objs.size))).update h1.objs.size (Obj.mapFields fun x => x.setIfInBounds 3 Value.none) → Q () { s with heap := h4 } := by
    intro h4 e4
    refine k h4 h1.objs.size (ts.toArray.setIfInBounds 3 .none) (by rw [z1]; exact Nat.le_refl _) ?_ ?_ (by rw [Array.size_setIfInBounds, List.size_toArray]; omega) (by rw [Array.getElem?_setIfInBounds_self_of_lt (by rw [List.size_toArray]; omega)]) (fun b o e hb hbx => ?_) fun b o e hb hbx => ?_
    · rw [e4]
      exact Heap.get?_update_of_ne _ ntx hx3
    · rw [e4]
      exact Heap.get?_update_self _ ht3 rfl
    · have e1 : h1.get? b = some o := by rw [z2 b hb]; exact e
      have nb : h1.objs.size ≠ b := Nat.ne_of_gt (Heap.lt_size e1)
      rw [e4]
      exact Heap.get?_update_of_ne _ nb (Heap.get?_update_of_ne _ (Ne.symm hbx) (Heap.get?_push_of_some _ e1))
    · obtain ⟨sl, e1⟩ := z3 b o e
      have nb : h1.objs.size ≠ b := Nat.ne_of_gt (Heap.lt_size e1)
      rw [e4]
      exact ⟨sl, Heap.get?_update_of_ne _ nb (Heap.get?_update_of_ne _ (Ne.symm hbx) (Heap.get?_push_of_some _ e1))⟩
  exact key _ rfl
theorem leave_fly1 {M : Model} {A : Around} {E : Value → Shared → Prop} {s : Shared} {env : Env} {outer : List Env} {L x C : Addr} {base h0 : Heap} {H : Hp} {Q : Unit → Shared → Prop} (hf : A.frames = some (env :: outer)) (hF : s.heap.FunFrames base (env :: outer)) (hL : env.frame = some L) (hth : ∀ b o, h0.get? b = some o → ∃ o', s.heap.get? b = some o') (hHk : ∀ b, s.heap.objs.size ≤ b → H b = none)
    {oe : Obj} {vs : Array Value} (f1 : h0.get? x = none) (f2 : H x = none) (g1 : s.heap.get? x = some oe) (g2 : oe.cls = .ref C) (gd : oe.dict = none) (g3 : oe.data = .fields vs) (gs : 1 < vs.size) (g4 : FlyHead h0 s.heap H x vs)
    (k : ∀ h' : Heap, Fly h0 h' H x C → (∀ b o, s.heap.get? b = some o → b ∉ frs (env :: outer) → b ≠ x → vs[1]? ≠ some (.ref b) → h'.get? b = some o) → (∀ b o, s.heap.get? b = some o → b ∈ frs (env :: outer) → ∃ sl, h'.get? b = some { o with slots := sl }) → (∀ b o, s.heap.get? b = some o → ∃ o', h'.get? b = some o') →
      Q () { s with heap := h' }) : wpAny M A (noteFrame (.ref x) env) (fun _ s' => wpAny M A (setFlight (.ref x) none) Q E s') E s := by
  have notF : ∀ b o vs', s.heap.get? b = some o → o.data = .fields vs' → b ∉ frs (env :: outer) := fun b o vs' e1 e2 hb => by
    obtain ⟨_, o', h1, h2⟩ := hF.mem hb
    rw [e1] at h1
    cases h1
    exact h2 _ e2
  have hxF := notF x oe vs g1 g3
  unfold noteFrame
  rw [hL]
  have fin : ∀ (s1 : Shared) (T? : Option Addr) (head : Value) (hn : Bool), s1 = { s with heap := s1.heap } → s1.heap.get? x = some oe → s1.heap.FunFrames base (env :: outer) → s1.heap.objs.size = s.heap.objs.size → (∀ b o, s.heap.get? b = some o → T? ≠ some b → s1.heap.get? b = some o) → (∀ b o, s.heap.get? b = some o → ∃ o', s1.heap.get? b = some o') → (∀ T, T? = some T → vs[1]? = some (.ref T) ∧ T ∉ frs (env :: outer) ∧ T ≠ x) →
      wpAny M A (do
        let a ← PySem.frameOf env
        let pl ← entryPlaceOf L hn
        let b ← EntryCells.newEntry head a Value.none (rawInt ↑L) Value.none pl
        setField (Value.ref x) 1 b) (fun _ s' => wpAny M A (setFlight (Value.ref x) none) Q E s') E s1 := by
    intro s1 T? head hn e1 gx hF1 hsz1 kp1 kex hT
    refine entry_exact hf hF1 hL gx g3 gs hxF fun h' tb ts t1 t2 t3 t4 t5 t6 t7 => ?_
    rw [hsz1] at t1
    have : ({ s1 with heap := h' } : Shared) = { s with heap := h' } := by rw [e1]
    rw [this]
    have tn : h0.get? tb = none := by
      cases q : h0.get? tb with
      | none => rfl
      | some o =>
        obtain ⟨o', e'⟩ := hth tb o q
        exact absurd (Heap.lt_size e') (Nat.not_lt.mpr t1)
    have txn : tb ≠ x := fun z => by
      rw [z] at t1
      exact absurd (Heap.lt_size g1) (Nat.not_lt.mpr t1)
    refine k h' ⟨f1, f2, _, _, t2, g2, gd, rfl, by rw [Array.size_setIfInBounds]; exact gs, .inr ⟨tb, _, ts, by rw [Array.getElem?_setIfInBounds_self_of_lt gs], txn, tn, hHk tb t1, t3, rfl, t4, t5⟩⟩ (fun b o e hbF hbx hbv => ?_) (fun b o e hb => ?_) fun b o e => ?_
    · exact t6 b o (kp1 b o e fun z => hbv (hT b z).1) hbF hbx
    · have hbT : T? ≠ some b := fun z => (hT b z).2.1 hb
      have hbx : b ≠ x := fun z => hxF (z ▸ hb)
      exact t7 b o (kp1 b o e hbT) hb hbx
    · obtain ⟨o1, q1⟩ := kex b o e
      by_cases hbx : b = x
      · rw [hbx]; exact ⟨_, t2⟩
      · by_cases hbF : b ∈ frs (env :: outer)
        · obtain ⟨sl, q2⟩ := t7 b o1 q1 hbF hbx
          exact ⟨_, q2⟩
        · exact ⟨_, t6 b o1 q1 hbF hbx⟩
  rcases g4 with z | ⟨T, oT, ts, z1, z2, z3, z4, z5, z6, z7, z8⟩
  · refine wpAny_bind (wpAny_field g1 g3 z ?_)
    exact fin s none Value.none _ rfl g1 hF rfl (fun b o e _ => e) (fun b o e => ⟨o, e⟩) (fun T e => by cases e)
  · refine wpAny_bind (wpAny_field g1 g3 z1 ?_)
    refine wpAny_bind (wpAny_field z5 z6 z8 ?_)
    refine wpAny_bind (wpAny_setField z5 z6 z7 ?_)
    have kp : ∀ b o, s.heap.get? b = some o → some T ≠ some b → (s.heap.update T (Obj.mapFields fun x_1 => x_1.setIfInBounds 3 Value.none)).get? b = some o := fun b o e hb => Heap.get?_update_of_ne _ (fun q => hb (by rw [q])) e
    have hTF := notF T oT ts z5 z6
    refine fin { s with heap := s.heap.update T (Obj.mapFields fun x_1 => x_1.setIfInBounds 3 Value.none) } (some T) (.ref T) _ rfl (kp x oe g1 fun q => z2 (Option.some.inj q)) ?_ ?_ kp (fun b o e => ?_) (fun T' e => ?_)
    · have all : ∀ {l : List Env}, (∀ b ∈ frs l, b ∈ frs (env :: outer)) → s.heap.FunFrames base l → (s.heap.update T (Obj.mapFields fun x_1 => x_1.setIfInBounds 3 Value.none)).FunFrames base l := by
        intro l
        induction l with
        | nil => intro _ _; exact True.intro
        | cons e l ih =>
          intro hm hff
          obtain ⟨hk, ⟨L', o', h1, h2, h3, h4⟩, hr⟩ := hff
          have hin : L' ∈ frs (env :: outer) := hm L' (by unfold frs; rw [List.filterMap_cons, h1]; exact List.mem_cons_self)
          refine ⟨hk, ⟨L', o', h1, h2, kp L' o' h3 (fun q => hTF (by rw [Option.some.inj q]; exact hin)), h4⟩, ih (fun b hb => hm b ?_) hr⟩
          unfold frs
          rw [List.filterMap_cons, h1]
          exact List.mem_cons_of_mem _ hb
      exact all (fun b hb => hb) hF
    · simp [Heap.update]
    · by_cases q : T = b
      · subst q
        obtain ⟨oc, od, odt, osl⟩ := oT
        cases (show odt = .fields ts from z6)
        exact ⟨_, Heap.get?_update_self _ z5 rfl⟩
      · exact ⟨o, kp b o e fun z => q (Option.some.inj z)⟩
    · cases e
      exact ⟨z1, hTF, z2⟩
theorem leave_fly {M : Model} {A : Around} {E : Value → Shared → Prop} {s : Shared} {env : Env} {outer : List Env} {L x C : Addr} {base h0 : Heap} {H : Hp} {Q : Unit → Shared → Prop} (hf : A.frames = some (env :: outer)) (hF : s.heap.FunFrames base (env :: outer)) (hL : env.frame = some L) (hth : ∀ b o, h0.get? b = some o → ∃ o', s.heap.get? b = some o') (hHk : ∀ b, s.heap.objs.size ≤ b → H b = none)
    (fl : Fly h0 s.heap H x C)
    (k : ∀ h' : Heap, Fly h0 h' H x C → (∀ b o, s.heap.get? b = some o → H b ≠ none ∨ h0.get? b ≠ none → b ∉ frs (env :: outer) → h'.get? b = some o) → (∀ b o, s.heap.get? b = some o → b ∈ frs (env :: outer) → ∃ sl, h'.get? b = some { o with slots := sl }) → (∀ b o, s.heap.get? b = some o → ∃ o', h'.get? b = some o') →
      Q () { s with heap := h' }) : wpAny M A (noteFrame (.ref x) env) (fun _ s' => wpAny M A (setFlight (.ref x) none) Q E s') E s := by
  obtain ⟨f1, f2, oe, vs, g1, g2, gd, g3, gs, g4⟩ := fl
  refine leave_fly1 hf hF hL hth hHk f1 f2 g1 g2 gd g3 gs g4 fun h' fl' ka kf kex => k h' fl' (fun b o e hb hbF => ka b o e hbF ?_ ?_) kf kex
  · rintro rfl
    rcases hb with y | y
    · exact y f2
    · exact y f1
  · intro z
    rcases g4 with q | ⟨T, oT, ts, q1, q2, q3, q4, _⟩
    · rw [q] at z; cases z
    · rw [q1] at z
      cases z
      rcases hb with y | y
      · exact y q4
      · exact y q3
theorem set_get {P : Program} {w : World} {h : Heap} {a : Addr} {S : Int → Bool} {n : Nat} (x : h.SetOf (intKind P w) a S n) : ∃ o, h.get? a = some o := by
  obtain ⟨o, es, ep, t, h1, _⟩ := x
  exact ⟨_, h1⟩
theorem hok_get {P : Program} {w : World} {H : Hp} {h : Heap} (ok : HOk P w H h) {a : Addr} {u : HO} (e : H a = some u) : ∃ o, h.get? a = some o := by
  have x := ok a u e
  clear e
  induction u with
  | lst xs => obtain ⟨_, _, n, _, h1⟩ := x; exact ⟨_, h1⟩
  | tup xs => obtain ⟨_, _, _, o, h1, _⟩ := x; exact ⟨_, h1⟩
  | dK kvs => obtain ⟨_, _, vs, _, o, es, ep, h1, _⟩ := x; exact ⟨_, h1⟩
  | dT kvs => obtain ⟨_, _, xs, _, o, es, ep, h1, _⟩ := x; exact ⟨_, h1⟩
  | set S n => exact set_get x
  | ins C dx fs => obtain ⟨_, _, _, h1, _⟩ := x; exact ⟨_, h1⟩
  | own _ => exact x
  | xd fs => obtain ⟨mA, ⟨o, es, ep, h1, _⟩, _⟩ := x; exact ⟨_, h1⟩
  | rng lo hi => obtain ⟨_, _, _, h1⟩ := x; exact ⟨_, h1⟩
  | frz o u ih => exact ⟨_, x.1⟩
  | tbl ps => exact ⟨_, x⟩
  | met f y => exact ⟨_, x⟩
  | ext φ => exact x.2.1
def RaiseOk (X : Cx) (E : XK) : Prop := ∀ (pins : List (Addr × Obj)) (σ : St) (H : Hp) (s : Shared) (x C : Addr), Inv X pins σ H s → Fly X.s₀.heap s.heap H x C → E (.ref C) (some x) H → X.xe (.ref x) s
theorem raise_cx {P : Program} {w : World} {K : PySem.W.Frag} {mg : Str → Option Value} {base : Heap} {N : List Str} {qual : Str} {scope : Scope} {f : Addr} {cd : Value} {A : Around} {outer : List Env} {s0 : Shared} {H0 : Hp} {E : XK} :
    RaiseOk (cxOf (CX1 P w) P w K mg base N qual scope f cd A outer s0 H0 E) E := by
  intro pins σ H s x C I fl he
  have hst := I.stack
  show wpAny (model P w) (A.deeper (envOfC qual scope s0.heap.objs.size f cd)) (leaving (envOfC qual scope s0.heap.objs.size f cd) (.ref x)) _ _ s
  unfold leaving
  refine wpAny_bind (leave_fly (base := base) (h0 := s0.heap) (H := H) I.ok.frames hst (L := s0.heap.objs.size) rfl (fun b o e => I.base.there b o e (fun z => absurd z (by simp [cxOf]))) (fun b hb => I.hok.fresh hb) fl fun h' fl' kt kf kex => ?_)
  have hnex : ∀ b : Addr, b ∉ (cxOf (CX1 P w) P w K mg base N qual scope f cd A outer s0 H0 E).ex := fun b z => absurd z (by simp [cxOf])
  have nL : ∀ b o, s0.heap.get? b = some o → b ≠ s0.heap.objs.size := fun b o e => Nat.ne_of_lt (Heap.lt_size e)
  have inF : ∀ b, b ∈ frs (envOfC qual scope s0.heap.objs.size f cd :: outer) → b = s0.heap.objs.size ∨ b ∈ frs outer := fun b hb => by
    unfold frs at hb
    rw [List.filterMap_cons] at hb
    rcases List.mem_cons.mp (show b ∈ s0.heap.objs.size :: frs outer from hb) with z | z
    · exact .inl z
    · exact .inr z
  have Finc : ∀ b, b ∈ frs outer → b ∈ frs (envOfC qual scope s0.heap.objs.size f cd :: outer) := fun b hb => show b ∈ s0.heap.objs.size :: frs outer from List.mem_cons_of_mem _ hb
  refine ⟨x, C, H, rfl, I.os, I.bare, ⟨fun b o q n hb _ => ?_, fun b o q n hb _ => ?_, fun b o q n _ => I.base.free b o q n (hnex b), fun b o q _ => ?_, I.base.tups, I.base.frzs, I.base.tbls⟩, fun b u e => ?_, fl', he⟩
  · refine kt b o (I.base.keep b o q n hb (hnex b)) (.inr (by rw [q]; simp)) fun z => ?_
    rcases inF b z with y | y
    · exact nL b o q y
    · exact hb y
  · obtain ⟨sl, e1⟩ := I.base.slot b o q n hb (hnex b)
    obtain ⟨sl', e2⟩ := kf b _ e1 (Finc b hb)
    exact ⟨sl', e2⟩
  · obtain ⟨o', e1⟩ := I.base.there b o q (hnex b)
    exact kex b o' e1
  · refine (I.hok b u e).stay (fun c v hc q => ?_) (fun _ q => q) fun _ _ q => q
    have hcn : H c ≠ none := by
      rcases hc with z | z
      · rw [z, e]; simp
      · rw [z]; simp
    exact kt c v q (.inl hcn) fun z => hcn (I.stkFree c z)
theorem fly_back {X : Cx} {pins : List (Addr × Obj)} {σ : St} {H : Hp} {s : Shared} (I : Inv X pins σ H s) (hex : X.ex = []) (b : Addr) (h : s.heap.get? b = none) : X.s₀.heap.get? b = none := by
  cases q : X.s₀.heap.get? b with
  | none => rfl
  | some o =>
    obtain ⟨o', e⟩ := I.base.there b o q (by rw [hex]; simp)
    rw [h] at e
    cases e
theorem tail_base {h : Heap} {bm : List Value} (t : OwnTail h vbm bm) : bm.contains (Value.type "BaseException") = true := by
  induction t with
  | base => rfl
  | own _ _ _ _ ih => rw [List.contains_cons, ih]; simp
def tRaise (C : Addr) (E : XK) (ta : TA) : TS := fun _ σ H => ta σ H fun vs H1 => vs.length ≤ sizeLine ∧ ∀ x, H1 x = none → E (.ref C) (some x) H1
theorem ps_raise {X : Cx} {E : XK} {x : Str} {C : Addr} {np cpos pos : Pos} {e : Expr} {es : List Expr} {ta : TA} (R : RaiseOk X E) (hex : X.ex = []) (hc : X.calm = true) (O : OwnCls x C vbm "ValueError.__new__" X.mg X.base) (hg : Gl X x) (ha : PA X (e :: es) ta)
    (hdb : (x == ("__debug__" : Str)) = false := by decide) (hpl : (backTo cpos (starEach (e :: es) X.env)).any (·.1) = false := by rfl) (hsp : ∃ m r, backTo cpos (starEach (e :: es) X.env) = (false, m) :: r := by exact ⟨_, _, rfl⟩) :
    PS X (.Raise (some (.Call (.Name x np) (e :: es) [] cpos)) none pos) (tRaise C E ta) := by
  intro pins s σ H D I h
  obtain ⟨bm, Nn, nm, q, bs, hdct, sn, sub, ab, col, dd, k0, k1, k2, k3, k5, mN, o1, o2, o3, o4⟩ := O.obj
  refine wpAny_Raise_call_subU (nm := nm) (q := q) (N := Nn) (bs := bs) (hdct := hdct) (sn := sn) (sub := sub) (ab := ab) (col := col) (dd := dd) (k0 := k0) (k1 := k1) (k2 := k2) (k3 := k3) (k5 := k5) (bmB := vbm) PySem.F.excBase_ValueError (by rfl) PySem.F.excBase_ValueError (tail_base o4) (I.ok.hd hc) hpl o3 (ld_glob I hg O.bound ⟨rfl, ?_⟩ hdb)
  have h2 := ha cpos pins s σ H _ I h
  obtain ⟨m, r, hm⟩ := hsp
  rw [hm] at h2 ⊢
  refine Calls.evalArgs_plain (thn h2 fun us s2 ⟨vs, H2, I2, r2, hl, q2⟩ => ?_)
  have tk : ∀ {bm : List Value}, OwnTail X.base vbm bm → OwnTail s2.heap vbm bm := by
    intro bm o4
    induction o4 with
    | base => exact .base
    | own a1 a2 a3 a4 ih => exact .own (I2.bk _ _ a1) (a2.keeps I2.bk) a3 ih
  refine ⟨rfl, by rw [← r2.length]; exact hl, I2.bk _ _ o1, o2.keeps I2.bk, tk o4, fun h' ex me => ?_⟩
  have hn : H2 ex = none := by
    cases z : H2 ex with
    | none => rfl
    | some u =>
      obtain ⟨o, e1⟩ := hok_get I2.hok z
      rw [me.new] at e1
      cases e1
  obtain ⟨t, m1, m2, m3⟩ := me.there
  exact R pins σ H2 _ ex C (I2.kept (t' := s2.toks) me.keeps) ⟨fly_back I2 hex ex me.new, hn, _, _, m1, rfl, rfl, rfl, (show 1 < 6 by decide), .inl rfl⟩ (q2 ex hn)
theorem Fun.okX {P : Program} {w : World} {K : PySem.W.Frag} {mg : Str → Option Value} {base : Heap} {x qual : Str} {st : Stmt} {f : Addr} {fd : FuncData} {N ps : List Str} {k : Nat} {sp : Sp} (F : Fun K x qual st f fd) (S : FnScope N ps (defScope st)) (len : ∀ vs H Q E, sp vs H Q E → vs.length = ps.length)
    (hbody : ∀ (cdv : Value) (A : Around) (outer : List Env) (s : Shared) (H : Hp) (vs : List V) (Q : VK) (E : XK), Room k (A.deeper (envOfC qual (defScope st) s.heap.objs.size f cdv)) → sp vs H Q E →
      ∃ t, PSs (cxOf (CX1 P w) P w K mg base N qual (defScope st) f cdv A outer s H E) (defBody st) t ∧ t { nx := fun _ H' => Q .non H', rt := Q } (start N vs) H) : FnOk P w K mg base (CX1 P w) (k + 1) f fd ps sp := by
  obtain ⟨oc, od, kV, doc, pm, an, cdv, ct, osl, rfl, lk, hcd⟩ := F.ex
  exact fn_of lk hcd S len fun A outer s H vs Q E hr hsp => hbody cdv A outer s H vs Q E hr hsp
end L2
namespace L2
open PySem PySem.Spec PyProof.Rows
def excO (C x : Addr) : HO := .ext fun h => ∃ oe vs, h.get? x = some oe ∧ oe.cls = .ref C ∧ oe.dict = none ∧ oe.data = .fields vs
theorem exc_ok {P : Program} {w : World} {H : Hp} {h : Heap} {C x : Addr} {oe : Obj} {vs : Array Value} (e1 : h.get? x = some oe) (e2 : oe.cls = .ref C) (e3 : oe.dict = none) (e4 : oe.data = .fields vs) : ObjOk P w H h x (excO C x) :=
  ⟨⟨oe, vs, e1, e2, e3, e4⟩, ⟨oe, e1⟩, fun h1 h2 ⟨o, v, a, b⟩ k => ⟨o, v, k _ a, b⟩⟩
section
variable {X : Cx} {pins : List (Addr × Obj)} {σ : St} {H : Hp} {s : Shared}
theorem exc_get {C x : Addr} (I : Inv X pins σ H s) (e : H x = some (excO C x)) : ∃ oe vs, s.heap.get? x = some oe ∧ oe.cls = .ref C ∧ oe.dict = none ∧ oe.data = .fields vs := by
  obtain ⟨h1, _⟩ := (show ObjOk X.prog X.w H s.heap x (excO C x) from I.hok x _ e)
  exact h1
theorem Inv.track {a : Addr} {o : HO} (I : Inv X pins σ H s) (hn : H a = none) (h0 : X.s₀.heap.get? a = none) (hL : a ≠ X.env.locals) (hC : ∀ x c, X.env.cells.lookup x = some c → c ≠ a) (hP : ∀ p ∈ X.pn ++ pins, p.1 ≠ a) (new : ObjOk X.prog X.w (upd H a o) s.heap a o) : Inv X pins σ (upd H a o) s := by
  have ns : ∀ b ob, X.s₀.heap.get? b = some ob → b ≠ a := fun b ob e z => by rw [z, h0] at e; cases e
  refine ⟨I.ok, I.os, I.bare, ⟨I.base.keep, I.base.slot, fun b ob q n hx => by rw [upd_ne (ns b ob q)]; exact I.base.free b ob q n hx, I.base.there, fun b xs q => ?_, fun b ob u q => ?_, fun b ps q => ?_⟩, I.loc, I.cell, by rw [upd_ne hL.symm]; exact I.free, fun x c e => by rw [upd_ne (hC x c e)]; exact I.freeC x c e, fun p hp => ?_, fun b u e => ?_, I.len⟩
  · have := I.base.tups b xs q
    rw [upd_ne (ne_of_none this hn)]; exact this
  · have := I.base.frzs b ob u q
    rw [upd_ne (ne_of_none this hn)]; exact this
  · obtain ⟨m, e⟩ := I.base.tbls b ps q
    exact ⟨m, by rw [upd_ne (ne_of_none e hn)]; exact e⟩
  · obtain ⟨e, n, r⟩ := I.pin p hp
    exact ⟨e, by rw [upd_ne (hP p hp)]; exact n, r⟩
  · by_cases hb : b = a
    · subst hb
      rw [upd_same] at e
      cases e
      exact new
    · rw [upd_ne hb] at e
      exact (I.hok b u e).stay (fun c v _ q => q) (fun c r => by rw [upd_ne (ne_of_none r hn)]; exact r) fun c xs r => by rw [upd_ne (ne_of_none r hn)]; exact r
theorem caught {M : Model} {E : Value → Shared → Prop} {s1 : Shared} {σ0 : St} {H0 H1 : Hp} {x C : Addr} {Q : Unit → Shared → Prop} (hst : X.stack = X.env :: X.outer) (hfr : X.env.frame = some X.env.locals) (hex : X.ex = []) (I0 : Inv X pins σ0 H0 s) (I1 : Inv X pins σ H1 s1) (kx : ∀ b o, s.heap.get? b = some o → ∃ o', s1.heap.get? b = some o')
    (fl : Fly s.heap s1.heap H1 x C) (k : ∀ (H3 : Hp) (s3 : Shared), Same H1 H3 → H3 x = some (excO C x) → Inv X pins σ H3 s3 → Fly s.heap s3.heap H1 x C → Q () s3) :
    wpAny M X.A (noteFrame (.ref x) X.env) (fun _ s' => wpAny M X.A (setFlight (.ref x) none) Q E s') E s1 := by
  obtain ⟨f1, f2, oe, vs, g1, g2, gd, g3, gs, g4⟩ := fl
  have hF : s1.heap.FunFrames X.base (X.env :: X.outer) := by rw [← hst]; exact I1.stack
  have hA : X.A.frames = some (X.env :: X.outer) := by rw [← hst]; exact I1.ok.frames
  -- what was there ahead is none of the exception's own
  have old : ∀ a, s.heap.get? a = none → X.s₀.heap.get? a = none ∧ a ≠ X.env.locals ∧ (∀ y c, X.env.cells.lookup y = some c → c ≠ a) ∧ ∀ p ∈ X.pn ++ pins, p.1 ≠ a := fun a ha => by
    refine ⟨fly_back I0 hex a ha, ?_, ?_, ?_⟩
    · rintro rfl
      obtain ⟨m, ⟨o, _, _, ho, _⟩, _⟩ := I0.loc
      rw [ha] at ho; cases ho
    · rintro y c e rfl
      obtain ⟨v, o, ho, _⟩ := I0.cell y _ e
      rw [ha] at ho; cases ho
    · rintro p hp rfl
      have := (I0.pin p hp).1
      rw [ha] at this; cases this
  obtain ⟨o1, o2, o3, o4⟩ := old x f1
  have I2 : Inv X pins σ (upd H1 x (excO C x)) s1 := I1.track f2 o1 o2 o3 o4 (exc_ok g1 g2 gd g3)
  -- its head, where it has one
  obtain ⟨H3, hS, h3x, I3, hun⟩ : ∃ H3 : Hp, Same H1 H3 ∧ H3 x = some (excO C x) ∧ Inv X pins σ H3 s1 ∧ ((∀ b, H3 b = none → b ≠ x ∧ vs[1]? ≠ some (.ref b)) ∧ ∀ b u, H3 b = some u → b ≠ x → vs[1]? = some (.ref b) → ∃ c, u = .own c ∧ c = b) := by
    rcases g4 with z | ⟨T, oT, ts, z1, z2, z3, z4, z5, z6, z7, z8⟩
    · refine ⟨_, same_of_upd f2, upd_same, I2, fun b hb => ⟨?_, by rw [z]; simp⟩, fun b u e hb hv => by rw [z] at hv; cases hv⟩
      rintro rfl
      rw [upd_same] at hb; cases hb
    · obtain ⟨p1, p2, p3, p4⟩ := old T z3
      have hT2 : upd H1 x (excO C x) T = none := by rw [upd_ne z2]; exact z4
      have I3 : Inv X pins σ (upd (upd H1 x (excO C x)) T (.own T)) s1 := I2.track hT2 p1 p2 p3 p4 ⟨oT, z5⟩
      refine ⟨_, (same_of_upd f2).new z4, by rw [upd_ne (Ne.symm z2), upd_same], I3, fun b hb => ⟨?_, ?_⟩, fun b u e hb hv => ?_⟩
      · rintro rfl
        rw [upd_ne (Ne.symm z2), upd_same] at hb; cases hb
      · rw [z1]
        intro q
        cases q
        rw [upd_same] at hb; cases hb
      · rw [z1] at hv
        cases hv
        rw [upd_same] at e
        cases e
        exact ⟨_, rfl, rfl⟩
  refine leave_fly1 hA hF hfr kx (fun b hb => I1.hok.fresh hb) f1 f2 g1 g2 gd g3 gs g4 fun h' fl' ka kf kex => k H3 _ hS h3x ?_ fl'
  obtain ⟨_, _, oe', vs', y1, y2, y3, y4, _⟩ := id fl'
  have frF : ∀ b, b ∈ frs X.stack ↔ b ∈ frs (X.env :: X.outer) := fun b => by rw [hst]
  refine I3.call' (s' := { s1 with heap := h' }) rfl ⟨fun b o q n hb _ => ka b o q (fun z => hb ((frF b).mpr z)) (hun.1 b n).1 (hun.1 b n).2, fun b o q n hb _ => kf b o q ((frF b).mp hb), fun _ _ _ n _ => n, fun b o q _ => kex b o q, fun _ _ q => q, fun _ _ _ q => q, fun b ps q => ⟨#[], by rw [q]; simp⟩⟩ ?_ I1.bare (fun b z => absurd z List.not_mem_nil)
  intro b u e
  by_cases hbx : b = x
  · subst hbx
    rw [h3x] at e
    cases e
    exact exc_ok y1 y2 y3 y4
  · by_cases hbT : vs[1]? = some (.ref b)
    · obtain ⟨c, rfl, rfl⟩ := hun.2 b u e hbx hbT
      obtain ⟨o, ho⟩ := hok_get I3.hok e
      exact kex _ o ho
    · refine (I3.hok b u e).stay (fun c v hc q => ?_) (fun _ r => r) fun _ _ r => r
      rcases hc with rfl | hc
      · exact ka c v q (fun z => by
          have := I3.stkFree c ((frF c).mpr z)
          rw [this] at e; cases e) hbx hbT
      · have hcx : c ≠ x := fun z => by rw [z, h3x] at hc; cases hc
        refine ka c v q (fun z => by
          have := I3.stkFree c ((frF c).mpr z)
          rw [this] at hc; cases hc) hcx fun hv => ?_
        obtain ⟨d, hd, hdc⟩ := hun.2 c _ hc hcx hv
        cases hd
        subst hdc
        exact hbT hv
end
end L2
namespace L2
open PySem PySem.Spec PyProof.Rows
theorem match_own {M : Model} {A : Around} {E : Value → Shared → Prop} {s : Shared} {K : PySem.W.Frag} {x C F : Addr} {oe oF : Obj} {cd : ClassData} {b : Bool} {Q : Bool → Shared → Prop} (kin : K.In s.heap) (g1 : s.heap.get? x = some oe) (g2 : oe.cls = .ref C) (hF : s.heap.get? F = some oF) (hF1 : oF.cls = .type "type") (hF2 : oF.data = .cls cd)
    (sb : PySem.W.subIn K (.ref F) (.type "BaseException") = some true) (sc : PySem.W.subIn K (.ref C) (.ref F) = some b) (q : Q b s) : wpAny M A (excMatches (.ref x) (.ref F)) Q E s := by
  unfold excMatches
  refine wpAny_bind (wpAny_isInstance (T := "type") (b := false) ⟨oF, hF, hF1⟩ (by rfl) ?_)
  dsimp only
  rw [if_neg (by simp)]
  refine wpAny_bind (wpAny_pure ?_)
  refine wpAny_bind (wpAny_forIn_list _ (fun l _ s' => s' = s ∧ (l = [Value.ref F] ∨ l = [])) _ (fun c rest u s' hI => ?_) (fun u s' hI => ?_) [Value.ref F] PUnit.unit ⟨rfl, .inl rfl⟩)
  · obtain ⟨rfl, hl | hl⟩ := hI
    · cases hl
      refine wpAny_bind ?_
      unfold isExcClass
      refine wpAny_bind ?_
      show wpAny M A (do let o ← loadPart F (some headPart); pure (match o.data with | .cls _ => true | _ => false)) _ _ _
      refine wpAny_bind (wpAny_loadPart hF (wpAny_pure ?_))
      rw [hF2]
      dsimp only
      rw [if_pos rfl]
      refine PySem.W.looks_subIn kin sb A _ _ _ (fun _ _ e => e) ?_
      rw [if_neg (by simp)]
      exact wpAny_pure ⟨rfl, .inr rfl⟩
    · cases hl
  · obtain ⟨rfl, _⟩ := hI
    refine wpAny_bind (wpAny_typeOf_ref g1 ?_)
    rw [g2]
    refine wpAny_bind (wpAny_forIn_list _ (fun l r s'' => s'' = s' ∧ ((l = [Value.ref F] ∧ r = (none, ())) ∨ (l = [] ∧ r = (none, ()) ∧ b = false))) _ (fun c rest u s'' hI => ?_) (fun u s'' hI => ?_) [Value.ref F] (none, ()) ⟨rfl, .inl ⟨rfl, rfl⟩⟩)
    · obtain ⟨rfl, ⟨hl, rfl⟩ | ⟨hl, _⟩⟩ := hI
      · cases hl
        refine wpAny_bind (PySem.W.looks_subIn kin sc A _ _ _ (fun _ _ e => e) ?_)
        cases b with
        | true =>
          rw [if_pos rfl]
          exact wpAny_pure (wpAny_pure q)
        | false =>
          rw [if_neg (by simp)]
          exact wpAny_pure ⟨rfl, .inr ⟨rfl, rfl, rfl⟩⟩
      · cases hl
    · obtain ⟨rfl, ⟨hl, _⟩ | ⟨_, rfl, rfl⟩⟩ := hI
      · cases hl
      · exact wpAny_pure q
end L2
namespace L2
open PySem PySem.Spec PyProof.Rows
theorem entry_ga : entryFor table "BaseException.__getattribute__" = some Builtin.«object.__getattribute__» := by kernel_rfl
theorem ty_ga : builtinType "BaseException.__getattribute__" = pure (Value.type "wrapper_descriptor") := by kernel_rfl
theorem exc_class {prog : Program} {w : World} {A : Around} {E : Value → Shared → Prop} {s : Shared} {K : PySem.W.Frag} {x C : Addr} {oe : Obj} {vs : Array Value} {Q : Option Value → Shared → Prop} (kin : K.In s.heap)
    (hga : PySem.W.findIn K (.ref C) "__getattribute__" = some (some (.builtin "BaseException.__getattribute__"))) (hgn : PySem.W.findIn K (.ref C) "__getattr__" = some none) (hfo : PySem.W.findObj K C none "__class__" = some (.bind (.builtin "getset_descriptor.__get__") (.builtin "object.__class__"))) (hm : PySem.W.mroIn K C (.type "object") = some true)
    (hck : ∀ (M : Model) (A : Around) (E : Value → Shared → Prop) (nameV : Value) (Q : Unit → Shared → Prop) (s : Shared), K.In s.heap → s.heap.get? x = some oe → Q () s → wpAny M A (checkBuiltinCall "BaseException.__getattribute__" { pos := [Value.ref x, nameV] }) Q E s)
    (g1 : s.heap.get? x = some oe) (g2 : oe.cls = .ref C) (gd : oe.dict = none) (g3 : oe.data = .fields vs) (q : Q (some (.ref C)) { s with toks := s.toks + 1 }) : wpAny (model prog w) A (getAttr? (.ref x) "__class__") Q E s := by
  have inst : PySem.W.InstAt s.heap x oe C none := ⟨g1, g2, by unfold PySem.W.notCls; rw [g3], by rw [gd]; trivial⟩
  unfold getAttr?
  refine wpAny_bind (wpAny_mkText ?_)
  unfold getAttrBy?
  refine wpAny_bind (wpAny_attempt ?_)
  unfold getAttrBy
  refine wpAny_holding (wpAny_bind (wpAny_typeOf_ref g1 ?_))
  rw [g2]
  refine wpAny_bind (PySem.W.looks_findIn kin hga _ _ _ _ (fun _ _ e => e) ?_)
  show wpAny (model prog w) A (getAttrByItsOwn (.ref x) _ (.ref C) (.builtin "BaseException.__getattribute__") false false) _ _ _
  unfold getAttrByItsOwn
  refine wpAny_bind ?_
  unfold hookBefore
  show wpAny (model prog w) A (typeLookup (.ref C) "__getattr__") _ _ _
  refine PySem.W.looks_findIn kin hgn _ _ _ _ (fun _ _ e => e) ?_
  refine wpAny_bind (wpAny_attempt (wpAny_holding ?_))
  show wpAny (model prog w) A (boundAndCalled (.builtin "BaseException.__getattribute__") (.ref x) _) _ _ _
  unfold boundAndCalled bindSpecial
  refine wpAny_bind (wpAny_bind ?_)
  show wpAny (model prog w) A (builtinType "BaseException.__getattribute__") _ _ _
  rw [ty_ga]
  refine wpAny_pure ?_
  show wpAny (model prog w) A (pure (Value.builtin "BaseException.__getattribute__", [Value.ref x])) _ _ _
  refine wpAny_pure (wpAny_call (codeAny_call_builtin_at (by kernel_rfl) entry_ga (hck _ _ _ _ _ _ kin g1 ?_)))
  -- the entry
  unfold Builtin.«object.__getattribute__»
  refine wpAny_bind (show wpAny _ _ (pure (Value.ref x, [Value.str "__class__" s.toks])) _ _ _ from wpAny_pure ?_)
  refine wpAny_bind (show wpAny _ _ (pure ("__class__" : Str)) _ _ _ from wpAny_pure ?_)
  refine wpAny_bind (wpAny_typeOf_ref g1 ?_)
  rw [g2]
  refine wpAny_bind (PySem.W.looks_find kin inst hfo _ _ _ _ (fun _ _ e => e) ?_)
  show wpAny _ _ (do
    let v ← holding [Value.builtin "object.__class__"] (call (.builtin "getset_descriptor.__get__") [.builtin "object.__class__", .ref x, .ref C])
    ret v) _ _ _
  refine wpAny_bind (wpAny_holding (wpAny_call (PySem.W.class_get kin inst hm ?_)))
  refine wpAny_pure ?_
  show wpAny (model prog w) A (handedOut (.ref C)) _ _ _
  exact wpAny_pure (wpAny_pure q)
theorem kitx_exc {K : PySem.W.Frag} {x C : Addr} {oC : Obj} {cd : ClassData} (hga : PySem.W.findIn K (.ref C) "__getattribute__" = some (some (.builtin "BaseException.__getattribute__"))) (hgn : PySem.W.findIn K (.ref C) "__getattr__" = some none) (hfo : PySem.W.findObj K C none "__class__" = some (.bind (.builtin "getset_descriptor.__get__") (.builtin "object.__class__")))
    (hm : PySem.W.mroIn K C (.type "object") = some true) (hC : K.lookup C = some oC) (hC2 : oC.data = .cls cd)
    (hck : ∀ (oe : Obj), oe.cls = .ref C → ∀ (M : Model) (A : Around) (E : Value → Shared → Prop) (nameV : Value) (Q : Unit → Shared → Prop) (s : Shared), K.In s.heap → s.heap.get? x = some oe → Q () s → wpAny M A (checkBuiltinCall "BaseException.__getattribute__" { pos := [Value.ref x, nameV] }) Q E s) :
    PySem.W.KitX K (.ref x) (.ref C) (fun h => ∃ oe vs, h.get? x = some oe ∧ oe.cls = .ref C ∧ oe.dict = none ∧ oe.data = .fields vs) where
  ty := fun M h kin ⟨oe, vs, e1, e2, _⟩ A Q E s k q => wpAny_typeOf_ref (k _ _ e1) (by rw [e2]; exact q)
  it := fun M h kin _ A Q E s k q => by
    show wpAny M A (do let o ← loadPart C (some headPart); pure (match o.data with | .cls _ => true | _ => false)) _ _ _
    refine wpAny_bind (wpAny_loadPart (k _ _ (kin _ _ hC)) (wpAny_pure ?_))
    rw [hC2]
    exact q
  ne := fun h tp dd its n sl kin e => by
    rw [beq_eq_false_iff_ne]
    rintro z
    cases z
    rw [kin _ _ hC] at e
    cases e
    cases hC2
  ca := fun {prog w A E Q s} kin ⟨oe, vs, e1, e2, e3, e4⟩ q => exc_class kin hga hgn hfo hm (hck oe e2) e1 e2 e3 e4 q
end L2
namespace L2
open PySem PySem.Spec PyProof.Rows
structure XF (K : PySem.W.Frag) (F : Addr) : Prop where
  lk : ∃ nm q N bs hdct sn sub ab col dd k0 k1 k2 k3 k5, K.lookup F = some (excClassObj nm q F N bs vbm hdct sn sub ab col dd k0 k1 k2 k3 k5 "ValueError.__new__") ∧ PySem.W.nsOkIn K N = true ∧ ∀ n ∈ quietNames, PySem.W.nsIn K N n = some none
  sb : PySem.W.subIn K (.ref F) (.type "BaseException") = some true
structure XC (K : PySem.W.Frag) (F C : Addr) : Prop where
  lk : ∃ nm q N bs hdct sn sub ab col dd k0 k1 k2 k3 k5, K.lookup C = some (excClassObj nm q C N bs (.ref F :: vbm) hdct sn sub ab col dd k0 k1 k2 k3 k5 "ValueError.__new__")
  ga : PySem.W.findIn K (.ref C) "__getattribute__" = some (some (.builtin "BaseException.__getattribute__"))
  gn : PySem.W.findIn K (.ref C) "__getattr__" = some none
  fo : PySem.W.findObj K C none "__class__" = some (.bind (.builtin "getset_descriptor.__get__") (.builtin "object.__class__"))
  mr : PySem.W.mroIn K C (.type "object") = some true
  sb : PySem.W.subIn K (.ref C) (.ref F) = some true
theorem ns_of_is {h : Heap} {N : Addr} (e : h.isNs N = true) : ∃ m, h.Ns N m := by
  unfold Heap.isNs at e
  split at e
  · rename_i o ho
    split at e
    · rename_i es ep hd
      refine ⟨fun n => nsFind es n, o, es, ep, ho, hd, fun en hen => ?_, fun _ => rfl⟩
      rw [Array.all_eq_true'] at e
      have := e en hen
      split at this
      · rename_i sx tk hk
        exact ⟨sx, tk, hk⟩
      · cases this
    · cases e
  · cases e
theorem XF.tail {K : PySem.W.Frag} {F : Addr} {h : Heap} (T : XF K F) (kin : K.In h) : OwnTailQ h vbm (.ref F :: vbm) := by
  obtain ⟨nm, q, N, bs, hdct, sn, sub, ab, col, dd, k0, k1, k2, k3, k5, h1, h2, h3⟩ := T.lk
  obtain ⟨m, hm⟩ := ns_of_is (PySem.W.isNs_of_in kin h2)
  exact .own (kin _ _ h1) hm (fun n hn => PySem.W.ns_none_of kin hm (h3 n hn)) .base
theorem vAttr : ExcAttrBase "ValueError" vbm := ⟨PySem.F.excAttr_ValueError, PySem.F.excBase_ValueError.mroIs, by kernel_rfl, by rfl⟩
theorem XC.kit {K : PySem.W.Frag} {F C x : Addr} (T : XF K F) (S : XC K F C) : PySem.W.KitX K (.ref x) (.ref C) (fun h => ∃ oe vs, h.get? x = some oe ∧ oe.cls = .ref C ∧ oe.dict = none ∧ oe.data = .fields vs) := by
  obtain ⟨nm, q, N, bs, hdct, sn, sub, ab, col, dd, k0, k1, k2, k3, k5, h1⟩ := S.lk
  refine kitx_exc S.ga S.gn S.fo S.mr h1 rfl fun oe e2 M A E nameV Q s kin g1 q' => ?_
  obtain ⟨hh, g, d, t, os⟩ := s
  exact wpAny_check_ga_own vAttr (kin _ _ h1) (T.tail kin) g1 e2 q'
theorem call_isiX {X : Cx} {F : Addr} (T : XF X.K F) : CallR X (.builtin "isinstance") (fun xs H Q => ∃ (x C : Addr) (cv : V) (c : Value) (b : Bool), xs = [.ref x, cv] ∧ H x = some (excO C x) ∧ XC X.K F C ∧ (∀ u, RelV cv u → u = c) ∧ PySem.W.kitOne X.K (.ref C) c = some b ∧ Q (.bl b) H) := by
  intro pins s σ H xs us Q I r h
  obtain ⟨x, C, cv, c, b, rfl, hx, S, hc, hk, q⟩ := h
  obtain ⟨u, w', rfl, r1, r2⟩ := vals2 r
  cases (show u = Value.ref x from r1)
  rw [hc w' r2]
  exact PySem.W.kia_one (S.kit (x := x) T) I.kIn (exc_get I hx) hk (fun z => nomatch z) fun tk => ⟨.bl b, H, I.tok tk, rfl, q⟩
end L2
namespace L2
open PySem PySem.Spec PyProof.Rows
def XP (X : Cx) (pins : List (Addr × Obj)) (σ : St) (E : XK) (e : Value) (s' : Shared) : Prop := ∃ (x C : Addr) (H' : Hp) (sc : Shared) (σc : St) (Hc : Hp), e = .ref x ∧ Inv X pins σc Hc sc ∧ Inv X pins σ H' s' ∧ (∀ b o, sc.heap.get? b = some o → ∃ o', s'.heap.get? b = some o') ∧ Fly sc.heap s'.heap H' x C ∧ E (.ref C) (some x) H'
abbrev TEX := St → Hp → VK → XK → Prop
abbrev TSX := Ends → St → Hp → XK → Prop
def PEX (X : Cx) (e : Expr) (t : TEX) : Prop := ∀ (pins : List (Addr × Obj)) (s : Shared) (σ : St) (H : Hp) (Q : VK) (E : XK), Inv X pins σ H s → t σ H Q E → wpAny (model X.prog X.w) X.A (eval e X.env) (EP X pins σ Q) (XP X pins σ E) s
def PSX (X : Cx) (st : Stmt) (t : TSX) : Prop := ∀ (pins : List (Addr × Obj)) (s : Shared) (σ : St) (H : Hp) (D : Ends) (E : XK), Inv X pins σ H s → t D σ H E → wpAny (model X.prog X.w) X.A (exec st X.env) (SP X pins D) (XP X pins σ E) s
def PSXs (X : Cx) (st : List Stmt) (t : TSX) : Prop := ∀ (pins : List (Addr × Obj)) (s : Shared) (σ : St) (H : Hp) (D : Ends) (E : XK), Inv X pins σ H s → t D σ H E → wpAny (model X.prog X.w) X.A (execs st X.env) (SP X pins D) (XP X pins σ E) s
def Never (X : Cx) : Prop := ∀ e s', X.xe e s' → False
section
variable {X : Cx} {k : Nat} {f C : Addr} {fd : FuncData} {ps : List Str} {sp : Sp} {dvs : List V} {ds : List Value} {x m : Str} {p pos apos : Pos} {e o : Expr} {es : List Expr} {ta : TE} {t : TA}
theorem run_fnX {pins : List (Addr × Obj)} {σ : St} {H : Hp} {s : Shared} {Q : VK} {E : XK} {us : List Value} {vs : List V} (F : FnOk X.prog X.w X.K X.mg X.base (CX1 X.prog X.w) k f fd ps sp) (hr : Room k X.A) (hb : Binds X.K fd ps ds) (hd : Vals dvs ds)
    (I : Inv X pins σ H s) (r : Vals vs us) (h : sp (vs ++ dvs) H Q E) : wpAny (model X.prog X.w) X.A (call (.ref f) us) (EP X pins σ Q) (XP X pins σ E) s := by
  have r2 : Vals (vs ++ dvs) (us ++ ds) := r.append hd
  have hl : (us ++ ds).length = ps.length := by rw [← r2.length]; exact F.len _ _ _ _ h
  refine wpAny_call (codeAny_mono (F.run X.A X.stack s H ⟨us, []⟩ (us ++ ds) (vs ++ dvs) Q E hr I.env0 (hb s us I.kIn hl) r2 h) fun r s' hq => ?_)
  cases r with
  | error e =>
    obtain ⟨y, C, H', rfl, os, bare, un, hok, fl, he⟩ := hq
    exact ⟨y, C, H', s, σ, H, rfl, I, I.call' os un hok bare (fun b z => absurd z List.not_mem_nil), fun b o q => un.there b o q List.not_mem_nil, fl, he⟩
  | ok fl =>
    cases fl with
    | ret u => exact I.after hq
    | next => exact False.elim hq
    | brk => exact False.elim hq
    | cont => exact False.elim hq
def tCallX (sp : Sp) (dvs : List V) (t : TA) : TEX := fun σ H Q E => t σ H fun vs H1 => sp (vs ++ dvs) H1 Q E
theorem pe_callX (nv : Never X) (F : FnOk X.prog X.w X.K X.mg X.base (CX1 X.prog X.w) k f fd ps sp) (hr : Room k X.A) (hg : Gl X x) (hm : X.mg x = some (.ref f)) (hk : PySem.W.keepIn X.K (.ref f) = true) (hb : Binds X.K fd ps ds) (hd : Vals dvs ds)
    (ha : PA X (e :: es) t) (hdb : (x == ("__debug__" : Str)) = false := by decide) (he : starEach (e :: es) X.env = (false, eval e X.env) :: starEach es X.env := by rfl) (hpl : (backTo pos (starEach es X.env)).any (·.1) = false := by rfl) :
    PEX X (.Call (.Name x p) (e :: es) [] pos) (tCallX sp dvs t) := by
  intro pins s σ H Q E I h
  refine wpAny_Call_Name_kw (ld_glob I hg hm ?_ hdb)
  refine PySem.W.callWith_K (h₀ := X.base) I.ok.mod.kin hk (wpAny_mono (ha pos pins s σ H _ I h) (fun us s1 ⟨vs, H1, I1, r, q⟩ => ⟨I1.kIn, ?_⟩) fun e' s' z => (nv e' s' z).elim) he hpl
  exact run_fnX F hr hb hd I1 r q
def tDropX (te : TEX) : TSX := fun D σ H E => te σ H (fun _ H1 => D.nx σ H1) E
theorem ps_exprX {te : TEX} (he : PEX X e te) (hs : swapsWith e none pos.line X.env = pure false := by rfl) : PSX X (.Expr e pos) (tDropX te) := by
  intro pins s σ H D E I h
  exact wpAny_Expr_any (thn (he pins s σ H _ E I h) fun v s1 ⟨x, H1, I1, r1, q1⟩ => ⟨σ, H1, I1, q1⟩) I.quiet hs
theorem pssX_one {st : Stmt} {t : TSX} (h1 : PSX X st t) : PSXs X [st] t := by
  intro pins s σ H D E I h
  refine wpAny_execs_cons (thn (h1 pins s σ H D E I h) fun f s1 q => ?_)
  cases f with
  | next => exact wpAny_execs_nil q
  | ret v => exact q
  | brk => exact q
  | cont => exact q
end
end L2
namespace L2
open PySem PySem.Spec PyProof.Rows
def suiteCx (X : Cx) (x : Addr) : Cx := { X with A := X.A.mark (some (.ref x)), calm := false }
theorem Inv.suite {X : Cx} {pins : List (Addr × Obj)} {σ : St} {H : Hp} {s : Shared} (I : Inv X pins σ H s) (x : Addr) : Inv (suiteCx X x) pins σ H s :=
  ⟨⟨I.ok.mod, I.ok.kind, I.ok.glob, I.ok.blt, I.ok.above, I.ok.inj, I.ok.has, I.ok.cab, fun z => (by cases z), I.ok.frames, I.ok.stk, I.ok.exf, I.ok.bs, I.ok.bsz, I.ok.noex, I.ok.exfs, I.ok.funs, I.ok.frf⟩, I.os, I.bare, I.base, I.loc, I.cell, I.free, I.freeC, I.pin, I.hok, I.len⟩
theorem Inv.unsuite {X : Cx} {pins : List (Addr × Obj)} {σ σ0 : St} {H H0 : Hp} {s s0 : Shared} {x : Addr} (I0 : Inv X pins σ0 H0 s0) (I : Inv (suiteCx X x) pins σ H s) : Inv X pins σ H s :=
  ⟨I0.ok, I.os, I.bare, I.base, I.loc, I.cell, I.free, I.freeC, I.pin, I.hok, I.len⟩
structure FnOkN (P : Program) (w : World) (K : PySem.W.Frag) (mg : Str → Option Value) (base : Heap) (k : Nat) (f : Addr) (fd : FuncData) (ps : List Str) (sp : Sp) : Prop where
  len : ∀ vs H Q E, sp vs H Q E → vs.length = ps.length
  run : ∀ (A : Around) (outer : List Env) (s : Shared) (H : Hp) (args : Args) (us : List Value) (vs : List V) (Q : VK), Room k { A with handled := none } → Env0 P w K mg base A outer s H → BindsTo s fd args (ps.zip us) → Vals vs us → sp vs H Q E0 →
    codeAny (model P w) A (.call (.ref f) args) (CR CX0 outer P w H s Q E0) s
def cxN (P : Program) (w : World) (K : PySem.W.Frag) (mg : Str → Option Value) (base : Heap) (N : List Str) (qual : Str) (scope : Scope) (f : Addr) (cd : Value) (A : Around) (outer : List Env) (s : Shared) (H : Hp) : Cx :=
  { (cxOf CX0 P w K mg base N qual scope f cd A outer s H E0).nox with calm := false }
theorem Fun.okN {P : Program} {w : World} {K : PySem.W.Frag} {mg : Str → Option Value} {base : Heap} {x qual : Str} {st : Stmt} {f : Addr} {fd : FuncData} {N ps : List Str} {k : Nat} {sp : Sp} (F : Fun K x qual st f fd) (S : FnScope N ps (defScope st)) (len : ∀ vs H Q E, sp vs H Q E → vs.length = ps.length)
    (hbody : ∀ (cdv : Value) (A : Around) (outer : List Env) (s : Shared) (H : Hp) (vs : List V) (Q : VK), Room k ({ A.deeper (envOfC qual (defScope st) s.heap.objs.size f cdv) with handled := none }) → sp vs H Q E0 →
      ∃ t, PSs (cxN P w K mg base N qual (defScope st) f cdv A outer s H) (defBody st) t ∧ t { nx := fun _ H' => Q .non H', rt := Q } (start N vs) H) : FnOkN P w K mg base (k + 1) f fd ps sp := by
  obtain ⟨oc, od, kV, doc, pm, an, cdv, ct, osl, rfl, lk, hcd⟩ := F.ex
  refine ⟨len, fun A outer s H args us vs Q hr e0 hb r hsp => ?_⟩
  have hl := len _ _ _ _ hsp
  have KX : K.In s.heap := e0.mod.kin.keeps fun b o e => (e0.bs b o e).1
  have lim : s.heap.NoLimit := e0.mod.nolimit.keeps fun b o e => (e0.bs b o e).1
  have hkind : ∀ y ∈ ps.zip us, (defScope st).names.lookup y.1 = some .local ∨ ((defScope st).names.lookup y.1 = some .cell ∧ ((cellsFrom (s.heap.objs.size + 1) (defScope st).names []).lookup y.1).isSome = true) := fun ⟨n, v⟩ hy => by
    rcases S.par n (List.of_mem_zip hy).1 with q | q
    · exact .inl q
    · exact .inr ⟨q, PySem.W.cellsFrom_some _ _ _ (.inl q)⟩
  refine codeAny_call_function (show A.depth < recursionLimit from hr.depth) (KX _ _ lk) rfl S.co S.gen rfl (PySem.W.codeRec_of KX hcd) (hb _ _ _ _ ?_)
  refine wpAny_newFunctionEnv_cells S.kind hkind fun env he s1 y => ?_
  subst he
  refine ⟨lim.keeps y.toInCall.keep, codeAny_func ?_⟩
  have hr' : Room k ({ A.deeper (envOfC qual (defScope st) s.heap.objs.size f cdv) with handled := none }) := hr.deeper (envOfC qual (defScope st) s.heap.objs.size f cdv)
  obtain ⟨t, ht, hq⟩ := hbody cdv A outer s H vs Q hr' hsp
  have e0' : Env0 P w K mg base { A with handled := none } outer s H := ⟨e0.frames, e0.mod, e0.bs, e0.bsz, e0.funs, e0.frf, e0.hok, e0.bare⟩
  have I0 : Inv (cxOf CX0 P w K mg base N qual (defScope st) f cdv { A with handled := none } outer s H E0) [] (start N vs) H s1 := inv_start S rfl e0' hl r y
  have I : Inv (cxN P w K mg base N qual (defScope st) f cdv A outer s H) [] (start N vs) H s1 :=
    ⟨⟨I0.ok.mod, I0.ok.kind, I0.ok.glob, I0.ok.blt, I0.ok.above, I0.ok.inj, I0.ok.has, I0.ok.cab, fun z => (by cases z), I0.ok.frames, I0.ok.stk, I0.ok.exf, I0.ok.bs, I0.ok.bsz, I0.ok.noex, I0.ok.exfs, I0.ok.funs, I0.ok.frf⟩, I0.os, I0.bare, I0.base, I0.loc, I0.cell, I0.free, I0.freeC, I0.pin, I0.hok, I0.len⟩
  refine wpAny_mono (ht [] s1 (start N vs) H _ I hq) (fun fl s' hs => ?_) fun e s' hs => hs.elim
  have fin : ∀ {σ' : St} {H' : Hp} {v : V} {u : Value}, Inv (cxN P w K mg base N qual (defScope st) f cdv A outer s H) [] σ' H' s' → RelV v u → Q v H' → CE outer P w H s Q u s' :=
    fun {σ' H' v u} J rv q => ⟨v, H', J.os, J.bare, J.base, J.hok, rv, q⟩
  cases fl with
  | ret u =>
    obtain ⟨v, σ', H', J, rv, q⟩ := hs
    exact fin J rv q
  | next =>
    obtain ⟨σ', H', J, q⟩ := hs
    exact fin (v := V.non) (u := Value.none) J rfl q
  | brk =>
    obtain ⟨_, _, _, q⟩ := hs
    exact False.elim q
  | cont =>
    obtain ⟨_, _, _, q⟩ := hs
    exact False.elim q
section
variable {X : Cx} {k : Nat} {f : Addr} {fd : FuncData} {ps : List Str} {sp : Sp} {x : Str} {p pos : Pos} {e : Expr} {es : List Expr} {t : TA}
theorem pe_callN (F : FnOkN X.prog X.w X.K X.mg X.base k f fd ps sp) (hr : Room k { X.A with handled := none }) (hg : Gl X x) (hm : X.mg x = some (.ref f)) (hk : PySem.W.keepIn X.K (.ref f) = true) (hb : Binds X.K fd ps [])
    (ha : PA X (e :: es) t) (hdb : (x == ("__debug__" : Str)) = false := by decide) (he : starEach (e :: es) X.env = (false, eval e X.env) :: starEach es X.env := by rfl) (hpl : (backTo pos (starEach es X.env)).any (·.1) = false := by rfl) :
    PE X (.Call (.Name x p) (e :: es) [] pos) (tCall sp [] E0 t) := by
  intro pins s σ H Q I h
  refine wpAny_Call_Name_kw (ld_glob I hg hm ?_ hdb)
  refine PySem.W.callWith_K (h₀ := X.base) I.ok.mod.kin hk (thn (ha pos pins s σ H _ I h) fun us s1 ⟨vs, H1, I1, r, q⟩ => ⟨I1.kIn, ?_⟩) he hpl
  have r2 : Vals (vs ++ []) (us ++ []) := r.append .nil
  have hl : (us ++ []).length = ps.length := by rw [← r2.length]; exact F.len _ _ _ _ q
  refine wpAny_call (codeAny_mono (F.run X.A X.stack s1 H1 ⟨us, []⟩ (us ++ []) (vs ++ []) Q hr I1.env0 (hb s1 us I1.kIn hl) r2 q) fun r s' hq => ?_)
  cases r with
  | error e => exact hq.elim
  | ok fl =>
    cases fl with
    | ret u => exact I1.after hq
    | next => exact False.elim hq
    | brk => exact False.elim hq
    | cont => exact False.elim hq
end
def tTry (K : PySem.W.Frag) (F : Addr) (i : Nat) (tb : TSX) (ts : TS) : TS := fun D σ H => tb D σ H fun c xo H' => ∃ C x, c = .ref C ∧ xo = some x ∧ XC K F C ∧ ∀ H3, Same H' H3 → H3 x = some (excO C x) → ts { nx := fun σ' H'' => D.nx (σ'.set i none) H'', rt := fun _ _ => False } (σ.set i (some (.ref x))) H3
theorem update_same {h : Heap} {a : Addr} {o : Obj} (e : h.get? a = some o) {f : Obj → Obj} (hf : f o = o) (hfr : o.isFreed = false) (b : Addr) (ob : Obj) (q : h.get? b = some ob) : (h.update a f).get? b = some ob := by
  by_cases hb : a = b
  · subst hb
    rw [e] at q
    cases q
    have := Heap.get?_update_self f e (by rw [hf]; exact hfr)
    rw [hf] at this
    exact this
  · exact Heap.get?_update_of_ne f hb q
theorem Inv.unbound {X : Cx} {pins : List (Addr × Obj)} {σ : St} {H : Hp} {s : Shared} {i : Nat} {n : Str} {h' : Heap} {m : Str → Option Value} {u : Option Value} (I : Inv X pins σ H s) (hN : X.N.Nodup) (hi : X.N[i]? = some n) (hm : s.heap.Ns X.env.locals m) (hn' : h'.Ns X.env.locals fun x => if x = n then u else m x) (hs : Heap.SameBut X.env.locals s.heap h') :
    Inv X pins (σ.set i none) H { s with heap := h' } := by
  obtain ⟨m0, hn, hl⟩ := id I.loc
  have hmm : m0 = m := by
    obtain ⟨o1, es1, ep1, a1, b1, c1, d1⟩ := hn
    obtain ⟨o2, es2, ep2, a2, b2, c2, d2⟩ := hm
    rw [a1] at a2
    cases a2
    rw [b1] at b2
    cases b2
    funext y
    rw [← d1 y, ← d2 y]
  subst hmm
  have cne := I.cne
  have tracked : HOk X.prog X.w H h' := fun b ob e => by
    refine (I.hok b ob e).stay (fun c w' hc q => (hs.2 c ?_).trans q) (fun _ q => q) fun _ _ q => q
    rintro rfl
    rcases hc with rfl | hc
    · rw [I.free] at e; cases e
    · rw [I.free] at hc; cases hc
  refine ⟨I.ok, I.os, I.bare, ⟨fun b o e n hb hx => ?_, fun b o e n hb hx => ?_, I.base.free, fun b o e hx => ?_, I.base.tups, I.base.frzs, I.base.tbls⟩, ⟨_, hn', fun j y v' e1 e2 e3 => ?_⟩, fun y c e => ?_, I.free, I.freeC, fun p hp => ?_, tracked, by simpa using I.len⟩
  · exact (hs.2 b (Nat.ne_of_lt (Nat.lt_of_lt_of_le (Heap.lt_size e) I.ok.above))).trans (I.base.keep b o e n hb hx)
  · obtain ⟨sl, e1⟩ := I.base.slot b o e n hb hx
    exact ⟨sl, (hs.2 b (Nat.ne_of_lt (Nat.lt_of_lt_of_le (Heap.lt_size e) I.ok.above))).trans e1⟩
  · obtain ⟨o', e1⟩ := I.base.there b o e hx
    exact ⟨o', (hs.2 b (Nat.ne_of_lt (Nat.lt_of_lt_of_le (Heap.lt_size e) I.ok.above))).trans e1⟩
  · have hj : j ≠ i := fun z => by
      subst z
      have hlt : j < σ.length := by rw [I.len]; exact (List.getElem?_eq_some_iff.mp hi).1
      rw [List.getElem?_set_self hlt] at e2
      cases e2
    rw [List.getElem?_set_ne (Ne.symm hj)] at e2
    obtain ⟨u', r', q⟩ := hl j y v' e1 e2 e3
    refine ⟨u', r', ?_⟩
    rcases q with ⟨k, e⟩ | ⟨k, c, e, z⟩
    · refine .inl ⟨k, ?_⟩
      have : y ≠ n := fun e => hj (nodup_ix hN e1 (e ▸ hi))
      simp [this, e]
    · exact .inr ⟨k, c, e, z.sameBut hs (cne y c e)⟩
  · obtain ⟨w', z⟩ := I.cell y c e
    exact ⟨w', z.sameBut hs (cne y c e)⟩
  · obtain ⟨e, n, ne, nf, d⟩ := I.pin p hp
    exact ⟨(hs.2 p.1 ne).trans e, n, ne, nf, d⟩
end L2
namespace L2
open PySem PySem.Spec PyProof.Rows
theorem flight_off {M : Model} {A : Around} {E : Value → Shared → Prop} {s : Shared} {h0 : Heap} {H : Hp} {x C : Addr} {Q : Unit → Shared → Prop} (fl : Fly h0 s.heap H x C) (k : ∀ h' : Heap, (∀ b o, s.heap.get? b = some o → h'.get? b = some o) → Q () { s with heap := h' }) : wpAny M A (setFlight (.ref x) none) Q E s := by
  obtain ⟨f1, f2, oe, vs, g1, g2, gd, g3, gs, g4⟩ := fl
  rcases g4 with z | ⟨T, oT, ts, z1, z2, z3, z4, z5, z6, z7, z8⟩
  · unfold setFlight
    refine wpAny_bind (wpAny_field g1 g3 z ?_)
    exact wpAny_pure (k s.heap fun _ _ e => e)
  · refine wpAny_setFlight_none g1 g3 z1 z5 z6 z7 (k _ fun b ob q => ?_)
    obtain ⟨oc, od, odt, osl⟩ := oT
    cases (show odt = .fields ts from z6)
    refine update_same z5 ?_ rfl b ob q
    show Obj.mk oc od (Data.fields (ts.setIfInBounds 3 .none)) osl = _
    congr 2
    apply Array.ext
    · simp
    · intro i h1 h2
      by_cases hi : i = 3
      · subst hi
        rw [Array.getElem_setIfInBounds_self]
        have := Array.getElem?_eq_getElem h2
        rw [z8] at this
        exact (Option.some.inj this)
      · rw [Array.getElem_setIfInBounds_ne _ (Ne.symm hi)]
theorem ps_try {X : Cx} {F : Addr} {i : Nat} {fx n : Str} {np hp pos : Pos} {body : List Stmt} {b0 : Stmt} {suite : List Stmt} {tb : TSX} {ts : TS} (nv : Never X) (hst : X.stack = X.env :: X.outer) (hfr : X.env.frame = some X.env.locals) (hex : X.ex = []) (hfn : X.env.scope.kind = .function) (T : XF X.K F) (hg : Gl X fx) (hm : X.mg fx = some (.ref F)) (hN : X.N.Nodup) (hi : X.N[i]? = some n) (hl : X.env.scope.names.lookup n = some .local) (hkl : Env.kindOf X.env n = some .local)
    (hb : PSXs X body tb) (hs : ∀ x, PSs (suiteCx X x) (b0 :: suite) ts) (hdb : (fx == ("__debug__" : Str)) = false := by decide) :
    PS X (.Try body [.ExceptHandler (some (.Name fx np)) (some n) (b0 :: suite) hp] [] [] pos) (tTry X.K F i tb ts) := by
  intro pins s σ H D I h
  refine wpAny_Try_except (wpAny_mono (hb pins s σ H D _ I h) (fun f s1 q => ?_) fun e s1 q => ?_)
  · cases f with
    | next => exact wpAny_execs_nil q
    | ret v => exact q
    | brk => exact q
    | cont => exact q
  · obtain ⟨x, C, H1, sc, σc, Hc, rfl, I0, I1, kx, fl, C', x', hc', hx', S, hq⟩ := q
    cases hc'
    cases hx'
    refine caught hst hfr hex I0 I1 kx fl fun H3 s3 sm h3 I3 fl3 => ?_
    have hq3 := hq H3 sm h3
    refine wpAny_handleBy_cons ?_ (fun z => nomatch z)
    have IS := I3.suite x
    refine codeAny_handlers_test ?_
    have hg' : Gl (suiteCx X x) fx := hg
    refine ld_glob (X := suiteCx X x) IS hg' hm ?_ hdb
    obtain ⟨oe, vs, e1, e2, e3, e4⟩ := exc_get IS h3
    obtain ⟨nm, q, N, bs, hdct, sn, sub, ab, col, dd, k0, k1, k2, k3, k5, hF, _⟩ := T.lk
    refine match_own (b := true) IS.kIn e1 e2 (IS.kIn _ _ hF) rfl rfl T.sb S.sb ?_
    dsimp only
    rw [if_pos rfl]
    refine codeAny_handlers_suite_as (flight_off fl3 fun h' kp => ?_)
    have I5 := IS.kept (t' := s3.toks) kp
    refine store_ok (X := suiteCx X x) (v := V.ref x) I5 hN hi (.inl hl) rfl (fun s6 I6 => ?_) (.inr hl)
    refine wpAny_mono (hs x pins s6 _ H3 _ I6 hq3) (fun f s7 q7 => ?_) fun e' s' z => (nv e' s' z).elim
    cases f with
    | ret v =>
      obtain ⟨_, _, _, _, _, z⟩ := q7
      exact z.elim
    | brk =>
      obtain ⟨_, _, _, z⟩ := q7
      exact z.elim
    | cont =>
      obtain ⟨_, _, _, z⟩ := q7
      exact z.elim
    | next =>
      obtain ⟨σ', H', I7, q7⟩ := q7
      have J7 : Inv X pins σ' H' s7 := I3.unsuite I7
      refine wpAny_bind (wpAny_bindName (store_ok (v := V.non) J7 hN hi (.inl hl) rfl (fun s8 I8 => ?_) (.inr hl)))
      unfold unbindBehindTheSuite
      refine wpAny_onRaise ?_
      obtain ⟨m, hn, hlk⟩ := id I8.loc
      have hlt : i < σ'.length := by rw [J7.len]; exact (List.getElem?_eq_some_iff.mp hi).1
      obtain ⟨u, ru, hu⟩ := hlk i n .non hi (by rw [List.getElem?_set_self hlt]) (.inl hl)
      have hmn : m n = some u := by
        rcases hu with ⟨_, z⟩ | ⟨z | z, _⟩
        · exact z
        · rw [hkl] at z; cases z
        · rw [hkl] at z; cases z
      refine wpAny_unbindName_local hkl hn hmn (by rw [hfn]; rfl) fun h8 u8 hn8 hs8 => ?_
      refine ⟨_, _, I8.unbound hN hi hn hn8 hs8, ?_⟩
      rw [List.set_set]
      exact q7
end L2
namespace L2
open PySem PySem.Spec PyProof.Rows
theorem ps_raiseK {X : Cx} {E : XK} {x : Str} {C : Addr} {np cpos pos : Pos} {e : Expr} {es : List Expr} {ta : TA} (R : RaiseOk X E) (hex : X.ex = []) (hc : X.calm = true) (hx : PySem.W.nsIn X.K mainGlobals x = some (some (.ref C))) (he : PySem.W.excIn X.K C vbm "ValueError.__new__" = true) (hg : Gl X x) (ha : PA X (e :: es) ta)
    (hdb : (x == ("__debug__" : Str)) = false := by decide) (hpl : (backTo cpos (starEach (e :: es) X.env)).any (·.1) = false := by rfl) (hsp : ∃ m r, backTo cpos (starEach (e :: es) X.env) = (false, m) :: r := by exact ⟨_, _, rfl⟩) :
    PS X (.Raise (some (.Call (.Name x np) (e :: es) [] cpos)) none pos) (tRaise C E ta) := fun pins s σ H D I h => ps_raise R hex hc (own_cls (P := X.prog) I.ok.mod hx he) hg ha hdb hpl hsp pins s σ H D I h
theorem Room.suite {k : Nat} {A : Around} (hr : Room k A) (v : Option Value) : Room k { A.mark v with handled := none } := ⟨rfl, hr.dp, hr.un⟩
theorem seq_cut {a b : TS} {D : Ends} {σ : St} {H : Hp} (J : St → Hp → Prop) (h1 : ∀ R : St → Hp → Prop, (∀ σ' H', J σ' H' → R σ' H') → a { D with nx := R } σ H) (h2 : ∀ σ' H', J σ' H' → b D σ' H') : tSeq a b D σ H := h1 _ h2
end L2
namespace L2
open PySem PySem.Spec PyProof.Rows
section
variable {X : Cx}
end
end L2
namespace L2
open PySem PySem.Spec PyProof.Rows
section
variable {X : Cx} {elts : List Expr} {x1 : Nat} {tp : Pos}
end
end L2
namespace L2
open PySem PySem.Spec PyProof.Rows
def mkS (l : List Nat) : Str := ⟨l.toArray⟩
theorem mkS_inj {a b : List Nat} (h : mkS a = mkS b) : a = b := congrArg (fun z : Str => z.cps.toList) h
theorem mkS_len (l : List Nat) : (mkS l).length = l.length := by simp [mkS, Str.length]
end L2
namespace L2
open PySem PySem.Spec PyProof.Rows
section
variable {X : Cx}
end
end L2
namespace L2
open PySem PySem.Spec PyProof.Rows
section
variable {prog : Program} {w : World} {K : Type} [DecidableEq K] {knd : KeyKind prog w K} {A : Around} {E : Value → Shared → Prop} {s : Shared}
theorem setDefault_pairs {d : Addr} {kvs : List (K × Value)} {k : K} {key dflt : Value} {Q : Value → Shared → Prop} (hkey : knd.is k key = true) (hm : s.heap.DictOf knd d kvs) (hsz : kvs.length ≤ sizeLine)
    (h1 : ∀ v, valueAt kvs k = some v → Q v { s with toks := s.toks + 1 })
    (h2 : valueAt kvs k = none → ∀ h', h'.DictOf knd d (stored kvs k dflt) → Heap.SameBut d s.heap h' → Q dflt { s with heap := h', toks := s.toks + 1 }) :
    wpAny (model prog w) A (dictSetDefault d key dflt) Q E s := by
  obtain ⟨o, es, ep, ho, hc, hd, hk, hp, hn⟩ := hm
  have hes : es.size ≤ sizeLine := by
    have e1 := hp.length
    have e2 : es.toList.length = es.size := by simp
    omega
  unfold dictSetDefault
  refine wpAny_holding ?_
  refine wpAny_bind (knd.pyHash hkey ?_)
  refine wpAny_bind (wpAny_dictFind_of (s := { s with toks := s.toks + 1 }) hkey ho hd hk ?_)
  have hidx : (es.findIdx? fun e => knd.is k e.key) = kvs.findIdx? fun kv => decide (kv.1 = k) := by
    rw [← hp.findIdx k]; obtain ⟨l⟩ := es; simp
  have hval : (findBy knd.is es k) = valueAt kvs k := by
    rw [← hp.find k]
    obtain ⟨l⟩ := es
    simp [findBy]
  cases hi : es.findIdx? fun e => knd.is k e.key with
  | some i =>
    have hfk : valueAt kvs k = (es[i]?).map (·.val) := by rw [← hval, findBy_of_findIdx?, hi]
    refine wpAny_bind (wpAny_dictEntries (s := { s with toks := s.toks + 1 }) ho hd ?_)
    cases he : es[i]? with
    | none =>
      exfalso
      have := Array.findIdx?_eq_some_iff_findIdx_eq.mp hi
      have hlt : i < es.size := this.1
      rw [Array.getElem?_eq_getElem hlt] at he
      exact nomatch he
    | some e =>
      rw [he] at hfk
      exact wpAny_bind (wpAny_rule (wpAny_pure (h1 e.val hfk)))
  | none =>
    have hfk : valueAt kvs k = none := by rw [← hval, findBy_of_findIdx?, hi]
    have hnot : k ∉ kvs.map (·.1) := not_mem_of_findIdx_none (hidx ▸ hi)
    have hany : ¬ (kvs.any fun kv => decide (kv.1 = k)) = true := by
      rw [List.any_eq_true]; rintro ⟨kv, hkv, he⟩
      exact hnot (List.mem_map.mpr ⟨kv, hkv, of_decide_eq_true he⟩)
    refine wpAny_bind (wpAny_rule (wpAny_bind (wpAny_updateDictKeys (hz := hes) (s := { s with toks := s.toks + 1 }) ho hd (wpAny_pure (h2 hfk _ ⟨_, _, ep + 1, Heap.get?_update_self _ ho (Obj.isFreed_of_dict (Obj.data_mapDictKeys hd _)),
      hc.mapDictKeys _, Obj.data_mapDictKeys hd _, hk.push hkey _, ?_, ?_⟩ (Heap.SameBut.update ..))))))
    · rw [stored, if_neg hany]
      have := hp.append hkey (knd.hash k) dflt
      obtain ⟨l⟩ := es
      simpa using this
    · rw [stored, if_neg hany, List.map_append, List.nodup_append]
      refine ⟨hn, by simp, ?_⟩
      intro a ha b hb
      simp only [List.map_cons, List.map_nil, List.mem_singleton] at hb
      subst hb
      exact fun e => hnot (e ▸ ha)
theorem meets_setd (hkey : knd.is k key = true) (d : Addr) (hd : (d == sysModules) = false) (dflt : Value) :
    MeetsIn prog w (Builtin.«dict.setdefault» ⟨[.ref d, key, dflt], []⟩) (fun _ R s => ∃ kvs, s.heap.DictOf knd d kvs ∧ kvs.length ≤ sizeLine ∧
      (∀ v, valueAt kvs k = some v → R (.ok (.ret v)) { s with toks := s.toks + 1 }) ∧
      (valueAt kvs k = none → ∀ h', h'.DictOf knd d (stored kvs k dflt) → Heap.SameBut d s.heap h' → R (.ok (.ret dflt)) { s with heap := h', toks := s.toks + 1 })) :=
  .of_wp fun A R s ⟨kvs, hm, hz, h1, h2⟩ => by
    unfold Builtin.«dict.setdefault»
    refine wpAny_bind ?_
    unfold Builtin.Dict.keyAndDefault
    refine wpAny_bind (wpAny_notOrdered_dict hm.typeIs ?_)
    show wpAny _ _ (pure (d, key, some dflt)) _ _ s
    refine wpAny_pure ?_
    show wpAny _ _ (if (d == sysModules) = true then _ else (dictSetDefault d key dflt >>= _)) _ _ s
    rw [if_neg (by rw [hd]; exact Bool.false_ne_true)]
    exact wpAny_bind (setDefault_pairs hkey hm hz (fun v hv => wpAny_pure ⟨v, rfl, h1 v hv⟩) fun hn h' hm' hs' => wpAny_pure ⟨dflt, rfl, h2 hn h' hm' hs'⟩)
end
def tDSetdK (td ty tx : TE) : TE := fun σ H Q => td σ H fun x H1 => ∃ a, x = .ref a ∧ IsD H1 a ∧ ty σ H1 fun y H2 => tx σ H2 fun z H3 => ∃ kvs k, H3 a = some (.dK kvs) ∧ y = kV k ∧ kvs.length < sizeLine ∧
  (∀ v, valV kvs k = some v → Q v H3) ∧ (valV kvs k = none → Q z (upd H3 a (.dK (putK kvs k z))))
section
variable {X : Cx} {pins : List (Addr × Obj)} {σ : St} {H : Hp} {s : Shared} {a : Addr} {d : V} {u r : Value} {A : Around} {E : Value → Shared → Prop} {kvs : List (Key × V)} {k : Key}
theorem d_setdK {Q : Value → Shared → Prop} (I : Inv X pins σ H s) (e : H a = some (.dK kvs)) (ry : RelV (kV k) u) (hlen : kvs.length < sizeLine) (rd : RelV d r)
    (h1 : ∀ v w' s', valV kvs k = some v → Inv X pins σ H s' → RelV v w' → Q w' s') (h2 : ∀ s', valV kvs k = none → Inv X pins σ (upd H a (.dK (putK kvs k d))) s' → Q r s') :
    wpAny (model X.prog X.w) A (call (.builtin "dict.setdefault") [.ref a, u, r]) Q E s := by
  obtain ⟨z, hd, vs, rel, dd⟩ := dk_of I.hok e
  have hz : vs.length ≤ sizeLine := by rw [← rel.length]; exact z
  have hrel := rel.val k
  refine call_meetsIn PySem.F.slot_dict_setdefault dd.typeIs PySem.F.entry_dict_setdefault (PySem.F.args_dict_setdefault_3 _ _ _) (meets_setd (kV_is ry) a hd r) ⟨vs, dd, hz, fun v hv => ?_, fun hn h' dd' hs => ?_⟩
  · rw [hv] at hrel
    cases q : valV kvs k with
    | none => rw [q] at hrel; cases hrel
    | some v' =>
      rw [q] at hrel
      exact h1 v' _ _ q (I.tok _) hrel
  · have hv : valV kvs k = none := by
      rw [hn] at hrel
      cases q : valV kvs k with
      | none => rfl
      | some v => rw [q] at hrel; cases hrel
    refine h2 _ hv ?_
    have hl : (putK kvs k d).length ≤ sizeLine := by have := length_putK kvs k d; omega
    have he : ∃ q, h'.get? a = some q := let ⟨q, _, _, hq, _⟩ := dd'; ⟨q, hq⟩
    exact d_write I (by rw [e]; exact True.intro) hs he (dk_new hl hd (rel.put k rd) dd')
end
section
variable {X : Cx} {o e f : Expr} {apos cpos : Pos} {td ty tx : TE}
theorem pe_dsetdK (ho : PE X o td) (he : PE X e ty) (hf : PE X f tx) (m : M2 X o "setdefault" apos e f cpos) : PE X (.Call (.Attribute o "setdefault" apos) [e, f] [] cpos) (tDSetdK td ty tx) := by
  intro pins s σ H Q I h
  refine wpAny_Call_method m.base m.few m.line PySem.F.plainAttrs_dict PySem.F.slot_dict_setdefault PySem.F.type_dict_setdefault (thn (ho pins s σ H _ I h) fun u s1 ⟨x, H1, I1, rx, a, ex, d, q1⟩ => ?_)
  subst ex
  obtain rfl : u = Value.ref a := rx
  obtain ⟨t1, t2, _⟩ := isD_at I1 d
  refine ⟨t1, t2, ?_⟩
  rw [m.trees]
  refine Calls.callWith_builtin rfl (Calls.evalArgs_plain (Calls.spliced_cons (thn (he pins s1 σ H1 _ I1 q1) fun iv s2 ⟨y, H2, I2, ry, q2⟩ =>
    Calls.spliced_cons (thn (hf pins s2 σ H2 _ I2 q2) fun fv s3 ⟨z, H3, I3, rz, kvs, k, e3, ey, hl, g1, g2⟩ => Calls.spliced_nil ?_))))
  subst ey
  exact d_setdK I3 e3 ry hl rz (fun v w' s4 hv I4 rw' => ⟨v, H3, I4, rw', g1 v hv⟩) fun s4 hn I4 => ⟨z, _, I4, rz, g2 hn⟩
end
def Its (lo c : Int) (n : Nat) : It := ⟨fun i _ => i < n, fun i H x H' => H' = H ∧ x = .int (lo + (i : Nat) * c), fun i _ => n ≤ i⟩
theorem turn_rangeS {P : Program} {w : World} {K : PySem.W.Frag} {tg : Expr} (it : Addr) (lo c : Int) (n : Nat) : Turn P w K tg (Its lo c n) [it] it (fun i h => IsRangeIter h it (lo + (i : Nat) * c) ((n : Int) - (i : Nat)) c) where
  mem := by simp
  obj := fun i h st b hb => by
    have e : b = it := by simpa using hb
    subst e
    exact ⟨_, st, fun v z => by
      have z' : Data.fields _ = Data.cell v := z
      cases z'⟩
  keep := fun i h h' st k => k it (by simp) _ st
  item := by
    intro X hP hw hK hc i pins s σ H E I hf st hg
    subst hP hw hK
    obtain ⟨f0, f1, f2, f3, f4, f5⟩ := hf it (by simp)
    have W := Walks.range (prog := X.prog) (w := X.w) (I.ok.hd hc) it lo c n
    refine W.item i s _ _ hg st fun v h' tk hv st' kk => ?_
    obtain ⟨t, rfl⟩ := hv
    have I1 : Inv X pins σ H { s with heap := h', toks := tk } := I.turned (fun b o hb e => kk b o (by simpa using hb) e) f0 f1 f3 f4 f5
    exact ⟨_, rfl, go_of (s := { s with heap := h', toks := tk }) (n := "range_iterator") st' rfl rfl (by decide) ⟨.int (lo + (i : Nat) * c), H, I1, ⟨t, rfl⟩, ⟨rfl, rfl⟩, st', fun b hb => (hf b hb).1⟩⟩
  done := by
    intro X hP hw hK hc i pins s σ H E I hf st hg
    subst hP hw hK
    obtain ⟨f0, f1, f2, f3, f4, f5⟩ := hf it (by simp)
    exact wpAny_pyNext_range_end (I.ok.hd hc) st (by have : n ≤ i := hg; omega) fun h' eb => ⟨rfl, I.turned (t' := s.toks) (fun b o hb e => eb b o hb e) f0 f1 f3 f4 f5⟩
  self := fun _ _ _ _ _ st h => wpAny_pyIter_rangeiter st h
def nStep (i j c : Int) : Nat := (Builtin.Range.rangeSize i j c).toNat
theorem size_nonneg {i j c : Int} (hc : 0 < c) : 0 ≤ Builtin.Range.rangeSize i j c := by
  unfold Builtin.Range.rangeSize
  rw [if_pos hc]
  split
  · have := Int.ediv_nonneg (show 0 ≤ j - i - 1 by omega) (Int.le_of_lt hc)
    omega
  · exact Int.le_refl _
def iRng3 (ta : TA) : TI := fun σ H R => ta σ H fun vs H1 => ∃ i j c : Int, vs = [.int i, .int j, .int c] ∧ (0 ≤ i ∧ i ≤ 1000 ∧ 0 ≤ j ∧ j ≤ 1000 ∧ 0 < c ∧ c ≤ 1000) ∧ R (Its i c (nStep i j c)) H1
section
variable {X : Cx} {tg : Expr}
theorem small_step {i j c : Int} (h : 0 ≤ i ∧ i ≤ 1000 ∧ 0 ≤ j ∧ j ≤ 1000 ∧ 0 < c ∧ c ≤ 1000) : Builtin.Range.small i j c = true := by
  obtain ⟨h1, h2, h3, h4, h5, h6⟩ := h
  have hs : 0 ≤ Builtin.Range.rangeSize i j c := size_nonneg h5
  have hs2 : Builtin.Range.rangeSize i j c ≤ 1001 := by
    unfold Builtin.Range.rangeSize
    rw [if_pos h5]
    split
    · have : (j - i - 1) / c ≤ j - i - 1 := Int.ediv_le_self _ (by omega)
      omega
    · decide
  have hm : Builtin.Range.rangeSize i j c * c ≤ 1001 * 1000 := Int.mul_le_mul hs2 h6 (Int.le_of_lt h5) (by decide)
  have hm0 : 0 ≤ Builtin.Range.rangeSize i j c * c := Int.mul_nonneg hs (Int.le_of_lt h5)
  have hx : (Builtin.Range.rangeSize i j c - 1) * c = Builtin.Range.rangeSize i j c * c - c := by rw [Int.sub_mul, Int.one_mul]
  unfold Builtin.Range.small
  simp only [Builtin.Range.rangeFitsLong, Bool.and_eq_true, Bool.or_eq_true, decide_eq_true_eq, beq_iff_eq, show c > 0 from h5, if_true]
  clear hm hm0 hx
  generalize Builtin.Range.rangeSize i j c = d at *
  omega
theorem pi_range3 {a b c : Expr} {ta : TA} {p pos : Pos} (hg : Gl X "range") (hm : X.mg "range" = none) (ha : PA X [a, b, c] ta) (hs : starEach [a, b, c] X.env = [(false, eval a X.env), (false, eval b X.env), (false, eval c X.env)] := by rfl)
    (hs2 : starEach [b, c] X.env = [(false, eval b X.env), (false, eval c X.env)] := by rfl) : PI X tg (.Call (.Name "range" p) [a, b, c] [] pos) (iRng3 ta) := by
  intro pins s σ H R I h
  refine Call_ (ld_blt I hg hm boot_range (PyProof.Rows.callWith_type1 (thn (ha pos pins s σ H _ I h) fun us s1 ⟨vs, H1, I1, r1, q1⟩ => ?_) (by rw [hs, hs2]) (by rw [hs2]; rfl)))
  obtain ⟨i, j, c', e, hb, q⟩ := q1
  subst e
  obtain ⟨h1, h2, h3, h4, h5, h6⟩ := id hb
  cases r1 with
  | cons r rr =>
    cases rr with
    | cons r' rr =>
      cases rr with
      | cons r'' rr =>
        cases rr
        obtain ⟨t, rfl⟩ := r
        obtain ⟨t', rfl⟩ := r'
        obtain ⟨t'', rfl⟩ := r''
        refine call_range_3 (by omega) ?_ (.inl (PyProof.noPylong_small (by omega)))
        refine wpAny_pyIter_range (IsRange.new ..) (small_step hb) ?_
        have I2 : Inv X pins σ H1 { s1 with heap := s1.heap.push { cls := .type "range", data := .fields #[.int i t, .int j t', .int c' t''] } } := I1.kept (t' := s1.toks) fun b o e => Heap.get?_push_of_some _ e
        refine ⟨(s1.heap.push { cls := .type "range", data := .fields #[.int i t, .int j t', .int c' t''] }).objs.size, [(s1.heap.push { cls := .type "range", data := .fields #[.int i t, .int j t', .int c' t''] }).objs.size], _, _, H1, rfl,
          I2.kept (t' := s1.toks) fun b o e => Heap.get?_push_of_some _ e, turn_rangeS _ i c' (nStep i j c'), ?_, fun b hb => ?_, q⟩
        · have e1 : i + ((0 : Nat) : Int) * c' = i := by simp
          have e2 : ((nStep i j c' : Nat) : Int) - ((0 : Nat) : Int) = Builtin.Range.rangeSize i j c' := by
            have := size_nonneg (i := i) (j := j) h5
            unfold nStep
            omega
          show IsRangeIter _ _ (i + ((0 : Nat) : Int) * c') (((nStep i j c' : Nat) : Int) - ((0 : Nat) : Int)) c'
          rw [e1, e2]
          exact Heap.get?_push_size _ rfl
        · have e : b = (s1.heap.push { cls := .type "range", data := .fields #[.int i t, .int j t', .int c' t''] }).objs.size := by simpa using hb
          subst e
          exact I2.fpOk (Nat.le_refl _) (I2.hok.fresh (Nat.le_refl _))
end
theorem for_step {lo c : Int} {n : Nat} {g : TG} {tb : TS} {D : Ends} {σ : St} {H : Hp} (Pv : Nat → St → Hp → Prop) (h0 : Pv 0 σ H)
    (hs : ∀ i σ H, i < n → Pv i σ H → g (.int (lo + (i : Nat) * c)) σ H fun σ2 H2 => tb { D with nx := Pv (i + 1), ct := Pv (i + 1), bk := D.nx } σ2 H2) (hd : ∀ σ H, Pv n σ H → D.nx σ H) :
    ∃ W : Nat → Nat → St → Hp → Prop, (∃ m, W 0 m σ H) ∧ ∀ i m σ H, W i m σ H →
      ((Its lo c n).stop i H ∧ D.nx σ H) ∨ ((Its lo c n).go i H ∧ ∃ N : St → Hp → Prop, (∀ σ' H', N σ' H' → ∃ m', m' < m ∧ W (i + 1) m' σ' H') ∧ ∀ x H', (Its lo c n).yld i H x H' → g x σ H' fun σ2 H2 => tb { D with nx := N, ct := N, bk := D.nx } σ2 H2) := by
  refine ⟨fun i m σ H => m = n - i ∧ i ≤ n ∧ Pv i σ H, ⟨n, by simp, Nat.zero_le _, h0⟩, ?_⟩
  rintro i m σ H ⟨rfl, hi, p⟩
  by_cases hlt : i < n
  · refine .inr ⟨hlt, Pv (i + 1), fun σ' H' p' => ⟨n - (i + 1), by omega, rfl, hlt, p'⟩, fun x H' y => ?_⟩
    obtain ⟨rfl, rfl⟩ := y
    exact hs i σ H' hlt p
  · have e : i = n := by omega
    subst e
    exact .inl ⟨Nat.le_refl _, hd σ H p⟩
theorem paired_get {α β : Type} {R : α → β → Prop} {xs : List α} {ys : List β} (r : Paired R xs ys) : ∀ {i : Nat} {x : α}, xs[i]? = some x → ∃ y, ys[i]? = some y ∧ R x y := by
  induction r with
  | nil => intro i x h; simp at h
  | cons h1 _ ih =>
    intro i x h
    cases i with
    | zero =>
      rw [List.getElem?_cons_zero] at h
      cases h
      exact ⟨_, rfl, h1⟩
    | succ i =>
      rw [List.getElem?_cons_succ] at h
      obtain ⟨y, e, q⟩ := ih h
      exact ⟨y, by rw [List.getElem?_cons_succ]; exact e, q⟩
def Itv (d : Addr) (o : Obj) : It :=
  ⟨fun i H => ∃ kvs x, H d = some (.frz o (.dK kvs)) ∧ kvs[i]? = some x, fun i H x H' => H' = H ∧ ∀ kvs, H d = some (.frz o (.dK kvs)) → ∃ k, kvs[i]? = some (k, x), fun i H => ∃ kvs, H d = some (.frz o (.dK kvs)) ∧ kvs.length ≤ i⟩
section
variable {X : Cx} {pins : List (Addr × Obj)} {σ : St} {H : Hp} {s : Shared} {d : Addr} {o : Obj} {kvs : List (Key × V)}
theorem frz_dict (I : Inv X pins σ H s) (e : H d = some (.frz o (.dK kvs))) : ∃ es ep vs, s.heap.get? d = some o ∧ o.data = .dict es ep ∧ KV kvs vs ∧ s.heap.DictAt (mixKind X.prog X.w) d vs ep ∧ es.size = vs.length := by
  obtain ⟨g, z, hd, vs, rel, o', es, ep, g2, c, dt, kk, pp, nn⟩ := (show ObjOk X.prog X.w H s.heap d (.frz o (.dK kvs)) from I.hok d _ e)
  have e1 : o' = o := Option.some.inj (g2.symm.trans g)
  subst e1
  exact ⟨es, ep, vs, g, dt, rel, ⟨_, es, g, c, dt, kk, pp, nn⟩, by rw [← pp.length]; simp⟩
theorem freeze (I : Inv X pins σ H s) (e : H d = some (.dK kvs)) (g : s.heap.get? d = some o) : Inv X pins σ (upd H d (.frz o (.dK kvs))) s :=
  d_write (t' := s.toks) (h' := s.heap) I (by rw [e]; exact True.intro) ⟨rfl, fun _ _ => rfl⟩ ⟨o, g⟩ ⟨g, (show ObjOk X.prog X.w H s.heap d (.dK kvs) from I.hok d _ e)⟩
end
theorem turn_vals {P : Program} {w : World} {K : PySem.W.Frag} {tg : Expr} (d it : Addr) (o : Obj) : Turn P w K tg (Itv d o) [it] it (fun i h => ∃ es ep, o.data = .dict es ep ∧ h.IsValIter it d i es.size ep) where
  mem := by simp
  obj := fun i h st b hb => by
    have e : b = it := by simpa using hb
    subst e
    obtain ⟨_, _, _, o', e, c, dd⟩ := st
    exact ⟨o', e, fun v z => by rw [dd] at z; cases z⟩
  keep := fun i h h' st k => by
    obtain ⟨es, ep, q, o', e, c⟩ := st
    exact ⟨es, ep, q, o', k it (by simp) _ e, c⟩
  item := by
    intro X hP hw hK hc i pins s σ H E I hf st hg
    subst hP hw hK
    obtain ⟨kvs, x, hq, hx⟩ := hg
    obtain ⟨es, ep, vs, g, dt, rel, da, hsz⟩ := frz_dict I hq
    obtain ⟨es', ep', dt', hit⟩ := st
    rw [dt] at dt'
    cases dt'
    rw [hsz] at hit
    obtain ⟨⟨k', u⟩, hu, ek, ru⟩ := paired_get rel hx
    obtain ⟨f0, f1, f2, f3, f4, f5⟩ := hf it (by simp)
    refine wpAny_pyNext_values_item hit da hu fun h' st' sb => ?_
    have I1 : Inv X pins σ H { s with heap := h' } := I.turned (t' := s.toks) (fun b o hb e => (sb.2 b hb).trans e) f0 f1 f3 f4 f5
    obtain ⟨o', e, c, dd⟩ := id st'
    refine ⟨u, rfl, go_of (s := { s with heap := h' }) e c dd (by decide) ⟨x.2, H, I1, ru, ⟨rfl, fun ys hy => ?_⟩, ⟨es, ep, dt, by rw [hsz]; exact st'⟩, fun b hb => (hf b hb).1⟩⟩
    rw [hq] at hy
    cases hy
    exact ⟨x.1, hx⟩
  done := by
    intro X hP hw hK hc i pins s σ H E I hf st hg
    subst hP hw hK
    obtain ⟨kvs, hq, hx⟩ := hg
    obtain ⟨es, ep, vs, g, dt, rel, da, hsz⟩ := frz_dict I hq
    obtain ⟨es', ep', dt', hit⟩ := st
    rw [dt] at dt'
    cases dt'
    rw [hsz] at hit
    obtain ⟨f0, f1, f2, f3, f4, f5⟩ := hf it (by simp)
    have hl : kvs.length = vs.length := rel.length
    exact wpAny_pyNext_values_end (I.ok.hd hc) hit da (List.getElem?_eq_none (by omega)) fun h' eb => ⟨rfl, I.turned (t' := s.toks) (fun b o hb e => eb b o hb e) f0 f1 f3 f4 f5⟩
  self := fun _ _ _ _ _ st h => by
    obtain ⟨es, ep, _, hit⟩ := st
    exact wpAny_pyIter_valiter hit h
def iVals (td : TE) : TI := fun σ H R => td σ H fun x H1 => ∃ a kvs, x = .ref a ∧ H1 a = some (.dK kvs) ∧ ∀ o, R (Itv a o) (upd H1 a (.frz o (.dK kvs)))
section
variable {X : Cx} {tg o : Expr} {td : TE} {apos cpos : Pos}
theorem pi_vals (ho : PE X o td) (hbase : attributeBase o "values" X.env (eval o X.env) = eval o X.env := by rfl) (hline : (apos.endLine == cpos.line) = true := by rfl) : PI X tg (.Call (.Attribute o "values" apos) [] [] cpos) (iVals td) := by
  intro pins s σ H R I h
  refine wpAny_Call_method0_late hbase hline (thn (ho pins s σ H _ I h) fun v s1 ⟨x, H1, I1, r1, a, kvs, ex, ea, q⟩ => ?_)
  subst ex
  cases r1
  obtain ⟨z, hd, vs, rel, dd⟩ := dk_of I1.hok ea
  have tb := isD_at I1 (.inl ⟨kvs, .inl ea⟩)
  refine ⟨"dict", "dict.values", PySem.F.plainAttrs_dict, PySem.F.slot_dict_values, PySem.F.type_dict_values, tb.1, tb.2.1, Calls.callWith_builtin rfl (PySem.evalArgs_none ?_)⟩
  refine call_meetsIn PySem.F.slot_dict_values dd.typeIs PySem.F.entry_dict_values (PySem.F.args_dict_values_1 _) (meets_dict_values (mixKind X.prog X.w) a hd) ⟨⟨vs, dd⟩, ?_⟩
  obtain ⟨ob, es, ep, g, c, dt, kk, pp, nn⟩ := dd
  have g1 : (s1.heap.push { cls := .type "dict_values", data := .fields #[.ref a] }).get? a = some ob := Heap.get?_push_of_some _ g
  have I2 : Inv X pins σ H1 { s1 with heap := s1.heap.push { cls := .type "dict_values", data := .fields #[.ref a] } } := I1.kept (t' := s1.toks) fun b o e => Heap.get?_push_of_some _ e
  have I3 := freeze I2 ea g1
  have hsz : es.size = vs.length := by rw [← pp.length]; simp
  refine wpAny_pyIter_values (s := { s1 with heap := s1.heap.push { cls := .type "dict_values", data := .fields #[.ref a] } }) (knd := mixKind X.prog X.w) (kvs := vs) (ep := ep) ⟨_, Heap.get?_push_size _ rfl, rfl, rfl⟩ ⟨ob, es, g1, c, dt, kk, pp, nn⟩ ?_
  refine ⟨_, [(s1.heap.push { cls := .type "dict_values", data := .fields #[.ref a] }).objs.size], _, Itv a ob, _, rfl, I3.kept (t' := s1.toks) fun b o e => Heap.get?_push_of_some _ e, turn_vals a _ ob, ⟨es, ep, dt, ⟨_, Heap.get?_push_size _ rfl, rfl, by rw [hsz]; rfl⟩⟩, fun b hb => ?_, q ob⟩
  rw [List.mem_singleton.mp hb]
  exact I3.fpOk (Nat.le_refl _) (I3.hok.fresh (Nat.le_refl _))
end
theorem comp_vals {d : Addr} {o : Obj} {kvs : List (Key × V)} {D : Addr} {caps : List (Option Nat)} {g : TG} {tt : TT} {te : TE} {σ : St} {H1 : Hp} {Q : VK} (Pv : Nat → List V → Hp → Prop) (h0 : Pv 0 [] (upd H1 D (.lst []))) (hl : ∀ i ys H, i ≤ kvs.length → Pv i ys H → H d = some (.frz o (.dK kvs)))
    (hs : ∀ i k x ys H, kvs[i]? = some (k, x) → Pv i ys H → g x (capt caps σ) H fun σ4 H4 => tt σ4 H4 fun b H5 => if b = true then te σ4 H5 fun v H6 => ∃ zs, H6 D = some (.lst zs) ∧ zs.length < sizeLine ∧ Pv (i + 1) (ys ++ [v]) (upd H6 D (.lst (zs ++ [v]))) else Pv (i + 1) ys H5)
    (hd : ∀ ys H, Pv kvs.length ys H → Q (.ref D) H) : CompW (Itv d o) caps g tt te σ D H1 Q := by
  refine ⟨fun i m ys H => m = kvs.length - i ∧ i ≤ kvs.length ∧ Pv i ys H, ⟨_, rfl, Nat.zero_le _, h0⟩, ?_⟩
  rintro i m ys H ⟨rfl, hi, p⟩
  have q := hl i ys H hi p
  by_cases hlt : i < kvs.length
  · refine .inr ⟨⟨kvs, kvs[i], q, List.getElem?_eq_getElem hlt⟩, Pv (i + 1), fun zs H' p' => ⟨kvs.length - (i + 1), by omega, rfl, hlt, p'⟩, fun x H' y => ?_⟩
    obtain ⟨rfl, y⟩ := y
    obtain ⟨k, hk⟩ := y kvs q
    exact hs i k x ys H' hk p
  · have e : i = kvs.length := by omega
    subst e
    exact .inl ⟨⟨kvs, q, Nat.le_refl _⟩, hd ys H p⟩
end L2
set_option genInjectivity false
namespace CF
open PySem PySem.Spec PyProof.Rows L2
def top (i : Nat) : Stmt := PySem.Challenge.pw_cornerfill_k07_whole_boards_without_gaps.main.body.getD i (.Pass ⟨0, 0, 0, 0⟩)
abbrev s_picture_corners : Stmt := top 13
abbrev s_laid : Stmt := top 14
abbrev s_fill_rectangle : Stmt := top 15
abbrev s_swapped : Stmt := top 16
abbrev s_is_three_by_odd : Stmt := top 17
abbrev s_can_be_filled : Stmt := top 18
abbrev s_rectangle_filling : Stmt := top 19
abbrev s_is_side : Stmt := top 23
abbrev s_rising_cells : Stmt := top 24
abbrev s_gap_marks : Stmt := top 25
abbrev s_Board_init : Stmt := inClass (top 26) 0
abbrev s_Board_width : Stmt := inClass (top 26) 1
abbrev s_Board_height : Stmt := inClass (top 26) 2
abbrev s_Board_gaps : Stmt := inClass (top 26) 3
abbrev s_Board_open_cells : Stmt := inClass (top 26) 4
abbrev s_law_cell_at : Stmt := top 28
abbrev s_law_whole : Stmt := top 29
abbrev s_law_open : Stmt := top 30
abbrev s_law_is_cell : Stmt := top 31
abbrev s_law_is_corner : Stmt := top 33
abbrev s_law_is_filling : Stmt := top 34
abbrev s_law_marks_of : Stmt := top 35
abbrev s_law_marks : Stmt := top 36
abbrev s_law : Stmt := top 37
structure Df (K : PySem.W.Frag) (mg : Str → Option Value) (x : Str) (st : Stmt) (ps : List Str) where
  f : Addr
  fd : FuncData
  F : Fun K x x st f fd
  mgf : mg x = some (.ref f)
  b : Binds K fd ps []
structure Bl (mg : Str → Option Value) : Prop where
  range : mg "range" = none
  len : mg "len" = none
  list : mg "list" = none
section
variable {P : Program} {w : World} {K : PySem.W.Frag} {mg : Str → Option Value} {base : Heap}
def spSide : Sp := fun vs H Q _ => ∃ n : Int, vs = [.int n] ∧ Q (.bl (decide (1 ≤ n ∧ n ≤ 16))) H
theorem sc_is_side : FnScope ["number"] ["number"] (defScope s_is_side) := ⟨rfl, rfl, rfl, by decide +kernel, rfl, by decide +kernel, by decide +kernel⟩
theorem ok_is_side (D : Df K mg "is_side" s_is_side ["number"]) {t1 t2 : Tok} (c1 : mg "SMALLEST_SIDE" = some (.int 1 t1)) (c2 : mg "LARGEST_SIDE" = some (.int 16 t2)) : FnOk P w K mg base CX0 1 D.f D.fd ["number"] spSide := by
  refine D.F.ok sc_is_side (fun vs H Q E h => ?_) (fun cdv A outer s H vs Q E hr h => ?_)
  · obtain ⟨n, rfl, _⟩ := h
    rfl
  · obtain ⟨n, rfl, k⟩ := h
    refine ⟨_, pss_one (ps_ret (pe_chain op_le op_le (pe_glob (v := .int 1) rfl c1 ⟨_, rfl⟩) (pv 0) (pe_glob (v := .int 16) rfl c2 ⟨_, rfl⟩))), ?_⟩
    refine ⟨_, rfl, _, _, rfl, rfl, _, rfl, ?_⟩
    refine ite2 (fun h1 => ?_) (fun h1 => ?_)
    · refine ⟨_, _, rfl, rfl, ?_⟩
      have h1' : 1 ≤ n := of_decide_eq_true h1
      have e : decide (n ≤ 16) = decide (1 ≤ n ∧ n ≤ 16) := by
        rw [Bool.eq_iff_iff]
        simp only [decide_eq_true_eq]
        (clear c1 c2 hr k h1; omega)
      show Q (.bl (decide (n ≤ 16))) H
      rw [e]
      exact k
    · have h1' : ¬ 1 ≤ n := fun z => h1 (decide_eq_true z)
      rw [show decide (1 ≤ n ∧ n ≤ 16) = false from decide_eq_false (fun z => h1' z.1)] at k
      exact k
def spRising : Sp := fun vs H Q _ => ∃ w h : Nat, vs = [.int w, .int h] ∧ w ≤ 16 ∧ h ≤ 16 ∧ ∀ (l : Addr) (xs : List V) (H' : Hp), H l = none → Same H H' → H' l = some (.lst xs) → VDs H' ((cells w h).map eCel.enc) xs → Q (.ref l) H'
theorem sc_rising : FnScope ["width", "height", "cells", "x", "y"] ["width", "height"] (defScope s_rising_cells) := ⟨rfl, rfl, rfl, by decide +kernel, rfl, by decide +kernel, by decide +kernel⟩
theorem ok_rising (D : Df K mg "rising_cells" s_rising_cells ["width", "height"]) (B : Bl mg) : FnOk P w K mg base CX0 1 D.f D.fd ["width", "height"] spRising := by
  refine D.F.ok sc_rising (fun vs H Q E h => ?_) (fun cdv A outer s H vs Q E hr h => ?_)
  · obtain ⟨_, _, rfl, _⟩ := h
    rfl
  · obtain ⟨w', h', rfl, hw, hh, k⟩ := h
    have nd := sc_rising.nd
    refine ⟨_, pss_cons (ps_set (i := 2) nd rfl (Or.inl rfl) (pe_lst pa_nil))
      (pss_cons (ps_for PassesOwn.never rfl (pi_range1 rfl B.range (pa_cons (pv 0) pa_nil)) (pg_name (i := 3) nd rfl (Or.inl rfl))
        (pss_one (ps_for PassesOwn.never rfl (pi_range1 rfl B.range (pa_cons (pv 1) pa_nil)) (pg_name (i := 4) nd rfl (Or.inl rfl))
          (pss_one (ps_expr (pe_bm PySem.F.plainAttrs_list PySem.F.slot_list_append PySem.F.type_list_append mt_append (pv 2) (pa_cons (pe_tup (pa_cons (pv 3) (pa_cons (pv 4) pa_nil))) pa_nil)))))))
      (pss_one (ps_ret (pv 2)))), ?_⟩
    refine ⟨Nat.zero_le _, fun l hl => ?_⟩
    refine ⟨_, rfl, w', rfl, by (clear B hr hw hh k nd hl; omega), by (clear k nd hl B hr hh; omega), for_range (n := (w' : Int).toNat) (fun i σ H2 => ∃ (xs : List V) (a b : Option V), σ = [some (.int w'), some (.int h'), some (.ref l), a, b] ∧ Same H H2 ∧ H2 l = some (.lst xs) ∧ VDs H2 ((cells i h').map eCel.enc) xs)
      ⟨[], none, none, rfl, same_of_upd hl, upd_same, rfl⟩ ?_ ?_⟩
    · rintro i σ H2 hi ⟨xs, a, b, rfl, s2, h2, d2⟩
      have hiw : i < w' := by (clear s2 h2 d2 B hr hw hh k nd hl; omega)
      refine ⟨_, rfl, h', rfl, by (clear B hr hw hh k nd hl hi s2 h2 d2 hiw; omega), by (clear s2 h2 d2 hiw k nd hl hi B hr hw; omega), for_range (n := (h' : Int).toNat) (fun j σ H3 => ∃ (ys : List V) (b : Option V), σ = [some (.int w'), some (.int h'), some (.ref l), some (.int (0 + (i : Int))), b] ∧ Same H H3 ∧ H3 l = some (.lst ys) ∧ VDs H3 ((cells i h' ++ col j i).map eCel.enc) ys)
        ⟨xs, b, rfl, s2, h2, by simpa [col] using d2⟩ ?_ ?_⟩
      · rintro j σ H3 hj ⟨ys, b, rfl, s3, h3, d3⟩
        have hl3 := map_cel_len d3
        have hjh : j < h' := by (clear B hr hw hh k nd hl hi hl3 s2 h2 d2 hiw h3 d3 s3; omega)
        have hc := cells_len i h'
        have hc2 : i * h' ≤ 16 * 16 := Nat.mul_le_mul (by (clear s2 h2 d2 hiw hj s3 h3 d3 hl3 hjh hc B hr k nd hh hl; omega)) hh
        rw [List.length_append, hc, col_len] at hl3
        refine ⟨_, rfl, .inl ⟨rfl, _, SqL.of h3⟩, _, rfl, _, rfl, by show 2 ≤ sizeLine; decide, fun p hp => ?_⟩
        have hlp : l ≠ p := ne_of_none h3 hp
        refine ⟨l, ys, _, rfl, rfl, by rw [upd_ne hlp]; exact h3, sz_small (by (clear s2 h2 d2 hiw hj s3 h3 d3 k nd hl hi hp hlp B hr hw hc; omega)), ?_⟩
        obtain ⟨q1, q2⟩ := app_cel (c := ((0 + (i : Int)), (0 + (j : Int)))) h3 hp d3
        refine ⟨_, _, rfl, ?_, q1, ?_⟩
        · exact (s3.new (s3.free hp)).new hl
        · have e : ((i : Int), (j : Int)) = ((0 + (i : Int)), (0 + (j : Int))) := by simp
          rw [col_succ, ← List.append_assoc, e]
          exact q2
      · rintro σ H3 ⟨ys, b, rfl, s3, h3, d3⟩
        refine ⟨ys, _, _, rfl, s3, h3, ?_⟩
        rw [cells_succ]
        simpa using d3
    · rintro σ H2 ⟨xs, a, b, rfl, s2, h2, d2⟩
      refine ⟨_, rfl, k l xs H2 hl s2 h2 ?_⟩
      simpa using d2
def ck (c : Cel) : List Key := [.inl c.1, .inl c.2]
theorem ck_inj {a b : Cel} (h : ck a = ck b) : a = b := by
  obtain ⟨a1, a2⟩ := a
  obtain ⟨b1, b2⟩ := b
  simp only [ck, List.cons.injEq, Sum.inl.injEq, and_true] at h
  rw [h.1, h.2]
def marks (cs G : List Cel) : List (List Key × V) := cs.map fun c => (ck c, V.bl (decide (c ∈ G)))
theorem marks_val {cs G : List Cel} {c : Cel} : valV (marks cs G) (ck c) = if c ∈ cs then some (V.bl (decide (c ∈ G))) else none := by
  induction cs with
  | nil => rfl
  | cons d cs ih =>
    by_cases e : d = c
    · subst e
      rw [if_pos List.mem_cons_self]
      exact valV_pos (p := (ck d, _)) rfl
    · have : valV (marks (d :: cs) G) (ck c) = valV (marks cs G) (ck c) := valV_neg (p := (ck d, _)) fun z => e (ck_inj z)
      rw [this, ih]
      by_cases h : c ∈ cs
      · rw [if_pos h, if_pos (List.mem_cons_of_mem _ h)]
      · rw [if_neg h, if_neg (fun z => (List.mem_cons.mp z).elim (fun q => e q.symm) h)]
theorem marks_put {cs G : List Cel} {c : Cel} (hc : c ∈ cs) : putK (marks cs G) (ck c) (.bl true) = marks cs (G ++ [c]) := by
  unfold putK
  rw [if_pos]
  · unfold marks
    rw [List.map_map]
    refine List.map_congr_left fun d _ => ?_
    show (if ck d = ck c then (ck d, V.bl true) else (ck d, V.bl (decide (d ∈ G)))) = (ck d, V.bl (decide (d ∈ G ++ [c])))
    by_cases e : d = c
    · subst e
      rw [if_pos rfl]
      simp
    · rw [if_neg fun z => e (ck_inj z)]
      simp [e]
  · rw [valV_any, marks_val, if_pos hc]
    rfl
theorem marks_new {cs : List Cel} {c : Cel} (hc : ¬ c ∈ cs) : putK (marks cs []) (ck c) (.bl false) = marks (cs ++ [c]) [] := by
  rw [putK_new]
  · unfold marks
    rw [List.map_append]
    rfl
  · rw [marks_val, if_neg hc]
def spMarks (K : PySem.W.Frag) : Sp := fun vs H Q _ => ∃ (a b : Addr) (xs ys : List V) (cs G : List Cel), vs = [.ref a, .ref b] ∧ SqL K H a xs ∧ SqL K H b ys ∧ VDs H (cs.map eCel.enc) xs ∧ VDs H (G.map eCel.enc) ys ∧ cs.Nodup ∧ cs.length ≤ 300 ∧ G.Nodup ∧ (∀ c ∈ G, c ∈ cs) ∧
  ∀ (d : Addr) (H' : Hp), H d = none → Same H H' → H' d = some (.dT (marks cs G)) → Q (.ref d) H'
theorem sc_gap_marks : FnScope ["cells", "gaps", "marks", "cell", "gap"] ["cells", "gaps"] (defScope s_gap_marks) := ⟨rfl, rfl, rfl, by decide +kernel, rfl, by decide +kernel, by decide +kernel⟩
theorem take_succ {cs : List Cel} {i : Nat} {c : Cel} (h : cs[i]? = some c) : cs.take (i + 1) = cs.take i ++ [c] := by
  rw [List.take_add_one, h]
  rfl
theorem take_not {cs : List Cel} {i : Nat} {c : Cel} (hn : cs.Nodup) (h : cs[i]? = some c) : ¬ c ∈ cs.take i := by
  intro hm
  obtain ⟨j, hj, e⟩ := List.mem_take_iff_getElem.mp hm
  obtain ⟨hi, e2⟩ := List.getElem?_eq_some_iff.mp h
  have := (List.getElem_inj hn).mp (e.trans e2.symm)
  (clear hn h hm e e2; omega)
theorem ok_gap_marks (D : Df K mg "gap_marks" s_gap_marks ["cells", "gaps"]) : FnOk P w K mg base CX0 1 D.f D.fd ["cells", "gaps"] (spMarks K) := by
  refine D.F.ok sc_gap_marks (fun vs H Q E h => ?_) (fun cdv A outer s H vs Q E hr h => ?_)
  · obtain ⟨_, _, _, _, _, _, rfl, _⟩ := h
    rfl
  · obtain ⟨a, b, xs, ys, cs, G, rfl, ha, hb, dx, dy, ncs, lcs, nG, sub, k⟩ := h
    have nd := sc_gap_marks.nd
    have hu := hu_of hr
    refine ⟨_, pss_cons (ps_set (i := 2) nd rfl (Or.inl rfl) pe_dnewT)
      (pss_cons (ps_for PassesOwn.never rfl (pi_list (pv 0)) (pg_name (i := 3) nd rfl (Or.inl rfl)) (pss_one (ps_dput hu (pv 2) (pv 3) pe_bl rfl)))
      (pss_cons (ps_for PassesOwn.never rfl (pi_list (pv 1)) (pg_name (i := 4) nd rfl (Or.inl rfl))
        (pss_cons (ps_if (pt_cmp (pc_dnotin hu (pv 4) (pv 2))) pss_never pss_nil)
        (pss_cons (ps_if (pt_val (pe_dget hu (pv 2) (pv 4) (fun _ _ => rfl))) pss_never pss_nil)
        (pss_one (ps_dput hu (pv 2) (pv 4) pe_bl rfl)))))
      (pss_one (ps_ret (pv 2))))), ?_⟩
    intro d hdn
    have lx := map_cel_len dx
    have ly := map_cel_len dy
    refine ⟨_, rfl, a, rfl, ⟨_, (same_of_upd hdn).seq ha⟩, for_list (K := K) (a := a) (xs := xs) (fun i σ H2 => ∃ (c : Option V), σ = [some (.ref a), some (.ref b), some (.ref d), c, none] ∧ Same H H2 ∧ H2 d = some (.dT (marks (cs.take i) [])))
      ⟨none, rfl, same_of_upd hdn, by rw [List.take_zero]; exact upd_same⟩ (fun i σ H2 _ ⟨_, _, s2, _⟩ => s2.seq ha) ?_ ?_⟩
    · rintro i v σ H2 hi ⟨c0, rfl, s2, h2⟩
      obtain ⟨c, hc, vc⟩ := dx.item hi
      obtain ⟨p, rfl, hp⟩ := vd_cel.mp (VD.keep s2.tk _ _ vc)
      refine ⟨_, rfl, _, rfl, d, _, rfl, DPut.t (k := ck c) h2 hp (by have := sc_gap_marks; rw [marks, List.length_map, List.length_take]; exact sz_small (by (clear sub k nd hu hdn lx ly s2 h2 hc hp hi vc this hr ha hb dx dy ncs nG; omega))), ?_⟩
      refine ⟨_, rfl, s2.new hdn, ?_⟩
      rw [upd_same, marks_new (take_not ncs hc), take_succ hc]
    · rintro σ H2 ⟨c0, rfl, s2, h2⟩
      rw [lx, List.take_length] at h2
      refine ⟨_, rfl, b, rfl, ⟨_, s2.seq hb⟩, for_list (K := K) (a := b) (xs := ys) (fun i σ H3 => ∃ (c : Option V), σ = [some (.ref a), some (.ref b), some (.ref d), c0, c] ∧ Same H H3 ∧ H3 d = some (.dT (marks cs (G.take i))))
        ⟨none, rfl, s2, h2⟩ (fun i σ H3 _ ⟨_, _, s3, _⟩ => s3.seq hb) ?_ ?_⟩
      · rintro i v σ H3 hi ⟨g0, rfl, s3, h3⟩
        obtain ⟨c, hc, vc⟩ := dy.item hi
        obtain ⟨p, rfl, hp⟩ := vd_cel.mp (VD.keep s3.tk _ _ vc)
        have hm : c ∈ cs := sub c (List.mem_of_getElem? hc)
        have hv : valV (marks cs (G.take i)) (ck c) = some (.bl false) := by
          rw [marks_val, if_pos hm, decide_eq_false (take_not nG hc)]
        have g1 : DGet H3 d (.ref p) (valV (marks cs (G.take i)) (ck c)) := DGet.t h3 hp
        rw [hv] at g1
        refine ⟨_, rfl, _, rfl, d, _, rfl, g1, _, rfl, iteF ?_⟩
        refine ⟨_, rfl, _, rfl, d, _, rfl, g1, _, rfl, iteF ?_⟩
        refine ⟨_, rfl, _, rfl, d, _, rfl, DPut.t (k := ck c) h3 hp (by rw [marks, List.length_map]; exact sz_small (by (clear sub k nd hu hdn lx ly s2 h2 s3 h3 hc hp hi vc hm hv g1 hr ha hb dx dy ncs nG; omega))), ?_⟩
        refine ⟨_, rfl, s3.new hdn, ?_⟩
        rw [upd_same, marks_put hm, take_succ hc]
      · rintro σ H3 ⟨g0, rfl, s3, h3⟩
        rw [ly, List.take_length] at h3
        exact ⟨_, rfl, k d H3 hdn s3 h3⟩
def bFlds (w h : Int) (g f : Addr) : List (Str × V) := putF "free_cells" (.ref f) (putF "gap_cells" (.ref g) (putF "cells_down" (.int h) (putF "cells_across" (.int w) [])))
theorem n1 : ¬ (("cells_across" : Str) = "cells_down") := by decide +kernel
theorem n2 : ¬ (("cells_across" : Str) = "gap_cells") := by decide +kernel
theorem n3 : ¬ (("cells_across" : Str) = "free_cells") := by decide +kernel
theorem n4 : ¬ (("cells_down" : Str) = "gap_cells") := by decide +kernel
theorem n5 : ¬ (("cells_down" : Str) = "free_cells") := by decide +kernel
theorem n6 : ¬ (("gap_cells" : Str) = "free_cells") := by decide +kernel
theorem bf_w (w h : Int) (g f : Addr) : (bFlds w h g f).lookup ("cells_across" : Str) = some (.int w) := by
  unfold bFlds
  rw [lookup_putF, if_neg n3, lookup_putF, if_neg n2, lookup_putF, if_neg n1, lookup_putF, if_pos rfl]
theorem bf_h (w h : Int) (g f : Addr) : (bFlds w h g f).lookup ("cells_down" : Str) = some (.int h) := by
  unfold bFlds
  rw [lookup_putF, if_neg n5, lookup_putF, if_neg n4, lookup_putF, if_pos rfl]
theorem bf_g (w h : Int) (g f : Addr) : (bFlds w h g f).lookup ("gap_cells" : Str) = some (.ref g) := by
  unfold bFlds
  rw [lookup_putF, if_neg n6, lookup_putF, if_pos rfl]
theorem bf_no (w h : Int) (g f : Addr) {m : Str} (h1 : ¬ m = "cells_across") (h2 : ¬ m = "cells_down") (h3 : ¬ m = "gap_cells") (h4 : ¬ m = "free_cells") : (bFlds w h g f).lookup m = none := by
  unfold bFlds
  rw [lookup_putF, if_neg h4, lookup_putF, if_neg h3, lookup_putF, if_neg h2, lookup_putF, if_neg h1]
  rfl
def gapsOf (w h : Nat) (G : List Cel) : List Cel := (cells w h).filter fun c => decide (c ∈ G)
def freeOf (w h : Nat) (G : List Cel) : List Cel := (cells w h).filter fun c => !decide (c ∈ G)
def BoardIn (C : Addr) (H : Hp) (p : Addr) (w h : Nat) (G : List Cel) (g f : Addr) : Prop := ∃ dx xs ys, H p = some (.ins C dx (bFlds w h g f)) ∧ H g = some (.lst xs) ∧ H f = some (.lst ys) ∧ VDs H ((gapsOf w h G).map eCel.enc) xs ∧ VDs H ((freeOf w h G).map eCel.enc) ys
def BoardAt (C : Addr) (H : Hp) (p : Addr) (w h : Nat) (G : List Cel) : Prop := ∃ dx g f xs ys, H p = some (.ins C dx (bFlds w h g f)) ∧ H g = some (.lst xs) ∧ H f = some (.lst ys) ∧ VDs H ((gapsOf w h G).map eCel.enc) xs ∧ VDs H ((freeOf w h G).map eCel.enc) ys
theorem BoardIn.bat {C : Addr} {H : Hp} {p : Addr} {w h : Nat} {G : List Cel} {g f : Addr} (b : BoardIn C H p w h G g f) : BoardAt C H p w h G := by
  obtain ⟨dx, xs, ys, r⟩ := b
  exact ⟨dx, g, f, xs, ys, r⟩
theorem BoardAt.same {C : Addr} {H H' : Hp} {p : Addr} {w h : Nat} {G : List Cel} (b : BoardAt C H p w h G) (s : Same H H') : BoardAt C H' p w h G := by
  obtain ⟨dx, g, f, xs, ys, h1, h2, h3, h4, h5⟩ := b
  exact ⟨dx, g, f, xs, ys, s _ _ h1, s _ _ h2, s _ _ h3, VDs.keep s.tk _ _ h4, VDs.keep s.tk _ _ h5⟩
structure Bd (K : PySem.W.Frag) (mg : Str → Option Value) (C : Addr) : Prop where
  cl : Cls K C
  a1 : NoAttr K C "cells_across"
  a2 : NoAttr K C "cells_down"
  a3 : NoAttr K C "gap_cells"
  a4 : NoAttr K C "free_cells"
  mgC : mg "Board" = some (.ref C)
structure Mt (K : PySem.W.Frag) (C : Addr) (m q : Str) (st : Stmt) (ps : List Str) where
  f : Addr
  fd : FuncData
  F : Fun K m q st f fd
  m : Meth K C m f
  b : Binds K fd ps []
theorem cells_le {w h : Nat} (hw : w ≤ 16) (hh : h ≤ 16) : (cells w h).length ≤ 256 := by
  rw [cells_len]
  exact Nat.mul_le_mul hw hh
theorem take_filter_succ {cs : List Cel} {p : Cel → Bool} {i : Nat} {c : Cel} (h : cs[i]? = some c) : (cs.take (i + 1)).filter p = (cs.take i).filter p ++ (if p c = true then [c] else []) := by
  rw [take_succ h, List.filter_append]
  congr 1
  by_cases e : p c = true
  · rw [if_pos e]; simp [e]
  · rw [if_neg e]; simp [e]
def spInit (K : PySem.W.Frag) (C : Addr) : Sp := fun vs H Q _ => ∃ (p dx b : Addr) (w h : Nat) (ys : List V) (G : List Cel), vs = [.ref p, .int w, .int h, .ref b] ∧ H p = some (.ins C dx []) ∧ SqL K H b ys ∧ VDs H (G.map eCel.enc) ys ∧ G.Nodup ∧ (∀ c ∈ G, c ∈ cells w h) ∧ 1 ≤ w ∧ w ≤ 16 ∧ 1 ≤ h ∧ h ≤ 16 ∧
  ∀ (H' : Hp) (g f : Addr), BoardIn C H' p w h G g f → H g = none → H f = none → (∀ b o, H b = some o → b ≠ p → H' b = some o) → Q .non H'
theorem sc_init : FnScope ["self", "width", "height", "gaps", "cells", "marks"] ["self", "width", "height", "gaps"] (defScope s_Board_init) := ⟨rfl, rfl, rfl, by decide +kernel, rfl, by decide +kernel, by decide +kernel⟩
theorem pick_cells {K : PySem.W.Frag} {H1 : Hp} {a d D : Addr} {xs : List V} {cs G : List Cel} {neg : Bool} {σ : L2.St} {Q : VK} {tt : TT} (hz : cs.length ≤ 300) (ha : SqL K H1 a xs) (dx : VDs H1 (cs.map eCel.enc) xs) (hd : H1 d = some (.dT (marks cs G))) (hD : H1 D = none)
    (htt : ∀ (H : Hp) (p : Addr) (c : Cel) (b : Bool) (R : Bool → Hp → Prop), DGet H d (.ref p) (some (.bl b)) → R (if neg then !b else b) H → tt [some (.ref p), some (.ref d)] H R) (hσ : capt [none, some 5] σ = [none, some (.ref d)])
    (k : ∀ (ys : List V) (H' : Hp), Same H1 H' → H' D = some (.lst ys) → VDs H' ((cs.filter fun c => if neg then !decide (c ∈ G) else decide (c ∈ G)).map eCel.enc) ys → Q (.ref D) H') :
    CompW (Itl K a) [none, some 5] (gName 0) tt (tVar 0) σ D H1 Q := by
  have lx := map_cel_len dx
  refine comp_list (K := K) (xs := xs) (fun i ys H => Same H1 H ∧ H D = some (.lst ys) ∧ VDs H (((cs.take i).filter fun c => if neg then !decide (c ∈ G) else decide (c ∈ G)).map eCel.enc) ys)
    ⟨same_of_upd hD, upd_same, rfl⟩ (fun i ys H _ ⟨s, _⟩ => s.seq ha) ?_ ?_
  · rintro i v ys H hi ⟨s, hD', dv⟩
    obtain ⟨c, hc, vc⟩ := dx.item hi
    have vc' := VD.keep s.tk _ _ vc
    obtain ⟨p, rfl, hp⟩ := vd_cel.mp vc'
    have hm : c ∈ cs := List.mem_of_getElem? hc
    have g1 : DGet H d (.ref p) (valV (marks cs G) (ck c)) := DGet.t (s _ _ hd) hp
    rw [marks_val, if_pos hm] at g1
    rw [hσ]
    refine htt H p c (decide (c ∈ G)) _ g1 ?_
    rw [take_filter_succ hc]
    cases hb : (if neg then !decide (c ∈ G) else decide (c ∈ G)) with
    | false =>
      refine iteF ⟨s, hD', ?_⟩
      rw [if_neg (by simp), List.append_nil]
      exact dv
    | true =>
      refine iteT ⟨_, rfl, ys, hD', ?_, ?_⟩
      · have l1 := map_cel_len dv
        have l2 : ((cs.take i).filter fun c => if neg then !decide (c ∈ G) else decide (c ∈ G)).length ≤ (cs.take i).length := List.length_filter_le _ _
        rw [List.length_take] at l2
        exact sz_small (by (clear lx s hD' dv hc hp hi vc hD htt hσ k vc' hm g1 hb dx hd ha; omega))
      · refine ⟨s.new hD, upd_same, ?_⟩
        rw [if_pos rfl, List.map_append]
        have kk : TupK H (upd H D (.lst (ys ++ [.ref p]))) := .lst hD'
        exact (VDs.keep kk _ _ dv).snoc (VD.keep kk _ _ vc')
  · rintro ys H ⟨s, hD', dv⟩
    rw [lx, List.take_length] at dv
    exact k ys H s hD' dv
theorem nd_cm : (["cell", "marks"] : List Str).Nodup := by decide +kernel
theorem ok_init {C : Addr} (D : Mt K C "__init__" "Board.__init__" s_Board_init ["self", "width", "height", "gaps"]) (T : Bd K mg C) (D1 : Df K mg "is_side" s_is_side ["number"]) {t1 t2 : Tok} (c1 : mg "SMALLEST_SIDE" = some (.int 1 t1)) (c2 : mg "LARGEST_SIDE" = some (.int 16 t2))
    (D2 : Df K mg "rising_cells" s_rising_cells ["width", "height"]) (B : Bl mg) (D3 : Df K mg "gap_marks" s_gap_marks ["cells", "gaps"]) : FnOk P w K mg base CX0 3 D.f D.fd ["self", "width", "height", "gaps"] (spInit K C) := by
  have G1 : FnOk P w K mg base CX0 1 D1.f D1.fd ["number"] spSide := ok_is_side D1 c1 c2
  have G2 : FnOk P w K mg base CX0 1 D2.f D2.fd ["width", "height"] spRising := ok_rising D2 B
  have G3 : FnOk P w K mg base CX0 1 D3.f D3.fd ["cells", "gaps"] (spMarks K) := ok_gap_marks D3
  refine D.F.ok sc_init (fun vs H Q E h => ?_) (fun cdv A outer s H vs Q E hr h => ?_)
  · obtain ⟨_, _, _, _, _, _, _, rfl, _⟩ := h
    rfl
  · obtain ⟨p, dx, b, w', h', ys, G, rfl, hp, hb, dy, nG, sub, w1, w2, h1, h2, k⟩ := h
    have nd := sc_init.nd
    have hu := hu_of hr
    have hr1 : Room 1 _ := hr.mono (by decide)
    refine ⟨_, pss_cons (ps_if (PW.pt (pw_or (pt_not (pt_val (pe_call G1 hr1 rfl D1.mgf D1.F.kp D1.b .nil pass0 (pa_cons (pv 1) pa_nil)))) (pw_or1 (pt_not (pt_val (pe_call G1 hr1 rfl D1.mgf D1.F.kp D1.b .nil pass0 (pa_cons (pv 2) pa_nil))))))) pss_never pss_nil)
      (pss_cons (ps_set (i := 4) nd rfl (Or.inl rfl) (pe_call G2 hr1 rfl D2.mgf D2.F.kp D2.b .nil pass0 (pa_cons (pv 1) (pa_cons (pv 2) pa_nil))))
      (pss_cons (ps_set (i := 5) nd rfl (Or.inr rfl) (pe_call G3 hr1 rfl D3.mgf D3.F.kp D3.b .nil pass0 (pa_cons (pv 4) (pa_cons (pv 3) pa_nil))))
      (pss_cons (ps_fld (pv 0) (pv 1) rfl)
      (pss_cons (ps_fld (pv 0) (pv 2) rfl)
      (pss_cons (ps_fld (pv 0) (pe_comp (N := ["cell", "marks"]) (caps := [none, some 5]) (CompScope.of rfl) rfl (pi_list (pv 4)) (gkeeps_name rfl) (fun d => pg_name (i := 0) nd_cm rfl (Or.inl rfl)) (fun d => pts_one (pt_val (pe_dget hu (pv 1) (pv 0) (fun _ _ => rfl)))) (fun d => pv 0)) rfl)
      (pss_one (ps_fld (pv 0) (pe_comp (N := ["cell", "marks"]) (caps := [none, some 5]) (CompScope.of rfl) rfl (pi_list (pv 4)) (gkeeps_name rfl) (fun d => pg_name (i := 0) nd_cm rfl (Or.inl rfl)) (fun d => pts_one (pt_not (pt_val (pe_dget hu (pv 1) (pv 0) (fun _ _ => rfl))))) (fun d => pv 0)) rfl))))))), ?_⟩
    -- the sides are in their bounds
    have e1 : decide (1 ≤ (w' : Int) ∧ (w' : Int) ≤ 16) = true := decide_eq_true ⟨by (clear T c1 c2 B G1 G2 G3 hr h2 k nd hu hr1 hp hb dy nG w2 h1 sub; omega), by (clear T c1 c2 B G1 G2 G3 hr h2 k nd hu hr1 hp hb dy nG sub w1 h1; omega)⟩
    have e2 : decide (1 ≤ (h' : Int) ∧ (h' : Int) ≤ 16) = true := decide_eq_true ⟨by (clear T c1 c2 B G1 G2 G3 hr h2 k nd hu hr1 e1 hp hb dy nG sub w1 w2; omega), by (clear T c1 c2 B G1 G2 G3 hr hp hb dy nG sub w1 w2 h1 hr1 e1 nd hu k; omega)⟩
    refine ⟨_, rfl, _, rfl, true, by rw [e1], iteF ⟨_, rfl, _, rfl, true, by rw [e2], iteF ?_⟩⟩
    -- cells = rising_cells(width, height); marks = gap_marks(cells, gaps)
    refine ⟨_, rfl, _, rfl, w', h', rfl, w2, h2, fun l xs H1 hl s1 h1l d1 => ?_⟩
    have cl := cells_le w2 h2
    refine ⟨_, rfl, _, rfl, l, b, xs, ys, cells w' h', G, rfl, SqL.of h1l, s1.seq hb, d1, VDs.keep s1.tk _ _ dy, rise_nodup (cells_rise _ _), by (clear T c1 c2 B G1 G2 G3 hr hp hb dy nG sub w1 w2 h1 h2 k nd hu hr1 e1 e2 hl s1 h1l d1; omega), nG, sub, fun d H2 hd s2 h2d => ?_⟩
    have p2 : H2 p = some (.ins C dx []) := s2 _ _ (s1 _ _ hp)
    have l2 : H2 l = some (.lst xs) := s2 _ _ h1l
    have d2 : VDs H2 ((cells w' h').map eCel.enc) xs := VDs.keep s2.tk _ _ d1
    have np_l : l ≠ p := ne_of l2 p2 (by intro z; cases z)
    have np_d : d ≠ p := ne_of h2d p2 (by intro z; cases z)
    -- self.cells_across = width; self.cells_down = height
    refine ⟨_, rfl, _, rfl, p, C, dx, [], rfl, p2, T.cl, T.a1, (by show 0 < 1000; decide), ?_⟩
    refine ⟨_, rfl, _, rfl, p, C, dx, _, rfl, upd_same, T.cl, T.a2, (by show 1 < 1000; decide), ?_⟩
    rw [upd_upd]
    have tk4 : TupK H2 (upd H2 p (.ins C dx (putF "cells_down" (.int h') (putF "cells_across" (.int w') [])))) := .upd fun xs e => by rw [p2] at e; cases e
    generalize h4 : upd H2 p (.ins C dx (putF "cells_down" (.int h') (putF "cells_across" (.int w') []))) = H4 at tk4
    have p4 : H4 p = some (.ins C dx (putF "cells_down" (.int h') (putF "cells_across" (.int w') []))) := by rw [← h4, upd_same]
    have l4 : H4 l = some (.lst xs) := by rw [← h4, upd_ne np_l]; exact l2
    have m4 : H4 d = some (.dT (marks (cells w' h') G)) := by rw [← h4, upd_ne np_d]; exact h2d
    -- self.gap_cells = [..]
    refine ⟨_, rfl, l, rfl, ⟨_, SqL.of l4⟩, fun D5 hD5 => ?_⟩
    refine pick_cells (neg := false) (tt := tB (tDGet (tVar 1) (tVar 0))) (σ := [some (.ref p), some (.int w'), some (.int h'), some (.ref b), some (.ref l), some (.ref d)]) (by (clear T c1 c2 B G1 G2 G3 hr hp hb dy nG sub w1 w2 h1 h2 k nd hu hr1 e1 e2 hl l2 d2 np_l np_d h4 tk4 p4 l4 m4 hD5 hd s2 h2d p2 s1 h1l d1; omega)) (SqL.of l4) (VDs.keep tk4 _ _ d2) m4 hD5 (fun H p c b R g r => ⟨_, rfl, _, rfl, d, _, rfl, g, _, rfl, r⟩) rfl fun gs H5 s5 h5 dg => ?_
    refine ⟨_, rfl, p, C, dx, _, rfl, s5 _ _ p4, T.cl, T.a3, ?_, ?_⟩
    · have q1 := length_putF ("cells_down" : Str) (.int h') (putF "cells_across" (.int w') [])
      have q2 := length_putF ("cells_across" : Str) (.int w') []
      simp only [List.length_nil] at q2
      (clear T c1 c2 B G1 G2 G3 hr hp hb dy nG sub w1 w2 h1 h2 k nd hu hr1 e1 e2 hl s1 h1l d1 cl hd s2 h2d p2 l2 d2 np_l np_d h4 tk4 p4 l4 m4 hD5 s5 h5 dg; omega)
    have p5 : H5 p = some (.ins C dx (putF "cells_down" (.int h') (putF "cells_across" (.int w') []))) := s5 _ _ p4
    have tk6 : TupK H5 (upd H5 p (.ins C dx (putF "gap_cells" (.ref D5) (putF "cells_down" (.int h') (putF "cells_across" (.int w') []))))) := .upd fun xs e => by rw [p5] at e; cases e
    have np_D5 : D5 ≠ p := ne_of h5 p5 (by intro z; cases z)
    generalize h6 : upd H5 p (.ins C dx (putF "gap_cells" (.ref D5) (putF "cells_down" (.int h') (putF "cells_across" (.int w') [])))) = H6 at tk6
    have p6 : H6 p = some (.ins C dx (putF "gap_cells" (.ref D5) (putF "cells_down" (.int h') (putF "cells_across" (.int w') [])))) := by rw [← h6, upd_same]
    have l6 : H6 l = some (.lst xs) := by rw [← h6, upd_ne np_l]; exact s5 _ _ l4
    have m6 : H6 d = some (.dT (marks (cells w' h') G)) := by rw [← h6, upd_ne np_d]; exact s5 _ _ m4
    have g6 : H6 D5 = some (.lst gs) := by rw [← h6, upd_ne np_D5]; exact h5
    -- self.free_cells = [..]
    refine ⟨_, rfl, l, rfl, ⟨_, SqL.of l6⟩, fun D7 hD7 => ?_⟩
    refine pick_cells (neg := true) (tt := tNot (tB (tDGet (tVar 1) (tVar 0)))) (σ := [some (.ref p), some (.int w'), some (.int h'), some (.ref b), some (.ref l), some (.ref d)]) (by (clear T c1 c2 B G1 G2 G3 hr hp hb dy nG sub w1 w2 h1 h2 k nd hu hr1 e1 e2 hl l2 d2 np_l np_d h4 tk4 p4 l4 m4 hD5 s5 h5 dg p5 np_D5 h6 tk6 p6 l6 m6 g6 hD7 hd s2 h2d p2 s1 h1l d1; omega)) (SqL.of l6) (VDs.keep tk6 _ _ (VDs.keep s5.tk _ _ (VDs.keep tk4 _ _ d2))) m6 hD7 (fun H p c b R g r => ⟨_, rfl, _, rfl, d, _, rfl, g, _, rfl, r⟩) rfl fun fs H7 s7 h7 df => ?_
    refine ⟨_, rfl, p, C, dx, _, rfl, s7 _ _ p6, T.cl, T.a4, ?_, ?_⟩
    · have q1 := length_putF ("cells_down" : Str) (.int h') (putF "cells_across" (.int w') [])
      have q2 := length_putF ("cells_across" : Str) (.int w') []
      have q3 := length_putF ("gap_cells" : Str) (.ref D5) (putF "cells_down" (.int h') (putF "cells_across" (.int w') []))
      simp only [List.length_nil] at q2
      (clear T c1 c2 B G1 G2 G3 hr hp hb dy nG sub w1 w2 h1 h2 k nd hu hr1 e1 e2 hl s1 h1l d1 cl hd s2 h2d p2 l2 d2 np_l np_d h4 tk4 p4 l4 m4 hD5 s5 h5 dg p5 np_D5 h6 tk6 p6 l6 m6 g6 hD7 s7 h7 df; omega)
    have p7 : H7 p = some (.ins C dx (putF "gap_cells" (.ref D5) (putF "cells_down" (.int h') (putF "cells_across" (.int w') [])))) := s7 _ _ p6
    have np_D7 : D7 ≠ p := ne_of h7 p7 (by intro z; cases z)
    have tk8 : TupK H7 (upd H7 p (.ins C dx (bFlds w' h' D5 D7))) := .upd fun xs e => by rw [p7] at e; cases e
    have f5 : H D5 = none := (s1.trans s2).free (by rw [← h4, upd_ne np_D5] at hD5; exact hD5)
    have f7 : H D7 = none := by
      rw [← h6, upd_ne np_D7] at hD7
      have := s5.free hD7
      rw [← h4, upd_ne np_D7] at this
      exact (s1.trans s2).free this
    refine k _ D5 D7 ⟨dx, gs, fs, upd_same, ?_, ?_, ?_, ?_⟩ f5 f7 fun c o e hc => ?_
    · rw [upd_ne np_D5]; exact s7 _ _ g6
    · rw [upd_ne np_D7]; exact h7
    · exact VDs.keep tk8 _ _ (VDs.keep s7.tk _ _ (VDs.keep tk6 _ _ dg))
    · exact VDs.keep tk8 _ _ df
    · rw [upd_ne hc]
      refine s7 _ _ ?_
      rw [← h6, upd_ne hc]
      refine s5 _ _ ?_
      rw [← h4, upd_ne hc]
      exact s2 _ _ (s1 _ _ e)
def spSideOf (C : Addr) (f : Nat → Nat → Int) : Sp := fun vs H Q _ => ∃ (p : Addr) (w h : Nat) (G : List Cel), vs = [.ref p] ∧ BoardAt C H p w h G ∧ Q (.int (f w h)) H
def spCells (C : Addr) (f : Nat → Nat → List Cel → List Cel) : Sp := fun vs H Q _ => ∃ (p : Addr) (w h : Nat) (G : List Cel), vs = [.ref p] ∧ BoardAt C H p w h G ∧ ∀ (l : Addr) (xs : List V) (H' : Hp), H l = none → Same H H' → H' l = some (.lst xs) → VDs H' ((f w h G).map eCel.enc) xs → Q (.ref l) H'
theorem sc_width : FnScope ["self"] ["self"] (defScope s_Board_width) := ⟨rfl, rfl, rfl, by decide +kernel, rfl, by decide +kernel, by decide +kernel⟩
theorem ok_width {C : Addr} (D : Mt K C "width" "Board.width" s_Board_width ["self"]) (T : Bd K mg C) : FnOk P w K mg base CX0 1 D.f D.fd ["self"] (spSideOf C fun w _ => w) := by
  refine D.F.ok sc_width (fun vs H Q E h => ?_) (fun cdv A outer s H vs Q E hr h => ?_)
  · obtain ⟨_, _, _, _, rfl, _⟩ := h
    rfl
  · obtain ⟨p, w', h', G, rfl, ⟨dx, g, f, xs, ys, h1, _⟩, k⟩ := h
    exact ⟨_, pss_one (ps_ret (pe_fld (pv 0) rfl)), _, rfl, p, C, dx, _, _, rfl, h1, T.cl, T.a1, bf_w _ _ _ _, k⟩
theorem sc_height : FnScope ["self"] ["self"] (defScope s_Board_height) := ⟨rfl, rfl, rfl, by decide +kernel, rfl, by decide +kernel, by decide +kernel⟩
theorem ok_height {C : Addr} (D : Mt K C "height" "Board.height" s_Board_height ["self"]) (T : Bd K mg C) : FnOk P w K mg base CX0 1 D.f D.fd ["self"] (spSideOf C fun _ h => h) := by
  refine D.F.ok sc_height (fun vs H Q E h => ?_) (fun cdv A outer s H vs Q E hr h => ?_)
  · obtain ⟨_, _, _, _, rfl, _⟩ := h
    rfl
  · obtain ⟨p, w', h', G, rfl, ⟨dx, g, f, xs, ys, h1, _⟩, k⟩ := h
    exact ⟨_, pss_one (ps_ret (pe_fld (pv 0) rfl)), _, rfl, p, C, dx, _, _, rfl, h1, T.cl, T.a2, bf_h _ _ _ _, k⟩
theorem sc_gaps : FnScope ["self"] ["self"] (defScope s_Board_gaps) := ⟨rfl, rfl, rfl, by decide +kernel, rfl, by decide +kernel, by decide +kernel⟩
theorem ok_gaps {C : Addr} (D : Mt K C "gaps" "Board.gaps" s_Board_gaps ["self"]) (T : Bd K mg C) (B : Bl mg) : FnOk P w K mg base CX0 1 D.f D.fd ["self"] (spCells C gapsOf) := by
  refine D.F.ok sc_gaps (fun vs H Q E h => ?_) (fun cdv A outer s H vs Q E hr h => ?_)
  · obtain ⟨_, _, _, _, rfl, _⟩ := h
    rfl
  · obtain ⟨p, w', h', G, rfl, ⟨dx, g, f, xs, ys, h1, h2, h3, h4, h5⟩, k⟩ := h
    refine ⟨_, pss_one (ps_ret (pe_callTy call_list_of rfl B.list PyProof.Rows.boot_list (pa_cons (pe_fld (pv 0) rfl) pa_nil))), _, rfl, p, C, dx, _, _, rfl, h1, T.cl, T.a3, bf_g _ _ _ _, g, xs, rfl, .inl (SqL.of h2), fun l hl => ?_⟩
    exact k l xs _ hl (same_of_upd hl) upd_same (VDs.keep (TupK.new hl) _ _ h4)
structure Bi (mg : Str → Option Value) : Prop where
  b : Bl mg
  isi : mg "isinstance" = none
  int : mg "int" = none
  bool : mg "bool" = none
  tuple : mg "tuple" = none
  min : mg "min" = none
  sorted : mg "sorted" = none
def cat (ns : List Int) (k : Int) : Int := ns.getD k.toNat 0
def spCellAt (K : PySem.W.Frag) : Sp := fun vs H Q _ => ∃ (a : Addr) (ns : List Int) (k : Int), vs = [.ref a, .int k] ∧ SqL K H a (ns.map V.int) ∧ 0 ≤ k ∧ Q (.int (cat ns k)) H
theorem sc_cell_at : FnScope ["script", "k"] ["script", "k"] (defScope s_law_cell_at) := ⟨rfl, rfl, rfl, by decide +kernel, rfl, by decide +kernel, by decide +kernel⟩
theorem ok_cell_at (D : Df K mg "_law_cell_at" s_law_cell_at ["script", "k"]) (B : Bl mg) : FnOk P w K mg base CX0 1 D.f D.fd ["script", "k"] (spCellAt K) := by
  refine D.F.ok sc_cell_at (fun vs H Q E h => ?_) (fun cdv A outer s H vs Q E hr h => ?_)
  · obtain ⟨_, _, _, rfl, _⟩ := h
    rfl
  · obtain ⟨a, ns, k, rfl, ha, hk, q⟩ := h
    refine ⟨_, pss_cons (ps_if (pt_cmpR op_lt (pv 1) (pe_callB call_len_seq (by rfl) B.len PySem.boot_len (pa_cons (pv 0) pa_nil)) (nomark _)) (pss_one (ps_ret (pe_ix ix_list (pv 0) (pv 1) (fun _ _ => rfl)))) pss_nil) (pss_one (ps_ret pe_int)), ?_⟩
    refine ⟨_, rfl, _, rfl, a, _, rfl, .inl ha, _, _, rfl, rfl, _, rfl, ?_⟩
    refine ite2 (fun h1 => ?_) (fun h1 => ?_)
    · have h1' : k < (ns.length : Int) := by simpa using of_decide_eq_true h1
      obtain ⟨j, rfl⟩ : ∃ j : Nat, k = j := ⟨k.toNat, by (clear q h1 h1' B hr ha; omega)⟩
      have hj : j < ns.length := by (clear B hr ha hk q h1; omega)
      refine ⟨_, rfl, _, rfl, a, _, _, .int ns[j], rfl, rfl, ha, atI_nat (by rw [List.getElem?_map, List.getElem?_eq_getElem hj]; rfl), ?_⟩
      have e : cat ns (j : Int) = ns[j] := by simp [cat, hj]
      rw [e] at q
      exact q
    · have h1' : ¬ k < (ns.length : Int) := fun z => h1 (decide_eq_true (by simpa using z))
      have e : cat ns k = 0 := by
        unfold cat
        rw [List.getD_eq_getElem?_getD, List.getElem?_eq_none (by (clear B hr ha hk q h1; omega))]
        rfl
      rw [e] at q
      exact q
theorem room64 {k : Nat} {A : Around} (r : Room k A) : A.units + 64 < cLine := r.units
theorem room100 {k : Nat} {A : Around} (r : Room k A) : A.units + 100 < cLine := by have := r.un; omega
theorem dec_ii {a b : Int} : decide (V.int a = V.int b) = decide (a = b) := by
  by_cases h : a = b
  · subst h; simp
  · rw [decide_eq_false h, decide_eq_false]
    intro z
    injection z with z
    exact h z
def spWhole : Sp := fun vs H Q _ => ∃ n : Int, vs = [.int n] ∧ Q (.bl true) H
theorem sc_whole : FnScope ["found"] ["found"] (defScope s_law_whole) := ⟨rfl, rfl, rfl, by decide +kernel, rfl, by decide +kernel, by decide +kernel⟩
theorem kit_ii (K : PySem.W.Frag) : PySem.W.kitOne K (.type "int") (.type "int") = some true := by kernel_rfl
theorem kit_ib (K : PySem.W.Frag) : PySem.W.kitOne K (.type "int") (.type "bool") = some false := by kernel_rfl
theorem kit_tt (K : PySem.W.Frag) : PySem.W.kitOne K (.type "tuple") (.type "tuple") = some true := by kernel_rfl
theorem kit_ll (K : PySem.W.Frag) : PySem.W.kitOne K (.type "list") (.type "list") = some true := by kernel_rfl
theorem ok_whole (D : Df K mg "_law_whole" s_law_whole ["found"]) (B : Bi mg) : FnOk P w K mg base CX0 1 D.f D.fd ["found"] spWhole := by
  refine D.F.ok sc_whole (fun vs H Q E h => ?_) (fun cdv A outer s H vs Q E hr h => ?_)
  · obtain ⟨_, rfl, _⟩ := h
    rfl
  · obtain ⟨n, rfl, q⟩ := h
    refine ⟨_, pss_one (ps_ret (pe_and (pe_callB call_isi (by rfl) B.isi PyProof.Rows.boot_isinstance (pa_cons (pv 0) (pa_cons (pe_bltn (v := .ty "int") (by rfl) B.int PyProof.Rows.boot_int rfl) pa_nil)))
      (pe_one (pe_not (pe_callB call_isi (by rfl) B.isi PyProof.Rows.boot_isinstance (pa_cons (pv 0) (pa_cons (pe_bltn (v := .ty "bool") (by rfl) B.bool PyProof.Rows.boot_bool rfl) pa_nil))))))), ?_⟩
    refine ⟨_, rfl, _, _, _, _, rfl, .int n, kit_ii K, _, rfl, iteT ?_⟩
    exact ⟨_, rfl, _, _, _, _, rfl, .int n, kit_ib K, _, rfl, q⟩
def spIsCell : Sp := fun vs H Q _ => ∃ (v : V) (c : Cel), vs = [v] ∧ VD H (eCel.enc c) v ∧ Q (.bl true) H
theorem sc_is_cell : FnScope ["cell"] ["cell"] (defScope s_law_is_cell) := ⟨rfl, rfl, rfl, by decide +kernel, rfl, by decide +kernel, by decide +kernel⟩
theorem ok_is_cell (D : Df K mg "_law_is_cell" s_law_is_cell ["cell"]) (D1 : Df K mg "_law_whole" s_law_whole ["found"]) (B : Bi mg) : FnOk P w K mg base CX0 2 D.f D.fd ["cell"] spIsCell := by
  have G1 : FnOk P w K mg base CX0 1 D1.f D1.fd ["found"] spWhole := ok_whole D1 B
  refine D.F.ok sc_is_cell (fun vs H Q E h => ?_) (fun cdv A outer s H vs Q E hr h => ?_)
  · obtain ⟨_, _, rfl, _⟩ := h
    rfl
  · obtain ⟨v, c, rfl, hv, q⟩ := h
    obtain ⟨a, rfl, ha⟩ := vd_cel.mp hv
    refine ⟨_, pss_one (ps_ret (pe_and (pe_callB call_isi (by rfl) B.isi PyProof.Rows.boot_isinstance (pa_cons (pv 0) (pa_cons (pe_bltn (v := .ty "tuple") (by rfl) B.tuple PyProof.Rows.boot_tuple rfl) pa_nil)))
      (pe_and (pe_cmpR op_eq (pe_callB call_len_seq (by rfl) B.b.len PySem.boot_len (pa_cons (pv 0) pa_nil)) pe_int (nomark _))
      (pe_and (pe_call G1 hr rfl D1.mgf D1.F.kp D1.b .nil pass0 (pa_cons (pe_ix ix_tup (pv 0) pe_int (fun _ _ => rfl)) pa_nil))
      (pe_one (pe_call G1 hr rfl D1.mgf D1.F.kp D1.b .nil pass0 (pa_cons (pe_ix ix_tup (pv 0) pe_int (fun _ _ => rfl)) pa_nil))))))), ?_⟩
    refine ⟨_, rfl, _, _, _, _, rfl, .tup ha, kit_tt K, _, rfl, iteT ?_⟩
    refine ⟨_, rfl, a, _, rfl, .inr (SqT.of ha), rfl, true, rfl, iteT ?_⟩
    refine ⟨_, rfl, a, _, _, _, rfl, rfl, SqT.of ha, rfl, _, rfl, true, rfl, iteT ?_⟩
    exact ⟨_, rfl, a, _, _, _, rfl, rfl, SqT.of ha, rfl, _, rfl, q⟩
def thereOf (G : List Cel) : List (List Key × V) := G.map fun c => (ck c, V.bl true)
theorem there_val {G : List Cel} {c : Cel} : valV (thereOf G) (ck c) = if c ∈ G then some (V.bl true) else none := by
  induction G with
  | nil => rfl
  | cons d G ih =>
    by_cases e : d = c
    · subst e
      rw [if_pos List.mem_cons_self]
      exact valV_pos (p := (ck d, _)) rfl
    · have : valV (thereOf (d :: G)) (ck c) = valV (thereOf G) (ck c) := valV_neg (p := (ck d, _)) fun z => e (ck_inj z)
      rw [this, ih]
      by_cases h : c ∈ G
      · rw [if_pos h, if_pos (List.mem_cons_of_mem _ h)]
      · rw [if_neg h, if_neg (fun z => (List.mem_cons.mp z).elim (fun q => e q.symm) h)]
theorem there_put {G : List Cel} {c : Cel} (hc : ¬ c ∈ G) : putK (thereOf G) (ck c) (.bl true) = thereOf (G ++ [c]) := by
  rw [putK_new]
  · unfold thereOf
    rw [List.map_append]
    rfl
  · rw [there_val, if_neg hc]
def spOpen (K : PySem.W.Frag) : Sp := fun vs H Q _ => ∃ (w h : Nat) (b : Addr) (ys : List V) (G : List Cel), vs = [.int w, .int h, .ref b] ∧ w ≤ 16 ∧ h ≤ 16 ∧ 1 ≤ h ∧ SqL K H b ys ∧ VDs H (G.map eCel.enc) ys ∧ G.Nodup ∧ G.length ≤ 300 ∧
  ∀ (l : Addr) (xs : List V) (H' : Hp), H l = none → Same H H' → H' l = some (.lst xs) → VDs H' ((freeOf w h G).map eCel.enc) xs → Q (.ref l) H'
theorem sc_open : FnScope ["width", "height", "gaps", "there", "gap"] ["width", "height", "gaps"] (defScope s_law_open) := ⟨rfl, rfl, rfl, by decide +kernel, rfl, by decide +kernel, by decide +kernel⟩
theorem nd_kht : (["k", "height", "there"] : List Str).Nodup := by decide +kernel
theorem ok_open (D : Df K mg "_law_open" s_law_open ["width", "height", "gaps"]) (B : Bi mg) : FnOk P w K mg base CX0 1 D.f D.fd ["width", "height", "gaps"] (spOpen K) := by
  refine D.F.ok sc_open (fun vs H Q E h => ?_) (fun cdv A outer s H vs Q E hr h => ?_)
  · obtain ⟨_, _, _, _, _, rfl, _⟩ := h
    rfl
  · obtain ⟨w', h', b, ys, G, rfl, hw, hh, hh1, hb, dy, nG, lG, k⟩ := h
    have nd := sc_open.nd
    have hu := hu_of hr
    refine ⟨_, pss_cons (ps_set (i := 3) nd rfl (Or.inr rfl) pe_dnewT)
      (pss_cons (ps_for PassesOwn.never rfl (pi_list (pv 2)) (pg_name (i := 4) nd rfl (Or.inl rfl)) (pss_one (ps_dput hu (pv 3) (pv 4) pe_bl rfl)))
      (pss_one (ps_ret (pe_comp (N := ["k", "height", "there"]) (caps := [none, some 1, some 3]) (CompScope.of rfl) rfl (pi_range1 (by rfl) B.b.range (pa_cons (pe_op op_mul (pv 0) (pv 1)) pa_nil)) (gkeeps_name rfl) (fun d => pg_name (i := 0) nd_kht rfl (Or.inl rfl))
        (fun d => pts_one (pt_cmp (pc_dnotin hu (pe_tup (pa_cons (pe_op op_fdiv (pv 0) (pv 1)) (pa_cons (pe_op op_mod (pv 0) (pv 1)) pa_nil))) (pv 2))))
        (fun d => pe_tup (pa_cons (pe_op op_fdiv (pv 0) (pv 1)) (pa_cons (pe_op op_mod (pv 0) (pv 1)) pa_nil))))))), ?_⟩
    intro d hdn
    have ly := map_cel_len dy
    refine ⟨_, rfl, b, rfl, ⟨_, (same_of_upd hdn).seq hb⟩, for_list (K := K) (a := b) (xs := ys) (fun i σ H2 => ∃ (c : Option V), σ = [some (.int w'), some (.int h'), some (.ref b), some (.ref d), c] ∧ Same H H2 ∧ H2 d = some (.dT (thereOf (G.take i))))
      ⟨none, rfl, same_of_upd hdn, by rw [List.take_zero]; exact upd_same⟩ (fun i σ H2 _ ⟨_, _, s2, _⟩ => s2.seq hb) ?_ ?_⟩
    · rintro i v σ H2 hi ⟨c0, rfl, s2, h2⟩
      obtain ⟨c, hc, vc⟩ := dy.item hi
      obtain ⟨p, rfl, hp⟩ := vd_cel.mp (VD.keep s2.tk _ _ vc)
      refine ⟨_, rfl, _, rfl, d, _, rfl, DPut.t (k := ck c) h2 hp (by rw [thereOf, List.length_map, List.length_take]; exact sz_small (by (clear B hr hw hh hh1 hb dy nG hc hp hi vc hdn ly s2 h2 nd hu k; omega))), ?_⟩
      refine ⟨_, rfl, s2.new hdn, ?_⟩
      rw [upd_same, there_put (take_not nG hc), take_succ hc]
    · rintro σ H2 ⟨c0, rfl, s2, h2⟩
      rw [ly, List.take_length] at h2
      have hwh : w' * h' ≤ 16 * 16 := Nat.mul_le_mul hw hh
      have em : ((w' : Int) * (h' : Int)) = ((w' * h' : Nat) : Int) := by simp
      refine ⟨_, rfl, _, rfl, _, _, rfl, rfl, .inl ⟨by (clear B hr hw hh hh1 hb dy nG lG k nd hu hdn ly s2 h2 hwh em; omega), by (clear lG k nd hu hdn ly s2 h2 hwh em hh1 hb dy nG B hr hh; omega)⟩, _, rfl, by rw [em]; (clear B hr hw hh hh1 hb dy nG lG k nd hu hdn ly s2 h2 hwh em; omega), by rw [em]; (clear B hr hw hh hh1 hb dy nG lG k nd hu hdn ly s2 h2 em; omega), fun Dl hDl => ?_⟩
      have hDn : H Dl = none := s2.free hDl
      refine comp_range (fun i zs H3 => Same H2 H3 ∧ H3 Dl = some (.lst zs) ∧ VDs H3 ((((cells w' h').take i).filter fun c => !decide (c ∈ G)).map eCel.enc) zs) ⟨same_of_upd hDl, upd_same, rfl⟩ ?_ ?_
      · rintro i zs H3 hi ⟨s3, hD3, dv⟩
        have hi' : i < w' * h' := by rw [em] at hi; (clear B hr hw hh hh1 hb dy nG lG k nd hu hdn ly s2 h2 hwh em hDl hDn hD3 dv s3; omega)
        have hcell : (cells w' h')[i]? = some (((i / h' : Nat) : Int), ((i % h' : Nat) : Int)) := by
          rw [cells_by, List.getElem?_map, List.getElem?_range hi']
          rfl
        have e1 : (0 + (i : Int)) / (h' : Int) = ((i / h' : Nat) : Int) := by rw [Int.zero_add]; exact (Int.natCast_ediv i h').symm
        have e2 : (0 + (i : Int)) % (h' : Int) = ((i % h' : Nat) : Int) := by rw [Int.zero_add]; exact (Int.natCast_emod i h').symm
        refine ⟨_, rfl, _, rfl, _, _, rfl, rfl, ⟨by (clear lG k nd hu hdn ly s2 h2 hwh em hDl hDn hi s3 hD3 dv hi' hcell e1 e2 B hr hw hh dy nG hb; omega), by (clear lG k nd hu hdn ly s2 h2 hwh em hDl hDn hi s3 hD3 dv hi' hcell e1 e2 hh1 hb dy nG B hr hw; omega)⟩, _, rfl, _, rfl, _, _, rfl, rfl, (by show (0 : Int) < h'; (clear lG k nd hu hdn ly s2 h2 hwh em hDl hDn hi s3 hD3 dv hi' hcell e1 e2 B hr hw hh dy nG hb; omega)), by show 2 ≤ sizeLine; decide, fun p hp => ?_⟩
        dsimp only
        rw [e1, e2]
        have hm3 : upd H3 p (.tup [.int ((i / h' : Nat) : Int), .int ((i % h' : Nat) : Int)]) d = some (.dT (thereOf G)) := by
          rw [upd_ne (ne_of_none (s3 _ _ h2) hp)]
          exact s3 _ _ h2
        have g1 : DGet (upd H3 p (.tup [.int ((i / h' : Nat) : Int), .int ((i % h' : Nat) : Int)])) d (.ref p) (valV (thereOf G) (ck (((i / h' : Nat) : Int), ((i % h' : Nat) : Int)))) := DGet.t hm3 upd_same
        rw [there_val] at g1
        refine ⟨_, rfl, d, _, rfl, g1, _, rfl, ?_⟩
        have s4 : Same H2 (upd H3 p (.tup [.int ((i / h' : Nat) : Int), .int ((i % h' : Nat) : Int)])) := s3.new (s3.free hp)
        have hDp : Dl ≠ p := ne_of_none hD3 hp
        have hD4 : upd H3 p (.tup [.int ((i / h' : Nat) : Int), .int ((i % h' : Nat) : Int)]) Dl = some (.lst zs) := by rw [upd_ne hDp]; exact hD3
        have dv4 := VDs.keep (TupK.new (o := .tup [.int ((i / h' : Nat) : Int), .int ((i % h' : Nat) : Int)]) hp) _ _ dv
        rw [take_filter_succ hcell]
        by_cases hG : (((i / h' : Nat) : Int), ((i % h' : Nat) : Int)) ∈ G
        · rw [if_pos hG]
          refine iteF ⟨s4, hD4, ?_⟩
          rw [if_neg (by simp only [decide_eq_true hG]; simp), List.append_nil]
          exact dv4
        · rw [if_neg hG]
          refine iteT ⟨_, rfl, _, rfl, _, _, rfl, rfl, ⟨by (clear lG k nd hu hdn ly s2 h2 hwh em hDl hDn hi s3 hD3 dv hi' hcell e1 e2 hp hm3 g1 s4 hDp hD4 dv4 hG B hr hw hh dy nG hb; omega), by (clear lG k nd hu hdn ly s2 h2 hwh em hDl hDn hi s3 hD3 dv hi' hcell e1 e2 hp hm3 g1 s4 hDp hD4 dv4 hG hh1 hb dy nG B hr hw; omega)⟩, _, rfl, _, rfl, _, _, rfl, rfl, (by show (0 : Int) < h'; (clear lG k nd hu hdn ly s2 h2 hwh em hDl hDn hi s3 hD3 dv hi' hcell e1 e2 hp hm3 g1 s4 hDp hD4 dv4 hG B hr hw hh dy nG hb; omega)), by show 2 ≤ sizeLine; decide, fun p2 hp2 => ?_⟩
          dsimp only
          rw [e1, e2]
          have hDp2 : Dl ≠ p2 := ne_of_none hD4 hp2
          refine ⟨zs, by rw [upd_ne hDp2]; exact hD4, ?_, ?_⟩
          · have l1 := map_cel_len dv
            have l2 : (((cells w' h').take i).filter fun c => !decide (c ∈ G)).length ≤ ((cells w' h').take i).length := List.length_filter_le _ _
            rw [List.length_take] at l2
            exact sz_small (by (clear B hr hw hh hh1 hb dy nG lG k nd hu hdn ly s2 h2 hi' hcell e1 e2 hp hm3 g1 s4 hDp hD4 dv4 hG hDl hDn hD3 dv hp2 hDp2 em s3; omega))
          · obtain ⟨q1, q2⟩ := app_cel (c := (((i / h' : Nat) : Int), ((i % h' : Nat) : Int))) hD4 hp2 dv4
            refine ⟨(s4.new (s4.free hp2)).new hDl, q1, ?_⟩
            rw [if_pos (by simp only [decide_eq_false hG]; rfl)]
            exact q2
      · rintro zs H3 ⟨s3, hD3, dv⟩
        refine k Dl zs H3 hDn (s2.trans s3) hD3 ?_
        have e : (cells w' h').take ((w' : Int) * (h' : Int)).toNat = cells w' h' := by
          rw [em, Int.toNat_natCast, ← cells_len, List.take_length]
        rw [e] at dv
        exact dv
structure BC (K : PySem.W.Frag) (mg : Str → Option Value) where
  C : Addr
  T : Bd K mg C
  I : Mt K C "__init__" "Board.__init__" s_Board_init ["self", "width", "height", "gaps"]
  mak : Mk K C I.f
  W : Mt K C "width" "Board.width" s_Board_width ["self"]
  Hh : Mt K C "height" "Board.height" s_Board_height ["self"]
  G : Mt K C "gaps" "Board.gaps" s_Board_gaps ["self"]
  O : Mt K C "open_cells" "Board.open_cells" s_Board_open_cells ["self"]
theorem no_m (w h : Int) (g f : Addr) : (bFlds w h g f).lookup ("width" : Str) = none ∧ (bFlds w h g f).lookup ("height" : Str) = none ∧ (bFlds w h g f).lookup ("gaps" : Str) = none ∧ (bFlds w h g f).lookup ("open_cells" : Str) = none :=
  ⟨bf_no _ _ _ _ (by decide +kernel) (by decide +kernel) (by decide +kernel) (by decide +kernel), bf_no _ _ _ _ (by decide +kernel) (by decide +kernel) (by decide +kernel) (by decide +kernel), bf_no _ _ _ _ (by decide +kernel) (by decide +kernel) (by decide +kernel) (by decide +kernel), bf_no _ _ _ _ (by decide +kernel) (by decide +kernel) (by decide +kernel) (by decide +kernel)⟩
theorem take_succA {α : Type} {cs : List α} {i : Nat} {c : α} (h : cs[i]? = some c) : cs.take (i + 1) = cs.take i ++ [c] := by
  rw [List.take_add_one, h]
  rfl
theorem hu0 {k : Nat} {A : Around} (r : Room k A) : A.units < cLine := Nat.lt_of_succ_lt (hu_of r)
def spIsCorner : Sp := fun vs H Q _ => ∃ (v : V) (k : Crn), vs = [v] ∧ VD H (eCrn.enc k) v ∧ ∀ H', Same H H' → Q (.bl (isCrn k)) H'
theorem sc_is_corner : FnScope ["corner", "cell", "xs", "ys"] ["corner"] (defScope s_law_is_corner) := ⟨rfl, rfl, rfl, by decide +kernel, rfl, by decide +kernel, by decide +kernel⟩
theorem nd_c1 : (["cell"] : List Str).Nodup := by decide +kernel
theorem dec_one {a : Int} : decide (V.int a = V.int 1) = decide (a = 1) := by
  by_cases h : a = 1
  · subst h; simp
  · rw [decide_eq_false h, decide_eq_false]
    intro z
    injection z with z
    exact h z
theorem ok_is_corner (D : Df K mg "_law_is_corner" s_law_is_corner ["corner"]) (D2 : Df K mg "_law_is_cell" s_law_is_cell ["cell"]) (D1 : Df K mg "_law_whole" s_law_whole ["found"]) (B : Bi mg) (hmax : mg "max" = none) : FnOk P w K mg base CX0 3 D.f D.fd ["corner"] spIsCorner := by
  have G2 : FnOk P w K mg base CX0 2 D2.f D2.fd ["cell"] spIsCell := ok_is_cell D2 D1 B
  refine D.F.ok sc_is_corner (fun vs H Q E h => ?_) (fun cdv A outer s H vs Q E hr h => ?_)
  · obtain ⟨_, _, rfl, _⟩ := h
    rfl
  · obtain ⟨v, k, rfl, hv, q⟩ := h
    have nd := sc_is_corner.nd
    refine ⟨_, pss_cons (ps_if (PW.pt (pw_or (pt_not (pt_val (pe_callB call_isi (by rfl) B.isi PyProof.Rows.boot_isinstance (pa_cons (pv 0) (pa_cons (pe_bltn (v := .ty "tuple") (by rfl) B.tuple PyProof.Rows.boot_tuple rfl) pa_nil)))))
        (pw_or1 (pt_cmpR op_ne (pe_callB call_len_seq (by rfl) B.b.len PySem.boot_len (pa_cons (pv 0) pa_nil)) pe_int (nomark _))))) (pss_one (ps_ret pe_bl)) pss_nil)
      (pss_cons (ps_for PassesOwn.never rfl (pi_tup (pv 0)) (pg_name (i := 1) nd rfl (Or.inl rfl)) (pss_one (ps_if (pt_not (pt_val (pe_call G2 hr rfl D2.mgf D2.F.kp D2.b .nil pass0 (pa_cons (pv 1) pa_nil)))) (pss_one (ps_ret pe_bl)) pss_nil)))
      (pss_cons (ps_setc (k := 2) (N := ["cell"]) (caps := [none]) (CompScope.of rfl) rfl nd rfl rfl rfl (pi_tup (pv 0)) (gkeeps_name rfl) (fun d => pg_name (i := 0) nd_c1 rfl (Or.inl rfl)) (fun d => pts_nil) (fun d => pe_ix (r := rIxT K) ix_tup (pv 0) pe_int (fun _ _ => rfl)))
      (pss_cons (ps_setc (k := 3) (N := ["cell"]) (caps := [none]) (CompScope.of rfl) rfl nd rfl rfl rfl (pi_tup (pv 0)) (gkeeps_name rfl) (fun d => pg_name (i := 0) nd_c1 rfl (Or.inl rfl)) (fun d => pts_nil) (fun d => pe_ix (r := rIxT K) ix_tup (pv 0) pe_int (fun _ _ => rfl)))
      (pss_cons (ps_if (PW.pt (pw_or (pt_cmpR op_ne (pe_op op_sub (pe_callB (call_maxL rfl) (by rfl) hmax boot_max (pa_cons (pv 2) pa_nil)) (pe_callB (call_minL rfl) (by rfl) B.min PyProof.Rows.boot_min (pa_cons (pv 2) pa_nil))) pe_int (nomark _))
        (pw_or1 (pt_cmpR op_ne (pe_op op_sub (pe_callB (call_maxL rfl) (by rfl) hmax boot_max (pa_cons (pv 3) pa_nil)) (pe_callB (call_minL rfl) (by rfl) B.min PyProof.Rows.boot_min (pa_cons (pv 3) pa_nil))) pe_int (nomark _))))) (pss_one (ps_ret pe_bl)) pss_nil)
      (pss_one (ps_ret (pe_chain (op_ltC (hu0 hr)) (op_ltC (hu0 hr)) (pe_ix ix_tup (pv 0) pe_int (fun _ _ => rfl)) (pe_ix ix_tup (pv 0) pe_int (fun _ _ => rfl)) (pe_ix ix_tup (pv 0) pe_int (fun _ _ => rfl))))))))), ?_⟩
    obtain ⟨t, v1, v2, v3, rfl, ht, q1, q2, q3⟩ := vd_crn.mp hv
    have dt : VDs H ([k.1, k.2.1, k.2.2].map eCel.enc) [v1, v2, v3] := ⟨_, _, rfl, q1, _, _, rfl, q2, _, _, rfl, q3, rfl⟩
    refine ⟨_, rfl, _, _, _, _, rfl, .tup ht, kit_tt K, _, rfl, iteF ⟨_, rfl, t, _, rfl, .inr (SqT.of ht), rfl, false, rfl, iteF ?_⟩⟩
    refine ⟨_, rfl, t, rfl, ⟨_, SqT.of ht⟩, for_tup (K := K) (a := t) (xs := [v1, v2, v3]) (fun i σ H3 => ∃ e, σ = [some (.ref t), e, none, none] ∧ H3 = H) ⟨_, rfl, rfl⟩ (fun i σ H3 _ ⟨_, _, e⟩ => by rw [e]; exact SqT.of ht) ?_ ?_⟩
    · rintro j u σ H3 hj ⟨e1, rfl, rfl⟩
      obtain ⟨c', hc', vc'⟩ := VDs.item (A := eCel) dt hj
      exact ⟨_, rfl, u, c', rfl, vc', _, rfl, iteF ⟨_, rfl, rfl⟩⟩
    · rintro σ H3 ⟨e1, rfl, rfl⟩
      -- xs
      refine ⟨_, rfl, t, rfl, ⟨_, SqT.of ht⟩, fun D1' hD1 => ?_⟩
      refine comp_T (A := eCel) (B := eInt) (cs := [k.1, k.2.1, k.2.2]) (fun _ => true) (fun c => c.1) (SqT.of ht) dt (by show 3 ≤ 100000; omega) hD1 (fun c v' H4 R1 R2 _ hv' s4 r1 r2 => ?_) fun H4 s4 L4 => ?_
      · obtain ⟨pc, rfl, hpc⟩ := vd_cel.mp hv'
        refine iteT (B := R1 H4) ?_
        exact ⟨_, rfl, pc, _, _, _, rfl, rfl, SqT.of hpc, rfl, r2 rfl _ H4 (.refl _) rfl⟩
      obtain ⟨xs, hxs, dxs⟩ := L4
      rw [filter_true] at dxs
      have exs := VDs.ints dxs
      subst exs
      -- ys
      refine ⟨_, rfl, t, rfl, ⟨_, SqT.of (s4 _ _ ht)⟩, fun D2' hD2 => ?_⟩
      refine comp_T (A := eCel) (B := eInt) (cs := [k.1, k.2.1, k.2.2]) (fun _ => true) (fun c => c.2) (SqT.of (s4 _ _ ht)) (VDs.keep s4.tk _ _ dt) (by show 3 ≤ 100000; omega) hD2 (fun c v' H5 R1 R2 _ hv' s5 r1 r2 => ?_) fun H5 s5 L5 => ?_
      · obtain ⟨pc, rfl, hpc⟩ := vd_cel.mp hv'
        refine iteT (B := R1 H5) ?_
        exact ⟨_, rfl, pc, _, _, _, rfl, rfl, SqT.of hpc, rfl, r2 rfl _ H5 (.refl _) rfl⟩
      obtain ⟨ys, hys, dys⟩ := L5
      rw [filter_true] at dys
      have eys := VDs.ints dys
      subst eys
      have s35 : Same H3 H5 := s4.trans s5
      have kx : SqL K H5 D1' ([k.1.1, k.2.1.1, k.2.2.1].map V.int) := SqL.of (s5 _ _ hxs)
      have ky : SqL K H5 D2' ([k.1.2, k.2.1.2, k.2.2.2].map V.int) := SqL.of hys
      refine ⟨_, rfl, D1', _, rfl, kx, by show 0 < 3; decide, _, rfl, D1', _, rfl, kx, by show 0 < 3; decide, _, _, rfl, rfl, rfl, _, rfl, ?_⟩
      have ex : decide (V.int (bestI (fun a b => decide (b < a)) [k.1.1, k.2.1.1, k.2.2.1] - bestI (fun a b => decide (a < b)) [k.1.1, k.2.1.1, k.2.2.1]) = V.int 1) = spanOk k.1.1 k.2.1.1 k.2.2.1 := dec_one
      have ey : decide (V.int (bestI (fun a b => decide (b < a)) [k.1.2, k.2.1.2, k.2.2.2] - bestI (fun a b => decide (a < b)) [k.1.2, k.2.1.2, k.2.2.2]) = V.int 1) = spanOk k.1.2 k.2.1.2 k.2.2.2 := dec_one
      dsimp only
      rw [ex]
      cases b1 : spanOk k.1.1 k.2.1.1 k.2.2.1 with
      | false =>
        refine iteT (iteT ?_)
        have := q H5 s35
        rw [show isCrn k = false by unfold isCrn; rw [b1]; rfl] at this
        exact this
      | true =>
        refine iteF ⟨_, rfl, D2', _, rfl, ky, by show 0 < 3; decide, _, rfl, D2', _, rfl, ky, by show 0 < 3; decide, _, _, rfl, rfl, rfl, _, rfl, ?_⟩
        dsimp only
        rw [ey]
        cases b2 : spanOk k.1.2 k.2.1.2 k.2.2.2 with
        | false =>
          refine iteT ?_
          have := q H5 s35
          rw [show isCrn k = false by unfold isCrn; rw [b1, b2]; rfl] at this
          exact this
        | true =>
          refine iteF ⟨_, rfl, t, _, _, _, rfl, rfl, SqT.of (s35 _ _ ht), rfl, _, rfl, t, _, _, _, rfl, rfl, SqT.of (s35 _ _ ht), rfl, k.1, k.2.1, VD.keep s35.tk _ _ q1, VD.keep s35.tk _ _ q2, _, rfl, ?_⟩
          have hq := q H5 s35
          rw [show isCrn k = (cLt k.1 k.2.1 && cLt k.2.1 k.2.2) by unfold isCrn; rw [b1, b2]; rfl] at hq
          cases b3 : cLt k.1 k.2.1 with
          | false =>
            rw [b3] at hq
            exact iteF hq
          | true =>
            rw [b3] at hq
            exact iteT ⟨_, rfl, t, _, _, _, rfl, rfl, SqT.of (s35 _ _ ht), rfl, k.2.1, k.2.2, VD.keep s35.tk _ _ q2, VD.keep s35.tk _ _ q3, hq⟩
def spLFilling : Sp := fun vs H Q _ => ∃ (a b : Addr) (cs : List Crn) (F : List Cel), vs = [.ref a, .ref b] ∧ Ls eCrn H a cs ∧ Ls eCel H b F ∧ cs.length ≤ 1000 ∧ F.Pairwise oCel.kle ∧ ∀ (r : Bool) H', Same H H' → (r = true ↔ Fills cs F) → Q (.bl r) H'
theorem sc_lfilling : FnScope ["found", "cells", "met", "corner"] ["found", "cells"] (defScope s_law_is_filling) := ⟨rfl, rfl, rfl, by decide +kernel, rfl, by decide +kernel, by decide +kernel⟩
theorem cov_take {cs : List Crn} {i : Nat} {k : Crn} (h : cs[i]? = some k) : cov (cs.take (i + 1)) = cov (cs.take i) ++ [k.1, k.2.1, k.2.2] := by
  rw [List.take_add_one, h, cov_append]
  rfl
theorem ok_lfilling (D : Df K mg "_law_is_filling" s_law_is_filling ["found", "cells"]) (D3 : Df K mg "_law_is_corner" s_law_is_corner ["corner"]) (D2 : Df K mg "_law_is_cell" s_law_is_cell ["cell"]) (D1 : Df K mg "_law_whole" s_law_whole ["found"]) (B : Bi mg) (hmax : mg "max" = none) : FnOk P w K mg base CX0 4 D.f D.fd ["found", "cells"] spLFilling := by
  have G3 : FnOk P w K mg base CX0 3 D3.f D3.fd ["corner"] spIsCorner := ok_is_corner D3 D2 D1 B hmax
  refine D.F.ok sc_lfilling (fun vs H Q E h => ?_) (fun cdv A outer s H vs Q E hr h => ?_)
  · obtain ⟨_, _, _, _, rfl, _⟩ := h
    rfl
  · obtain ⟨a, b, cs, F, rfl, ⟨xs, ha, dx⟩, ⟨ys, hb, dy⟩, hlen, hF, q⟩ := h
    have nd := sc_lfilling.nd
    have lx := VDs.len dx
    refine ⟨_, pss_cons (ps_if (pt_not (pt_val (pe_callB call_isi (by rfl) B.isi PyProof.Rows.boot_isinstance (pa_cons (pv 0) (pa_cons (pe_bltn (v := .ty "list") (by rfl) B.b.list PyProof.Rows.boot_list rfl) pa_nil))))) (pss_one (ps_ret pe_bl)) pss_nil)
      (pss_cons (ps_set (i := 2) nd rfl (Or.inl rfl) (pe_lst pa_nil))
      (pss_cons (ps_for PassesOwn.never rfl (pi_list (pv 0)) (pg_name (i := 3) nd rfl (Or.inl rfl))
        (pss_cons (ps_if (pt_not (pt_val (pe_call G3 hr rfl D3.mgf D3.F.kp D3.b .nil pass0 (pa_cons (pv 3) pa_nil)))) (pss_one (ps_ret pe_bl)) pss_nil)
        (pss_one (ps_set (i := 2) nd rfl (Or.inl rfl) (pe_op op_cat (pv 2) (pe_callTy call_list_of (by rfl) B.b.list PyProof.Rows.boot_list (pa_cons (pv 3) pa_nil)))))))
      (pss_one (ps_ret (pe_cmpR (op_eqL (room64 hr)) (pe_callB (call_sorted cmp_cel (room100 hr)) (by rfl) B.sorted PyProof.Rows.boot_sorted (pa_cons (pv 2) pa_nil)) (pv 1) (nomark _)))))), ?_⟩
    refine ⟨_, rfl, _, _, _, _, rfl, .lst ha, kit_ll K, _, rfl, iteF ?_⟩
    refine ⟨Nat.zero_le _, fun m hm => ?_⟩
    refine ⟨_, rfl, a, rfl, ⟨_, SqL.of (same_of_upd hm _ _ ha)⟩, for_list (K := K) (a := a) (xs := xs) (fun i σ H2 => ∃ (l : Addr) (c : Option V), σ = [some (.ref a), some (.ref b), some (.ref l), c] ∧ Same H H2 ∧ Ls eCel H2 l (cov (cs.take i)) ∧ ∀ k ∈ cs.take i, isCrn k = true)
      ⟨m, none, rfl, same_of_upd hm, .nil upd_same, by simp⟩ (fun i σ H2 _ ⟨_, _, _, s2, _⟩ => SqL.of (s2 _ _ ha)) ?_ ?_⟩
    · rintro i v σ H2 hi ⟨l, c0, rfl, s2, L2', hall⟩
      obtain ⟨k, hk, vk⟩ := VDs.item (A := eCrn) dx hi
      have vk2 := VD.keep s2.tk _ _ vk
      have hki : k ∈ cs := List.mem_of_getElem? hk
      refine ⟨_, rfl, v, k, rfl, vk2, fun H3 s3 => ⟨_, rfl, ?_⟩⟩
      cases hb' : isCrn k with
      | false =>
        refine iteT (q false H3 (s2.trans s3) ⟨fun z => (by cases z), fun z => ?_⟩)
        rw [z.1 k hki] at hb'
        cases hb'
      | true =>
        refine iteF ?_
        obtain ⟨us, hus, dus⟩ := L2'.same s3
        have lus := VDs.len dus
        rw [cov_len, List.length_take] at lus
        obtain ⟨t, v1, v2, v3, rfl, ht, q1, q2, q3⟩ := vd_crn.mp (VD.keep s3.tk _ _ vk2)
        refine ⟨_, rfl, _, rfl, t, _, rfl, .inr (SqT.of ht), fun l2 hl2 => ?_⟩
        have nl : l ≠ l2 := ne_of_none hus hl2
        have s4 : Same H3 (upd H3 l2 (.lst [v1, v2, v3])) := same_of_upd hl2
        refine ⟨l, l2, us, _, rfl, rfl, s4 _ _ hus, upd_same, Nat.le_of_lt (sz_small (by show us.length + 3 ≤ 100000; omega)), fun p hp => ?_⟩
        have s5 := same_of_upd (o := .lst (us ++ [v1, v2, v3])) hp
        refine ⟨p, _, rfl, ((s2.trans s3).trans s4).trans s5, ⟨_, upd_same, ?_⟩, fun k' hk' => ?_⟩
        · rw [cov_take hk, List.map_append]
          refine (VDs.keep (s4.trans s5).tk _ _ dus).append (VDs.keep (s4.trans s5).tk _ _ ?_)
          exact ⟨_, _, rfl, q1, _, _, rfl, q2, _, _, rfl, q3, rfl⟩
        · rw [List.take_add_one, hk] at hk'
          rcases List.mem_append.mp hk' with z | z
          · exact hall k' z
          · simp at z
            rw [z]; exact hb'
    · rintro σ H2 ⟨l, c0, rfl, s2, ⟨us, hus, dus⟩, hall⟩
      rw [lx, List.take_length] at dus hall
      refine ⟨_, rfl, l, us, cov cs, rfl, SqL.of hus, dus, fun zs (ds : List Cel) hpm hst dz p hp => ?_⟩
      have s3 := same_of_upd (o := .lst zs) hp
      refine ⟨_, rfl, Cel, inferInstance, eCel, p, b, zs, ys, ds, F, rfl, rfl, SqL.of upd_same, SqL.of (s3 _ _ (s2 _ _ hb)), VDs.keep s3.tk _ _ dz, VDs.keep (s2.trans s3).tk _ _ dy, ?_⟩
      refine q _ _ (s2.trans s3) ?_
      refine ⟨fun z => ?_, fun z => ?_⟩
      · have e : ds = F := of_decide_eq_true z
        subst e
        exact ⟨hall, hpm.symm⟩
      · exact decide_eq_true (sorted_one (O := oCel) (hpm.trans z.2) hst hF)
theorem quiet4 {N : Addr} (h0 : PySem.W.nsIn K N "__init__" = some none) (h1 : PySem.W.nsIn K N "__getattribute__" = some none) (h2 : PySem.W.nsIn K N "__getattr__" = some none) (h3 : PySem.W.nsIn K N "args" = some none) : ∀ n ∈ quietNames, PySem.W.nsIn K N n = some none := by
  intro n hn
  unfold quietNames at hn
  simp only [List.mem_cons, List.not_mem_nil, or_false] at hn
  rcases hn with rfl | rfl | rfl | rfl
  · exact h0
  · exact h1
  · exact h2
  · exact h3
structure XS (K : PySem.W.Frag) (mg : Str → Option Value) where
  F : Addr
  T : XF K F
  mF : mg "FillError" = some (.ref F)
  c0 : Addr
  c1 : Addr
  c2 : Addr
  c3 : Addr
  c4 : Addr
  c5 : Addr
  m0 : mg "BadSides" = some (.ref c0)
  m1 : mg "BadGap" = some (.ref c1)
  m2 : mg "NotOneGap" = some (.ref c2)
  m3 : mg "HasGaps" = some (.ref c3)
  m4 : mg "TooMany" = some (.ref c4)
  m5 : mg "NoText" = some (.ref c5)
  hv : mg "ValueError" = none
structure XN (K : PySem.W.Frag) (x : Str) (C : Addr) : Prop where
  hx : PySem.W.nsIn K mainGlobals x = some (some (.ref C))
  he : PySem.W.excIn K C vbm "ValueError.__new__" = true
structure XR (S : XS K mg) (C : Addr) (i : Nat) : Prop where
  xc : XC K S.F C
  k0 : PySem.W.kitOne K (.ref C) (.ref S.c0) = some (decide (0 = i))
  k1 : PySem.W.kitOne K (.ref C) (.ref S.c1) = some (decide (1 = i))
  k2 : PySem.W.kitOne K (.ref C) (.ref S.c2) = some (decide (2 = i))
  k3 : PySem.W.kitOne K (.ref C) (.ref S.c3) = some (decide (3 = i))
  k4 : PySem.W.kitOne K (.ref C) (.ref S.c4) = some (decide (4 = i))
  k5 : PySem.W.kitOne K (.ref C) (.ref S.c5) = some (decide (5 = i))
  kv : PySem.W.kitOne K (.ref C) (.type "ValueError") = some true
  lt : i < 6
def mk7 (i : Nat) : List Bool := (List.range 7).map fun k => decide (k = i)
theorem boot_VE : bootBuiltins "ValueError" = some (.type "ValueError") := by kernel_rfl
def spMarksOf (S : XS K mg) : Sp := fun vs H Q _ => ∃ (x C : Addr) (i : Nat), vs = [.ref x] ∧ H x = some (excO C x) ∧ XR S C i ∧ ∀ l H', H l = none → Same H H' → Ls eBool H' l (mk7 i) → Q (.ref l) H'
theorem sc_marks_of : FnScope ["e", "marks"] ["e"] (defScope s_law_marks_of) := ⟨rfl, rfl, rfl, by decide +kernel, rfl, by decide +kernel, by decide +kernel⟩
theorem ok_marks_of (S : XS K mg) (D : Df K mg "_law_marks_of" s_law_marks_of ["e"]) (hi : mg "isinstance" = none) : FnOkN P w K mg base 1 D.f D.fd ["e"] (spMarksOf S) := by
  refine D.F.okN sc_marks_of (fun vs H Q E h => ?_) (fun cdv A outer s H vs Q hr h => ?_)
  · obtain ⟨_, _, _, rfl, _⟩ := h
    rfl
  · obtain ⟨x, C, i, rfl, hx, R, k⟩ := h
    have nd := sc_marks_of.nd
    refine ⟨_, pss_cons (ps_set (i := 1) nd rfl (Or.inl rfl) (pe_lst
        (pa_cons (pe_callB (call_isiX S.T) (by rfl) hi PyProof.Rows.boot_isinstance (pa_cons (pv 0) (pa_cons (pe_glob (v := .ref S.c0) (by rfl) S.m0 rfl) pa_nil)))
        (pa_cons (pe_callB (call_isiX S.T) (by rfl) hi PyProof.Rows.boot_isinstance (pa_cons (pv 0) (pa_cons (pe_glob (v := .ref S.c1) (by rfl) S.m1 rfl) pa_nil)))
        (pa_cons (pe_callB (call_isiX S.T) (by rfl) hi PyProof.Rows.boot_isinstance (pa_cons (pv 0) (pa_cons (pe_glob (v := .ref S.c2) (by rfl) S.m2 rfl) pa_nil)))
        (pa_cons (pe_callB (call_isiX S.T) (by rfl) hi PyProof.Rows.boot_isinstance (pa_cons (pv 0) (pa_cons (pe_glob (v := .ref S.c3) (by rfl) S.m3 rfl) pa_nil))) pa_nil))))))
      (pss_one (ps_ret (pe_op op_cat (pv 1) (pe_lst
        (pa_cons (pe_callB (call_isiX S.T) (by rfl) hi PyProof.Rows.boot_isinstance (pa_cons (pv 0) (pa_cons (pe_glob (v := .ref S.c4) (by rfl) S.m4 rfl) pa_nil)))
        (pa_cons (pe_callB (call_isiX S.T) (by rfl) hi PyProof.Rows.boot_isinstance (pa_cons (pv 0) (pa_cons (pe_glob (v := .ref S.c5) (by rfl) S.m5 rfl) pa_nil)))
        (pa_cons (pe_not (pe_callB (call_isiX S.T) (by rfl) hi PyProof.Rows.boot_isinstance (pa_cons (pv 0) (pa_cons (pe_bltn (v := .ty "ValueError") (by rfl) S.hv boot_VE rfl) pa_nil)))) pa_nil))))))), ?_⟩
    refine ⟨_, rfl, x, C, .ref S.c0, .ref S.c0, _, rfl, hx, R.xc, fun u z => z, R.k0, ?_⟩
    refine ⟨_, rfl, x, C, .ref S.c1, .ref S.c1, _, rfl, hx, R.xc, fun u z => z, R.k1, ?_⟩
    refine ⟨_, rfl, x, C, .ref S.c2, .ref S.c2, _, rfl, hx, R.xc, fun u z => z, R.k2, ?_⟩
    refine ⟨_, rfl, x, C, .ref S.c3, .ref S.c3, _, rfl, hx, R.xc, fun u z => z, R.k3, ?_⟩
    refine ⟨by show 4 ≤ sizeLine; decide, fun p hp => ?_⟩
    have s1 := same_of_upd (o := .lst [.bl (decide (0 = i)), .bl (decide (1 = i)), .bl (decide (2 = i)), .bl (decide (3 = i))]) hp
    have hx1 := s1 _ _ hx
    refine ⟨_, rfl, ?_⟩
    refine ⟨_, rfl, x, C, .ref S.c4, .ref S.c4, _, rfl, hx1, R.xc, fun u z => z, R.k4, ?_⟩
    refine ⟨_, rfl, x, C, .ref S.c5, .ref S.c5, _, rfl, hx1, R.xc, fun u z => z, R.k5, ?_⟩
    refine ⟨_, rfl, x, C, .ty "ValueError", .type "ValueError", _, rfl, hx1, R.xc, fun u z => z, R.kv, ?_⟩
    refine ⟨true, rfl, by show 3 ≤ sizeLine; decide, fun p2 hp2 => ?_⟩
    have s2 := same_of_upd (o := .lst [.bl (decide (4 = i)), .bl (decide (5 = i)), .bl (!true)]) hp2
    refine ⟨p, p2, _, _, rfl, rfl, s2 _ _ upd_same, upd_same, by show 4 + 3 ≤ sizeLine; decide, fun l hl => ?_⟩
    have s3 := same_of_upd (o := .lst ([V.bl (decide (0 = i)), .bl (decide (1 = i)), .bl (decide (2 = i)), .bl (decide (3 = i))] ++ [.bl (decide (4 = i)), .bl (decide (5 = i)), .bl (!true)])) hl
    refine k l _ ((s1.trans s2).free hl) ((s1.trans s2).trans s3) ⟨_, upd_same, ?_⟩
    have h6 : decide (6 = i) = false := by
      rw [decide_eq_false_iff_not]
      have := R.lt
      (clear hi hr hx R k nd hp s1 hx1 hp2 s2 hl s3; omega)
    show VDs _ ([decide (0 = i), decide (1 = i), decide (2 = i), decide (3 = i), decide (4 = i), decide (5 = i), decide (6 = i)].map eBool.enc) _
    rw [h6]
    exact ⟨_, _, rfl, rfl, _, _, rfl, rfl, _, _, rfl, rfl, _, _, rfl, rfl, _, _, rfl, rfl, _, _, rfl, rfl, _, _, rfl, rfl, rfl⟩
theorem range7 (i : Nat) : ((List.range 7).filter fun _ => true).map (fun k => decide (k = i)) = mk7 i := by rw [filter_true]; rfl
theorem nd_k : (["k"] : List Str).Nodup := by decide +kernel
theorem dec_k (k i : Nat) : decide (V.int (0 + (k : Int)) = V.int (i : Int)) = decide (k = i) := by
  rw [dec_ii]
  by_cases h : k = i
  · rw [decide_eq_true h, decide_eq_true (by omega)]
  · rw [decide_eq_false h, decide_eq_false (by omega)]
theorem list7 {σ : L2.St} {H : Hp} {Q : VK} (i : Nat) (k : ∀ l H', H l = none → Same H H' → Ls eBool H' l (mk7 i) → Q (.ref l) H') : (tComp [none] (iRng1 (tCons (tC (.int 7)) tNil)) (gName 0) tYes (tOp rEq (tVar 0) (tC (.int (i : Int))))) σ H Q := by
  refine ⟨_, rfl, by decide, by decide, fun Dl hDl => ?_⟩
  refine comp_R (B := eBool) (n := 7) (fun _ => true) (fun k => decide (k = i)) (by decide) hDl (fun j H3 R1 R2 hi s3 r1 r2 => ?_) fun H3 s3 L3 => ?_
  · refine iteT (B := R1 H3) ⟨_, rfl, rfl, ?_⟩
    rw [dec_k]
    exact r2 rfl _ _ (.refl _) vd_bl
  · rw [range7] at L3
    exact k Dl H3 hDl s3 L3
theorem eqB {H : Hp} {Q : VK} {a b : Addr} {bs : List Bool} (L1 : Ls eBool H a bs) (L2 : Ls eBool H b bs) (k : Q (.bl true) H) : rEqL false K (.ref a) (.ref b) H Q := by
  obtain ⟨xs, h1, d1⟩ := L1
  obtain ⟨ys, h2, d2⟩ := L2
  refine ⟨Bool, inferInstance, eBool, a, b, xs, ys, bs, bs, rfl, rfl, SqL.of h1, SqL.of h2, d1, d2, ?_⟩
  simpa using k
def rowsV (rows : List (List Nat)) : List V := (rows.map mkS).map V.str
theorem rowsV_len (rows : List (List Nat)) : (rowsV rows).length = rows.length := by simp [rowsV]
theorem rows_at {rows : List (List Nat)} {i : Nat} {r : List Nat} (h : rows[i]? = some r) : atI (rowsV rows) (i : Int) = some (.str (mkS r)) := by
  refine atI_nat ?_
  unfold rowsV
  rw [List.getElem?_map, List.getElem?_map, h]
  rfl
def relS : List Crn := [((0, 0), (0, 1), (1, 0)), ((0, 2), (1, 1), (1, 2))]
def relL : List Crn := [((0, 0), (0, 1), (1, 0)), ((1, 1), (2, 0), (2, 1))]
def relO : List Crn := [((0, 0), (1, 0), (1, 1)), ((0, 1), (0, 2), (1, 2)), ((0, 3), (0, 4), (1, 4)), ((0, 5), (0, 6), (1, 6)), ((0, 7), (0, 8), (1, 8)), ((1, 3), (2, 2), (2, 3)), ((1, 5), (2, 5), (2, 6)), ((1, 7), (2, 7), (2, 8)), ((2, 0), (2, 1), (3, 1)), ((2, 4), (3, 3), (3, 4)), ((3, 0), (4, 0), (4, 1)), ((3, 2), (4, 2), (4, 3)), ((3, 5), (4, 4), (4, 5)), ((3, 6), (4, 6), (4, 7)), ((3, 7), (3, 8), (4, 8))]
def shC (l t : Int) (c : Cel) : Cel := (l + c.1, t + c.2)
def shK (l t : Int) (k : Crn) : Crn := (shC l t k.1, shC l t k.2.1, shC l t k.2.2)
def layI (rel : List Crn) (pw ph : Int) (l t : Int) (n m : Nat) : List Crn := (List.range n).flatMap fun (i : Nat) => (List.range m).flatMap fun (j : Nat) => rel.map (shK (l + (i : Int) * pw) (t + (j : Int) * ph))
def lay (rel : List Crn) (pw ph : Int) (l t r b : Int) : List Crn := layI rel pw ph l t (nStep l r pw) (nStep t b ph)
def layS := lay relS 2 3
def layL := lay relL 3 2
def layO := lay relO 5 9
def fillR (w h : Int) : List Crn :=
  if w % 2 = 0 then layS 0 0 w h else if h % 2 = 0 then layL 0 0 3 h ++ layS 3 0 w h else ((layO 0 0 5 9 ++ layL 0 9 3 h) ++ layS 3 9 5 h) ++ layS 5 0 w h
def canF (w h : Int) : Bool := !(decide (w * h % 3 ≠ 0) || decide (w = 1) || decide (h = 1)) && !(decide (w = 3) && decide (h % 2 = 1)) && !(decide (h = 3) && decide (w % 2 = 1))
def run : List Nat → Nat → Option Nat
  | [], m => some m
  | k :: r, m => if m.testBit k = true then none else run r (m ||| 2 ^ k)
theorem run_some : ∀ {l : List Nat} {m m' : Nat}, run l m = some m' → l.Nodup ∧ (∀ k ∈ l, m.testBit k = false) ∧ ∀ k, m'.testBit k = (m.testBit k || decide (k ∈ l))
  | [], m, m', h => by
    cases h
    exact ⟨List.nodup_nil, fun k hk => by simp at hk, fun k => by simp⟩
  | a :: r, m, m', h => by
    unfold run at h
    by_cases hb : m.testBit a = true
    · rw [if_pos hb] at h
      cases h
    · rw [if_neg hb] at h
      obtain ⟨h1, h2, h3⟩ := run_some h
      have hb' : m.testBit a = false := by simpa using hb
      refine ⟨List.nodup_cons.mpr ⟨fun hm => ?_, h1⟩, fun k hk => ?_, fun k => ?_⟩
      · have := h2 a hm
        rw [Nat.testBit_or, Nat.testBit_two_pow_self, Bool.or_true] at this
        cases this
      · rcases List.mem_cons.mp hk with z | z
        · subst z
          exact hb'
        · have := h2 k z
          rw [Nat.testBit_or, Bool.or_eq_false_iff] at this
          exact this.1
      · rw [h3 k, Nat.testBit_or, Nat.testBit_two_pow, Bool.or_assoc]
        congr 1
        by_cases e : a = k
        · subst e
          simp
        · have e' : ¬ k = a := fun z => e z.symm
          simp [e, e']
def code (c : Cel) : Nat := 16 * c.1.toNat + c.2.toNat
def inB (w h : Int) (c : Cel) : Bool := decide (0 ≤ c.1) && decide (c.1 < w) && decide (0 ≤ c.2) && decide (c.2 < h)
def grid (w h : Nat) : List Nat := (List.range w).flatMap fun x => (List.range h).map fun y => 16 * x + y
def okFill (w h : Nat) : Bool := ((cov (fillR w h)).all (inB w h)) && decide (run ((cov (fillR w h)).map code) 0 = run (grid w h) 0) && (run (grid w h) 0).isSome
def okAll : Bool := (List.range 17).all fun (w : Nat) => (List.range 6).all fun (k : Nat) => !canF (w : Int) ((3 * k : Nat) : Int) || okFill w (3 * k)
theorem okAll_true : okAll = true := by decide +kernel
theorem inB_iff {w h : Nat} {c : Cel} : inB w h c = true ↔ c ∈ cells w h := by
  rw [mem_cells]
  simp only [inB, Bool.and_eq_true, decide_eq_true_eq, and_assoc]
theorem code_inj {c d : Cel} (h1 : 0 ≤ c.1) (h2 : 0 ≤ c.2) (h3 : c.2 < 16) (g1 : 0 ≤ d.1) (g2 : 0 ≤ d.2) (g3 : d.2 < 16) (e : code c = code d) : c = d := by
  obtain ⟨a, b⟩ := c
  obtain ⟨x, y⟩ := d
  dsimp only [code] at *
  have e1 : a.toNat = x.toNat ∧ b.toNat = y.toNat := by omega
  have e2 : a = x := by omega
  have e3 : b = y := by omega
  rw [e2, e3]
theorem grid_mem {w h : Nat} {c : Cel} (hc : c ∈ cells w h) : code c ∈ grid w h := by
  obtain ⟨h1, h2, h3, h4⟩ := mem_cells.mp hc
  unfold grid code
  refine List.mem_flatMap.mpr ⟨c.1.toNat, List.mem_range.mpr (by omega), List.mem_map.mpr ⟨c.2.toNat, List.mem_range.mpr (by omega), rfl⟩⟩
theorem okFill_perm {w h : Nat} (hh : h ≤ 16) (ok : okFill w h = true) (nd : (cells w h).Nodup) : (cov (fillR w h)).Perm (cells w h) := by
  unfold okFill at ok
  rw [Bool.and_eq_true, Bool.and_eq_true, decide_eq_true_eq] at ok
  obtain ⟨⟨o1, o2⟩, o3⟩ := ok
  obtain ⟨m, hm⟩ := Option.isSome_iff_exists.mp o3
  obtain ⟨a1, a2, a3⟩ := run_some (o2.trans hm)
  obtain ⟨b1, b2, b3⟩ := run_some hm
  have n1 : (cov (fillR w h)).Nodup := by
    unfold List.Nodup at a1 ⊢
    rw [List.pairwise_map] at a1
    exact a1.imp fun hne e => hne (by rw [e])
  have inb : ∀ c ∈ cov (fillR w h), c ∈ cells w h := fun c hc => inB_iff.mp (List.all_eq_true.mp o1 c hc)
  refine (List.perm_ext_iff_of_nodup n1 nd).mpr fun c => ⟨inb c, fun hc => ?_⟩
  have k1 := b3 (code c)
  rw [a3 (code c), decide_eq_true (grid_mem hc), Bool.or_true] at k1
  have k2 : code c ∈ (cov (fillR w h)).map code := by simpa using k1
  obtain ⟨d, hd, e⟩ := List.mem_map.mp k2
  obtain ⟨p1, p2, p3, p4⟩ := mem_cells.mp hc
  obtain ⟨q1, q2, q3, q4⟩ := mem_cells.mp (inb d hd)
  have := code_inj q1 q3 (by omega) p1 p3 (by omega) e
  subst this
  exact hd
theorem shK_crn {x y l t : Int} {k : Crn} (h : k ∈ crns x y) : shK l t k ∈ crns (l + x) (t + y) := by
  simp only [crns, List.mem_cons, List.not_mem_nil, or_false] at h
  rcases h with rfl | rfl | rfl | rfl <;> simp [crns, shK, shC, Int.add_assoc]
theorem lay_crn {rel : List Crn} (h : ∀ k ∈ rel, ∃ x y, k ∈ crns x y) {pw ph l t r b : Int} : ∀ k ∈ lay rel pw ph l t r b, ∃ x y, k ∈ crns x y := by
  intro k hk
  unfold lay layI at hk
  obtain ⟨i, _, hk⟩ := List.mem_flatMap.mp hk
  obtain ⟨j, _, hk⟩ := List.mem_flatMap.mp hk
  obtain ⟨k0, hk0, rfl⟩ := List.mem_map.mp hk
  obtain ⟨x, y, hx⟩ := h k0 hk0
  exact ⟨_, _, shK_crn hx⟩
def relOk (rel : List Crn) : Bool := rel.all fun k => decide (k ∈ crns k.1.1 k.1.2) || decide (k ∈ crns k.1.1 (k.1.2 - 1))
theorem rel_crn {rel : List Crn} (h : relOk rel = true) : ∀ k ∈ rel, ∃ x y, k ∈ crns x y := by
  intro k hk
  have := List.all_eq_true.mp h k hk
  rw [Bool.or_eq_true, decide_eq_true_eq, decide_eq_true_eq] at this
  rcases this with z | z
  · exact ⟨_, _, z⟩
  · exact ⟨_, _, z⟩
theorem fillR_crn {w h : Int} : ∀ k ∈ fillR w h, ∃ x y, k ∈ crns x y := by
  have hS : ∀ k ∈ relS, ∃ x y, k ∈ crns x y := rel_crn (by decide +kernel)
  have hL : ∀ k ∈ relL, ∃ x y, k ∈ crns x y := rel_crn (by decide +kernel)
  have hO : ∀ k ∈ relO, ∃ x y, k ∈ crns x y := rel_crn (by decide +kernel)
  intro k hk
  unfold fillR at hk
  split at hk
  · exact lay_crn hS k hk
  · split at hk
    · rcases List.mem_append.mp hk with z | z
      · exact lay_crn hL k z
      · exact lay_crn hS k z
    · rcases List.mem_append.mp hk with z | z
      · rcases List.mem_append.mp z with z | z
        · rcases List.mem_append.mp z with z | z
          · exact lay_crn hO k z
          · exact lay_crn hL k z
        · exact lay_crn hS k z
      · exact lay_crn hS k z
theorem fillR_ok {w h : Nat} (hw : w ≤ 16) (hh : h ≤ 16) (h3 : h % 3 = 0) (hc : canF (w : Int) (h : Int) = true) (nd : (cells w h).Nodup) : (∀ k ∈ fillR w h, ∃ x y, k ∈ crns x y) ∧ (cov (fillR w h)).Perm (cells w h) := by
  refine ⟨fillR_crn, okFill_perm hh ?_ nd⟩
  have a := List.all_eq_true.mp okAll_true w (List.mem_range.mpr (by omega))
  have b := List.all_eq_true.mp a (h / 3) (List.mem_range.mpr (by omega))
  have e : 3 * (h / 3) = h := by omega
  rw [e, hc] at b
  simpa using b
def sw (c : Cel) : Cel := (c.2, c.1)
def swK (k : Crn) : Crn := if cLt (sw k.2.1) (sw k.1) = true then (sw k.2.1, sw k.1, sw k.2.2) else if cLt (sw k.2.2) (sw k.2.1) = true then (sw k.1, sw k.2.2, sw k.2.1) else (sw k.1, sw k.2.1, sw k.2.2)
theorem cLt_yes {a b : Cel} (h : a.1 < b.1 ∨ (a.1 = b.1 ∧ a.2 < b.2)) : cLt a b = true := cLt_iff.mpr h
theorem cLt_no {a b : Cel} (h : ¬ (a.1 < b.1 ∨ (a.1 = b.1 ∧ a.2 < b.2))) : ¬ cLt a b = true := fun z => h (cLt_iff.mp z)
theorem swK_crn {x y : Int} {k : Crn} (h : k ∈ crns x y) : swK k ∈ crns y x := by
  simp only [crns, List.mem_cons, List.not_mem_nil, or_false] at h
  unfold swK
  rcases h with rfl | rfl | rfl | rfl
  · rw [if_pos (cLt_yes (by dsimp only [sw]; omega))]
    simp [crns, sw]
  · rw [if_neg (cLt_no (by dsimp only [sw]; omega)), if_neg (cLt_no (by dsimp only [sw]; omega))]
    simp [crns, sw]
  · rw [if_neg (cLt_no (by dsimp only [sw]; omega)), if_neg (cLt_no (by dsimp only [sw]; omega))]
    simp [crns, sw]
  · rw [if_neg (cLt_no (by dsimp only [sw]; omega)), if_pos (cLt_yes (by dsimp only [sw]; omega))]
    simp [crns, sw]
theorem swK_perm (k : Crn) : ([(swK k).1, (swK k).2.1, (swK k).2.2] : List Cel).Perm [sw k.1, sw k.2.1, sw k.2.2] := by
  unfold swK
  split
  · exact List.Perm.swap _ _ _
  · split
    · exact List.Perm.cons _ (List.Perm.swap _ _ _)
    · exact List.Perm.refl _
theorem kle_of {a b : Cel} (h : cLt a b = true) : oCel.kle a b := by
  show cLt b a = false
  rw [cLt_not]
  have := cLt_iff.mp h
  omega
theorem crn_kle {k : Crn} (h : isCrn k = true) : ([k.1, k.2.1, k.2.2] : List Cel).Pairwise oCel.kle := by
  unfold isCrn at h
  rw [Bool.and_eq_true, Bool.and_eq_true (cLt _ _)] at h
  have h1 := h.2.1
  have h2 := h.2.2
  have h3 : cLt k.1 k.2.2 = true := by
    rw [cLt_iff] at h1 h2 ⊢
    omega
  have m1 : ∀ b : Cel, b ∈ [k.2.2] → b = k.2.2 := fun b hb => List.mem_singleton.mp hb
  refine List.Pairwise.cons (fun b hb => ?_) (List.Pairwise.cons (fun b hb => ?_) (List.Pairwise.cons (fun b hb => ?_) List.Pairwise.nil))
  · rcases List.mem_cons.mp hb with z | z
    · rw [z]; exact kle_of h1
    · rw [m1 b z]; exact kle_of h3
  · rw [m1 b hb]; exact kle_of h2
  · cases hb
theorem cov_swK (cs : List Crn) : (cov (cs.map swK)).Perm ((cov cs).map sw) := by
  induction cs with
  | nil => exact .refl _
  | cons k cs ih =>
    rw [List.map_cons, cov_cons, cov_cons, List.map_append]
    exact (swK_perm k).append ih
theorem cells_sw {w h : Nat} : ((cells w h).map sw).Perm (cells h w) := by
  have n1 : ((cells w h).map sw).Nodup := by
    unfold List.Nodup
    rw [List.pairwise_map]
    refine (rise_nodup (cells_rise w h)).imp fun hne e => hne ?_
    have e1 := (Prod.mk.inj e).1
    have e2 := (Prod.mk.inj e).2
    exact Prod.ext e2 e1
  refine (List.perm_ext_iff_of_nodup n1 (rise_nodup (cells_rise h w))).mpr fun c => ?_
  rw [List.mem_map]
  constructor
  · rintro ⟨d, hd, rfl⟩
    obtain ⟨q1, q2, q3, q4⟩ := mem_cells.mp hd
    exact mem_cells.mpr ⟨q3, q4, q1, q2⟩
  · intro hc
    obtain ⟨q1, q2, q3, q4⟩ := mem_cells.mp hc
    exact ⟨sw c, mem_cells.mpr ⟨q3, q4, q1, q2⟩, rfl⟩
theorem canF_sw (w h : Int) : canF w h = canF h w := by
  unfold canF
  rw [Int.mul_comm w h]
  cases decide (h * w % 3 ≠ 0) <;> cases decide (w = 1) <;> cases decide (h = 1) <;> cases (decide (w = 3) && decide (h % 2 = 1)) <;> cases (decide (h = 3) && decide (w % 2 = 1)) <;> rfl
def rectOf (w h : Nat) : List Crn := if h % 3 = 0 then fillR (w : Int) (h : Int) else (fillR (h : Int) (w : Int)).map swK
theorem rect_fills {w h : Nat} (hw : w ≤ 16) (hh : h ≤ 16) (hc : canF (w : Int) (h : Int) = true) : Fills (rectOf w h) (cells w h) := by
  unfold rectOf
  by_cases h3 : h % 3 = 0
  · rw [if_pos h3]
    obtain ⟨a, b⟩ := fillR_ok hw hh h3 hc (rise_nodup (cells_rise w h))
    exact ⟨fun k hk => (a k hk).elim fun x q => q.elim fun y z => isCrn_of z, b⟩
  · rw [if_neg h3]
    have w3 : w % 3 = 0 := by
      unfold canF at hc
      simp only [Bool.and_eq_true, Bool.not_eq_true', Bool.or_eq_false_iff, decide_eq_false_iff_not, Decidable.not_not] at hc
      have q := hc.1.1.1.1
      have q2 : (w * h) % 3 = 0 := by
        have : (((w * h % 3 : Nat)) : Int) = 0 := by rw [Int.natCast_emod, Int.natCast_mul]; exact q
        omega
      have q3 := Nat.mul_mod w h 3
      have hw3 : w % 3 < 3 := Nat.mod_lt _ (by decide)
      have hh3 : h % 3 < 3 := Nat.mod_lt _ (by decide)
      rw [q2] at q3
      rcases (show w % 3 = 0 ∨ w % 3 = 1 ∨ w % 3 = 2 by omega) with a | a | a
      · exact a
      · rcases (show h % 3 = 1 ∨ h % 3 = 2 by omega) with b | b <;> rw [a, b] at q3 <;> cases q3
      · rcases (show h % 3 = 1 ∨ h % 3 = 2 by omega) with b | b <;> rw [a, b] at q3 <;> cases q3
    obtain ⟨a, b⟩ := fillR_ok hh hw w3 (by rw [← canF_sw]; exact hc) (rise_nodup (cells_rise h w))
    refine ⟨fun k hk => ?_, (cov_swK _).trans ((b.map sw).trans cells_sw)⟩
    obtain ⟨k0, hk0, rfl⟩ := List.mem_map.mp hk
    obtain ⟨x, y, z⟩ := a k0 hk0
    exact isCrn_of (swK_crn z)
theorem yesT {σ : L2.St} {H : Hp} {F : Bool → Hp → Prop} (h : F true H) : tYes σ H F := h
abbrev Grp := List (Nat × List Cel)
def addG : Grp → Nat → Cel → Grp
  | [], s, c => [(s, [c])]
  | (k, cs) :: g, s, c => if k = s then (k, cs ++ [c]) :: g else (k, cs) :: addG g s c
def sgAt (pic : List (List Nat)) (x y : Nat) : Nat := (pic.getD y []).getD x 0
def colG (pic : List (List Nat)) (g : Grp) (x : Nat) : Nat → Grp
  | 0 => g
  | m + 1 => addG (colG pic g x m) (sgAt pic x m) (((x : Nat) : Int), ((m : Nat) : Int))
def grpN (pic : List (List Nat)) : Nat → Grp
  | 0 => []
  | n + 1 => colG pic (grpN pic n) n pic.length
theorem addG_len (g : Grp) (s : Nat) (c : Cel) : (addG g s c).length ≤ g.length + 1 := by
  induction g with
  | nil => exact Nat.le_refl _
  | cons e g ih =>
    obtain ⟨k, cs⟩ := e
    unfold addG
    split
    · simp
    · simp only [List.length_cons]
      omega
theorem colG_len (pic : List (List Nat)) (g : Grp) (x : Nat) : ∀ m, (colG pic g x m).length ≤ g.length + m
  | 0 => Nat.le_refl _
  | m + 1 => by
    have h1 := colG_len pic g x m
    have h2 := addG_len (colG pic g x m) (sgAt pic x m) (((x : Nat) : Int), ((m : Nat) : Int))
    show (addG _ _ _).length ≤ _
    omega
theorem grpN_len (pic : List (List Nat)) : ∀ n, (grpN pic n).length ≤ n * pic.length
  | 0 => Nat.zero_le _
  | n + 1 => by
    have h1 := grpN_len pic n
    have h2 := colG_len pic (grpN pic n) n pic.length
    show (colG _ _ _ _).length ≤ _
    rw [Nat.succ_mul]
    omega
def three (k : Crn) : List Cel := [k.1, k.2.1, k.2.2]
structure Pic (pic : List (List Nat)) (pw : Nat) (rel : List Crn) : Prop where
  h1 : 1 ≤ pic.length
  h9 : pic.length ≤ 9
  w1 : 1 ≤ pw
  w9 : pw ≤ 9
  row : ∀ r ∈ pic, r.length = pw
  eq : (grpN pic pw).map (·.2) = rel.map three
  len : rel.length ≤ 20
def picS : List (List Nat) := [[97, 97], [97, 98], [98, 98]]
def picL : List (List Nat) := [[97, 97, 98], [97, 98, 98]]
def picO : List (List Nat) := [[97, 97, 98, 99, 99], [100, 97, 98, 98, 99], [100, 100, 101, 102, 102], [103, 101, 101, 104, 102], [103, 103, 104, 104, 105], [106, 107, 107, 105, 105], [106, 106, 107, 108, 108], [109, 110, 110, 111, 108], [109, 109, 110, 111, 111]]
theorem isS : Pic picS 2 relS := ⟨by decide, by decide, by decide, by decide, by decide, by decide +kernel, by decide⟩
theorem isL : Pic picL 3 relL := ⟨by decide, by decide, by decide, by decide, by decide, by decide +kernel, by decide⟩
theorem isO : Pic picO 5 relO := ⟨by decide, by decide, by decide, by decide, by decide, by decide +kernel, by decide⟩
theorem Pic.at {pic : List (List Nat)} {pw : Nat} {rel : List Crn} (p : Pic pic pw rel) {x y : Nat} (hx : x < pw) (hy : y < pic.length) : ∃ r, pic[y]? = some r ∧ r[x]? = some (sgAt pic x y) := by
  have h1 : pic[y]? = some pic[y] := List.getElem?_eq_getElem hy
  have h2 : x < (pic[y]).length := by rw [p.row _ (List.getElem_mem hy)]; exact hx
  refine ⟨pic[y], h1, ?_⟩
  have e : sgAt pic x y = (pic[y])[x] := by
    unfold sgAt
    rw [List.getD_eq_getElem?_getD (l := pic), h1, Option.getD_some, List.getD_eq_getElem?_getD, List.getElem?_eq_getElem h2, Option.getD_some]
  rw [e]
  exact List.getElem?_eq_getElem h2
def sk (s : Nat) : Key := .inr (mkS [s])
theorem sk_inj {a b : Nat} (h : sk a = sk b) : a = b := by
  have h1 : mkS [a] = mkS [b] := Sum.inr.inj h
  exact (List.cons.inj (mkS_inj h1)).1
def GR (H : Hp) (l t : Int) : Grp → List (Key × V) → Prop
  | [], kvs => kvs = []
  | (s, cs) :: g, kvs => ∃ a r, kvs = (sk s, V.ref a) :: r ∧ Ls eCel H a (cs.map (shC l t)) ∧ GR H l t g r
theorem GR.len {H : Hp} {l t : Int} : ∀ {g : Grp} {kvs : List (Key × V)}, GR H l t g kvs → kvs.length = g.length
  | [], kvs, h => by rw [show kvs = [] from h]; rfl
  | (s, cs) :: g, kvs, h => by
    obtain ⟨a, r, rfl, _, h2⟩ := h
    rw [List.length_cons, List.length_cons, GR.len h2]
theorem GR.same {H H' : Hp} {l t : Int} (s' : Same H H') : ∀ {g : Grp} {kvs : List (Key × V)}, GR H l t g kvs → GR H' l t g kvs
  | [], kvs, h => h
  | (s, cs) :: g, kvs, h => by
    obtain ⟨a, r, rfl, h1, h2⟩ := h
    exact ⟨a, r, rfl, h1.same s', GR.same s' h2⟩
theorem GR.but {H H' : Hp} {l t : Int} {x : Addr} (kb : ∀ b o, H b = some o → b ≠ x → H' b = some o) (tk : TupK H H') : ∀ {g : Grp} {kvs : List (Key × V)}, GR H l t g kvs → (∀ e ∈ kvs, e.2 ≠ V.ref x) → GR H' l t g kvs
  | [], kvs, h, _ => h
  | (s, cs) :: g, kvs, h, hx => by
    obtain ⟨a, r, rfl, ⟨xs, e1, d1⟩, h2⟩ := h
    have na : a ≠ x := fun z => hx (sk s, V.ref a) (by simp) (by rw [z])
    exact ⟨a, r, rfl, ⟨xs, kb _ _ e1 na, VDs.keep tk _ _ d1⟩, GR.but kb tk h2 fun e he => hx e (List.mem_cons_of_mem _ he)⟩
theorem GR.get {H : Hp} {l t : Int} : ∀ {g : Grp} {kvs : List (Key × V)} {i : Nat} {k : Key} {x : V}, GR H l t g kvs → kvs[i]? = some (k, x) → ∃ cs a, (g.map (·.2))[i]? = some cs ∧ x = .ref a ∧ Ls eCel H a (cs.map (shC l t))
  | [], kvs, i, k, x, h, e => by
    rw [show kvs = [] from h] at e
    simp at e
  | (s, cs) :: g, kvs, i, k, x, h, e => by
    obtain ⟨a, r, rfl, h1, h2⟩ := h
    cases i with
    | zero =>
      rw [List.getElem?_cons_zero] at e
      cases e
      exact ⟨cs, a, rfl, rfl, h1⟩
    | succ i =>
      rw [List.getElem?_cons_succ] at e
      obtain ⟨cs', a', e1, e2, e3⟩ := GR.get h2 e
      exact ⟨cs', a', by rw [List.map_cons, List.getElem?_cons_succ]; exact e1, e2, e3⟩
theorem GR.new {H : Hp} {l t : Int} {s : Nat} {c : Cel} {z : Addr} (hz : Ls eCel H z [shC l t c]) : ∀ {g : Grp} {kvs : List (Key × V)}, GR H l t g kvs → valV kvs (sk s) = none → GR H l t (addG g s c) (kvs ++ [(sk s, V.ref z)])
  | [], kvs, h, _ => by
    rw [show kvs = [] from h]
    exact ⟨z, [], rfl, hz, rfl⟩
  | (k, cs) :: g, kvs, h, hv => by
    obtain ⟨a, r, rfl, h1, h2⟩ := h
    have nk : ¬ k = s := by
      intro e
      rw [e, valV_pos (p := (sk s, V.ref a)) rfl] at hv
      cases hv
    rw [valV_neg (p := (sk k, V.ref a)) (fun e => nk (sk_inj e))] at hv
    unfold addG
    rw [if_neg nk]
    exact ⟨a, r ++ [(sk s, V.ref z)], rfl, h1, GR.new hz h2 hv⟩
theorem GR.old {H : Hp} {l t : Int} {s : Nat} {c : Cel} {v : V} : ∀ {g : Grp} {kvs : List (Key × V)}, GR H l t g kvs → valV kvs (sk s) = some v → (kvs.map (·.2)).Nodup → ∃ a xs cs, v = .ref a ∧ (.ref a) ∈ kvs.map (·.2) ∧ H a = some (.lst xs) ∧ VDs H ((cs.map (shC l t)).map eCel.enc) xs ∧ (s, cs) ∈ g ∧
    ∀ (H' : Hp) (u : V), (∀ b o, H b = some o → b ≠ a → H' b = some o) → TupK H H' → H' a = some (.lst (xs ++ [u])) → VD H' (eCel.enc (shC l t c)) u → GR H' l t (addG g s c) kvs
  | [], kvs, h, hv, _ => by
    rw [show kvs = [] from h] at hv
    cases hv
  | (k, cs) :: g, kvs, h, hv, nd => by
    obtain ⟨a, r, rfl, ⟨xs, e1, d1⟩, h2⟩ := h
    rw [List.map_cons, List.nodup_cons] at nd
    by_cases e : k = s
    · subst e
      rw [valV_pos (p := (sk k, V.ref a)) rfl] at hv
      cases hv
      refine ⟨a, xs, cs, rfl, by simp, e1, d1, by simp, fun H' u kb tk e2 vu => ?_⟩
      unfold addG
      rw [if_pos rfl]
      refine ⟨a, r, rfl, ⟨xs ++ [u], e2, ?_⟩, GR.but kb tk h2 fun q hq z => nd.1 ?_⟩
      · rw [List.map_append, List.map_append]
        exact (VDs.keep tk _ _ d1).append ⟨u, [], rfl, vu, rfl⟩
      · rw [← z]
        exact List.mem_map.mpr ⟨q, hq, rfl⟩
    · rw [valV_neg (p := (sk k, V.ref a)) (fun z => e (sk_inj z))] at hv
      obtain ⟨b, ys, cs', hb, mb, g1, g2, gm, g3⟩ := GR.old (c := c) h2 hv nd.2
      refine ⟨b, ys, cs', hb, List.mem_cons_of_mem _ mb, g1, g2, List.mem_cons_of_mem _ gm, fun H' u kb tk e2 vu => ?_⟩
      unfold addG
      rw [if_neg e]
      have nab : a ≠ b := by
        intro z
        subst z
        exact nd.1 mb
      exact ⟨a, r, rfl, ⟨xs, kb _ _ e1 nab, VDs.keep tk _ _ d1⟩, g3 H' u kb tk e2 vu⟩
theorem addG_sum (g : Grp) (s : Nat) (c : Cel) (n : Nat) (h : ∀ e ∈ g, e.2.length ≤ n) : ∀ e ∈ addG g s c, e.2.length ≤ n + 1 := by
  induction g with
  | nil =>
    intro e he
    rw [show addG [] s c = [(s, [c])] from rfl, List.mem_singleton] at he
    subst he
    exact Nat.succ_le_succ (Nat.zero_le _)
  | cons k g ih =>
    obtain ⟨k, cs⟩ := k
    intro e he
    unfold addG at he
    have h0 := h (k, cs) (by simp)
    have ih := ih fun e he => h e (List.mem_cons_of_mem _ he)
    split at he
    · rcases List.mem_cons.mp he with z | z
      · subst z
        simp only [List.length_append, List.length_cons, List.length_nil]
        dsimp only at h0
        omega
      · have := h e (List.mem_cons_of_mem _ z)
        omega
    · rcases List.mem_cons.mp he with z | z
      · subst z
        dsimp only at h0 ⊢
        omega
      · exact ih e z
def spPicture (K : PySem.W.Frag) : Sp := fun vs H Q _ => ∃ (p : Addr) (l t : Int) (pic : List (List Nat)) (pw : Nat) (rel : List Crn), vs = [.ref p, .int l, .int t] ∧ Pic pic pw rel ∧ (∀ H', SqT K H' p (rowsV pic)) ∧ ∀ q H', H q = none → Same H H' → Ls eCrn H' q (rel.map (shK l t)) → Q (.ref q) H'
theorem sc_picture : FnScope ["picture", "left", "top", "cells_of", "x", "y"] ["picture", "left", "top"] (defScope s_picture_corners) := ⟨rfl, rfl, rfl, by decide +kernel, rfl, by decide +kernel, by decide +kernel⟩
theorem nd_cells : (["cells"] : List Str).Nodup := by decide +kernel
theorem ok_picture (D : Df K mg "picture_corners" s_picture_corners ["picture", "left", "top"]) (B : Bi mg) : FnOk P w K mg base CX0 1 D.f D.fd ["picture", "left", "top"] (spPicture K) := by
  refine D.F.ok sc_picture (fun vs H Q E h => ?_) (fun cdv A outer s H vs Q E hr h => ?_)
  · obtain ⟨_, _, _, _, _, _, rfl, _⟩ := h
    rfl
  · obtain ⟨p, l, t, pic, pw, rel, rfl, pc, hp, k⟩ := h
    have nd := sc_picture.nd
    refine ⟨_, pss_cons (ps_set (i := 3) nd rfl (Or.inl rfl) pe_dnewK)
      (pss_cons (ps_for PassesOwn.never rfl (pi_range1 (by rfl) B.b.range (pa_cons (pe_callB call_len_str (by rfl) B.b.len PySem.boot_len (pa_cons (pe_ix (r := rIxT K) ix_tup (pv 0) pe_int (fun _ _ => rfl)) pa_nil)) pa_nil)) (pg_name (i := 4) nd rfl (Or.inl rfl))
        (pss_one (ps_for PassesOwn.never rfl (pi_range1 (by rfl) B.b.range (pa_cons (pe_callB call_len_seq (by rfl) B.b.len PySem.boot_len (pa_cons (pv 0) pa_nil)) pa_nil)) (pg_name (i := 5) nd rfl (Or.inl rfl))
          (pss_one (ps_expr (pe_bm PySem.F.plainAttrs_list PySem.F.slot_list_append PySem.F.type_list_append mt_append (pe_dsetdK (pv 3) (pe_ix ix_str (pe_ix (r := rIxT K) ix_tup (pv 0) (pv 5) (fun _ _ => rfl)) (pv 4) (fun _ _ => rfl)) (pe_lst pa_nil) ⟨rfl, rfl, rfl, rfl⟩)
            (pa_cons (pe_tup (pa_cons (pe_op op_add (pv 1) (pv 4)) (pa_cons (pe_op op_add (pv 2) (pv 5)) pa_nil))) pa_nil)))))))
      (pss_one (ps_ret (pe_comp (N := ["cells"]) (caps := [none]) (CompScope.of rfl) rfl (pi_vals (pv 3)) (gkeeps_name rfl) (fun d => pg_name (i := 0) nd_cells rfl (Or.inl rfl)) (fun d => pts_nil) (fun d => pe_callTy (r := fun xs H Q => ∃ p ys, xs = [V.ref p] ∧ ((SqL K H p ys ∧ ∀ l, H l = none → Q (.ref l) (upd H l (.tup ys))) ∨ (SqT K H p ys ∧ Q (.ref p) H))) call_tuple_of (by rfl) B.tuple PyProof.Rows.boot_tuple (pa_cons (pv 0) pa_nil)))))), ?_⟩
    intro d hd
    have s1 : Same H (upd H d (.dK [])) := same_of_upd hd
    have e1 : upd H d (.dK []) d = some (.dK []) := upd_same
    generalize upd H d (.dK []) = H1 at s1 e1 ⊢
    have hpl : (rowsV pic).length = pic.length := rowsV_len pic
    obtain ⟨r0, q0, _⟩ := pc.at (x := 0) (y := 0) (by have := pc.w1; omega) (by have := pc.h1; omega)
    have l0 : r0.length = pw := pc.row r0 (List.mem_of_getElem? q0)
    have w9 := pc.w9
    have h9 := pc.h9
    have zr : ∀ r ∈ pic, (mkS r).length ≤ sizeLine := fun r hr' => by
      rw [mkS_len, pc.row r hr']
      exact Nat.le_of_lt (small1000 (by omega))
    refine ⟨_, rfl, p, _, 0, _, rfl, rfl, hp _, rows_at (i := 0) q0, mkS r0, rfl, zr r0 (List.mem_of_getElem? q0), ?_⟩
    rw [mkS_len, l0]
    refine ⟨_, rfl, by omega, by omega, for_range (n := ((pw : Nat) : Int).toNat) (fun i σ H3 => ∃ (a b : Option V) (kvs : List (Key × V)), σ = [some (.ref p), some (.int l), some (.int t), some (.ref d), a, b] ∧ Same H H3 ∧ H3 d = some (.dK kvs) ∧ GR H3 l t (grpN pic i) kvs ∧ (kvs.map (·.2)).Nodup ∧ (∀ e ∈ kvs, ∃ a, e.2 = V.ref a ∧ H a = none) ∧ ∀ e ∈ grpN pic i, e.2.length ≤ i * 9)
      ⟨none, none, [], rfl, s1, e1, rfl, List.nodup_nil, (fun e he => by simp at he), fun e he => by simp [grpN] at he⟩ ?_ ?_⟩
    · rintro i σ H3 hi ⟨a, b, kvs, rfl, s3, h3, g3, n3, f3, b3⟩
      have hiw : i < pw := by omega
      refine ⟨_, rfl, p, _, rfl, .inr (hp _), ?_⟩
      rw [hpl]
      refine ⟨_, rfl, by omega, by omega, for_range (n := ((pic.length : Nat) : Int).toNat) (fun j σ H4 => ∃ (b : Option V) (kvs : List (Key × V)), σ = [some (.ref p), some (.int l), some (.int t), some (.ref d), some (.int (0 + (i : Int))), b] ∧ Same H H4 ∧ H4 d = some (.dK kvs) ∧ GR H4 l t (colG pic (grpN pic i) i j) kvs ∧ (kvs.map (·.2)).Nodup ∧ (∀ e ∈ kvs, ∃ a, e.2 = V.ref a ∧ H a = none) ∧ ∀ e ∈ colG pic (grpN pic i) i j, e.2.length ≤ i * 9 + j)
        ⟨b, kvs, rfl, s3, h3, g3, n3, f3, b3⟩ ?_ ?_⟩
      · rintro j σ H4 hj ⟨b', kvs4, rfl, s4, h4, g4, n4, f4, b4⟩
        have hjl : j < pic.length := by omega
        obtain ⟨r, hr', hs⟩ := pc.at hiw hjl
        have atr : atI (rowsV pic) (0 + (j : Int)) = some (.str (mkS r)) := by rw [Int.zero_add]; exact rows_at hr'
        have ats : atI (mkS r).cps.toList (0 + (i : Int)) = some (sgAt pic i j) := by rw [Int.zero_add]; exact atI_nat hs
        have lk : kvs4.length ≤ 200 := by
          rw [g4.len]
          have q1 := colG_len pic (grpN pic i) i j
          have q2 := grpN_len pic i
          have q3 : i * pic.length ≤ 9 * 9 := Nat.mul_le_mul (by omega) h9
          omega
        -- setdefault
        refine ⟨_, rfl, d, rfl, .inl ⟨kvs4, .inl h4⟩, _, rfl, _, rfl, p, _, _, _, rfl, rfl, hp _, atr, _, rfl, mkS r, _, _, rfl, rfl, zr r (List.mem_of_getElem? hr'), ats, Nat.zero_le _, fun z hz => ?_⟩
        have s5 : Same H4 (upd H4 z (.lst [])) := same_of_upd hz
        have e5 : upd H4 z (.lst []) z = some (.lst []) := upd_same
        generalize upd H4 z (.lst []) = H5 at s5 e5 ⊢
        have d5 : H5 d = some (.dK kvs4) := s5 _ _ h4
        have ndz : d ≠ z := ne_of_none h4 hz
        have ec : ∀ H6 q, VD (upd H6 q (.tup [.int (l + (0 + (i : Int))), .int (t + (0 + (j : Int)))])) (eCel.enc (shC l t (((i : Nat) : Int), ((j : Nat) : Int)))) (.ref q) := by
          intro H6 q
          refine vd_cel.mpr ⟨q, rfl, ?_⟩
          rw [upd_same]
          show _ = some (HO.tup [.int (l + (i : Int)), .int (t + (j : Int))])
          rw [Int.zero_add, Int.zero_add]
        have bnd : ∀ e ∈ colG pic (grpN pic i) i (j + 1), e.2.length ≤ i * 9 + (j + 1) := addG_sum _ _ _ _ b4
        refine ⟨kvs4, sk (sgAt pic i j), d5, rfl, small1000 (by omega), fun v hv => ?_, fun hv => ?_⟩
        · -- met before
          obtain ⟨a5, xs5, cs5, rfl, ma, ha5, da5, mg5, go⟩ := (g4.same s5).old (c := (((i : Nat) : Int), ((j : Nat) : Int))) hv n4
          have lx : xs5.length ≤ 200 := by
            have q1 := map_cel_len da5
            rw [List.length_map] at q1
            have q2 := b4 _ mg5
            have q3 : i * 9 ≤ 9 * 9 := Nat.mul_le_mul_right _ (by omega)
            dsimp only at q2
            omega
          refine ⟨.inl ⟨rfl, _, SqL.of ha5⟩, _, rfl, _, rfl, _, _, rfl, rfl, _, rfl, _, rfl, _, _, rfl, rfl, by show 2 ≤ sizeLine; decide, fun q hq => ?_⟩
          have naq : a5 ≠ q := ne_of_none ha5 hq
          have nda : d ≠ a5 := ne_of d5 ha5 (by intro z; cases z)
          refine ⟨a5, xs5, _, rfl, rfl, by rw [upd_ne naq]; exact ha5, small1000 (by omega), ?_⟩
          have fa6 : H a5 = none := by
            obtain ⟨e, he, ee⟩ := List.mem_map.mp ma
            obtain ⟨a6, ea6, fa6⟩ := f4 e he
            rw [ee] at ea6
            cases ea6
            exact fa6
          have sq : Same H5 (upd H5 q (.tup [.int (l + (0 + (i : Int))), .int (t + (0 + (j : Int)))])) := same_of_upd hq
          have tk7 : TupK H5 (upd (upd H5 q (.tup [.int (l + (0 + (i : Int))), .int (t + (0 + (j : Int)))])) a5 (.lst (xs5 ++ [.ref q]))) := (TupK.new hq).trans (.lst (ys := xs5) (by rw [upd_ne naq]; exact ha5))
          refine ⟨_, kvs4, rfl, ?_, ?_, go _ (.ref q) (fun b o e hb => by rw [upd_ne hb]; exact sq _ _ e) tk7 upd_same (VD.keep (.lst (ys := xs5) (by rw [upd_ne naq]; exact ha5)) _ _ (ec H5 q)), n4, f4, bnd⟩
          · exact (((s4.trans s5).new ((s4.trans s5).free hq))).new fa6
          · rw [upd_ne nda]
            exact sq _ _ d5
        · -- met first
          have nz : ∀ e ∈ kvs4, e.2 ≠ V.ref z := by
            intro e he ez
            obtain ⟨i', hi'⟩ := List.mem_iff_getElem?.mp he
            obtain ⟨cs', a', _, ea, ⟨xs', ha', _⟩⟩ := g4.get (k := e.1) (x := e.2) hi'
            rw [ez] at ea
            cases ea
            rw [hz] at ha'
            cases ha'
          have e6 : upd H5 d (.dK (putK kvs4 (sk (sgAt pic i j)) (.ref z))) z = some (.lst []) := by rw [upd_ne ndz.symm]; exact e5
          refine ⟨.inl ⟨rfl, _, SqL.of e6⟩, _, rfl, _, rfl, _, _, rfl, rfl, _, rfl, _, rfl, _, _, rfl, rfl, by show 2 ≤ sizeLine; decide, fun q hq => ?_⟩
          have nzq : z ≠ q := ne_of_none e6 hq
          have ndq : d ≠ q := ne_of_none (upd_same (H := H5) (a := d) (o := .dK (putK kvs4 (sk (sgAt pic i j)) (.ref z)))) hq
          have hq5 : H5 q = none := by rw [upd_ne ndq.symm] at hq; exact hq
          refine ⟨z, [], _, rfl, rfl, by rw [upd_ne nzq]; exact e6, by decide, ?_⟩
          have ep : putK kvs4 (sk (sgAt pic i j)) (.ref z) = kvs4 ++ [(sk (sgAt pic i j), V.ref z)] := putK_new _ hv
          rw [ep]
          have g5 := g4.same s5
          have nd5 : ∀ e ∈ kvs4, e.2 ≠ V.ref d := by
            intro e he ez
            obtain ⟨i', hi'⟩ := List.mem_iff_getElem?.mp he
            obtain ⟨cs', a', _, ea, ⟨xs', ha', _⟩⟩ := g4.get (k := e.1) (x := e.2) hi'
            rw [ez] at ea
            cases ea
            rw [h4] at ha'
            cases ha'
          have tk6 : TupK H5 (upd H5 d (.dK (kvs4 ++ [(sk (sgAt pic i j), V.ref z)]))) := .upd fun xs e => by rw [d5] at e; cases e
          have g6 := g5.but (H' := upd H5 d (.dK (kvs4 ++ [(sk (sgAt pic i j), V.ref z)]))) (fun b o e hb => by rw [upd_ne hb]; exact e) tk6 nd5
          rw [ep] at hq e6
          have s6 : Same H (upd H5 d (.dK (kvs4 ++ [(sk (sgAt pic i j), V.ref z)]))) := (s4.trans s5).new hd
          have d6 : upd H5 d (.dK (kvs4 ++ [(sk (sgAt pic i j), V.ref z)])) d = some (.dK (kvs4 ++ [(sk (sgAt pic i j), V.ref z)])) := upd_same
          generalize upd H5 d (.dK (kvs4 ++ [(sk (sgAt pic i j), V.ref z)])) = H6 at g6 hq e6 s6 d6 ⊢
          have sq : Same H6 (upd H6 q (.tup [.int (l + (0 + (i : Int))), .int (t + (0 + (j : Int)))])) := same_of_upd hq
          have tk7 : TupK H6 (upd (upd H6 q (.tup [.int (l + (0 + (i : Int))), .int (t + (0 + (j : Int)))])) z (.lst ([] ++ [.ref q]))) := (TupK.new hq).trans (.lst (ys := []) (by rw [upd_ne nzq]; exact e6))
          have g7 := g6.but (x := z) (H' := upd (upd H6 q (.tup [.int (l + (0 + (i : Int))), .int (t + (0 + (j : Int)))])) z (.lst ([] ++ [.ref q]))) (fun b o e hb => by rw [upd_ne hb]; exact sq _ _ e) tk7 nz
          have v7 := VD.keep (.lst (ys := []) (by rw [upd_ne nzq]; exact e6) : TupK (upd H6 q (.tup [.int (l + (0 + (i : Int))), .int (t + (0 + (j : Int)))])) (upd (upd H6 q (.tup [.int (l + (0 + (i : Int))), .int (t + (0 + (j : Int)))])) z (.lst ([] ++ [.ref q])))) _ _ (ec H6 q)
          refine ⟨_, kvs4 ++ [(sk (sgAt pic i j), V.ref z)], rfl, (s6.new (s6.free hq)).new (s4.free hz), ?_, GR.new ⟨_, upd_same, ⟨_, _, rfl, v7, rfl⟩⟩ g7 hv, ?_, ?_, bnd⟩
          · rw [upd_ne ndz, upd_ne ndq]
            exact d6
          · rw [List.map_append, List.nodup_append]
            refine ⟨n4, by simp, fun u hu v hv' e => ?_⟩
            simp only [List.map_cons, List.map_nil, List.mem_singleton] at hv'
            obtain ⟨x, hx, ex⟩ := List.mem_map.mp hu
            exact nz x hx (by rw [ex, e, hv'])
          · intro e he
            rcases List.mem_append.mp he with u | u
            · exact f4 e u
            · rw [List.mem_singleton] at u
              subst u
              exact ⟨z, rfl, s4.free hz⟩
      · rintro σ H4 ⟨b', kvs4, rfl, s4, h4, g4, n4, f4, b4⟩
        rw [Int.toNat_natCast] at g4 b4
        refine ⟨_, _, kvs4, rfl, s4, h4, g4, n4, f4, fun e he => ?_⟩
        have := b4 e he
        rw [Nat.succ_mul]
        omega
    · rintro σ H3 ⟨a, b, kvs, rfl, s3, h3, g3, n3, f3, b3⟩
      rw [Int.toNat_natCast] at g3
      refine ⟨_, rfl, d, kvs, rfl, h3, fun ob Dl hDl => ?_⟩
      have nd3 : ∀ e ∈ kvs, e.2 ≠ V.ref d := by
        intro e he ez
        obtain ⟨i', hi'⟩ := List.mem_iff_getElem?.mp he
        obtain ⟨cs', a', _, ea, ⟨xs', ha', _⟩⟩ := g3.get (k := e.1) (x := e.2) hi'
        rw [ez] at ea
        cases ea
        rw [h3] at ha'
        cases ha'
      have tk4 : TupK H3 (upd H3 d (.frz ob (.dK kvs))) := .upd fun xs e => by rw [h3] at e; cases e
      have g4 := g3.but (H' := upd H3 d (.frz ob (.dK kvs))) (fun b o e hb => by rw [upd_ne hb]; exact e) tk4 nd3
      have d4 : upd H3 d (.frz ob (.dK kvs)) d = some (.frz ob (.dK kvs)) := upd_same
      have s4 : Same H (upd H3 d (.frz ob (.dK kvs))) := s3.new hd
      generalize upd H3 d (.frz ob (.dK kvs)) = H4 at g4 d4 s4 hDl ⊢
      have nD : ∀ e ∈ kvs, e.2 ≠ V.ref Dl := by
        intro e he ez
        obtain ⟨i', hi'⟩ := List.mem_iff_getElem?.mp he
        obtain ⟨cs', a', _, ea, ⟨xs', ha', _⟩⟩ := g4.get (k := e.1) (x := e.2) hi'
        rw [ez] at ea
        cases ea
        rw [hDl] at ha'
        cases ha'
      have ndD : d ≠ Dl := ne_of_none d4 hDl
      have lkr : kvs.length = rel.length := by
        rw [g4.len, ← List.length_map (f := fun e : Nat × List Cel => e.2), pc.eq, List.length_map]
      refine comp_vals (kvs := kvs) (fun i ys H5 => H5 d = some (.frz ob (.dK kvs)) ∧ Same H H5 ∧ GR H5 l t (grpN pic pw) kvs ∧ H5 Dl = some (.lst ys) ∧ VDs H5 (((rel.take i).map (shK l t)).map eCrn.enc) ys)
        ⟨by rw [upd_ne ndD]; exact d4, s4.new (s4.free hDl), g4.same (same_of_upd hDl), upd_same, rfl⟩ (fun i ys H5 _ q => q.1) ?_ ?_
      · rintro i kk x ys H5 hk ⟨d5, s5, g5, D5, v5⟩
        obtain ⟨cs, a', e1, rfl, ⟨xs, hx, dx⟩⟩ := g5.get hk
        rw [pc.eq, List.getElem?_map] at e1
        obtain ⟨k', hk', ek⟩ := Option.map_eq_some_iff.mp e1
        subst ek
        dsimp only [gName]
        refine yesT ?_
        refine iteT ⟨_, rfl, a', xs, rfl, .inl ⟨SqL.of hx, fun q hq => ?_⟩⟩
        have nDq : Dl ≠ q := ne_of_none D5 hq
        have ndq : d ≠ q := ne_of_none d5 hq
        have ly := VDs.len v5
        have l20 := pc.len
        rw [List.length_map, List.length_take] at ly
        have sq : Same H5 (upd H5 q (.tup xs)) := same_of_upd hq
        have vq : VD (upd H5 q (.tup xs)) (eCrn.enc (shK l t k')) (.ref q) := vd_crn_of upd_same (VDs.keep (TupK.new hq) _ _ dx)
        have D6 : upd H5 q (.tup xs) Dl = some (.lst ys) := sq _ _ D5
        refine ⟨ys, D6, small1000 (by omega), ?_, ?_, ?_, upd_same, ?_⟩
        · rw [upd_ne ndD]
          exact sq _ _ d5
        · exact (s5.new (s5.free hq)).new (s4.free hDl)
        · exact (g5.same sq).but (x := Dl) (fun b o e hb => by rw [upd_ne hb]; exact e) (.lst D6) nD
        · rw [take_succA hk', List.map_append, List.map_append]
          exact (VDs.keep ((TupK.new hq).trans (.lst D6)) _ _ v5).append ⟨_, _, rfl, VD.keep (.lst D6) _ _ vq, rfl⟩
      · rintro ys H5 ⟨d5, s5, g5, D5, v5⟩
        rw [lkr, List.take_length] at v5
        exact k Dl H5 (s4.free hDl) s5 ⟨ys, D5, v5⟩
theorem step_le {l r c : Int} (h0 : 0 ≤ l) (h1 : r ≤ 16) (hc : 0 < c) : nStep l r c ≤ 16 := by
  unfold nStep Builtin.Range.rangeSize
  rw [if_pos hc]
  by_cases h : l < r
  · rw [if_pos h]
    have : (r - l - 1) / c ≤ r - l - 1 := Int.ediv_le_self _ (by omega)
    omega
  · rw [if_neg h]
    decide
def rowI (rel : List Crn) (pw ph l t : Int) (i m : Nat) : List Crn := (List.range m).flatMap fun (j : Nat) => rel.map (shK (l + (i : Int) * pw) (t + (j : Int) * ph))
theorem rowI_succ (rel : List Crn) (pw ph l t : Int) (i m : Nat) : rowI rel pw ph l t i (m + 1) = rowI rel pw ph l t i m ++ rel.map (shK (l + (i : Int) * pw) (t + (m : Int) * ph)) := by
  unfold rowI
  rw [List.range_succ, List.flatMap_append, List.flatMap_cons, List.flatMap_nil, List.append_nil]
theorem layI_succ (rel : List Crn) (pw ph l t : Int) (n m : Nat) : layI rel pw ph l t (n + 1) m = layI rel pw ph l t n m ++ rowI rel pw ph l t n m := by
  unfold layI rowI
  rw [List.range_succ, List.flatMap_append, List.flatMap_cons, List.flatMap_nil, List.append_nil]
theorem rowI_len {rel : List Crn} (pw ph l t : Int) (i : Nat) (hr : rel.length ≤ 20) : ∀ m, (rowI rel pw ph l t i m).length ≤ m * 20
  | 0 => Nat.zero_le _
  | m + 1 => by
    rw [rowI_succ, List.length_append, List.length_map, Nat.succ_mul]
    have := rowI_len pw ph l t i hr m
    omega
theorem layI_len {rel : List Crn} (pw ph l t : Int) (m : Nat) (hm : m ≤ 16) (hr : rel.length ≤ 20) : ∀ n, (layI rel pw ph l t n m).length ≤ n * 320
  | 0 => Nat.zero_le _
  | n + 1 => by
    rw [layI_succ, List.length_append, Nat.succ_mul]
    have h1 := layI_len pw ph l t m hm hr n
    have h2 := rowI_len pw ph l t n hr m
    omega
theorem lay_len {rel : List Crn} {pw ph l t r b : Int} (hr : rel.length ≤ 20) (h1 : 0 ≤ l) (h2 : 0 ≤ t) (h3 : r ≤ 16) (h4 : b ≤ 16) (hw : 0 < pw) (hh : 0 < ph) : (lay rel pw ph l t r b).length ≤ 5120 := by
  have q1 := step_le h1 h3 hw
  have q2 := step_le h2 h4 hh
  have := layI_len pw ph l t _ q2 hr (nStep l r pw)
  unfold lay
  omega
def spLaid (K : PySem.W.Frag) : Sp := fun vs H Q _ => ∃ (p : Addr) (l t r b : Int) (pic : List (List Nat)) (pw : Nat) (rel : List Crn), vs = [.ref p, .int l, .int t, .int r, .int b] ∧ Pic pic pw rel ∧ (∀ H', SqT K H' p (rowsV pic)) ∧ (0 ≤ l ∧ l ≤ 16 ∧ 0 ≤ t ∧ t ≤ 16 ∧ 0 ≤ r ∧ r ≤ 16 ∧ 0 ≤ b ∧ b ≤ 16) ∧ ∀ q H', H q = none → Same H H' → Ls eCrn H' q (lay rel (pw : Int) (pic.length : Int) l t r b) → Q (.ref q) H'
theorem sc_laid : FnScope ["picture", "left", "top", "right", "bottom", "found", "x", "y"] ["picture", "left", "top", "right", "bottom"] (defScope s_laid) := ⟨rfl, rfl, rfl, by decide +kernel, rfl, by decide +kernel, by decide +kernel⟩
theorem ok_laid (D : Df K mg "laid" s_laid ["picture", "left", "top", "right", "bottom"]) (D1 : Df K mg "picture_corners" s_picture_corners ["picture", "left", "top"]) (B : Bi mg) : FnOk P w K mg base CX0 2 D.f D.fd ["picture", "left", "top", "right", "bottom"] (spLaid K) := by
  have G1 : FnOk P w K mg base CX0 1 D1.f D1.fd ["picture", "left", "top"] (spPicture K) := ok_picture D1 B
  refine D.F.ok sc_laid (fun vs H Q E h => ?_) (fun cdv A outer s H vs Q E hr h => ?_)
  · obtain ⟨_, _, _, _, _, _, _, _, rfl, _⟩ := h
    rfl
  · obtain ⟨p, l, t, r, b, pic, pw, rel, rfl, pc, hp, ⟨l0, l1, t0, t1, r0, r1, b0, b1⟩, k⟩ := h
    have nd := sc_laid.nd
    refine ⟨_, pss_cons (ps_set (i := 5) nd rfl (Or.inl rfl) (pe_lst pa_nil))
      (pss_cons (ps_for PassesOwn.never rfl (pi_range3 (by rfl) B.b.range (pa_cons (pv 1) (pa_cons (pv 3) (pa_cons (pe_callB call_len_str (by rfl) B.b.len PySem.boot_len (pa_cons (pe_ix (r := rIxT K) ix_tup (pv 0) pe_int (fun _ _ => rfl)) pa_nil)) pa_nil)))) (pg_name (i := 6) nd rfl (Or.inl rfl))
        (pss_one (ps_for PassesOwn.never rfl (pi_range3 (by rfl) B.b.range (pa_cons (pv 2) (pa_cons (pv 4) (pa_cons (pe_callB call_len_seq (by rfl) B.b.len PySem.boot_len (pa_cons (pv 0) pa_nil)) pa_nil)))) (pg_name (i := 7) nd rfl (Or.inl rfl))
          (pss_one (ps_expr (pe_bm PySem.F.plainAttrs_list PySem.F.slot_list_extend PySem.F.type_list_extend mt_extend (pv 5) (pa_cons (pe_call G1 hr rfl D1.mgf D1.F.kp D1.b .nil pass0 (pa_cons (pv 0) (pa_cons (pv 6) (pa_cons (pv 7) pa_nil)))) pa_nil)))))))
      (pss_one (ps_ret (pv 5)))), ?_⟩
    refine ⟨Nat.zero_le _, fun lf hlf => ?_⟩
    have s1 : Same H (upd H lf (.lst [])) := same_of_upd hlf
    have e1 : upd H lf (.lst []) lf = some (.lst []) := upd_same
    generalize upd H lf (.lst []) = H1 at s1 e1 ⊢
    obtain ⟨rr, q0, _⟩ := pc.at (x := 0) (y := 0) (by have := pc.w1; omega) (by have := pc.h1; omega)
    have lr : rr.length = pw := pc.row rr (List.mem_of_getElem? q0)
    have w9 := pc.w9
    have w1 := pc.w1
    have h9 := pc.h9
    have h1 := pc.h1
    have n1 := step_le (c := (pw : Int)) l0 r1 (by omega)
    have n2 := step_le (c := (pic.length : Int)) t0 b1 (by omega)
    have l20 := pc.len
    refine ⟨_, rfl, _, rfl, _, rfl, p, _, 0, _, rfl, rfl, hp _, rows_at (i := 0) q0, mkS rr, rfl, by rw [mkS_len, lr]; exact Nat.le_of_lt (small1000 (by omega)), ?_⟩
    rw [mkS_len, lr]
    refine ⟨l, r, (pw : Int), rfl, ⟨l0, by omega, r0, by omega, by omega, by omega⟩, for_step (n := nStep l r (pw : Int)) (fun i σ H3 => ∃ (a e : Option V), σ = [some (.ref p), some (.int l), some (.int t), some (.int r), some (.int b), some (.ref lf), a, e] ∧ Same H H3 ∧ Ls eCrn H3 lf (layI rel (pw : Int) (pic.length : Int) l t i (nStep t b (pic.length : Int))))
      ⟨none, none, rfl, s1, .nil e1⟩ ?_ ?_⟩
    · rintro i σ H3 hi ⟨a, e, rfl, s3, L3⟩
      refine ⟨_, rfl, _, rfl, _, rfl, p, _, rfl, .inr (hp _), ?_⟩
      rw [rowsV_len]
      refine ⟨t, b, (pic.length : Int), rfl, ⟨t0, by omega, b0, by omega, by omega, by omega⟩, for_step (n := nStep t b (pic.length : Int)) (fun j σ H4 => ∃ (e : Option V), σ = [some (.ref p), some (.int l), some (.int t), some (.int r), some (.int b), some (.ref lf), some (.int (l + ((i : Nat) : Int) * (pw : Int))), e] ∧ Same H H4 ∧ Ls eCrn H4 lf (layI rel (pw : Int) (pic.length : Int) l t i (nStep t b (pic.length : Int)) ++ rowI rel (pw : Int) (pic.length : Int) l t i j))
        ⟨e, rfl, s3, by rw [show rowI rel (pw : Int) (pic.length : Int) l t i 0 = [] from rfl, List.append_nil]; exact L3⟩ ?_ ?_⟩
      · rintro j σ H4 hj ⟨e, rfl, s4, ⟨xs, hx, dx⟩⟩
        refine ⟨_, rfl, .inl ⟨rfl, _, SqL.of hx⟩, _, rfl, _, rfl, _, rfl, p, _, _, pic, pw, rel, rfl, pc, hp, fun q H5 hq s5 ⟨ys, hy, dy⟩ => ?_⟩
        have lx := VDs.len dx
        have ly := VDs.len dy
        rw [List.length_append] at lx
        rw [List.length_map] at ly
        have b1' := layI_len (pw : Int) (pic.length : Int) l t (nStep t b (pic.length : Int)) n2 l20 i
        have b2' := rowI_len (pw : Int) (pic.length : Int) l t i l20 j
        have hx5 := s5 _ _ hx
        refine ⟨lf, q, xs, ys, rfl, rfl, hx5, hy, Nat.le_trans (show xs.length + ys.length ≤ 100000 by omega) (by decide), ?_⟩
        refine ⟨_, rfl, (s4.trans s5).new hlf, ⟨_, upd_same, ?_⟩⟩
        rw [rowI_succ, ← List.append_assoc, List.map_append]
        exact (VDs.keep (s5.tk.trans (.lst hx5)) _ _ dx).append (VDs.keep (.lst hx5) _ _ dy)
      · rintro σ H4 ⟨e, rfl, s4, L4⟩
        exact ⟨_, _, rfl, s4, by rw [layI_succ]; exact L4⟩
    · rintro σ H3 ⟨a, e, rfl, s3, L3⟩
      exact ⟨_, rfl, k lf H3 hlf s3 L3⟩
structure Pics (K : PySem.W.Frag) (mg : Str → Option Value) where
  pS : Addr
  pL : Addr
  pO : Addr
  mS : mg "STANDING" = some (.ref pS)
  mL : mg "LYING" = some (.ref pL)
  mO : mg "ODD" = some (.ref pO)
  sS : ∀ H, SqT K H pS (rowsV picS)
  sL : ∀ H, SqT K H pL (rowsV picL)
  sO : ∀ H, SqT K H pO (rowsV picO)
def spFillR : Sp := fun vs H Q _ => ∃ w h : Nat, vs = [.int w, .int h] ∧ w ≤ 16 ∧ h ≤ 16 ∧ ∀ q H', H q = none → Same H H' → Ls eCrn H' q (fillR w h) → Q (.ref q) H'
theorem sc_fillR : FnScope ["width", "height", "found"] ["width", "height"] (defScope s_fill_rectangle) := ⟨rfl, rfl, rfl, by decide +kernel, rfl, by decide +kernel, by decide +kernel⟩
theorem ext_ls {H : Hp} {lf q : Addr} {xs ys : List V} {cs ds : List Crn} (hx : H lf = some (.lst xs)) (dx : VDs H (cs.map eCrn.enc) xs) (dy : VDs H (ds.map eCrn.enc) ys) : Ls eCrn (upd H lf (.lst (xs ++ ys))) lf (cs ++ ds) :=
  ⟨_, upd_same, by rw [List.map_append]; exact (VDs.keep (.lst hx) _ _ dx).append (VDs.keep (.lst hx) _ _ dy)⟩
theorem sz_lists {n m : Nat} (h : n + m ≤ 100000) : n + m ≤ sizeLine := Nat.le_trans h (by decide)
theorem ok_fillR (U : Pics K mg) (D : Df K mg "fill_rectangle" s_fill_rectangle ["width", "height"]) (D2 : Df K mg "laid" s_laid ["picture", "left", "top", "right", "bottom"]) (D1 : Df K mg "picture_corners" s_picture_corners ["picture", "left", "top"]) (B : Bi mg) : FnOk P w K mg base CX0 3 D.f D.fd ["width", "height"] spFillR := by
  have GL : FnOk P w K mg base CX0 2 D2.f D2.fd ["picture", "left", "top", "right", "bottom"] (spLaid K) := ok_laid D2 D1 B
  refine D.F.ok sc_fillR (fun vs H Q E h => ?_) (fun cdv A outer s H vs Q E hr h => ?_)
  · obtain ⟨_, _, rfl, _⟩ := h
    rfl
  · obtain ⟨w', h', rfl, hw, hh, k⟩ := h
    have nd := sc_fillR.nd
    refine ⟨_, pss_cons (ps_if (pt_cmpR op_eq (pe_op op_mod (pv 0) pe_int) pe_int (nomark _)) (pss_one (ps_ret (pe_call GL hr rfl D2.mgf D2.F.kp D2.b .nil pass0 (pa_cons (pe_glob (v := .ref U.pS) (by rfl) U.mS rfl) (pa_cons pe_int (pa_cons pe_int (pa_cons (pv 0) (pa_cons (pv 1) pa_nil)))))))) pss_nil)
      (pss_cons (ps_if (pt_cmpR op_eq (pe_op op_mod (pv 1) pe_int) pe_int (nomark _)) (pss_one (ps_ret (pe_op op_cat (pe_call GL hr rfl D2.mgf D2.F.kp D2.b .nil pass0 (pa_cons (pe_glob (v := .ref U.pL) (by rfl) U.mL rfl) (pa_cons pe_int (pa_cons pe_int (pa_cons pe_int (pa_cons (pv 1) pa_nil)))))) (pe_call GL hr rfl D2.mgf D2.F.kp D2.b .nil pass0 (pa_cons (pe_glob (v := .ref U.pS) (by rfl) U.mS rfl) (pa_cons pe_int (pa_cons pe_int (pa_cons (pv 0) (pa_cons (pv 1) pa_nil))))))))) pss_nil)
      (pss_cons (ps_set (i := 2) nd rfl (Or.inl rfl) (pe_call GL hr rfl D2.mgf D2.F.kp D2.b .nil pass0 (pa_cons (pe_glob (v := .ref U.pO) (by rfl) U.mO rfl) (pa_cons pe_int (pa_cons pe_int (pa_cons pe_int (pa_cons pe_int pa_nil)))))))
      (pss_cons (ps_expr (pe_bm PySem.F.plainAttrs_list PySem.F.slot_list_extend PySem.F.type_list_extend mt_extend (pv 2) (pa_cons (pe_call GL hr rfl D2.mgf D2.F.kp D2.b .nil pass0 (pa_cons (pe_glob (v := .ref U.pL) (by rfl) U.mL rfl) (pa_cons pe_int (pa_cons pe_int (pa_cons pe_int (pa_cons (pv 1) pa_nil)))))) pa_nil)))
      (pss_cons (ps_expr (pe_bm PySem.F.plainAttrs_list PySem.F.slot_list_extend PySem.F.type_list_extend mt_extend (pv 2) (pa_cons (pe_call GL hr rfl D2.mgf D2.F.kp D2.b .nil pass0 (pa_cons (pe_glob (v := .ref U.pS) (by rfl) U.mS rfl) (pa_cons pe_int (pa_cons pe_int (pa_cons pe_int (pa_cons (pv 1) pa_nil)))))) pa_nil)))
      (pss_cons (ps_expr (pe_bm PySem.F.plainAttrs_list PySem.F.slot_list_extend PySem.F.type_list_extend mt_extend (pv 2) (pa_cons (pe_call GL hr rfl D2.mgf D2.F.kp D2.b .nil pass0 (pa_cons (pe_glob (v := .ref U.pS) (by rfl) U.mS rfl) (pa_cons pe_int (pa_cons pe_int (pa_cons (pv 0) (pa_cons (pv 1) pa_nil)))))) pa_nil)))
      (pss_one (ps_ret (pv 2)))))))), ?_⟩
    have b20S : relS.length ≤ 20 := by decide
    have b20L : relL.length ≤ 20 := by decide
    have b20O : relO.length ≤ 20 := by decide
    refine ⟨_, rfl, _, _, rfl, rfl, (by show (0 : Int) < _; decide), rfl, _, rfl, ?_⟩
    rw [dec_ii]
    by_cases c1 : (w' : Int) % 2 = 0
    · rw [decide_eq_true c1]
      refine iteT ⟨_, rfl, _, rfl, U.pS, _, _, _, _, picS, 2, relS, rfl, isS, U.sS, ⟨by decide, by decide, by decide, by decide, by omega, by omega, by omega, by omega⟩, fun q H1 hq s1 L1 => k q H1 hq s1 ?_⟩
      unfold fillR
      rw [if_pos c1]
      exact L1
    rw [decide_eq_false c1]
    refine iteF ⟨_, rfl, _, _, rfl, rfl, (by show (0 : Int) < _; decide), rfl, _, rfl, ?_⟩
    rw [dec_ii]
    by_cases c2 : (h' : Int) % 2 = 0
    · rw [decide_eq_true c2]
      refine iteT ⟨_, rfl, U.pL, _, _, _, _, picL, 3, relL, rfl, isL, U.sL, ⟨by decide, by decide, by decide, by decide, by decide, by decide, by omega, by omega⟩, fun q1 H1 hq1 s1 ⟨xs, hx, dx⟩ => ?_⟩
      refine ⟨_, rfl, _, rfl, U.pS, _, _, _, _, picS, 2, relS, rfl, isS, U.sS, ⟨by decide, by decide, by decide, by decide, by omega, by omega, by omega, by omega⟩, fun q2 H2 hq2 s2 ⟨ys, hy, dy⟩ => ?_⟩
      have lx := VDs.len dx
      have ly := VDs.len dy
      have z1 := lay_len (rel := relL) (pw := 3) (ph := 2) (l := 0) (t := 0) (r := 3) (b := (h' : Int)) b20L (by decide) (by decide) (by decide) (by omega) (by decide) (by decide)
      have z2 := lay_len (rel := relS) (pw := 2) (ph := 3) (l := 3) (t := 0) (r := (w' : Int)) (b := (h' : Int)) b20S (by decide) (by decide) (by omega) (by omega) (by decide) (by decide)
      have lx' : xs.length ≤ 5120 := by rw [lx]; exact z1
      have ly' : ys.length ≤ 5120 := by rw [ly]; exact z2
      refine ⟨q1, q2, xs, ys, rfl, rfl, s2 _ _ hx, hy, sz_lists (by omega), fun q3 hq3 => ?_⟩
      have s3 : Same H2 (upd H2 q3 (.lst (xs ++ ys))) := same_of_upd hq3
      refine k q3 _ ((s1.trans s2).free hq3) ((s1.trans s2).trans s3) ⟨_, upd_same, ?_⟩
      unfold fillR
      rw [if_neg c1, if_pos c2, List.map_append]
      exact (VDs.keep (s2.trans s3).tk _ _ dx).append (VDs.keep s3.tk _ _ dy)
    rw [decide_eq_false c2]
    refine iteF ⟨U.pO, _, _, _, _, picO, 5, relO, rfl, isO, U.sO, ⟨by decide, by decide, by decide, by decide, by decide, by decide, by decide, by decide⟩, fun lf H1 hlf s1 L1 => ?_⟩
    have z0 := lay_len (rel := relO) (pw := 5) (ph := 9) (l := 0) (t := 0) (r := 5) (b := 9) b20O (by decide) (by decide) (by decide) (by decide) (by decide) (by decide)
    have z1 := lay_len (rel := relL) (pw := 3) (ph := 2) (l := 0) (t := 9) (r := 3) (b := (h' : Int)) b20L (by decide) (by decide) (by decide) (by omega) (by decide) (by decide)
    have z2 := lay_len (rel := relS) (pw := 2) (ph := 3) (l := 3) (t := 9) (r := 5) (b := (h' : Int)) b20S (by decide) (by decide) (by decide) (by omega) (by decide) (by decide)
    have z3 := lay_len (rel := relS) (pw := 2) (ph := 3) (l := 5) (t := 0) (r := (w' : Int)) (b := (h' : Int)) b20S (by decide) (by decide) (by omega) (by omega) (by decide) (by decide)
    obtain ⟨x0, h0, d0⟩ := L1
    have lx0 : x0.length ≤ 5120 := by rw [VDs.len d0]; exact z0
    -- found.extend(laid(LYING, 0, 9, 3, height))
    refine ⟨_, rfl, .inl ⟨rfl, _, SqL.of h0⟩, _, rfl, U.pL, _, _, _, _, picL, 3, relL, rfl, isL, U.sL, ⟨by decide, by decide, by decide, by decide, by decide, by decide, by omega, by omega⟩, fun q1 H2 hq1 s2 ⟨y1, hy1, dy1⟩ => ?_⟩
    have ly1 : y1.length ≤ 5120 := by rw [VDs.len dy1]; exact z1
    refine ⟨lf, q1, x0, y1, rfl, rfl, s2 _ _ h0, hy1, sz_lists (by omega), ?_⟩
    have L3 := ext_ls (q := q1) (s2 _ _ h0) (VDs.keep s2.tk _ _ d0) dy1
    have s3 : Same H (upd H2 lf (.lst (x0 ++ y1))) := (s1.trans s2).new hlf
    generalize upd H2 lf (.lst (x0 ++ y1)) = H3 at L3 s3 ⊢
    obtain ⟨x3, h3, d3⟩ := L3
    have lx3 : x3.length ≤ 10240 := by rw [VDs.len d3, List.length_append]; exact Nat.add_le_add z0 z1
    -- found.extend(laid(STANDING, 3, 9, 5, height))
    refine ⟨_, rfl, .inl ⟨rfl, _, SqL.of h3⟩, _, rfl, U.pS, _, _, _, _, picS, 2, relS, rfl, isS, U.sS, ⟨by decide, by decide, by decide, by decide, by decide, by decide, by omega, by omega⟩, fun q4 H4 hq4 s4 ⟨y4, hy4, dy4⟩ => ?_⟩
    have ly4 : y4.length ≤ 5120 := by rw [VDs.len dy4]; exact z2
    refine ⟨lf, q4, x3, y4, rfl, rfl, s4 _ _ h3, hy4, sz_lists (by omega), ?_⟩
    have L5 := ext_ls (q := q4) (s4 _ _ h3) (VDs.keep s4.tk _ _ d3) dy4
    have s5 : Same H (upd H4 lf (.lst (x3 ++ y4))) := (s3.trans s4).new hlf
    generalize upd H4 lf (.lst (x3 ++ y4)) = H5 at L5 s5 ⊢
    obtain ⟨x5, h5, d5⟩ := L5
    have lx5 : x5.length ≤ 15360 := by rw [VDs.len d5, List.length_append, List.length_append]; exact Nat.add_le_add (Nat.add_le_add z0 z1) z2
    -- found.extend(laid(STANDING, 5, 0, width, height))
    refine ⟨_, rfl, .inl ⟨rfl, _, SqL.of h5⟩, _, rfl, _, rfl, U.pS, _, _, _, _, picS, 2, relS, rfl, isS, U.sS, ⟨by decide, by decide, by decide, by decide, by omega, by omega, by omega, by omega⟩, fun q6 H6 hq6 s6 ⟨y6, hy6, dy6⟩ => ?_⟩
    have ly6 : y6.length ≤ 5120 := by rw [VDs.len dy6]; exact z3
    refine ⟨lf, q6, x5, y6, rfl, rfl, s6 _ _ h5, hy6, sz_lists (by omega), ?_⟩
    have L7 := ext_ls (q := q6) (s6 _ _ h5) (VDs.keep s6.tk _ _ d5) dy6
    refine ⟨_, rfl, k lf _ hlf ((s5.trans s6).new hlf) ?_⟩
    unfold fillR
    rw [if_neg c1, if_neg c2]
    exact L7
def spSwapped : Sp := fun vs H Q _ => ∃ (v : V) (k : Crn), vs = [v] ∧ VD H (eCrn.enc k) v ∧ (∃ x y, k ∈ crns x y) ∧ ∀ q H', Same H H' → VD H' (eCrn.enc (swK k)) (.ref q) → Q (.ref q) H'
theorem sc_swapped : FnScope ["corner"] ["corner"] (defScope s_swapped) := ⟨rfl, rfl, rfl, by decide +kernel, rfl, by decide +kernel, by decide +kernel⟩
theorem nd_xy : (["x", "y"] : List Str).Nodup := by decide +kernel
theorem ok_swapped (D : Df K mg "swapped" s_swapped ["corner"]) (B : Bi mg) : FnOk P w K mg base CX0 1 D.f D.fd ["corner"] spSwapped := by
  refine D.F.ok sc_swapped (fun vs H Q E h => ?_) (fun cdv A outer s H vs Q E hr h => ?_)
  · obtain ⟨_, _, rfl, _⟩ := h
    rfl
  · obtain ⟨v, kk, rfl, hv, ⟨x, y, hk⟩, k⟩ := h
    obtain ⟨t, v1, v2, v3, rfl, ht, q1, q2, q3⟩ := vd_crn.mp hv
    refine ⟨_, pss_one (ps_ret (pe_callTy call_tuple_of (by rfl) B.tuple PyProof.Rows.boot_tuple (pa_cons (pe_callB (call_sorted cmp_cel (room100 hr)) (by rfl) B.sorted PyProof.Rows.boot_sorted (pa_cons
      (pe_comp (N := ["x", "y"]) (caps := [none, none]) (CompScope.of rfl) rfl (pi_tup (pv 0)) (gkeeps_two (K := K) rfl rfl) (fun d => pg_tup rfl (pgs_cons (pg_name (i := 0) nd_xy rfl (Or.inl rfl)) (pgs_cons (pg_name (i := 1) nd_xy rfl (Or.inl rfl)) pgs_nil))) (fun d => pts_nil) (fun d => pe_tup (pa_cons (pv 1) (pa_cons (pv 0) pa_nil)))) pa_nil)) pa_nil))), ?_⟩
    refine ⟨_, rfl, t, rfl, ⟨_, SqT.of ht⟩, fun Dl hDl => ?_⟩
    have dt : VDs H (([kk.1, kk.2.1, kk.2.2] : List Cel).map eCel.enc) [v1, v2, v3] := ⟨_, _, rfl, q1, _, _, rfl, q2, _, _, rfl, q3, rfl⟩
    refine comp_T (A := eCel) (B := eCel) (cs := [kk.1, kk.2.1, kk.2.2]) (fun _ => true) sw (SqT.of ht) dt (by show 3 ≤ 100000; decide) hDl (fun c u H2 R1 R2 hc hu s2 r1 r2 => ?_) fun H2 s2 L2' => ?_
    · obtain ⟨a, rfl, ha⟩ := vd_cel.mp hu
      refine ⟨a, _, rfl, SqT.of ha, rfl, _, _, rfl, _, _, rfl, rfl, yesT ?_⟩
      refine iteT ⟨_, rfl, _, rfl, by show 2 ≤ sizeLine; decide, fun q hq => ?_⟩
      exact r2 rfl _ _ (same_of_upd hq) (vd_cel.mpr ⟨q, rfl, upd_same⟩)
    · rw [filter_true] at L2'
      obtain ⟨ys, hy, dy⟩ := L2'
      refine ⟨Dl, ys, _, rfl, SqL.of hy, dy, fun zs ds pm st dz q hq => ?_⟩
      have ed : ds = [(swK kk).1, (swK kk).2.1, (swK kk).2.2] := sorted_one (O := oCel) (pm.trans (swK_perm kk).symm) st (crn_kle (isCrn_of (swK_crn hk)))
      subst ed
      have s3 : Same H2 (upd H2 q (.lst zs)) := same_of_upd hq
      have e3 : upd H2 q (.lst zs) q = some (.lst zs) := upd_same
      have d3 := VDs.keep s3.tk _ _ dz
      generalize upd H2 q (.lst zs) = H3 at s3 e3 d3 ⊢
      refine ⟨q, zs, rfl, .inl ⟨SqL.of e3, fun p hp => ?_⟩⟩
      have s4 : Same H3 (upd H3 p (.tup zs)) := same_of_upd hp
      exact k p _ ((s2.trans s3).trans s4) (vd_crn_of upd_same (VDs.keep s4.tk _ _ d3))
def spThree : Sp := fun vs H Q _ => ∃ a b : Int, vs = [.int a, .int b] ∧ Q (.bl (decide (a = 3) && decide (b % 2 = 1))) H
theorem sc_three : FnScope ["one", "other"] ["one", "other"] (defScope s_is_three_by_odd) := ⟨rfl, rfl, rfl, by decide +kernel, rfl, by decide +kernel, by decide +kernel⟩
theorem ok_three (D : Df K mg "is_three_by_odd" s_is_three_by_odd ["one", "other"]) : FnOk P w K mg base CX0 1 D.f D.fd ["one", "other"] spThree := by
  refine D.F.ok sc_three (fun vs H Q E h => ?_) (fun cdv A outer s H vs Q E hr h => ?_)
  · obtain ⟨_, _, rfl, _⟩ := h
    rfl
  · obtain ⟨a, b, rfl, k⟩ := h
    refine ⟨_, pss_one (ps_ret (pe_and (pe_cmpR op_eq (pv 0) pe_int (nomark _)) (pe_one (pe_cmpR op_eq (pe_op op_mod (pv 1) pe_int) pe_int (nomark _))))), ?_⟩
    refine ⟨_, rfl, rfl, _, rfl, ?_⟩
    rw [dec_ii]
    by_cases e : a = 3
    · rw [decide_eq_true e] at k ⊢
      refine iteT ⟨_, rfl, _, _, rfl, rfl, (by show (0 : Int) < _; decide), rfl, ?_⟩
      rw [dec_ii]
      exact k
    · rw [decide_eq_false e] at k ⊢
      exact iteF k
def spCan : Sp := fun vs H Q _ => ∃ a b : Int, vs = [.int a, .int b] ∧ 0 ≤ a ∧ a ≤ 16 ∧ 0 ≤ b ∧ b ≤ 16 ∧ Q (.bl (canF a b)) H
theorem sc_can : FnScope ["width", "height"] ["width", "height"] (defScope s_can_be_filled) := ⟨rfl, rfl, rfl, by decide +kernel, rfl, by decide +kernel, by decide +kernel⟩
theorem ok_can (D : Df K mg "can_be_filled" s_can_be_filled ["width", "height"]) (D1 : Df K mg "is_three_by_odd" s_is_three_by_odd ["one", "other"]) : FnOk P w K mg base CX0 2 D.f D.fd ["width", "height"] spCan := by
  have G1 : FnOk P w K mg base CX0 1 D1.f D1.fd ["one", "other"] spThree := ok_three D1
  refine D.F.ok sc_can (fun vs H Q E h => ?_) (fun cdv A outer s H vs Q E hr h => ?_)
  · obtain ⟨_, _, rfl, _⟩ := h
    rfl
  · obtain ⟨a, b, rfl, a0, a1, b0, b1, k⟩ := h
    refine ⟨_, pss_cons (ps_if (PW.pt (pw_or (pt_cmpR op_ne (pe_op op_mod (pe_op op_mul (pv 0) (pv 1)) pe_int) pe_int (nomark _)) (pw_or (pt_cmpR op_eq (pv 0) pe_int (nomark _)) (pw_or1 (pt_cmpR op_eq (pv 1) pe_int (nomark _)))))) (pss_one (ps_ret pe_bl)) pss_nil)
      (pss_one (ps_ret (pe_and (pe_not (pe_call G1 hr rfl D1.mgf D1.F.kp D1.b .nil pass0 (pa_cons (pv 0) (pa_cons (pv 1) pa_nil)))) (pe_one (pe_not (pe_call G1 hr rfl D1.mgf D1.F.kp D1.b .nil pass0 (pa_cons (pv 1) (pa_cons (pv 0) pa_nil)))))))), ?_⟩
    refine ⟨_, rfl, _, rfl, _, _, rfl, rfl, .inl ⟨by omega, by omega⟩, _, _, rfl, rfl, (by show (0 : Int) < _; decide), rfl, _, rfl, ?_⟩
    rw [dec_ii]
    unfold canF at k
    by_cases e1 : a * b % 3 = 0
    case neg =>
      rw [decide_eq_false e1]
      rw [show decide (a * b % 3 ≠ 0) = true from decide_eq_true e1] at k
      exact iteT (iteT k)
    rw [decide_eq_true e1]
    rw [show decide (a * b % 3 ≠ 0) = false from by simp [e1]] at k
    refine iteF ⟨_, rfl, rfl, _, rfl, ?_⟩
    rw [dec_ii]
    by_cases e2 : a = 1
    · rw [decide_eq_true e2] at k ⊢
      exact iteT (iteT k)
    rw [decide_eq_false e2] at k ⊢
    refine iteF ⟨_, rfl, rfl, _, rfl, ?_⟩
    rw [dec_ii]
    by_cases e3 : b = 1
    · rw [decide_eq_true e3] at k ⊢
      exact iteT k
    rw [decide_eq_false e3] at k ⊢
    refine iteF ⟨_, rfl, _, rfl, a, b, rfl, _, rfl, ?_⟩
    cases e4 : (decide (a = 3) && decide (b % 2 = 1)) with
    | true =>
      rw [e4] at k
      exact ⟨false, rfl, iteF k⟩
    | false =>
      rw [e4] at k
      refine ⟨true, rfl, iteT ⟨_, rfl, _, rfl, b, a, rfl, _, rfl, ?_⟩⟩
      exact k
theorem fillR_len {w h : Nat} (hw : w ≤ 16) (hh : h ≤ 16) : (fillR (w : Int) (h : Int)).length ≤ 20480 := by
  have b20S : relS.length ≤ 20 := by decide
  have b20L : relL.length ≤ 20 := by decide
  have b20O : relO.length ≤ 20 := by decide
  have z0 := lay_len (rel := relO) (pw := 5) (ph := 9) (l := 0) (t := 0) (r := 5) (b := 9) b20O (by decide) (by decide) (by decide) (by decide) (by decide) (by decide)
  have z1 := lay_len (rel := relL) (pw := 3) (ph := 2) (l := 0) (t := 9) (r := 3) (b := (h : Int)) b20L (by decide) (by decide) (by decide) (by omega) (by decide) (by decide)
  have z2 := lay_len (rel := relS) (pw := 2) (ph := 3) (l := 3) (t := 9) (r := 5) (b := (h : Int)) b20S (by decide) (by decide) (by decide) (by omega) (by decide) (by decide)
  have z3 := lay_len (rel := relS) (pw := 2) (ph := 3) (l := 5) (t := 0) (r := (w : Int)) (b := (h : Int)) b20S (by decide) (by decide) (by omega) (by omega) (by decide) (by decide)
  have z4 := lay_len (rel := relL) (pw := 3) (ph := 2) (l := 0) (t := 0) (r := 3) (b := (h : Int)) b20L (by decide) (by decide) (by decide) (by omega) (by decide) (by decide)
  have z5 := lay_len (rel := relS) (pw := 2) (ph := 3) (l := 3) (t := 0) (r := (w : Int)) (b := (h : Int)) b20S (by decide) (by decide) (by omega) (by omega) (by decide) (by decide)
  have z6 := lay_len (rel := relS) (pw := 2) (ph := 3) (l := 0) (t := 0) (r := (w : Int)) (b := (h : Int)) b20S (by decide) (by decide) (by omega) (by omega) (by decide) (by decide)
  unfold fillR layS layL layO
  split
  · omega
  · split
    · rw [List.length_append]
      omega
    · rw [List.length_append, List.length_append, List.length_append]
      omega
def spRect (C c3 : Addr) : Sp := fun vs H Q E => ∃ (p : Addr) (w h : Nat) (G : List Cel), vs = [.ref p] ∧ BoardAt C H p w h G ∧ w ≤ 16 ∧ h ≤ 16 ∧ (gapsOf w h G ≠ [] → ∀ x H', Same H H' → E (.ref c3) (some x) H') ∧
  (gapsOf w h G = [] → canF (w : Int) (h : Int) = false → ∀ H', Same H H' → Q .non H') ∧ (gapsOf w h G = [] → canF (w : Int) (h : Int) = true → ∀ q H', H q = none → Same H H' → Ls eCrn H' q (rectOf w h) → Q (.ref q) H')
theorem sc_rect : FnScope ["board", "width", "height"] ["board"] (defScope s_rectangle_filling) := ⟨rfl, rfl, rfl, by decide +kernel, rfl, by decide +kernel, by decide +kernel⟩
theorem nd_corner : (["corner"] : List Str).Nodup := by decide +kernel
structure RectFns (K : PySem.W.Frag) (mg : Str → Option Value) where
  U : Pics K mg
  picture : Df K mg "picture_corners" s_picture_corners ["picture", "left", "top"]
  laid : Df K mg "laid" s_laid ["picture", "left", "top", "right", "bottom"]
  fill : Df K mg "fill_rectangle" s_fill_rectangle ["width", "height"]
  swapped : Df K mg "swapped" s_swapped ["corner"]
  three : Df K mg "is_three_by_odd" s_is_three_by_odd ["one", "other"]
  can : Df K mg "can_be_filled" s_can_be_filled ["width", "height"]
  rect : Df K mg "rectangle_filling" s_rectangle_filling ["board"]
theorem ok_rect {c3 : Addr} (R : BC K mg) (z3 : XN K "HasGaps" c3) (F : RectFns K mg) (B : Bi mg) : FnOk P w K mg base (CX1 P w) 4 F.rect.f F.rect.fd ["board"] (spRect R.C c3) := by
  have GG : FnOk P w K mg base CX0 1 R.G.f R.G.fd ["self"] (spCells R.C gapsOf) := ok_gaps R.G R.T B.b
  have GW : FnOk P w K mg base CX0 1 R.W.f R.W.fd ["self"] (spSideOf R.C fun w _ => w) := ok_width R.W R.T
  have GH : FnOk P w K mg base CX0 1 R.Hh.f R.Hh.fd ["self"] (spSideOf R.C fun _ h => h) := ok_height R.Hh R.T
  have GC : FnOk P w K mg base CX0 2 F.can.f F.can.fd ["width", "height"] spCan := ok_can F.can F.three
  have GF : FnOk P w K mg base CX0 3 F.fill.f F.fill.fd ["width", "height"] spFillR := ok_fillR F.U F.fill F.laid F.picture B
  have GS : FnOk P w K mg base CX0 1 F.swapped.f F.swapped.fd ["corner"] spSwapped := ok_swapped F.swapped B
  refine F.rect.F.okX sc_rect (fun vs H Q E h => ?_) (fun cdv A outer s H vs Q E hr h => ?_)
  · obtain ⟨_, _, _, _, rfl, _⟩ := h
    rfl
  · obtain ⟨p, w', h', G, rfl, bd, hw, hh, kg, kn, k⟩ := h
    have nd := sc_rect.nd
    have cT := R.T.cl
    have hr1 : Room 1 _ := hr.mono (by decide)
    have hr2 : Room 2 _ := hr.mono (by decide)
    refine ⟨_, pss_cons (ps_if (pt_truth (pe_meth0 (pv 0) cT R.G.m GG hr1 R.G.b .nil pass0) (by intro _; rfl)) (pss_one (ps_raiseK raise_cx rfl rfl z3.hx z3.he rfl (pa_cons pe_str pa_nil))) pss_nil)
      (pss_cons (ps_set (i := 1) nd rfl (Or.inl rfl) (pe_meth0 (pv 0) cT R.W.m GW hr1 R.W.b .nil pass0))
      (pss_cons (ps_set (i := 2) nd rfl (Or.inl rfl) (pe_meth0 (pv 0) cT R.Hh.m GH hr1 R.Hh.b .nil pass0))
      (pss_cons (ps_if (pt_not (pt_val (pe_call GC hr2 rfl F.can.mgf F.can.F.kp F.can.b .nil pass0 (pa_cons (pv 1) (pa_cons (pv 2) pa_nil))))) (pss_one (ps_ret pe_non)) pss_nil)
      (pss_cons (ps_if (pt_cmpR op_eq (pe_op op_mod (pv 2) pe_int) pe_int (nomark _)) (pss_one (ps_ret (pe_call GF hr rfl F.fill.mgf F.fill.F.kp F.fill.b .nil pass0 (pa_cons (pv 1) (pa_cons (pv 2) pa_nil))))) pss_nil)
      (pss_one (ps_ret (pe_comp (N := ["corner"]) (caps := [none]) (CompScope.of rfl) rfl (pi_list (pe_call GF hr rfl F.fill.mgf F.fill.F.kp F.fill.b .nil pass0 (pa_cons (pv 2) (pa_cons (pv 1) pa_nil)))) (gkeeps_name rfl) (fun d => pg_name (i := 0) nd_corner rfl (Or.inl rfl)) (fun d => pts_nil)
        (fun d => pe_call GS hr1 (by rfl) F.swapped.mgf F.swapped.F.kp F.swapped.b .nil pass0 (pa_cons (pv 0) pa_nil))))))))), ?_⟩
    obtain ⟨dx, g, f, xg, xf, hp, _⟩ := id bd
    have no := no_m w' h' g f
    refine ⟨_, rfl, p, dx, _, rfl, hp, no.2.2.1, p, w', h', G, rfl, bd, fun lg xs H1 hlg s1 h1 d1 => ?_⟩
    have lx := map_cel_len d1
    refine ⟨!xs.isEmpty, .inl ⟨xs, SqL.of h1, rfl⟩, ?_⟩
    by_cases hg : gapsOf w' h' G = []
    case neg =>
      have e : (!xs.isEmpty) = true := by
        cases xs with
        | nil => exact absurd (List.eq_nil_of_length_eq_zero lx.symm) hg
        | cons _ _ => rfl
      rw [e]
      exact iteT ⟨by show 1 ≤ sizeLine; decide, fun x hx => kg hg x H1 s1⟩
    have e : (!xs.isEmpty) = false := by
      rw [hg] at lx
      rw [List.eq_nil_of_length_eq_zero lx]
      rfl
    rw [e]
    refine iteF ⟨_, rfl, p, dx, _, rfl, s1 _ _ hp, no.1, p, w', h', G, rfl, bd.same s1, ?_⟩
    refine ⟨_, rfl, p, dx, _, rfl, s1 _ _ hp, no.2.1, p, w', h', G, rfl, bd.same s1, ?_⟩
    refine ⟨_, rfl, _, rfl, (w' : Int), (h' : Int), rfl, by omega, by omega, by omega, by omega, _, rfl, ?_⟩
    cases hc : canF (w' : Int) (h' : Int) with
    | false => exact iteT (kn hg hc H1 s1)
    | true =>
      refine iteF ⟨_, rfl, _, _, rfl, rfl, (by show (0 : Int) < _; decide), rfl, _, rfl, ?_⟩
      rw [dec_ii]
      by_cases h3 : h' % 3 = 0
      · rw [decide_eq_true (by dsimp only; omega)]
        refine iteT ⟨_, rfl, _, rfl, w', h', rfl, hw, hh, fun q H2 hq s2 L2' => k hg hc q H2 (s1.free hq) (s1.trans s2) ?_⟩
        unfold rectOf
        rw [if_pos h3]
        exact L2'
      · rw [decide_eq_false (by dsimp only; omega)]
        refine iteF ⟨_, rfl, _, rfl, h', w', rfl, hh, hw, fun q H2 hq s2 ⟨ys, hy, dy⟩ => ?_⟩
        have ly := VDs.len dy
        refine ⟨q, rfl, ⟨_, SqL.of hy⟩, fun Dl hDl => ?_⟩
        refine comp_L (A := eCrn) (B := eCrn) (cs := fillR (h' : Int) (w' : Int)) (fun _ => true) swK (SqL.of hy) dy ?_ hDl (fun c v H3 R1 R2 hc' hv s3 r1 r2 => ?_) fun H3 s3 L3 => ?_
        · have := fillR_len (w := h') (h := w') hh hw
          omega
        · dsimp only [gName]
          refine yesT ?_
          exact iteT ⟨_, rfl, v, c, rfl, hv, fillR_crn c hc', fun q4 H4 s4 v4 => r2 rfl _ _ s4 v4⟩
        · rw [filter_true] at L3
          refine k hg hc Dl H3 ((s1.trans s2).free hDl) ((s1.trans s2).trans s3) ?_
          unfold rectOf
          rw [if_neg h3]
          exact L3
def spRMarks (Z : XS K mg) (C : Addr) : Sp := fun vs H Q _ => ∃ (p : Addr) (w h : Nat) (G : List Cel), vs = [.ref p] ∧ BoardAt C H p w h G ∧ w ≤ 16 ∧ h ≤ 16 ∧ gapsOf w h G ≠ [] ∧ ∀ l H', Same H H' → Ls eBool H' l (mk7 3) → Q (.ref l) H'
theorem sc_rmarks : FnScope ["board", "marks", "e"] ["board"] (defScope s_law_marks) := ⟨rfl, rfl, rfl, by decide +kernel, rfl, by decide +kernel, by decide +kernel⟩
theorem ok_rmarks (R : BC K mg) (X : XS K mg) (z3 : XN K "HasGaps" X.c3) (r3 : XR X X.c3 3) (F : RectFns K mg) (B : Bi mg) (D : Df K mg "_law_marks" s_law_marks ["board"]) (D1 : Df K mg "_law_marks_of" s_law_marks_of ["e"]) : FnOk P w K mg base CX0 5 D.f D.fd ["board"] (spRMarks X R.C) := by
  have GM : FnOkN P w K mg base 1 D1.f D1.fd ["e"] (spMarksOf X) := ok_marks_of X D1 B.isi
  have GR : FnOk P w K mg base (CX1 P w) 4 F.rect.f F.rect.fd ["board"] (spRect R.C X.c3) := ok_rect R z3 F B
  refine D.F.ok sc_rmarks (fun vs H Q E h => ?_) (fun cdv A outer s H vs Q E hr h => ?_)
  · obtain ⟨_, _, _, _, rfl, _⟩ := h
    rfl
  · obtain ⟨p, w', h', G, rfl, bd, hw, hh, hg, k⟩ := h
    have nd := sc_rmarks.nd
    have hr1 : Room 1 _ := hr.mono (by decide)
    refine ⟨_, pss_cons (ps_set (i := 1) nd rfl (Or.inl rfl) (pe_lst pa_nil))
      (pss_cons (ps_try (i := 2) (fun _ _ z => z) rfl rfl rfl rfl X.T rfl X.mF nd rfl rfl rfl
        (pssX_one (ps_exprX (pe_callX (fun _ _ z => z) GR hr rfl F.rect.mgf F.rect.F.kp F.rect.b .nil (pa_cons (pv 0) pa_nil))))
        (fun x => pss_one (ps_set (i := 1) nd rfl (Or.inl rfl) (pe_callN GM (hr1.suite _) rfl D1.mgf D1.F.kp D1.b (pa_cons (pv 2) pa_nil)))))
      (pss_one (ps_ret (pv 1)))), ?_⟩
    refine ⟨Nat.zero_le _, fun lm hlm => ?_⟩
    have s1 := same_of_upd (o := .lst []) hlm
    generalize upd H lm (.lst []) = H1 at s1 ⊢
    refine ⟨_, rfl, p, w', h', G, rfl, bd.same s1, hw, hh, fun _ x H2 s2 => ?_, fun z => absurd z hg, fun z => absurd z hg⟩
    refine ⟨_, x, rfl, rfl, r3.xc, fun H3 s3 hx => ?_⟩
    refine ⟨_, rfl, x, _, 3, rfl, hx, r3, fun l H4 hl s4 L4 => ?_⟩
    exact ⟨_, rfl, k l H4 (((s1.trans s2).trans s3).trans s4) L4⟩
theorem passE {X : Cx} : Passes (CX1 X.prog X.w) X E0 := fun _ _ _ _ _ _ _ h => by
  obtain ⟨_, _, _, _, _, _, _, _, _, h⟩ := h
  exact h.elim
abbrev lessI (w h : Int) : Int := if h < w then h else w
def goodB (w h : Int) : Bool := decide (w * h % 3 = 0) && (decide (1 < lessI w h) && (!decide (lessI w h = 3) || decide (w * h % 2 = 0)))
theorem good_all : ((List.range 17).all fun (w : Nat) => (List.range 17).all fun (h : Nat) => decide (w = 0) || decide (h = 0) || (goodB (w : Int) (h : Int) == canF (w : Int) (h : Int))) = true := by decide +kernel
theorem good_is {w h : Nat} (w1 : 1 ≤ w) (w2 : w ≤ 16) (h1 : 1 ≤ h) (h2 : h ≤ 16) : goodB (w : Int) (h : Int) = canF (w : Int) (h : Int) := by
  have a := List.all_eq_true.mp good_all w (List.mem_range.mpr (by omega))
  have b := List.all_eq_true.mp a h (List.mem_range.mpr (by omega))
  rw [decide_eq_false (by omega), decide_eq_false (by omega)] at b
  simpa using b
theorem gaps_none {w h : Nat} : gapsOf w h [] = [] := by
  unfold gapsOf
  rw [List.filter_eq_nil_iff]
  intro c _
  simp
theorem free_none {w h : Nat} : freeOf w h [] = cells w h := by
  unfold freeOf
  rw [List.filter_eq_self]
  intro c _
  simp
theorem gaps_one {w h : Nat} {c : Cel} (hc : c ∈ cells w h) : gapsOf w h [c] ≠ [] := by
  intro e
  have : c ∈ gapsOf w h [c] := List.mem_filter.mpr ⟨hc, by simp⟩
  rw [e] at this
  cases this
theorem cells_kle (w h : Nat) : (cells w h).Pairwise oCel.kle := (cells_rise w h).imp fun q => kle_of q
theorem rect_len {w h : Nat} (hw : w ≤ 16) (hh : h ≤ 16) (f : Fills (rectOf w h) (cells w h)) : (rectOf w h).length ≤ 1000 := by
  have h1 := f.2.length_eq
  rw [cov_len] at h1
  have h2 := cells_le hw hh
  omega
def spLaw (K : PySem.W.Frag) : Sp := fun vs H Q _ => ∃ (a : Addr) (ns : List Int), vs = [.ref a] ∧ SqL K H a (ns.map V.int) ∧ ns.length ≤ 63 ∧ ∀ H', Q (.bl true) H'
theorem sc_law : FnScope ["script", "width", "height", "cell", "gap", "board", "less", "good", "turn", "found"] ["script"] (defScope s_law) := ⟨rfl, rfl, rfl, by decide +kernel, rfl, by decide +kernel, by decide +kernel⟩
structure All (K : PySem.W.Frag) (mg : Str → Option Value) where
  B : Bi mg
  hmax : mg "max" = none
  t1 : Tok
  t2 : Tok
  c1 : mg "SMALLEST_SIDE" = some (.int 1 t1)
  c2 : mg "LARGEST_SIDE" = some (.int 16 t2)
  R : BC K mg
  X : XS K mg
  z3 : XN K "HasGaps" X.c3
  r3 : XR X X.c3 3
  F : RectFns K mg
  is_side : Df K mg "is_side" s_is_side ["number"]
  rising : Df K mg "rising_cells" s_rising_cells ["width", "height"]
  marks : Df K mg "gap_marks" s_gap_marks ["cells", "gaps"]
  cell_at : Df K mg "_law_cell_at" s_law_cell_at ["script", "k"]
  whole : Df K mg "_law_whole" s_law_whole ["found"]
  opn : Df K mg "_law_open" s_law_open ["width", "height", "gaps"]
  is_cell : Df K mg "_law_is_cell" s_law_is_cell ["cell"]
  is_corner : Df K mg "_law_is_corner" s_law_is_corner ["corner"]
  lfilling : Df K mg "_law_is_filling" s_law_is_filling ["found", "cells"]
  marks_of : Df K mg "_law_marks_of" s_law_marks_of ["e"]
  rmarks : Df K mg "_law_marks" s_law_marks ["board"]
  law : Df K mg "law" s_law ["script"]
theorem ok_law (U : All K mg) : FnOk P w K mg base CX0 6 U.law.f U.law.fd ["script"] (spLaw K) := by
  have GA : FnOk P w K mg base CX0 1 U.cell_at.f U.cell_at.fd ["script", "k"] (spCellAt K) := ok_cell_at U.cell_at U.B.b
  have GI : FnOk P w K mg base CX0 3 U.R.I.f U.R.I.fd ["self", "width", "height", "gaps"] (spInit K U.R.C) := ok_init U.R.I U.R.T U.is_side U.c1 U.c2 U.rising U.B.b U.marks
  have GM : FnOk P w K mg base CX0 5 U.rmarks.f U.rmarks.fd ["board"] (spRMarks U.X U.R.C) := ok_rmarks U.R U.X U.z3 U.r3 U.F U.B U.rmarks U.marks_of
  have GR : FnOk P w K mg base (CX1 P w) 4 U.F.rect.f U.F.rect.fd ["board"] (spRect U.R.C U.X.c3) := ok_rect U.R U.z3 U.F U.B
  have GL : FnOk P w K mg base CX0 4 U.lfilling.f U.lfilling.fd ["found", "cells"] spLFilling := ok_lfilling U.lfilling U.is_corner U.is_cell U.whole U.B U.hmax
  have GO : FnOk P w K mg base CX0 1 U.opn.f U.opn.fd ["width", "height", "gaps"] (spOpen K) := ok_open U.opn U.B
  have GG : FnOk P w K mg base CX0 1 U.R.G.f U.R.G.fd ["self"] (spCells U.R.C gapsOf) := ok_gaps U.R.G U.R.T U.B.b
  refine U.law.F.ok sc_law (fun vs H Q E h => ?_) (fun cdv A outer s H vs Q E hr h => ?_)
  · obtain ⟨_, _, rfl, _⟩ := h
    rfl
  · obtain ⟨a, ns, rfl, ha, hn, k⟩ := h
    have nd := sc_law.nd
    have cT := U.R.T.cl
    have hr1 : Room 1 _ := hr.mono (by decide)
    have hr4 : Room 4 _ := hr.mono (by decide)
    refine ⟨_, pss_cons (ps_set (i := 1) nd rfl (Or.inl rfl) (pe_op op_add pe_int (pe_op op_mod (pe_call GA hr1 rfl U.cell_at.mgf U.cell_at.F.kp U.cell_at.b .nil pass0 (pa_cons (pv 0) (pa_cons pe_int pa_nil))) pe_int)))
      (pss_cons (ps_set (i := 2) nd rfl (Or.inl rfl) (pe_op op_add pe_int (pe_op op_mod (pe_call GA hr1 rfl U.cell_at.mgf U.cell_at.F.kp U.cell_at.b .nil pass0 (pa_cons (pv 0) (pa_cons pe_int pa_nil))) pe_int)))
      (pss_cons (ps_set (i := 3) nd rfl (Or.inl rfl) (pe_call GA hr1 rfl U.cell_at.mgf U.cell_at.F.kp U.cell_at.b .nil pass0 (pa_cons (pv 0) (pa_cons pe_int pa_nil))))
      (pss_cons (ps_if (pt_cmpR op_eq (pe_op op_mod (pv 3) pe_int) pe_int (nomark _))
        (pss_cons (ps_set (i := 4) nd rfl (Or.inl rfl) (pe_tup (pa_cons (pe_op op_mod (pe_op op_fdiv (pv 3) pe_int) (pv 1)) (pa_cons (pe_op op_mod (pe_op op_fdiv (pv 3) pe_int) (pv 2)) pa_nil))))
        (pss_one (ps_ret (pe_cmpR (op_eqL (room64 hr)) (pe_call GM hr rfl U.rmarks.mgf U.rmarks.F.kp U.rmarks.b .nil pass0 (pa_cons (pe_make U.R.mak GI hr4 rfl U.R.T.mgC U.R.I.b .nil pass0 (pa_cons (pv 1) (pa_cons (pv 2) (pa_cons (pe_lst (pa_cons (pv 4) pa_nil)) pa_nil)))) pa_nil))
          (pe_comp (N := ["k"]) (caps := [none]) (CompScope.of rfl) rfl (pi_range1 (by rfl) U.B.b.range (pa_cons pe_int pa_nil)) (gkeeps_name rfl) (fun d => pg_name (i := 0) nd_k rfl (Or.inl rfl)) (fun d => pts_nil) (fun d => pe_cmpR op_eq (pv 0) pe_int (nomark _))) (nomark _))))) pss_nil)
      (pss_cons (ps_set (i := 5) nd rfl (Or.inl rfl) (pe_make U.R.mak GI hr4 rfl U.R.T.mgC U.R.I.b .nil pass0 (pa_cons (pv 1) (pa_cons (pv 2) (pa_cons (pe_lst pa_nil) pa_nil)))))
      (pss_cons (ps_set (i := 6) nd rfl (Or.inl rfl) (pe_callB (call_min2 rfl) (by rfl) U.B.min PyProof.Rows.boot_min (pa_cons (pv 1) (pa_cons (pv 2) pa_nil))))
      (pss_cons (ps_set (i := 7) nd rfl (Or.inl rfl) (pe_and (pe_cmpR op_eq (pe_op op_mod (pe_op op_mul (pv 1) (pv 2)) pe_int) pe_int (nomark _)) (pe_and (pe_cmpR op_gt (pv 6) pe_int (nomark _)) (pe_one (pe_or (pe_cmpR op_ne (pv 6) pe_int (nomark _)) (pe_one (pe_cmpR op_eq (pe_op op_mod (pe_op op_mul (pv 1) (pv 2)) pe_int) pe_int (nomark _))))))))
      (pss_cons (ps_for PassesOwn.never rfl (pi_range1 (by rfl) U.B.b.range (pa_cons pe_int pa_nil)) (pg_name (i := 8) nd rfl (Or.inl rfl))
        (pss_cons (ps_set (i := 9) nd rfl (Or.inl rfl) (pe_call GR hr4 rfl U.F.rect.mgf U.F.rect.F.kp U.F.rect.b .nil passE (pa_cons (pv 5) pa_nil)))
        (pss_cons (ps_if (pt_not (pt_val (pv 7))) (pss_one (ps_ret (pe_cmpR op_isN (pv 9) pe_non (nomark _)))) pss_nil)
        (pss_cons (ps_if (pt_not (pt_val (pe_call GL hr4 rfl U.lfilling.mgf U.lfilling.F.kp U.lfilling.b .nil pass0 (pa_cons (pv 9) (pa_cons (pe_call GO hr1 rfl U.opn.mgf U.opn.F.kp U.opn.b .nil pass0 (pa_cons (pv 1) (pa_cons (pv 2) (pa_cons (pe_lst pa_nil) pa_nil)))) pa_nil))))) (pss_one (ps_ret pe_bl)) pss_nil)
        (pss_one (ps_expr (pe_bm0 PySem.F.plainAttrs_list PySem.F.slot_list_clear PySem.F.type_list_clear mt_clear (pv 9))))))))
      (pss_one (ps_ret (pe_cmpR (op_eqL (room64 hr)) (pe_meth0 (pv 5) cT U.R.G.m GG hr1 U.R.G.b .nil pass0) (pe_lst pa_nil) (nomark _))))))))))), ?_⟩
    refine ⟨_, rfl, a, ns, _, rfl, ha, by decide, _, _, rfl, rfl, (by show (0 : Int) < _; decide), _, _, rfl, rfl, ?_⟩
    refine ⟨_, rfl, a, ns, _, rfl, ha, by decide, _, _, rfl, rfl, (by show (0 : Int) < _; decide), _, _, rfl, rfl, ?_⟩
    refine ⟨_, rfl, a, ns, _, rfl, ha, by decide, ?_⟩
    dsimp only
    have m1 := Int.emod_nonneg (cat ns 0) (show (16 : Int) ≠ 0 by decide)
    have m2 := Int.emod_lt_of_pos (cat ns 0) (show (0 : Int) < 16 by decide)
    have m3 := Int.emod_nonneg (cat ns 1) (show (16 : Int) ≠ 0 by decide)
    have m4 := Int.emod_lt_of_pos (cat ns 1) (show (0 : Int) < 16 by decide)
    obtain ⟨w', ew⟩ : ∃ n : Nat, 1 + cat ns 0 % 16 = (n : Int) := ⟨(1 + cat ns 0 % 16).toNat, by omega⟩
    obtain ⟨h', eh⟩ : ∃ n : Nat, 1 + cat ns 1 % 16 = (n : Int) := ⟨(1 + cat ns 1 % 16).toNat, by omega⟩
    rw [ew, eh]
    have w1 : 1 ≤ w' := by omega
    have w2 : w' ≤ 16 := by omega
    have h1 : 1 ≤ h' := by omega
    have h2 : h' ≤ 16 := by omega
    generalize cat ns 2 = cell
    refine ⟨_, rfl, _, _, rfl, rfl, (by show (0 : Int) < _; decide), rfl, _, rfl, ?_⟩
    rw [dec_ii]
    by_cases c1 : cell % 4 = 1
    · rw [decide_eq_true c1]
      refine iteT ⟨_, rfl, _, _, rfl, rfl, ⟨by decide, by decide⟩, _, rfl, _, _, rfl, rfl, (by show (0 : Int) < _; omega), _, rfl, _, _, rfl, rfl, ⟨by decide, by decide⟩, _, rfl, _, _, rfl, rfl, (by show (0 : Int) < _; omega), by show 2 ≤ sizeLine; decide, fun p hp => ?_⟩
      dsimp only
      have hc : (cell / 4 % (w' : Int), cell / 64 % (h' : Int)) ∈ cells w' h' := by
        refine mem_cells.mpr ⟨?_, ?_, ?_, ?_⟩
        · exact Int.emod_nonneg _ (by omega)
        · exact Int.emod_lt_of_pos _ (by omega)
        · exact Int.emod_nonneg _ (by omega)
        · exact Int.emod_lt_of_pos _ (by omega)
      have s1 : Same H (upd H p (.tup [.int (cell / 4 % (w' : Int)), .int (cell / 64 % (h' : Int))])) := same_of_upd hp
      have v1 : VD (upd H p (.tup [.int (cell / 4 % (w' : Int)), .int (cell / 64 % (h' : Int))])) (eCel.enc (cell / 4 % (w' : Int), cell / 64 % (h' : Int))) (.ref p) := vd_cel.mpr ⟨p, rfl, upd_same⟩
      generalize upd H p (.tup [.int (cell / 4 % (w' : Int)), .int (cell / 64 % (h' : Int))]) = H1 at s1 v1 ⊢
      generalize (cell / 4 % (w' : Int), cell / 64 % (h' : Int)) = gap at hc v1
      refine ⟨_, rfl, _, rfl, _, rfl, by show 1 ≤ sizeLine; decide, fun q hq => ?_⟩
      have s2 : Same H1 (upd H1 q (.lst [.ref p])) := same_of_upd hq
      have e2 : upd H1 q (.lst [.ref p]) q = some (.lst [.ref p]) := upd_same
      have v2 := VD.keep s2.tk _ _ v1
      generalize upd H1 q (.lst [.ref p]) = H2 at s2 e2 v2 ⊢
      intro x dx nx ndx nex
      have s3 : Same H2 (upd (upd H2 dx (.own x)) x (.ins U.R.C dx [])) := (same_of_upd ndx).new nx
      refine ⟨x, dx, q, w', h', [.ref p], [gap], rfl, upd_same, SqL.of (s3 _ _ e2), ⟨_, _, rfl, VD.keep s3.tk _ _ v2, rfl⟩, by simp, (fun c hc' => by rw [List.mem_singleton] at hc'; subst hc'; exact hc), w1, w2, h1, h2, fun H4 g f bd fg ff kp => ⟨rfl, ?_⟩⟩
      refine ⟨x, w', h', [gap], rfl, bd.bat, w2, h2, gaps_one hc, fun l H5 s5 L5 => ?_⟩
      exact list7 3 fun l6 H6 hl6 s6 L6 => eqB (L5.same s6) L6 (k _)
    rw [decide_eq_false c1]
    -- board = Board(width, height, [])
    refine iteF ⟨_, rfl, _, rfl, Nat.zero_le _, fun q hq => ?_⟩
    have s2 : Same H (upd H q (.lst [])) := same_of_upd hq
    have e2 : upd H q (.lst []) q = some (.lst []) := upd_same
    generalize upd H q (.lst []) = H2 at s2 e2 ⊢
    intro x dx nx ndx nex
    have s3 : Same H2 (upd (upd H2 dx (.own x)) x (.ins U.R.C dx [])) := (same_of_upd ndx).new nx
    refine ⟨x, dx, q, w', h', [], [], rfl, upd_same, SqL.of (s3 _ _ e2), rfl, by simp, (fun c hc' => by cases hc'), w1, w2, h1, h2, fun H4 g f bd fg ff kp => ⟨rfl, ?_⟩⟩
    have bd4 : BoardAt U.R.C H4 x w' h' [] := bd.bat
    clear kp bd
    -- less, good
    refine ⟨_, rfl, _, rfl, _, _, rfl, ?_⟩
    dsimp only [gName]
    refine seq_cut (fun σ H5 => H5 = H4 ∧ σ = [some (.ref a), some (.int w'), some (.int h'), some (.int cell), none, some (.ref x), some (.int (lessI (w' : Int) (h' : Int))), some (.bl (canF (w' : Int) (h' : Int))), none, none]) (fun R hR => ?_) ?_
    · have fin : ∀ b : Bool, goodB (w' : Int) (h' : Int) = b → R [some (.ref a), some (.int w'), some (.int h'), some (.int cell), none, some (.ref x), some (.int (lessI (w' : Int) (h' : Int))), some (.bl b), none, none] H4 := by
        intro b hb
        rw [good_is w1 w2 h1 h2] at hb
        subst hb
        exact hR _ _ ⟨rfl, rfl⟩
      refine ⟨_, rfl, _, rfl, _, _, rfl, rfl, .inl ⟨by omega, by omega⟩, _, _, rfl, rfl, (by show (0 : Int) < _; decide), rfl, _, rfl, ?_⟩
      rw [dec_ii]
      by_cases g1 : (w' : Int) * (h' : Int) % 3 = 0
      case neg =>
        rw [decide_eq_false g1]
        exact iteF (fin false (by unfold goodB; rw [decide_eq_false g1]; rfl))
      rw [decide_eq_true g1]
      refine iteT ⟨_, rfl, _, _, rfl, rfl, _, rfl, ?_⟩
      by_cases g2 : 1 < lessI (w' : Int) (h' : Int)
      case neg =>
        rw [decide_eq_false g2]
        exact iteF (fin false (by unfold goodB; rw [decide_eq_true g1, decide_eq_false g2]; rfl))
      rw [decide_eq_true g2]
      refine iteT ⟨_, rfl, rfl, _, rfl, ?_⟩
      rw [dec_ii]
      by_cases g3 : lessI (w' : Int) (h' : Int) = 3
      case neg =>
        rw [decide_eq_false g3]
        exact iteT (fin true (by unfold goodB; rw [decide_eq_true g1, decide_eq_true g2, decide_eq_false g3]; rfl))
      rw [decide_eq_true g3]
      refine iteF ⟨_, rfl, _, rfl, _, _, rfl, rfl, .inl ⟨by omega, by omega⟩, _, _, rfl, rfl, (by show (0 : Int) < _; decide), rfl, ?_⟩
      rw [dec_ii]
      exact fin _ (by unfold goodB; rw [decide_eq_true g1, decide_eq_true g2, decide_eq_true g3]; rfl)
    · rintro σ H5 ⟨rfl, rfl⟩
      -- the two turns
      refine ⟨_, rfl, by decide, by decide, for_range (n := 2) (fun i σ H6 => ∃ (tn fo : Option V), σ = [some (.ref a), some (.int w'), some (.int h'), some (.int cell), none, some (.ref x), some (.int (lessI (w' : Int) (h' : Int))), some (.bl (canF (w' : Int) (h' : Int))), tn, fo] ∧ Same H5 H6) ⟨none, none, rfl, .refl _⟩ ?_ ?_⟩
      · rintro i σ H6 hi ⟨tn, fo, rfl, s6⟩
        cases hc : canF (w' : Int) (h' : Int) with
        | false =>
          refine ⟨_, rfl, x, w', h', [], rfl, bd4.same s6, w2, h2, fun z => absurd gaps_none z, fun _ _ H7 s7 => ?_, fun _ z => by rw [hc] at z; cases z⟩
          exact ⟨_, rfl, _, rfl, iteT ⟨_, rfl, rfl, k _⟩⟩
        | true =>
          refine ⟨_, rfl, x, w', h', [], rfl, bd4.same s6, w2, h2, fun z => absurd gaps_none z, (fun _ z => by rw [hc] at z; cases z), fun _ _ lf H7 hlf s7 L7 => ?_⟩
          refine ⟨_, rfl, _, rfl, iteF ?_⟩
          have ff := rect_fills w2 h2 hc
          refine ⟨_, rfl, _, rfl, _, rfl, Nat.zero_le _, fun le hle => ?_⟩
          have s8 : Same H7 (upd H7 le (.lst [])) := same_of_upd hle
          have e8 : upd H7 le (.lst []) le = some (.lst []) := upd_same
          generalize upd H7 le (.lst []) = H8 at s8 e8 ⊢
          refine ⟨w', h', le, [], [], rfl, w2, h2, h1, SqL.of e8, rfl, by simp, by simp, fun lc xc H9 hlc s9 e9 d9 => ?_⟩
          rw [free_none] at d9
          have s79 : Same H7 H9 := s8.trans s9
          refine ⟨lf, lc, rectOf w' h', cells w' h', rfl, L7.same s79, ⟨xc, e9, d9⟩, rect_len w2 h2 ff, cells_kle _ _, fun r H10 s10 hr' => ?_⟩
          have er : r = true := hr'.mpr ff
          subst er
          refine ⟨_, rfl, iteF ?_⟩
          obtain ⟨us, hus, _⟩ := (L7.same s79).same s10
          refine ⟨_, rfl, .inl ⟨rfl, _, SqL.of hus⟩, lf, us, rfl, rfl, hus, ?_⟩
          exact ⟨_, _, rfl, ((s6.trans s7).trans (s79.trans s10)).new (s6.free hlf)⟩
      · rintro σ H6 ⟨tn, fo, rfl, s6⟩
        have bd6 := bd4.same s6
        obtain ⟨dx6, g6, f6, xg6, xf6, hp6, _⟩ := id bd6
        have no := no_m w' h' g6 f6
        refine ⟨_, rfl, x, dx6, _, rfl, hp6, no.2.2.1, x, w', h', [], rfl, bd6, fun lg xs H7 hlg s7 e7 d7 => ?_⟩
        refine ⟨Nat.zero_le _, fun le hle => ?_⟩
        have s8 : Same H7 (upd H7 le (.lst [])) := same_of_upd hle
        rw [gaps_none] at d7
        refine ⟨Cel, inferInstance, eCel, lg, le, xs, [], [], [], rfl, rfl, SqL.of (s8 _ _ e7), SqL.of upd_same, VDs.keep s8.tk _ _ d7, rfl, ?_⟩
        simpa using k _
end
theorem sqt_any {K : PySem.W.Frag} {q : Addr} {od : Option Addr} {n : Nat} {sl : Array (Option Value)} {xs : List V} {us : List Value} (h : K.lookup q = some ⟨.type "tuple", od, .seq us.toArray n, sl⟩) (hl : us.length ≤ sizeLine) (r : Vals xs us) (H : Hp) : SqT K H q xs :=
  .inr ⟨_, _, n, h, rfl, rfl, by simpa using hl, by simpa using r⟩
theorem len1 {α : Type} {P : List α → Prop} (h : ∀ a, P [a]) (us : List α) (hl : us.length = 1) : P us := by
  match us, hl with
  | [a], _ => exact h a
theorem len2 {α : Type} {P : List α → Prop} (h : ∀ a b, P [a, b]) (us : List α) (hl : us.length = 2) : P us := by
  match us, hl with
  | [a, b], _ => exact h a b
theorem len3 {α : Type} {P : List α → Prop} (h : ∀ a b c, P [a, b, c]) (us : List α) (hl : us.length = 3) : P us := by
  match us, hl with
  | [a, b, c], _ => exact h a b c
theorem len4 {α : Type} {P : List α → Prop} (h : ∀ a b c d, P [a, b, c, d]) (us : List α) (hl : us.length = 4) : P us := by
  match us, hl with
  | [a, b, c, d], _ => exact h a b c d
theorem len5 {α : Type} {P : List α → Prop} (h : ∀ a b c d e, P [a, b, c, d, e]) (us : List α) (hl : us.length = 5) : P us := by
  match us, hl with
  | [a, b, c, d, e], _ => exact h a b c d e
theorem all_mk {l : PySem.W.OpenLaw} {w : World} {K : PySem.W.Frag} {h : Heap} {mg : Str → Option Value} {fa : Addr} (X : K.In h) (G : h.Ns mainGlobals mg) (hfa : mg "law" = some (.ref fa))
    {f0 : Addr} {od0 an0 : Option Addr} {sl0 : Array (Option Value)} {oc0 kV0 dc0 pm0 cd0 ct0 : Value}
    {f1 : Addr} {od1 an1 : Option Addr} {sl1 : Array (Option Value)} {oc1 kV1 dc1 pm1 cd1 ct1 : Value}
    {f2 : Addr} {od2 an2 : Option Addr} {sl2 : Array (Option Value)} {oc2 kV2 dc2 pm2 cd2 ct2 : Value}
    {f3 : Addr} {od3 an3 : Option Addr} {sl3 : Array (Option Value)} {oc3 kV3 dc3 pm3 cd3 ct3 : Value}
    {f4 : Addr} {od4 an4 : Option Addr} {sl4 : Array (Option Value)} {oc4 kV4 dc4 pm4 cd4 ct4 : Value}
    {f5 : Addr} {od5 an5 : Option Addr} {sl5 : Array (Option Value)} {oc5 kV5 dc5 pm5 cd5 ct5 : Value}
    {f6 : Addr} {od6 an6 : Option Addr} {sl6 : Array (Option Value)} {oc6 kV6 dc6 pm6 cd6 ct6 : Value}
    {f7 : Addr} {od7 an7 : Option Addr} {sl7 : Array (Option Value)} {oc7 kV7 dc7 pm7 cd7 ct7 : Value}
    {f8 : Addr} {od8 an8 : Option Addr} {sl8 : Array (Option Value)} {oc8 kV8 dc8 pm8 cd8 ct8 : Value}
    {f9 : Addr} {od9 an9 : Option Addr} {sl9 : Array (Option Value)} {oc9 kV9 dc9 pm9 cd9 ct9 : Value}
    {f10 : Addr} {od10 an10 : Option Addr} {sl10 : Array (Option Value)} {oc10 kV10 dc10 pm10 cd10 ct10 : Value}
    {f11 : Addr} {od11 an11 : Option Addr} {sl11 : Array (Option Value)} {oc11 kV11 dc11 pm11 cd11 ct11 : Value}
    {f12 : Addr} {od12 an12 : Option Addr} {sl12 : Array (Option Value)} {oc12 kV12 dc12 pm12 cd12 ct12 : Value}
    {f13 : Addr} {od13 an13 : Option Addr} {sl13 : Array (Option Value)} {oc13 kV13 dc13 pm13 cd13 ct13 : Value}
    {f14 : Addr} {od14 an14 : Option Addr} {sl14 : Array (Option Value)} {oc14 kV14 dc14 pm14 cd14 ct14 : Value}
    {f15 : Addr} {od15 an15 : Option Addr} {sl15 : Array (Option Value)} {oc15 kV15 dc15 pm15 cd15 ct15 : Value}
    {f16 : Addr} {od16 an16 : Option Addr} {sl16 : Array (Option Value)} {oc16 kV16 dc16 pm16 cd16 ct16 : Value}
    {f17 : Addr} {od17 an17 : Option Addr} {sl17 : Array (Option Value)} {oc17 kV17 dc17 pm17 cd17 ct17 : Value}
    {f18 : Addr} {od18 an18 : Option Addr} {sl18 : Array (Option Value)} {oc18 kV18 dc18 pm18 cd18 ct18 : Value}
    {C : Addr}
    {f100 : Addr} {od100 an100 : Option Addr} {sl100 : Array (Option Value)} {oc100 kV100 dc100 pm100 cd100 ct100 : Value}
    {f101 : Addr} {od101 an101 : Option Addr} {sl101 : Array (Option Value)} {oc101 kV101 dc101 pm101 cd101 ct101 : Value}
    {f102 : Addr} {od102 an102 : Option Addr} {sl102 : Array (Option Value)} {oc102 kV102 dc102 pm102 cd102 ct102 : Value}
    {f103 : Addr} {od103 an103 : Option Addr} {sl103 : Array (Option Value)} {oc103 kV103 dc103 pm103 cd103 ct103 : Value}
    {f104 : Addr} {od104 an104 : Option Addr} {sl104 : Array (Option Value)} {oc104 kV104 dc104 pm104 cd104 ct104 : Value}
    {t1 t2 : Tok}
    {pS : Addr} {odSx : Option Addr} {nSx : Nat} {slSx : Array (Option Value)} {tS0 tS1 tS2 : Tok}
    {pL : Addr} {odLx : Option Addr} {nLx : Nat} {slLx : Array (Option Value)} {tL0 tL1 : Tok}
    {pO : Addr} {odOx : Option Addr} {nOx : Nat} {slOx : Array (Option Value)} {tO0 tO1 tO2 tO3 tO4 tO5 tO6 tO7 tO8 : Tok}
    {F xc0 xc1 xc2 xc3 xc4 xc5 : Addr}
    {nm_F q_F : Str} {N_F : Addr} {bs_F sub_F : List Value} {hd_F ab_F : Bool} {sn_F : List Str} {col_F : Option Bool} {dd_F : Option Addr} {ka_F kb_F kc_F kd_F ke_F : Option Value}
    {nm_3 q_3 : Str} {N_3 : Addr} {bs_3 sub_3 : List Value} {hd_3 ab_3 : Bool} {sn_3 : List Str} {col_3 : Option Bool} {dd_3 : Option Addr} {ka_3 kb_3 kc_3 kd_3 ke_3 : Option Value}
    (a0 : PySem.W.nsIn K mainGlobals "picture_corners" = some (some (.ref f0)))
    (l0 : K.lookup f0 = some ⟨oc0, od0, .func (PySem.W.fnOf "picture_corners" "picture_corners" (defArgs s_picture_corners) (defBody s_picture_corners) (defScope s_picture_corners) .none kV0 dc0 pm0 an0 cd0 ct0), sl0⟩)
    (c0 : PySem.W.codeIn K cd0 "picture_corners" = true)
    (k0 : PySem.W.keepIn K (.ref f0) = true)
    (a1 : PySem.W.nsIn K mainGlobals "laid" = some (some (.ref f1)))
    (l1 : K.lookup f1 = some ⟨oc1, od1, .func (PySem.W.fnOf "laid" "laid" (defArgs s_laid) (defBody s_laid) (defScope s_laid) .none kV1 dc1 pm1 an1 cd1 ct1), sl1⟩)
    (c1 : PySem.W.codeIn K cd1 "laid" = true)
    (k1 : PySem.W.keepIn K (.ref f1) = true)
    (a2 : PySem.W.nsIn K mainGlobals "fill_rectangle" = some (some (.ref f2)))
    (l2 : K.lookup f2 = some ⟨oc2, od2, .func (PySem.W.fnOf "fill_rectangle" "fill_rectangle" (defArgs s_fill_rectangle) (defBody s_fill_rectangle) (defScope s_fill_rectangle) .none kV2 dc2 pm2 an2 cd2 ct2), sl2⟩)
    (c2 : PySem.W.codeIn K cd2 "fill_rectangle" = true)
    (k2 : PySem.W.keepIn K (.ref f2) = true)
    (a3 : PySem.W.nsIn K mainGlobals "swapped" = some (some (.ref f3)))
    (l3 : K.lookup f3 = some ⟨oc3, od3, .func (PySem.W.fnOf "swapped" "swapped" (defArgs s_swapped) (defBody s_swapped) (defScope s_swapped) .none kV3 dc3 pm3 an3 cd3 ct3), sl3⟩)
    (c3 : PySem.W.codeIn K cd3 "swapped" = true)
    (k3 : PySem.W.keepIn K (.ref f3) = true)
    (a4 : PySem.W.nsIn K mainGlobals "is_three_by_odd" = some (some (.ref f4)))
    (l4 : K.lookup f4 = some ⟨oc4, od4, .func (PySem.W.fnOf "is_three_by_odd" "is_three_by_odd" (defArgs s_is_three_by_odd) (defBody s_is_three_by_odd) (defScope s_is_three_by_odd) .none kV4 dc4 pm4 an4 cd4 ct4), sl4⟩)
    (c4 : PySem.W.codeIn K cd4 "is_three_by_odd" = true)
    (k4 : PySem.W.keepIn K (.ref f4) = true)
    (a5 : PySem.W.nsIn K mainGlobals "can_be_filled" = some (some (.ref f5)))
    (l5 : K.lookup f5 = some ⟨oc5, od5, .func (PySem.W.fnOf "can_be_filled" "can_be_filled" (defArgs s_can_be_filled) (defBody s_can_be_filled) (defScope s_can_be_filled) .none kV5 dc5 pm5 an5 cd5 ct5), sl5⟩)
    (c5 : PySem.W.codeIn K cd5 "can_be_filled" = true)
    (k5 : PySem.W.keepIn K (.ref f5) = true)
    (a6 : PySem.W.nsIn K mainGlobals "rectangle_filling" = some (some (.ref f6)))
    (l6 : K.lookup f6 = some ⟨oc6, od6, .func (PySem.W.fnOf "rectangle_filling" "rectangle_filling" (defArgs s_rectangle_filling) (defBody s_rectangle_filling) (defScope s_rectangle_filling) .none kV6 dc6 pm6 an6 cd6 ct6), sl6⟩)
    (c6 : PySem.W.codeIn K cd6 "rectangle_filling" = true)
    (k6 : PySem.W.keepIn K (.ref f6) = true)
    (a7 : PySem.W.nsIn K mainGlobals "is_side" = some (some (.ref f7)))
    (l7 : K.lookup f7 = some ⟨oc7, od7, .func (PySem.W.fnOf "is_side" "is_side" (defArgs s_is_side) (defBody s_is_side) (defScope s_is_side) .none kV7 dc7 pm7 an7 cd7 ct7), sl7⟩)
    (c7 : PySem.W.codeIn K cd7 "is_side" = true)
    (k7 : PySem.W.keepIn K (.ref f7) = true)
    (a8 : PySem.W.nsIn K mainGlobals "rising_cells" = some (some (.ref f8)))
    (l8 : K.lookup f8 = some ⟨oc8, od8, .func (PySem.W.fnOf "rising_cells" "rising_cells" (defArgs s_rising_cells) (defBody s_rising_cells) (defScope s_rising_cells) .none kV8 dc8 pm8 an8 cd8 ct8), sl8⟩)
    (c8 : PySem.W.codeIn K cd8 "rising_cells" = true)
    (k8 : PySem.W.keepIn K (.ref f8) = true)
    (a9 : PySem.W.nsIn K mainGlobals "gap_marks" = some (some (.ref f9)))
    (l9 : K.lookup f9 = some ⟨oc9, od9, .func (PySem.W.fnOf "gap_marks" "gap_marks" (defArgs s_gap_marks) (defBody s_gap_marks) (defScope s_gap_marks) .none kV9 dc9 pm9 an9 cd9 ct9), sl9⟩)
    (c9 : PySem.W.codeIn K cd9 "gap_marks" = true)
    (k9 : PySem.W.keepIn K (.ref f9) = true)
    (a10 : PySem.W.nsIn K mainGlobals "_law_cell_at" = some (some (.ref f10)))
    (l10 : K.lookup f10 = some ⟨oc10, od10, .func (PySem.W.fnOf "_law_cell_at" "_law_cell_at" (defArgs s_law_cell_at) (defBody s_law_cell_at) (defScope s_law_cell_at) .none kV10 dc10 pm10 an10 cd10 ct10), sl10⟩)
    (c10 : PySem.W.codeIn K cd10 "_law_cell_at" = true)
    (k10 : PySem.W.keepIn K (.ref f10) = true)
    (a11 : PySem.W.nsIn K mainGlobals "_law_whole" = some (some (.ref f11)))
    (l11 : K.lookup f11 = some ⟨oc11, od11, .func (PySem.W.fnOf "_law_whole" "_law_whole" (defArgs s_law_whole) (defBody s_law_whole) (defScope s_law_whole) .none kV11 dc11 pm11 an11 cd11 ct11), sl11⟩)
    (c11 : PySem.W.codeIn K cd11 "_law_whole" = true)
    (k11 : PySem.W.keepIn K (.ref f11) = true)
    (a12 : PySem.W.nsIn K mainGlobals "_law_open" = some (some (.ref f12)))
    (l12 : K.lookup f12 = some ⟨oc12, od12, .func (PySem.W.fnOf "_law_open" "_law_open" (defArgs s_law_open) (defBody s_law_open) (defScope s_law_open) .none kV12 dc12 pm12 an12 cd12 ct12), sl12⟩)
    (c12 : PySem.W.codeIn K cd12 "_law_open" = true)
    (k12 : PySem.W.keepIn K (.ref f12) = true)
    (a13 : PySem.W.nsIn K mainGlobals "_law_is_cell" = some (some (.ref f13)))
    (l13 : K.lookup f13 = some ⟨oc13, od13, .func (PySem.W.fnOf "_law_is_cell" "_law_is_cell" (defArgs s_law_is_cell) (defBody s_law_is_cell) (defScope s_law_is_cell) .none kV13 dc13 pm13 an13 cd13 ct13), sl13⟩)
    (c13 : PySem.W.codeIn K cd13 "_law_is_cell" = true)
    (k13 : PySem.W.keepIn K (.ref f13) = true)
    (a14 : PySem.W.nsIn K mainGlobals "_law_is_corner" = some (some (.ref f14)))
    (l14 : K.lookup f14 = some ⟨oc14, od14, .func (PySem.W.fnOf "_law_is_corner" "_law_is_corner" (defArgs s_law_is_corner) (defBody s_law_is_corner) (defScope s_law_is_corner) .none kV14 dc14 pm14 an14 cd14 ct14), sl14⟩)
    (c14 : PySem.W.codeIn K cd14 "_law_is_corner" = true)
    (k14 : PySem.W.keepIn K (.ref f14) = true)
    (a15 : PySem.W.nsIn K mainGlobals "_law_is_filling" = some (some (.ref f15)))
    (l15 : K.lookup f15 = some ⟨oc15, od15, .func (PySem.W.fnOf "_law_is_filling" "_law_is_filling" (defArgs s_law_is_filling) (defBody s_law_is_filling) (defScope s_law_is_filling) .none kV15 dc15 pm15 an15 cd15 ct15), sl15⟩)
    (c15 : PySem.W.codeIn K cd15 "_law_is_filling" = true)
    (k15 : PySem.W.keepIn K (.ref f15) = true)
    (a16 : PySem.W.nsIn K mainGlobals "_law_marks_of" = some (some (.ref f16)))
    (l16 : K.lookup f16 = some ⟨oc16, od16, .func (PySem.W.fnOf "_law_marks_of" "_law_marks_of" (defArgs s_law_marks_of) (defBody s_law_marks_of) (defScope s_law_marks_of) .none kV16 dc16 pm16 an16 cd16 ct16), sl16⟩)
    (c16 : PySem.W.codeIn K cd16 "_law_marks_of" = true)
    (k16 : PySem.W.keepIn K (.ref f16) = true)
    (a17 : PySem.W.nsIn K mainGlobals "_law_marks" = some (some (.ref f17)))
    (l17 : K.lookup f17 = some ⟨oc17, od17, .func (PySem.W.fnOf "_law_marks" "_law_marks" (defArgs s_law_marks) (defBody s_law_marks) (defScope s_law_marks) .none kV17 dc17 pm17 an17 cd17 ct17), sl17⟩)
    (c17 : PySem.W.codeIn K cd17 "_law_marks" = true)
    (k17 : PySem.W.keepIn K (.ref f17) = true)
    (a18 : PySem.W.nsIn K mainGlobals "law" = some (some (.ref f18)))
    (l18 : K.lookup f18 = some ⟨oc18, od18, .func (PySem.W.fnOf "law" "law" (defArgs s_law) (defBody s_law) (defScope s_law) .none kV18 dc18 pm18 an18 cd18 ct18), sl18⟩)
    (c18 : PySem.W.codeIn K cd18 "law" = true)
    (k18 : PySem.W.keepIn K (.ref f18) = true)
    (aC : PySem.W.nsIn K mainGlobals "Board" = some (some (.ref C)))
    (a100 : PySem.W.findIn K (.ref C) "__init__" = some (some (.ref f100)))
    (i100 : PySem.W.isFn K (.ref f100) = true)
    (l100 : K.lookup f100 = some ⟨oc100, od100, .func (PySem.W.fnOf "__init__" "Board.__init__" (defArgs s_Board_init) (defBody s_Board_init) (defScope s_Board_init) .none kV100 dc100 pm100 an100 cd100 ct100), sl100⟩)
    (c100 : PySem.W.codeIn K cd100 "Board.__init__" = true)
    (k100 : PySem.W.keepIn K (.ref f100) = true)
    (a101 : PySem.W.findIn K (.ref C) "width" = some (some (.ref f101)))
    (i101 : PySem.W.isFn K (.ref f101) = true)
    (l101 : K.lookup f101 = some ⟨oc101, od101, .func (PySem.W.fnOf "width" "Board.width" (defArgs s_Board_width) (defBody s_Board_width) (defScope s_Board_width) .none kV101 dc101 pm101 an101 cd101 ct101), sl101⟩)
    (c101 : PySem.W.codeIn K cd101 "Board.width" = true)
    (k101 : PySem.W.keepIn K (.ref f101) = true)
    (a102 : PySem.W.findIn K (.ref C) "height" = some (some (.ref f102)))
    (i102 : PySem.W.isFn K (.ref f102) = true)
    (l102 : K.lookup f102 = some ⟨oc102, od102, .func (PySem.W.fnOf "height" "Board.height" (defArgs s_Board_height) (defBody s_Board_height) (defScope s_Board_height) .none kV102 dc102 pm102 an102 cd102 ct102), sl102⟩)
    (c102 : PySem.W.codeIn K cd102 "Board.height" = true)
    (k102 : PySem.W.keepIn K (.ref f102) = true)
    (a103 : PySem.W.findIn K (.ref C) "gaps" = some (some (.ref f103)))
    (i103 : PySem.W.isFn K (.ref f103) = true)
    (l103 : K.lookup f103 = some ⟨oc103, od103, .func (PySem.W.fnOf "gaps" "Board.gaps" (defArgs s_Board_gaps) (defBody s_Board_gaps) (defScope s_Board_gaps) .none kV103 dc103 pm103 an103 cd103 ct103), sl103⟩)
    (c103 : PySem.W.codeIn K cd103 "Board.gaps" = true)
    (k103 : PySem.W.keepIn K (.ref f103) = true)
    (a104 : PySem.W.findIn K (.ref C) "open_cells" = some (some (.ref f104)))
    (i104 : PySem.W.isFn K (.ref f104) = true)
    (l104 : K.lookup f104 = some ⟨oc104, od104, .func (PySem.W.fnOf "open_cells" "Board.open_cells" (defArgs s_Board_open_cells) (defBody s_Board_open_cells) (defScope s_Board_open_cells) .none kV104 dc104 pm104 an104 cd104 ct104), sl104⟩)
    (c104 : PySem.W.codeIn K cd104 "Board.open_cells" = true)
    (k104 : PySem.W.keepIn K (.ref f104) = true)
    (pg : PySem.W.plainGet K C Str.empty = true)
    (hd : PySem.W.hasDictIn K C = true)
    (po : PySem.W.plainOver K C = true)
    (sa : PySem.W.findIn K (.ref C) "__setattr__" = some (some (.builtin "object.__setattr__")))
    (mk : PySem.W.makesIn K C = true)
    (kc : PySem.W.keepIn K (.ref C) = true)
    (n0 : PySem.W.findIn K (.ref C) "cells_across" = some none)
    (n1 : PySem.W.findIn K (.ref C) "cells_down" = some none)
    (n2 : PySem.W.findIn K (.ref C) "gap_cells" = some none)
    (n3 : PySem.W.findIn K (.ref C) "free_cells" = some none)
    (s0 : PySem.W.nsIn K mainGlobals "SMALLEST_SIDE" = some (some (.int 1 t1)))
    (s1 : PySem.W.nsIn K mainGlobals "LARGEST_SIDE" = some (some (.int 16 t2)))
    (z0 : PySem.W.nsIn K mainGlobals "range" = some none)
    (z1 : PySem.W.nsIn K mainGlobals "len" = some none)
    (z2 : PySem.W.nsIn K mainGlobals "list" = some none)
    (z3 : PySem.W.nsIn K mainGlobals "isinstance" = some none)
    (z4 : PySem.W.nsIn K mainGlobals "int" = some none)
    (z5 : PySem.W.nsIn K mainGlobals "bool" = some none)
    (z6 : PySem.W.nsIn K mainGlobals "tuple" = some none)
    (z7 : PySem.W.nsIn K mainGlobals "min" = some none)
    (z8 : PySem.W.nsIn K mainGlobals "sorted" = some none)
    (z9 : PySem.W.nsIn K mainGlobals "max" = some none)
    (hS : PySem.W.nsIn K mainGlobals "STANDING" = some (some (.ref pS)))
    (hSo : K.lookup pS = some ⟨.type "tuple", odSx, .seq #[.str (mkS [97, 97]) tS0, .str (mkS [97, 98]) tS1, .str (mkS [98, 98]) tS2] nSx, slSx⟩)
    (hL : PySem.W.nsIn K mainGlobals "LYING" = some (some (.ref pL)))
    (hLo : K.lookup pL = some ⟨.type "tuple", odLx, .seq #[.str (mkS [97, 97, 98]) tL0, .str (mkS [97, 98, 98]) tL1] nLx, slLx⟩)
    (hO : PySem.W.nsIn K mainGlobals "ODD" = some (some (.ref pO)))
    (hOo : K.lookup pO = some ⟨.type "tuple", odOx, .seq #[.str (mkS [97, 97, 98, 99, 99]) tO0, .str (mkS [100, 97, 98, 98, 99]) tO1, .str (mkS [100, 100, 101, 102, 102]) tO2, .str (mkS [103, 101, 101, 104, 102]) tO3, .str (mkS [103, 103, 104, 104, 105]) tO4, .str (mkS [106, 107, 107, 105, 105]) tO5, .str (mkS [106, 106, 107, 108, 108]) tO6, .str (mkS [109, 110, 110, 111, 108]) tO7, .str (mkS [109, 109, 110, 111, 111]) tO8] nOx, slOx⟩)
    (xF : PySem.W.nsIn K mainGlobals "FillError" = some (some (.ref F)))
    (x0 : PySem.W.nsIn K mainGlobals "BadSides" = some (some (.ref xc0)))
    (x1 : PySem.W.nsIn K mainGlobals "BadGap" = some (some (.ref xc1)))
    (x2 : PySem.W.nsIn K mainGlobals "NotOneGap" = some (some (.ref xc2)))
    (x3 : PySem.W.nsIn K mainGlobals "HasGaps" = some (some (.ref xc3)))
    (x4 : PySem.W.nsIn K mainGlobals "TooMany" = some (some (.ref xc4)))
    (x5 : PySem.W.nsIn K mainGlobals "NoText" = some (some (.ref xc5)))
    (xv : PySem.W.nsIn K mainGlobals "ValueError" = some none)
    (xFl : K.lookup F = some (excClassObj nm_F q_F F N_F bs_F vbm hd_F sn_F sub_F ab_F col_F dd_F ka_F kb_F kc_F kd_F ke_F "ValueError.__new__"))
    (xFn : PySem.W.nsOkIn K N_F = true)
    (xFq0 : PySem.W.nsIn K N_F "__init__" = some none)
    (xFq1 : PySem.W.nsIn K N_F "__getattribute__" = some none)
    (xFq2 : PySem.W.nsIn K N_F "__getattr__" = some none)
    (xFq3 : PySem.W.nsIn K N_F "args" = some none)
    (xFs : PySem.W.subIn K (.ref F) (.type "BaseException") = some true)
    (y3l : K.lookup xc3 = some (excClassObj nm_3 q_3 xc3 N_3 bs_3 (.ref F :: vbm) hd_3 sn_3 sub_3 ab_3 col_3 dd_3 ka_3 kb_3 kc_3 kd_3 ke_3 "ValueError.__new__"))
    (y3ga : PySem.W.findIn K (.ref xc3) "__getattribute__" = some (some (.builtin "BaseException.__getattribute__")))
    (y3gn : PySem.W.findIn K (.ref xc3) "__getattr__" = some none)
    (y3fo : PySem.W.findObj K xc3 none "__class__" = some (.bind (.builtin "getset_descriptor.__get__") (.builtin "object.__class__")))
    (y3mr : PySem.W.mroIn K xc3 (.type "object") = some true)
    (y3sb : PySem.W.subIn K (.ref xc3) (.ref F) = some true)
    (y3he : PySem.W.excIn K xc3 vbm "ValueError.__new__" = true)
    (y3k0 : PySem.W.kitOne K (.ref xc3) (.ref xc0) = some false)
    (y3k1 : PySem.W.kitOne K (.ref xc3) (.ref xc1) = some false)
    (y3k2 : PySem.W.kitOne K (.ref xc3) (.ref xc2) = some false)
    (y3k3 : PySem.W.kitOne K (.ref xc3) (.ref xc3) = some true)
    (y3k4 : PySem.W.kitOne K (.ref xc3) (.ref xc4) = some false)
    (y3k5 : PySem.W.kitOne K (.ref xc3) (.ref xc5) = some false)
    (y3kv : PySem.W.kitOne K (.ref xc3) (.type "ValueError") = some true) :
    ∃ fd : FuncData, (∀ (s : Shared) (v : Value), BindsTo s fd ⟨[v], []⟩ [("script", v)]) ∧ ∀ base : Heap, K.In base → base.Ns mainGlobals mg → FnOk l.prog w K mg base CX0 6 fa fd ["script"] (spLaw K) := by
  have e : f18 = fa := by
    have z := (PySem.W.mg_of X G a18).symm.trans hfa
    cases z
    rfl
  subst e
  let D0 : Df K mg "picture_corners" s_picture_corners ["picture", "left", "top"] := ⟨f0, _, fun_mk (st := s_picture_corners) l0 c0 k0, PySem.W.mg_of X G a0, (fun_mk (st := s_picture_corners) l0 c0 k0).binds (ps := ["picture", "left", "top"]) fun _ _ _ _ _ _ us hl => by refine len3 (P := fun us => bindArgs _ ⟨us, []⟩ = pure (List.zip _ us)) ?_ us hl; intro _ _ _; rfl⟩
  let D1 : Df K mg "laid" s_laid ["picture", "left", "top", "right", "bottom"] := ⟨f1, _, fun_mk (st := s_laid) l1 c1 k1, PySem.W.mg_of X G a1, (fun_mk (st := s_laid) l1 c1 k1).binds (ps := ["picture", "left", "top", "right", "bottom"]) fun _ _ _ _ _ _ us hl => by refine len5 (P := fun us => bindArgs _ ⟨us, []⟩ = pure (List.zip _ us)) ?_ us hl; intro _ _ _ _ _; rfl⟩
  let D2 : Df K mg "fill_rectangle" s_fill_rectangle ["width", "height"] := ⟨f2, _, fun_mk (st := s_fill_rectangle) l2 c2 k2, PySem.W.mg_of X G a2, (fun_mk (st := s_fill_rectangle) l2 c2 k2).binds (ps := ["width", "height"]) fun _ _ _ _ _ _ us hl => by refine len2 (P := fun us => bindArgs _ ⟨us, []⟩ = pure (List.zip _ us)) ?_ us hl; intro _ _; rfl⟩
  let D3 : Df K mg "swapped" s_swapped ["corner"] := ⟨f3, _, fun_mk (st := s_swapped) l3 c3 k3, PySem.W.mg_of X G a3, (fun_mk (st := s_swapped) l3 c3 k3).binds (ps := ["corner"]) fun _ _ _ _ _ _ us hl => by refine len1 (P := fun us => bindArgs _ ⟨us, []⟩ = pure (List.zip _ us)) ?_ us hl; intro _; rfl⟩
  let D4 : Df K mg "is_three_by_odd" s_is_three_by_odd ["one", "other"] := ⟨f4, _, fun_mk (st := s_is_three_by_odd) l4 c4 k4, PySem.W.mg_of X G a4, (fun_mk (st := s_is_three_by_odd) l4 c4 k4).binds (ps := ["one", "other"]) fun _ _ _ _ _ _ us hl => by refine len2 (P := fun us => bindArgs _ ⟨us, []⟩ = pure (List.zip _ us)) ?_ us hl; intro _ _; rfl⟩
  let D5 : Df K mg "can_be_filled" s_can_be_filled ["width", "height"] := ⟨f5, _, fun_mk (st := s_can_be_filled) l5 c5 k5, PySem.W.mg_of X G a5, (fun_mk (st := s_can_be_filled) l5 c5 k5).binds (ps := ["width", "height"]) fun _ _ _ _ _ _ us hl => by refine len2 (P := fun us => bindArgs _ ⟨us, []⟩ = pure (List.zip _ us)) ?_ us hl; intro _ _; rfl⟩
  let D6 : Df K mg "rectangle_filling" s_rectangle_filling ["board"] := ⟨f6, _, fun_mk (st := s_rectangle_filling) l6 c6 k6, PySem.W.mg_of X G a6, (fun_mk (st := s_rectangle_filling) l6 c6 k6).binds (ps := ["board"]) fun _ _ _ _ _ _ us hl => by refine len1 (P := fun us => bindArgs _ ⟨us, []⟩ = pure (List.zip _ us)) ?_ us hl; intro _; rfl⟩
  let D7 : Df K mg "is_side" s_is_side ["number"] := ⟨f7, _, fun_mk (st := s_is_side) l7 c7 k7, PySem.W.mg_of X G a7, (fun_mk (st := s_is_side) l7 c7 k7).binds (ps := ["number"]) fun _ _ _ _ _ _ us hl => by refine len1 (P := fun us => bindArgs _ ⟨us, []⟩ = pure (List.zip _ us)) ?_ us hl; intro _; rfl⟩
  let D8 : Df K mg "rising_cells" s_rising_cells ["width", "height"] := ⟨f8, _, fun_mk (st := s_rising_cells) l8 c8 k8, PySem.W.mg_of X G a8, (fun_mk (st := s_rising_cells) l8 c8 k8).binds (ps := ["width", "height"]) fun _ _ _ _ _ _ us hl => by refine len2 (P := fun us => bindArgs _ ⟨us, []⟩ = pure (List.zip _ us)) ?_ us hl; intro _ _; rfl⟩
  let D9 : Df K mg "gap_marks" s_gap_marks ["cells", "gaps"] := ⟨f9, _, fun_mk (st := s_gap_marks) l9 c9 k9, PySem.W.mg_of X G a9, (fun_mk (st := s_gap_marks) l9 c9 k9).binds (ps := ["cells", "gaps"]) fun _ _ _ _ _ _ us hl => by refine len2 (P := fun us => bindArgs _ ⟨us, []⟩ = pure (List.zip _ us)) ?_ us hl; intro _ _; rfl⟩
  let D10 : Df K mg "_law_cell_at" s_law_cell_at ["script", "k"] := ⟨f10, _, fun_mk (st := s_law_cell_at) l10 c10 k10, PySem.W.mg_of X G a10, (fun_mk (st := s_law_cell_at) l10 c10 k10).binds (ps := ["script", "k"]) fun _ _ _ _ _ _ us hl => by refine len2 (P := fun us => bindArgs _ ⟨us, []⟩ = pure (List.zip _ us)) ?_ us hl; intro _ _; rfl⟩
  let D11 : Df K mg "_law_whole" s_law_whole ["found"] := ⟨f11, _, fun_mk (st := s_law_whole) l11 c11 k11, PySem.W.mg_of X G a11, (fun_mk (st := s_law_whole) l11 c11 k11).binds (ps := ["found"]) fun _ _ _ _ _ _ us hl => by refine len1 (P := fun us => bindArgs _ ⟨us, []⟩ = pure (List.zip _ us)) ?_ us hl; intro _; rfl⟩
  let D12 : Df K mg "_law_open" s_law_open ["width", "height", "gaps"] := ⟨f12, _, fun_mk (st := s_law_open) l12 c12 k12, PySem.W.mg_of X G a12, (fun_mk (st := s_law_open) l12 c12 k12).binds (ps := ["width", "height", "gaps"]) fun _ _ _ _ _ _ us hl => by refine len3 (P := fun us => bindArgs _ ⟨us, []⟩ = pure (List.zip _ us)) ?_ us hl; intro _ _ _; rfl⟩
  let D13 : Df K mg "_law_is_cell" s_law_is_cell ["cell"] := ⟨f13, _, fun_mk (st := s_law_is_cell) l13 c13 k13, PySem.W.mg_of X G a13, (fun_mk (st := s_law_is_cell) l13 c13 k13).binds (ps := ["cell"]) fun _ _ _ _ _ _ us hl => by refine len1 (P := fun us => bindArgs _ ⟨us, []⟩ = pure (List.zip _ us)) ?_ us hl; intro _; rfl⟩
  let D14 : Df K mg "_law_is_corner" s_law_is_corner ["corner"] := ⟨f14, _, fun_mk (st := s_law_is_corner) l14 c14 k14, PySem.W.mg_of X G a14, (fun_mk (st := s_law_is_corner) l14 c14 k14).binds (ps := ["corner"]) fun _ _ _ _ _ _ us hl => by refine len1 (P := fun us => bindArgs _ ⟨us, []⟩ = pure (List.zip _ us)) ?_ us hl; intro _; rfl⟩
  let D15 : Df K mg "_law_is_filling" s_law_is_filling ["found", "cells"] := ⟨f15, _, fun_mk (st := s_law_is_filling) l15 c15 k15, PySem.W.mg_of X G a15, (fun_mk (st := s_law_is_filling) l15 c15 k15).binds (ps := ["found", "cells"]) fun _ _ _ _ _ _ us hl => by refine len2 (P := fun us => bindArgs _ ⟨us, []⟩ = pure (List.zip _ us)) ?_ us hl; intro _ _; rfl⟩
  let D16 : Df K mg "_law_marks_of" s_law_marks_of ["e"] := ⟨f16, _, fun_mk (st := s_law_marks_of) l16 c16 k16, PySem.W.mg_of X G a16, (fun_mk (st := s_law_marks_of) l16 c16 k16).binds (ps := ["e"]) fun _ _ _ _ _ _ us hl => by refine len1 (P := fun us => bindArgs _ ⟨us, []⟩ = pure (List.zip _ us)) ?_ us hl; intro _; rfl⟩
  let D17 : Df K mg "_law_marks" s_law_marks ["board"] := ⟨f17, _, fun_mk (st := s_law_marks) l17 c17 k17, PySem.W.mg_of X G a17, (fun_mk (st := s_law_marks) l17 c17 k17).binds (ps := ["board"]) fun _ _ _ _ _ _ us hl => by refine len1 (P := fun us => bindArgs _ ⟨us, []⟩ = pure (List.zip _ us)) ?_ us hl; intro _; rfl⟩
  let D18 : Df K mg "law" s_law ["script"] := ⟨f18, _, fun_mk (st := s_law) l18 c18 k18, PySem.W.mg_of X G a18, (fun_mk (st := s_law) l18 c18 k18).binds (ps := ["script"]) fun _ _ _ _ _ _ us hl => by refine len1 (P := fun us => bindArgs _ ⟨us, []⟩ = pure (List.zip _ us)) ?_ us hl; intro _; rfl⟩
  let D100 : Mt K C "__init__" "Board.__init__" s_Board_init ["self", "width", "height", "gaps"] := ⟨f100, _, fun_mk (st := s_Board_init) l100 c100 k100, ⟨a100, i100, k100⟩, (fun_mk (st := s_Board_init) l100 c100 k100).binds (ps := ["self", "width", "height", "gaps"]) fun _ _ _ _ _ _ us hl => by refine len4 (P := fun us => bindArgs _ ⟨us, []⟩ = pure (List.zip _ us)) ?_ us hl; intro _ _ _ _; rfl⟩
  let D101 : Mt K C "width" "Board.width" s_Board_width ["self"] := ⟨f101, _, fun_mk (st := s_Board_width) l101 c101 k101, ⟨a101, i101, k101⟩, (fun_mk (st := s_Board_width) l101 c101 k101).binds (ps := ["self"]) fun _ _ _ _ _ _ us hl => by refine len1 (P := fun us => bindArgs _ ⟨us, []⟩ = pure (List.zip _ us)) ?_ us hl; intro _; rfl⟩
  let D102 : Mt K C "height" "Board.height" s_Board_height ["self"] := ⟨f102, _, fun_mk (st := s_Board_height) l102 c102 k102, ⟨a102, i102, k102⟩, (fun_mk (st := s_Board_height) l102 c102 k102).binds (ps := ["self"]) fun _ _ _ _ _ _ us hl => by refine len1 (P := fun us => bindArgs _ ⟨us, []⟩ = pure (List.zip _ us)) ?_ us hl; intro _; rfl⟩
  let D103 : Mt K C "gaps" "Board.gaps" s_Board_gaps ["self"] := ⟨f103, _, fun_mk (st := s_Board_gaps) l103 c103 k103, ⟨a103, i103, k103⟩, (fun_mk (st := s_Board_gaps) l103 c103 k103).binds (ps := ["self"]) fun _ _ _ _ _ _ us hl => by refine len1 (P := fun us => bindArgs _ ⟨us, []⟩ = pure (List.zip _ us)) ?_ us hl; intro _; rfl⟩
  let D104 : Mt K C "open_cells" "Board.open_cells" s_Board_open_cells ["self"] := ⟨f104, _, fun_mk (st := s_Board_open_cells) l104 c104 k104, ⟨a104, i104, k104⟩, (fun_mk (st := s_Board_open_cells) l104 c104 k104).binds (ps := ["self"]) fun _ _ _ _ _ _ us hl => by refine len1 (P := fun us => bindArgs _ ⟨us, []⟩ = pure (List.zip _ us)) ?_ us hl; intro _; rfl⟩
  let B : Bi mg := ⟨⟨PySem.W.mg_none_of X G z0, PySem.W.mg_none_of X G z1, PySem.W.mg_none_of X G z2⟩, PySem.W.mg_none_of X G z3, PySem.W.mg_none_of X G z4, PySem.W.mg_none_of X G z5, PySem.W.mg_none_of X G z6, PySem.W.mg_none_of X G z7, PySem.W.mg_none_of X G z8⟩
  let R : BC K mg := ⟨C, ⟨⟨pg, hd, po, sa⟩, n0, n1, n2, n3, PySem.W.mg_of X G aC⟩, D100, ⟨mk, a100, i100, kc⟩, D101, D102, D103, D104⟩
  let Pp : Pics K mg := ⟨pS, pL, pO, PySem.W.mg_of X G hS, PySem.W.mg_of X G hL, PySem.W.mg_of X G hO, fun H => sqt_any (xs := [V.str (mkS [97, 97]), V.str (mkS [97, 98]), V.str (mkS [98, 98])]) hSo (by show 3 ≤ sizeLine; decide) (.cons ⟨_, rfl⟩ (.cons ⟨_, rfl⟩ (.cons ⟨_, rfl⟩ .nil))) H, fun H => sqt_any (xs := [V.str (mkS [97, 97, 98]), V.str (mkS [97, 98, 98])]) hLo (by show 2 ≤ sizeLine; decide) (.cons ⟨_, rfl⟩ (.cons ⟨_, rfl⟩ .nil)) H, fun H => sqt_any (xs := [V.str (mkS [97, 97, 98, 99, 99]), V.str (mkS [100, 97, 98, 98, 99]), V.str (mkS [100, 100, 101, 102, 102]), V.str (mkS [103, 101, 101, 104, 102]), V.str (mkS [103, 103, 104, 104, 105]), V.str (mkS [106, 107, 107, 105, 105]), V.str (mkS [106, 106, 107, 108, 108]), V.str (mkS [109, 110, 110, 111, 108]), V.str (mkS [109, 109, 110, 111, 111])]) hOo (by show 9 ≤ sizeLine; decide) (.cons ⟨_, rfl⟩ (.cons ⟨_, rfl⟩ (.cons ⟨_, rfl⟩ (.cons ⟨_, rfl⟩ (.cons ⟨_, rfl⟩ (.cons ⟨_, rfl⟩ (.cons ⟨_, rfl⟩ (.cons ⟨_, rfl⟩ (.cons ⟨_, rfl⟩ .nil))))))))) H⟩
  let Fr : RectFns K mg := ⟨Pp, D0, D1, D2, D3, D4, D5, D6⟩
  let Z : XS K mg := ⟨F, ⟨⟨_, _, _, _, _, _, _, _, _, _, _, _, _, _, _, xFl, xFn, quiet4 xFq0 xFq1 xFq2 xFq3⟩, xFs⟩, PySem.W.mg_of X G xF, xc0, xc1, xc2, xc3, xc4, xc5, PySem.W.mg_of X G x0, PySem.W.mg_of X G x1, PySem.W.mg_of X G x2, PySem.W.mg_of X G x3, PySem.W.mg_of X G x4, PySem.W.mg_of X G x5, PySem.W.mg_none_of X G xv⟩
  have zn3 : XN K "HasGaps" Z.c3 := ⟨x3, y3he⟩
  have zr3 : XR Z Z.c3 3 := ⟨⟨⟨_, _, _, _, _, _, _, _, _, _, _, _, _, _, _, y3l⟩, y3ga, y3gn, y3fo, y3mr, y3sb⟩, y3k0, y3k1, y3k2, y3k3, y3k4, y3k5, y3kv, by decide⟩
  let U : All K mg := ⟨B, PySem.W.mg_none_of X G z9, t1, t2, PySem.W.mg_of X G s0, PySem.W.mg_of X G s1, R, Z, zn3, zr3, Fr, D7, D8, D9, D10, D11, D12, D13, D14, D15, D16, D17, D18⟩
  exact ⟨D18.fd, fun s v => .of_eq rfl, fun base hK hN => ok_law U⟩
theorem walk {l : PySem.W.OpenLaw} {q : Program} {loose : List Str} {XP : (Str → Option Value) → Heap → Prop} {YP : World → Heap → Prop} {d : DefRec} {K : Params → PySem.W.Frag} (hn : l.most = some 63) (hdf : d.params.defaults = [])
    (hY : ∀ (w : World) (h : Heap), YP w h → (K w.params).In h)
    (F : ∀ (w : World) (mg : Str → Option Value) (fa : Addr) (h : Heap), (K w.params).In h → h.Ns mainGlobals mg → mg d.name = some (.ref fa) →
      ∃ fd : FuncData, (∀ (s : Shared) (u : Value), BindsTo s fd ⟨[u], []⟩ [("script", u)]) ∧ ∀ base : Heap, (K w.params).In base → base.Ns mainGlobals mg → FnOk l.prog w (K w.params) mg base CX0 6 fa fd ["script"] (spLaw (K w.params))) :
    PySem.W.WalkO q loose XP YP l.row.toRowW d [] (fun f vs => PySem.call f vs) :=
  L2.walk_of (n := 63) (k := 6) (x := "script") (CX := fun _ => CX0) (sp := fun w => spLaw (K w.params)) hn (by decide) hdf ⟨rfl, by decide, by decide⟩ hY F (fun _ _ a ns hl _ hS => ⟨a, ns, rfl, hS, hl, fun _ => rfl⟩) fun _ _ _ _ _ z => z
end CF
open PySem PySem.W PyProof.Rows
set_option maxRecDepth 100000 in
set_option maxHeartbeats 0 in
theorem PySem.Challenge.cw_cornerfill_k07_whole_boards_without_gaps_holds : PySem.Challenge.rw_cornerfill_k07_whole_boards_without_gaps.Holds := by
  w_on; o_law; k_head; (case hw => w_witness2)
  k_fill
  refine CF.walk (l := PySem.Challenge.rw_cornerfill_k07_whole_boards_without_gaps) rfl rfl (fun w h Y => PySem.W.kIn_of Y) ?F
  case F =>
    intro w mg fa h KX G hmg
    refine' CF.all_mk KX G hmg ?a0 ?l0 ?c0 ?k0 ?a1 ?l1 ?c1 ?k1 ?a2 ?l2 ?c2 ?k2 ?a3 ?l3 ?c3 ?k3 ?a4 ?l4 ?c4 ?k4 ?a5 ?l5 ?c5 ?k5 ?a6 ?l6 ?c6 ?k6 ?a7 ?l7 ?c7 ?k7 ?a8 ?l8 ?c8 ?k8 ?a9 ?l9 ?c9 ?k9 ?a10 ?l10 ?c10 ?k10 ?a11 ?l11 ?c11 ?k11 ?a12 ?l12 ?c12 ?k12 ?a13 ?l13 ?c13 ?k13 ?a14 ?l14 ?c14 ?k14 ?a15 ?l15 ?c15 ?k15 ?a16 ?l16 ?c16 ?k16 ?a17 ?l17 ?c17 ?k17 ?a18 ?l18 ?c18 ?k18 ?aC ?a100 ?i100 ?l100 ?c100 ?k100 ?a101 ?i101 ?l101 ?c101 ?k101 ?a102 ?i102 ?l102 ?c102 ?k102 ?a103 ?i103 ?l103 ?c103 ?k103 ?a104 ?i104 ?l104 ?c104 ?k104 ?pg ?hd ?po ?sa ?mk ?kc ?n0 ?n1 ?n2 ?n3 ?s0 ?s1 ?z0 ?z1 ?z2 ?z3 ?z4 ?z5 ?z6 ?z7 ?z8 ?z9 ?hS ?hSo ?hL ?hLo ?hO ?hOo ?xF ?x0 ?x1 ?x2 ?x3 ?x4 ?x5 ?xv ?xFl ?xFn ?xFq0 ?xFq1 ?xFq2 ?xFq3 ?xFs ?y3l ?y3ga ?y3gn ?y3fo ?y3mr ?y3sb ?y3he ?y3k0 ?y3k1 ?y3k2 ?y3k3 ?y3k4 ?y3k5 ?y3kv
    (case a0 => k_is)
    (case l0 => k_is)
    (case c0 => k_is)
    (case k0 => k_is)
    (case a1 => k_is)
    (case l1 => k_is)
    (case c1 => k_is)
    (case k1 => k_is)
    (case a2 => k_is)
    (case l2 => k_is)
    (case c2 => k_is)
    (case k2 => k_is)
    (case a3 => k_is)
    (case l3 => k_is)
    (case c3 => k_is)
    (case k3 => k_is)
    (case a4 => k_is)
    (case l4 => k_is)
    (case c4 => k_is)
    (case k4 => k_is)
    (case a5 => k_is)
    (case l5 => k_is)
    (case c5 => k_is)
    (case k5 => k_is)
    (case a6 => k_is)
    (case l6 => k_is)
    (case c6 => k_is)
    (case k6 => k_is)
    (case a7 => k_is)
    (case l7 => k_is)
    (case c7 => k_is)
    (case k7 => k_is)
    (case a8 => k_is)
    (case l8 => k_is)
    (case c8 => k_is)
    (case k8 => k_is)
    (case a9 => k_is)
    (case l9 => k_is)
    (case c9 => k_is)
    (case k9 => k_is)
    (case a10 => k_is)
    (case l10 => k_is)
    (case c10 => k_is)
    (case k10 => k_is)
    (case a11 => k_is)
    (case l11 => k_is)
    (case c11 => k_is)
    (case k11 => k_is)
    (case a12 => k_is)
    (case l12 => k_is)
    (case c12 => k_is)
    (case k12 => k_is)
    (case a13 => k_is)
    (case l13 => k_is)
    (case c13 => k_is)
    (case k13 => k_is)
    (case a14 => k_is)
    (case l14 => k_is)
    (case c14 => k_is)
    (case k14 => k_is)
    (case a15 => k_is)
    (case l15 => k_is)
    (case c15 => k_is)
    (case k15 => k_is)
    (case a16 => k_is)
    (case l16 => k_is)
    (case c16 => k_is)
    (case k16 => k_is)
    (case a17 => k_is)
    (case l17 => k_is)
    (case c17 => k_is)
    (case k17 => k_is)
    (case a18 => k_is)
    (case l18 => k_is)
    (case c18 => k_is)
    (case k18 => k_is)
    (case aC => k_is)
    (case a100 => k_is)
    (case i100 => k_is)
    (case l100 => k_is)
    (case c100 => k_is)
    (case k100 => k_is)
    (case a101 => k_is)
    (case i101 => k_is)
    (case l101 => k_is)
    (case c101 => k_is)
    (case k101 => k_is)
    (case a102 => k_is)
    (case i102 => k_is)
    (case l102 => k_is)
    (case c102 => k_is)
    (case k102 => k_is)
    (case a103 => k_is)
    (case i103 => k_is)
    (case l103 => k_is)
    (case c103 => k_is)
    (case k103 => k_is)
    (case a104 => k_is)
    (case i104 => k_is)
    (case l104 => k_is)
    (case c104 => k_is)
    (case k104 => k_is)
    (case pg => k_is)
    (case hd => k_is)
    (case po => k_is)
    (case sa => k_is)
    (case mk => k_is)
    (case kc => k_is)
    (case n0 => k_is)
    (case n1 => k_is)
    (case n2 => k_is)
    (case n3 => k_is)
    (case s0 => k_is)
    (case s1 => k_is)
    (case z0 => k_is)
    (case z1 => k_is)
    (case z2 => k_is)
    (case z3 => k_is)
    (case z4 => k_is)
    (case z5 => k_is)
    (case z6 => k_is)
    (case z7 => k_is)
    (case z8 => k_is)
    (case z9 => k_is)
    (case hS => k_is)
    (case hSo => k_is)
    (case hL => k_is)
    (case hLo => k_is)
    (case hO => k_is)
    (case hOo => k_is)
    (case xF => k_is)
    (case x0 => k_is)
    (case x1 => k_is)
    (case x2 => k_is)
    (case x3 => k_is)
    (case x4 => k_is)
    (case x5 => k_is)
    (case xv => k_is)
    (case xFl => k_is)
    (case xFn => first | kit_is | kernel_rfl)
    (case xFq0 => k_is)
    (case xFq1 => k_is)
    (case xFq2 => k_is)
    (case xFq3 => k_is)
    (case xFs => k_is)
    (case y3l => k_is)
    (case y3ga => k_is)
    (case y3gn => k_is)
    (case y3fo => first | kit_is | kernel_rfl)
    (case y3mr => k_is)
    (case y3sb => k_is)
    (case y3he => first | kit_is | kernel_rfl)
    (case y3k0 => first | kit_is | kernel_rfl)
    (case y3k1 => first | kit_is | kernel_rfl)
    (case y3k2 => first | kit_is | kernel_rfl)
    (case y3k3 => first | kit_is | kernel_rfl)
    (case y3k4 => first | kit_is | kernel_rfl)
    (case y3k5 => first | kit_is | kernel_rfl)
    (case y3kv => first | kit_is | kernel_rfl)
