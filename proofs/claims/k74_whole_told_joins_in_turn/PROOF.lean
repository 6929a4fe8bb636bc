import PyProof.Rows.All
import Wide.All
import OpenK.AllK
import Wide.FinOn
import Lean
import PyProof.EqAt
import PyProof.EqKinds
import PyProof.TupleCall
import KE.KSortTup
import KE.KItemsList
import KE.KDictList
import PyProof.AttrMissHeap
import KE.KDictOf
import PyProof.NeKinds
import PyProof.IsiHeapPairs
import PyProof.IsiSeqPairs
import PySem.Challenge.RW_copiedhouse_k74_whole_told_joins_in_turn
set_option Elab.async false
set_option linter.all false
set_option maxRecDepth 100000
namespace L2
open PySem PySem.Spec PyProof.Rows
abbrev Key := Sum Int Str
def keyIs : Key → Value → Bool
  | .inl k, v => Value.isInt k v
  | .inr x, v => Value.isStrOf x v
def keyH (w : World) : Key → Int
  | .inl k => hashInt k
  | .inr x => hashStr w x
theorem keyIs_shape : ∀ {k : Key} {v : Value}, keyIs k v = true → (∃ i t, k = Sum.inl i ∧ v = Value.int i t) ∨ (∃ x t, k = Sum.inr x ∧ v = Value.str x t)
  | .inl i, v, h => by
    obtain ⟨t, e⟩ := Value.isInt_shape (k := i) (v := v) h
    exact .inl ⟨i, t, rfl, e⟩
  | .inr x, v, h => by
    obtain ⟨t, e⟩ := Value.isStrOf_shape (x := x) (v := v) h
    exact .inr ⟨x, t, rfl, e⟩
theorem keyIs_int (i : Int) (t : Tok) : keyIs (.inl i) (.int i t) = true := by simp [keyIs, Value.isInt]
theorem keyIs_str (x : Str) (t : Tok) : keyIs (.inr x) (.str x t) = true := by simp [keyIs, Value.isStrOf]
theorem key_ll (a b : Int) : decide ((Sum.inl a : Key) = Sum.inl b) = (a == b) := by
  by_cases e : a = b
  · subst e; simp
  · have h : ¬ (Sum.inl a : Key) = Sum.inl b := fun q => e (Sum.inl.inj q)
    rw [decide_eq_false h]
    exact (beq_eq_false_iff_ne.mpr e).symm
theorem key_rr (a b : Str) : decide ((Sum.inr a : Key) = Sum.inr b) = decide (a = b) := by
  by_cases e : a = b
  · subst e; simp
  · have h : ¬ (Sum.inr a : Key) = Sum.inr b := fun q => e (Sum.inr.inj q)
    rw [decide_eq_false h, decide_eq_false e]
theorem key_lr (a : Int) (b : Str) : decide ((Sum.inl a : Key) = Sum.inr b) = false := decide_eq_false (fun q => nomatch q)
theorem key_rl (a : Str) (b : Int) : decide ((Sum.inr a : Key) = Sum.inl b) = false := decide_eq_false (fun q => nomatch q)
def mixKind (prog : Program) (w : World) : PySem.KeyKind prog w Key where
  is := keyIs
  hash := keyH w
  inj := fun v a b ha hb => by
    rcases keyIs_shape ha with ⟨i, t, rfl, rfl⟩ | ⟨x, t, rfl, rfl⟩
    · rcases keyIs_shape hb with ⟨j, u, rfl, e⟩ | ⟨y, u, rfl, e⟩
      · injection e with e1 _; rw [e1]
      · exact nomatch e
    · rcases keyIs_shape hb with ⟨j, u, rfl, e⟩ | ⟨y, u, rfl, e⟩
      · exact nomatch e
      · injection e with e1 _; rw [e1]
  byValue := fun k v h => by
    rcases keyIs_shape h with ⟨i, t, rfl, rfl⟩ | ⟨x, t, rfl, rfl⟩ <;> rfl
  pyHash := fun hv h => by
    rcases keyIs_shape hv with ⟨i, t, rfl, rfl⟩ | ⟨x, t, rfl, rfl⟩
    · exact wpAny_pyHash_int h
    · exact wpAny_pyHash_str h
  eqBool := fun hu hv h => by
    rcases keyIs_shape hu with ⟨i, t, rfl, rfl⟩ | ⟨x, t, rfl, rfl⟩
    · rcases keyIs_shape hv with ⟨j, u, rfl, rfl⟩ | ⟨y, u, rfl, rfl⟩
      · rw [key_ll] at h; exact wpAny_eqBool_int h
      · rw [key_lr] at h; exact SeqAt.EqAt.int_str i t y u _ _ _ _ h
    · rcases keyIs_shape hv with ⟨j, u, rfl, rfl⟩ | ⟨y, u, rfl, rfl⟩
      · rw [key_rl] at h; exact SeqAt.EqAt.str_int x t j u _ _ _ _ h
      · rw [key_rr] at h; exact wpAny_eqBool_str h
  «strs» := fun k x t v h => by
    rcases keyIs_shape h with ⟨i, u, rfl, e⟩ | ⟨y, u, rfl, e⟩
    · exact nomatch e
    · injection e with e1 _
      subst e1
      cases v <;> rfl
theorem mixKind_int (prog : Program) (w : World) (i : Int) (t : Tok) : (mixKind prog w).is (.inl i) (.int i t) = true := keyIs_int i t
theorem mixKind_str (prog : Program) (w : World) (x : Str) (t : Tok) : (mixKind prog w).is (.inr x) (.str x t) = true := keyIs_str x t
end L2
namespace L2
open PySem PySem.Spec PyProof.Rows
inductive V where
  | non | bl (b : Bool) | int (i : Int) | str (x : Str) | byt (b : Array UInt8) | flt (b : UInt64) | ref (a : Addr) | ty (n : String)
  deriving DecidableEq
def RelV : V → Value → Prop
  | .non, u => u = Value.none
  | .bl b, u => u = Value.bool b
  | .int i, u => ∃ t, u = Value.int i t
  | .str x, u => ∃ t, u = Value.str x t
  | .byt b, u => ∃ t, u = Value.bytes b t
  | .flt b, u => ∃ t, u = Value.float b t
  | .ref a, u => u = Value.ref a
  | .ty n, u => u = Value.type n
abbrev Vals : List V → List Value → Prop := Paired RelV
theorem Vals.length {xs : List V} {us : List Value} (r : Vals xs us) : xs.length = us.length := Paired.length r
theorem Vals.get : ∀ {xs : List V} {us : List Value} {i : Nat} {x : V}, Vals xs us → xs[i]? = some x → ∃ u, us[i]? = some u ∧ RelV x u
  | _, _, _, _, .nil, e => by simp at e
  | _, _, 0, _, .cons r _, e => by simp at e; subst e; exact ⟨_, rfl, r⟩
  | _, _, i + 1, x, .cons _ t, e => by
    obtain ⟨u, h1, h2⟩ := Vals.get (i := i) (x := x) t (by simpa using e)
    exact ⟨u, by simpa using h1, h2⟩
theorem Vals.set {x : V} {u : Value} (r : RelV x u) : ∀ {xs : List V} {us : List Value} (i : Nat), Vals xs us → Vals (xs.set i x) (us.set i u)
  | _, _, _, .nil => .nil
  | _, _, 0, .cons _ t => .cons r t
  | _, _, i + 1, .cons q t => .cons q (Vals.set r i t)
theorem Vals.append : ∀ {xs ys : List V} {us ws : List Value}, Vals xs us → Vals ys ws → Vals (xs ++ ys) (us ++ ws)
  | _, _, _, _, .nil, s => s
  | _, _, _, _, .cons r t, s => .cons r (Vals.append t s)
theorem Vals.take : ∀ {xs : List V} {us : List Value} (n : Nat), Vals xs us → Vals (xs.take n) (us.take n)
  | _, _, 0, _ => .nil
  | _, _, _ + 1, .nil => .nil
  | _, _, n + 1, .cons r t => .cons r (Vals.take n t)
theorem Vals.drop : ∀ {xs : List V} {us : List Value} (n : Nat), Vals xs us → Vals (xs.drop n) (us.drop n)
  | _, _, 0, r => r
  | _, _, _ + 1, .nil => .nil
  | _, _, n + 1, .cons _ t => Vals.drop n t
def RelO : Option V → Option Value → Prop
  | some v, some u => RelV v u
  | none, none => True
  | _, _ => False
def KV {κ : Type} : List (κ × V) → List (κ × Value) → Prop := Paired fun (p : κ × V) (q : κ × Value) => p.1 = q.1 ∧ RelV p.2 q.2
def kV : Key → V
  | .inl i => .int i
  | .inr x => .str x
inductive HO where
  | lst (xs : List V)
  | tup (xs : List V)
  | dK (kvs : List (Key × V)) | dT (kvs : List (List Key × V))
  | set (S : Int → Bool) (n : Nat)
  | ins (C dx : Addr) (fs : List (Str × V))
  | own (x : Addr)
  | xd (fs : List (Str × V))
  | met (f x : Addr)
  | rng (lo hi : Int)
  | frz (o : Obj) (u : HO)
  | tbl (ps : Array Value)
  | ext (φ : Heap → Prop)
abbrev Hp := Addr → Option HO
def upd (H : Hp) (a : Addr) (o : HO) : Hp := fun b => if b = a then some o else H b
theorem upd_same {H : Hp} {a : Addr} {o : HO} : upd H a o a = some o := by unfold upd; rw [if_pos rfl]
theorem upd_ne {H : Hp} {a b : Addr} {o : HO} (h : b ≠ a) : upd H a o b = H b := by unfold upd; rw [if_neg h]
theorem ne_of {H : Hp} {a b : Addr} {o u : HO} (h : H a = some o) (h' : H b = some u) (d : o ≠ u) : a ≠ b := by
  intro e; subst e; rw [h] at h'; exact d (Option.some.inj h')
theorem ne_of_none {H : Hp} {a b : Addr} {o : HO} (h : H a = some o) (h' : H b = none) : a ≠ b := by
  intro e; subst e; rw [h] at h'; cases h'
def IsTupD (h : Heap) (a : Addr) (items : Array Value) : Prop := ∃ o, h.get? a = some o ∧ o.cls = .type "tuple" ∧ ∃ n, o.data = .seq items n ∧ o.dict = none
theorem IsTupD.tup {h : Heap} {a : Addr} {items : Array Value} (x : IsTupD h a items) : IsTup h a items := let ⟨o, e, c, n, d, _⟩ := x; ⟨o, e, c, n, d⟩
theorem IsTupD.lt {h : Heap} {a : Addr} {items : Array Value} (x : IsTupD h a items) : a < h.objs.size := let ⟨_, e, _⟩ := x; Heap.lt_size e
theorem IsTupD.new (h : Heap) (items : Array Value) : IsTupD (h.push { cls := .type "tuple", data := .seq items }) h.objs.size items := ⟨_, Heap.get?_push_size _ rfl, rfl, _, rfl, rfl⟩
section
variable (P : Program) (w : World)
def ObjOk (H : Hp) (h : Heap) (a : Addr) : HO → Prop
  | .lst xs => xs.length ≤ sizeLine ∧ ∃ (its : List Value) (n : Nat), Vals xs its ∧ h.get? a = some { cls := .type "list", data := .seq its.toArray n }
  | .tup xs => xs.length ≤ sizeLine ∧ ∃ its : List Value, Vals xs its ∧ IsTupD h a its.toArray
  | .dK kvs => kvs.length ≤ sizeLine ∧ (a == sysModules) = false ∧ ∃ vs, KV kvs vs ∧ h.DictOf (mixKind P w) a vs
  | .dT kvs => kvs.length ≤ sizeLine ∧ (a == sysModules) = false ∧ ∃ xs : List (List Key × Addr × Value),
      Paired (fun (p : List Key × V) (q : List Key × Addr × Value) => p.1 = q.1 ∧ H q.2.1 = some (.tup (p.1.map kV)) ∧ RelV p.2 q.2.2) kvs xs ∧
      ∃ o es ep, h.get? a = some o ∧ o.ExactDict ∧ o.data = .dict es ep ∧ es.toList = xs.map (entryOfKey (tupleKind (mixKind P w))) ∧ (xs.map (·.1)).Nodup
  | .set S n => h.SetOf (intKind P w) a S n
  | .ins C dx fs => H dx = some (.own a) ∧ fs.length ≤ 1000 ∧ dx ≠ a ∧ h.get? a = some (PySem.W.instObj C dx) ∧
      ∃ mA, h.Ns1 dx mA ∧ (∀ f, RelO (fs.lookup f) (mA f)) ∧ PySem.Within mA (fs.map (·.1))
  | .own _ => ∃ o, h.get? a = some o
  | .xd fs => ∃ mA, h.Ns1 a mA ∧ ∀ f, RelO (fs.lookup f) (mA f)
  | .rng lo hi => ∃ t u v, h.get? a = some { cls := .type "range", data := .fields #[.int lo t, .int hi u, .int 1 v] }
  | .frz o u => h.get? a = some o ∧ ObjOk H h a u
  | .tbl ps => h.get? a = some { cls := .none, data := .fields ps }
  | .met f x => h.get? a = some (PySem.W.methodObj (.ref f) (.ref x))
  | .ext φ => φ h ∧ (∃ o, h.get? a = some o) ∧ ∀ h1 h2 : Heap, φ h1 → (∀ o, h1.get? a = some o → h2.get? a = some o) → φ h2
def HOk (H : Hp) (h : Heap) : Prop := ∀ a o, H a = some o → ObjOk P w H h a o
end
section
variable {P : Program} {w : World} {H H' : Hp} {h h' : Heap} {a : Addr} {o : HO}
theorem ObjOk.lt (x : ObjOk P w H h a o) : a < h.objs.size := by
  cases o with
  | lst xs => obtain ⟨_, _, _, _, e⟩ := x; exact Heap.lt_size e
  | tup xs => obtain ⟨_, _, _, p⟩ := x; exact p.lt
  | dK kvs => obtain ⟨_, _, _, _, o, _, _, e, _⟩ := x; exact Heap.lt_size e
  | dT kvs => obtain ⟨_, _, _, _, o, _, _, e, _⟩ := x; exact Heap.lt_size e
  | set S n => obtain ⟨o, _, _, _, e, _⟩ := x; exact Heap.lt_size e
  | ins C dx fs => obtain ⟨_, _, _, e, _⟩ := x; exact Heap.lt_size e
  | own y => obtain ⟨_, e⟩ := x; exact Heap.lt_size e
  | xd fs => obtain ⟨_, ⟨_, _, _, e, _⟩, _⟩ := x; exact Heap.lt_size e
  | rng lo hi => obtain ⟨_, _, _, e⟩ := x; exact Heap.lt_size e
  | frz ob u => obtain ⟨e, _⟩ := x; exact Heap.lt_size e
  | tbl ps => exact Heap.lt_size (show h.get? a = some _ from x)
  | met f y => exact Heap.lt_size (show h.get? a = some _ from x)
  | ext φ => obtain ⟨_, ⟨_, e⟩, _⟩ := x; exact Heap.lt_size e
theorem Paired.mapP {α β : Type} {F G : α → β → Prop} : ∀ {l₁ : List α} {l₂ : List β}, Paired F l₁ l₂ → (∀ a b, F a b → G a b) → Paired G l₁ l₂
  | _, _, .nil, _ => .nil
  | _, _, .cons r t, f => .cons (f _ _ r) (Paired.mapP t f)
theorem ObjOk.stay (x : ObjOk P w H h a o) (k : ∀ b u, (b = a ∨ H b = some (.own a)) → h.get? b = some u → h'.get? b = some u)
    (ho : ∀ b, H b = some (.own a) → H' b = some (.own a)) (ht : ∀ b xs, H b = some (.tup xs) → H' b = some (.tup xs)) : ObjOk P w H' h' a o := by
  induction o with
  | lst xs => obtain ⟨z, its, n, r, e⟩ := x; exact ⟨z, its, n, r, k _ _ (.inl rfl) e⟩
  | tup xs => obtain ⟨z, its, r, ob, e, c⟩ := x; exact ⟨z, its, r, ob, k _ _ (.inl rfl) e, c⟩
  | dK kvs => obtain ⟨z, y, vs, r, ob, es, ep, e, c⟩ := x; exact ⟨z, y, vs, r, ob, es, ep, k _ _ (.inl rfl) e, c⟩
  | dT kvs =>
    obtain ⟨z, y, xs, r, ob, es, ep, e, c⟩ := x
    exact ⟨z, y, xs, Paired.mapP r fun p q z => ⟨z.1, ht _ _ z.2.1, z.2.2⟩, ob, es, ep, k _ _ (.inl rfl) e, c⟩
  | set S n => obtain ⟨ob, es, ep, t, e, c⟩ := x; exact ⟨ob, es, ep, t, k _ _ (.inl rfl) e, c⟩
  | ins C dx fs =>
    obtain ⟨d, z, ne, e, mA, ⟨od, es, ep, e2, c⟩, r⟩ := x
    exact ⟨ho _ d, z, ne, k _ _ (.inl rfl) e, mA, ⟨od, es, ep, k _ _ (.inr d) e2, c⟩, r⟩
  | own y => obtain ⟨ob, e⟩ := x; exact ⟨ob, k _ _ (.inl rfl) e⟩
  | xd fs => obtain ⟨mA, ⟨od, es, ep, e, c⟩, r⟩ := x; exact ⟨mA, ⟨od, es, ep, k _ _ (.inl rfl) e, c⟩, r⟩
  | rng lo hi => obtain ⟨t, u, v, e⟩ := x; exact ⟨t, u, v, k _ _ (.inl rfl) e⟩
  | frz ob u ih => obtain ⟨e, q⟩ := x; exact ⟨k _ _ (.inl rfl) e, ih q⟩
  | tbl ps =>
    have e : h.get? a = some { cls := .none, data := .fields ps } := x
    show h'.get? a = some { cls := .none, data := .fields ps }
    exact k a _ (.inl rfl) e
  | met f y =>
    have e : h.get? a = some (PySem.W.methodObj (.ref f) (.ref y)) := x
    show h'.get? a = some (PySem.W.methodObj (.ref f) (.ref y))
    exact k a _ (.inl rfl) e
  | ext φ => obtain ⟨p, ⟨o, e⟩, st⟩ := x; exact ⟨st _ _ p fun o q => k _ _ (.inl rfl) q, ⟨o, k _ _ (.inl rfl) e⟩, st⟩
theorem HOk.lt (x : HOk P w H h) (e : H a = some o) : a < h.objs.size := (x a o e).lt
theorem HOk.fresh (x : HOk P w H h) (e : h.objs.size ≤ a) : H a = none := by
  cases q : H a with
  | none => rfl
  | some u => exact absurd (Nat.lt_of_lt_of_le (x.lt q) e) (Nat.lt_irrefl _)
theorem HOk.kept (x : HOk P w H h) (k : ∀ b u, h.get? b = some u → h'.get? b = some u) : HOk P w H h' := fun a o e =>
  (x a o e).stay (fun b u _ q => k b u q) (fun _ q => q) fun _ _ q => q
theorem HOk.laid (x : HOk P w H h) (k : ∀ b u, h.get? b = some u → h'.get? b = some u) (hp : h.objs.size ≤ a) (new : ObjOk P w (upd H a o) h' a o) : HOk P w (upd H a o) h' := fun b u e => by
  have hn := x.fresh hp
  by_cases hb : b = a
  · subst hb; rw [upd_same] at e; cases e; exact new
  · rw [upd_ne hb] at e
    exact (x b u e).stay (fun c v _ q => k c v q) (fun c q => by rw [upd_ne (ne_of_none q hn)]; exact q) fun c xs q => by rw [upd_ne (ne_of_none q hn)]; exact q
end
def Rd (H : Hp) (a : Addr) (u : HO) : Prop := H a = some u ∨ ∃ o, H a = some (.frz o u)
theorem Rd.ok {P : Program} {w : World} {H : Hp} {h : Heap} {a : Addr} {u : HO} (r : Rd H a u) (x : HOk P w H h) : ObjOk P w H h a u := by
  rcases r with r | ⟨o, r⟩
  · exact x a u r
  · obtain ⟨_, q⟩ := x a _ r
    exact q
def Mut : Option HO → Prop
  | some (.lst _) => True
  | some (.dK _) => True
  | some (.dT _) => True
  | some (.set _ _) => True
  | some (.ins _ _ _) => True
  | some (.ext _) => True
  | _ => False
section
variable {P : Program} {w : World} {H : Hp} {h h' : Heap} {x e : Addr} {o' : HO}
theorem HOk.write (ok : HOk P w H h) (mu : Mut (H x)) (he : e = x ∨ H e = some (.own x)) (k : ∀ b u, b ≠ e → h.get? b = some u → h'.get? b = some u) (heo : ∃ u, h'.get? e = some u)
    (new : ObjOk P w (upd H x o') h' x o') : HOk P w (upd H x o') h' := fun b u q => by
  have nown : ∀ c y, H c = some (.own y) → c ≠ x := fun c y r z => by subst z; rw [r] at mu; exact mu
  have ntup : ∀ c xs, H c = some (.tup xs) → c ≠ x := fun c xs r z => by subst z; rw [r] at mu; exact mu
  by_cases hb : b = x
  · subst hb; rw [upd_same] at q; cases q; exact new
  · rw [upd_ne hb] at q
    by_cases hbe : b = e
    · have q' : H b = some (.own x) := by
        rcases he with z | z
        · exact absurd (hbe.trans z) hb
        · rw [hbe]; exact z
      rw [q] at q'; cases q'
      obtain ⟨v, hv⟩ := heo
      exact ⟨v, by rw [hbe]; exact hv⟩
    · refine (ok b u q).stay (fun c v hc r => k c v ?_ r) (fun c r => by rw [upd_ne (nown c b r)]; exact r) fun c xs r => by rw [upd_ne (ntup c xs r)]; exact r
      rcases hc with rfl | hc
      · exact hbe
      · rintro rfl
        rcases he with z | z
        · exact nown c b hc z
        · rw [hc] at z; cases z; exact hb rfl
end
structure Un (fs ex : List Addr) (H H' : Hp) (h h' : Heap) : Prop where
  keep : ∀ b o, h.get? b = some o → H b = none → b ∉ fs → b ∉ ex → h'.get? b = some o
  slot : ∀ b o, h.get? b = some o → H b = none → b ∈ fs → b ∉ ex → ∃ sl, h'.get? b = some { o with slots := sl }
  free : ∀ b o, h.get? b = some o → H b = none → b ∉ ex → H' b = none
  there : ∀ b o, h.get? b = some o → b ∉ ex → ∃ o', h'.get? b = some o'
  tups : ∀ b xs, H b = some (.tup xs) → H' b = some (.tup xs)
  frzs : ∀ b o u, H b = some (.frz o u) → H' b = some (.frz o u)
  tbls : ∀ b ps, H b = some (.tbl ps) → ∃ more, H' b = some (.tbl (ps ++ more))
section
variable {fs fs' ex ex' : List Addr} {H H1 H2 : Hp} {h h1 h2 h' : Heap} {a x e : Addr} {o : HO}
theorem Un.any (u : Un fs ex H H1 h h1) {b : Addr} {ob : Obj} (q : h.get? b = some ob) (n : H b = none) (hx : b ∉ ex) : ∃ sl, h1.get? b = some { ob with slots := sl } := by
  by_cases hb : b ∈ fs
  · exact u.slot b ob q n hb hx
  · exact ⟨ob.slots, u.keep b ob q n hb hx⟩
theorem Un.kept (k : ∀ b u, h.get? b = some u → h'.get? b = some u) : Un fs ex H H h h' :=
  ⟨fun b ob q _ _ _ => k b ob q, fun b ob q _ _ _ => ⟨ob.slots, k b ob q⟩, fun _ _ _ n _ => n, fun b ob q _ => ⟨ob, k b ob q⟩, fun _ _ q => q, fun _ _ _ q => q, fun _ ps q => ⟨#[], by rw [q]; simp⟩⟩
theorem Un.refl : Un fs ex H H h h := Un.kept fun _ _ q => q
theorem Un.laid (k : ∀ b u, h.get? b = some u → h'.get? b = some u) (hp : h.objs.size ≤ a) (hn : H a = none) : Un fs ex H (upd H a o) h h' where
  keep := fun b u q _ _ _ => k b u q
  slot := fun b u q _ _ _ => ⟨u.slots, k b u q⟩
  free := fun b u q n _ => by rw [upd_ne (Nat.ne_of_lt (Nat.lt_of_lt_of_le (Heap.lt_size q) hp))]; exact n
  there := fun b u q _ => ⟨u, k b u q⟩
  tups := fun b xs q => by rw [upd_ne (ne_of_none q hn)]; exact q
  frzs := fun b u xs q => by rw [upd_ne (ne_of_none q hn)]; exact q
  tbls := fun b ps q => ⟨#[], by rw [upd_ne (ne_of_none q hn), q]; simp⟩
theorem Un.write (mu : Mut (H x)) (he : e = x ∨ H e = some (.own x)) (k : ∀ b u, b ≠ e → h.get? b = some u → h'.get? b = some u) (heo : ∃ u, h'.get? e = some u) : Un fs ex H (upd H x o) h h' := by
  have hx : ∀ b, H b = none → b ≠ x := fun b n z => by subst z; rw [n] at mu; exact mu
  have hb : ∀ b, H b = none → b ≠ e := fun b n z => by
    subst z
    rcases he with r | r
    · exact hx b n r
    · rw [n] at r; cases r
  have hm : ∀ b u, H b = some u → ¬ Mut (some u) → b ≠ x := fun b u q nm z => by subst z; rw [q] at mu; exact nm mu
  refine ⟨fun b u q n _ _ => k b u (hb b n) q, fun b u q n _ _ => ⟨u.slots, k b u (hb b n) q⟩, fun b u q n _ => by rw [upd_ne (hx b n)]; exact n, fun b u q _ => ?_,
    fun b xs q => by rw [upd_ne (hm b _ q fun z => z)]; exact q, fun b u xs q => by rw [upd_ne (hm b _ q fun z => z)]; exact q, fun b ps q => ⟨#[], by rw [upd_ne (hm b _ q fun z => z), q]; simp⟩⟩
  by_cases hbe : b = e
  · subst hbe; exact heo
  · exact ⟨u, k b u hbe q⟩
end
def trk (h : Heap) (H : Hp) : List Addr := (List.range h.objs.size).filter fun a => (H a).isSome
def hidT (h : Heap) (H : Hp) : Heap := PySem.W.hideAll h (trk h H)
theorem hidT_size (h : Heap) (H : Hp) : (hidT h H).objs.size = h.objs.size := PySem.W.hideAll_size _ _
theorem hidT_get {h : Heap} {H : Hp} {b : Addr} {o : Obj} (e : h.get? b = some o) (n : H b = none) : (hidT h H).get? b = some o :=
  PySem.W.hideAll_get _ e fun hm => by
    have q : (H b).isSome = true := (List.mem_filter.mp hm).2
    rw [n] at q; simp at q
theorem of_hidT {h : Heap} {H : Hp} {b : Addr} {o : Obj} (e : (hidT h H).get? b = some o) : h.get? b = some o ∧ H b = none := by
  have e' : h.get? b = some o := PySem.W.of_hideAll (trk h H) e
  refine ⟨e', ?_⟩
  cases q : H b with
  | none => rfl
  | some x =>
    have hm : b ∈ trk h H := List.mem_filter.mpr ⟨List.mem_range.mpr (Heap.lt_size e'), by simp [q]⟩
    have z : (hidT h H).get? b = none := PySem.W.hideAll_none (trk h H) hm
    rw [z] at e; cases e
def allNews (g h : Heap) (L : Addr) : List (Addr × Obj) := (List.range h.objs.size).filterMap fun a => if a = L ∨ (g.get? a).isSome = true then none else (h.get? a).map fun o => (a, o)
def rest (g h : Heap) (L d : Addr) : List (Addr × Obj) := (allNews g h L).filter fun p => decide (p.1 ≠ d)
end L2
namespace L2
open PySem PySem.Spec PyProof.Rows
structure Mod (K : PySem.W.Frag) (mg : Str → Option Value) (base : Heap) : Prop where
  kin : K.In base
  glob : base.Ns mainGlobals mg
  blt : ∃ mb, base.Ns builtinsNs mb ∧ ∀ x : Str, x ≠ "__name__" → mb x = bootBuiltins x
  nolimit : base.NoLimit
structure Cx where
  prog : Program
  w : World
  K : PySem.W.Frag
  mg : Str → Option Value
  base : Heap
  A : Around
  N : List Str
  s₀ : Shared
  H₀ : Hp
  env : Env
  outer : List Env
  stack : List Env
  ex : List Addr
  fn : Str → Bool
  calm : Bool
  pn : List (Addr × Obj)
  xe : Value → Shared → Prop
def frs (l : List Env) : List Addr := l.filterMap (·.frame)
abbrev Cx.fs (X : Cx) : List Addr := frs X.outer
def Vis (sc : Scope) (x : Str) : Prop := sc.names.lookup x = some .local ∨ sc.names.lookup x = some .cell ∨ sc.names.lookup x = some .free
def Loc (sc : Scope) (x : Str) : Prop := sc.names.lookup x = some .local ∨ sc.names.lookup x = some .cell
def Look (env : Env) (h : Heap) (m : Str → Option Value) (x : Str) (u : Value) : Prop :=
  (env.kindOf x = some .local ∧ m x = some u) ∨ ((env.kindOf x = some .cell ∨ env.kindOf x = some .free) ∧ ∃ c, env.cells.lookup x = some c ∧ h.IsCell c (some u))
structure Cx.Ok (X : Cx) : Prop where
  mod : Mod X.K X.mg X.base
  kind : X.env.scope.kind = .function
  glob : X.env.globals = mainGlobals
  blt : X.env.builtins = builtinsNs
  above : X.s₀.heap.objs.size ≤ X.env.locals
  inj : ∀ x y c, X.env.cells.lookup x = some c → X.env.cells.lookup y = some c → x = y
  has : ∀ x, (X.env.kindOf x = some .cell ∨ X.env.kindOf x = some .free) → ∃ c, X.env.cells.lookup x = some c
  cab : ∀ x c, X.fn x = true → X.env.cells.lookup x = some c → X.s₀.heap.objs.size ≤ c
  hd : X.calm = true → X.A.handled = none
  frames : X.A.frames = some X.stack
  stk : X.stack = X.outer ∨ (X.stack = X.env :: X.outer ∧ X.env.frame = some X.env.locals)
  exf : ∀ b ∈ X.ex, b ≠ X.env.locals ∧ ∀ x c, X.env.cells.lookup x = some c → c ≠ b
  bs : ∀ b o, X.base.get? b = some o → X.s₀.heap.get? b = some o ∧ X.H₀ b = none
  bsz : X.base.objs.size ≤ X.s₀.heap.objs.size
  noex : ∀ b o, X.base.get? b = some o → b ∉ X.ex
  exfs : ∀ b ∈ X.ex, b ∉ X.fs
  funs : X.s₀.heap.FunFrames X.base X.outer
  frf : ∀ b ∈ X.fs, X.H₀ b = none
structure Inv (X : Cx) (pins : List (Addr × Obj)) (σ : List (Option V)) (H : Hp) (s : Shared) : Prop where
  ok : X.Ok
  os : s.os = X.s₀.os
  bare : AllBare s.gens
  base : Un X.fs X.ex X.H₀ H X.s₀.heap s.heap
  loc : ∃ m, s.heap.Ns X.env.locals m ∧ ∀ (i : Nat) (x : Str) (v : V), X.N[i]? = some x → σ[i]? = some (some v) → Vis X.env.scope x → ∃ u, RelV v u ∧ Look X.env s.heap m x u
  cell : ∀ x c, X.env.cells.lookup x = some c → ∃ v, s.heap.IsCell c v
  free : H X.env.locals = none
  freeC : ∀ x c, X.env.cells.lookup x = some c → H c = none
  pin : ∀ p ∈ X.pn ++ pins, s.heap.get? p.1 = some p.2 ∧ H p.1 = none ∧ p.1 ≠ X.env.locals ∧ p.1 ∉ X.fs ∧ ∀ v, p.2.data ≠ .cell v
  hok : HOk X.prog X.w H s.heap
  len : σ.length = X.N.length
section
variable {X : Cx} {pins : List (Addr × Obj)} {σ : List (Option V)} {H H' : Hp} {s : Shared} {h' : Heap}
theorem Cx.Ok.nofr (ok : X.Ok) {b : Addr} {o : Obj} (e : X.base.get? b = some o) : b ∉ X.fs := fun hb => by
  have := (ok.funs.mem hb).1
  rw [e] at this; cases this
theorem Inv.bs (I : Inv X pins σ H s) : ∀ b o, X.base.get? b = some o → s.heap.get? b = some o ∧ H b = none := fun b o e =>
  ⟨I.base.keep b o (I.ok.bs b o e).1 (I.ok.bs b o e).2 (I.ok.nofr e) (I.ok.noex b o e), I.base.free b o (I.ok.bs b o e).1 (I.ok.bs b o e).2 (I.ok.noex b o e)⟩
theorem Inv.bk (I : Inv X pins σ H s) : ∀ b o, X.base.get? b = some o → s.heap.get? b = some o := fun b o e => (I.bs b o e).1
theorem Inv.mod (I : Inv X pins σ H s) : Mod X.K X.mg X.base := I.ok.mod
theorem Inv.kIn (I : Inv X pins σ H s) : X.K.In s.heap := I.ok.mod.kin.keeps I.bk
theorem Inv.lt (I : Inv X pins σ H s) : X.env.locals < s.heap.objs.size := let ⟨_, hn, _⟩ := I.loc; hn.lt
theorem Inv.sz (I : Inv X pins σ H s) : X.s₀.heap.objs.size ≤ s.heap.objs.size := Nat.le_trans I.ok.above (Nat.le_of_lt I.lt)
theorem Inv.nofs (I : Inv X pins σ H s) {a : Addr} (h : s.heap.objs.size ≤ a) : a ∉ X.fs := fun hb => by
  obtain ⟨_, o, ho, _⟩ := I.ok.funs.mem hb
  exact absurd (Nat.lt_of_lt_of_le (Heap.lt_size ho) (Nat.le_trans I.sz h)) (Nat.lt_irrefl _)
theorem Inv.cne (I : Inv X pins σ H s) : ∀ x c, X.env.cells.lookup x = some c → c ≠ X.env.locals := fun x c e z => by
  obtain ⟨v, o, ho, hd⟩ := I.cell x c e
  obtain ⟨m, ⟨o', es, ep, ho', hd', _⟩, _⟩ := I.loc
  rw [z, ho'] at ho; cases ho; rw [hd'] at hd; cases hd
theorem Inv.funs (I : Inv X pins σ H s) : s.heap.FunFrames X.base X.outer := by
  have all : ∀ (l : List Env), (∀ b ∈ frs l, b ∈ X.fs) → X.s₀.heap.FunFrames X.base l → s.heap.FunFrames X.base l := by
    intro l
    induction l with
    | nil => intro _ _; trivial
    | cons env r ih =>
      intro hs hl
      obtain ⟨hk, ⟨L, o, hf, hn, ho, hd⟩, hr⟩ := hl
      have hL : L ∈ X.fs := hs L (by unfold frs; rw [List.filterMap_cons, hf]; exact List.mem_cons_self)
      obtain ⟨sl, e⟩ := I.base.slot L o ho (I.ok.frf L hL) hL fun z => I.ok.exfs L z hL
      exact ⟨hk, ⟨L, _, hf, hn, e, hd⟩, ih (fun b hb => hs b (by unfold frs; rw [List.filterMap_cons, hf]; exact List.mem_cons_of_mem _ hb)) hr⟩
  exact all X.outer (fun _ hb => hb) I.ok.funs
theorem Inv.stack (I : Inv X pins σ H s) : s.heap.FunFrames X.base X.stack := by
  rcases I.ok.stk with e | ⟨e, hf⟩
  · rw [e]; exact I.funs
  · rw [e]
    obtain ⟨m, hn, _⟩ := I.loc
    refine .cons (by rw [I.ok.kind]; decide) hf hn ?_ I.funs
    exact Heap.get?_none_of_le (Nat.le_trans I.ok.bsz I.ok.above)
theorem Inv.stkSub (I : Inv X pins σ H s) : ∀ b ∈ frs X.stack, b ∈ X.env.locals :: X.fs := fun b hb => by
  rcases I.ok.stk with e | ⟨e, hf⟩
  · rw [e] at hb; exact List.mem_cons_of_mem _ hb
  · rw [e] at hb
    unfold frs at hb
    rw [List.filterMap_cons, hf] at hb
    exact hb
theorem Inv.stkFree (I : Inv X pins σ H s) : ∀ b ∈ frs X.stack, H b = none := fun b hb => by
  rcases List.mem_cons.mp (I.stkSub b hb) with e | hb
  · rw [e]; exact I.free
  · obtain ⟨_, o, ho, _⟩ := I.ok.funs.mem hb
    exact I.base.free b o ho (I.ok.frf b hb) fun z => I.ok.exfs b z hb
theorem Inv.step {g' : Array GenState} {t' : Nat} {d' : Drawn} {ch : List Addr} (I : Inv X pins σ H s)
    (hch : ∀ b ∈ ch, (b ∈ X.ex ∨ X.s₀.heap.objs.size ≤ b) ∧ b ≠ X.env.locals ∧ (∀ x c, X.env.cells.lookup x = some c → c ≠ b) ∧ ∀ p ∈ X.pn ++ pins, p.1 ≠ b)
    (keep : ∀ b o, b ≠ X.env.locals → b ∉ X.fs → b ∉ ch → s.heap.get? b = some o → H b = none → h'.get? b = some o)
    (slot : ∀ b o, b ≠ X.env.locals → b ∈ X.fs → b ∉ ch → s.heap.get? b = some o → H b = none → ∃ sl, h'.get? b = some { o with slots := sl }) (free : ∀ b o, b ∉ ch → s.heap.get? b = some o → H b = none → H' b = none)
    (there : ∀ b o, b ∉ ch → s.heap.get? b = some o → ∃ o', h'.get? b = some o')
    (tups : ∀ b xs, H b = some (.tup xs) → H' b = some (.tup xs)) (frzs : ∀ b o u, H b = some (.frz o u) → H' b = some (.frz o u)) (tbls : ∀ b ps, H b = some (.tbl ps) → ∃ more, H' b = some (.tbl (ps ++ more)))
    (ns : ∀ m, s.heap.Ns X.env.locals m → h'.Ns X.env.locals m) (hok : HOk X.prog X.w H' h') (hg : AllBare g') :
    Inv X pins σ H' { s with heap := h', gens := g', drawn := d', toks := t' } := by
  have neL : ∀ b o, X.s₀.heap.get? b = some o → b ≠ X.env.locals := fun b o e => Nat.ne_of_lt (Nat.lt_of_lt_of_le (Heap.lt_size e) I.ok.above)
  have neC : ∀ b o, X.s₀.heap.get? b = some o → b ∉ X.ex → b ∉ ch := fun b o e hx hb => by
    rcases (hch b hb).1 with z | z
    · exact hx z
    · exact absurd (Nat.lt_of_lt_of_le (Heap.lt_size e) z) (Nat.lt_irrefl _)
  have cellK : ∀ x c, X.env.cells.lookup x = some c → ∀ v, s.heap.IsCell c v → h'.IsCell c v := fun x c e v ⟨o, ho, hd⟩ => by
    have nch : c ∉ ch := fun z => (hch c z).2.2.1 x c e rfl
    by_cases hc : c ∈ X.fs
    · obtain ⟨sl, q⟩ := slot c o (I.cne x c e) hc nch ho (I.freeC x c e)
      exact ⟨_, q, hd⟩
    · exact ⟨o, keep c o (I.cne x c e) hc nch ho (I.freeC x c e), hd⟩
  refine ⟨I.ok, I.os, hg, ⟨fun b o e n hb hx => ?_, fun b o e n hb hx => ?_, fun b o e n hx => ?_, fun b o e hx => ?_, fun b xs e => tups b xs (I.base.tups b xs e), fun b o xs e => frzs b o xs (I.base.frzs b o xs e), fun b ps e => ?_⟩, ?_, fun x c e => ?_, ?_, fun x c e => ?_, fun p hp => ?_, hok, I.len⟩
  · exact keep b o (neL b o e) hb (neC b o e hx) (I.base.keep b o e n hb hx) (I.base.free b o e n hx)
  · obtain ⟨sl, e1⟩ := I.base.slot b o e n hb hx
    obtain ⟨sl', e2⟩ := slot b _ (neL b o e) hb (neC b o e hx) e1 (I.base.free b o e n hx)
    exact ⟨sl', e2⟩
  · obtain ⟨o', e1⟩ := I.base.there b o e hx
    exact free b o' (neC b o e hx) e1 (I.base.free b o e n hx)
  · obtain ⟨o', e1⟩ := I.base.there b o e hx
    exact there b o' (neC b o e hx) e1
  · obtain ⟨m1, e1⟩ := I.base.tbls b ps e
    obtain ⟨m2, e2⟩ := tbls b _ e1
    exact ⟨m1 ++ m2, by rw [e2, Array.append_assoc]⟩
  · obtain ⟨m, hn, hl⟩ := I.loc
    refine ⟨m, ns m hn, fun i x v e1 e2 e3 => ?_⟩
    obtain ⟨u, r, l⟩ := hl i x v e1 e2 e3
    refine ⟨u, r, ?_⟩
    rcases l with l | ⟨k, c, e, z⟩
    · exact .inl l
    · exact .inr ⟨k, c, e, cellK x c e _ z⟩
  · obtain ⟨v, z⟩ := I.cell x c e
    exact ⟨v, cellK x c e v z⟩
  · obtain ⟨m, ⟨o, _, _, ho, _⟩, _⟩ := I.loc
    exact free _ o (fun z => (hch _ z).2.1 rfl) ho I.free
  · obtain ⟨v, o, ho, hd⟩ := I.cell x c e
    exact free c o (fun z => (hch c z).2.2.1 x c e rfl) ho (I.freeC x c e)
  · obtain ⟨e, n, ne, nf, d⟩ := I.pin p hp
    have nch : p.1 ∉ ch := fun z => (hch p.1 z).2.2.2 p hp rfl
    exact ⟨keep p.1 p.2 ne nf nch e n, free p.1 p.2 nch e n, ne, nf, d⟩
theorem Inv.un {t' : Nat} (I : Inv X pins σ H s) (u : Un X.fs [] H H' s.heap h') (hok : HOk X.prog X.w H' h') : Inv X pins σ H' { s with heap := h', toks := t' } := by
  obtain ⟨m, ⟨o, es, ep, ho, r⟩, _⟩ := id I.loc
  obtain ⟨sl, hL⟩ := u.any ho I.free (by simp)
  exact I.step (g' := s.gens) (d' := s.drawn) (ch := []) (fun _ z => nomatch z) (fun b o _ hb _ e n => u.keep b o e n hb (by simp)) (fun b o _ hb _ e n => u.slot b o e n hb (by simp)) (fun b o _ e n => u.free b o e n (by simp)) (fun b o _ e => u.there b o e (by simp)) u.tups u.frzs u.tbls (fun m' hm => by
    obtain ⟨o', es', ep', ho', r'⟩ := hm
    rw [ho] at ho'; cases ho'
    exact ⟨_, es', ep', hL, r'⟩) hok I.bare
theorem Inv.call {g' : Array GenState} {t' : Nat} {d' : Drawn} {ch : List Addr} (I : Inv X pins σ H s) (u : Un (frs X.stack) ch H H' s.heap h') (hok : HOk X.prog X.w H' h') (hg : AllBare g')
    (hch : ∀ b ∈ ch, (b ∈ X.ex ∨ X.s₀.heap.objs.size ≤ b) ∧ b ≠ X.env.locals ∧ (∀ x c, X.env.cells.lookup x = some c → c ≠ b) ∧ ∀ p ∈ X.pn ++ pins, p.1 ≠ b) :
    Inv X pins σ H' { s with heap := h', gens := g', drawn := d', toks := t' } := by
  obtain ⟨m, ⟨o, es, ep, ho, r⟩, _⟩ := id I.loc
  obtain ⟨sl, hL⟩ := u.any ho I.free fun z => (hch _ z).2.1 rfl
  exact I.step (ch := ch) hch (fun b o hL hb hc e n => u.keep b o e n (fun z => (List.mem_cons.mp (I.stkSub b z)).elim hL hb) hc) (fun b o _ _ hc e n => u.any e n hc) (fun b o hc e n => u.free b o e n hc) (fun b o hc e => u.there b o e hc) u.tups u.frzs u.tbls (fun m' hm => by
    obtain ⟨o', es', ep', ho', r'⟩ := hm
    rw [ho] at ho'; cases ho'
    exact ⟨_, es', ep', hL, r'⟩) hok hg
theorem Inv.turned {t' : Nat} {it : Addr} (I : Inv X pins σ H s) (k : ∀ b o, b ≠ it → s.heap.get? b = some o → h'.get? b = some o) (hn : H it = none) (hL : it ≠ X.env.locals)
    (h1 : it ∈ X.ex ∨ X.s₀.heap.objs.size ≤ it) (h2 : ∀ x c, X.env.cells.lookup x = some c → c ≠ it) (h3 : ∀ p ∈ X.pn ++ pins, p.1 ≠ it) : Inv X pins σ H { s with heap := h', toks := t' } := by
  have nit : ∀ b u, H b = some u → b ≠ it := fun b u e z => by rw [z, hn] at e; cases e
  refine I.step (g' := s.gens) (d' := s.drawn) (ch := [it]) (fun b hb => ?_) (fun b o _ _ hc e _ => k b o (fun z => hc (by simp [z])) e) (fun b o _ _ hc e _ => ⟨o.slots, k b o (fun z => hc (by simp [z])) e⟩) (fun _ _ _ _ n => n)
    (fun b o hc e => ⟨o, k b o (fun z => hc (by simp [z])) e⟩) (fun _ _ e => e) (fun _ _ _ e => e) (fun b ps e => ⟨#[], by rw [e]; simp⟩) (fun m hm => ?_) (fun b u e => ?_) I.bare
  · have e : b = it := by simpa using hb
    subst e
    exact ⟨h1, hL, h2, h3⟩
  · obtain ⟨o, es, ep, ho, r⟩ := hm
    exact ⟨o, es, ep, k _ o (Ne.symm hL) ho, r⟩
  · refine (I.hok b u e).stay (fun c v hc q => k c v ?_ q) (fun _ q => q) fun _ _ q => q
    rcases hc with z | z
    · rw [z]; exact nit b u e
    · exact nit c _ z
theorem Inv.tok (I : Inv X pins σ H s) (t : Nat) : Inv X pins σ H { s with toks := t } := I.un (h' := s.heap) (t' := t) Un.refl I.hok
theorem Inv.kept {t' : Nat} (I : Inv X pins σ H s) (k : ∀ b u, s.heap.get? b = some u → h'.get? b = some u) : Inv X pins σ H { s with heap := h', toks := t' } := I.un (Un.kept k) (I.hok.kept k)
theorem Inv.laid {a : Addr} {o : HO} {t' : Nat} (I : Inv X pins σ H s) (k : ∀ b u, s.heap.get? b = some u → h'.get? b = some u) (hp : s.heap.objs.size ≤ a) (new : ObjOk X.prog X.w (upd H a o) h' a o) :
    Inv X pins σ (upd H a o) { s with heap := h', toks := t' } := I.un (Un.laid k hp (I.hok.fresh hp)) (I.hok.laid k hp new)
theorem Inv.write {x e : Addr} {o : HO} {t' : Nat} (I : Inv X pins σ H s) (mu : Mut (H x)) (he : e = x ∨ H e = some (.own x)) (k : ∀ b u, b ≠ e → s.heap.get? b = some u → h'.get? b = some u) (heo : ∃ u, h'.get? e = some u)
    (new : ObjOk X.prog X.w (upd H x o) h' x o) : Inv X pins σ (upd H x o) { s with heap := h', toks := t' } := I.un (Un.write mu he k heo) (I.hok.write mu he k heo new)
theorem Inv.pins_of {pins' : List (Addr × Obj)} (I : Inv X pins σ H s) (h : ∀ p ∈ pins', s.heap.get? p.1 = some p.2 ∧ H p.1 = none ∧ p.1 ≠ X.env.locals ∧ p.1 ∉ X.fs ∧ ∀ v, p.2.data ≠ .cell v) : Inv X pins' σ H s :=
  ⟨I.ok, I.os, I.bare, I.base, I.loc, I.cell, I.free, I.freeC, fun p hp => (List.mem_append.mp hp).elim (fun z => I.pin p (List.mem_append_left _ z)) (h p), I.hok, I.len⟩
theorem nodup_ix {N : List Str} (hN : N.Nodup) {i j : Nat} {x : Str} (a : N[i]? = some x) (b : N[j]? = some x) : i = j := by
  obtain ⟨h1, e1⟩ := List.getElem?_eq_some_iff.mp a
  obtain ⟨h2, e2⟩ := List.getElem?_eq_some_iff.mp b
  exact (List.getElem_inj hN).mp (e1.trans e2.symm)
theorem store_ok2 {M : Model} {A : Around} {E : Value → Shared → Prop} {i : Nat} {x : Str} {v : V} {u : Value} {Q : Unit → Shared → Prop} (I : Inv X pins σ H s) (hN : X.N.Nodup) (hi : X.N[i]? = some x) (hx : Loc X.env.scope x) (r : RelV v u)
    (h : ∀ s', Inv X pins (σ.set i (some v)) H s' → (∃ a, Heap.SameBut a s.heap s'.heap ∧ (a = X.env.locals ∨ X.env.cells.lookup x = some a)) → Q () s') (hf : X.fn x = true ∨ X.env.scope.names.lookup x = some .local := by first | exact .inl rfl | exact .inr rfl | assumption) : wpAny M A (storeName X.env x u) Q E s := by
  obtain ⟨m, hn, hl⟩ := id I.loc
  have hcls : (X.env.scope.kind == .class || (X.env.scope.kind == .module && X.env.locals != X.env.globals)) = false := by rw [I.ok.kind]; rfl
  have hiσ : i < σ.length := by rw [I.len]; exact (List.getElem?_eq_some_iff.mp hi).1
  have cne := I.cne
  have tracked : ∀ {a : Addr} {h' : Heap}, (∃ o, s.heap.get? a = some o ∧ H a = none) → Heap.SameBut a s.heap h' → HOk X.prog X.w H h' := fun {a h'} ha hs b ob e => by
    obtain ⟨_, _, hfree⟩ := ha
    refine (I.hok b ob e).stay (fun c w' hc q => (hs.2 c ?_).trans q) (fun _ q => q) fun _ _ q => q
    rintro rfl
    rcases hc with rfl | hc
    · rw [hfree] at e; cases e
    · rw [hfree] at hc; cases hc
  rcases hx with hk | hk
  · refine wpAny_storeName_local hk hn (fun h' hn' hs => ?_) hcls
    obtain ⟨oL, _, _, hoL, _⟩ := id hn
    refine h _ ⟨I.ok, I.os, I.bare, ⟨fun b o e n hb hx => ?_, fun b o e n hb hx => ?_, I.base.free, fun b o e hx => ?_, I.base.tups, I.base.frzs, I.base.tbls⟩, ⟨_, hn', fun j y v' e1 e2 e3 => ?_⟩, fun y c e => ?_, I.free, I.freeC, fun p hp => ?_, tracked ⟨oL, hoL, I.free⟩ hs, by simpa using I.len⟩ ⟨_, hs, .inl rfl⟩
    · exact (hs.2 b (Nat.ne_of_lt (Nat.lt_of_lt_of_le (Heap.lt_size e) I.ok.above))).trans (I.base.keep b o e n hb hx)
    · obtain ⟨sl, e1⟩ := I.base.slot b o e n hb hx
      exact ⟨sl, (hs.2 b (Nat.ne_of_lt (Nat.lt_of_lt_of_le (Heap.lt_size e) I.ok.above))).trans e1⟩
    · obtain ⟨o', e1⟩ := I.base.there b o e hx
      exact ⟨o', (hs.2 b (Nat.ne_of_lt (Nat.lt_of_lt_of_le (Heap.lt_size e) I.ok.above))).trans e1⟩
    · by_cases hj : j = i
      · subst hj
        rw [hi] at e1; cases e1
        rw [List.getElem?_set_self hiσ] at e2
        cases e2
        exact ⟨u, r, .inl ⟨hk, by simp⟩⟩
      · rw [List.getElem?_set_ne (Ne.symm hj)] at e2
        obtain ⟨u', r', q⟩ := hl j y v' e1 e2 e3
        refine ⟨u', r', ?_⟩
        rcases q with ⟨k, e⟩ | ⟨k, c, e, z⟩
        · refine .inl ⟨k, ?_⟩
          have : y ≠ x := fun e => hj (nodup_ix hN e1 (e ▸ hi))
          simp [this, e]
        · exact .inr ⟨k, c, e, z.sameBut hs (cne y c e)⟩
    · obtain ⟨w', z⟩ := I.cell y c e
      exact ⟨w', z.sameBut hs (cne y c e)⟩
    · obtain ⟨e, n, ne, nf, d⟩ := I.pin p hp
      exact ⟨(hs.2 p.1 ne).trans e, n, ne, nf, d⟩
  · have hfn : X.fn x = true := by
      rcases hf with z | z
      · exact z
      · rw [z] at hk; cases hk
    obtain ⟨c, hc⟩ := I.ok.has x (.inl hk)
    obtain ⟨w', z⟩ := I.cell x c hc
    refine wpAny_storeName_cell I.ok.kind hk hc z (fun h' hc' hs => ?_)
    obtain ⟨oc, hoc, hocd⟩ := id z
    refine h { s with heap := h' } ⟨I.ok, I.os, I.bare, ⟨fun b o e n hb hx => ?_, fun b o e n hb hx => ?_, I.base.free, fun b o e hx => ?_, I.base.tups, I.base.frzs, I.base.tbls⟩, ⟨m, hn.sameBut hs (Ne.symm (cne x c hc)), fun j y v' e1 e2 e3 => ?_⟩, fun y c' e => ?_, I.free, I.freeC, fun p hp => ?_, tracked ⟨oc, hoc, I.freeC x c hc⟩ hs, by simpa using I.len⟩ ⟨c, hs, .inr hc⟩
    · exact (hs.2 b (Nat.ne_of_lt (Nat.lt_of_lt_of_le (Heap.lt_size e) (I.ok.cab x c hfn hc)))).trans (I.base.keep b o e n hb hx)
    · obtain ⟨sl, e1⟩ := I.base.slot b o e n hb hx
      exact ⟨sl, (hs.2 b (Nat.ne_of_lt (Nat.lt_of_lt_of_le (Heap.lt_size e) (I.ok.cab x c hfn hc)))).trans e1⟩
    · obtain ⟨o', e1⟩ := I.base.there b o e hx
      exact ⟨o', (hs.2 b (Nat.ne_of_lt (Nat.lt_of_lt_of_le (Heap.lt_size e) (I.ok.cab x c hfn hc)))).trans e1⟩
    · by_cases hj : j = i
      · subst hj
        rw [hi] at e1; cases e1
        rw [List.getElem?_set_self hiσ] at e2
        cases e2
        exact ⟨u, r, .inr ⟨.inl hk, c, hc, hc'⟩⟩
      · rw [List.getElem?_set_ne (Ne.symm hj)] at e2
        obtain ⟨u', r', q⟩ := hl j y v' e1 e2 e3
        refine ⟨u', r', ?_⟩
        rcases q with q | ⟨k, c', e, z'⟩
        · exact .inl q
        · refine .inr ⟨k, c', e, z'.sameBut hs ?_⟩
          rintro rfl
          exact hj (nodup_ix hN e1 (I.ok.inj _ _ _ e hc ▸ hi))
    · by_cases hcc : c' = c
      · subst hcc; exact ⟨_, hc'⟩
      · obtain ⟨w2, z2⟩ := I.cell y c' e
        exact ⟨w2, z2.sameBut hs hcc⟩
    · obtain ⟨e, n, ne, nf, d⟩ := I.pin p hp
      refine ⟨(hs.2 p.1 ?_).trans e, n, ne, nf, d⟩
      intro q
      rw [q, hoc] at e
      have q' : oc = p.2 := Option.some.inj e
      exact d w' (by rw [← q']; exact hocd)
theorem store_ok {M : Model} {A : Around} {E : Value → Shared → Prop} {i : Nat} {x : Str} {v : V} {u : Value} {Q : Unit → Shared → Prop} (I : Inv X pins σ H s) (hN : X.N.Nodup) (hi : X.N[i]? = some x) (hx : Loc X.env.scope x) (r : RelV v u)
    (h : ∀ s', Inv X pins (σ.set i (some v)) H s' → Q () s') (hf : X.fn x = true ∨ X.env.scope.names.lookup x = some .local := by first | exact .inl rfl | exact .inr rfl | assumption) : wpAny M A (storeName X.env x u) Q E s :=
  store_ok2 I hN hi hx r (fun s' I' _ => h s' I') hf
theorem Inv.call' {s' : Shared} {ch : List Addr} (I : Inv X pins σ H s) (ho : s'.os = s.os) (u : Un (frs X.stack) ch H H' s.heap s'.heap) (hok : HOk X.prog X.w H' s'.heap) (hg : AllBare s'.gens)
    (hch : ∀ b ∈ ch, (b ∈ X.ex ∨ X.s₀.heap.objs.size ≤ b) ∧ b ≠ X.env.locals ∧ (∀ x c, X.env.cells.lookup x = some c → c ≠ b) ∧ ∀ p ∈ X.pn ++ pins, p.1 ≠ b) : Inv X pins σ H' s' := by
  obtain ⟨h', g', d', t', o'⟩ := s'
  have e : o' = s.os := ho
  subst e
  exact I.call (g' := g') (t' := t') (d' := d') u hok hg hch
end
abbrev XK := Value → Option Addr → Hp → Prop
abbrev St := List (Option V)
abbrev VK := V → Hp → Prop
abbrev TE := St → Hp → VK → Prop
abbrev TT := St → Hp → (Bool → Hp → Prop) → Prop
abbrev TA := St → Hp → (List V → Hp → Prop) → Prop
structure Ends where
  nx : St → Hp → Prop
  rt : VK
  bk : St → Hp → Prop := fun _ _ => False
  ct : St → Hp → Prop := fun _ _ => False
abbrev TS := Ends → St → Hp → Prop
def EP (X : Cx) (pins : List (Addr × Obj)) (σ : St) (Q : VK) (u : Value) (s' : Shared) : Prop := ∃ v H', Inv X pins σ H' s' ∧ RelV v u ∧ Q v H'
def TP (X : Cx) (pins : List (Addr × Obj)) (σ : St) (Q : Bool → Hp → Prop) (b : Bool) (s' : Shared) : Prop := ∃ H', Inv X pins σ H' s' ∧ Q b H'
def AP (X : Cx) (pins : List (Addr × Obj)) (σ : St) (Q : List V → Hp → Prop) (us : List Value) (s' : Shared) : Prop := ∃ vs H', Inv X pins σ H' s' ∧ Vals vs us ∧ Q vs H'
def SP (X : Cx) (pins : List (Addr × Obj)) (D : Ends) (f : Flow) (s' : Shared) : Prop :=
  match f with
  | .next => ∃ σ' H', Inv X pins σ' H' s' ∧ D.nx σ' H'
  | .brk => ∃ σ' H', Inv X pins σ' H' s' ∧ D.bk σ' H'
  | .cont => ∃ σ' H', Inv X pins σ' H' s' ∧ D.ct σ' H'
  | .ret u => ∃ v σ' H', Inv X pins σ' H' s' ∧ RelV v u ∧ D.rt v H'
structure PE (X : Cx) (e : Expr) (t : TE) : Prop where
  run :
    ∀ (pins : List (Addr × Obj)) (s : Shared) (σ : St) (H : Hp) (Q : VK), Inv X pins σ H s → t σ H Q → wpAny (model X.prog X.w) X.A (eval e X.env) (EP X pins σ Q) X.xe s
instance {X : Cx} {e : Expr} {t : TE} : CoeFun (PE X e t) fun _ =>
  ∀ (pins : List (Addr × Obj)) (s : Shared) (σ : St) (H : Hp) (Q : VK), Inv X pins σ H s → t σ H Q → wpAny (model X.prog X.w) X.A (eval e X.env) (EP X pins σ Q) X.xe s
    := ⟨PE.run⟩
structure PT (X : Cx) (e : Expr) (t : TT) : Prop where
  run :
    ∀ (pins : List (Addr × Obj)) (s : Shared) (σ : St) (H : Hp) (Q : Bool → Hp → Prop), Inv X pins σ H s → t σ H Q → wpAny (model X.prog X.w) X.A (isTrue e X.env (eval e X.env)) (TP X pins σ Q) X.xe s
instance {X : Cx} {e : Expr} {t : TT} : CoeFun (PT X e t) fun _ =>
  ∀ (pins : List (Addr × Obj)) (s : Shared) (σ : St) (H : Hp) (Q : Bool → Hp → Prop), Inv X pins σ H s → t σ H Q → wpAny (model X.prog X.w) X.A (isTrue e X.env (eval e X.env)) (TP X pins σ Q) X.xe s
    := ⟨PT.run⟩
structure PW (X : Cx) (e : Expr) (t : TT) : Prop where
  run :
    ∀ (whole : Sem Value) (pins : List (Addr × Obj)) (s : Shared) (σ : St) (H : Hp) (Q : Bool → Hp → Prop), Inv X pins σ H s → t σ H Q → wpAny (model X.prog X.w) X.A (isTrue e X.env whole) (TP X pins σ Q) X.xe s
instance {X : Cx} {e : Expr} {t : TT} : CoeFun (PW X e t) fun _ =>
  ∀ (whole : Sem Value) (pins : List (Addr × Obj)) (s : Shared) (σ : St) (H : Hp) (Q : Bool → Hp → Prop), Inv X pins σ H s → t σ H Q → wpAny (model X.prog X.w) X.A (isTrue e X.env whole) (TP X pins σ Q) X.xe s
    := ⟨PW.run⟩
theorem PW.pt {X : Cx} {e : Expr} {t : TT} (h : PW X e t) : PT X e t := ⟨h.run _⟩
structure PA (X : Cx) (es : List Expr) (t : TA) : Prop where
  run :
    ∀ (pos : Pos) (pins : List (Addr × Obj)) (s : Shared) (σ : St) (H : Hp) (Q : List V → Hp → Prop), Inv X pins σ H s → t σ H Q → wpAny (model X.prog X.w) X.A (spliced (backTo pos (starEach es X.env))) (AP X pins σ Q) X.xe s
instance {X : Cx} {es : List Expr} {t : TA} : CoeFun (PA X es t) fun _ =>
  ∀ (pos : Pos) (pins : List (Addr × Obj)) (s : Shared) (σ : St) (H : Hp) (Q : List V → Hp → Prop), Inv X pins σ H s → t σ H Q → wpAny (model X.prog X.w) X.A (spliced (backTo pos (starEach es X.env))) (AP X pins σ Q) X.xe s
    := ⟨PA.run⟩
structure PS (X : Cx) (st : Stmt) (t : TS) : Prop where
  run :
    ∀ (pins : List (Addr × Obj)) (s : Shared) (σ : St) (H : Hp) (D : Ends), Inv X pins σ H s → t D σ H → wpAny (model X.prog X.w) X.A (exec st X.env) (SP X pins D) X.xe s
instance {X : Cx} {st : Stmt} {t : TS} : CoeFun (PS X st t) fun _ =>
  ∀ (pins : List (Addr × Obj)) (s : Shared) (σ : St) (H : Hp) (D : Ends), Inv X pins σ H s → t D σ H → wpAny (model X.prog X.w) X.A (exec st X.env) (SP X pins D) X.xe s
    := ⟨PS.run⟩
structure PSs (X : Cx) (st : List Stmt) (t : TS) : Prop where
  run :
    ∀ (pins : List (Addr × Obj)) (s : Shared) (σ : St) (H : Hp) (D : Ends), Inv X pins σ H s → t D σ H → wpAny (model X.prog X.w) X.A (execs st X.env) (SP X pins D) X.xe s
instance {X : Cx} {st : List Stmt} {t : TS} : CoeFun (PSs X st t) fun _ =>
  ∀ (pins : List (Addr × Obj)) (s : Shared) (σ : St) (H : Hp) (D : Ends), Inv X pins σ H s → t D σ H → wpAny (model X.prog X.w) X.A (execs st X.env) (SP X pins D) X.xe s
    := ⟨PSs.run⟩
theorem thn {α : Type} {t : Sem α} {Q Q' : α → Shared → Prop} {M : Model} {A : Around} {E : Value → Shared → Prop} {s : Shared} (h : wpAny M A t Q E s) (hQ : ∀ a s, Q a s → Q' a s) : wpAny M A t Q' E s := wpAny_mono h hQ fun _ _ x => x
end L2
namespace L2
open PySem PySem.Spec PyProof.Rows
section
variable {X : Cx}
def tVar (i : Nat) : TE := fun σ H Q => ∃ v, σ[i]? = some (some v) ∧ Q v H
def tC (v : V) : TE := fun _ H Q => Q v H
theorem pe_var {i : Nat} {x : Str} {pos : Pos} (hN : X.N[i]? = some x) (hv : Vis X.env.scope x) (hd : (x == ("__debug__" : Str)) = false := by decide) (hcd : (x == ("__classdict__" : Str)) = false := by decide) : PE X (.Name x pos) (tVar i) := by
  (first | refine ⟨?_⟩ | skip)
  intro pins s σ H Q I h
  obtain ⟨v, e, h⟩ := h
  obtain ⟨m, hn, hl⟩ := I.loc
  obtain ⟨u, r, l⟩ := hl i x v hN e hv
  have fin : EP X pins σ Q u s := ⟨v, H, I, r, h⟩
  rcases l with ⟨hk, hm⟩ | ⟨hk, c, hc, hcell⟩
  · exact wpAny_Name (wpAny_loadName_local I.ok.kind hk hn hm fin) hd
  · rcases hk with hk | hk
    · exact wpAny_Name (wpAny_loadName_cell I.ok.kind hk hc hcell fin) hd
    · exact wpAny_Name (wpAny_loadName_free I.ok.kind hk hc hcell fin hcd) hd
theorem pe_int {i j pos} : PE X (.Constant (.int i) j pos) (tC (.int i)) := ⟨fun _ _ _ H _ I h => wpAny_Constant_int ⟨.int i, H, I.tok _, ⟨_, rfl⟩, h⟩⟩
theorem pe_bl {b j pos} : PE X (.Constant (.bool b) j pos) (tC (.bl b)) := ⟨fun _ _ _ H _ I h => Constant_bool ⟨.bl b, H, I, rfl, h⟩⟩
theorem pe_non {j pos} : PE X (.Constant .none j pos) (tC .non) := ⟨fun _ _ _ H _ I h => Constant_none ⟨.non, H, I, rfl, h⟩⟩
theorem pe_str {x j pos} : PE X (.Constant (.str x) j pos) (tC (.str x)) := ⟨fun _ _ _ H _ I h => Calls.Constant_str ⟨.str x, H, I.tok _, ⟨_, rfl⟩, h⟩⟩
def Gl (X : Cx) (x : Str) : Prop := X.env.kindOf x = some .globalImplicit
theorem ld_glob {E : Value → Shared → Prop} {pins : List (Addr × Obj)} {s : Shared} {σ : St} {H : Hp} {x : Str} {u : Value} {pos : Pos} {Q : Value → Shared → Prop} (I : Inv X pins σ H s) (hg : Gl X x) (hm : X.mg x = some u) (h : Q u s)
    (hd : (x == ("__debug__" : Str)) = false := by decide) : wpAny (model X.prog X.w) X.A (eval (.Name x pos) X.env) Q E s :=
  Calls.Name_function_global I.ok.kind hg (Calls.loadGlobal_global (by rw [I.ok.glob]; exact I.mod.glob.keeps I.bk) hm h) hd
theorem ld_blt {E : Value → Shared → Prop} {pins : List (Addr × Obj)} {s : Shared} {σ : St} {H : Hp} {x : Str} {u : Value} {pos : Pos} {Q : Value → Shared → Prop} (I : Inv X pins σ H s) (hg : Gl X x) (hm : X.mg x = none) (hv : bootBuiltins x = some u) (h : Q u s)
    (hn : x ≠ "__name__" := by decide) (hd : (x == ("__debug__" : Str)) = false := by decide) : wpAny (model X.prog X.w) X.A (eval (.Name x pos) X.env) Q E s := by
  obtain ⟨mb, h1, h2⟩ := I.mod.blt
  exact Calls.Name_function_global I.ok.kind hg (Calls.loadGlobal_builtin (by rw [I.ok.glob]; exact I.mod.glob.keeps I.bk) hm (by rw [I.ok.blt]; exact h1.keeps I.bk) ((h2 x hn).trans hv) h) hd
theorem pe_glob {x : Str} {v : V} {u : Value} {pos : Pos} (hg : Gl X x) (hm : X.mg x = some u) (r : RelV v u) (hd : (x == ("__debug__" : Str)) = false := by decide) : PE X (.Name x pos) (tC v) :=
  ⟨fun _ _ _ H _ I h => ld_glob I hg hm ⟨v, H, I, r, h⟩ hd⟩
theorem pe_bltn {x : Str} {v : V} {u : Value} {pos : Pos} (hg : Gl X x) (hm : X.mg x = none) (hv : bootBuiltins x = some u) (r : RelV v u) (hn : x ≠ "__name__" := by decide) (hd : (x == ("__debug__" : Str)) = false := by decide) : PE X (.Name x pos) (tC v) :=
  ⟨fun _ _ _ H _ I h => ld_blt I hg hm hv ⟨v, H, I, r, h⟩ hn hd⟩
variable {a b : Expr} {ta tb : TE} {pos : Pos}
structure PC (X : Cx) (op : CmpOp) (a b : Expr) (t : TE) : Prop where
  run :
    ∀ (pins : List (Addr × Obj)) (s : Shared) (σ : St) (H : Hp) (Q : VK), Inv X pins σ H s → t σ H Q →
      wpAny (model X.prog X.w) X.A (eval a X.env) (fun v s₁ => wpAny (model X.prog X.w) X.A (eval b X.env) (fun u s₂ => wpAny (model X.prog X.w) X.A (compareOp op v u) (EP X pins σ Q) X.xe s₂) X.xe s₁) X.xe s
instance {X : Cx} {op : CmpOp} {a b : Expr} {t : TE} : CoeFun (PC X op a b t) fun _ =>
  ∀ (pins : List (Addr × Obj)) (s : Shared) (σ : St) (H : Hp) (Q : VK), Inv X pins σ H s → t σ H Q →
    wpAny (model X.prog X.w) X.A (eval a X.env) (fun v s₁ => wpAny (model X.prog X.w) X.A (eval b X.env) (fun u s₂ => wpAny (model X.prog X.w) X.A (compareOp op v u) (EP X pins σ Q) X.xe s₂) X.xe s₁) X.xe s
    := ⟨PC.run⟩
variable {tA tB' : TT} {rest : List Expr}
def tAnd (t u : TT) : TT := fun σ H Q => t σ H fun c H1 => if c = true then u σ H1 Q else Q false H1
def tOr (t u : TT) : TT := fun σ H Q => t σ H fun c H1 => if c = true then Q true H1 else u σ H1 Q
def tNot (t : TT) : TT := fun σ H Q => t σ H fun c H1 => Q (!c) H1
theorem pw_and1 (ha : PT X a tA) : PW X (.BoolOp .And [a] pos) tA := by
  (first | refine ⟨?_⟩ | skip)
  intro wh pins s σ H Q I h
  refine isTrue_and (thn (ha pins s σ H Q I h) fun c s1 e => ?_)
  cases c with
  | true => exact isTrue_and_nil e
  | false => exact e
theorem pw_or1 (ha : PT X a tA) : PW X (.BoolOp .Or [a] pos) tA := by
  (first | refine ⟨?_⟩ | skip)
  intro wh pins s σ H Q I h
  refine isTrue_or (thn (ha pins s σ H Q I h) fun c s1 e => ?_)
  cases c with
  | false => exact isTrue_or_nil e
  | true => exact e
theorem pw_and (ha : PT X a tA) (hb : PW X (.BoolOp .And (b :: rest) pos) tB') : PW X (.BoolOp .And (a :: b :: rest) pos) (tAnd tA tB') := by
  (first | refine ⟨?_⟩ | skip)
  intro wh pins s σ H Q I h
  refine isTrue_and (thn (ha pins s σ H _ I h) fun c s1 ⟨H1, I1, q1⟩ => ?_)
  cases c with
  | true => exact hb wh pins s1 σ H1 Q I1 q1
  | false => exact ⟨H1, I1, q1⟩
theorem pw_or (ha : PT X a tA) (hb : PW X (.BoolOp .Or (b :: rest) pos) tB') : PW X (.BoolOp .Or (a :: b :: rest) pos) (tOr tA tB') := by
  (first | refine ⟨?_⟩ | skip)
  intro wh pins s σ H Q I h
  refine isTrue_or (thn (ha pins s σ H _ I h) fun c s1 ⟨H1, I1, q1⟩ => ?_)
  cases c with
  | true => exact ⟨H1, I1, q1⟩
  | false => exact hb wh pins s1 σ H1 Q I1 q1
theorem pt_not (ha : PT X a tA) : PT X (.UnaryOp .Not a pos) (tNot tA) := by
  (first | refine ⟨?_⟩ | skip)
  intro pins s σ H Q I h
  exact isTrue_not (ha pins s σ H (fun c H1 => Q (!c) H1) I h)
def tAndV (ta tb : TE) : TE := fun σ H Q => ta σ H fun x H1 => ∃ c, x = .bl c ∧ if c = true then tb σ H1 Q else Q (.bl false) H1
def tNotV (ta : TE) : TE := fun σ H Q => ta σ H fun x H1 => ∃ c, x = .bl c ∧ Q (.bl (!c)) H1
theorem pe_one {op} {t : TE} (h : PE X a t) : PE X (.BoolOp op [a] pos) t := ⟨fun pins s σ H Q I hw => BoolOp_one (h pins s σ H Q I hw)⟩
theorem pe_and (ha : PE X a ta) (hb : PE X (.BoolOp .And (b :: rest) pos) tb) : PE X (.BoolOp .And (a :: b :: rest) pos) (tAndV ta tb) := by
  (first | refine ⟨?_⟩ | skip)
  intro pins s σ H Q I h
  refine BoolOp_and (thn (ha pins s σ H _ I h) fun v s1 ⟨x, H1, I1, r1, q1⟩ => ?_)
  obtain ⟨c, rfl, q1⟩ := q1
  cases r1
  refine wpAny_truthy_bool ?_
  cases c with
  | true => exact hb pins s1 σ H1 Q I1 q1
  | false => exact ⟨.bl false, H1, I1, rfl, q1⟩
theorem pe_not (ha : PE X a ta) : PE X (.UnaryOp .Not a pos) (tNotV ta) := by
  (first | refine ⟨?_⟩ | skip)
  intro pins s σ H Q I h
  refine UnaryOp_ (thn (ha pins s σ H _ I h) fun v s1 ⟨x, H1, I1, r1, q1⟩ => ?_)
  obtain ⟨c, rfl, q1⟩ := q1
  cases r1
  exact not_of (wpAny_truthy_bool ⟨.bl (!c), H1, I1, rfl, q1⟩)
def tIf (t : TT) (ta tb : TE) : TE := fun σ H Q => t σ H fun c H1 => if c = true then ta σ H1 Q else tb σ H1 Q
theorem pe_ifExp {c : Expr} (hc : PT X c tA) (ha : PE X a ta) (hb : PE X b tb) : PE X (.IfExp c a b pos) (tIf tA ta tb) := by
  (first | refine ⟨?_⟩ | skip)
  intro pins s σ H Q I h
  refine wpAny_IfExp (thn (hc pins s σ H _ I h) fun d s1 ⟨H1, I1, q1⟩ => ?_)
  cases d with
  | true => exact ha pins s1 σ H1 Q I1 q1
  | false => exact hb pins s1 σ H1 Q I1 q1
end
end L2
namespace L2
open PySem PySem.Spec PyProof.Rows
def SqL (K : PySem.W.Frag) (H : Hp) (a : Addr) (xs : List V) : Prop :=
  Rd H a (.lst xs) ∨
    ∃ (o : Obj) (its : Array Value) (n : Nat), K.lookup a = some o ∧ o.cls = .type "list" ∧ o.dict = none ∧ o.data = .seq its n ∧ its.size ≤ sizeLine ∧ Vals xs its.toList ∧ o.slots = #[]
def SqT (K : PySem.W.Frag) (H : Hp) (a : Addr) (xs : List V) : Prop :=
  Rd H a (.tup xs) ∨
    ∃ (o : Obj) (its : Array Value) (n : Nat), K.lookup a = some o ∧ o.cls = .type "tuple" ∧ o.dict = none ∧ o.data = .seq its n ∧ its.size ≤ sizeLine ∧ Vals xs its.toList
def absV : Value → Option V
  | .none => some .non
  | .bool b => some (.bl b)
  | .int i _ => some (.int i)
  | .str x _ => some (.str x)
  | .bytes b _ => some (.byt b)
  | .float b _ => some (.flt b)
  | .ref a => some (.ref a)
  | .type n => some (.ty n)
  | _ => none
theorem RelV.abs {x : V} {u : Value} (r : RelV x u) : absV u = some x := by
  cases x with
  | non => cases r; rfl
  | bl _ => cases r; rfl
  | int _ => obtain ⟨t, rfl⟩ := r; rfl
  | str _ => obtain ⟨t, rfl⟩ := r; rfl
  | byt _ => obtain ⟨t, rfl⟩ := r; rfl
  | flt _ => obtain ⟨t, rfl⟩ := r; rfl
  | ref _ => cases r; rfl
  | ty _ => cases r; rfl
theorem RelV.inj {x y : V} {u : Value} (r : RelV x u) (q : RelV y u) : x = y := Option.some.inj (r.abs.symm.trans q.abs)
theorem Vals.inj : ∀ {xs ys : List V} {us : List Value}, Vals xs us → Vals ys us → xs = ys
  | _, _, _, .nil, .nil => rfl
  | _, _, _, .cons r t, .cons r' t' => by rw [r.inj r', Vals.inj t t']
section
variable {X : Cx} {pins : List (Addr × Obj)} {σ : St} {H : Hp} {s : Shared} {a : Addr} {xs ys : List V}
theorem SqL.of {K : PySem.W.Frag} (h : H a = some (.lst xs)) : SqL K H a xs := .inl (.inl h)
theorem Inv.list (I : Inv X pins σ H s) (h : SqL X.K H a xs) : ∃ its : List Value, Vals xs its ∧ PlainL s.heap a its.toArray ∧ xs.length ≤ sizeLine := by
  rcases h with h | ⟨o, its, n, hk, hc, hd, hs, hz, r, _⟩
  · obtain ⟨z, its, n, r, e⟩ := h.ok I.hok
    exact ⟨its, r, ⟨_, n, e, rfl, rfl, rfl⟩, z⟩
  · refine ⟨its.toList, r, ⟨o, n, I.kIn a o hk, hc, hd, by simpa using hs⟩, ?_⟩
    have e := r.length
    simp only [Array.length_toList] at e
    omega
theorem Inv.tuple (I : Inv X pins σ H s) (h : SqT X.K H a xs) : ∃ its : List Value, Vals xs its ∧ IsTup s.heap a its.toArray ∧ xs.length ≤ sizeLine := by
  rcases h with h | ⟨o, its, n, hk, hc, _, hs, hz, r⟩
  · obtain ⟨z, its, r, p⟩ := h.ok I.hok
    exact ⟨its, r, p.tup, z⟩
  · refine ⟨its.toList, r, ⟨o, I.kIn a o hk, hc, n, by simpa using hs⟩, ?_⟩
    have e := r.length
    simp only [Array.length_toList] at e
    omega
theorem Inv.listX (I : Inv X pins σ H s) (h : SqL X.K H a xs) : ∃ (its : List Value) (n : Nat), Vals xs its ∧ s.heap.get? a = some { cls := .type "list", data := .seq its.toArray n } ∧ xs.length ≤ sizeLine := by
  rcases h with h | ⟨o, its, n, hk, hc, hd, hs, hz, r, hsl⟩
  · obtain ⟨z, its, n, r, e⟩ := h.ok I.hok
    exact ⟨its, n, r, e, z⟩
  · obtain ⟨cls, dict, data, slots⟩ := o
    dsimp only at hc hd hs hsl
    subst hc hd hs hsl
    refine ⟨its.toList, n, r, by simpa using I.kIn a _ hk, ?_⟩
    have e := r.length
    simp only [Array.length_toList] at e
    omega
theorem Inv.list_inj (I : Inv X pins σ H s) (h : SqL X.K H a xs) (h' : SqL X.K H a ys) : xs = ys := by
  obtain ⟨its, r, ⟨o, n, e, _, _, d⟩, _⟩ := I.list h
  obtain ⟨its', r', ⟨o', n', e', _, _, d'⟩, _⟩ := I.list h'
  rw [e] at e'; cases e'
  rw [d] at d'
  injection d' with d1 _
  have : its = its' := by simpa using congrArg Array.toList d1
  subst this
  exact r.inj r'
theorem Inv.tuple_inj (I : Inv X pins σ H s) (h : SqT X.K H a xs) (h' : SqT X.K H a ys) : xs = ys := by
  obtain ⟨its, r, ⟨o, e, _, n, d⟩, _⟩ := I.tuple h
  obtain ⟨its', r', ⟨o', e', _, n', d'⟩, _⟩ := I.tuple h'
  rw [e] at e'; cases e'
  rw [d] at d'
  injection d' with d1 _
  have : its = its' := by simpa using congrArg Array.toList d1
  subst this
  exact r.inj r'
end
abbrev Cx.wish (X : Cx) (E : Value → Shared → Prop) : Cx := { X with xe := E }
abbrev Cx.nox (X : Cx) : Cx := X.wish fun _ _ => False
theorem Cx.Ok.wish {X : Cx} (ok : X.Ok) (E : Value → Shared → Prop) : (X.wish E).Ok :=
  ⟨ok.mod, ok.kind, ok.glob, ok.blt, ok.above, ok.inj, ok.has, ok.cab, ok.hd, ok.frames, ok.stk, ok.exf, ok.bs, ok.bsz, ok.noex, ok.exfs, ok.funs, ok.frf⟩
theorem Cx.Ok.unwish {X : Cx} {E : Value → Shared → Prop} (ok : (X.wish E).Ok) : X.Ok :=
  ⟨ok.mod, ok.kind, ok.glob, ok.blt, ok.above, ok.inj, ok.has, ok.cab, ok.hd, ok.frames, ok.stk, ok.exf, ok.bs, ok.bsz, ok.noex, ok.exfs, ok.funs, ok.frf⟩
section
variable {X : Cx} {pins : List (Addr × Obj)} {σ : St} {H : Hp} {s : Shared} {E : Value → Shared → Prop}
theorem Inv.wish (I : Inv X pins σ H s) (E : Value → Shared → Prop) : Inv (X.wish E) pins σ H s := ⟨I.ok.wish E, I.os, I.bare, I.base, I.loc, I.cell, I.free, I.freeC, I.pin, I.hok, I.len⟩
theorem Inv.unwish (I : Inv (X.wish E) pins σ H s) : Inv X pins σ H s := ⟨I.ok.unwish, I.os, I.bare, I.base, I.loc, I.cell, I.free, I.freeC, I.pin, I.hok, I.len⟩
theorem SP.unwish {D : Ends} {f : Flow} {s' : Shared} (h : SP (X.wish E) pins D f s') : SP X pins D f s' := by
  cases f with
  | next => obtain ⟨σ', H', I, q⟩ := h; exact ⟨σ', H', I.unwish, q⟩
  | brk => obtain ⟨σ', H', I, q⟩ := h; exact ⟨σ', H', I.unwish, q⟩
  | cont => obtain ⟨σ', H', I, q⟩ := h; exact ⟨σ', H', I.unwish, q⟩
  | ret u => obtain ⟨v, σ', H', I, r, q⟩ := h; exact ⟨v, σ', H', I.unwish, r, q⟩
theorem PSs.nox {st : List Stmt} {t : TS} (h : PSs X.nox st t) : PSs X st t := ⟨fun pins s σ H D I hw =>
  wpAny_mono (h pins s σ H D (I.wish _) hw) (fun _ _ q => q.unwish) fun _ _ z => False.elim z⟩
end
section
variable {X : Cx} {st : Stmt} {rest : List Stmt} {t u : TS} {e : Expr} {te : TE} {pos : Pos}
def tNext : TS := fun D σ H => D.nx σ H
def tSeq (t u : TS) : TS := fun D σ H => t { D with nx := u D } σ H
theorem pss_nil : PSs X [] tNext := ⟨fun _ _ σ H _ I h => wpAny_execs_nil ⟨σ, H, I, h⟩⟩
theorem pss_cons (h1 : PS X st t) (h2 : PSs X rest u) : PSs X (st :: rest) (tSeq t u) := by
  (first | refine ⟨?_⟩ | skip)
  intro pins s σ H D I h
  refine wpAny_execs_cons (thn (h1 pins s σ H { D with nx := u D } I h) fun f s1 q => ?_)
  cases f with
  | next =>
    obtain ⟨σ', H', I', q⟩ := q
    exact h2 pins s1 σ' H' D I' q
  | ret v => exact q
  | brk => exact q
  | cont => exact q
theorem pss_one (h1 : PS X st t) : PSs X [st] t := by
  (first | refine ⟨?_⟩ | skip)
  intro pins s σ H D I h
  refine wpAny_execs_cons (thn (h1 pins s σ H D I h) fun f s1 q => ?_)
  cases f with
  | next => exact wpAny_execs_nil q
  | ret v => exact q
  | brk => exact q
  | cont => exact q
theorem Inv.quiet {pins : List (Addr × Obj)} {σ : St} {H : Hp} {s : Shared} (I : Inv X pins σ H s) : interactive X.env = false := by simp [interactive, I.ok.kind]
def tDrop (te : TE) : TS := fun D σ H => te σ H fun _ H1 => D.nx σ H1
theorem ps_expr (he : PE X e te) (hs : swapsWith e none pos.line X.env = pure false := by rfl) : PS X (.Expr e pos) (tDrop te) := by
  (first | refine ⟨?_⟩ | skip)
  intro pins s σ H D I h
  exact wpAny_Expr_any (thn (he pins s σ H _ I h) fun v s1 ⟨x, H1, I1, r1, q1⟩ => ⟨σ, H1, I1, q1⟩) I.quiet hs
def tRet (te : TE) : TS := fun D σ H => te σ H D.rt
theorem ps_ret (he : PE X e te) : PS X (.Return (some e) pos) (tRet te) := by
  (first | refine ⟨?_⟩ | skip)
  intro pins s σ H D I h
  exact wpAny_Return_some (thn (he pins s σ H _ I h) fun v s1 ⟨x, H1, I1, r1, q1⟩ => ⟨x, σ, H1, I1, r1, q1⟩)
def tIfS (c : TT) (t u : TS) : TS := fun D σ H => c σ H fun b H1 => if b = true then t D σ H1 else u D σ H1
theorem ps_if {c : Expr} {a b : List Stmt} {tc : TT} (hc : PT X c tc) (ha : PSs X a t) (hb : PSs X b u) : PS X (.If c a b pos) (tIfS tc t u) := by
  (first | refine ⟨?_⟩ | skip)
  intro pins s σ H D I h
  refine wpAny_If (thn (hc pins s σ H _ I h) fun d s1 ⟨H1, I1, q1⟩ => ?_)
  cases d with
  | true => exact ha pins s1 σ H1 D I1 q1
  | false => exact hb pins s1 σ H1 D I1 q1
def tNever : TS := fun _ _ _ => False
theorem ps_never : PS X st tNever := ⟨fun _ _ _ _ _ _ h => h.elim⟩
end
abbrev TG := V → St → Hp → (St → Hp → Prop) → Prop
abbrev TGs := List V → St → Hp → (St → Hp → Prop) → Prop
structure PG (X : Cx) (target : Expr) (t : TG) : Prop where
  run :
    ∀ (pins : List (Addr × Obj)) (s : Shared) (σ : St) (H : Hp) (v : V) (u : Value) (Q : St → Hp → Prop), Inv X pins σ H s → RelV v u → t v σ H Q →
      wpAny (model X.prog X.w) X.A (assign target X.env u) (fun _ s' => ∃ σ' H', Inv X pins σ' H' s' ∧ Q σ' H') X.xe s
instance {X : Cx} {target : Expr} {t : TG} : CoeFun (PG X target t) fun _ =>
  ∀ (pins : List (Addr × Obj)) (s : Shared) (σ : St) (H : Hp) (v : V) (u : Value) (Q : St → Hp → Prop), Inv X pins σ H s → RelV v u → t v σ H Q →
    wpAny (model X.prog X.w) X.A (assign target X.env u) (fun _ s' => ∃ σ' H', Inv X pins σ' H' s' ∧ Q σ' H') X.xe s
    := ⟨PG.run⟩
structure PGs (X : Cx) (ts : List Expr) (t : TGs) : Prop where
  run :
    ∀ (pins : List (Addr × Obj)) (s : Shared) (σ : St) (H : Hp) (vs : List V) (us : List Value) (Q : St → Hp → Prop), Inv X pins σ H s → Vals vs us → t vs σ H Q →
      wpAny (model X.prog X.w) X.A (assignInOrder ((assignEach ts X.env).map (·.2)) us) (fun _ s' => ∃ σ' H', Inv X pins σ' H' s' ∧ Q σ' H') X.xe s
instance {X : Cx} {ts : List Expr} {t : TGs} : CoeFun (PGs X ts t) fun _ =>
  ∀ (pins : List (Addr × Obj)) (s : Shared) (σ : St) (H : Hp) (vs : List V) (us : List Value) (Q : St → Hp → Prop), Inv X pins σ H s → Vals vs us → t vs σ H Q →
    wpAny (model X.prog X.w) X.A (assignInOrder ((assignEach ts X.env).map (·.2)) us) (fun _ s' => ∃ σ' H', Inv X pins σ' H' s' ∧ Q σ' H') X.xe s
    := ⟨PGs.run⟩
abbrev TSet := V → V → V → Hp → (Hp → Prop) → Prop
def PSet (X : Cx) (t : TSet) : Prop :=
  ∀ (pins : List (Addr × Obj)) (s : Shared) (σ : St) (H : Hp) (o i v : V) (ov iv u : Value) (Q : Hp → Prop), Inv X pins σ H s → RelV o ov → RelV i iv → RelV v u → t o i v H Q →
    wpAny (model X.prog X.w) X.A (setItem ov iv u) (fun _ s' => ∃ H', Inv X pins σ H' s' ∧ Q H') X.xe s
section
variable {X : Cx} {pos : Pos}
def gName (i : Nat) : TG := fun v σ H Q => Q (σ.set i (some v)) H
theorem pg_name {i : Nat} {x : Str} (hN : X.N.Nodup) (hi : X.N[i]? = some x) (hx : Loc X.env.scope x) (hf : X.fn x = true ∨ X.env.scope.names.lookup x = some .local := by first | exact .inl rfl | exact .inr rfl | assumption) : PG X (.Name x pos) (gName i) := by
  (first | refine ⟨?_⟩ | skip)
  intro pins s σ H v u Q I r h
  exact wpAny_assign_Name (store_ok I hN hi hx r (fun s' I' => ⟨_, H, I', h⟩) hf)
def gNil : TGs := fun vs σ H Q => vs = [] ∧ Q σ H
def gCons (t : TG) (u : TGs) : TGs := fun vs σ H Q => ∃ v r, vs = v :: r ∧ t v σ H fun σ' H' => u r σ' H' Q
theorem pgs_nil : PGs X [] gNil := by
  (first | refine ⟨?_⟩ | skip)
  intro pins s σ H vs us Q I r h
  obtain ⟨e, h⟩ := h
  subst e
  cases r
  exact assignInOrder_nil ⟨σ, H, I, h⟩
theorem pgs_cons {e : Expr} {es : List Expr} {t : TG} {u : TGs} (h1 : PG X e t) (h2 : PGs X es u)
    (hs : (assignEach (e :: es) X.env).map (·.2) = assign e X.env :: (assignEach es X.env).map (·.2) := by rfl) : PGs X (e :: es) (gCons t u) := by
  (first | refine ⟨?_⟩ | skip)
  intro pins s σ H vs us Q I r h
  obtain ⟨v, vr, e1, h⟩ := h
  subst e1
  cases r with
  | cons r rr =>
    rw [hs]
    refine assignInOrder_cons (thn (h1 pins s σ H _ _ _ I r h) fun _ s1 ⟨σ1, H1, I1, q1⟩ => ?_)
    exact h2 pins s1 σ1 H1 _ _ Q I1 rr q1
def gTup (K : PySem.W.Frag) (n : Nat) (t : TGs) : TG := fun v σ H Q => ∃ a xs, v = .ref a ∧ SqT K H a xs ∧ xs.length = n ∧ t xs σ H Q
theorem pg_tup {es : List Expr} {k : Nat} {t : TGs} {n : Nat} (hc : X.calm = true) (h : PGs X es t)
    (hn : (assignEach es X.env).length = n := by rfl) (hst : (assignEach es X.env).findIdx? (·.1) = none := by rfl) : PG X (.Tuple es k pos) (gTup X.K n t) := by
  (first | refine ⟨?_⟩ | skip)
  intro pins s σ H v u Q I r hw
  obtain ⟨a, xs, e1, hq, hl, hw⟩ := hw
  subst e1
  cases r
  obtain ⟨its, rv, ht, hz⟩ := I.tuple hq
  refine assign_Tuple_tuple (I.ok.hd hc) ht (by simp [hn, ← hl, rv.length]) hst fun h' hx => ?_
  have I1 : Inv X pins σ H { s with heap := h' } := I.kept (t' := s.toks) fun b o e => hx b o (Nat.ne_of_lt (Heap.lt_size e)) e
  exact h pins _ σ H xs _ Q I1 (by simpa using rv) hw
def gSub (to ti : TE) (t : TSet) : TG := fun v σ H Q => to σ H fun o H1 => ti σ H1 fun i H2 => t o i v H2 fun H3 => Q σ H3
theorem pg_sub {o i : Expr} {to ti : TE} {t : TSet} (ho : PE X o to) (hi : PE X i ti) (hs : PSet X t)
    (ha : ∀ v, assign (.Subscript o i pos) X.env v = (do
      let ov ← holding [v] (eval o X.env)
      let iv ← holding [v, ov] (eval i X.env)
      standAt pos
      holding [v, ov, iv] (setItem ov iv v)
      release [v, ov, iv] []) := by intro _; rfl) : PG X (.Subscript o i pos) (gSub to ti t) := by
  (first | refine ⟨?_⟩ | skip)
  intro pins s σ H v u Q I r h
  rw [ha]
  refine wpAny_bind (wpAny_holding (thn (ho pins s σ H _ I h) fun ov s1 ⟨x, H1, I1, r1, q1⟩ => ?_))
  refine wpAny_bind (wpAny_holding (thn (hi pins s1 σ H1 _ I1 q1) fun iv s2 ⟨y, H2, I2, r2, q2⟩ => ?_))
  refine wpAny_bind (wpAny_standAt (wpAny_bind (wpAny_holding (thn (hs pins s2 σ H2 x y v ov iv u _ I2 r1 r2 r q2) fun _ s3 ⟨H3, I3, q3⟩ => ?_))))
  exact wpAny_release ⟨σ, H3, I3, q3⟩
def tAsg (te : TE) (g : TG) : TS := fun D σ H => te σ H fun x H1 => g x σ H1 D.nx
theorem ps_asg {tg e : Expr} {te : TE} {g : TG} (he : PE X e te) (hg : PG X tg g) (hs : swapsWithSole [tg] e pos.line X.env = pure false := by rfl) (hw : swappedStores [tg] e X.env = pure none := by rfl)
    (h1 : (assignEach [tg] X.env).map (·.2) = [assign tg X.env] := by rfl) : PS X (.Assign [tg] e pos) (tAsg te g) := by
  (first | refine ⟨?_⟩ | skip)
  intro pins s σ H D I h
  refine wpAny_Assign_stores (thn (he pins s σ H _ I h) fun v s1 ⟨x, H1, I1, r1, q1⟩ => ?_) hs hw
  rw [h1]
  exact thn (hg pins s1 σ H1 x v _ I1 r1 q1) fun _ s2 q => q
theorem ps_set {i : Nat} {x : Str} {e : Expr} {te : TE} {pos' : Pos} (hN : X.N.Nodup) (hi : X.N[i]? = some x) (hx : Loc X.env.scope x) (he : PE X e te) (hs : swapsWith e (some (.Name x pos')) pos.line X.env = pure false := by rfl) (hf : X.fn x = true ∨ X.env.scope.names.lookup x = some .local := by first | exact .inl rfl | exact .inr rfl | assumption) :
    PS X (.Assign [.Name x pos'] e pos) (tAsg te (gName i)) := by
  (first | refine ⟨?_⟩ | skip)
  intro pins s σ H D I h
  refine wpAny_Assign_Name (thn (he pins s σ H _ I h) fun v s1 ⟨y, H1, I1, r1, q1⟩ => ?_) hs
  exact store_ok I1 hN hi hx r1 (fun s2 I2 => ⟨_, H1, I2, q1⟩) hf
end
section
variable {X : Cx} {pos : Pos}
end
structure It where
  go : Nat → Hp → Prop
  yld : Nat → Hp → V → Hp → Prop
  stop : Nat → Hp → Prop
def FpOk (X : Cx) (pins : List (Addr × Obj)) (H : Hp) (b : Addr) : Prop :=
  H b = none ∧ b ≠ X.env.locals ∧ b ∉ X.fs ∧ (b ∈ X.ex ∨ X.s₀.heap.objs.size ≤ b) ∧ (∀ x c, X.env.cells.lookup x = some c → c ≠ b) ∧ ∀ p ∈ X.pn ++ pins, p.1 ≠ b
theorem Inv.fpOk {X : Cx} {pins : List (Addr × Obj)} {σ : St} {H H' : Hp} {s : Shared} {b : Addr} (I : Inv X pins σ H s) (hb : s.heap.objs.size ≤ b) (hn : H' b = none) : FpOk X pins H' b := by
  refine ⟨hn, Nat.ne_of_gt (Nat.lt_of_lt_of_le I.lt hb), I.nofs hb, .inr (Nat.le_trans I.sz hb), fun x c e z => ?_, fun p hp z => ?_⟩
  · obtain ⟨v, q⟩ := I.cell x c e
    exact absurd (Nat.lt_of_lt_of_le q.lt (by rw [z]; exact hb)) (Nat.lt_irrefl _)
  · exact absurd (Nat.lt_of_lt_of_le (Heap.lt_size (I.pin p hp).1) (by rw [z]; exact hb)) (Nat.lt_irrefl _)
structure Turn (P : Program) (w : World) (K : PySem.W.Frag) (tg : Expr) (J : It) (fp : List Addr) (it : Addr) (tn : Nat → Heap → Prop) : Prop where
  mem : it ∈ fp
  obj : ∀ i h, tn i h → ∀ b ∈ fp, ∃ o, h.get? b = some o ∧ ∀ v, o.data ≠ .cell v
  keep : ∀ i h h', tn i h → (∀ b ∈ fp, ∀ o, h.get? b = some o → h'.get? b = some o) → tn i h'
  item : ∀ (X : Cx), X.prog = P → X.w = w → X.K = K → X.calm = true → ∀ (i : Nat) (pins : List (Addr × Obj)) (s : Shared) (σ : St) (H : Hp) (E : Value → Shared → Prop), Inv X pins σ H s → (∀ b ∈ fp, FpOk X pins H b) → tn i s.heap → J.go i H →
    wpAny (model P w) X.A (pyNext (.ref it)) (fun r s1 => ∃ u, r = some u ∧
      wpAny (model P w) X.A (letOwnedTupleGo tg (.ref it) u) (fun _ s2 => ∃ x H', Inv X pins σ H' s2 ∧ RelV x u ∧ J.yld i H x H' ∧ tn (i + 1) s2.heap ∧ ∀ b ∈ fp, H' b = none) E s1) E s
  done : ∀ (X : Cx), X.prog = P → X.w = w → X.K = K → X.calm = true → ∀ (i : Nat) (pins : List (Addr × Obj)) (s : Shared) (σ : St) (H : Hp) (E : Value → Shared → Prop), Inv X pins σ H s → (∀ b ∈ fp, FpOk X pins H b) → tn i s.heap → J.stop i H →
    wpAny (model P w) X.A (pyNext (.ref it)) (fun r s1 => r = none ∧ Inv X pins σ H s1) E s
  self : ∀ (A : Around) (i : Nat) (s : Shared) (Q : Value → Shared → Prop) (E : Value → Shared → Prop), tn i s.heap → Q (.ref it) s → wpAny (model P w) A (pyIter (.ref it)) Q E s
abbrev TI := St → Hp → (It → Hp → Prop) → Prop
def PIE (X : Cx) (pins : List (Addr × Obj)) (σ : St) (tg : Expr) (R : It → Hp → Prop) (itv : Value) (s2 : Shared) : Prop :=
  ∃ (it : Addr) (fp : List Addr) (tn : Nat → Heap → Prop) (J : It) (H' : Hp), itv = .ref it ∧ Inv X pins σ H' s2 ∧ Turn X.prog X.w X.K tg J fp it tn ∧ tn 0 s2.heap ∧ (∀ b ∈ fp, FpOk X pins H' b) ∧ R J H'
structure PI (X : Cx) (tg iter : Expr) (wi : TI) : Prop where
  run :
    ∀ (pins : List (Addr × Obj)) (s : Shared) (σ : St) (H : Hp) (R : It → Hp → Prop), Inv X pins σ H s → wi σ H R →
      wpAny (model X.prog X.w) X.A (eval iter X.env) (fun v s1 => wpAny (model X.prog X.w) X.A (pyIter v) (PIE X pins σ tg R) X.xe s1) X.xe s
instance {X : Cx} {tg iter : Expr} {wi : TI} : CoeFun (PI X tg iter wi) fun _ =>
  ∀ (pins : List (Addr × Obj)) (s : Shared) (σ : St) (H : Hp) (R : It → Hp → Prop), Inv X pins σ H s → wi σ H R →
    wpAny (model X.prog X.w) X.A (eval iter X.env) (fun v s1 => wpAny (model X.prog X.w) X.A (pyIter v) (PIE X pins σ tg R) X.xe s1) X.xe s
    := ⟨PI.run⟩
theorem go_of {M : Model} {A : Around} {E : Value → Shared → Prop} {s : Shared} {tg : Expr} {it : Addr} {u : Value} {o : Obj} {n : String} {vs : Array Value} {Q : Unit → Shared → Prop} (ho : s.heap.get? it = some o) (hc : o.cls = .type n) (hd : o.data = .fields vs)
    (hn : ["enumerate", "zip", "dict_itemiterator", "dict_reverseitemiterator", "odict_iterator", "itertools.zip_longest", "itertools.pairwise"].contains n = false) (hQ : Q () s) : wpAny M A (letOwnedTupleGo tg (.ref it) u) Q E s := by
  unfold letOwnedTupleGo
  cases tg <;> first
    | exact wpAny_pure hQ
    | (cases u <;> first
        | exact wpAny_pure hQ
        | (refine wpAny_bind (wpAny_load ho ?_)
           rw [hc, hd]
           show wpAny M A (if (["enumerate", "zip", "dict_itemiterator", "dict_reverseitemiterator", "odict_iterator", "itertools.zip_longest", "itertools.pairwise"].contains n && vs[0]? == some (rawInt _)) = true then _ else _) Q E s
           rw [if_neg (by intro h; rw [hn, Bool.false_and] at h; cases h)]
           exact wpAny_pure hQ))
def Itl (K : PySem.W.Frag) (a : Addr) : It :=
  ⟨fun i H => ∃ xs x, SqL K H a xs ∧ xs[i]? = some x, fun i H x H' => H' = H ∧ ∀ xs, SqL K H a xs → xs[i]? = some x, fun i H => ∃ xs, SqL K H a xs ∧ xs.length ≤ i⟩
def Itt (K : PySem.W.Frag) (a : Addr) : It :=
  ⟨fun i H => ∃ xs x, SqT K H a xs ∧ xs[i]? = some x, fun i H x H' => H' = H ∧ ∀ xs, SqT K H a xs → xs[i]? = some x, fun i H => ∃ xs, SqT K H a xs ∧ xs.length ≤ i⟩
def Itr (lo : Int) (n : Nat) : It := ⟨fun i _ => i < n, fun i H x H' => H' = H ∧ x = .int (lo + i), fun i _ => n ≤ i⟩
theorem turn_list {P : Program} {w : World} {K : PySem.W.Frag} {tg : Expr} (a it : Addr) : Turn P w K tg (Itl K a) [it] it (fun i h => h.IsListIter it a i) where
  mem := by simp
  obj := fun i h st b hb => by
    have e : b = it := by simpa using hb
    subst e
    obtain ⟨o, e, c, d⟩ := st
    exact ⟨o, e, fun v z => by rw [d] at z; cases z⟩
  keep := fun i h h' st k => st.at fun o e => k it (by simp) o e
  item := by
    intro X hP hw hK hc i pins s σ H E I hf st hg
    subst hP hw hK
    obtain ⟨xs, x, hq, hx⟩ := hg
    obtain ⟨its, rv, p, hz⟩ := I.list hq
    obtain ⟨u, hu, ru⟩ := rv.get hx
    obtain ⟨f0, f1, f2, f3, f4, f5⟩ := hf it (by simp)
    refine wpAny_pyNext_list_item st p.isList (x := u) (by simpa using hu) fun h' st' sb => ?_
    have I1 : Inv X pins σ H { s with heap := h' } := I.turned (t' := s.toks) (fun b o hb e => (sb.2 b hb).trans e) f0 f1 f3 f4 f5
    obtain ⟨o, e, c, d⟩ := id st'
    exact ⟨u, rfl, go_of (s := { s with heap := h' }) e c d (by decide) ⟨x, H, I1, ru, ⟨rfl, fun ys hy => by rw [I.list_inj hy hq]; exact hx⟩, st', fun b hb => (hf b hb).1⟩⟩
  done := by
    intro X hP hw hK hc i pins s σ H E I hf st hg
    subst hP hw hK
    obtain ⟨xs, hq, hx⟩ := hg
    obtain ⟨its, rv, p, hz⟩ := I.list hq
    obtain ⟨f0, f1, f2, f3, f4, f5⟩ := hf it (by simp)
    have hl := rv.length
    exact wpAny_pyNext_list_end (I.ok.hd hc) st p.isList (by simp; omega) fun h' eb => ⟨rfl, I.turned (t' := s.toks) (fun b o hb e => eb b o hb e) f0 f1 f3 f4 f5⟩
  self := fun _ _ _ _ _ st h => wpAny_pyIter_listiter st h
theorem turn_tuple {P : Program} {w : World} {K : PySem.W.Frag} {tg : Expr} (a it : Addr) : Turn P w K tg (Itt K a) [it] it (fun i h => h.IsTupleIter it a i) where
  mem := by simp
  obj := fun i h st b hb => by
    have e : b = it := by simpa using hb
    subst e
    obtain ⟨o, e, c, d⟩ := st
    exact ⟨o, e, fun v z => by rw [d] at z; cases z⟩
  keep := fun i h h' st k => st.at fun o e => k it (by simp) o e
  item := by
    intro X hP hw hK hc i pins s σ H E I hf st hg
    subst hP hw hK
    obtain ⟨xs, x, hq, hx⟩ := hg
    obtain ⟨its, rv, p, hz⟩ := I.tuple hq
    obtain ⟨u, hu, ru⟩ := rv.get hx
    obtain ⟨f0, f1, f2, f3, f4, f5⟩ := hf it (by simp)
    refine wpAny_pyNext_tuple_item st (show s.heap.IsTuple a its.toArray from p) (x := u) (by simpa using hu) fun h' st' sb => ?_
    have I1 : Inv X pins σ H { s with heap := h' } := I.turned (t' := s.toks) (fun b o hb e => (sb.2 b hb).trans e) f0 f1 f3 f4 f5
    obtain ⟨o, e, c, d⟩ := id st'
    exact ⟨u, rfl, go_of (s := { s with heap := h' }) e c d (by decide) ⟨x, H, I1, ru, ⟨rfl, fun ys hy => by rw [I.tuple_inj hy hq]; exact hx⟩, st', fun b hb => (hf b hb).1⟩⟩
  done := by
    intro X hP hw hK hc i pins s σ H E I hf st hg
    subst hP hw hK
    obtain ⟨xs, hq, hx⟩ := hg
    obtain ⟨its, rv, p, hz⟩ := I.tuple hq
    obtain ⟨f0, f1, f2, f3, f4, f5⟩ := hf it (by simp)
    have hl := rv.length
    exact wpAny_pyNext_tuple_end (I.ok.hd hc) st (show s.heap.IsTuple a its.toArray from p) (by simp; omega) fun h' eb => ⟨rfl, I.turned (t' := s.toks) (fun b o hb e => eb b o hb e) f0 f1 f3 f4 f5⟩
  self := fun _ _ _ _ _ st h => wpAny_pyIter_tupleiter st h
theorem turn_range {P : Program} {w : World} {K : PySem.W.Frag} {tg : Expr} (it : Addr) (lo : Int) (n : Nat) : Turn P w K tg (Itr lo n) [it] it (fun i h => IsRangeIter h it (lo + (i : Nat) * 1) ((n : Int) - (i : Nat)) 1) where
  mem := by simp
  obj := fun i h st b hb => by
    have e : b = it := by simpa using hb
    subst e
    exact ⟨_, st, fun v z => by
      have z' : Data.fields _ = Data.cell v := z
      cases z'⟩
  keep := fun i h h' st k => k it (by simp) _ st
  item := by
    intro X hP hw hK hc i pins s σ H E I hf st hg
    subst hP hw hK
    obtain ⟨f0, f1, f2, f3, f4, f5⟩ := hf it (by simp)
    have W := Walks.range (prog := X.prog) (w := X.w) (I.ok.hd hc) it lo 1 n
    refine W.item i s _ _ hg st fun v h' tk hv st' kk => ?_
    obtain ⟨t, rfl⟩ := hv
    have I1 : Inv X pins σ H { s with heap := h', toks := tk } := I.turned (fun b o hb e => kk b o (by simpa using hb) e) f0 f1 f3 f4 f5
    refine ⟨_, rfl, go_of (s := { s with heap := h', toks := tk }) (n := "range_iterator") st' rfl rfl (by decide) ⟨.int (lo + i), H, I1, ⟨t, ?_⟩, ⟨rfl, rfl⟩, st', fun b hb => (hf b hb).1⟩⟩
    rw [Int.mul_one]
  done := by
    intro X hP hw hK hc i pins s σ H E I hf st hg
    subst hP hw hK
    obtain ⟨f0, f1, f2, f3, f4, f5⟩ := hf it (by simp)
    exact wpAny_pyNext_range_end (I.ok.hd hc) st (by have : n ≤ i := hg; omega) fun h' eb => ⟨rfl, I.turned (t' := s.toks) (fun b o hb e => eb b o hb e) f0 f1 f3 f4 f5⟩
  self := fun _ _ _ _ _ st h => wpAny_pyIter_rangeiter st h
end L2
namespace L2
open PySem PySem.Spec PyProof.Rows
section
variable {X : Cx} {tg : Expr}
theorem range_it {pins : List (Addr × Obj)} {σ : St} {H : Hp} {s : Shared} {R : It → Hp → Prop} {E : Value → Shared → Prop} {lo hi : Int} {t u v : Tok} {tk : Nat} (I : Inv X pins σ H s) (h1 : -(2 ^ 62) ≤ lo) (h2 : lo < 2 ^ 62) (h3 : -(2 ^ 62) ≤ hi) (h4 : hi < 2 ^ 62)
    (q : R (Itr lo (hi - lo).toNat) H) : wpAny (model X.prog X.w) X.A (pyIter (.ref s.heap.objs.size)) (PIE X pins σ tg R) E { s with heap := s.heap.push { cls := .type "range", data := .fields #[.int lo t, .int hi u, .int 1 v] }, toks := tk } := by
  refine wpAny_pyIter_range (IsRange.new ..) (small_one h1 h2 h3 h4) ?_
  have I1 : Inv X pins σ H { s with heap := s.heap.push { cls := .type "range", data := .fields #[.int lo t, .int hi u, .int 1 v] }, toks := tk } := I.kept fun b o e => Heap.get?_push_of_some _ e
  refine ⟨(s.heap.push { cls := .type "range", data := .fields #[.int lo t, .int hi u, .int 1 v] }).objs.size, [(s.heap.push { cls := .type "range", data := .fields #[.int lo t, .int hi u, .int 1 v] }).objs.size], _, _, H, rfl,
    I1.kept (t' := tk) fun b o e => Heap.get?_push_of_some _ e, turn_range _ lo (hi - lo).toNat, ?_, fun b hb => ?_, q⟩
  · have e1 : lo + ((0 : Nat) : Int) * 1 = lo := by simp
    have e2 : (((hi - lo).toNat : Nat) : Int) - ((0 : Nat) : Int) = Builtin.Range.rangeSize lo hi 1 := by rw [rangeSize_one]; split <;> omega
    show IsRangeIter _ _ (lo + ((0 : Nat) : Int) * 1) ((((hi - lo).toNat : Nat) : Int) - ((0 : Nat) : Int)) 1
    rw [e1, e2]
    exact Heap.get?_push_size _ rfl
  · have e : b = (s.heap.push { cls := .type "range", data := .fields #[.int lo t, .int hi u, .int 1 v] }).objs.size := by simpa using hb
    subst e
    exact I1.fpOk (Nat.le_refl _) (I1.hok.fresh (Nat.le_refl _))
def iRng1 (ta : TA) : TI := fun σ H R => ta σ H fun vs H1 => ∃ j : Int, vs = [.int j] ∧ -(2 ^ 62) ≤ j ∧ j < 2 ^ 62 ∧ R (Itr 0 j.toNat) H1
def iRng2 (ta : TA) : TI := fun σ H R => ta σ H fun vs H1 => ∃ i j : Int, vs = [.int i, .int j] ∧ (-(2 ^ 62) ≤ i ∧ i < 2 ^ 62 ∧ -(2 ^ 62) ≤ j ∧ j < 2 ^ 62) ∧ R (Itr i (j - i).toNat) H1
theorem pi_range1 {a : Expr} {ta : TA} {p pos : Pos} (hg : Gl X "range") (hm : X.mg "range" = none) (ha : PA X [a] ta) (hs : starEach [a] X.env = [(false, eval a X.env)] := by rfl) : PI X tg (.Call (.Name "range" p) [a] [] pos) (iRng1 ta) := by
  (first | refine ⟨?_⟩ | skip)
  intro pins s σ H R I h
  refine Call_ (ld_blt I hg hm boot_range (PyProof.Rows.callWith_type1 (thn (ha pos pins s σ H _ I h) fun us s1 ⟨vs, H1, I1, r1, q1⟩ => ?_) hs rfl))
  obtain ⟨j, e, q1, q2, q⟩ := q1
  subst e
  cases r1 with
  | cons r rr =>
    cases rr
    obtain ⟨t, rfl⟩ := r
    exact call_range_1 (range_it I1 (by omega) (by omega) q1 q2 (by simpa using q))
theorem pi_range2 {a b : Expr} {ta : TA} {p pos : Pos} (hg : Gl X "range") (hm : X.mg "range" = none) (ha : PA X [a, b] ta) (hs : starEach [a, b] X.env = [(false, eval a X.env), (false, eval b X.env)] := by rfl) (hs2 : starEach [b] X.env = [(false, eval b X.env)] := by rfl) :
    PI X tg (.Call (.Name "range" p) [a, b] [] pos) (iRng2 ta) := by
  (first | refine ⟨?_⟩ | skip)
  intro pins s σ H R I h
  refine Call_ (ld_blt I hg hm boot_range (PyProof.Rows.callWith_type1 (thn (ha pos pins s σ H _ I h) fun us s1 ⟨vs, H1, I1, r1, q1⟩ => ?_) (by rw [hs, hs2]) (by rw [hs2]; rfl)))
  obtain ⟨i, j, e, ⟨q1, q2, q3, q4⟩, q⟩ := q1
  subst e
  cases r1 with
  | cons r rr =>
    cases rr with
    | cons r' rr =>
      cases rr
      obtain ⟨t, rfl⟩ := r
      obtain ⟨t', rfl⟩ := r'
      exact call_range_2 (range_it I1 q1 q2 q3 q4 q)
def tFor (wi : TI) (g : TG) (tb : TS) : TS := fun D σ H => wi σ H fun J H1 => ∃ W : Nat → Nat → St → Hp → Prop, (∃ m, W 0 m σ H1) ∧ ∀ i m σ H, W i m σ H →
  (J.stop i H ∧ D.nx σ H) ∨ (J.go i H ∧ ∃ N : St → Hp → Prop, (∀ σ' H', N σ' H' → ∃ m', m' < m ∧ W (i + 1) m' σ' H') ∧ ∀ x H', J.yld i H x H' → g x σ H' fun σ2 H2 => tb { D with nx := N, ct := N, bk := D.nx } σ2 H2)
def pinsAt (fp : List Addr) (h : Heap) : List (Addr × Obj) := fp.filterMap fun b => (h.get? b).map fun o => (b, o)
theorem mem_pinsAt {fp : List Addr} {h : Heap} {b : Addr} {o : Obj} (hb : b ∈ fp) (e : h.get? b = some o) : (b, o) ∈ pinsAt fp h := List.mem_filterMap.mpr ⟨b, hb, by rw [e]; rfl⟩
theorem of_pinsAt {fp : List Addr} {h : Heap} {p : Addr × Obj} (hp : p ∈ pinsAt fp h) : p.1 ∈ fp ∧ h.get? p.1 = some p.2 := by
  obtain ⟨b, hb, e⟩ := List.mem_filterMap.mp hp
  cases q : h.get? b with
  | none => rw [q] at e; cases e
  | some o =>
    rw [q] at e
    have e' : (b, o) = p := Option.some.inj e
    subst e'
    exact ⟨hb, q⟩
theorem Inv.pinned {pins : List (Addr × Obj)} {σ : St} {H : Hp} {s : Shared} {fp : List Addr} (I : Inv X pins σ H s) (hf : ∀ b ∈ fp, FpOk X pins H b) (ho : ∀ b ∈ fp, ∃ o, s.heap.get? b = some o ∧ ∀ v, o.data ≠ .cell v) : Inv X (pins ++ pinsAt fp s.heap) σ H s :=
  I.pins_of fun p hp => (List.mem_append.mp hp).elim (fun z => I.pin p (List.mem_append_right _ z)) fun z => by
    obtain ⟨hb, e⟩ := of_pinsAt z
    obtain ⟨f0, f1, f2, _⟩ := hf p.1 hb
    obtain ⟨o, e', d⟩ := ho p.1 hb
    rw [e] at e'; cases e'
    exact ⟨e, f0, f1, f2, d⟩
theorem Inv.unpinned {pins pl : List (Addr × Obj)} {σ : St} {H : Hp} {s : Shared} (I : Inv X (pins ++ pl) σ H s) : Inv X pins σ H s := I.pins_of fun p hp => I.pin p (List.mem_append_right _ (List.mem_append_left _ hp))
theorem ps_for {iter : Expr} {body : List Stmt} {wi : TI} {g : TG} {tb : TS} {pos : Pos} (hp : PassesOwn (model X.prog X.w) X.A X.env X.xe) (hc : X.calm = true) (hi : PI X tg iter wi) (hg : PG X tg g) (hb : PSs X body tb)
    (hs : ∀ x, foldedSetIterable iter X.env x = pure x := by intro _; rfl) : PS X (.For tg iter body [] pos) (tFor wi g tb) := by
  (first | refine ⟨?_⟩ | skip)
  intro pins s σ H D I h
  refine wpAny_For (thn (hi pins s σ H _ I h) fun v s1 h1 => thn h1 fun itv s2 h2 => ?_) hs
  obtain ⟨it, fp, tn, J, H2, e, I2, T, st2, f2, W, ⟨m0, w0⟩, turn⟩ := h2
  subst e
  have stat : ∀ {H' : Hp}, (∀ b ∈ fp, H' b = none) → ∀ b ∈ fp, FpOk X pins H' b := fun hn b hb => ⟨hn b hb, (f2 b hb).2⟩
  refine codeAny_forLoop_any (fun n s' => ∃ i σ' H', Inv X pins σ' H' s' ∧ tn i s'.heap ∧ (∀ b ∈ fp, H' b = none) ∧ W i n σ' H') ?_ m0 ⟨0, σ, H2, I2, st2, fun b hb => (f2 b hb).1, w0⟩
  rintro n s3 ⟨i, σ3, H3, I3, st3, fr3, w3⟩
  rcases turn i n σ3 H3 w3 with ⟨stop, qn⟩ | ⟨go, N, hN, step⟩
  · refine wpAny_passesOwn hp (thn (T.done X rfl rfl rfl hc i pins s3 σ3 H3 X.xe I3 (stat fr3) st3 stop) fun r s4 ⟨hr, I4⟩ => ?_)
    subst hr
    exact wpAny_execs_nil ⟨σ3, H3, I4, qn⟩
  · refine wpAny_passesOwn hp (thn (T.item X rfl rfl rfl hc i pins s3 σ3 H3 X.xe I3 (stat fr3) st3 go) fun r s4 ⟨u, hr, h4⟩ => ?_)
    subst hr
    refine wpAny_passesOwn hp (thn h4 fun _ s5 ⟨x, H5, I5, r5, y5, st5, fr5⟩ => ?_)
    have I5' := I5.pinned (stat fr5) (T.obj _ _ st5)
    refine wpAny_passesOwn hp (thn (hg _ s5 σ3 H5 x u _ I5' r5 (step x H5 y5)) fun _ s6 ⟨σ6, H6, I6, q6⟩ => ?_)
    refine wpAny_passesOwn hp (thn (hb _ s6 σ6 H6 _ I6 q6) fun f s7 q7 => ?_)
    have again : ∀ {σ7 : St} {H7 : Hp}, Inv X (pins ++ pinsAt fp s5.heap) σ7 H7 s7 → N σ7 H7 → ∃ m, m < n ∧ ∃ i σ' H', Inv X pins σ' H' s7 ∧ tn i s7.heap ∧ (∀ b ∈ fp, H' b = none) ∧ W i m σ' H' := fun {σ7 H7} I7 n7 => by
      obtain ⟨m', hm, w7⟩ := hN σ7 H7 n7
      refine ⟨m', hm, i + 1, σ7, H7, I7.unpinned, T.keep _ _ _ st5 fun b hb o e => (I7.pin (b, o) (List.mem_append_right _ (List.mem_append_right _ (mem_pinsAt hb e)))).1, fun b hb => ?_, w7⟩
      obtain ⟨o, e, d⟩ := T.obj _ _ st5 b hb
      exact (I7.pin (b, o) (List.mem_append_right _ (List.mem_append_right _ (mem_pinsAt hb e)))).2.1
    cases f with
    | next => obtain ⟨σ7, H7, I7, n7⟩ := q7; exact again I7 n7
    | cont => obtain ⟨σ7, H7, I7, n7⟩ := q7; exact again I7 n7
    | brk => obtain ⟨σ7, H7, I7, q7⟩ := q7; exact ⟨σ7, H7, I7.unpinned, q7⟩
    | ret v => obtain ⟨x7, σ7, H7, I7, r7, q7⟩ := q7; exact ⟨x7, σ7, H7, I7.unpinned, r7, q7⟩
end
end L2
namespace L2
open PySem PySem.Spec PyProof.Rows
abbrev R2 := V → V → Hp → VK → Prop
def OpR (X : Cx) (f : Value → Value → Sem Value) (r : R2) : Prop :=
  ∀ (pins : List (Addr × Obj)) (s : Shared) (σ : St) (H : Hp) (x y : V) (v u : Value) (Q : VK), Inv X pins σ H s → RelV x v → RelV y u → r x y H Q →
    wpAny (model X.prog X.w) X.A (f v u) (EP X pins σ Q) X.xe s
def UnR (X : Cx) (f : Value → Sem Value) (r : V → Hp → VK → Prop) : Prop :=
  ∀ (pins : List (Addr × Obj)) (s : Shared) (σ : St) (H : Hp) (x : V) (v : Value) (Q : VK), Inv X pins σ H s → RelV x v → r x H Q →
    wpAny (model X.prog X.w) X.A (f v) (EP X pins σ Q) X.xe s
def CallR (X : Cx) (f : Value) (r : List V → Hp → VK → Prop) : Prop :=
  ∀ (pins : List (Addr × Obj)) (s : Shared) (σ : St) (H : Hp) (xs : List V) (us : List Value) (Q : VK), Inv X pins σ H s → Vals xs us → r xs H Q →
    wpAny (model X.prog X.w) X.A (call f us) (EP X pins σ Q) X.xe s
def TruR (X : Cx) (r : V → Hp → (Bool → Hp → Prop) → Prop) : Prop :=
  ∀ (pins : List (Addr × Obj)) (s : Shared) (σ : St) (H : Hp) (x : V) (v : Value) (Q : Bool → Hp → Prop), Inv X pins σ H s → RelV x v → r x H Q →
    wpAny (model X.prog X.w) X.A (truthy v) (TP X pins σ Q) X.xe s
def tOp (r : R2) (ta tb : TE) : TE := fun σ H Q => ta σ H fun x H1 => tb σ H1 fun y H2 => r x y H2 Q
def tUn (r : V → Hp → VK → Prop) (ta : TE) : TE := fun σ H Q => ta σ H fun x H1 => r x H1 Q
def rI (C : Int → Int → Prop) (g : Int → Int → V) : R2 := fun x y H Q => ∃ i j, x = .int i ∧ y = .int j ∧ C i j ∧ Q (g i j) H
def rI0 (g : Int → Int → V) : R2 := fun x y H Q => ∃ i j, x = .int i ∧ y = .int j ∧ Q (g i j) H
def rU (g : Int → V) : V → Hp → VK → Prop := fun x H Q => ∃ i, x = .int i ∧ Q (g i) H
section
variable {X : Cx} {a b c : Expr} {ta tb tc : TE} {pos : Pos}
theorem binT (ha : PE X a ta) (hb : PE X b tb) {pins : List (Addr × Obj)} {s : Shared} {σ : St} {H : Hp} {R : V → V → Hp → Prop} (I : Inv X pins σ H s)
    (h : ta σ H fun x H1 => tb σ H1 fun y H2 => R x y H2) {Q : Value → Shared → Prop} {f : Value → Value → Sem Value}
    (hf : ∀ v u s2 x y H2, Inv X pins σ H2 s2 → RelV x v → RelV y u → R x y H2 → wpAny (model X.prog X.w) X.A (f v u) Q X.xe s2) :
    wpAny (model X.prog X.w) X.A (eval a X.env) (fun v s₁ => wpAny (model X.prog X.w) X.A (eval b X.env) (fun u s₂ => wpAny (model X.prog X.w) X.A (f v u) Q X.xe s₂) X.xe s₁) X.xe s := by
  refine thn (ha pins s σ H _ I h) fun v s1 ⟨x, H1, I1, r1, q1⟩ => ?_
  refine thn (hb pins s1 σ H1 _ I1 q1) fun u s2 ⟨y, H2, I2, r2, q2⟩ => ?_
  exact hf v u s2 x y H2 I2 r1 r2 q2
theorem pe_op {op : Operator} {r : R2} (ho : OpR X (binaryOp op) r) (ha : PE X a ta) (hb : PE X b tb) : PE X (.BinOp a op b pos) (tOp r ta tb) := by
  (first | refine ⟨?_⟩ | skip)
  intro pins s σ H Q I h
  exact wpAny_BinOp (binT ha hb I h fun v u s2 x y H2 I2 rx ry q => ho pins s2 σ H2 x y v u Q I2 rx ry q)
theorem pe_un {op : UnaryOp} {r : V → Hp → VK → Prop} (ho : UnR X (unaryOp op) r) (ha : PE X a ta) : PE X (.UnaryOp op a pos) (tUn r ta) := by
  (first | refine ⟨?_⟩ | skip)
  intro pins s σ H Q I h
  exact UnaryOp_ (thn (ha pins s σ H _ I h) fun v s1 ⟨x, H1, I1, r1, q1⟩ => ho pins s1 σ H1 x v Q I1 r1 q1)
theorem opI {f : Value → Value → Sem Value} {C : Int → Int → Prop} {g : Int → Int → Int}
    (rule : ∀ (i j : Int) (t u : Tok) (s : Shared) (Q : Value → Shared → Prop) (E : Value → Shared → Prop), C i j → Q (.int (g i j) s.toks) { s with toks := s.toks + 1 } → wpAny (model X.prog X.w) X.A (f (.int i t) (.int j u)) Q E s) :
    OpR X f (rI C fun i j => .int (g i j)) := by
  (first | refine ⟨?_⟩ | skip)
  intro pins s σ H x y v u Q I rx ry h
  obtain ⟨i, j, rfl, rfl, hc, q⟩ := h
  obtain ⟨t, rfl⟩ := rx
  obtain ⟨t', rfl⟩ := ry
  exact rule i j t t' s _ _ hc ⟨.int (g i j), H, I.tok _, ⟨_, rfl⟩, q⟩
theorem opI0 {f : Value → Value → Sem Value} {g : Int → Int → Int}
    (rule : ∀ (i j : Int) (t u : Tok) (s : Shared) (Q : Value → Shared → Prop) (E : Value → Shared → Prop), Q (.int (g i j) s.toks) { s with toks := s.toks + 1 } → wpAny (model X.prog X.w) X.A (f (.int i t) (.int j u)) Q E s) :
    OpR X f (rI0 fun i j => .int (g i j)) := by
  (first | refine ⟨?_⟩ | skip)
  intro pins s σ H x y v u Q I rx ry h
  obtain ⟨i, j, rfl, rfl, q⟩ := h
  obtain ⟨t, rfl⟩ := rx
  obtain ⟨t', rfl⟩ := ry
  exact rule i j t t' s _ _ ⟨.int (g i j), H, I.tok _, ⟨_, rfl⟩, q⟩
theorem opB0 {f : Value → Value → Sem Value} {g : Int → Int → Bool}
    (rule : ∀ (i j : Int) (t u : Tok) (s : Shared) (Q : Value → Shared → Prop) (E : Value → Shared → Prop), Q (.bool (g i j)) s → wpAny (model X.prog X.w) X.A (f (.int i t) (.int j u)) Q E s) :
    OpR X f (rI0 fun i j => .bl (g i j)) := by
  (first | refine ⟨?_⟩ | skip)
  intro pins s σ H x y v u Q I rx ry h
  obtain ⟨i, j, rfl, rfl, q⟩ := h
  obtain ⟨t, rfl⟩ := rx
  obtain ⟨t', rfl⟩ := ry
  exact rule i j t t' s _ _ ⟨.bl (g i j), H, I, rfl, q⟩
def CPow (i j : Int) : Prop := 0 ≤ j ∧ j ≤ 1000000 ∧ i.natAbs < 2 ^ 64
def CMul (i j : Int) : Prop := (-(2 ^ 64) < i ∧ i < 2 ^ 64) ∨ (-(2 ^ 64) < j ∧ j < 2 ^ 64)
theorem CMul.ok {i j : Int} (h : CMul i j) : IntMulOk i j := by
  rcases h with ⟨h1, h2⟩ | ⟨h1, h2⟩
  · exact .of_left (intBits_le_64 h1 h2)
  · exact .of_right (intBits_le_64 h1 h2)
theorem op_add : OpR X (binaryOp .Add) (rI0 fun i j => .int (i + j)) := opI0 fun _ _ _ _ _ _ _ q => add_int q
theorem op_sub : OpR X (binaryOp .Sub) (rI0 fun i j => .int (i - j)) := opI0 fun _ _ _ _ _ _ _ q => sub_int q
theorem op_mul : OpR X (binaryOp .Mult) (rI CMul fun i j => .int (i * j)) := opI fun _ _ _ _ _ _ _ hc q => mul_int q hc.ok
theorem op_mod : OpR X (binaryOp .Mod) (rI (fun _ j => 0 < j) fun i j => .int (i % j)) := opI fun i j _ _ _ _ _ hc q => by
  have h1 : (0 : Int) < j := hc
  exact mod_int' (by omega) (by rw [Int.fmod_eq_emod_of_nonneg i (by omega)]; exact q)
theorem op_pow : OpR X (binaryOp .Pow) (rI CPow fun i j => .int (i ^ j.toNat)) := opI fun _ _ _ _ _ _ _ hc q => pow_int_small hc.1 hc.2.1 hc.2.2 q
theorem unI {f : Value → Sem Value} {g : Int → Int}
    (rule : ∀ (i : Int) (t : Tok) (s : Shared) (Q : Value → Shared → Prop) (E : Value → Shared → Prop), Q (.int (g i) s.toks) { s with toks := s.toks + 1 } → wpAny (model X.prog X.w) X.A (f (.int i t)) Q E s) :
    UnR X f (rU fun i => .int (g i)) := by
  (first | refine ⟨?_⟩ | skip)
  intro pins s σ H x v Q I rx h
  obtain ⟨i, rfl, q⟩ := h
  obtain ⟨t, rfl⟩ := rx
  exact rule i t s _ _ ⟨.int (g i), H, I.tok _, ⟨_, rfl⟩, q⟩
theorem un_neg : UnR X (unaryOp .USub) (rU fun i => .int (-i)) := unI fun _ _ _ _ _ q => neg_int q
end
def scal : V → V → Bool
  | .non, .non => true | .non, .int _ => true | .int _, .non => true | .non, .bl _ => true | .bl _, .non => true | .non, .str _ => true | .str _, .non => true
  | .int _, .int _ => true | .bl _, .bl _ => true | .str _, .str _ => true | .byt _, .byt _ => true
  | .int _, .str _ => true | .str _, .int _ => true | .bl _, .str _ => true | .str _, .bl _ => true
  | _, _ => false
def rEq : R2 := fun x y H Q => scal x y = true ∧ Q (.bl (decide (x = y))) H
def rNe : R2 := fun x y H Q => scal x y = true ∧ Q (.bl (!decide (x = y))) H
theorem dec_int {i j : Int} : decide (V.int i = V.int j) = (i == j) := by
  rw [Bool.eq_iff_iff]
  simp
theorem dec_bl {i j : Bool} : decide (V.bl i = V.bl j) = (i == j) := by
  rw [Bool.eq_iff_iff]
  simp
theorem dec_str {i j : Str} : decide (V.str i = V.str j) = (i == j) := by
  rw [Bool.eq_iff_iff]
  simp
theorem dec_byt {i j : Array UInt8} : decide (V.byt i = V.byt j) = (i.toList == j.toList) := by
  rw [Bool.eq_iff_iff]
  cases i
  cases j
  simp
section
variable {X : Cx} {a b c : Expr} {ta tb tc : TE} {pos : Pos}
theorem fin_bl {pins : List (Addr × Obj)} {σ : St} {H : Hp} {s : Shared} {Q : VK} {k k' : Bool} (I : Inv X pins σ H s) (q : Q (.bl k) H) (e : k = k') : EP X pins σ Q (.bool k') s := by
  subst e
  exact ⟨.bl k, H, I, rfl, q⟩
theorem op_eq : OpR X (compareOp .Eq) rEq := by
  (first | refine ⟨?_⟩ | skip)
  intro pins s σ H x y v u Q I rx ry h
  obtain ⟨hs, q⟩ := h
  cases x with
  | non =>
    cases rx
    cases y with
    | non => cases ry; exact PySem.EqNone.eq_none_none (fin_bl I q (by simp))
    | bl j => cases ry; exact PySem.EqNone.eq_none_bool (fin_bl I q (by simp))
    | int j => obtain ⟨t', rfl⟩ := ry; exact PySem.EqNone.eq_none_int (fin_bl I q (by simp))
    | str j => obtain ⟨t', rfl⟩ := ry; exact PySem.EqNone.eq_none_str (fin_bl I q (by simp))
    | _ => exact absurd (show false = true from hs) Bool.false_ne_true
  | bl i =>
    cases rx
    cases y with
    | non => cases ry; exact PySem.EqNone.eq_bool_none (fin_bl I q (by simp))
    | bl j => cases ry; exact eq_bool (fin_bl I q dec_bl)
    | str j => obtain ⟨t', rfl⟩ := ry; exact PySem.EqMixed.eq_bool_str (fin_bl I q (by simp))
    | _ => exact absurd (show false = true from hs) Bool.false_ne_true
  | int i =>
    obtain ⟨t, rfl⟩ := rx
    cases y with
    | non => cases ry; exact PySem.EqNone.eq_int_none (fin_bl I q (by simp))
    | int j => obtain ⟨t', rfl⟩ := ry; exact eq_int (fin_bl I q dec_int)
    | str j => obtain ⟨t', rfl⟩ := ry; exact PySem.EqMixed.eq_int_str (fin_bl I q (by simp))
    | _ => exact absurd (show false = true from hs) Bool.false_ne_true
  | str i =>
    obtain ⟨t, rfl⟩ := rx
    cases y with
    | non => cases ry; exact PySem.EqNone.eq_str_none (fin_bl I q (by simp))
    | bl j => cases ry; exact PySem.EqMixed.eq_str_bool (fin_bl I q (by simp))
    | int j => obtain ⟨t', rfl⟩ := ry; exact PySem.EqMixed.eq_str_int (fin_bl I q (by simp))
    | str j => obtain ⟨t', rfl⟩ := ry; exact eq_str (fin_bl I q dec_str)
    | _ => exact absurd (show false = true from hs) Bool.false_ne_true
  | byt i =>
    obtain ⟨t, rfl⟩ := rx
    cases y with
    | byt j => obtain ⟨t', rfl⟩ := ry; exact PySem.W.eq_bytes (fin_bl I q dec_byt)
    | _ => exact absurd (show false = true from hs) Bool.false_ne_true
  | _ => cases y <;> exact absurd (show false = true from hs) Bool.false_ne_true
theorem op_ne : OpR X (compareOp .NotEq) rNe := by
  (first | refine ⟨?_⟩ | skip)
  intro pins s σ H x y v u Q I rx ry h
  obtain ⟨hs, q⟩ := h
  cases x with
  | non =>
    cases rx
    cases y with
    | non => cases ry; exact PySem.EqNone.ne_none_none (fin_bl I q (by simp))
    | bl j => cases ry; exact PySem.EqNone.ne_none_bool (fin_bl I q (by simp))
    | int j => obtain ⟨t', rfl⟩ := ry; exact PySem.EqNone.ne_none_int (fin_bl I q (by simp))
    | str j => obtain ⟨t', rfl⟩ := ry; exact PySem.EqNone.ne_none_str (fin_bl I q (by simp))
    | _ => exact absurd (show false = true from hs) Bool.false_ne_true
  | bl i =>
    cases rx
    cases y with
    | non => cases ry; exact PySem.EqNone.ne_bool_none (fin_bl I q (by simp))
    | bl j => cases ry; exact ne_bool (fin_bl I q (congrArg not dec_bl))
    | str j => obtain ⟨t', rfl⟩ := ry; exact PySem.EqMixed.ne_bool_str (fin_bl I q (by simp))
    | _ => exact absurd (show false = true from hs) Bool.false_ne_true
  | int i =>
    obtain ⟨t, rfl⟩ := rx
    cases y with
    | non => cases ry; exact PySem.EqNone.ne_int_none (fin_bl I q (by simp))
    | int j => obtain ⟨t', rfl⟩ := ry; exact ne_int (fin_bl I q (congrArg not dec_int))
    | str j => obtain ⟨t', rfl⟩ := ry; exact PySem.EqMixed.ne_int_str (fin_bl I q (by simp))
    | _ => exact absurd (show false = true from hs) Bool.false_ne_true
  | str i =>
    obtain ⟨t, rfl⟩ := rx
    cases y with
    | non => cases ry; exact PySem.EqNone.ne_str_none (fin_bl I q (by simp))
    | bl j => cases ry; exact PySem.EqMixed.ne_str_bool (fin_bl I q (by simp))
    | int j => obtain ⟨t', rfl⟩ := ry; exact PySem.EqMixed.ne_str_int (fin_bl I q (by simp))
    | str j => obtain ⟨t', rfl⟩ := ry; exact ne_str (fin_bl I q (congrArg not dec_str))
    | _ => exact absurd (show false = true from hs) Bool.false_ne_true
  | byt i =>
    obtain ⟨t, rfl⟩ := rx
    cases y with
    | byt j => obtain ⟨t', rfl⟩ := ry; exact PySem.W.ne_bytes (fin_bl I q (congrArg not dec_byt))
    | _ => exact absurd (show false = true from hs) Bool.false_ne_true
  | _ => cases y <;> exact absurd (show false = true from hs) Bool.false_ne_true
theorem op_lt : OpR X (compareOp .Lt) (rI0 fun i j => .bl (decide (i < j))) := opB0 fun _ _ _ _ _ _ _ q => lt_int q
theorem op_gt : OpR X (compareOp .Gt) (rI0 fun i j => .bl (decide (j < i))) := opB0 fun _ _ _ _ _ _ _ q => gt_int q
theorem op_ge : OpR X (compareOp .GtE) (rI0 fun i j => .bl (decide (j ≤ i))) := opB0 fun _ _ _ _ _ _ _ q => ge_int q
theorem op_isN : OpR X (compareOp .Is) (fun x y H Q => y = .non ∧ Q (.bl (decide (x = .non))) H) := by
  (first | refine ⟨?_⟩ | skip)
  intro pins s σ H x y v u Q I rx ry h
  obtain ⟨rfl, q⟩ := h
  cases ry
  refine is_none_gen (fin_bl I q ?_)
  cases x <;> first
    | (cases rx; rfl)
    | (obtain ⟨t, rfl⟩ := rx; rfl)
theorem op_notN : OpR X (compareOp .IsNot) (fun x y H Q => y = .non ∧ Q (.bl (!decide (x = .non))) H) := by
  (first | refine ⟨?_⟩ | skip)
  intro pins s σ H x y v u Q I rx ry h
  obtain ⟨rfl, q⟩ := h
  cases ry
  refine isnot_none_gen (fin_bl I q ?_)
  cases x <;> first
    | (cases rx; rfl)
    | (obtain ⟨t, rfl⟩ := rx; rfl)
theorem nomark (b : Expr) {op : CmpOp} (h : op ≠ .In := by decide) (h2 : op ≠ .NotIn := by decide) : behindInMarks op b = false := by
  have e1 : (op == CmpOp.In) = false := by cases op <;> first | rfl | exact absurd rfl h
  have e2 : (op == CmpOp.NotIn) = false := by cases op <;> first | rfl | exact absurd rfl h2
  cases b <;> simp [behindInMarks, e1, e2]
theorem pe_cmpR {op : CmpOp} {r : R2} (ho : OpR X (compareOp op) r) (ha : PE X a ta) (hb : PE X b tb) (hm : behindInMarks op b = false) : PE X (.Compare a [op] [b] pos) (tOp r ta tb) := by
  (first | refine ⟨?_⟩ | skip)
  intro pins s σ H Q I h
  exact wpAny_Compare1 (binT ha hb I h fun v u s2 x y H2 I2 rx ry q => ho pins s2 σ H2 x y v u Q I2 rx ry q) hm
def tTest (t : TE) : TT := fun σ H Q => t σ H fun x H' => ∃ k, x = .bl k ∧ Q k H'
theorem pt_cmpR {op : CmpOp} {r : R2} (ho : OpR X (compareOp op) r) (ha : PE X a ta) (hb : PE X b tb) (hm : behindInMarks op b = false) : PT X (.Compare a [op] [b] pos) (tTest (tOp r ta tb)) := by
  (first | refine ⟨?_⟩ | skip)
  intro pins s σ H Q I h
  refine wpAny_isTrue_Compare1 (thn (ha pins s σ H _ I h) fun v s1 ⟨x, H1, I1, r1, q1⟩ => thn (hb pins s1 σ H1 _ I1 q1) fun u s2 ⟨y, H2, I2, r2, q2⟩ =>
    thn (ho pins s2 σ H2 x y v u _ I2 r1 r2 q2) fun c s3 ⟨z, H3, I3, r3, k, e, q3⟩ => ?_) hm
  subst e
  cases r3
  exact wpAny_truthy_bool ⟨H3, I3, q3⟩
def TruV (K : PySem.W.Frag) (x : V) (H : Hp) (k : Bool) : Prop :=
  match x with
  | .non => k = false
  | .bl b => k = b
  | .int i => k = (i != 0)
  | .str y => y.length ≤ sizeLine ∧ k = ((y.length : Int) != 0)
  | .byt y => y.size ≤ sizeLine ∧ k = ((y.size : Int) != 0)
  | .ref p => (∃ xs, SqL K H p xs ∧ k = !xs.isEmpty) ∨ (∃ xs, SqT K H p xs ∧ k = !xs.isEmpty) ∨ ∃ kvs, H p = some (.dK kvs) ∧ k = !kvs.isEmpty
  | _ => False
theorem isEmpty_kv {κ : Type} {kvs : List (κ × V)} {vs : List (κ × Value)} (r : KV kvs vs) : (!vs.isEmpty) = !kvs.isEmpty := by
  cases r <;> rfl
theorem isEmpty_of {xs : List V} {its : List Value} (r : Vals xs its) : (!its.toArray.isEmpty) = !xs.isEmpty := by
  cases r <;> simp
theorem line63 : (sizeLine : Nat) < 2 ^ 63 := by rw [sizeLine_eq]; decide
theorem tru_ok : TruR X (fun x H Q => ∃ k, TruV X.K x H k ∧ Q k H) := by
  (first | refine ⟨?_⟩ | skip)
  intro pins s σ H x v Q I rx h
  obtain ⟨k, e, q⟩ := h
  have hl := line63
  have hs : sizeLine = 16777216 := sizeLine_eq
  cases x with
  | non =>
    cases rx
    have e' : k = false := e
    subst e'
    exact truthy_none ⟨H, I, q⟩
  | bl b =>
    cases rx
    have e' : k = b := e
    subst e'
    exact wpAny_truthy_bool ⟨H, I, q⟩
  | int i =>
    obtain ⟨t, rfl⟩ := rx
    have e' : k = (i != 0) := e
    subst e'
    exact PySem.P.truthy_int ⟨H, I, q⟩
  | str y =>
    obtain ⟨t, rfl⟩ := rx
    obtain ⟨hy, e'⟩ : y.length ≤ sizeLine ∧ k = ((y.length : Int) != 0) := e
    subst e'
    exact PySem.P.truthy_str (by omega) ⟨H, I.tok _, q⟩
  | byt y =>
    obtain ⟨t, rfl⟩ := rx
    obtain ⟨hy, e'⟩ : y.size ≤ sizeLine ∧ k = ((y.size : Int) != 0) := e
    subst e'
    exact PySem.W.truthy_bytes (by omega) ⟨H, I.tok _, q⟩
  | ref p =>
    cases rx
    have e' : (∃ xs, SqL X.K H p xs ∧ k = !xs.isEmpty) ∨ (∃ xs, SqT X.K H p xs ∧ k = !xs.isEmpty) ∨ ∃ kvs, H p = some (.dK kvs) ∧ k = !kvs.isEmpty := e
    rcases e' with ⟨xs, hx, e'⟩ | ⟨xs, hx, e'⟩ | ⟨kvs, hx, e'⟩
    · subst e'
      obtain ⟨its, r, pl, hz⟩ := I.list hx
      have hlen := r.length
      exact wpAny_truthy_list pl.isList (by simp only [List.size_toArray]; omega) ⟨H, I.tok _, by rw [isEmpty_of r]; exact q⟩
    · subst e'
      obtain ⟨its, r, pl, hz⟩ := I.tuple hx
      have hlen := r.length
      exact truthy_tuple pl (by simp only [List.size_toArray]; omega) ⟨H, I.tok _, by rw [isEmpty_of r]; exact q⟩
    · subst e'
      obtain ⟨hz, hS, vs, r, m⟩ : kvs.length ≤ sizeLine ∧ (p == sysModules) = false ∧ ∃ vs, KV kvs vs ∧ s.heap.DictOf (mixKind X.prog X.w) p vs := I.hok p _ hx
      have hlen : kvs.length = vs.length := Paired.length r
      exact wpAny_truthy_dict hS m (by omega) ⟨H, I.tok _, by rw [isEmpty_kv r]; exact q⟩
  | _ => exact (show False from e).elim
theorem pt_truth (ha : PE X a ta) (he : ∀ whole, isTrue a X.env whole = (do let v ← whole; standAt a.pos; holding [v] (truthy v))) :
    PT X a (fun σ H Q => ta σ H fun x H' => ∃ k, TruV X.K x H' k ∧ Q k H') := by
  (first | refine ⟨?_⟩ | skip)
  intro pins s σ H Q I h
  exact isTrue_plain (thn (ha pins s σ H _ I h) fun v s1 ⟨x, H1, I1, r1, q1⟩ => tru_ok pins s1 σ H1 x v Q I1 r1 q1) (he _)
theorem op_add_str : OpR X (binaryOp .Add) (fun x y H Q => ∃ i j, x = .str i ∧ y = .str j ∧ i.length + j.length ≤ sizeLine ∧ Q (.str (i ++ j)) H) := by
  (first | refine ⟨?_⟩ | skip)
  intro pins s σ H x y v u Q I rx ry h
  obtain ⟨i, j, rfl, rfl, hz, q⟩ := h
  obtain ⟨t, rfl⟩ := rx
  obtain ⟨t', rfl⟩ := ry
  exact add_str (fun t' tk => ⟨.str (i ++ j), H, I.tok _, ⟨_, rfl⟩, q⟩) hz
theorem vals1 {x : V} {us : List Value} (r : Vals [x] us) : ∃ u, us = [u] ∧ RelV x u := by
  cases r with
  | cons r1 r2 => cases r2; exact ⟨_, rfl, r1⟩
theorem vals2 {x y : V} {us : List Value} (r : Vals [x, y] us) : ∃ u w', us = [u, w'] ∧ RelV x u ∧ RelV y w' := by
  cases r with
  | cons r1 r2 =>
    cases r2 with
    | cons r3 r4 => cases r4; exact ⟨_, _, rfl, r1, r3⟩
theorem call_max2 (hc : X.calm = true) : CallR X (.builtin "max") (fun xs H Q => ∃ i j, xs = [.int i, .int j] ∧ Q (.int (if j > i then j else i)) H) := by
  (first | refine ⟨?_⟩ | skip)
  intro pins s σ H xs us Q I r h
  obtain ⟨i, j, rfl, q⟩ := h
  obtain ⟨u, w', rfl, ⟨t, rfl⟩, ⟨t', rfl⟩⟩ := vals2 r
  refine max_two_ints (I.ok.hd hc) fun h' tk k => ⟨_, H, I.kept k, ?_, q⟩
  by_cases hj : j > i
  · rw [if_pos hj, if_pos hj]; exact ⟨_, rfl⟩
  · rw [if_neg hj, if_neg hj]; exact ⟨_, rfl⟩
theorem call_min2 (hc : X.calm = true) : CallR X (.builtin "min") (fun xs H Q => ∃ i j, xs = [.int i, .int j] ∧ Q (.int (if j < i then j else i)) H) := by
  (first | refine ⟨?_⟩ | skip)
  intro pins s σ H xs us Q I r h
  obtain ⟨i, j, rfl, q⟩ := h
  obtain ⟨u, w', rfl, ⟨t, rfl⟩, ⟨t', rfl⟩⟩ := vals2 r
  refine min_two_ints (I.ok.hd hc) fun h' tk k => ⟨_, H, I.kept k, ?_, q⟩
  by_cases hj : j < i
  · rw [if_pos hj, if_pos hj]; exact ⟨_, rfl⟩
  · rw [if_neg hj, if_neg hj]; exact ⟨_, rfl⟩
theorem call_int1 : CallR X (.type "int") (fun xs H Q => (∃ i, xs = [.int i] ∧ Q (.int i) H) ∨ ∃ k, xs = [.bl k] ∧ Q (.int (if k then 1 else 0)) H) := by
  (first | refine ⟨?_⟩ | skip)
  intro pins s σ H xs us Q I r h
  rcases h with ⟨i, rfl, q⟩ | ⟨k, rfl, q⟩
  · obtain ⟨u, rfl, t, rfl⟩ := vals1 r
    exact call_int_int ⟨.int i, H, I, ⟨_, rfl⟩, q⟩
  · obtain ⟨u, rfl, r1⟩ := vals1 r
    cases r1
    exact call_int_bool ⟨.int (if k then 1 else 0), H, I.tok _, ⟨_, rfl⟩, q⟩
def LenV (K : PySem.W.Frag) (x : V) (H : Hp) (n : Nat) : Prop :=
  match x with
  | .str y => y.length ≤ sizeLine ∧ n = y.length
  | .byt y => y.size ≤ sizeLine ∧ n = y.size
  | .ref p => (∃ xs, SqL K H p xs ∧ n = xs.length) ∨ ∃ xs, SqT K H p xs ∧ n = xs.length
  | _ => False
theorem call_len : CallR X (.builtin "len") (fun xs H Q => ∃ x n, xs = [x] ∧ LenV X.K x H n ∧ Q (.int n) H) := by
  (first | refine ⟨?_⟩ | skip)
  intro pins s σ H xs us Q I r h
  obtain ⟨x, n, rfl, e, q⟩ := h
  obtain ⟨u, rfl, rx⟩ := vals1 r
  have hl := line63
  have hs : sizeLine = 16777216 := sizeLine_eq
  cases x with
  | str y =>
    obtain ⟨t, rfl⟩ := rx
    obtain ⟨hy, e'⟩ : y.length ≤ sizeLine ∧ n = y.length := e
    subst e'
    exact len_str (by omega) ⟨.int _, H, I.tok _, ⟨_, rfl⟩, q⟩
  | byt y =>
    obtain ⟨t, rfl⟩ := rx
    obtain ⟨hy, e'⟩ : y.size ≤ sizeLine ∧ n = y.size := e
    subst e'
    exact PySem.W.len_bytes (by omega) ⟨.int _, H, I.tok _, ⟨_, rfl⟩, q⟩
  | ref p =>
    cases rx
    have e' : (∃ xs, SqL X.K H p xs ∧ n = xs.length) ∨ ∃ xs, SqT X.K H p xs ∧ n = xs.length := e
    rcases e' with ⟨xs, hx, e'⟩ | ⟨xs, hx, e'⟩
    · subst e'
      obtain ⟨its, r', pl, hz⟩ := I.list hx
      have hlen := r'.length
      exact Calls.call_len_list pl.isList (by simp only [List.size_toArray]; omega) ⟨.int xs.length, H, I.tok _, ⟨_, by simp only [List.size_toArray]; rw [hlen]⟩, q⟩
    · subst e'
      obtain ⟨its, r', pl, hz⟩ := I.tuple hx
      have hlen := r'.length
      exact len_tuple pl (by simp only [List.size_toArray]; omega) ⟨.int xs.length, H, I.tok _, ⟨_, by simp only [List.size_toArray]; rw [hlen]⟩, q⟩
  | _ => exact (show False from e).elim
end
end L2
namespace L2
open PySem PySem.Spec PyProof.Rows
section
variable {prog : Program} {w : World} {A : Around} {E : Value → Shared → Prop} {s : Shared} {K : PySem.W.Frag} {x dx C f : Addr} {mA : Str → Option Value} {name : Str} {v : Value}
end
theorem RelO.some_of {v : V} {o : Option Value} (r : RelO (some v) o) : ∃ u, o = some u ∧ RelV v u := by
  cases o with
  | none => exact (show False from r).elim
  | some u => exact ⟨u, rfl, r⟩
section
variable {P : Program} {w : World} {H H' : Hp} {h h' : Heap} {a C dx : Addr} {fs fs' : List (Str × V)}
end
section
variable {X : Cx} {pins : List (Addr × Obj)} {σ : St} {H : Hp} {s : Shared} {a C dx : Addr} {fs : List (Str × V)} {f : Str} {v : V} {A : Around} {E : Value → Shared → Prop}
end
section
variable {X : Cx} {o e value : Expr} {f : Str} {pos pos' tpos : Pos} {ta tv : TE}
end
section
variable {X : Cx} {pins : List (Addr × Obj)} {σ : St} {H : Hp} {s : Shared} {A : Around} {E : Value → Shared → Prop} {Q : Value → Shared → Prop} {c : Value} {b : Bool}
end
end L2
namespace L2
open PySem PySem.Spec PyProof.Rows
structure Room (k : Nat) (A : Around) : Prop where
  hd : A.handled = none
  dp : A.depth + 3 * k + 5 < recursionLimit
  un : A.units + 16 * k + 200 < cLine
theorem Room.mono {j k : Nat} {A : Around} (r : Room k A) (h : j ≤ k) : Room j A := ⟨r.hd, by have := r.dp; omega, by have := r.un; omega⟩
theorem Room.deeper {k : Nat} {A : Around} (r : Room (k + 1) A) (env : Env) : Room k (A.deeper env) :=
  ⟨r.hd, by have := r.dp; show A.depth + 1 + 3 * k + 5 < _; omega, by have := r.un; show A.units + 3 + 16 * k + 200 < _; omega⟩
theorem Room.depth {k : Nat} {A : Around} (r : Room k A) : A.depth < recursionLimit := by have := r.dp; omega
theorem Room.units {k : Nat} {A : Around} (r : Room k A) : A.units + 64 < cLine := by have := r.un; omega
def tNil : TA := fun _ H Q => Q [] H
def tCons (ta : TE) (tr : TA) : TA := fun σ H Q => ta σ H fun x H1 => tr σ H1 fun xs H2 => Q (x :: xs) H2
section
variable {X : Cx} {e : Expr} {es : List Expr} {te : TE} {t : TA} {pos : Pos}
theorem pa_nil : PA X [] tNil := ⟨fun _ _ _ _ H Q I h => Calls.spliced_nil ⟨[], H, I, .nil, h⟩⟩
theorem pa_cons (ha : PE X e te) (hr : PA X es t) (hs : starEach (e :: es) X.env = (false, eval e X.env) :: starEach es X.env := by rfl) : PA X (e :: es) (tCons te t) := by
  (first | refine ⟨?_⟩ | skip)
  intro pos pins s σ H Q I h
  rw [hs]
  show wpAny _ _ (spliced ((false, eval e X.env) :: backTo pos (starEach es X.env))) _ _ s
  refine Calls.spliced_cons (thn (ha pins s σ H _ I h) fun u s1 ⟨x, H1, I1, r1, q1⟩ => ?_)
  exact thn (hr pos pins s1 σ H1 _ I1 q1) fun us s2 ⟨xs, H2, I2, r2, q2⟩ => ⟨x :: xs, H2, I2, .cons r1 r2, q2⟩
def tTup (t : TA) : TE := fun σ H Q => t σ H fun xs H1 => xs.length ≤ sizeLine ∧ ∀ p, H1 p = none → Q (.ref p) (upd H1 p (.tup xs))
def tLst (t : TA) : TE := fun σ H Q => t σ H fun xs H1 => xs.length ≤ sizeLine ∧ ∀ p, H1 p = none → Q (.ref p) (upd H1 p (.lst xs))
theorem pe_tup {x1} (h : PA X es t) : PE X (.Tuple es x1 pos) (tTup t) := by
  (first | refine ⟨?_⟩ | skip)
  intro pins s σ H Q I hq
  refine wpAny_Tuple_spliced (thn (h pos pins s σ H _ I hq) fun us s1 ⟨xs, H1, I1, r, z, q⟩ => ⟨by rw [← r.length]; exact z, ?_⟩)
  have hf : H1 s1.heap.objs.size = none := I1.hok.fresh (Nat.le_refl _)
  refine ⟨.ref s1.heap.objs.size, upd H1 s1.heap.objs.size (.tup xs), I1.laid (t' := s1.toks) (fun b u e => Heap.get?_push_of_some _ e) (Nat.le_refl _) ?_, rfl, q _ hf⟩
  exact ⟨z, us, r, ⟨_, Heap.get?_push_size _ rfl, rfl, _, rfl, rfl⟩⟩
theorem pe_lst (h : PA X es t) : PE X (.List es pos) (tLst t) := by
  (first | refine ⟨?_⟩ | skip)
  intro pins s σ H Q I hq
  refine wpAny_List_spliced (thn (h pos pins s σ H _ I hq) fun us s1 ⟨xs, H1, I1, r, z, q⟩ => ⟨by rw [← r.length]; exact z, ?_⟩)
  have hf : H1 s1.heap.objs.size = none := I1.hok.fresh (Nat.le_refl _)
  refine ⟨.ref s1.heap.objs.size, upd H1 s1.heap.objs.size (.lst xs), I1.laid (t' := s1.toks) (fun b u e => Heap.get?_push_of_some _ e) (Nat.le_refl _) ?_, rfl, q _ hf⟩
  exact ⟨z, us, 0, r, Heap.get?_push_size _ rfl⟩
end
abbrev Sp := List V → Hp → VK → XK → Prop
abbrev CXT := List Env → Hp → Shared → XK → Value → Shared → Prop
structure Env0 (P : Program) (w : World) (K : PySem.W.Frag) (mg : Str → Option Value) (base : Heap) (A : Around) (outer : List Env) (s : Shared) (H : Hp) : Prop where
  frames : A.frames = some outer
  mod : Mod K mg base
  bs : ∀ b o, base.get? b = some o → s.heap.get? b = some o ∧ H b = none
  bsz : base.objs.size ≤ s.heap.objs.size
  funs : s.heap.FunFrames base outer
  frf : ∀ b ∈ frs outer, H b = none
  hok : HOk P w H s.heap
  bare : AllBare s.gens
def CE (outer : List Env) (P : Program) (w : World) (H : Hp) (s : Shared) (Q : VK) (u : Value) (s' : Shared) : Prop :=
  ∃ v H', s'.os = s.os ∧ AllBare s'.gens ∧ Un (frs outer) [] H H' s.heap s'.heap ∧ HOk P w H' s'.heap ∧ RelV v u ∧ Q v H'
def CR (CX : CXT) (outer : List Env) (P : Program) (w : World) (H : Hp) (s : Shared) (Q : VK) (E : XK) (r : Result) (s' : Shared) : Prop :=
  match r with
  | .ok (.ret u) => CE outer P w H s Q u s'
  | .ok _ => False
  | .error e => CX outer H s E e s'
structure FnOk (P : Program) (w : World) (K : PySem.W.Frag) (mg : Str → Option Value) (base : Heap) (CX : CXT) (k : Nat) (f : Addr) (fd : FuncData) (ps : List Str) (sp : Sp) : Prop where
  len : ∀ vs H Q E, sp vs H Q E → vs.length = ps.length
  run : ∀ (A : Around) (outer : List Env) (s : Shared) (H : Hp) (args : Args) (us : List Value) (vs : List V) (Q : VK) (E : XK), Room k A → Env0 P w K mg base A outer s H → BindsTo s fd args (ps.zip us) → Vals vs us → sp vs H Q E →
    codeAny (model P w) A (.call (.ref f) args) (CR CX outer P w H s Q E) s
theorem FnOk.imp {P : Program} {w : World} {K : PySem.W.Frag} {mg : Str → Option Value} {base : Heap} {CX : CXT} {k : Nat} {f : Addr} {fd : FuncData} {ps : List Str} {sp sp' : Sp} (F : FnOk P w K mg base CX k f fd ps sp)
    (h : ∀ vs H Q E, sp' vs H Q E → sp vs H Q E) : FnOk P w K mg base CX k f fd ps sp' :=
  ⟨fun vs H Q E q => F.len vs H Q E (h _ _ _ _ q), fun A outer s H args us vs Q E hr he hb hv hs => F.run A outer s H args us vs Q E hr he hb hv (h _ _ _ _ hs)⟩
section
variable {X : Cx} {pins : List (Addr × Obj)} {σ : St} {H : Hp} {s s' : Shared}
theorem Inv.env0 (I : Inv X pins σ H s) : Env0 X.prog X.w X.K X.mg X.base X.A X.stack s H :=
  ⟨I.ok.frames, I.ok.mod, I.bs, Nat.le_trans I.ok.bsz I.sz, I.stack, I.stkFree, I.hok, I.bare⟩
theorem Inv.after {Q : VK} {u : Value} (I : Inv X pins σ H s) (h : CE X.stack X.prog X.w H s Q u s') : EP X pins σ Q u s' := by
  obtain ⟨v, H', os, bare, un, hok, r, q⟩ := h
  obtain ⟨hh, g, d, t, os'⟩ := s'
  obtain rfl : os' = s.os := os
  exact ⟨v, H', I.call (h' := hh) (g' := g) (d' := d) (t' := t) (ch := []) un hok bare (fun b z => absurd z (by simp)), r, q⟩
end
def tCall (sp : Sp) (dvs : List V) (E : XK) (t : TA) : TE := fun σ H Q => t σ H fun vs H1 => sp (vs ++ dvs) H1 Q E
def Binds (K : PySem.W.Frag) (fd : FuncData) (ps : List Str) (ds : List Value) : Prop :=
  ∀ (s : Shared) (us : List Value), K.In s.heap → (us ++ ds).length = ps.length → BindsTo s fd ⟨us, []⟩ (ps.zip (us ++ ds))
theorem Binds.all {K : PySem.W.Frag} {fd : FuncData} {ps : List Str} (h : ∀ us : List Value, us.length = ps.length → bindArgs fd ⟨us, []⟩ = pure (ps.zip us)) : Binds K fd ps [] := fun s us _ hl => by
  rw [List.append_nil] at hl ⊢
  exact .of_eq (h us hl)
def Passes (CX : CXT) (X : Cx) (E : XK) : Prop := ∀ (pins : List (Addr × Obj)) (σ : St) (H : Hp) (s : Shared) (e : Value) (s' : Shared), Inv X pins σ H s → CX X.stack H s E e s' → X.xe e s'
section
variable {X : Cx} {CX : CXT} {k : Nat} {f C : Addr} {fd : FuncData} {ps : List Str} {sp : Sp} {dvs : List V} {ds : List Value} {E : XK} {x m : Str} {p pos apos : Pos} {e o : Expr} {es : List Expr} {ta : TE} {t : TA}
theorem run_fn {pins : List (Addr × Obj)} {σ : St} {H : Hp} {s : Shared} {Q : VK} {us : List Value} {vs : List V} (F : FnOk X.prog X.w X.K X.mg X.base CX k f fd ps sp) (hr : Room k X.A) (hb : Binds X.K fd ps ds) (hd : Vals dvs ds) (hx : Passes CX X E)
    (I : Inv X pins σ H s) (r : Vals vs us) (h : sp (vs ++ dvs) H Q E) : wpAny (model X.prog X.w) X.A (call (.ref f) us) (EP X pins σ Q) X.xe s := by
  have r2 : Vals (vs ++ dvs) (us ++ ds) := r.append hd
  have hl : (us ++ ds).length = ps.length := by rw [← r2.length]; exact F.len _ _ _ _ h
  refine wpAny_call (codeAny_mono (F.run X.A X.stack s H ⟨us, []⟩ (us ++ ds) (vs ++ dvs) Q E hr I.env0 (hb s us I.kIn hl) r2 h) fun r s' hq => ?_)
  cases r with
  | error e => exact hx pins σ H s e s' I hq
  | ok fl =>
    cases fl with
    | ret u => exact I.after hq
    | next => exact False.elim hq
    | brk => exact False.elim hq
    | cont => exact False.elim hq
theorem pe_call (F : FnOk X.prog X.w X.K X.mg X.base CX k f fd ps sp) (hr : Room k X.A) (hg : Gl X x) (hm : X.mg x = some (.ref f)) (hk : PySem.W.keepIn X.K (.ref f) = true) (hb : Binds X.K fd ps ds) (hd : Vals dvs ds) (hx : Passes CX X E)
    (ha : PA X (e :: es) t) (hdb : (x == ("__debug__" : Str)) = false := by decide) (he : starEach (e :: es) X.env = (false, eval e X.env) :: starEach es X.env := by rfl) (hpl : (backTo pos (starEach es X.env)).any (·.1) = false := by rfl) :
    PE X (.Call (.Name x p) (e :: es) [] pos) (tCall sp dvs E t) := by
  (first | refine ⟨?_⟩ | skip)
  intro pins s σ H Q I h
  refine wpAny_Call_Name_kw (ld_glob I hg hm ?_ hdb)
  refine PySem.W.callWith_K (h₀ := X.base) I.ok.mod.kin hk (thn (ha pos pins s σ H _ I h) fun us s1 ⟨vs, H1, I1, r, q⟩ => ⟨I1.kIn, ?_⟩) he hpl
  exact run_fn F hr hb hd hx I1 r q
end
structure PK (X : Cx) (kws : List Keyword) (t : TA) : Prop where
  run :
    ∀ (pos : Pos) (pins : List (Addr × Obj)) (s : Shared) (σ : St) (H : Hp) (Q : List V → Hp → Prop), Inv X pins σ H s → t σ H Q → wpAny (model X.prog X.w) X.A (evalAll ((backToKw pos (keywordEach kws X.env)).map (·.2))) (AP X pins σ Q) X.xe s
instance {X : Cx} {kws : List Keyword} {t : TA} : CoeFun (PK X kws t) fun _ =>
  ∀ (pos : Pos) (pins : List (Addr × Obj)) (s : Shared) (σ : St) (H : Hp) (Q : List V → Hp → Prop), Inv X pins σ H s → t σ H Q → wpAny (model X.prog X.w) X.A (evalAll ((backToKw pos (keywordEach kws X.env)).map (·.2))) (AP X pins σ Q) X.xe s
    := ⟨PK.run⟩
section
variable {X : Cx} {CX : CXT} {k : Nat} {f C : Addr} {fd : FuncData} {ps ks : List Str} {sp : Sp} {E : XK} {x m : Str} {p pos apos kpos : Pos} {e o : Expr} {es : List Expr} {kws : List Keyword} {te ta : TE} {t tk : TA} {nm : Option Str}
theorem pk_nil : PK X [] tNil := ⟨fun _ _ _ _ H Q I h => wpAny_evalAll_nil ⟨[], H, I, .nil, h⟩⟩
theorem pk_cons (ha : PE X e te) (hr : PK X kws t) : PK X (⟨nm, e, kpos⟩ :: kws) (tCons te t) := by
  (first | refine ⟨?_⟩ | skip)
  intro pos pins s σ H Q I h
  show wpAny _ _ (evalAll ((do let v ← eval e X.env; standAt pos; pure v) :: (backToKw pos (keywordEach kws X.env)).map (·.2))) _ _ s
  refine wpAny_evalAll_cons (wpAny_bind (thn (ha pins s σ H _ I h) fun u s1 ⟨x, H1, I1, r1, q1⟩ => wpAny_bind (wpAny_standAt (wpAny_pure ?_))))
  exact thn (hr pos pins s1 σ H1 _ I1 q1) fun us s2 ⟨xs, H2, I2, r2, q2⟩ => ⟨x :: xs, H2, I2, .cons r1 r2, q2⟩
variable {g : List Value → List Value → List Value} {gV : List V → List V → List V}
end
structure FnScope (N P : List Str) (sc : Scope) : Prop where
  kind : sc.kind = .function
  co : sc.isCoroutine = false
  gen : sc.isGenerator = false
  nd : N.Nodup
  pre : N.take P.length = P
  par : ∀ x ∈ P, sc.names.lookup x = some .local ∨ sc.names.lookup x = some .cell
  nofree : ∀ y ∈ sc.names, y.2 ≠ .free
theorem bindL_out {kindOf : Str → Option NameKind} {x : Str} : ∀ {binds : List (Str × Value)} {m : Str → Option Value}, (∀ v, (x, v) ∉ binds) → bindL kindOf binds m x = m x
  | [], _, _ => rfl
  | (n, v) :: r, m, h => by
    unfold bindL
    rw [bindL_out fun w hw => h w (List.mem_cons_of_mem _ hw)]
    split
    · have : x ≠ n := by rintro rfl; exact h v List.mem_cons_self
      simp [this]
    · rfl
theorem bindC_out {kindOf : Str → Option NameKind} {x : Str} : ∀ {binds : List (Str × Value)} {m : Str → Option Value}, (∀ v, (x, v) ∉ binds) → bindC kindOf binds m x = m x
  | [], _, _ => rfl
  | (n, v) :: r, m, h => by
    unfold bindC
    rw [bindC_out fun w hw => h w (List.mem_cons_of_mem _ hw)]
    split
    · rfl
    · have : x ≠ n := by rintro rfl; exact h v List.mem_cons_self
      simp [this]
theorem bindL_get {kindOf : Str → Option NameKind} {x : Str} {v : Value} : ∀ {P : List Str} {vs : List Value} {i : Nat} {m : Str → Option Value}, P.Nodup → P[i]? = some x → vs[i]? = some v → kindOf x = some .local →
    bindL kindOf (P.zip vs) m x = some v
  | [], _, _, _, _, h, _, _ => by simp at h
  | _ :: _, [], _, _, _, _, h, _ => by simp at h
  | p :: P, w :: vs, 0, m, nd, h1, h2, hk => by
    simp at h1 h2; subst h1; subst h2
    show bindL kindOf ((p, w) :: P.zip vs) m p = _
    unfold bindL
    rw [bindL_out fun v hv => (List.nodup_cons.mp nd).1 (List.of_mem_zip hv).1, if_pos hk]
    simp
  | p :: P, w :: vs, i + 1, m, nd, h1, h2, hk => by
    show bindL kindOf ((p, w) :: P.zip vs) m x = _
    unfold bindL
    exact bindL_get (i := i) (List.nodup_cons.mp nd).2 (by simpa using h1) (by simpa using h2) hk
theorem bindC_get {kindOf : Str → Option NameKind} {x : Str} {v : Value} : ∀ {P : List Str} {vs : List Value} {i : Nat} {m : Str → Option Value}, P.Nodup → P[i]? = some x → vs[i]? = some v → kindOf x ≠ some .local →
    bindC kindOf (P.zip vs) m x = some v
  | [], _, _, _, _, h, _, _ => by simp at h
  | _ :: _, [], _, _, _, _, h, _ => by simp at h
  | p :: P, w :: vs, 0, m, nd, h1, h2, hk => by
    simp at h1 h2; subst h1; subst h2
    show bindC kindOf ((p, w) :: P.zip vs) m p = _
    unfold bindC
    rw [bindC_out fun v hv => (List.nodup_cons.mp nd).1 (List.of_mem_zip hv).1, if_neg hk]
    simp
  | p :: P, w :: vs, i + 1, m, nd, h1, h2, hk => by
    show bindC kindOf ((p, w) :: P.zip vs) m x = _
    unfold bindC
    exact bindC_get (i := i) (List.nodup_cons.mp nd).2 (by simpa using h1) (by simpa using h2) hk
def start (N : List Str) (vs : List V) : St := vs.map some ++ List.replicate (N.length - vs.length) none
def cxOf (CX : CXT) (P : Program) (w : World) (K : PySem.W.Frag) (mg : Str → Option Value) (base : Heap) (N : List Str) (qual : Str) (scope : Scope) (f : Addr) (cd : Value) (A : Around) (outer : List Env) (s : Shared) (H : Hp) (E : XK) : Cx where
  prog := P
  w := w
  K := K
  mg := mg
  base := base
  A := A.deeper (envOfC qual scope s.heap.objs.size f cd)
  N := N
  s₀ := s
  H₀ := H
  env := envOfC qual scope s.heap.objs.size f cd
  outer := outer
  stack := envOfC qual scope s.heap.objs.size f cd :: outer
  ex := []
  calm := true
  fn := fun _ => true
  pn := []
  xe := fun e s' => wpAny (model P w) (A.deeper (envOfC qual scope s.heap.objs.size f cd)) (leaving (envOfC qual scope s.heap.objs.size f cd) e) (fun _ s'' => CX outer H s E e s'') (fun e' s'' => CX outer H s E e' s'') s'
theorem cell_has {sc : Scope} {n : Nat} {x : Str} (h : sc.names.lookup x = some .cell) : ∃ c, (cellsFrom n sc.names []).lookup x = some c := by
  have q := PySem.W.cellsFrom_some sc.names n [] (.inl h)
  exact Option.isSome_iff_exists.mp q
theorem inv_start {CX : CXT} {P : Program} {w : World} {K : PySem.W.Frag} {mg : Str → Option Value} {base : Heap} {N ps : List Str} {qual : Str} {scope : Scope} {f : Addr} {cd : Value} {A : Around} {outer : List Env} {s s1 : Shared} {H : Hp} {E : XK} {us : List Value} {vs : List V}
    (S : FnScope N ps scope) (hd : A.handled = none) (e0 : Env0 P w K mg base A outer s H) (hl : vs.length = ps.length) (r : Vals vs us)
    (x : InCallC s s.heap.objs.size (bindL (envOfC qual scope s.heap.objs.size f cd).kindOf (ps.zip us) fun _ => none) (cellsFrom (s.heap.objs.size + 1) scope.names []) (bindC (envOfC qual scope s.heap.objs.size f cd).kindOf (ps.zip us) fun _ => none) s1) :
    Inv (cxOf CX P w K mg base N qual scope f cd A outer s H E) [] (start N vs) H s1 := by
  have hpl : ps.length ≤ N.length := by have := congrArg List.length S.pre; rw [List.length_take] at this; omega
  obtain ⟨h1, tk, rfl, hk⟩ := x.done
  have noA : ∀ b : Addr, b ∉ (cxOf CX P w K mg base N qual scope f cd A outer s H E).ex := fun b z => absurd (show b ∈ ([] : List Addr) from z) (by simp)
  refine ⟨⟨e0.mod, S.kind, rfl, rfl, Nat.le_refl _, fun y z c h1 h2 => ?_, fun y hy => ?_, fun y c _ h => ?_, fun _ => hd, Around.frames_deeper e0.frames, .inr ⟨rfl, rfl⟩, fun b z => absurd z (noA b), e0.bs, e0.bsz, fun b _ _ => noA b, fun b z => absurd z (noA b), e0.funs, e0.frf⟩,
    rfl, e0.bare, Un.kept hk, ⟨_, x.toInCall.ns, fun i y v h1 h2 h3 => ?_⟩, fun y c h => ⟨_, x.cell y c h⟩, e0.hok.fresh (Nat.le_refl _), fun y c h => ?_, fun p hp => absurd (show p ∈ ([] : List (Addr × Obj)) from hp) (by simp), e0.hok.kept hk, ?_⟩
  · exact name_of_addr x.apart (PySem.mem_of_lookup h1) (PySem.mem_of_lookup h2)
  · have hy : scope.names.lookup y = some .cell ∨ scope.names.lookup y = some .free := hy
    rcases hy with hy | hy
    · exact cell_has hy
    · exact absurd rfl (S.nofree _ (PySem.mem_of_lookup hy))
  · exact Nat.le_of_lt (x.above y c (PySem.mem_of_lookup h))
  · have hi : i < vs.length := by
      unfold start at h2
      by_cases hi : i < vs.length
      · exact hi
      · rw [List.getElem?_append_right (by simpa using hi)] at h2
        rw [List.getElem?_replicate] at h2
        split at h2 <;> cases h2
    have ha : vs[i]? = some v := by
      unfold start at h2
      rw [List.getElem?_append_left (by simpa using hi), List.getElem?_map] at h2
      cases e : vs[i]? with
      | none => rw [e] at h2; cases h2
      | some a => rw [e] at h2; cases h2; rfl
    obtain ⟨u, hu, rv⟩ := r.get ha
    have hp : ps[i]? = some y := by
      rw [← S.pre, List.getElem?_take_of_lt (by omega)]; exact h1
    have ndP : ps.Nodup := by rw [← S.pre]; exact S.nd.sublist (List.take_sublist _ _)
    refine ⟨u, rv, ?_⟩
    rcases S.par y (List.mem_of_getElem? hp) with k | k
    · exact .inl ⟨k, bindL_get ndP hp hu k⟩
    · obtain ⟨c, e⟩ := cell_has (n := s.heap.objs.size + 1) k
      refine .inr ⟨.inl k, c, e, ?_⟩
      have q := x.cell y c e
      rw [bindC_get ndP hp hu (by show scope.names.lookup y ≠ _; rw [k]; decide)] at q
      exact q
  · exact e0.hok.fresh (Nat.le_of_lt (x.above y c (PySem.mem_of_lookup h)))
  · unfold start
    show _ = N.length
    rw [List.length_append, List.length_map, List.length_replicate]
    omega
theorem fn_of {CX : CXT} {P : Program} {w : World} {K : PySem.W.Frag} {mg : Str → Option Value} {base : Heap} {k : Nat} {f : Addr} {name qual : Str} {params : Arguments} {body : List Stmt} {scope : Scope} {dV kV doc pm cdv ct oc : Value} {an od : Option Addr}
    {osl : Array (Option Value)} {N ps : List Str} {sp : Sp} (lk : K.lookup f = some ⟨oc, od, .func (PySem.W.fnOf name qual params body scope dV kV doc pm an cdv ct), osl⟩) (hcd : PySem.W.codeIn K cdv qual = true) (S : FnScope N ps scope)
    (len : ∀ vs H Q E, sp vs H Q E → vs.length = ps.length)
    (hbody : ∀ (A : Around) (outer : List Env) (s : Shared) (H : Hp) (vs : List V) (Q : VK) (E : XK), Room k (A.deeper (envOfC qual scope s.heap.objs.size f cdv)) → sp vs H Q E →
      ∃ t, PSs (cxOf CX P w K mg base N qual scope f cdv A outer s H E) body t ∧ t { nx := fun _ H' => Q .non H', rt := Q } (start N vs) H) :
    FnOk P w K mg base CX (k + 1) f (PySem.W.fnOf name qual params body scope dV kV doc pm an cdv ct) ps sp := by
  refine ⟨len, fun A outer s H args us vs Q E hr e0 hb r hsp => ?_⟩
  have hl := len _ _ _ _ hsp
  have KX : K.In s.heap := e0.mod.kin.keeps fun b o e => (e0.bs b o e).1
  have lim : s.heap.NoLimit := e0.mod.nolimit.keeps fun b o e => (e0.bs b o e).1
  have hkind : ∀ y ∈ ps.zip us, scope.names.lookup y.1 = some .local ∨ (scope.names.lookup y.1 = some .cell ∧ ((cellsFrom (s.heap.objs.size + 1) scope.names []).lookup y.1).isSome = true) := fun ⟨n, v⟩ hy => by
    rcases S.par n (List.of_mem_zip hy).1 with q | q
    · exact .inl q
    · exact .inr ⟨q, PySem.W.cellsFrom_some _ _ _ (.inl q)⟩
  refine codeAny_call_function hr.depth (KX _ _ lk) rfl S.co S.gen rfl (PySem.W.codeRec_of KX hcd) (hb _ _ _ _ ?_)
  refine wpAny_newFunctionEnv_cells S.kind hkind fun env he s1 x => ?_
  subst he
  refine ⟨lim.keeps x.toInCall.keep, codeAny_func ?_⟩
  obtain ⟨t, ht, hq⟩ := hbody A outer s H vs Q E (hr.deeper _) hsp
  have I : Inv (cxOf CX P w K mg base N qual scope f cdv A outer s H E) [] (start N vs) H s1 := inv_start S hr.hd e0 hl r x
  refine wpAny_mono (ht [] s1 (start N vs) H _ I hq) (fun fl s' hs => ?_) fun e s' hs => hs
  have fin : ∀ {σ' : St} {H' : Hp} {v : V} {u : Value}, Inv (cxOf CX P w K mg base N qual scope f cdv A outer s H E) [] σ' H' s' → RelV v u → Q v H' → CE outer P w H s Q u s' :=
    fun {σ' H' v u} J rv q => ⟨v, H', J.os, J.bare, J.base, J.hok, rv, q⟩
  cases fl with
  | ret u =>
    obtain ⟨v, σ', H', J, rv, q⟩ := hs
    exact fin J rv q
  | next =>
    obtain ⟨σ', H', J, q⟩ := hs
    exact fin (v := V.non) (u := Value.none) J rfl q
  | brk =>
    obtain ⟨_, _, _, q⟩ := hs
    exact False.elim q
  | cont =>
    obtain ⟨_, _, _, q⟩ := hs
    exact False.elim q
end L2
namespace L2
open PySem PySem.Spec PyProof.Rows
section
variable {X : Cx} {x : Str} {p pos : Pos} {e : Expr} {es : List Expr} {t : TA} {id T : String} {r : List V → Hp → VK → Prop}
def tCB (r : List V → Hp → VK → Prop) (t : TA) : TE := fun σ H Q => t σ H fun vs H1 => r vs H1 Q
theorem pe_callB (hc : CallR X (.builtin id) r) (hg : Gl X x) (hm : X.mg x = none) (hv : bootBuiltins x = some (.builtin id)) (ha : PA X (e :: es) t) (hn : x ≠ "__name__" := by decide) (hdb : (x == ("__debug__" : Str)) = false := by decide)
    (he : starEach (e :: es) X.env = (false, eval e X.env) :: starEach es X.env := by rfl) (hpl : (backTo pos (starEach es X.env)).any (·.1) = false := by rfl) : PE X (.Call (.Name x p) (e :: es) [] pos) (tCB r t) := by
  (first | refine ⟨?_⟩ | skip)
  intro pins s σ H Q I h
  refine wpAny_Call_Name_kw (ld_blt I hg hm hv ?_ hn hdb)
  exact PyProof.Rows.callWith_builtin1 (thn (ha pos pins s σ H _ I h) fun us s1 ⟨vs, H1, I1, r1, q1⟩ => hc pins s1 σ H1 vs us Q I1 r1 q1) he hpl
theorem pe_callTy (hc : CallR X (.type T) r) (hg : Gl X x) (hm : X.mg x = none) (hv : bootBuiltins x = some (.type T)) (ha : PA X (e :: es) t) (hn : x ≠ "__name__" := by decide) (hdb : (x == ("__debug__" : Str)) = false := by decide)
    (he : starEach (e :: es) X.env = (false, eval e X.env) :: starEach es X.env := by rfl) (hpl : (backTo pos (starEach es X.env)).any (·.1) = false := by rfl) : PE X (.Call (.Name x p) (e :: es) [] pos) (tCB r t) := by
  (first | refine ⟨?_⟩ | skip)
  intro pins s σ H Q I h
  refine wpAny_Call_Name_kw (ld_blt I hg hm hv ?_ hn hdb)
  exact PyProof.Rows.callWith_type1 (thn (ha pos pins s σ H _ I h) fun us s1 ⟨vs, H1, I1, r1, q1⟩ => hc pins s1 σ H1 vs us Q I1 r1 q1) he hpl
end
end L2
namespace HT
open PySem PyProof.Rows
def lexLt : List Int → List Int → Bool
  | [], [] => false
  | [], _ :: _ => true
  | _ :: _, [] => false
  | x :: xs, y :: ys => if x = y then lexLt xs ys else decide (x < y)
theorem lexLt_cons (x y : Int) (xs ys : List Int) : lexLt (x :: xs) (y :: ys) = if x = y then lexLt xs ys else decide (x < y) := rfl
theorem lexLt_nil_nil : lexLt [] [] = false := rfl
theorem lexLt_nil_cons (y : Int) (ys : List Int) : lexLt [] (y :: ys) = true := rfl
theorem lexLt_cons_nil (x : Int) (xs : List Int) : lexLt (x :: xs) [] = false := rfl
theorem eqAt_int (A : Around) (s : Shared) (a : Int) (t : Tok) (c : Int) (u : Tok) : ∃ e, SeqAt.EqAt A s (.int a t) (.int c u) e ∧ (e = true ↔ a = c) :=
  ⟨(a == c), SeqAt.EqAt.int_int a t c u, by simp⟩
theorem rcLt_int (A : Around) (s : Shared) (a : Int) (t : Tok) (c : Int) (u : Tok) (prog : Program) (w : World) (E : Value → Shared → Prop) (Q : Value → Shared → Prop) (h : Q (.bool (decide (a < c))) s) :
    wpAny (model prog w) A (richCompare .Lt (.int a t) (.int c u)) Q E s :=
  (PyProof.Rows.lt_int h : wpAny (model prog w) A (compareOp .Lt (.int a t) (.int c u)) Q E s)
section
open PySem.SeqAt
open PySem.AutoSeq1 (wpAny_loadPart')
open PySem.MeetsSeq PySem.MeetsSeq2 PySem.MeetsSeq3
theorem tuple_lt_ints (l b : Addr) (items items2 : Array Value) (n n2 : Nat) (dd dd2 : Option Addr) (sl sl2 : Array (Option Value)) (ns ms : List Int) (hi : IntsAre items.toList ns) (hj : IntsAre items2.toList ms) :
    Meets (Builtin.«tuple.__lt__» ⟨[.ref l, .ref b], []⟩)
      (fun _ R s => s.heap.get? l = some { cls := .type "tuple", dict := dd, data := .seq items n, slots := sl } ∧ s.heap.get? b = some { cls := .type "tuple", dict := dd2, data := .seq items2 n2, slots := sl2 } ∧
        R (.ok (.ret (.bool (lexLt ns ms)))) s) :=
  .of_wp fun prog w A R s h => by
    obtain ⟨hp, g, d, tk, os⟩ := s; obtain ⟨hl, hb, h⟩ := h
    have f2 := AutoSeq1.sub_tuple_tuple
    have z1 : items.size = ns.length := by rw [← hi.length]; simp
    have z2 : items2.size = ms.length := by rw [← hj.length]; simp
    wp_walk using wpAny_loadPart' hl, wpAny_loadPart' hb, wpAny_forIn_list _ (fun rest b s' => b.1 = none ∧ s' = ⟨hp, g, d, tk, os⟩ ∧ ∃ (vs ws : List Value) (ns' ms' : List Int), rest = vs.zip ws ∧
      IntsAre vs ns' ∧ IntsAre ws ms' ∧ ns'.length + items2.size = ms'.length + items.size ∧ R (.ok (.ret (.bool (lexLt ns' ms')))) ⟨hp, g, d, tk, os⟩) _
    case turn =>
      rintro ⟨y, x⟩ rest b s' ⟨hb', rfl, vs, ws, ns', ms', hz, hvi, hwi, hlen, hR⟩
      cases hvi with
      | nil => rw [List.zip_nil_left] at hz; cases hz
      | cons a t hvi' =>
        cases hwi with
        | nil => rw [List.zip_nil_right] at hz; cases hz
        | cons c u hwi' =>
          rw [List.zip_cons_cons] at hz
          injection hz with hyx hrest
          injection hyx with hy hx
          subst hy hx
          rw [lexLt_cons] at hR
          simp only [List.length_cons] at hlen
          obtain ⟨e, he, hiff⟩ := eqAt_int A.in1 ⟨hp, g, d, tk, os⟩ a t c u
          refine wpAny_bind (he prog w _ _ ?_)
          cases e with
          | true =>
            rw [if_pos (hiff.mp rfl)] at hR
            wp_walk
            exact ⟨rfl, rfl, _, _, _, _, hrest, hvi', hwi', by omega, hR⟩
          | false =>
            rw [if_neg (fun q => absurd (hiff.mpr q) Bool.false_ne_true)] at hR
            have hri := rcLt_int A.in1 ⟨hp, g, d, tk, os⟩ a t c u prog w
            wp_walk using hri
            exact ⟨_, rfl, by simpa using hR⟩
    case fin =>
      rintro ⟨b1, b2⟩ s' ⟨hb', rfl, vs, ws, ns', ms', hz, hvi, hwi, hlen, hR⟩
      simp only at hb'
      subst hb'
      have hv : lexLt ns' ms' = decide (items.size < items2.size) := by
        cases hvi with
        | nil =>
          cases hwi with
          | nil =>
            simp only [List.length_nil] at hlen
            rw [lexLt_nil_nil]
            exact (decide_eq_false (by omega)).symm
          | cons c u hw =>
            simp only [List.length_nil, List.length_cons] at hlen
            rw [lexLt_nil_cons]
            exact (decide_eq_true (by omega)).symm
        | cons a t hv =>
          cases hwi with
          | nil =>
            simp only [List.length_nil, List.length_cons] at hlen
            rw [lexLt_cons_nil]
            exact (decide_eq_false (by omega)).symm
          | cons c u hw =>
            rw [List.zip_cons_cons] at hz
            cases hz
      rw [hv] at hR
      wp_walk
      exact ⟨_, rfl, by simpa [Builtin.Tuple.tupleCompareSizes] using hR⟩
    case h =>
      exact ⟨rfl, rfl, items.toList, items2.toList, ns, ms, rfl, hi, hj, by omega, h⟩
end
section
variable {prog : Program} {w : World} {A : Around} {E : Value → Shared → Prop} {s : Shared}
theorem lt_tupInts {l b : Addr} {items items2 : Array Value} {ns ms : List Int} {Q : Value → Shared → Prop} (hl : IsTup s.heap l items) (hb : IsTup s.heap b items2) (hi : IntsAre items.toList ns) (hj : IntsAre items2.toList ms)
    (hu : A.units < cLine) (h : Q (.bool (lexLt ns ms)) s) : wpAny (model prog w) A (compareOp .Lt (.ref l) (.ref b)) Q E s := by
  obtain ⟨⟨cls, dd, data, sl⟩, ho, hc, n, hd⟩ := id hl
  obtain ⟨⟨cls2, dd2, data2, sl2⟩, ho2, hc2, n2, hd2⟩ := id hb
  simp only at hc hd hc2 hd2
  subst hc hd hc2 hd2
  exact richCompare_meets_room (op := .Lt) ⟨_, ho, rfl⟩ ⟨_, ho2, rfl⟩ PySem.F.slot_tuple_lt PySem.F.entry_tuple_lt (PySem.F.args_tuple_lt_2 _ _) (tuple_lt_ints l b items items2 n n2 dd dd2 sl sl2 ns ms hi hj)
    ⟨ho, ho2, show Value.bool (lexLt ns ms) ≠ Value.notImplemented ∧ Q (.bool (lexLt ns ms)) s from ⟨(fun x => nomatch x), h⟩⟩ hu
theorem cat_tup {t b : Addr} {vs ws : List Value} {Q : Value → Shared → Prop} (ht : IsTup s.heap t vs.toArray) (hb : IsTup s.heap b ws.toArray) (hv : vs ≠ [])
    (h1 : ws = [] → Q (.ref t) s) (h2 : ws ≠ [] → Q (.ref s.heap.objs.size) { s with heap := s.heap.push { cls := .type "tuple", data := .seq (vs ++ ws).toArray } })
    (hsz : vs.length + ws.length ≤ sizeLine) : wpAny (model prog w) A (binaryOp .Add (.ref t) (.ref b)) Q E s := by
  obtain ⟨⟨cls, dd, data, sl⟩, ho, hc, n, hd⟩ := id ht
  obtain ⟨⟨cls2, dd2, data2, sl2⟩, ho2, hc2, n2, hd2⟩ := id hb
  simp only at hc hd hc2 hd2
  subst hc hd hc2 hd2
  have e : vs.toArray ++ ws.toArray = (vs ++ ws).toArray := by simp
  by_cases hw : ws = []
  · exact concat_meets ⟨_, ho, rfl⟩ ⟨_, ho2, rfl⟩ noFill_tuple_add seq_tuple_add PySem.F.slot_tuple_add PySem.F.entry_tuple_add (PySem.F.args_tuple_add_2 _ _)
      (tuple_addW1 t b vs.toArray ws.toArray n n2 dd dd2 sl sl2 (by simpa using hv) (by simp [hw])) ⟨ho, ho2, h1 hw⟩
  · refine concat_meets ⟨_, ho, rfl⟩ ⟨_, ho2, rfl⟩ noFill_tuple_add seq_tuple_add PySem.F.slot_tuple_add PySem.F.entry_tuple_add (PySem.F.args_tuple_add_2 _ _)
      (tuple_addW2 t b vs.toArray ws.toArray n n2 dd dd2 sl sl2 (by simpa using hv) (by simpa using hw) (by rw [List.size_toArray, List.size_toArray]; exact hsz)) ⟨ho, ho2, ?_⟩
    rw [e]
    exact h2 hw
def sIx (n d : Nat) : Option Int → Nat
  | none => d
  | some v => if v < 0 then (v + (n : Int)).toNat else min v.toNat n
theorem sIx_none (n d : Nat) : sIx n d none = d := rfl
theorem sIx_nat (n d k : Nat) : sIx n d (some (k : Int)) = min k n := by
  show (if (k : Int) < 0 then ((k : Int) + (n : Int)).toNat else min (k : Int).toNat n) = min k n
  rw [if_neg (by omega), Int.toNat_natCast]
end
end HT
namespace L2
open PySem PySem.Spec PyProof.Rows
abbrev TO := St → Hp → (Option Int → Hp → Prop) → Prop
structure PO (X : Cx) (e : Option Expr) (t : TO) : Prop where
  run :
    ∀ (pins : List (Addr × Obj)) (s : Shared) (σ : St) (H : Hp) (Q : Option Int → Hp → Prop), Inv X pins σ H s → t σ H Q →
      wpAny (model X.prog X.w) X.A (evalPart e X.env) (fun u s' => ∃ o H', Inv X pins σ H' s' ∧ IsPart u o ∧ Q o H') X.xe s
instance {X : Cx} {e : Option Expr} {t : TO} : CoeFun (PO X e t) fun _ =>
  ∀ (pins : List (Addr × Obj)) (s : Shared) (σ : St) (H : Hp) (Q : Option Int → Hp → Prop), Inv X pins σ H s → t σ H Q →
    wpAny (model X.prog X.w) X.A (evalPart e X.env) (fun u s' => ∃ o H', Inv X pins σ H' s' ∧ IsPart u o ∧ Q o H') X.xe s
    := ⟨PO.run⟩
def tNoPart : TO := fun _ H Q => Q none H
def tPart (t : TE) : TO := fun σ H Q => t σ H fun x H1 => ∃ i, x = .int i ∧ Q (some i) H1
theorem intsAre_of {ns : List Int} : ∀ {us : List Value}, Vals (ns.map V.int) us → IntsAre us ns := by
  induction ns with
  | nil => intro us r; rw [List.map_nil] at r; cases r; exact .nil
  | cons n ns ih =>
    intro us r
    rw [List.map_cons] at r
    cases r with
    | cons r1 r2 =>
      obtain ⟨t, e⟩ := r1
      subst e
      exact .cons n t (ih r2)
section
variable {X : Cx} {e : Expr} {te : TE} {lo hi : Option Expr} {tl th : TO} {pos p2 : Pos}
theorem po_none : PO X none tNoPart := by
  (first | refine ⟨?_⟩ | skip)
  intro pins s σ H Q I h
  rw [evalPart_none]
  exact wpAny_pure ⟨none, H, I, .none, h⟩
theorem po_some (h : PE X e te) : PO X (some e) (tPart te) := by
  (first | refine ⟨?_⟩ | skip)
  intro pins s σ H Q I hw
  rw [evalPart_some]
  refine thn (h pins s σ H _ I hw) fun u s1 ⟨x, H1, I1, r1, q1⟩ => ?_
  obtain ⟨i, rfl, q⟩ := q1
  obtain ⟨t, rfl⟩ := r1
  exact ⟨some i, H1, I1, .int i t, q⟩
def SlR (X : Cx) (r : V → Option Int → Option Int → Hp → VK → Prop) : Prop :=
  ∀ (pins : List (Addr × Obj)) (s : Shared) (σ : St) (H : Hp) (x : V) (v vl vu : Value) (lo hi : Option Int) (sl : Addr) (Q : VK), Inv X pins σ H s → RelV x v → s.heap.IsSliceOf sl vl vu .none → IsPart vl lo → IsPart vu hi → r x lo hi H Q →
    ∃ T id, typeLookup (.type T) "__getitem__" = pure (some (.builtin id)) ∧ s.TypeIs v T ∧ wpAny (model X.prog X.w) X.A (getItem v (.ref sl)) (EP X pins σ Q) X.xe s
def tSl (r : V → Option Int → Option Int → Hp → VK → Prop) (te : TE) (tl th : TO) : TE := fun σ H Q => te σ H fun x H1 => tl σ H1 fun l H2 => th σ H2 fun u H3 => r x l u H3 Q
theorem pe_slice {r : V → Option Int → Option Int → Hp → VK → Prop} (hr : SlR X r) (he : PE X e te) (hl : PO X lo tl) (hu : PO X hi th) : PE X (.Subscript e (.Slice lo hi none p2) pos) (tSl r te tl th) := by
  (first | refine ⟨?_⟩ | skip)
  intro pins s σ H Q I h
  refine Subscript_ (thn (he pins s σ H _ I h) fun v s1 ⟨x, H1, I1, r1, q1⟩ => ?_)
  refine wpAny_Slice (thn (hl pins s1 σ H1 _ I1 q1) fun vl s2 ⟨l, H2, I2, pl, q2⟩ => thn (hu pins s2 σ H2 _ I2 q2) fun vu s3 ⟨u, H3, I3, pu, q3⟩ => ?_)
  rw [evalPart_none]
  refine wpAny_pure ?_
  have I4 : Inv X pins σ H3 { s3 with heap := s3.heap.push { cls := .type "slice", data := .fields #[vl, vu, .none] } } := I3.kept (t' := s3.toks) fun b ob q => Heap.get?_push_of_some _ q
  obtain ⟨T, id, hT, ht, hg⟩ := hr pins { s3 with heap := s3.heap.push { cls := .type "slice", data := .fields #[vl, vu, .none] } } σ H3 x v vl vu l u s3.heap.objs.size Q I4 r1 (Heap.IsSliceOf.new ..) pl pu q3
  show wpAny (model X.prog X.w) X.A (subscriptTail e (.Slice lo hi none p2) v (.ref s3.heap.objs.size)) (EP X pins σ Q) X.xe { s3 with heap := s3.heap.push { cls := .type "slice", data := .fields #[vl, vu, .none] } }
  exact tail_any (ops := [.ref s3.heap.objs.size, v]) ht hT hg (by with_unfolding_all rfl)
def cutV (xs : List V) (lo hi : Option Int) : List V := (xs.drop (HT.sIx xs.length 0 lo)).take (HT.sIx xs.length xs.length hi - HT.sIx xs.length 0 lo)
theorem cutV_length (xs : List V) (lo hi : Option Int) : (cutV xs lo hi).length ≤ xs.length := by
  unfold cutV
  rw [List.length_take, List.length_drop]
  omega
def rCatT (K : PySem.W.Frag) : R2 := fun x y H Q => ∃ a b xs ys, x = .ref a ∧ y = .ref b ∧ SqT K H a xs ∧ SqT K H b ys ∧ xs ≠ [] ∧ xs.length + ys.length ≤ sizeLine ∧
  (ys = [] → Q (.ref a) H) ∧ (ys ≠ [] → ∀ p, H p = none → Q (.ref p) (upd H p (.tup (xs ++ ys))))
theorem Vals.nil_iff {xs : List V} {us : List Value} (r : Vals xs us) : us = [] ↔ xs = [] := by
  cases r with
  | nil => simp
  | cons _ _ => simp
theorem op_catT : OpR X (binaryOp .Add) (rCatT X.K) := by
  (first | refine ⟨?_⟩ | skip)
  intro pins s σ H x y v u Q I rx ry h
  obtain ⟨a, b, xs, ys, rfl, rfl, ha, hb, hx, hz, q1, q2⟩ := h
  cases rx
  cases ry
  obtain ⟨its, r1, p1, _⟩ := I.tuple ha
  obtain ⟨its2, r2, p2, _⟩ := I.tuple hb
  refine HT.cat_tup p1 p2 (fun z => hx (r1.nil_iff.mp z)) (fun z => ⟨.ref a, H, I, rfl, q1 (r2.nil_iff.mp z)⟩) (fun z => ?_) (by rw [← r1.length, ← r2.length]; exact hz)
  refine ⟨.ref s.heap.objs.size, _, I.laid (t' := s.toks) (o := .tup (xs ++ ys)) (fun b ob q => Heap.get?_push_of_some _ q) (Nat.le_refl _) ?_, rfl, q2 (fun w => z (r2.nil_iff.mpr w)) _ (I.hok.fresh (Nat.le_refl _))⟩
  exact ⟨by rw [List.length_append]; exact hz, _, r1.append r2, IsTupD.new _ _⟩
end
end L2
namespace L2
open PySem PySem.Spec PyProof.Rows
def ixN (n : Nat) (i : Int) : Option Nat := if 0 ≤ i then (if i < n then some i.toNat else none) else if -(n : Int) ≤ i then some (i + n).toNat else none
def atI {α : Type} (xs : List α) (i : Int) : Option α := (ixN xs.length i).bind fun j => xs[j]?
theorem ixN_seq {n : Nat} {i : Int} {j : Nat} (h : ixN n i = some j) : seqIndex? i n = some j ∧ j < n ∧ -(n : Int) ≤ i ∧ i < n := by
  unfold ixN at h
  by_cases h0 : 0 ≤ i
  · rw [if_pos h0] at h
    by_cases h1 : i < n
    · rw [if_pos h1] at h
      have e : i.toNat = j := Option.some.inj h
      exact ⟨by rw [seqIndex_of h0 h1, e], by omega, by omega, h1⟩
    · rw [if_neg h1] at h; cases h
  · rw [if_neg h0] at h
    by_cases h1 : -(n : Int) ≤ i
    · rw [if_pos h1] at h
      have e : (i + n).toNat = j := Option.some.inj h
      exact ⟨by rw [seqIndex_neg (by omega) h1, e], by omega, h1, by omega⟩
    · rw [if_neg h1] at h; cases h
theorem atI_get {α : Type} {xs : List α} {i : Int} {v : α} (h : atI xs i = some v) : ∃ j, seqIndex? i xs.length = some j ∧ xs[j]? = some v ∧ j < xs.length ∧ -(xs.length : Int) ≤ i ∧ i < xs.length := by
  unfold atI at h
  cases e : ixN xs.length i with
  | none => rw [e] at h; cases h
  | some j =>
    rw [e] at h
    obtain ⟨h1, h2, h3, h4⟩ := ixN_seq e
    exact ⟨j, h1, h, h2, h3, h4⟩
theorem atI_nat {α : Type} {xs : List α} {j : Nat} {v : α} (h : xs[j]? = some v) : atI xs (j : Int) = some v := by
  have hj : j < xs.length := (List.getElem?_eq_some_iff.mp h).1
  have e : ixN xs.length (j : Int) = some j := by
    unfold ixN
    rw [if_pos (by omega), if_pos (by omega)]; simp
  unfold atI; rw [e]; exact h
def PlainIx (b : Expr) : Prop := ∀ o i, subscripted b false o i = operate [o, i] (getItem o i)
def IxR (X : Cx) (r : R2) : Prop :=
  ∀ (value slice : Expr) (pins : List (Addr × Obj)) (s : Shared) (σ : St) (H : Hp) (x y : V) (v u : Value) (Q : VK), Inv X pins σ H s → RelV x v → RelV y u → r x y H Q →
    subscripted slice false v u = operate [v, u] (getItem v u) → wpAny (model X.prog X.w) X.A (subscriptTail value slice v u) (EP X pins σ Q) X.xe s
def MtR (X : Cx) (id : String) (r : V → List V → Hp → VK → Prop) : Prop :=
  ∀ (pins : List (Addr × Obj)) (s : Shared) (σ : St) (H : Hp) (x : V) (xs : List V) (v : Value) (us : List Value) (Q : VK), Inv X pins σ H s → RelV x v → Vals xs us → r x xs H Q →
    wpAny (model X.prog X.w) X.A (call (.builtin id) (v :: us)) (EP X pins σ Q) X.xe s
section
variable {X : Cx} {a b : Expr} {ta tb : TE} {pos : Pos}
theorem pe_ix {r : R2} (hr : IxR X r) (ha : PE X a ta) (hb : PE X b tb) (hs : PlainIx b) : PE X (.Subscript a b pos) (tOp r ta tb) := by
  (first | refine ⟨?_⟩ | skip)
  intro pins s σ H Q I h
  exact Subscript_ (binT ha hb I h fun v u s2 x y H2 I2 rx ry q => hr a b pins s2 σ H2 x y v u Q I2 rx ry q (hs _ _))
def rIxL (K : PySem.W.Frag) : R2 := fun x y H Q => ∃ p xs i v, x = .ref p ∧ y = .int i ∧ SqL K H p xs ∧ atI xs i = some v ∧ Q v H
def rIxT (K : PySem.W.Frag) : R2 := fun x y H Q => ∃ p xs i v, x = .ref p ∧ y = .int i ∧ SqT K H p xs ∧ atI xs i = some v ∧ Q v H
def rIxS : R2 := fun x y H Q => ∃ z i c, x = .str z ∧ y = .int i ∧ z.length ≤ sizeLine ∧ atI z.cps.toList i = some c ∧ Q (.str ⟨#[c]⟩) H
theorem ix_list : IxR X (rIxL X.K) := by
  intro value slice pins s σ H x y v u Q I rx ry h hs
  obtain ⟨p, xs, i, z, rfl, rfl, hq, he, q⟩ := h
  cases rx
  obtain ⟨t, rfl⟩ := ry
  obtain ⟨its, r, pl, hz⟩ := I.list hq
  obtain ⟨j, h1, h2, h3, h4, h5⟩ := atI_get he
  obtain ⟨w, ew, rw'⟩ := r.get h2
  have hl := r.length
  have hn := line63
  have fin : EP X pins σ Q w s := ⟨z, H, I, rw', q⟩
  by_cases h0 : 0 ≤ i
  · have hj : i.toNat = j := by
      rw [seqIndex_of h0 h5] at h1
      exact Option.some.inj h1
    exact item_listR pl.isList h0 (by omega) (by rw [hj]; simpa using ew) fin hs
  · have hj : (i + (its.toArray.size : Int)).toNat = j := by
      rw [seqIndex_neg (by omega) h4] at h1
      rw [List.size_toArray, ← hl]
      exact Option.some.inj h1
    exact subscriptTail_builtinR (x := w) pl.isList.typeIs slot_list_getitem.lookup
      (wpAny_getItem_list_neg (Q := fun r s' => r = w ∧ EP X pins σ Q r s') pl.isList (by omega) (by rw [List.size_toArray] <;> omega) (by omega) (by rw [hj]; simpa using ew) ⟨rfl, fin⟩) hs
theorem ix_tup : IxR X (rIxT X.K) := by
  intro value slice pins s σ H x y v u Q I rx ry h hs
  obtain ⟨p, xs, i, z, rfl, rfl, hq, he, q⟩ := h
  cases rx
  obtain ⟨t, rfl⟩ := ry
  obtain ⟨its, r, pl, hz⟩ := I.tuple hq
  obtain ⟨j, h1, h2, h3, h4, h5⟩ := atI_get he
  obtain ⟨w, ew, rw'⟩ := r.get h2
  have hl := r.length
  have hn := line63
  have fin : EP X pins σ Q w s := ⟨z, H, I, rw', q⟩
  exact subscriptTail_builtinR (x := w) pl.typeIs slot_tuple_getitem.lookup
    (getItem_tuple (j := j) (Q := fun r s' => r = w ∧ EP X pins σ Q r s') pl (by omega) (by omega) (by rw [List.size_toArray, ← hl]; exact h1) (by simpa using ew) ⟨rfl, fin⟩) hs
theorem ix_str : IxR X rIxS := by
  intro value slice pins s σ H x y v u Q I rx ry h hs
  obtain ⟨z, i, c, rfl, rfl, hz, he, q⟩ := h
  obtain ⟨t, rfl⟩ := rx
  obtain ⟨t', rfl⟩ := ry
  obtain ⟨j, h1, h2, h3, h4, h5⟩ := atI_get he
  have hl : z.cps.toList.length = z.length := by simp [Str.length]
  rw [hl] at h1 h4 h5
  have hn := line63
  exact tail_any (typeIs_str s z t) slot_str_getitem.lookup (getItem_str (c := c) (by
    have e1 : decide (i < -(2 ^ 63 : Int)) = false := decide_eq_false (by omega)
    have e2 : decide (i ≥ 2 ^ 63) = false := decide_eq_false (by omega)
    rw [e1, e2, Bool.or_false]) (by rw [h1]; simpa using h2) ⟨.str ⟨#[c]⟩, H, I.tok _, ⟨_, rfl⟩, q⟩) hs
theorem mapSeq_set (its : List Value) (n j : Nat) (u : Value) : Obj.mapSeq (·.setIfInBounds j u) { cls := .type "list", data := .seq its.toArray n } = { cls := .type "list", data := .seq (its.set j u).toArray n } := by
  simp [Obj.mapSeq]
theorem Inv.lst {pins : List (Addr × Obj)} {σ : St} {H : Hp} {s : Shared} {p : Addr} {xs : List V} (I : Inv X pins σ H s) (h : H p = some (.lst xs)) :
    ∃ (its : List Value) (n : Nat), Vals xs its ∧ s.heap.get? p = some { cls := .type "list", data := .seq its.toArray n } ∧ xs.length ≤ sizeLine := by
  obtain ⟨z, its, n, r, e⟩ := I.hok p _ h
  exact ⟨its, n, r, e, z⟩
theorem Inv.lstUpd {pins : List (Addr × Obj)} {σ : St} {H : Hp} {s : Shared} {p : Addr} {xs ys : List V} {its its' : List Value} {n n' : Nat} {f : Obj → Obj} (I : Inv X pins σ H s) (h : H p = some (.lst xs))
    (ho : s.heap.get? p = some { cls := .type "list", data := .seq its.toArray n }) (hf : f { cls := .type "list", data := .seq its.toArray n } = { cls := .type "list", data := .seq its'.toArray n' }) (r : Vals ys its') (hz : ys.length ≤ sizeLine) (t : Nat) :
    Inv X pins σ (upd H p (.lst ys)) { s with heap := s.heap.update p f, toks := t } := by
  have e : (s.heap.update p f).get? p = some { cls := .type "list", data := .seq its'.toArray n' } := by
    rw [Heap.get?_update_self f ho (by rw [hf] <;> rfl), hf]
  refine I.write (x := p) (e := p) (by rw [h]; trivial) (.inl rfl) (fun b u hb q => (Heap.get?_update_other _ _ (Ne.symm hb)).trans q) ⟨_, e⟩ ?_
  exact ⟨hz, its', n', r, e⟩
def rSetL : V → V → V → Hp → (Hp → Prop) → Prop := fun o i v H Q => ∃ p xs k j, o = .ref p ∧ i = .int k ∧ H p = some (.lst xs) ∧ ixN xs.length k = some j ∧ Q (upd H p (.lst (xs.set j v)))
theorem set_list : PSet X rSetL := by
  (first | refine ⟨?_⟩ | skip)
  intro pins s σ H o i v ov iv u Q I ro ri rv h
  obtain ⟨p, xs, k, j, rfl, rfl, hp, hj, q⟩ := h
  cases ro
  obtain ⟨t, rfl⟩ := ri
  obtain ⟨its, n, r, ho, hz⟩ := I.lst hp
  obtain ⟨h1, h2, h3, h4⟩ := ixN_seq hj
  have hl := r.length
  have hn := line63
  have I' : Inv X pins σ (upd H p (.lst (xs.set j v))) { s with heap := s.heap.update p (Obj.mapSeq (·.setIfInBounds j u)) } :=
    I.lstUpd hp ho (mapSeq_set its n j u) (r.set rv j) (by rw [List.length_set]; exact hz) s.toks
  by_cases h0 : 0 ≤ k
  · have hk : k.toNat = j := by
      rw [seqIndex_of h0 h4] at h1
      exact Option.some.inj h1
    exact PySem.W.ki_setAt ho h0 (by omega) (by rw [List.size_toArray, ← hl]; exact h4) (by rw [hk]; exact ⟨_, I', q⟩)
  · have hk : (k + (its.toArray.size : Int)).toNat = j := by
      rw [seqIndex_neg (by omega) h3] at h1
      rw [List.size_toArray, ← hl]
      exact Option.some.inj h1
    exact PySem.W.ki_setBack ho (by omega) (by rw [List.size_toArray, ← hl]; exact h3) (by omega) (by rw [hk]; exact ⟨_, I', q⟩)
theorem slice_bounds (lo hi : Option Int) (n : Nat) : (sliceBounds lo hi none n).1 = ((HT.sIx n 0 lo : Nat) : Int) ∧ (sliceBounds lo hi none n).2.1 = ((HT.sIx n n hi : Nat) : Int) ∧ (sliceBounds lo hi none n).2.2 = 1 := by
  refine ⟨?_, ?_, rfl⟩
  · cases lo with
    | none => simp [sliceBounds, HT.sIx]
    | some i =>
      simp only [sliceBounds, HT.sIx, Option.getD_none, show (1 : Int) > 0 by decide, if_true]
      by_cases h : i < 0
      · simp only [h, if_true] <;> omega
      · simp only [h, if_false] <;> omega
  · cases hi with
    | none => simp [sliceBounds, HT.sIx]
    | some i =>
      simp only [sliceBounds, HT.sIx, Option.getD_none, show (1 : Int) > 0 by decide, if_true]
      by_cases h : i < 0
      · simp only [h, if_true] <;> omega
      · simp only [h, if_false] <;> omega
theorem slicePick_cut (its : List Value) (lo hi : Option Int) : slicePick its.toArray lo hi none = ((its.drop (HT.sIx its.length 0 lo)).take (HT.sIx its.length its.length hi - HT.sIx its.length 0 lo)).toArray := by
  obtain ⟨h1, h2, h3⟩ := slice_bounds lo hi its.toArray.size
  unfold slicePick
  rw [h1, h2, h3]
  simp only [sliceRange_one, pick_run, List.size_toArray] <;> rfl
def rSlL (K : PySem.W.Frag) : V → Option Int → Option Int → Hp → VK → Prop := fun x lo hi H Q => ∃ a xs, x = .ref a ∧ SqL K H a xs ∧ ∀ p, H p = none → Q (.ref p) (upd H p (.lst (cutV xs lo hi)))
theorem sl_list : SlR X (rSlL X.K) := by
  (first | refine ⟨?_⟩ | skip)
  intro pins s σ H x v vl vu lo hi sl Q I rx hs pl pu h
  obtain ⟨a, xs, rfl, hx, q⟩ := h
  cases rx
  obtain ⟨its, r, ht, hz⟩ := I.list hx
  have hlen := r.length
  refine ⟨"list", _, slot_list_getitem.lookup, ht.isList.typeIs, ?_⟩
  refine wpAny_getItem_list_slice ht.isList hs pl pu .none (by simp) ?_ (by rw [List.size_toArray] <;> omega)
  rw [slicePick_cut, ← hlen]
  refine ⟨.ref s.heap.objs.size, _, I.laid (t' := s.toks) (o := .lst (cutV xs lo hi)) (fun b ob q => Heap.get?_push_of_some _ q) (Nat.le_refl _) ?_, rfl, q _ (I.hok.fresh (Nat.le_refl _))⟩
  exact ⟨Nat.le_trans (cutV_length xs lo hi) hz, _, 0, (r.drop (HT.sIx xs.length 0 lo)).take (HT.sIx xs.length xs.length hi - HT.sIx xs.length 0 lo), Heap.get?_push_size _ rfl⟩
theorem call_tuple_of : CallR X (.type "tuple") (fun xs H Q => ∃ p ys, xs = [.ref p] ∧ ((SqL X.K H p ys ∧ ∀ l, H l = none → Q (.ref l) (upd H l (.tup ys))) ∨ (SqT X.K H p ys ∧ Q (.ref p) H))) := by
  (first | refine ⟨?_⟩ | skip)
  intro pins s σ H xs us Q I r h
  obtain ⟨p, ys, rfl, h⟩ := h
  obtain ⟨u, rfl, rx⟩ := vals1 r
  cases rx
  rcases h with ⟨hq, q⟩ | ⟨hq, q⟩
  · obtain ⟨its, r', pl, hz⟩ := I.list hq
    have hlen := r'.length
    refine call_tuple_list pl.isList (fun h' kp => ?_) (by simp only [List.size_toArray] <;> omega)
    have I1 : Inv X pins σ H { s with heap := h' } := I.kept (t' := s.toks) kp
    have I2 : Inv X pins σ (upd H h'.objs.size (.tup ys)) { s with heap := h'.push { cls := .type "tuple", data := .seq its.toArray } } :=
      I1.laid (t' := s.toks) (fun b o e => Heap.get?_push_of_some _ e) (Nat.le_refl _) (show ObjOk X.prog X.w _ _ _ (.tup ys) from ⟨hz, its, r', IsTupD.new _ _⟩)
    exact ⟨.ref h'.objs.size, _, I2, rfl, q _ (I1.hok.fresh (Nat.le_refl _))⟩
  · obtain ⟨its, r', pl, hz⟩ := I.tuple hq
    exact call_tuple_same pl ⟨.ref p, H, I, rfl, q⟩
def tyV (K : PySem.W.Frag) (T : String) (x : V) (H : Hp) : Prop := match x with
  | .str _ => T = "str"
  | .int _ => T = "int"
  | .ref p => (T = "list" ∧ ∃ xs, SqL K H p xs) ∨ (T = "tuple" ∧ ∃ o, K.lookup p = some o ∧ o.cls = .type "tuple" ∧ o.dict = none) ∨
      (T = "dict" ∧ ((∃ kvs, H p = some (.dK kvs)) ∨ ∃ kvs, H p = some (.dT kvs))) ∨ (T = "set" ∧ ∃ S n, H p = some (.set S n))
  | _ => False
theorem tyV_is {pins : List (Addr × Obj)} {σ : St} {H : Hp} {s : Shared} {T : String} {x : V} {v : Value} (I : Inv X pins σ H s) (r : RelV x v) (ty : tyV X.K T x H) :
    s.TypeIs v T ∧ ∀ a, v = .ref a → ∃ ob, s.heap.get? a = some ob ∧ ob.dict = none := by
  cases x with
  | str z =>
    obtain ⟨t, rfl⟩ := r
    cases (show T = "str" from ty)
    exact ⟨typeIs_str s z t, fun _ e => nomatch e⟩
  | int i =>
    obtain ⟨t, rfl⟩ := r
    cases (show T = "int" from ty)
    exact ⟨typeIs_int s i t, fun _ e => nomatch e⟩
  | ref p =>
    cases r
    rcases ty with ⟨rfl, xs, hq⟩ | ⟨rfl, o, hk, hc, hd⟩ | ⟨rfl, hk⟩ | ⟨rfl, S, n, hk⟩
    · obtain ⟨its, _, pl, _⟩ := I.list hq
      refine ⟨pl.isList.typeIs, fun a e => ?_⟩
      cases e
      obtain ⟨o, n, e, c, hd, _⟩ := pl
      exact ⟨o, e, hd⟩
    · refine ⟨⟨o, I.kIn p o hk, hc⟩, fun a e => ?_⟩
      cases e
      exact ⟨o, I.kIn _ o hk, hd⟩
    · have z : ∃ o, s.heap.get? p = some o ∧ o.ExactDict := by
        rcases hk with ⟨kvs, hk⟩ | ⟨kvs, hk⟩
        · obtain ⟨_, _, _, _, o, _, _, e, ex, _⟩ := I.hok p _ hk
          exact ⟨o, e, ex⟩
        · obtain ⟨_, _, _, _, o, _, _, e, ex, _⟩ := I.hok p _ hk
          exact ⟨o, e, ex⟩
      obtain ⟨o, e, ex⟩ := z
      refine ⟨⟨o, e, ex.1⟩, fun a e2 => ?_⟩
      cases e2
      exact ⟨o, e, ex.2.1⟩
    · obtain ⟨o, _, _, _, e, ex, _⟩ := I.hok p _ hk
      refine ⟨⟨o, e, ex.1⟩, fun a e2 => ?_⟩
      cases e2
      exact ⟨o, e, ex.2.1⟩
  | _ => exact False.elim ty
def tBM (K : PySem.W.Frag) (T : String) (r : V → List V → Hp → VK → Prop) (to : TE) (t : TA) : TE := fun σ H Q => to σ H fun x H1 => tyV K T x H1 ∧ t σ H1 fun xs H2 => r x xs H2 Q
variable {o e : Expr} {es : List Expr} {to : TE} {t : TA} {name : Str} {apos cpos : Pos} {T id : String} {r : V → List V → Hp → VK → Prop}
theorem pe_bm (pa : PlainAttrs T) (slot : Slot T name id) (hty : typeOf (.builtin id) = pure (.type "method_descriptor")) (hm : MtR X id r) (ho : PE X o to) (ha : PA X (e :: es) t)
    (hbase : attributeBase o name X.env (eval o X.env) = eval o X.env := by rfl)
    (hfew : ((backTo cpos (starEach (e :: es) X.env)).all (fun x => !x.1) && (backToKw cpos (keywordEach [] X.env)).all (fun x => x.1.isSome)
      && decide ((e :: es).length + ([] : List Keyword).length + (if ([] : List Keyword).isEmpty then 0 else 1) < 30)) = true := by rfl)
    (hline : (apos.endLine == cpos.line) = true := by rfl) (hs : starEach (e :: es) X.env = (false, eval e X.env) :: starEach es X.env := by rfl) (hplain : (backTo cpos (starEach es X.env)).any (·.1) = false := by rfl) :
    PE X (.Call (.Attribute o name apos) (e :: es) [] cpos) (tBM X.K T r to t) := by
  (first | refine ⟨?_⟩ | skip)
  intro pins s σ H Q I h
  refine wpAny_Call_method_late hbase hfew hline rfl (thn (ho pins s σ H _ I h) fun v s1 ⟨x, H1, I1, r1, ty, q1⟩ => ?_)
  obtain ⟨h1, h2⟩ := tyV_is I1 r1 ty
  refine ⟨T, id, pa, slot, hty, h1, h2, ?_⟩
  have hA := ha cpos pins s1 σ H1 _ I1 q1
  rw [hs] at hA ⊢
  refine Calls.callWith_builtin (by show (false || (backTo cpos (starEach es X.env)).any (·.1)) = false; rw [hplain] <;> rfl) (Calls.evalArgs_plain ?_)
  exact thn hA fun us s2 ⟨vs, H2, I2, r2, q2⟩ => hm pins s2 σ H2 x vs v us Q I2 r1 r2 q2
end
end L2
namespace L2
open PySem PySem.Spec PyProof.Rows
def MtM (X : Cx) (id : String) (r : V → List V → Hp → VK → Prop) : Prop :=
  ∀ (pins : List (Addr × Obj)) (s : Shared) (σ : St) (H : Hp) (x : V) (xs : List V) (v : Value) (us : List Value) (Q : VK), Inv X pins σ H s → RelV x v → Vals xs us → r x xs H Q →
    wpAny (model X.prog X.w) X.A (call (.builtin id) (v :: us)) (EP X pins σ Q) X.xe s
theorem Vals.one : ∀ {x : V} {us : List Value}, Vals [x] us → ∃ u, us = [u] ∧ RelV x u
  | _, _, .cons r .nil => ⟨_, rfl, r⟩
theorem Vals.reverse {xs : List V} {us : List Value} (h : Vals xs us) : Vals xs.reverse us.reverse := by
  induction h with
  | nil => exact .nil
  | cons r t ih => rw [List.reverse_cons, List.reverse_cons]; exact Vals.append ih (.cons r .nil)
section
variable {X : Cx} {pins : List (Addr × Obj)} {σ : St} {H : Hp} {s : Shared} {l b : Addr} {xs ys zs : List V}
theorem Inv.lset {its its' : List Value} {n : Nat} {f : Array Value → Array Value} {t' : Nat} (I : Inv X pins σ H s) (hH : H l = some (.lst xs))
    (e : s.heap.get? l = some { cls := .type "list", data := .seq its.toArray n }) (hf : f its.toArray = its'.toArray) (hv : Vals ys its') (hz : ys.length ≤ sizeLine) :
    Inv X pins σ (upd H l (.lst ys)) { s with heap := s.heap.update l (Obj.mapSeq f), toks := t' } := by
  have q := PySem.IsL.update e f
  rw [hf] at q
  refine I.write (x := l) (e := l) (by rw [hH]; exact trivial) (.inl rfl) (fun b' u hb hu => (Heap.get?_update_other s.heap (Obj.mapSeq f) (Ne.symm hb)).trans hu) ⟨_, q⟩ ?_
  exact ⟨hz, its', _, hv, q⟩
theorem Inv.lnew {its : List Value} {t' : Nat} (I : Inv X pins σ H s) (hv : Vals ys its) (hz : ys.length ≤ sizeLine) :
    Inv X pins σ (upd H s.heap.objs.size (.lst ys)) { s with heap := s.heap.push { cls := .type "list", data := .seq its.toArray }, toks := t' } :=
  I.laid (fun _ _ q => Heap.get?_push_of_some _ q) (Nat.le_refl _) ⟨hz, its, 0, hv, Heap.get?_push_size _ rfl⟩
theorem Inv.fresh (I : Inv X pins σ H s) : H s.heap.objs.size = none := I.hok.fresh (Nat.le_refl _)
theorem Inv.lstM (I : Inv X pins σ H s) (hH : H l = some (.lst xs)) : xs.length ≤ sizeLine ∧ ∃ (its : List Value) (n : Nat), Vals xs its ∧ xs.length = its.length ∧ s.heap.get? l = some { cls := .type "list", data := .seq its.toArray n } := by
  obtain ⟨z, its, n, r, e⟩ := I.hok l _ hH
  exact ⟨z, its, n, r, r.length, e⟩
theorem notLongL {n : Nat} (h : n ≤ sizeLine) : Builtin.List.listTooLong n = false := by
  unfold Builtin.List.listTooLong
  exact decide_eq_false (by omega)
end
section
variable {X : Cx}
def rAppend : V → List V → Hp → VK → Prop := fun x vs H Q => ∃ l xs y, x = .ref l ∧ vs = [y] ∧ H l = some (.lst xs) ∧ xs.length < sizeLine ∧ Q .non (upd H l (.lst (xs ++ [y])))
theorem mt_append : MtM X "list.append" rAppend := by
  (first | refine ⟨?_⟩ | skip)
  intro pins s σ H x vs v us Q I rx rv h
  obtain ⟨l, xs, y, rfl, rfl, hH, hz, q⟩ := h
  cases rx
  obtain ⟨u, rfl, ru⟩ := rv.one
  obtain ⟨z, its, n, r, hl, e⟩ := I.lstM hH
  refine call_meets F.slot_list_append ⟨_, e, rfl⟩ F.entry_list_append (F.args_list_append_2 _ _) (PySem.list_append l its.toArray n u (by rw [List.size_toArray]; omega)) ⟨e, ?_⟩
  refine ⟨.non, _, I.lset (its' := its ++ [u]) hH e (by simp) (r.append (.cons ru .nil)) ?_, rfl, q⟩
  rw [List.length_append, List.length_singleton]
  omega
end
section
variable {prog : Program} {w : World} {A : Around} {E : Value → Shared → Prop} {s : Shared}
end
section
variable {X : Cx}
end
end L2
namespace Att
open PySem PySem.W PySem.Calls PyProof.Rows
theorem ints_of_wellAll {P : Params} {h : Heap} : ∀ (ns : List Int) (vs : List Value), WellAll P h vs (ns.map WData.int) → IntsAre vs ns := by
  intro ns
  induction ns with
  | nil =>
    intro vs w
    rw [List.map_nil] at w
    cases w
    exact .nil
  | cons n ns ih =>
    intro vs w
    rw [List.map_cons] at w
    cases w with
    | cons a b =>
      cases a
      exact .cons _ _ (ih _ b)
theorem script_of {l : OpenLaw} {n : Nat} (hn : l.most = some n) {P : Params} {h : Heap} {args : List WData} {vals : List Value}
    (hpre : l.row.toRowW.claim.pre args = true) (hwl : WellAll P h vals args) :
    ∃ a vs ns, vals = [Value.ref a] ∧ args = [WData.list (ns.map WData.int)] ∧ h.get? a = some { cls := .type "list", data := .seq vs.toArray } ∧ IntsAre vs ns ∧ ns.length ≤ n := by
  have hsh : WShape.hasAll [] args [.list .int] = true := (pre_splitW hpre).1
  have hc : l.pre.holds [] { args := args } = true := (pre_splitW hpre).2
  obtain ⟨d, r, rfl, h1, h2⟩ := hasAllW_cons hsh
  obtain rfl := hasAllW_nil h2
  obtain ⟨xs, rfl, h3⟩ := hasW_list h1
  obtain ⟨ns, rfl⟩ := items_int h3
  have hlen : ns.length ≤ n := by
    unfold OpenLaw.pre at hc
    have h4 : (WTm.not (.lt (.lit (.int (n : Int))) (.len (.arg 0)))).holds [] { args := [.list (ns.map .int)] } = true := by
      have h4 := (holds_andW hc).1
      rw [hn] at h4
      exact h4
    have h5 := condW_of h4 (w_not (w_lt w_lit (w_len_list (w_arg rfl))))
    rw [List.length_map] at h5
    refine Nat.le_of_not_lt fun q => ?_
    have q' : (n : Int) < ((ns.length : Nat) : Int) := by omega
    first
      | (rw [decide_eq_true q'] at h5; exact absurd h5 (by decide))
      | (simp at h5; omega)
  cases hwl with
  | cons w1 w2 =>
    cases w2
    cases w1 with
    | list ho hall => exact ⟨_, _, ns, rfl, rfl, ho, ints_of_wellAll ns _ hall, hlen⟩
theorem post_true (l : OpenLaw) (args : List WData) : l.row.toRowW.claim.post args (.bool true) args = true :=
  postW_of (r := l.row.toRowW) (X := (true == true))
    (show WShape.has [] (.bool true) .bool = true by first | rfl | decide | simp [WShape.has, WShape.arms, WShape.armsAll])
    (show (WTm.eq .res (.lit (.bool true))).value [] { args := args, res := some (.bool true), after := args } = some (.bool (true == true)) from w_eq_bool (w_res rfl) w_lit) rfl
theorem attach_call {l : OpenLaw} {n : Nat} {q : Program} {loose : List Str} {XP : (Str → Option Value) → Heap → Prop} {YP : World → Heap → Prop} {d : DefRec}
    (hn : l.most = some n) (hdf : d.params.defaults = [])
    (call : ∀ (w : World) (s₀ s₁ : Shared) (mg mb : Str → Option Value) (fa : Addr) (o : Obj) (pm cd doc : Value) (a : Addr) (vs : List Value) (ns : List Int),
      Ground q loose [] XP w s₀ mg mb s₁.heap → YP w s₁.heap →
      s₁.heap.get? fa = some o → o.data = .func (docDef d.name d.params d.body d.scope pm cd doc) → s₁.heap.CodeRec cd d.name → mg d.name = some (.ref fa) →
      s₁.heap.get? a = some { cls := .type "list", data := .seq vs.toArray } → IntsAre vs ns → ns.length ≤ n → s₁.gens = #[] →
      codeAny (model l.prog w) callerA (.call (.ref fa) ⟨[.ref a], []⟩) (fun r s' => r = .ok (.ret (.bool true)) ∧ OldK s₁.heap s'.heap ∧ s'.os = s₁.os ∧ AllBare s'.gens) s₁) :
    WalkO q loose XP YP l.row.toRowW d [] (fun f vs => PySem.call f vs) := by
  intro w s₀ s₁ mg mb G Y fa o pm cd doc dV kV ho hd hcd hD hmg hg args vals as hpre hlay hrd hwl hlo
  obtain rfl : dV = .none := Dflts.none hD hdf
  obtain rfl : kV = .none := Dflts.noKw hD
  obtain ⟨a, vs, ns, rfl, rfl, hobj, hints, hlen⟩ := script_of hn hpre hwl
  refine enter_call (codeAny_mono (call w s₀ s₁ mg mb fa o pm cd doc a vs ns G Y ho (fd_plain hd) hcd hmg hobj hints hlen hg) fun r s' hq => ?_)
  obtain ⟨rfl, h2, h3, h4⟩ := hq
  exact ⟨.inl ⟨.bool true, .bool true, [], rfl, fun _ => rfl, .bool true, post_true l _, fun _ => ⟨List.Pairwise.nil, fun _ hm => (nomatch hm)⟩⟩, h2, h3, h4⟩
section
variable {prog : Program} {w : World} {A : Around} {E : Value → Shared → Prop} {s : Shared} {K : Frag}
end
end Att
namespace L2
open PySem PySem.Spec PyProof.Rows
theorem vals_ints : ∀ {vs : List Value} {ns : List Int}, IntsAre vs ns → Vals (ns.map V.int) vs
  | _, _, .nil => .nil
  | _, _, .cons n t h => .cons ⟨t, rfl⟩ (vals_ints h)
end L2
namespace L2
open PySem PySem.Spec PyProof.Rows
end L2
namespace L2
open PySem PySem.Spec PyProof.Rows
def defArgs (s : Stmt) : Arguments := match s with
  | .FunctionDef _ a _ _ _ _ _ _ _ _ => a
  | _ => { posonlyargs := [], args := [], vararg := none, kwonlyargs := [], kw_defaults := [], kwarg := none, defaults := [] }
def defBody (s : Stmt) : List Stmt := match s with
  | .FunctionDef _ _ b _ _ _ _ _ _ _ => b
  | _ => []
def defScope (s : Stmt) : Scope := match s with
  | .FunctionDef _ _ _ _ _ _ sc _ _ _ => sc
  | _ => { kind := .function, names := [], isGenerator := false, isCoroutine := false }
abbrev CX0 : CXT := fun _ _ _ _ _ _ => False
abbrev E0 : XK := fun _ _ _ => False
theorem pass0 {X : Cx} : Passes CX0 X E0 := fun _ _ _ _ _ _ _ h => h.elim
structure Fun (K : PySem.W.Frag) (x qual : Str) (st : Stmt) (f : Addr) (fd : FuncData) : Prop where
  ex : ∃ (oc : Value) (od : Option Addr) (kV doc pm : Value) (an : Option Addr) (cdv ct : Value) (osl : Array (Option Value)),
    fd = PySem.W.fnOf x qual (defArgs st) (defBody st) (defScope st) .none kV doc pm an cdv ct ∧ K.lookup f = some ⟨oc, od, .func fd, osl⟩ ∧ PySem.W.codeIn K cdv qual = true
  kp : PySem.W.keepIn K (.ref f) = true
section
variable {P : Program} {w : World} {K : PySem.W.Frag} {mg : Str → Option Value} {base : Heap}
theorem Fun.ok {x qual : Str} {st : Stmt} {f : Addr} {fd : FuncData} {N ps : List Str} {k : Nat} {sp : Sp} (F : Fun K x qual st f fd) (S : FnScope N ps (defScope st)) (len : ∀ vs H Q E, sp vs H Q E → vs.length = ps.length)
    (hbody : ∀ (cdv : Value) (A : Around) (outer : List Env) (s : Shared) (H : Hp) (vs : List V) (Q : VK) (E : XK), Room k (A.deeper (envOfC qual (defScope st) s.heap.objs.size f cdv)) → sp vs H Q E →
      ∃ t, PSs (cxOf CX0 P w K mg base N qual (defScope st) f cdv A outer s H E).nox (defBody st) t ∧ t { nx := fun _ H' => Q .non H', rt := Q } (start N vs) H) : FnOk P w K mg base CX0 (k + 1) f fd ps sp := by
  obtain ⟨oc, od, kV, doc, pm, an, cdv, ct, osl, rfl, lk, hcd⟩ := F.ex
  refine fn_of lk hcd S len fun A outer s H vs Q E hr hsp => ?_
  obtain ⟨t, h, q⟩ := hbody cdv A outer s H vs Q E hr hsp
  exact ⟨t, h.nox, q⟩
theorem Fun.binds {x qual : Str} {st : Stmt} {f : Addr} {fd : FuncData} {ps : List Str} (F : Fun K x qual st f fd)
    (h : ∀ (kV doc pm : Value) (an : Option Addr) (cdv ct : Value) (us : List Value), us.length = ps.length → bindArgs (PySem.W.fnOf x qual (defArgs st) (defBody st) (defScope st) .none kV doc pm an cdv ct) ⟨us, []⟩ = pure (ps.zip us)) : Binds K fd ps [] := by
  obtain ⟨oc, od, kV, doc, pm, an, cdv, ct, osl, rfl, lk, hcd⟩ := F.ex
  exact .all (h kV doc pm an cdv ct)
theorem fun_mk {x qual : Str} {st : Stmt} {f : Addr} {oc : Value} {od an : Option Addr} {osl : Array (Option Value)} {kV doc pm cdv ct : Value} (l : K.lookup f = some ⟨oc, od, .func (PySem.W.fnOf x qual (defArgs st) (defBody st) (defScope st) .none kV doc pm an cdv ct), osl⟩)
    (c : PySem.W.codeIn K cdv qual = true) (k : PySem.W.keepIn K (.ref f) = true) : Fun K x qual st f (PySem.W.fnOf x qual (defArgs st) (defBody st) (defScope st) .none kV doc pm an cdv ct) := ⟨⟨oc, od, kV, doc, pm, an, cdv, ct, osl, rfl, l, c⟩, k⟩
end
theorem hu_of {A : Around} {k : Nat} (hr : Room k A) : A.units + 1 < cLine := Nat.lt_of_le_of_lt (Nat.add_le_add_left (by decide : 1 ≤ 64) _) hr.units
section
variable {X : Cx}
theorem pv (i : Nat) {x : Str} {pos : Pos} (hN : X.N[i]? = some x := by rfl) (hv : Vis X.env.scope x := by first | exact Or.inl rfl | exact Or.inr (Or.inl rfl) | exact Or.inr (Or.inr rfl)) (hd : (x == ("__debug__" : Str)) = false := by decide)
    (hcd : (x == ("__classdict__" : Str)) = false := by decide) : PE X (.Name x pos) (tVar i) := pe_var hN hv hd hcd
end
theorem iteF {A B : Prop} (h : B) : if false = true then A else B := by
  rw [if_neg Bool.false_ne_true]
  exact h
theorem iteT {A B : Prop} (h : A) : if true = true then A else B := by
  rw [if_pos rfl]
  exact h
theorem ite2 {c A B : Prop} [Decidable c] (h1 : c → A) (h2 : ¬ c → B) : if c then A else B := by
  by_cases h : c
  · rw [if_pos h]
    exact h1 h
  · rw [if_neg h]
    exact h2 h
def Same (H H' : Hp) : Prop := ∀ b o, H b = some o → H' b = some o
theorem Same.refl (H : Hp) : Same H H := fun _ _ h => h
theorem Same.trans {H H1 H2 : Hp} (a : Same H H1) (b : Same H1 H2) : Same H H2 := fun c o h => b c o (a c o h)
end L2
set_option Elab.async false
set_option linter.all false
set_option maxRecDepth 100000
namespace L2
open PySem PySem.Spec PyProof.Rows
section
variable {κ : Type} [DecidableEq κ]
def valV (kvs : List (κ × V)) (k : κ) : Option V := (kvs.find? fun kv => decide (kv.1 = k)).map (·.2)
def putK (kvs : List (κ × V)) (k : κ) (v : V) : List (κ × V) :=
  if (kvs.any fun kv => decide (kv.1 = k)) = true then kvs.map (fun kv => if kv.1 = k then (kv.1, v) else kv) else kvs ++ [(k, v)]
theorem valV_pos {p : κ × V} {r : List (κ × V)} {k : κ} (e : p.1 = k) : valV (p :: r) k = some p.2 := by simp [valV, List.find?_cons, e]
theorem valV_neg {p : κ × V} {r : List (κ × V)} {k : κ} (e : ¬ p.1 = k) : valV (p :: r) k = valV r k := by simp [valV, List.find?_cons, e]
theorem valV_any (k : κ) : ∀ kvs : List (κ × V), (kvs.any fun kv => decide (kv.1 = k)) = (valV kvs k).isSome
  | [] => rfl
  | p :: r => by
    rw [List.any_cons]
    by_cases e : p.1 = k
    · simp only [valV_pos e, decide_eq_true e, Bool.true_or, Option.isSome_some]
    · rw [valV_neg e, decide_eq_false e, Bool.false_or]; exact valV_any k r
theorem length_putK (kvs : List (κ × V)) (k : κ) (v : V) : (putK kvs k v).length ≤ kvs.length + 1 := by
  unfold putK
  split
  · rw [List.length_map]; omega
  · rw [List.length_append, List.length_cons, List.length_nil]; omega
theorem RelO.isSome_eq {o : Option V} {u : Option Value} (r : RelO o u) : o.isSome = u.isSome := by
  cases o with
  | none => cases u with
    | none => rfl
    | some _ => exact (show False from r).elim
  | some _ => cases u with
    | none => exact (show False from r).elim
    | some _ => rfl
theorem KV.val {kvs : List (κ × V)} {vs : List (κ × Value)} (r : KV kvs vs) (k : κ) : RelO (valV kvs k) (valueAt vs k) := by
  unfold KV at r
  induction r with
  | nil => exact True.intro
  | @cons p q ps qs h t ih =>
    obtain ⟨h1, h2⟩ := h
    by_cases e : p.1 = k
    · have e' : q.1 = k := h1.symm.trans e
      have b : valueAt (q :: qs) k = some q.2 := by simp [valueAt, List.find?_cons, e']
      rw [valV_pos e, b]; exact h2
    · have e' : ¬ q.1 = k := fun z => e (h1.trans z)
      have b : valueAt (q :: qs) k = valueAt qs k := by simp [valueAt, List.find?_cons, e']
      rw [valV_neg e, b]; exact ih
theorem KV.any {kvs : List (κ × V)} {vs : List (κ × Value)} (r : KV kvs vs) (k : κ) : (kvs.any fun kv => decide (kv.1 = k)) = vs.any fun kv => decide (kv.1 = k) := by
  unfold KV at r
  induction r with
  | nil => rfl
  | cons h t ih => rw [List.any_cons, List.any_cons, ih, h.1]
theorem KV.repl {kvs : List (κ × V)} {vs : List (κ × Value)} (r : KV kvs vs) (k : κ) {y : V} {u : Value} (ry : RelV y u) :
    KV (kvs.map fun kv => if kv.1 = k then (kv.1, y) else kv) (vs.map fun kv => if kv.1 = k then (kv.1, u) else kv) := by
  unfold KV at r ⊢
  induction r with
  | nil => exact .nil
  | @cons p q ps qs h t ih =>
    rw [List.map_cons, List.map_cons]
    refine .cons ?_ ih
    obtain ⟨h1, h2⟩ := h
    by_cases e : p.1 = k
    · rw [if_pos e, if_pos (h1.symm.trans e)]; exact ⟨h1, ry⟩
    · rw [if_neg e, if_neg (fun z => e (h1.trans z))]; exact ⟨h1, h2⟩
theorem KV.put {kvs : List (κ × V)} {vs : List (κ × Value)} (r : KV kvs vs) (k : κ) {y : V} {u : Value} (ry : RelV y u) : KV (putK kvs k y) (stored vs k u) := by
  unfold putK stored
  rw [r.any k]
  by_cases e : (vs.any fun kv => decide (kv.1 = k)) = true
  · rw [if_pos e, if_pos e]; exact r.repl k ry
  · rw [if_neg e, if_neg e]; exact Paired.snoc r ⟨rfl, ry⟩
theorem KV.length {kvs : List (κ × V)} {vs : List (κ × Value)} (r : KV kvs vs) : kvs.length = vs.length := Paired.length r
end
theorem kV_is {P : Program} {w : World} {k : Key} {u : Value} (r : RelV (kV k) u) : (mixKind P w).is k u = true := by
  cases k with
  | inl i => obtain ⟨t, e⟩ := (show ∃ t, u = Value.int i t from r); subst e; exact mixKind_int P w i t
  | inr x => obtain ⟨t, e⟩ := (show ∃ t, u = Value.str x t from r); subst e; exact mixKind_str P w x t
theorem items_are {P : Program} {w : World} : ∀ {ks : List Key} {us : List Value}, Vals (ks.map kV) us → ItemsAre (mixKind P w) ks us
  | [], _, r => by rw [List.map_nil] at r; cases r; exact .nil
  | k :: ks, _, r => by
    rw [List.map_cons] at r
    cases r with
    | cons h t => exact .cons (kV_is h) (items_are t)
abbrev KT (H : Hp) : List (List Key × V) → List (List Key × Addr × Value) → Prop := Paired fun p q => p.1 = q.1 ∧ H q.2.1 = some (.tup (p.1.map kV)) ∧ RelV p.2 q.2.2
theorem KT.val {H : Hp} {kvs : List (List Key × V)} {xs : List (List Key × Addr × Value)} (r : KT H kvs xs) (k : List Key) : RelO (valV kvs k) ((atKey xs k).map (·.2)) := by
  induction r with
  | nil => exact True.intro
  | @cons p q ps qs h t ih =>
    obtain ⟨h1, _, h2⟩ := h
    by_cases e : p.1 = k
    · have e' : q.1 = k := h1.symm.trans e
      have b : atKey (q :: qs) k = some q.2 := by simp [atKey, List.find?_cons, e']
      rw [valV_pos e, b]; exact h2
    · have e' : ¬ q.1 = k := fun z => e (h1.trans z)
      have b : atKey (q :: qs) k = atKey qs k := by simp [atKey, List.find?_cons, e']
      rw [valV_neg e, b]; exact ih
theorem KT.repl {H : Hp} {kvs : List (List Key × V)} {xs : List (List Key × Addr × Value)} (r : KT H kvs xs) (k : List Key) {y : V} {u : Value} (ry : RelV y u) :
    KT H (kvs.map fun kv => if kv.1 = k then (kv.1, y) else kv) (xs.map (putAt k u)) := by
  induction r with
  | nil => exact .nil
  | @cons p q ps qs h t ih =>
    rw [List.map_cons, List.map_cons]
    refine .cons ?_ ih
    obtain ⟨h1, h2, h3⟩ := h
    unfold putAt
    by_cases e : p.1 = k
    · rw [if_pos e, if_pos (h1.symm.trans e)]; exact ⟨h1, h2, ry⟩
    · rw [if_neg e, if_neg (fun z => e (h1.trans z))]; exact ⟨h1, h2, h3⟩
theorem KT.put {H : Hp} {kvs : List (List Key × V)} {xs : List (List Key × Addr × Value)} (r : KT H kvs xs) (k : List Key) {b : Addr} {y : V} {u : Value} (hb : H b = some (.tup (k.map kV))) (ry : RelV y u) :
    KT H (putK kvs k y) (storedH xs k b u) := by
  have e : (kvs.any fun kv => decide (kv.1 = k)) = (atKey xs k).isSome := by
    rw [valV_any, (r.val k).isSome_eq, Option.isSome_map]
  unfold putK storedH
  rw [e]
  by_cases q : (atKey xs k).isSome = true
  · rw [if_pos q, if_pos q]; exact r.repl k ry
  · rw [if_neg q, if_neg q]; exact Paired.snoc r ⟨rfl, hb, ry⟩
theorem KT.keeps {H H' : Hp} {kvs : List (List Key × V)} {xs : List (List Key × Addr × Value)} (r : KT H kvs xs) (ht : ∀ b ys, H b = some (.tup ys) → H' b = some (.tup ys)) : KT H' kvs xs :=
  Paired.mapP r fun _ _ z => ⟨z.1, ht _ _ z.2.1, z.2.2⟩
section
variable {P : Program} {w : World} {H : Hp} {h : Heap} {a : Addr}
theorem rd_of {u : HO} (ok : HOk P w H h) (e : Rd H a u) : ObjOk P w H h a u := e.ok ok
theorem dk_rd {kvs : List (Key × V)} (ok : HOk P w H h) (e : Rd H a (.dK kvs)) : kvs.length ≤ sizeLine ∧ (a == sysModules) = false ∧ ∃ vs, KV kvs vs ∧ h.DictOf (mixKind P w) a vs :=
  show ObjOk P w H h a (.dK kvs) from rd_of ok e
theorem dk_of {kvs : List (Key × V)} (ok : HOk P w H h) (e : H a = some (.dK kvs)) : kvs.length ≤ sizeLine ∧ (a == sysModules) = false ∧ ∃ vs, KV kvs vs ∧ h.DictOf (mixKind P w) a vs := dk_rd ok (.inl e)
theorem key_of {ks : List Key} (ok : HOk P w H h) (e : H a = some (.tup (ks.map kV))) : (tupleKind (mixKind P w)).is h ks a := by
  obtain ⟨_, its, r, o, h1, h2, n, h3, _⟩ := (show ObjOk P w H h a (.tup (ks.map kV)) from ok a _ e)
  exact ⟨o, its.toArray, n, h1, h2, h3, by simpa using items_are r⟩
theorem dt_rd {kvs : List (List Key × V)} (ok : HOk P w H h) (e : Rd H a (.dT kvs)) : kvs.length ≤ sizeLine ∧ (a == sysModules) = false ∧
    ∃ xs, KT H kvs xs ∧ h.DictOfH (tupleKind (mixKind P w)) a xs := by
  obtain ⟨z, y, xs, r, o, es, ep, h1, h2, h3, h4, h5⟩ := (show ObjOk P w H h a (.dT kvs) from rd_of ok e)
  refine ⟨z, y, xs, r, o, es, ep, h1, h2, h3, h4, fun x hx => ?_, h5⟩
  have all : ∀ {l : List (List Key × V)} {m : List (List Key × Addr × Value)}, KT H l m → ∀ x ∈ m, (tupleKind (mixKind P w)).is h x.1 x.2.1 := by
    intro l m q
    induction q with
    | nil => intro x hx; exact nomatch hx
    | @cons p q ps qs hq t ih =>
      intro x hx
      rcases List.mem_cons.mp hx with e | hx
      · subst e
        exact key_of ok (by rw [← hq.1]; exact hq.2.1)
      · exact ih x hx
  exact all r x hx
theorem dt_of {kvs : List (List Key × V)} (ok : HOk P w H h) (e : H a = some (.dT kvs)) : kvs.length ≤ sizeLine ∧ (a == sysModules) = false ∧
    ∃ xs, KT H kvs xs ∧ h.DictOfH (tupleKind (mixKind P w)) a xs := dt_rd ok (.inl e)
end
def DGet (H : Hp) (a : Addr) (y : V) (r : Option V) : Prop :=
  (∃ kvs k, Rd H a (.dK kvs) ∧ y = kV k ∧ r = valV kvs k) ∨ ∃ kvs k b, Rd H a (.dT kvs) ∧ y = .ref b ∧ H b = some (.tup (k.map kV)) ∧ r = valV kvs k
def DPut (H : Hp) (a : Addr) (y v : V) (H' : Hp) : Prop :=
  (∃ kvs k, H a = some (.dK kvs) ∧ y = kV k ∧ kvs.length < sizeLine ∧ H' = upd H a (.dK (putK kvs k v))) ∨
  ∃ kvs k b, H a = some (.dT kvs) ∧ y = .ref b ∧ H b = some (.tup (k.map kV)) ∧ kvs.length < sizeLine ∧ H' = upd H a (.dT (putK kvs k v))
theorem DGet.k {H : Hp} {a : Addr} {kvs : List (Key × V)} {k : Key} (e : H a = some (.dK kvs)) : DGet H a (kV k) (valV kvs k) := .inl ⟨kvs, k, .inl e, rfl, rfl⟩
theorem DGet.t {H : Hp} {a b : Addr} {kvs : List (List Key × V)} {k : List Key} (e : H a = some (.dT kvs)) (eb : H b = some (.tup (k.map kV))) : DGet H a (.ref b) (valV kvs k) := .inr ⟨kvs, k, b, .inl e, rfl, eb, rfl⟩
theorem DPut.t {H : Hp} {a b : Addr} {kvs : List (List Key × V)} {k : List Key} {v : V} (e : H a = some (.dT kvs)) (eb : H b = some (.tup (k.map kV))) (hl : kvs.length < sizeLine) :
    DPut H a (.ref b) v (upd H a (.dT (putK kvs k v))) := .inr ⟨kvs, k, b, e, rfl, eb, hl, rfl⟩
section
variable {X : Cx} {pins : List (Addr × Obj)} {σ : St} {H : Hp} {s : Shared} {a : Addr} {y v : V} {u r : Value} {o : Option V} {A : Around} {E : Value → Shared → Prop}
theorem Inv.big (I : Inv X pins σ H s) : sysModules < s.heap.objs.size := by
  have h : mainGlobals < s.heap.objs.size := (I.mod.glob.keeps I.bk).lt
  exact Nat.lt_trans (by decide) h
theorem d_getItem {Q : Value → Shared → Prop} (hu : A.units + 1 < cLine) (I : Inv X pins σ H s) (g : DGet H a y (some v)) (ry : RelV y u) (h : ∀ w' s', Inv X pins σ H s' → RelV v w' → Q w' s') :
    wpAny (model X.prog X.w) A (getItem (.ref a) u) Q E s := by
  rcases g with ⟨kvs, k, e, ey, l⟩ | ⟨kvs, k, b, e, ey, eb, l⟩
  · subst ey
    obtain ⟨z, hd, vs, rel, dd⟩ := dk_rd I.hok e
    obtain ⟨w', hw, rw'⟩ := RelO.some_of (v := v) (o := valueAt vs k) (by rw [l]; exact rel.val k)
    exact wpAny_getItem_of (kV_is ry) dd.mapOf hw (h w' _ (I.tok _) rw')
  · subst ey
    cases (show u = Value.ref b from ry)
    obtain ⟨z, hd, xs, rel, dd⟩ := dt_rd I.hok e
    obtain ⟨w', hw, rw'⟩ := RelO.some_of (v := v) (o := (atKey xs k).map (·.2)) (by rw [l]; exact rel.val k)
    obtain ⟨p, hp, hp2⟩ := Option.map_eq_some_iff.mp hw
    refine wpAny_getItem_heap (tupleKind_room_in1 hu) (key_of I.hok eb) dd hp ?_
    rw [hp2]
    exact h w' _ (I.tok _) rw'
theorem d_write {h' : Heap} {t' : Nat} {ob : HO} (I : Inv X pins σ H s) (mu : Mut (H a)) (hs : Heap.SameBut a s.heap h') (he : ∃ q, h'.get? a = some q) (new : ObjOk X.prog X.w (upd H a ob) h' a ob) :
    Inv X pins σ (upd H a ob) { s with heap := h', toks := t' } :=
  I.write (x := a) (e := a) mu (.inl rfl) (fun b q hb z => (hs.2 b hb).trans z) he new
theorem dk_new {P : Program} {w : World} {H' : Hp} {h' : Heap} {kvs : List (Key × V)} {vs : List (Key × Value)} (z : kvs.length ≤ sizeLine) (hd : (a == sysModules) = false) (rel : KV kvs vs) (dd : h'.DictOf (mixKind P w) a vs) :
    ObjOk P w H' h' a (.dK kvs) := ⟨z, hd, vs, rel, dd⟩
theorem d_setItem {H' : Hp} {Q : Unit → Shared → Prop} (hu : A.units + 1 < cLine) (I : Inv X pins σ H s) (g : DPut H a y v H') (ry : RelV y u) (rv : RelV v r) (h : ∀ s', Inv X pins σ H' s' → Q () s') :
    wpAny (model X.prog X.w) A (setItem (.ref a) u r) Q E s := by
  rcases g with ⟨kvs, k, e, ey, l, eH⟩ | ⟨kvs, k, b, e, ey, eb, l, eH⟩
  · subst ey eH
    obtain ⟨z, hd, vs, rel, dd⟩ := dk_of I.hok e
    have hz : vs.length ≤ sizeLine := by rw [← rel.length]; exact z
    have hl : (putK kvs k v).length ≤ sizeLine := by have := length_putK kvs k v; omega
    refine wpAny_setItem_pairs (hsz := hz) (kV_is ry) dd fun h' dd' hs => h _ ?_
    have he : ∃ q, h'.get? a = some q := let ⟨q, _, _, hq, _⟩ := dd'; ⟨q, hq⟩
    exact d_write I (by rw [e]; exact True.intro) hs he (dk_new hl hd (rel.put k rv) dd')
  · subst ey eH
    cases (show u = Value.ref b from ry)
    obtain ⟨z, hd, xs, rel, dd⟩ := dt_of I.hok e
    have hz : xs.length ≤ sizeLine := by rw [← Paired.length rel]; exact z
    have hl : (putK kvs k v).length ≤ sizeLine := by have := length_putK kvs k v; omega
    refine wpAny_setItem_heap (hsz := hz) (tupleKind_room_in1 hu) (key_of I.hok eb) dd fun h' dd' hs => h _ ?_
    obtain ⟨q, es, ep, hq, h2, h3, h4, _, h5⟩ := dd'
    refine d_write I (by rw [e]; exact True.intro) hs ⟨q, hq⟩ ⟨hl, hd, _, (rel.put k eb rv).keeps fun c ys ec => ?_, q, es, ep, hq, h2, h3, h4, h5⟩
    rw [upd_ne (ne_of ec e (fun z => nomatch z))]
    exact ec
end
section
variable {X : Cx} {pins : List (Addr × Obj)} {σ : St} {H : Hp} {s : Shared} {a : Addr} {kvs : List (Key × V)} {k : Key} {u : Value} {A : Around} {E : Value → Shared → Prop}
theorem d_len {Q : Value → Shared → Prop} (I : Inv X pins σ H s) (e : Rd H a (.dK kvs)) (h : ∀ t s', Inv X pins σ H s' → Q (.int kvs.length t) s') : wpAny (model X.prog X.w) A (call (.builtin "len") [.ref a]) Q E s := by
  obtain ⟨z, hd, vs, rel, dd⟩ := dk_rd I.hok e
  refine call_len_dict hd dd (by rw [← rel.length]; rw [sizeLine_eq] at z; omega) ?_
  rw [← rel.length]
  exact h _ _ (I.tok _)
end
def NoSl (i : Expr) : Prop := ∀ ov iv, subscripted i false ov iv = operate [ov, iv] (getItem ov iv)
theorem subD_of {prog : Program} {w : World} {A : Around} {E : Value → Shared → Prop} {s : Shared} {env : Env} {value slice : Expr} {pos : Pos} {T id : String} {Q : Value → Shared → Prop}
    (hl : typeLookup (.type T) "__getitem__" = pure (some (.builtin id))) (hs : NoSl slice)
    (h : wpAny (model prog w) A (eval value env) (fun o s₁ => wpAny (model prog w) A (eval slice env) (fun i s₂ => s₂.TypeIs o T ∧ wpAny (model prog w) A (getItem o i) Q E s₂) E s₁) E s) :
    wpAny (model prog w) A (eval (.Subscript value slice pos) env) Q E s := by
  refine Subscript_ (wpAny_mono h (fun o s₁ h₁ => wpAny_mono h₁ (fun i s₂ h₂ => ?_) fun _ _ x => x) fun _ _ x => x)
  obtain ⟨hT, h₂⟩ := h₂
  unfold subscriptTail
  refine wpAny_bind ?_
  rw [getitemInPython_of_ne hT.not_modules]
  refine wpAny_bind (wpAny_specialOf hT hl ?_)
  have fin : wpAny (model prog w) A (subscripted slice false o i) (fun r s₃ => wpAny (model prog w) A (letTemporaryGo value o r >>= fun _ => pure r) Q E s₃) E s₂ := by
    rw [hs o i]
    exact wpAny_operating (wpAny_mono h₂ (fun r s₃ h₃ => wpAny_bind (wpAny_letTemporaryGo (wpAny_pure h₃))) fun _ _ x => x)
  first
    | exact wpAny_pure (wpAny_bind fin)
    | exact wpAny_bind (wpAny_pure (wpAny_bind fin))
    | exact wpAny_bind fin
theorem dict_typeIs {X : Cx} {pins : List (Addr × Obj)} {σ : St} {H : Hp} {s : Shared} {a : Addr} {y : V} {o : Option V} (I : Inv X pins σ H s) (g : DGet H a y o) : s.TypeIs (.ref a) "dict" := by
  rcases g with ⟨kvs, k, e, _, _⟩ | ⟨kvs, k, b, e, _, _, _⟩
  · obtain ⟨_, _, vs, _, dd⟩ := dk_rd I.hok e
    exact dd.typeIs
  · obtain ⟨_, _, xs, _, dd⟩ := dt_rd I.hok e
    exact dd.typeIs
def tDGet (td ty : TE) : TE := fun σ H Q => td σ H fun x H1 => ty σ H1 fun y H2 => ∃ a v, x = .ref a ∧ DGet H2 a y (some v) ∧ Q v H2
def sDPut (td ty tv : TE) : TS := fun D σ H => tv σ H fun v H1 => td σ H1 fun x H2 => ty σ H2 fun y H3 => ∃ a H4, x = .ref a ∧ DPut H3 a y v H4 ∧ D.nx σ H4
section
variable {X : Cx} {o i e value : Expr} {pos pos' tpos : Pos} {td ty tv : TE}
theorem pe_dget (hu : X.A.units + 1 < cLine) (ho : PE X o td) (hi : PE X i ty) (hs : NoSl i) : PE X (.Subscript o i pos) (tDGet td ty) := by
  (first | refine ⟨?_⟩ | skip)
  intro pins s σ H Q I h
  refine subD_of PySem.F.slot_dict_getitem.lookup hs (thn (ho pins s σ H _ I h) fun u s1 ⟨x, H1, I1, rx, q1⟩ => thn (hi pins s1 σ H1 _ I1 q1) fun iv s2 ⟨y, H2, I2, ry, a, v, ex, g, q2⟩ => ?_)
  subst ex
  obtain rfl : u = Value.ref a := rx
  exact ⟨dict_typeIs I2 g, d_getItem hu I2 g ry fun w' s3 I3 rw' => ⟨v, H2, I3, rw', q2⟩⟩
theorem ps_dput (hu : X.A.units + 1 < cLine) (ho : PE X o td) (hi : PE X i ty) (hv : PE X value tv) (hs : swapsWith value (some (.Subscript o i pos')) pos.line X.env = pure false) :
    PS X (.Assign [.Subscript o i pos'] value pos) (sDPut td ty tv) := by
  (first | refine ⟨?_⟩ | skip)
  intro pins s σ H D I h
  refine wpAny_Assign_Subscript (thn (hv pins s σ H _ I h) fun r s1 ⟨v, H1, I1, rv, q1⟩ => thn (ho pins s1 σ H1 _ I1 q1) fun u s2 ⟨x, H2, I2, rx, q2⟩ => thn (hi pins s2 σ H2 _ I2 q2) fun iv s3 ⟨y, H3, I3, ry, a, H4, ex, g, q3⟩ => ?_) hs
  subst ex
  obtain rfl : u = Value.ref a := rx
  exact d_setItem hu I3 g ry rv fun s4 I4 => ⟨σ, H4, I4, q3⟩
end
theorem dk_empty {P : Program} {w : World} {H : Hp} (h : Heap) (hb : sysModules < h.objs.size) : ObjOk P w H (h.push { cls := .type "dict", data := .dict #[] }) h.objs.size (.dK []) :=
  ⟨Nat.zero_le _, beq_eq_false_iff_ne.mpr (Ne.symm (Nat.ne_of_lt hb)), [], .nil, Heap.DictOf.new h⟩
theorem dt_empty {P : Program} {w : World} {H : Hp} (h : Heap) (hb : sysModules < h.objs.size) : ObjOk P w H (h.push { cls := .type "dict", data := .dict #[] }) h.objs.size (.dT []) :=
  ⟨Nat.zero_le _, beq_eq_false_iff_ne.mpr (Ne.symm (Nat.ne_of_lt hb)), [], .nil, _, #[], 0, Heap.get?_push_size _ rfl, ⟨rfl, rfl, rfl⟩, rfl, rfl, List.nodup_nil⟩
def tDNewT : TE := fun _ H Q => ∀ p, H p = none → Q (.ref p) (upd H p (.dT []))
section
variable {X : Cx} {pos : Pos}
theorem pe_dnewT : PE X (.Dict [] [] pos) tDNewT := ⟨fun pins s σ H Q I h =>
  wpAny_Dict_empty ⟨.ref s.heap.objs.size, _, I.laid (a := s.heap.objs.size) (o := .dT []) (t' := s.toks) (fun _ _ q => Heap.get?_push_of_some _ q) (Nat.le_refl _) (dt_empty s.heap I.big), rfl, h _ (I.hok.fresh (Nat.le_refl _))⟩⟩
end
def tPairs : List (TE × TE) → St → Hp → (List (V × V) → Hp → Prop) → Prop
  | [], _, H, Q => Q [] H
  | (tk, tv) :: r, σ, H, Q => tk σ H fun x H1 => tv σ H1 fun y H2 => tPairs r σ H2 fun ps H3 => Q ((x, y) :: ps) H3
abbrev VV : List (V × V) → List (Value × Value) → Prop := Paired fun p q => RelV p.1 q.1 ∧ RelV p.2 q.2
def PPs (X : Cx) (pos : Pos) (keys : List (Option Expr)) (values : List Expr) (trs : List (TE × TE)) : Prop :=
  ∀ (pins : List (Addr × Obj)) (s : Shared) (σ : St) (H : Hp) (Q : List (V × V) → Hp → Prop), Inv X pins σ H s → tPairs trs σ H Q →
    wpAny (model X.prog X.w) X.A (evalPairs (pairTrees keys values X.env pos)) (fun vs s' => ∃ ps H', Inv X pins σ H' s' ∧ VV ps vs ∧ Q ps H') X.xe s
theorem pps_nil {X : Cx} {pos : Pos} : PPs X pos [] [] [] := fun pins s σ H Q I h => pairTrees_nil_walk ⟨[], H, I, .nil, h⟩
theorem pps_cons {X : Cx} {pos : Pos} {k v : Expr} {ks : List (Option Expr)} {vs : List Expr} {tk tv : TE} {trs : List (TE × TE)} (hk : PE X k tk) (hv : PE X v tv) (hr : PPs X pos ks vs trs) :
    PPs X pos (some k :: ks) (v :: vs) ((tk, tv) :: trs) := fun pins s σ H Q I h =>
  pairTrees_cons_walk (thn (hk pins s σ H _ I h) fun u s1 ⟨x, H1, I1, rx, q1⟩ => thn (hv pins s1 σ H1 _ I1 q1) fun w2 s2 ⟨y, H2, I2, ry, q2⟩ =>
    thn (hr pins s2 σ H2 _ I2 q2) fun ws s3 ⟨ps, H3, I3, rel, q3⟩ => ⟨(x, y) :: ps, H3, I3, .cons ⟨rx, ry⟩ rel, q3⟩)
def mergeK (kvs more : List (Key × V)) : List (Key × V) := more.foldl (fun acc kv => putK acc kv.1 kv.2) kvs
theorem KV.merge : ∀ {more : List (Key × V)} {rs : List (Key × Value)} {kvs : List (Key × V)} {vs : List (Key × Value)}, KV more rs → KV kvs vs → KV (mergeK kvs more) (merged vs rs) := by
  intro more rs kvs vs r
  unfold KV at r
  induction r generalizing kvs vs with
  | nil => intro q; exact q
  | @cons p q ps qs h t ih =>
    intro r0
    have e : KV (putK kvs p.1 p.2) (stored vs q.1 q.2) := by
      have := r0.put p.1 h.2
      rw [← h.1]; exact this
    exact ih e
theorem length_mergeK : ∀ (more kvs : List (Key × V)), (mergeK kvs more).length ≤ kvs.length + more.length
  | [], kvs => by show kvs.length ≤ kvs.length + 0; omega
  | p :: r, kvs => by
    have h1 := length_mergeK r (putK kvs p.1 p.2)
    have h2 := length_putK kvs p.1 p.2
    show (mergeK (putK kvs p.1 p.2) r).length ≤ _
    rw [List.length_cons]; omega
theorem carries_of {P : Program} {w : World} : ∀ {kvs : List (Key × V)} {ws : List (Value × Value)}, VV (kvs.map fun kv => (kV kv.1, kv.2)) ws → ∃ rs, Carries (mixKind P w) ws rs ∧ KV kvs rs
  | [], _, r => by rw [List.map_nil] at r; cases r; exact ⟨[], True.intro, .nil⟩
  | p :: kvs, _, r => by
    rw [List.map_cons] at r
    cases r with
    | @cons a b as bs h t =>
      obtain ⟨rs, c, q⟩ := carries_of (P := P) (w := w) t
      obtain ⟨b1, b2⟩ := b
      exact ⟨(p.1, b2) :: rs, ⟨kV_is h.1, rfl, c⟩, .cons ⟨rfl, h.2⟩ q⟩
def tDisp (trs : List (TE × TE)) : TE := fun σ H Q => ∀ p, H p = none → tPairs trs σ (upd H p (.dK [])) fun ps H2 => H2 p = some (.dK []) ∧ ∃ kvs : List (Key × V), ps = kvs.map (fun kv => (kV kv.1, kv.2)) ∧ kvs.length ≤ 15 ∧ Q (.ref p) (upd H2 p (.dK (mergeK [] kvs)))
theorem pe_disp {X : Cx} {pos : Pos} {keys : List (Option Expr)} {values : List Expr} {trs : List (TE × TE)} (h : PPs X pos keys values trs) (hall : keys.all (·.isSome) = true) (hl : keys.length = values.length) (h0 : keys ≠ [])
    (h15 : keys.length ≤ 15) : PE X (.Dict keys values pos) (tDisp trs) := by
  (first | refine ⟨?_⟩ | skip)
  intro pins s σ H Q I q
  have hn := I.hok.fresh (Nat.le_refl s.heap.objs.size)
  have I1 := I.laid (a := s.heap.objs.size) (o := .dK []) (h' := s.heap.push { cls := .type "dict", data := .dict #[] }) (t' := s.toks) (fun _ _ q => Heap.get?_push_of_some _ q) (Nat.le_refl _) (dk_empty s.heap I.big)
  refine wpAny_Dict_walk (knd := mixKind X.prog X.w) hall hl h0 h15 (thn (h pins _ σ _ _ I1 (q _ hn)) fun ws s2 ⟨ps, H2, I2, rel, e, kvs, ep, lk, q2⟩ => ?_)
  subst ep
  obtain ⟨rs, c, rk⟩ := carries_of (P := X.prog) (w := X.w) rel
  obtain ⟨z, hd, vs0, r0, dd⟩ := dk_of I2.hok e
  cases r0
  refine ⟨rs, c, dd, fun h' dd' hs => ⟨.ref s.heap.objs.size, _, ?_, rfl, q2⟩⟩
  have hz : (mergeK [] kvs).length ≤ sizeLine := by
    have h1 := length_mergeK kvs []
    rw [List.length_nil] at h1
    rw [sizeLine_eq]; omega
  have he : ∃ q, h'.get? s.heap.objs.size = some q := let ⟨q, _, _, hq, _⟩ := dd'; ⟨q, hq⟩
  exact d_write I2 (by rw [e]; exact True.intro) hs he (dk_new hz hd (rk.merge .nil) dd')
section
variable {X : Cx} {pins : List (Addr × Obj)} {σ : St} {H : Hp} {s : Shared} {a : Addr} {y d : V} {u r : Value} {o : Option V} {A : Around} {E : Value → Shared → Prop}
end
section
variable {X : Cx} {o e f : Expr} {apos cpos : Pos} {td ty tx : TE}
end
section
variable {X : Cx} {pins : List (Addr × Obj)} {σ : St} {H : Hp} {s : Shared} {a : Addr} {kvs : List (Key × V)} {A : Around} {E : Value → Shared → Prop}
end
section
variable {X : Cx} {pins : List (Addr × Obj)} {σ : St} {H : Hp} {s : Shared} {a : Addr} {y : V} {u : Value} {A : Around} {E : Value → Shared → Prop}
end
end L2
namespace L2
open PySem PySem.Spec PyProof.Rows
section
variable {X : Cx}
theorem call_lenD : CallR X (.builtin "len") (fun xs H Q => ∃ a kvs, xs = [V.ref a] ∧ H a = some (.dK kvs) ∧ Q (.int kvs.length) H) := by
  (first | refine ⟨?_⟩ | skip)
  intro pins s σ H xs us Q I r h
  obtain ⟨a, kvs, rfl, ha, q⟩ := h
  obtain ⟨u, rfl, ru⟩ := vals1 r
  cases ru
  exact d_len I (.inl ha) fun t s' I' => ⟨.int kvs.length, H, I', ⟨t, rfl⟩, q⟩
end
section
variable {κ : Type} [DecidableEq κ]
end
end L2
set_option Elab.async false
set_option linter.all false
set_option maxRecDepth 100000
set_option maxHeartbeats 4000000
namespace L2
open PySem PySem.Spec PyProof.Rows
theorem inv_track {X : Cx} {pins : List (Addr × Obj)} {σ : St} {H : Hp} {s : Shared} {D : Addr} {o : HO} (I : Inv X pins σ H s) (hn : H D = none) (hs : X.s₀.heap.objs.size ≤ D) (hL : D ≠ X.env.locals)
    (hc : ∀ x c, X.env.cells.lookup x = some c → c ≠ D) (hp : ∀ p ∈ X.pn ++ pins, p.1 ≠ D) (new : ObjOk X.prog X.w (upd H D o) s.heap D o) : Inv X pins σ (upd H D o) s := by
  have low : ∀ {b : Addr} {u : Obj}, X.s₀.heap.get? b = some u → b ≠ D := fun e => Nat.ne_of_lt (Nat.lt_of_lt_of_le (Heap.lt_size e) hs)
  refine ⟨I.ok, I.os, I.bare, ⟨I.base.keep, I.base.slot, fun b u e n hx => ?_, I.base.there, fun b xs e => ?_, fun b u v e => ?_, fun b ps e => ?_⟩, I.loc, I.cell, ?_, fun x c e => ?_, fun p hm => ?_, fun b u e => ?_, I.len⟩
  · rw [upd_ne (low e)]; exact I.base.free b u e n hx
  · have q := I.base.tups b xs e
    rw [upd_ne (ne_of_none q hn)]; exact q
  · have q := I.base.frzs b u v e
    rw [upd_ne (ne_of_none q hn)]; exact q
  · obtain ⟨more, q⟩ := I.base.tbls b ps e
    exact ⟨more, by rw [upd_ne (ne_of_none q hn)]; exact q⟩
  · rw [upd_ne (Ne.symm hL)]; exact I.free
  · rw [upd_ne (hc x c e)]; exact I.freeC x c e
  · obtain ⟨e, n, r⟩ := I.pin p hm
    exact ⟨e, by rw [upd_ne (hp p hm)]; exact n, r⟩
  · by_cases hb : b = D
    · subst hb; rw [upd_same] at e; cases e; exact new
    · rw [upd_ne hb] at e
      exact (I.hok b u e).stay (fun c v _ q => q) (fun c q => by rw [upd_ne (ne_of_none q hn)]; exact q) fun c xs q => by rw [upd_ne (ne_of_none q hn)]; exact q
theorem forIn_pure {α β : Type} {l : List α} {f : α → β → Sem (ForInStep β)} {g : α → β → β} (h : ∀ x ∈ l, ∀ b, f x b = pure (.yield (g x b))) (b : β) : forIn l b f = pure (l.foldl (fun b x => g x b) b) := by
  induction l generalizing b with
  | nil => rfl
  | cons x l ih =>
    rw [List.forIn_cons, h x List.mem_cons_self, pure_bind]
    exact ih (fun y hy => h y (List.mem_cons_of_mem _ hy)) _
def clStep (cells : List (Str × Addr)) (p : Str × NameKind) (cs : List (Str × Addr)) : List (Str × Addr) := if p.2 == .free then (p.1, (cells.lookup p.1).getD 0) :: cs else cs
def clOf (names : List (Str × NameKind)) (cells : List (Str × Addr)) : List (Str × Addr) := names.foldl (fun cs p => clStep cells p cs) []
theorem closure_of {scope : Scope} {env : Env} (h : ∀ p ∈ scope.names, p.2 = .free → ∃ c, env.cells.lookup p.1 = some c) : closureFor scope env = pure (clOf scope.names env.cells) := by
  unfold closureFor
  dsimp only
  rw [forIn_pure (g := fun p cs => clStep env.cells p cs) (fun p hp cs => ?_)]
  · rfl
  · obtain ⟨n, k⟩ := p
    unfold clStep
    by_cases hk : k = .free
    · obtain ⟨c, e⟩ := h _ hp hk
      subst hk
      simp only [cellOf, e, beq_self_eq_true, if_true, Option.getD_some]
      rfl
    · have : (k == NameKind.free) = false := by simpa using hk
      simp only [this, Bool.false_eq_true, if_false]
theorem mem_clFold {cells : List (Str × Addr)} : ∀ (names : List (Str × NameKind)) (acc : List (Str × Addr)) (p : Str × Addr), p ∈ names.foldl (fun cs q => clStep cells q cs) acc → p ∈ acc ∨ ((p.1, NameKind.free) ∈ names ∧ p.2 = (cells.lookup p.1).getD 0)
  | [], acc, p, h => .inl h
  | q :: r, acc, p, h => by
    rw [List.foldl_cons] at h
    rcases mem_clFold r _ p h with h | ⟨h1, h2⟩
    · unfold clStep at h
      obtain ⟨n, k⟩ := q
      split at h
      · rename_i hk
        rcases List.mem_cons.mp h with e | h
        · refine .inr ⟨?_, by rw [e]⟩
          have hk' : k = .free := by simpa using hk
          rw [e, hk']; exact List.mem_cons_self
        · exact .inl h
      · exact .inl h
    · exact .inr ⟨List.mem_cons_of_mem _ h1, h2⟩
theorem clFold_has {cells : List (Str × Addr)} {x : Str} : ∀ (names : List (Str × NameKind)) (acc : List (Str × Addr)), ((x, NameKind.free) ∈ names ∨ ∃ c, (x, c) ∈ acc) → ∃ c, (x, c) ∈ names.foldl (fun cs q => clStep cells q cs) acc
  | [], acc, h => by
    rcases h with h | h
    · cases h
    · exact h
  | q :: r, acc, h => by
    rw [List.foldl_cons]
    refine clFold_has r _ ?_
    rcases h with h | ⟨c, h⟩
    · rcases List.mem_cons.mp h with e | h
      · refine .inr ⟨(cells.lookup x).getD 0, ?_⟩
        rw [← e]
        show _ ∈ (if (NameKind.free == NameKind.free) = true then _ else _)
        rw [if_pos (by rfl)]
        exact List.mem_cons_self
      · exact .inl h
    · refine .inr ⟨c, ?_⟩
      unfold clStep
      split
      · exact List.mem_cons_of_mem _ h
      · exact h
theorem lookup_of_mem {β : Type} {x : Str} : ∀ {l : List (Str × β)} {c : β}, (x, c) ∈ l → ∃ d, l.lookup x = some d
  | [], _, h => nomatch h
  | (y, d) :: r, c, h => by
    rw [List.lookup_cons]
    by_cases e : x = y
    · subst e; exact ⟨d, by simp⟩
    · rcases List.mem_cons.mp h with q | q
      · cases q; exact absurd rfl e
      · obtain ⟨d', q'⟩ := lookup_of_mem q
        have : (x == y) = false := by simpa using e
        rw [this]
        exact ⟨d', q'⟩
theorem clOf_get {names : List (Str × NameKind)} {cells : List (Str × Addr)} {x : Str} {c : Addr} (h : (clOf names cells).lookup x = some c) : (x, NameKind.free) ∈ names ∧ c = (cells.lookup x).getD 0 := by
  rcases mem_clFold names [] (x, c) (PySem.mem_of_lookup h) with h | h
  · cases h
  · exact h
theorem clOf_has {names : List (Str × NameKind)} {cells : List (Str × Addr)} {x : Str} (h : (x, NameKind.free) ∈ names) : (clOf names cells).lookup x = some ((cells.lookup x).getD 0) := by
  obtain ⟨c, hc⟩ := clFold_has (cells := cells) names [] (.inl h)
  obtain ⟨d, hd⟩ := lookup_of_mem hc
  rw [show (clOf names cells).lookup x = some d from hd, (clOf_get hd).2]
abbrev cxC (X : Cx) (scope : Scope) (Nc : List Str) (C : Addr) (s : Shared) (H : Hp) (fp : List Addr) (pins : List (Addr × Obj)) : Cx :=
  { X with N := Nc, s₀ := s, H₀ := H, env := compEnvC scope (clOf scope.names X.env.cells) C X.env, outer := X.stack, stack := X.stack, ex := fp, fn := fun _ => false, pn := X.pn ++ pins, xe := fun _ _ => False }
structure CompScope (X : Cx) (scope : Scope) (N' own : List Str) : Prop where
  kind : scope.kind = .function
  nocell : ∀ y ∈ scope.names, y.2 ≠ .cell
  names : ∀ y ∈ scope.names, y.2 = .local → scope.names.lookup y.1 = some .local
  frees : ∀ y ∈ scope.names, y.2 = .free → X.env.scope.names.lookup y.1 = some .cell ∨ X.env.scope.names.lookup y.1 = some .free
  len : N'.length = X.N.length
  pre : ∀ (i : Nat) (y : Str), N'[i]? = some y → X.N[i]? = some y ∨ (y, NameKind.free) ∉ scope.names
  nol : ∀ y ∈ N', scope.names.lookup y ≠ some .local
theorem relabel_lookup {env : Env} {x : Str} : ∀ {names : List (Str × NameKind)} {k : NameKind},
    (names.map fun (n, k) => if (k == NameKind.free && env.scope.kind == .function && env.kindOf n == some .cell) then (n, NameKind.cell) else (n, k)).lookup x = some k →
    names.lookup x = some k ∨ (k = .cell ∧ names.lookup x = some .free)
  | [], k, h => by simp at h
  | (n, j) :: r, k, h => by
    have h' : List.lookup x ((if (j == NameKind.free && env.scope.kind == .function && env.kindOf n == some .cell) = true then (n, NameKind.cell) else (n, j)) ::
      r.map fun (n, k) => if (k == NameKind.free && env.scope.kind == .function && env.kindOf n == some .cell) then (n, NameKind.cell) else (n, k)) = some k := h
    cases hx : x == n with
    | true =>
      by_cases hc : (j == NameKind.free && env.scope.kind == .function && env.kindOf n == some .cell) = true
      · rw [if_pos hc] at h'
        simp only [List.lookup_cons, hx] at h' ⊢
        simp only [Bool.and_eq_true, beq_iff_eq] at hc
        cases h'
        exact .inr ⟨rfl, by rw [hc.1.1]⟩
      · rw [if_neg hc] at h'
        simp only [List.lookup_cons, hx] at h' ⊢
        exact .inl h'
    | false =>
      have q : (r.map fun (n, k) => if (k == NameKind.free && env.scope.kind == .function && env.kindOf n == some .cell) then (n, NameKind.cell) else (n, k)).lookup x = some k := by
        by_cases hc : (j == NameKind.free && env.scope.kind == .function && env.kindOf n == some .cell) = true
        · rw [if_pos hc] at h'; simpa only [List.lookup_cons, hx] using h'
        · rw [if_neg hc] at h'; simpa only [List.lookup_cons, hx] using h'
      simp only [List.lookup_cons, hx]
      exact relabel_lookup q
section
variable {X : Cx} {pins : List (Addr × Obj)} {σ : St} {H : Hp} {s : Shared} {scope : Scope} {N' own : List Str}
theorem CompScope.cells (S : CompScope X scope N' own) (I : Inv X pins σ H s) : ∀ p ∈ scope.names, p.2 = .free → ∃ c, X.env.cells.lookup p.1 = some c := fun p hp hk => I.ok.has p.1 (S.frees p hp hk)
theorem cl_cell (S : CompScope X scope N' own) (I : Inv X pins σ H s) {x : Str} {c : Addr} (h : (clOf scope.names X.env.cells).lookup x = some c) : X.env.cells.lookup x = some c := by
  obtain ⟨hm, e⟩ := clOf_get h
  obtain ⟨d, hd⟩ := S.cells I _ hm rfl
  rw [hd] at e
  rw [hd, e]
  rfl
theorem inv_comp (S : CompScope X scope N' own) (I : Inv X pins σ H s) {C D : Addr} {oD : Obj} {fp : List Addr} {h4 : Heap} {tk : Nat} {m : Str → Option Value} (k : ∀ b u, s.heap.get? b = some u → h4.get? b = some u) (hC : s.heap.objs.size ≤ C) (hD : s.heap.objs.size ≤ D) (hDC : D ≠ C) (eD : h4.get? D = some oD) (cD : ∀ v, oD.data ≠ .cell v)
    (ns : h4.Ns C m) (ff : ∀ b ∈ fp, FpOk X pins H b) (fl : ∀ b ∈ fp, b < s.heap.objs.size) :
    Inv (cxC X scope (N' ++ own) C s H fp pins) [(D, oD)] (σ ++ List.replicate own.length none) H { s with heap := h4, toks := tk } := by
  have nostk : ∀ {b : Addr}, s.heap.objs.size ≤ b → b ∉ frs X.stack := fun {b} hb hm => by
    rcases List.mem_cons.mp (I.stkSub b hm) with e | hm
    · rw [e] at hb; exact absurd (Nat.lt_of_lt_of_le I.lt hb) (Nat.lt_irrefl _)
    · exact I.nofs hb hm
  have lk : ∀ x, ((compEnvC scope (clOf scope.names X.env.cells) C X.env).kindOf x = some .cell ∨ (compEnvC scope (clOf scope.names X.env.cells) C X.env).kindOf x = some .free) → (x, NameKind.free) ∈ scope.names := fun x hx => by
    have q : scope.names.lookup x = some .cell ∨ scope.names.lookup x = some .free := by
      rcases hx with hx | hx
      · rcases relabel_lookup (env := X.env) (names := scope.names) hx with q | ⟨_, q⟩
        · exact .inl q
        · exact .inr q
      · rcases relabel_lookup (env := X.env) (names := scope.names) hx with q | ⟨z, _⟩
        · exact .inr q
        · cases z
    rcases q with q | q
    · exact absurd rfl (S.nocell _ (PySem.mem_of_lookup q))
    · exact PySem.mem_of_lookup q
  refine ⟨⟨I.ok.mod, S.kind, I.ok.glob, I.ok.blt, hC, fun x y c h1 h2 => ?_, fun x hx => ?_, fun x c h => ?_, I.ok.hd, I.ok.frames, .inl rfl, fun b hb => ⟨?_, fun x c h => ?_⟩, I.bs, Nat.le_trans I.ok.bsz I.sz, fun b o e hb => ?_, fun b hb hm => ?_, I.stack, I.stkFree⟩,
    rfl, I.bare, Un.kept k, ⟨m, ns, fun i x v e1 e2 e3 => ?_⟩, fun x c h => ?_, I.hok.fresh hC, fun x c h => ?_, fun p hp => ?_, I.hok.kept k, ?_⟩
  · exact I.ok.inj x y c (cl_cell S I h1) (cl_cell S I h2)
  · exact ⟨_, clOf_has (lk x hx)⟩
  · cases h
  · have := fl b hb; intro e; rw [e] at this; exact absurd (Nat.lt_of_lt_of_le this hC) (Nat.lt_irrefl _)
  · exact (ff b hb).2.2.2.2.1 x c (cl_cell S I h)
  · rcases (ff b hb).2.2.2.1 with z | z
    · exact I.ok.noex b o e z
    · exact absurd (Nat.lt_of_lt_of_le (Heap.lt_size e) (Nat.le_trans I.ok.bsz z)) (Nat.lt_irrefl _)
  · rcases List.mem_cons.mp (I.stkSub b hm) with e | hm
    · exact (ff b hb).2.1 e
    · exact (ff b hb).2.2.1 hm
  · -- names
    have hi : i < σ.length := by
      by_cases hi : i < σ.length
      · exact hi
      · rw [List.getElem?_append_right (by omega), List.getElem?_replicate] at e2
        split at e2 <;> cases e2
    rw [List.getElem?_append_left hi] at e2
    have hN : N'[i]? = some x := by
      have e1' : (N' ++ own)[i]? = some x := e1
      rw [List.getElem?_append_left (by rw [S.len, ← I.len]; exact hi)] at e1'
      exact e1'
    have e3' : ((compEnvC scope (clOf scope.names X.env.cells) C X.env).kindOf x = some .cell ∨ (compEnvC scope (clOf scope.names X.env.cells) C X.env).kindOf x = some .free) ∨ (compEnvC scope (clOf scope.names X.env.cells) C X.env).kindOf x = some .local := by
      rcases e3 with z | z | z
      · exact .inr z
      · exact .inl (.inl z)
      · exact .inl (.inr z)
    rcases e3' with e3' | e3'
    · have hm := lk x e3'
      rcases S.pre i x hN with hX | hX
      · have fr := S.frees _ hm rfl
        obtain ⟨m0, hn0, hl0⟩ := I.loc
        obtain ⟨u, r, l⟩ := hl0 i x v hX e2 (by rcases fr with z | z; exact .inr (.inl z); exact .inr (.inr z))
        refine ⟨u, r, .inr ⟨e3', ?_⟩⟩
        rcases l with ⟨z, _⟩ | ⟨_, c, ec, ⟨o, ho, hd⟩⟩
        · rcases fr with f | f <;> (have z' : X.env.scope.names.lookup x = some .local := z; rw [f] at z'; cases z')
        · refine ⟨c, ?_, ⟨o, k _ _ ho, hd⟩⟩
          show (clOf scope.names X.env.cells).lookup x = some c
          rw [clOf_has hm, ec]
          rfl
      · exact absurd hm hX
    · -- a local of the block among the outer names: hidden
      rcases relabel_lookup (env := X.env) (names := scope.names) e3' with q | ⟨z, _⟩
      · exact absurd q (S.nol x (List.mem_of_getElem? hN))
      · cases z
  · obtain ⟨v, o, ho, hd⟩ := I.cell x c (cl_cell S I h)
    exact ⟨v, o, k _ _ ho, hd⟩
  · exact I.freeC x c (cl_cell S I h)
  · have hp' : p ∈ (X.pn ++ pins) ++ [(D, oD)] := hp
    rcases List.mem_append.mp hp' with hp' | hp'
    · obtain ⟨e, n, ne, nf, d⟩ := I.pin p hp'
      refine ⟨k _ _ e, n, Nat.ne_of_lt (Nat.lt_of_lt_of_le (Heap.lt_size e) hC), fun hm => ?_, d⟩
      rcases List.mem_cons.mp (I.stkSub p.1 hm) with z | z
      · exact ne z
      · exact nf z
    · have e : p = (D, oD) := by simpa using hp'
      subst e
      exact ⟨eD, I.hok.fresh hD, hDC, nostk hD, cD⟩
  · show (σ ++ List.replicate own.length none).length = (N' ++ own).length
    rw [List.length_append, List.length_append, List.length_replicate, S.len, I.len]
abbrev ctests (ifs : List Expr) (env : Env) : Sem Bool := forIn ifs true fun c r => if r = true then do let ok ← isTrue c env (eval c env); pure (ForInStep.yield ok) else pure (ForInStep.yield r)
theorem codeAny_compLoop_go {prog : Program} {w : World} {A : Around} {R : Result → Shared → Prop} {s : Shared} {elt target iter : Expr} {ifs : List Expr} {scope : Scope} {pos : Pos} {it acc : Value} {env : Env} (I : Nat → Shared → Prop)
    (turn : ∀ n s, I n s → wpAny (model prog w) A (pyNext it) (fun r s₁ => match r with
      | none => R (.ok .next) s₁
      | some v => wpAny (model prog w) A (letOwnedTupleGo target it v) (fun _ s₁' => wpAny (model prog w) A (assign target env v) (fun _ s₂ =>
          wpAny (model prog w) A (ctests ifs env) (fun ok s₃ =>
            if ok = true then wpAny (model prog w) A (eval elt env) (fun x s₄ =>
              wpAny (model prog w) A (call (.builtin "list.append") [acc, x]) (fun _ s₅ => ∃ m, m < n ∧ I m s₅) (notedBy (model prog w) A env fun e s' => R (.error e) s') s₄) (notedBy (model prog w) A env fun e s' => R (.error e) s') s₃
            else ∃ m, m < n ∧ I m s₃) (notedBy (model prog w) A env fun e s' => R (.error e) s') s₂) (notedBy (model prog w) A env fun e s' => R (.error e) s') s₁') (notedBy (model prog w) A env fun e s' => R (.error e) s') s₁) (notedBy (model prog w) A env fun e s' => R (.error e) s') s)
    (n : Nat) (h : I n s) :
    codeAny (model prog w) A (.compLoop (.ListComp elt [⟨target, iter, ifs, 0⟩] scope pos) 0 it acc env) R s := by
  refine codeAny_loop rfl I (fun n s hI => ?_) n h
  show wpAny _ A ((compTurn (.ListComp elt [⟨target, iter, ifs, 0⟩] scope pos) 0 it acc env).onRaise (fun x => do noteFrame x env; theTreesLotGoes x)) _ _ s
  refine wpAny_noted ?_
  rw [compTurn_list]
  refine wpAny_bind (wpAny_standAt (wpAny_bind (wpAny_mono (turn n s hI) (fun r s₁ h₁ => ?_) fun _ _ h' => h')))
  cases r with
  | none => exact wpAny_pure h₁
  | some v =>
    refine wpAny_bind (wpAny_mono h₁ (fun _ s₁' h₁' => ?_) fun _ _ h' => h')
    refine wpAny_bind (wpAny_mono h₁' (fun _ s₂ h₂ => wpAny_bind (wpAny_mono h₂ (fun ok s₃ h₃ => ?_) fun _ _ h' => h')) fun _ _ h' => h')
    cases ok with
    | false => exact wpAny_pure ⟨rfl, h₃⟩
    | true =>
      exact wpAny_bind (wpAny_bind (wpAny_mono h₃ (fun x s₄ h₄ => wpAny_bind (wpAny_mono h₄ (fun _ s₅ h₅ => wpAny_pure (wpAny_pure ⟨rfl, h₅⟩)) fun _ _ h' => h')) fun _ _ h' => h'))
structure PF (X : Cx) (ifs : List Expr) (t : TT) : Prop where
  run :
    ∀ (pins : List (Addr × Obj)) (s : Shared) (σ : St) (H : Hp) (Q : Bool → Hp → Prop), Inv X pins σ H s → t σ H Q → wpAny (model X.prog X.w) X.A (ctests ifs X.env) (TP X pins σ Q) X.xe s
instance {X : Cx} {ifs : List Expr} {t : TT} : CoeFun (PF X ifs t) fun _ =>
  ∀ (pins : List (Addr × Obj)) (s : Shared) (σ : St) (H : Hp) (Q : Bool → Hp → Prop), Inv X pins σ H s → t σ H Q → wpAny (model X.prog X.w) X.A (ctests ifs X.env) (TP X pins σ Q) X.xe s
    := ⟨PF.run⟩
def tYes : TT := fun _ H Q => Q true H
theorem pf_nil {X : Cx} : PF X [] tYes := ⟨fun _ _ _ H _ I h => wpAny_tests_nil ⟨H, I, h⟩⟩
theorem pf_one {X : Cx} {c : Expr} {t : TT} (h : PT X c t) : PF X [c] t := ⟨fun pins s σ H Q I q => wpAny_tests_one (h pins s σ H Q I q)⟩
theorem noRaise {α : Type} {M : Model} {A : Around} {E : Value → Shared → Prop} {s : Shared} {t : Sem α} {Q Q' : α → Shared → Prop} (h : wpAny M A t Q (fun _ _ => False) s) (k : ∀ a s, Q a s → Q' a s) : wpAny M A t Q' E s := wpAny_mono h k fun _ _ z => z.elim
def CompW (own : Nat) (J : It) (g : TG) (tt : TT) (te : TE) (Q : VK) (σ : St) (H1 : Hp) : Prop := ∃ W : Nat → Nat → List V → St → Hp → Prop, (∃ m, W 0 m [] (σ ++ List.replicate own none) H1) ∧ ∀ i m ys σ' H', W i m ys σ' H' →
  (J.stop i H' ∧ ys.length ≤ sizeLine ∧ ∀ D, H' D = none → Q (.ref D) (upd H' D (.lst ys))) ∨
  (J.go i H' ∧ ys.length < sizeLine ∧ ∃ N : List V → St → Hp → Prop, (∀ ys σ3 H3, N ys σ3 H3 → ∃ m', m' < m ∧ W (i + 1) m' ys σ3 H3) ∧
    ∀ x H2, J.yld i H' x H2 → g x σ' H2 fun σ3 H3 => tt σ3 H3 fun b H4 => if b = true then te σ3 H4 fun y H5 => N (ys ++ [y]) σ3 H5 else N ys σ3 H4)
def tComp (own : Nat) (wi : TI) (g : TG) (tt : TT) (te : TE) : TE := fun σ H Q => wi σ H fun J H1 => CompW own J g tt te Q σ H1
theorem pe_comp {elt target iter : Expr} {ifs : List Expr} {pos : Pos} {wi : TI} {g : TG} {tt : TT} {te : TE} (S : CompScope X scope N' own) (hc : X.calm = true) (hi : PI X target iter wi)
    (hg : ∀ C s H fp pins, PG (cxC X scope (N' ++ own) C s H fp pins) target g) (ht : ∀ C s H fp pins, PF (cxC X scope (N' ++ own) C s H fp pins) ifs tt) (he : ∀ C s H fp pins, PE (cxC X scope (N' ++ own) C s H fp pins) elt te)
    (hs : ∀ x, foldedSetIterable iter X.env x = pure x := by intro _; rfl) :
    PE X (.ListComp elt [⟨target, iter, ifs, 0⟩] scope pos) (tComp own.length wi g tt te) := by
  (first | refine ⟨?_⟩ | skip)
  intro pins s σ H Q I h
  rw [eval_ListComp]
  refine wpAny_comprehension_free (use := none) rfl hs (closure_of (S.cells I)) S.kind S.names ?_
  refine thn (hi pins s σ H _ I h) fun v s1 h1 => thn h1 fun itv s2 h2 => ?_
  obtain ⟨it, fp, tn, J, H2, e, I2, T, st2, f2, W, ⟨m0, w0⟩, turn⟩ := h2
  subst e
  have fl : ∀ b ∈ fp, b < s2.heap.objs.size := fun b hb => by obtain ⟨o, e, _⟩ := T.obj _ _ st2 b hb; exact Heap.lt_size e
  refine wpAny_newObj_type (wpAny_newFunctionEnv S.nocell (by intro y hy; simp at hy) (fun h4 ns4 sb4 => ?_) S.kind)
  dsimp only at ns4 sb4 ⊢
  generalize hH3 : s2.heap.push { cls := .type "list", dict := none, data := .seq ([] : List Value).toArray } = h3 at ns4 sb4 ⊢
  have hC : h3.objs.size = s2.heap.objs.size + 1 := by rw [← hH3, Heap.size_push]
  have hDC : s2.heap.objs.size ≠ h3.objs.size := by rw [hC]; exact Nat.ne_of_lt (Nat.lt_succ_self _)
  have hCle : s2.heap.objs.size ≤ h3.objs.size := by rw [hC]; exact Nat.le_succ _
  have eD3 : h3.get? s2.heap.objs.size = some { cls := .type "list", data := .seq ([] : List Value).toArray } := hH3 ▸ Heap.get?_push_size _ rfl
  have k4 : ∀ b u, s2.heap.get? b = some u → h4.get? b = some u := fun b u e =>
    (sb4.2 b (Nat.ne_of_lt (Nat.lt_of_lt_of_le (Heap.lt_size e) hCle))).trans (Heap.get?_push_of_some _ (hH3 ▸ Heap.get?_push_of_some _ e))
  have eD4 : h4.get? s2.heap.objs.size = some { cls := .type "list", data := .seq ([] : List Value).toArray } := (sb4.2 _ hDC).trans (Heap.get?_push_of_some _ eD3)
  generalize hDd : s2.heap.objs.size = D at *
  generalize hCd : h3.objs.size = C at *
  have I4 := inv_comp S I2 (C := C) (D := D) (fp := fp) (h4 := h4) (tk := s2.toks + ([] : List (Str × Value)).length) k4 (by rw [hDd]; exact hCle) (by rw [hDd]; exact Nat.le_refl _) hDC eD4 (by intro v z; cases z) ns4 f2 (by rw [hDd]; exact fl)
  have lowC : ∀ (b : Addr) (u : Obj), s2.heap.get? b = some u → b ≠ C := fun b u e => Nat.ne_of_lt (Nat.lt_of_lt_of_le (Heap.lt_size e) (by rw [hDd]; exact hCle))
  have nofp : ∀ b ∈ fp, b ∉ frs X.stack := fun b hb hm => by
    rcases List.mem_cons.mp (I2.stkSub b hm) with z | z
    · exact (f2 b hb).2.1 z
    · exact (f2 b hb).2.2.1 z
  have fpD : ∀ b ∈ fp, b ≠ D := fun b hb => Nat.ne_of_lt (fl b hb)
  have stat : ∀ {H' : Hp} {o : Obj}, (∀ b ∈ fp, H' b = none) → ∀ b ∈ fp, FpOk (cxC X scope (N' ++ own) C s2 H2 fp pins) [(D, o)] H' b := fun {H' o} hn b hb =>
    ⟨hn b hb, Nat.ne_of_lt (Nat.lt_of_lt_of_le (fl b hb) hCle), nofp b hb, .inl hb, fun x c e => (f2 b hb).2.2.2.2.1 x c (cl_cell S I2 e), fun p hp => by
      have hp' : p ∈ (X.pn ++ pins) ++ [(D, o)] := hp
      rcases List.mem_append.mp hp' with z | z
      · exact (f2 b hb).2.2.2.2.2 p z
      · have e : p = (D, o) := by simpa using z
        rw [e]; exact Ne.symm (fpD b hb)⟩
  have loop : ∀ s3 : Shared, Inv (cxC X scope (N' ++ own) C s2 H2 fp pins) [(D, { cls := .type "list", data := .seq ([] : List Value).toArray })] (σ ++ List.replicate own.length none) H2 s3 → tn 0 s3.heap →
      codeAny (model X.prog X.w) X.A (.compLoop (.ListComp elt [⟨target, iter, ifs, 0⟩] scope pos) 0 (.ref it) (.ref D) (compEnvC scope (clOf scope.names X.env.cells) C X.env))
        (compPost (model X.prog X.w) X.A X.xe none (EP X pins σ Q) (.ref D) C) s3 := by
    intro s3 I3 st3
    refine codeAny_compLoop_go (fun n s' => ∃ (i : Nat) (ys : List V) (σ' : St) (H' : Hp) (vals : List Value) (cnt : Nat), Inv (cxC X scope (N' ++ own) C s2 H2 fp pins) [(D, { cls := .type "list", data := .seq vals.toArray cnt })] σ' H' s' ∧
      tn i s'.heap ∧ (∀ b ∈ fp, H' b = none) ∧ Vals ys vals ∧ W i n ys σ' H') ?_ m0 ⟨0, [], _, H2, [], 0, I3, st3, fun b hb => (f2 b hb).1, .nil, w0⟩
    rintro n s3 ⟨i, ys, σ3, H3, vals, cnt, I3, st3, fr3, rv, w3⟩
    rcases turn i n ys σ3 H3 w3 with ⟨stop, hz, q⟩ | ⟨go, hz, N, hN, step⟩
    · refine thn (T.done (cxC X scope (N' ++ own) C s2 H2 fp pins) rfl rfl rfl hc i _ s3 σ3 H3 _ I3 (stat fr3) st3 stop) fun r s4 ⟨hr, I4⟩ => ?_
      subst hr
      obtain ⟨m, ns, _⟩ := id I4.loc
      refine ⟨m, ns, fun h' sb => ?_⟩
      have u4 : Un (frs X.stack) fp H2 H3 s2.heap s4.heap := I4.base
      have nC : H3 C = none := I4.free
      have keepC : ∀ (b : Addr) (u : Obj), b ≠ C → s4.heap.get? b = some u → h'.get? b = some u := fun b u hb e => (sb.2 b hb).trans e
      have u' : Un (frs X.stack) fp H2 H3 s2.heap h' :=
        ⟨fun b o e n hb hx => keepC b o (lowC b o e) (u4.keep b o e n hb hx), fun b o e n hb hx => let ⟨sl, q⟩ := u4.slot b o e n hb hx; ⟨sl, keepC _ _ (lowC b o e) q⟩, u4.free, fun b o e hx => let ⟨o', q⟩ := u4.there b o e hx; ⟨o', keepC _ _ (lowC b o e) q⟩, u4.tups, u4.frzs, u4.tbls⟩
      have hok' : HOk X.prog X.w H3 h' := fun b u e => (I4.hok b u e).stay (fun c v hc' q => keepC c v (by
        rintro rfl
        rcases hc' with z | z
        · rw [← z, nC] at e; cases e
        · rw [nC] at z; cases z) q) (fun _ q => q) fun _ _ q => q
      have I5 : Inv X pins σ H3 { s4 with heap := h' } := I2.call' (ch := fp) (s' := { s4 with heap := h' }) I4.os u' hok' I4.bare fun b hb => ⟨(f2 b hb).2.2.2.1, (f2 b hb).2.1, (f2 b hb).2.2.2.2.1, (f2 b hb).2.2.2.2.2⟩
      obtain ⟨eD, nD, _⟩ := I4.pin (D, _) (List.mem_append_right _ List.mem_cons_self)
      refine ⟨.ref D, upd H3 D (.lst ys), inv_track I5 nD (by rw [← hDd]; exact I2.sz) ?_ ?_ ?_ ⟨hz, vals, cnt, rv, keepC D _ hDC eD⟩, rfl, q D nD⟩
      · have := I2.lt; rw [hDd] at this; exact Nat.ne_of_gt this
      · intro x c e z
        obtain ⟨v, o, ho, _⟩ := I2.cell x c e
        have := Heap.lt_size ho; rw [hDd, z] at this; exact Nat.lt_irrefl _ this
      · intro p hp z
        have := Heap.lt_size (I2.pin p hp).1; rw [hDd, z] at this; exact Nat.lt_irrefl _ this
    · refine thn (T.item (cxC X scope (N' ++ own) C s2 H2 fp pins) rfl rfl rfl hc i _ s3 σ3 H3 _ I3 (stat fr3) st3 go) fun r s4 ⟨u, hr, h4⟩ => ?_
      subst hr
      refine thn h4 fun _ s5 ⟨x, H5, I5, r5, y5, st5, fr5⟩ => ?_
      have I5' := I5.pinned (stat fr5) (T.obj _ _ st5)
      have keepT : ∀ {σ7 : St} {H7 : Hp} {s7 : Shared} {pl : List (Addr × Obj)}, Inv (cxC X scope (N' ++ own) C s2 H2 fp pins) (pl ++ pinsAt fp s5.heap) σ7 H7 s7 → tn (i + 1) s7.heap ∧ ∀ b ∈ fp, H7 b = none := fun {σ7 H7 s7 pl} I7 =>
        ⟨T.keep _ _ _ st5 fun b hb o e => (I7.pin (b, o) (List.mem_append_right _ (List.mem_append_right _ (mem_pinsAt hb e)))).1, fun b hb => by
          obtain ⟨o, e, d⟩ := T.obj _ _ st5 b hb
          exact (I7.pin (b, o) (List.mem_append_right _ (List.mem_append_right _ (mem_pinsAt hb e)))).2.1⟩
      refine noRaise (hg C s2 H2 fp pins _ s5 σ3 H5 x u _ I5' r5 (step x H5 y5)) fun _ s6 ⟨σ6, H6, I6, q6⟩ => ?_
      refine noRaise (ht C s2 H2 fp pins _ s6 σ6 H6 _ I6 q6) fun b s7 ⟨H7, I7, q7⟩ => ?_
      cases b with
      | false =>
        obtain ⟨m', hm, w7⟩ := hN _ _ _ q7
        obtain ⟨t7, fr7⟩ := keepT I7
        exact ⟨m', hm, i + 1, ys, σ6, H7, vals, cnt, I7.unpinned, t7, fr7, rv, w7⟩
      | true =>
        refine noRaise (he C s2 H2 fp pins _ s7 σ6 H7 _ I7 q7) fun y s8 ⟨yv, H8, I8, r8, q8⟩ => ?_
        obtain ⟨m', hm, w8⟩ := hN _ _ _ q8
        obtain ⟨eD, nD, neD, nfD, cD⟩ := I8.pin (D, _) (List.mem_append_right _ (List.mem_append_left _ List.mem_cons_self))
        have hvl := rv.length
        refine call_meets F.slot_list_append ⟨_, eD, rfl⟩ F.entry_list_append (F.args_list_append_2 _ _) (PySem.list_append D vals.toArray cnt y (by rw [List.size_toArray]; omega)) ⟨eD, ?_⟩
        have I8' : Inv (cxC X scope (N' ++ own) C s2 H2 fp pins) (pinsAt fp s5.heap) σ6 H8 s8 := I8.pins_of fun p hp => I8.pin p (List.mem_append_right _ (List.mem_append_right _ hp))
        have hno : ∀ p ∈ (X.pn ++ pins) ++ pinsAt fp s5.heap, p.1 ≠ D := fun p hp => by
          rcases List.mem_append.mp hp with z | z
          · intro q
            have := Heap.lt_size (I2.pin p z).1; rw [hDd, q] at this; exact Nat.lt_irrefl _ this
          · exact fpD _ (of_pinsAt z).1
        have I9 := I8'.turned (t' := s8.toks) (it := D) (h' := s8.heap.update D (Obj.mapSeq fun x => x.push y)) (fun b o hb e => (Heap.get?_update_other s8.heap _ (Ne.symm hb)).trans e) nD neD (.inr (by show s2.heap.objs.size ≤ D; rw [hDd]; exact Nat.le_refl _))
          (fun x c e z => by
            obtain ⟨v, o, ho, _⟩ := I2.cell x c (cl_cell S I2 e)
            have := Heap.lt_size ho; rw [hDd, z] at this; exact Nat.lt_irrefl _ this) hno
        obtain ⟨t9, fr9⟩ := keepT (pl := []) I9
        have qD : ∃ n', (s8.heap.update D (Obj.mapSeq fun x => x.push y)).get? D = some { cls := .type "list", data := .seq (vals ++ [y]).toArray n' } := by
          have q := PySem.IsL.update (l := D) (items := vals.toArray) (n := cnt) (h := s8.heap) eD fun x => x.push y
          have e : vals.toArray.push y = (vals ++ [y]).toArray := by simp
          rw [← e]
          exact ⟨_, q⟩
        obtain ⟨n', qD⟩ := qD
        refine ⟨m', hm, i + 1, ys ++ [yv], σ6, H8, vals ++ [y], n', I9.pins_of fun p hp => ?_, t9, fr9, rv.append (.cons r8 .nil), w8⟩
        have e := List.mem_singleton.mp hp
        rw [e]
        exact ⟨qD, nD, neD, nfD, by intro v z; cases z⟩
  have t4 : tn 0 h4 := T.keep _ _ _ st2 fun b _ o e => k4 b o e
  exact codeAny_compStart_list (loop _ I4 t4) (T.self _ 0 _ _ _ t4 (loop _ I4 t4))
end
end L2
set_option Elab.async false
set_option linter.all false
set_option maxRecDepth 100000
set_option maxHeartbeats 4000000
namespace L2
open PySem PySem.Spec PyProof.Rows
def Its (x : Str) : It := ⟨fun i _ => i < x.cps.size, fun i H v H' => H' = H ∧ ∃ c, x.cps[i]? = some c ∧ v = .str ⟨#[c]⟩, fun i _ => i = x.cps.size⟩
theorem turn_str {P : Program} {w : World} {K : PySem.W.Frag} {tg : Expr} {n : String} (it : Addr) (x : Str) (t : Tok) (hn : ["enumerate", "zip", "dict_itemiterator", "dict_reverseitemiterator", "odict_iterator", "itertools.zip_longest", "itertools.pairwise"].contains n = false)
    (W : ∀ A : Around, A.handled = none → Walks P w A it [it] [it] x.cps.size (SignAt x) (fun i h => h.IsStrIter it n x t i))
    (hself : ∀ (A : Around) (i : Nat) (s : Shared) (Q : Value → Shared → Prop) (E : Value → Shared → Prop), s.heap.IsStrIter it n x t i → Q (.ref it) s → wpAny (model P w) A (pyIter (.ref it)) Q E s) :
    Turn P w K tg (Its x) [it] it (fun i h => h.IsStrIter it n x t i) where
  mem := by simp
  obj := fun i h st b hb => by
    have e : b = it := by simpa using hb
    subst e
    obtain ⟨o, e, c, d⟩ := st
    exact ⟨o, e, fun v z => by rw [d] at z; cases z⟩
  keep := fun i h h' st k => by
    obtain ⟨o, e, r⟩ := st
    exact ⟨o, k it (by simp) o e, r⟩
  item := by
    intro X hP hw hK hc i pins s σ H E I hf st hg
    subst hP hw hK
    obtain ⟨f0, f1, f2, f3, f4, f5⟩ := hf it (by simp)
    refine (W X.A (I.ok.hd hc)).item i s _ _ hg st fun v h' tk hv st' kk => ?_
    obtain ⟨c, u, ec, rfl⟩ := hv
    have I1 : Inv X pins σ H { s with heap := h', toks := tk } := I.turned (fun b o hb e => kk b o (by simpa using hb) e) f0 f1 f3 f4 f5
    obtain ⟨o, e, c', d⟩ := id st'
    exact ⟨_, rfl, go_of (s := { s with heap := h', toks := tk }) e c' d hn ⟨.str ⟨#[c]⟩, H, I1, ⟨u, rfl⟩, ⟨rfl, c, ec, rfl⟩, st', fun b hb => (hf b hb).1⟩⟩
  done := by
    intro X hP hw hK hc i pins s σ H E I hf st hg
    subst hP hw hK
    obtain ⟨f0, f1, f2, f3, f4, f5⟩ := hf it (by simp)
    have hg' : i = x.cps.size := hg
    subst hg'
    exact (W X.A (I.ok.hd hc)).done s _ _ st fun h' tk kk => ⟨rfl, I.turned (fun b o hb e => kk b o (by simpa using hb) e) f0 f1 f3 f4 f5⟩
  self := hself
section
variable {X : Cx} {tg : Expr}
end
end L2
set_option Elab.async false
set_option linter.all false
set_option maxRecDepth 100000
set_option maxHeartbeats 4000000
namespace L2
open PySem PySem.Spec PyProof.Rows
def checkC (fsc scope : Scope) (N N' : List Str) : Bool :=
  scope.kind == .function && scope.names.all (fun y => y.2 != .cell && (y.2 != .local || scope.names.lookup y.1 == some .local) && (y.2 != .free || (fsc.names.lookup y.1 == some .cell || fsc.names.lookup y.1 == some .free)))
    && N'.length == N.length && (N'.zip N).all (fun p => p.1 == p.2 || !(scope.names.any fun q => q.1 == p.1 && q.2 == .free)) && N'.all (fun y => scope.names.lookup y != some .local)
theorem comp_scope {X : Cx} {scope fsc : Scope} {N N' own : List Str} (hX : X.env.scope = fsc) (hN : X.N = N) (h : checkC fsc scope N N' = true) : CompScope X scope N' own := by
  unfold checkC at h
  simp only [Bool.and_eq_true, List.all_eq_true, beq_iff_eq, bne_iff_ne, Bool.or_eq_true, ne_eq] at h
  obtain ⟨⟨⟨⟨h1, h2⟩, h3⟩, h4⟩, h5⟩ := h
  subst hX hN
  refine ⟨h1, fun y hy => (h2 y hy).1.1, fun y hy e => ?_, fun y hy e => ?_, h3, fun i y e => ?_, fun y hy => h5 y hy⟩
  · rcases (h2 y hy).1.2 with z | z
    · exact absurd e z
    · exact z
  · rcases (h2 y hy).2 with z | z
    · exact absurd e z
    · exact z
  · have hi : i < N'.length := (List.getElem?_eq_some_iff.mp e).1
    have e2 : X.N[i]? = some X.N[i] := List.getElem?_eq_getElem (by omega)
    have m : (y, X.N[i]) ∈ N'.zip X.N := by
      refine List.mem_iff_getElem?.mpr ⟨i, ?_⟩
      rw [List.getElem?_zip_eq_some]
      exact ⟨e, e2⟩
    rcases h4 _ m with z | z
    · left
      rw [e2]
      have z' : y = X.N[i] := z
      rw [← z']
    · right
      intro q
      have z' : (!(scope.names.any fun q => q.1 == y && q.2 == .free)) = true := z
      rw [Bool.not_eq_true', List.any_eq_false] at z'
      exact z' _ q (by simp)
def But (p : Addr) (H H' : Hp) : Prop := ∀ b o, H b = some o → b ≠ p → H' b = some o
theorem Same.but {p : Addr} {H H' : Hp} (a : Same H H') : But p H H' := fun b o h _ => a b o h
theorem upd_sameNew {H : Hp} {p : Addr} {o : HO} (h : H p = none) : Same H (upd H p o) := fun b o' q => by rw [upd_ne (ne_of_none q h)]; exact q
theorem atI_has {α : Type} (xs : List α) {d : Int} (h0 : 0 ≤ d) (h1 : d < xs.length) : ∃ y, y ∈ xs ∧ atI xs d = some y := by
  have hn : d.toNat < xs.length := by omega
  refine ⟨xs[d.toNat], List.getElem_mem hn, ?_⟩
  unfold atI ixN
  rw [if_pos h0, if_pos h1]
  exact List.getElem?_eq_getElem hn
end L2
set_option Elab.async false
set_option linter.all false
set_option maxRecDepth 100000
set_option maxHeartbeats 4000000
namespace L2
open PySem PySem.Spec PyProof.Rows
section
variable {X : Cx}
end
section
variable {prog : Program} {w : World} {A : Around} {J : Addr} {fp wr : List Addr} {n : Nat} {P : Nat → Value → Prop} {Sn : Nat → Heap → Prop}
end
end L2
set_option Elab.async false
set_option linter.all false
set_option maxRecDepth 100000
set_option maxHeartbeats 4000000
namespace L2
open PySem PySem.Spec PyProof.Rows
section
variable {prog : Program} {w : World} {A : Around} {E : Value → Shared → Prop} {s : Shared}
theorem fn_treeK {id : String} {b : Builtin} {args : List Value} {kw : List (Str × Value)} {Q : Value → Shared → Prop} (hk : builtinKind id = none) (hp : plainId id = true)
    (hb : entryFor table id = some b) (ha : argsOk id ⟨args, kw⟩)
    (hc : wpAny (model prog w) A.in1 (b ⟨args, kw⟩) (fun fin s' => match fin with
      | .done f => (match (Except.ok f : Result) with | .ok (.ret v) => Q v s' | .ok _ => False | .error e => E e s')
      | .again c' => c'.quiet = true ∧ codeAny (model prog w) A c' (fun r s' => match r with | .ok (.ret v) => Q v s' | .ok _ => False | .error e => E e s') s') E s) :
    wpAny (model prog w) A (call (.builtin id) args kw) Q E s := by
  refine wpAny_call (codeAny_call_builtin hp hb ?_)
  simp only [checkBuiltinCall, hk]
  cases hsig : Manifest.signature? id with
  | none => exact wpAny_pure hc
  | some sig =>
    simp only [argsOk, hsig] at ha
    have h2 : Bind.checkArgs id sig ⟨args, kw⟩ = pure () := ha
    show wpAny _ A.in1 (Bind.checkArgs id sig ⟨args, kw⟩) _ _ s
    rw [h2]; exact wpAny_pure hc
end
section
variable {X : Cx} {e e2 : Expr} {t : TA} {tk : TA} {p pos kpos : Pos}
end
end L2
set_option Elab.async false
set_option linter.all false
set_option maxRecDepth 100000
set_option maxHeartbeats 4000000
namespace L2
open PySem PySem.Spec PyProof.Rows
theorem dict_len : typeLookup (.type "dict") "__len__" = pure (some (.builtin "dict.__len__")) := by rw [typeLookup_type, builtinLookup_eq_fast]; kernel_rfl
section
variable {prog : Program} {w : World} {A : Around} {E : Value → Shared → Prop} {s : Shared}
theorem collect_dict {d : Addr} {kvs : List (Key × Value)} {Q : List Value → Shared → Prop} (hh : A.handled = none) (hd : (d == sysModules) = false) (hm : s.heap.DictOf (mixKind prog w) d kvs) (hn : kvs.length ≤ sizeLine)
    (hQ : ∀ s' acc, (∀ b o, s.heap.get? b = some o → s'.heap.get? b = some o) → s'.gens = s.gens → s'.drawn = s.drawn → s'.os = s.os → ItemsOf (fun i v => ∃ k x, kvs[i]? = some (k, x) ∧ (mixKind prog w).is k v = true) acc kvs.length → Q acc.toList s') :
    wpAny (model prog w) A (collect (.ref d)) Q E s := by
  have hdl : d < s.heap.objs.size := by obtain ⟨o, es, ep, ho, _⟩ := id hm; exact Heap.lt_size ho
  unfold collect
  refine wpAny_bind (wpAny_runValue (codeAny_builtin F.entry_proto_collect ?_))
  rw [Around.under_plainId F.plain_proto_collect _]
  show wpAny _ A.in1 (newList [] >>= fun l => again (.builtin "list.__iadd__" ⟨[l, .ref d], []⟩)) _ _ s
  refine wpAny_bind (wpAny_newObj_type ?_)
  refine wpAny_pure ⟨plainId_quiet F.plain_list_iadd _, codeAny_builtin F.entry_list_iadd ?_⟩
  rw [Around.under_plainId F.plain_list_iadd _]
  show wpAny _ A.in1 (Builtin.List.listExtendWith (.ref s.heap.objs.size) (.ref d) (.ref s.heap.objs.size)) _ _ _
  generalize hH : s.heap.push { cls := .type "list", data := .seq ([] : List Value).toArray } = H
  have hHs : H.objs.size = s.heap.objs.size + 1 := by rw [← hH, Heap.size_push]
  have kH : ∀ b o, s.heap.get? b = some o → H.get? b = some o := fun b o e => hH ▸ Heap.get?_push_of_some _ e
  have hm1 : H.DictOf (mixKind prog w) d kvs := hm.at fun o e => kH d o e
  obtain ⟨ep, at1⟩ := hm1.dictAt
  have hS : H.get? s.heap.objs.size = some { cls := .type "list", data := .seq ([] : List Value).toArray } := hH ▸ Heap.get?_push_size _ rfl
  unfold Builtin.List.listExtendWith
  have hT : Shared.TypeIs { s with heap := H } (.ref d) "dict" := Heap.DictOf.typeIs (s := { s with heap := H }) hm1
  refine wpAny_bind (wpAny_typeOf hT ?_)
  have h1 : Builtin.List.listSameRef (.ref s.heap.objs.size) (.ref d) = false := by
    have : s.heap.objs.size ≠ d := Nat.ne_of_gt hdl
    simp [Builtin.List.listSameRef, this]
  have h2 : (Value.type "dict" == Value.type "list") = false := by decide
  have h3 : (Value.type "dict" == Value.type "tuple") = false := by decide
  simp only [h1, h2, h3, Bool.or_false, Bool.false_eq_true, if_false]
  refine wpAny_bind (wpAny_pyIter_dict (s := { s with heap := H }) hd at1 ?_)
  refine wpAny_bind (wpAny_holding ?_)
  unfold Builtin.List.listLengthHint
  have hT2 : Shared.TypeIs { s with heap := H.push { cls := .type "dict_keyiterator", data := .fields #[.ref d, .int 0 0, .int kvs.length 0, .int ep 0] } } (.ref d) "dict" := by
    obtain ⟨o, ho, hc⟩ := hT
    exact ⟨o, Heap.get?_push_of_some _ ho, hc⟩
  refine wpAny_bind (wpAny_specialOf hT2 dict_len ?_)
  wp_delta
  refine wpAny_bind (wpAny_isInstance (b := true) hT2 (by rw [isSubtype_type]; kernel_rfl) ?_)
  show wpAny _ A.in1 (typeOf (Value.ref d) >>= _) _ _ _
  refine wpAny_bind (wpAny_typeOf hT2 ?_)
  refine wpAny_pure ?_
  rw [if_pos (by decide)]
  refine wpAny_bind (wpAny_rule ?_)
  generalize hG : H.push { cls := .type "dict_keyiterator", data := .fields #[.ref d, .int 0 0, .int kvs.length 0, .int ep 0] } = G at hT2 ⊢
  have hI : G.get? H.objs.size = some { cls := .type "dict_keyiterator", data := .fields #[.ref d, .int 0 0, .int kvs.length 0, .int ep 0] } := hG ▸ Heap.get?_push_size _ rfl
  have kG : ∀ b o, H.get? b = some o → G.get? b = some o := fun b o e => hG ▸ Heap.get?_push_of_some _ e
  have hS2 := kG _ _ hS
  refine wpAny_bind ?_
  show wpAny _ A.in1 (updateSeq s.heap.objs.size (·.push .none) >>= fun _ => updateSeq s.heap.objs.size (·.pop)) _ _ { s with heap := G }
  refine wpAny_bind (wpAny_updateSeq (s := { s with heap := G }) hS2 rfl ?_)
  have hS3 := Heap.get?_update_self (Obj.mapSeq (·.push .none)) hS2 rfl
  refine (wpAny_updateSeq (s := { s with heap := G.update s.heap.objs.size (Obj.mapSeq (·.push .none)) }) hS3 rfl ?_)
  have hS4 := Heap.get?_update_self (Obj.mapSeq (·.pop)) hS3 rfl
  generalize hG2 : (G.update s.heap.objs.size (Obj.mapSeq (·.push .none))).update s.heap.objs.size (Obj.mapSeq (·.pop)) = G2 at hS4 ⊢
  have kG2 : ∀ b o, b ≠ s.heap.objs.size → G.get? b = some o → G2.get? b = some o := fun b o hb e => by
    rw [← hG2]
    exact (Heap.get?_update_other _ _ (Ne.symm hb)).trans ((Heap.get?_update_other _ _ (Ne.symm hb)).trans e)
  have nI : H.objs.size ≠ s.heap.objs.size := by rw [hHs]; exact Nat.succ_ne_self _
  have nd : d ≠ s.heap.objs.size := Nat.ne_of_lt hdl
  have ndI : d ≠ H.objs.size := by rw [hHs]; exact Nat.ne_of_lt (Nat.lt_succ_of_lt hdl)
  have W := Walks.dictKeys (knd := mixKind prog w) (A := A.in1) hh H.objs.size d ndI kvs ep
  have st0 : G2.IsKeyIter H.objs.size d 0 kvs.length ep ∧ G2.DictAt (mixKind prog w) d kvs ep := ⟨⟨_, kG2 _ _ nI hI, rfl, rfl⟩, at1.at' fun o e => kG2 d o nd (kG d o e)⟩
  have hSf : s.heap.objs.size ∉ [H.objs.size, d] := by
    intro z
    rcases List.mem_cons.mp z with z | z
    · exact nI z.symm
    · exact nd (List.mem_singleton.mp z).symm
  refine wpAny_pure ⟨plainId_quiet F.plain_extend_loop _, codeAny_extend_loopS W.toS hn _ hSf _ kvs.length 0 { s with heap := G2 } #[] _ rfl (Nat.zero_le _) st0 hS4 (ItemsOf.nil _) fun s' acc' c' hm' hS' hacc => ?_⟩
  show wpAny _ A (load s.heap.objs.size >>= _) _ _ s'
  refine wpAny_bind (wpAny_load hS' ?_)
  refine wpAny_pure (hQ s' acc' (fun b ob e => hm'.heap b ob (fun hb => ?_) (kG2 b ob (Nat.ne_of_lt (Heap.lt_size e)) (kG b ob (kH b ob e)))) hm'.gens hm'.drawn hm'.os hacc)
  have hlt := Heap.lt_size e
  rcases List.mem_cons.mp hb with h | h
  · exact absurd hlt (h ▸ Nat.lt_irrefl _)
  · rw [List.mem_singleton.mp h, hHs] at hlt; exact absurd hlt (Nat.not_lt.mpr (Nat.le_succ _))
theorem code_tuple_dict {d : Addr} {kvs : List (Key × Value)} {Q₁ : Value → Shared → Prop} (hh : A.handled = none) (hd : (d == sysModules) = false) (hm : s.heap.DictOf (mixKind prog w) d kvs) (hn : kvs.length ≤ sizeLine)
    (h : ∀ (s' : Shared) (acc : Array Value), (∀ b o, s.heap.get? b = some o → s'.heap.get? b = some o) → s'.gens = s.gens → s'.drawn = s.drawn → s'.os = s.os → ItemsOf (fun i v => ∃ k x, kvs[i]? = some (k, x) ∧ (mixKind prog w).is k v = true) acc kvs.length →
      Q₁ (.ref s'.heap.objs.size) { s' with heap := s'.heap.push { cls := .type "tuple", data := .seq acc } }) :
    codeAny (model prog w) A (.call (.builtin "tuple.__new__") ⟨[.type "tuple", .ref d], []⟩) (wants Q₁ E) s := by
  refine codeAny_of_tree ?_
  show wpAny _ A.in1 (do checkBuiltinCall "tuple.__new__" ⟨[.type "tuple", .ref d], []⟩; again (.builtin "tuple.__new__" ⟨[.type "tuple", .ref d], []⟩)) _ _ s
  refine wpAny_bind (wpAny_of_eq (F.newCall_tuple_1 _) (wpAny_pure ⟨plainId_quiet F.plain_tuple_new _, codeAny_builtin F.entry_tuple_new ?_⟩))
  rw [Around.under_plainId F.plain_tuple_new _]
  have hsub := sub_tuple_self
  have hinit := init_tuple_lookup
  have hmh := madeHere_tuple
  have hTI : s.TypeIs (.ref d) "dict" := hm.typeIs
  wp_walk using wpAny_typeOf hTI, collect_dict (A := A.in1) hh hd hm hn
  intro s' acc k1 k2 k3 k4 hacc
  show wpAny _ _ (Builtin.Tuple.tupleExact acc.toList.toArray >>= fun v => ret v) _ _ _
  unfold Builtin.Tuple.tupleExact
  refine wpAny_bind (wpAny_newObj_type ?_ (by show acc.toList.toArray.size ≤ sizeLine; simp only [Array.toArray_toList]; rw [hacc.1]; exact hn))
  refine wpAny_pure ?_
  have e : acc.toList.toArray = acc := by simp
  rw [e]
  exact h s' acc k1 k2 k3 k4 hacc
theorem call_tuple_dict {d : Addr} {kvs : List (Key × Value)} {Q : Value → Shared → Prop} (hh : A.handled = none) (hd : (d == sysModules) = false) (hm : s.heap.DictOf (mixKind prog w) d kvs) (hn : kvs.length ≤ sizeLine)
    (h : ∀ (s' : Shared) (acc : Array Value), (∀ b o, s.heap.get? b = some o → s'.heap.get? b = some o) → s'.gens = s.gens → s'.drawn = s.drawn → s'.os = s.os → ItemsOf (fun i v => ∃ k x, kvs[i]? = some (k, x) ∧ (mixKind prog w).is k v = true) acc kvs.length →
      Q (.ref s'.heap.objs.size) { s' with heap := s'.heap.push { cls := .type "tuple", data := .seq acc } }) :
    wpAny (model prog w) A (call (.type "tuple") [.ref d]) Q E s := by
  refine callType_codes (Q₁ := fun obj s₁ => s₁.TypeIs obj "tuple" ∧ Q obj s₁) F.called_tuple (F.typeCall_tuple_1 _) F.entry_object_init
    (code_tuple_dict hh hd hm hn fun s' acc k1 k2 k3 k4 hacc => ⟨⟨_, Heap.get?_push_size _ rfl, rfl⟩, h s' acc k1 k2 k3 k4 hacc⟩) fun obj s₁ h₁ => ?_
  exact ⟨h₁.1, F.args_object_init_2 obj _, object_init_meets F.called_tuple.init.lookup F.called_tuple.made (by decide) prog w A.in1 _ s₁ ⟨h₁.1, rfl, h₁.2⟩⟩
end
theorem vals_by : ∀ {xs : List V} {us : List Value}, xs.length = us.length → (∀ (j : Nat) (v : Value) (x : V), us[j]? = some v → xs[j]? = some x → RelV x v) → Vals xs us
  | [], [], _, _ => .nil
  | x :: xs, u :: us, h, r => .cons (r 0 u x rfl rfl) (vals_by (by simpa using h) fun j v y a b => r (j + 1) v y a b)
theorem kv_len {kvs : List (Key × V)} {vs : List (Key × Value)} (r : KV kvs vs) : kvs.length = vs.length := Paired.length r
theorem kv_get : ∀ {kvs : List (Key × V)} {vs : List (Key × Value)} {i : Nat} {k : Key} {x : Value}, KV kvs vs → vs[i]? = some (k, x) → ∃ y, kvs[i]? = some (k, y)
  | _, _, 0, k, x, .cons (a := p) r _, h => by
    rw [List.getElem?_cons_zero] at h
    rw [Option.some.inj h] at r
    have e : p.1 = k := r.1
    exact ⟨p.2, by rw [List.getElem?_cons_zero, ← e]⟩
  | _, _, i + 1, k, x, .cons _ r, h => by
    obtain ⟨y, e⟩ := kv_get (i := i) r (by simpa using h)
    exact ⟨y, by simpa using e⟩
section
variable {X : Cx}
theorem call_tupleD (hc : X.calm = true) : CallR X (.type "tuple") (fun xs H Q => ∃ (d : Addr) (kvs : List (Key × V)), xs = [.ref d] ∧ H d = some (.dK kvs) ∧ ∀ p, H p = none → Q (.ref p) (upd H p (.tup (kvs.map fun q => kV q.1)))) := by
  intro pins s σ H xs us Q I r h
  obtain ⟨d, kvs, rfl, hd, q⟩ := h
  obtain ⟨u, rfl, ru⟩ := vals1 r
  cases ru
  obtain ⟨hz, hsys, vs, kv, dd⟩ := dk_of I.hok hd
  have hl := kv_len kv
  refine call_tuple_dict (I.ok.hd hc) hsys dd (by rw [← hl]; exact hz) fun s' acc k1 k2 k3 k4 hacc => ?_
  obtain ⟨hp, g, dr, tk, os⟩ := s'
  obtain ⟨hp0, g0, dr0, tk0, os0⟩ := s
  dsimp only at k1 k2 k3 k4
  subst k2 k3 k4
  have I1 : Inv X pins σ H ⟨hp, g, dr, tk, os⟩ := I.kept (t' := tk) (h' := hp) k1
  refine ⟨.ref hp.objs.size, _, I1.laid (t' := tk) (o := .tup (kvs.map fun q => kV q.1)) (fun b o e => Heap.get?_push_of_some _ e) (Nat.le_refl _) ⟨by rw [List.length_map]; exact hz, acc.toList, vals_by ?_ fun j v x hv hx => ?_, by simpa using IsTupD.new _ _⟩, rfl, q _ I1.fresh⟩
  · rw [List.length_map, hl]; exact hacc.1.symm.trans (Array.length_toList).symm
  · obtain ⟨k, y, e1, e2⟩ := hacc.2 j v (by simpa using hv)
    obtain ⟨z, e3⟩ := kv_get kv e1
    rw [List.getElem?_map, e3] at hx
    have e4 : kV k = x := Option.some.inj hx
    subst e4
    rcases keyIs_shape e2 with ⟨i, t, rfl, rfl⟩ | ⟨z', t, rfl, rfl⟩
    · exact ⟨t, rfl⟩
    · exact ⟨t, rfl⟩
end
end L2
set_option Elab.async false
set_option linter.all false
set_option maxRecDepth 100000
set_option maxHeartbeats 4000000
namespace L2
open PySem PySem.Spec PyProof.Rows
namespace RV
end RV
section
variable {prog : Program} {w : World} {A : Around} {E : Value → Shared → Prop} {s : Shared}
end
section
variable {X : Cx} {tg : Expr}
end
end L2
set_option Elab.async false
set_option linter.all false
set_option maxRecDepth 100000
set_option maxHeartbeats 4000000
namespace L2
open PySem PySem.Spec PyProof.Rows
section
variable {X : Cx} {pins : List (Addr × Obj)} {σ : St} {H : Hp} {s : Shared}
theorem paired_at {α β : Type} {R : α → β → Prop} : ∀ {l : List α} {m : List β} {j : Nat} {a : α} {b : β}, Paired R l m → l[j]? = some a → m[j]? = some b → R a b
  | _, _, 0, a, b, .cons r _, h1, h2 => by
    rw [List.getElem?_cons_zero] at h1 h2
    rw [← Option.some.inj h1, ← Option.some.inj h2]; exact r
  | _, _, j + 1, a, b, .cons _ r, h1, h2 => paired_at (j := j) r (by simpa using h1) (by simpa using h2)
theorem vals_at {xs : List V} {its : List Value} (r : Vals xs its) {j : Nat} (h : j < its.toArray.size) : ∃ x, xs[j]? = some x ∧ RelV x its.toArray[j] := by
  have hj : j < xs.length := by rw [r.length]; simpa using h
  obtain ⟨u, e, ru⟩ := r.get (i := j) (x := xs[j]) (by simp [hj])
  refine ⟨xs[j], by simp [hj], ?_⟩
  have : its[j]? = some its.toArray[j] := by simp
  rw [this] at e
  rw [Option.some.inj e]; exact ru
end
end L2
set_option Elab.async false
set_option linter.all false
set_option maxRecDepth 100000
set_option maxHeartbeats 4000000
namespace L2
open PySem PySem.Spec PyProof.Rows
section
variable {X : Cx}
theorem op_mulS : OpR X (binaryOp .Mult) (fun x y H Q => ∃ (z : Str) (n : Int), x = .str z ∧ y = .int n ∧ ((n = 0 ∧ Q (.str Str.empty) H) ∨ (n = 1 ∧ Q (.str z) H))) := by
  intro pins s σ H x y v u Q I rx ry h
  obtain ⟨z, n, rfl, rfl, h⟩ := h
  obtain ⟨t, rfl⟩ := rx
  obtain ⟨t', rfl⟩ := ry
  rcases h with ⟨rfl, q⟩ | ⟨rfl, q⟩
  · exact PySem.P.mul_str_none (by decide) (by decide) ⟨.str Str.empty, H, I.tok _, ⟨_, rfl⟩, q⟩
  · refine PySem.P.mul_str (by decide) (fun _ h => by cases h) (fun _ h => by cases h) ?_
    rw [if_neg (by decide), if_pos (show ((1 : Int) == 1 || z.length == 0) = true from rfl)]
    exact ⟨.str z, H, I, ⟨_, rfl⟩, q⟩
end
end L2
set_option Elab.async false
set_option linter.all false
set_option maxRecDepth 100000
set_option maxHeartbeats 4000000
namespace L2
open PySem PySem.Spec PyProof.Rows
section
variable {prog : Program} {w : World} {A : Around} {E : Value → Shared → Prop} {s : Shared}
end
section
variable {X : Cx}
def gLst (K : PySem.W.Frag) (n : Nat) (t : TGs) : TG := fun v σ H Q => ∃ a xs, v = .ref a ∧ SqL K H a xs ∧ xs.length = n ∧ t xs σ H Q
theorem pg_lst {es : List Expr} {k : Nat} {t : TGs} {n : Nat} {pos : Pos} (hc : X.calm = true) (h : PGs X es t)
    (hn : (assignEach es X.env).length = n := by rfl) (hst : (assignEach es X.env).findIdx? (·.1) = none := by rfl) : PG X (.Tuple es k pos) (gLst X.K n t) := ⟨by
  intro pins s σ H v u Q I r hw
  obtain ⟨a, xs, e1, hq, hl, hw⟩ := hw
  subst e1
  cases r
  obtain ⟨its, rv, ht, hz⟩ := I.list hq
  rw [assign_Tuple]
  refine wpAny_bind (wpAny_standAt ?_)
  unfold unpack
  rw [show (assignEach es X.env).length = its.toArray.size from by simp [hn, ← hl, rv.length], hst]
  refine wpAny_bind (wpAny_holding (PySem.W.kun_itemsOf (I.ok.hd hc) ht.isList fun h' hx => ?_))
  have I1 : Inv X pins σ H { s with heap := h' } := I.kept (t' := s.toks) fun b o e => hx b o (Nat.ne_of_lt (Heap.lt_size e)) e
  exact h pins _ σ H xs _ Q I1 (by simpa using rv) hw⟩
variable {a b c d : Expr} {ta tb tc td : TE} {pos : Pos}
end
end L2
set_option Elab.async false
set_option linter.all false
set_option maxRecDepth 100000
set_option maxHeartbeats 4000000
namespace L2
open PySem PySem.Spec PyProof.Rows
namespace RV
end RV
section
variable {prog : Program} {w : World} {A : Around} {E : Value → Shared → Prop} {s : Shared}
end
section
variable {X : Cx}
end
end L2
set_option Elab.async false
set_option linter.all false
set_option maxRecDepth 100000
set_option maxHeartbeats 4000000
namespace L2
open PySem PySem.Spec PyProof.Rows
def FnAt (f : Addr) (o : Obj) : Heap → Prop := fun h => h.get? f = some o
def CdAt (c : Addr) (q : Str) : Heap → Prop := fun h => ∃ o vs t, h.get? c = some o ∧ o.data = .fields vs ∧ vs[1]? = some (.str q t)
def less (H : Hp) (c : Addr) : Hp := fun b => if b = c then none else H b
theorem less_ne {H : Hp} {b c : Addr} (h : b ≠ c) : less H c b = H b := if_neg h
theorem less_eq {H : Hp} {c : Addr} : less H c c = none := if_pos rfl
theorem less_of {H : Hp} {b c : Addr} {o : HO} (h : less H c b = some o) : b ≠ c ∧ H b = some o := by
  by_cases e : b = c
  · rw [e, less_eq] at h; cases h
  · rw [less_ne e] at h; exact ⟨e, h⟩
def back (H K : Hp) (c : Addr) : Hp := fun b => if b = c then K c else H b
theorem back_ne {H K : Hp} {b c : Addr} (h : b ≠ c) : back H K c b = H b := if_neg h
theorem back_eq {H K : Hp} {c : Addr} : back H K c c = K c := if_pos rfl
abbrev lamEnv (scope : Scope) (qual y : Str) (f c c' L : Addr) : Env := newEnv scope L mainGlobals [(y, c)] (qual ++ ".<locals>.") (some f) (.ref c') none builtinsNs
abbrev cxL (P : Program) (w : World) (K : PySem.W.Frag) (mg : Str → Option Value) (base : Heap) (scope : Scope) (qual x y : Str) (f c c' : Addr) (A : Around) (outer : List Env) (s : Shared) (H : Hp) : Cx where
  prog := P
  w := w
  K := K
  mg := mg
  base := base
  A := A.deeper (lamEnv scope qual y f c c' s.heap.objs.size)
  N := [x, y]
  s₀ := s
  H₀ := less H c
  env := lamEnv scope qual y f c c' s.heap.objs.size
  outer := outer
  stack := lamEnv scope qual y f c c' s.heap.objs.size :: outer
  ex := []
  fn := fun _ => false
  calm := true
  pn := []
  xe := fun _ _ => False
theorem lam_of {P : Program} {w : World} {K : PySem.W.Frag} {mg : Str → Option Value} {base : Heap} {k : Nat} {f c c' d : Addr} {x y name qual : Str} {params : Arguments} {body : Expr} {scope : Scope} {pm ctv : Value} {sp : Sp} {oz : Obj} (oz2 : oz.data = .cell (some (.ref d)))
    (hk : scope.kind = .function) (hco : scope.isCoroutine = false) (hgen : scope.isGenerator = false) (hnc : ∀ z ∈ scope.names, z.2 ≠ .cell) (hx : scope.names.lookup x = some .local) (hy : scope.names.lookup y = some .free)
    (hfr : ∀ z, scope.names.lookup z = some .free → z = y) (hxy : x ≠ y)
    (tr : ∀ vs H Q E, sp vs H Q E → vs.length = 1 ∧ H f = some (.ext (FnAt f (PySem.W.kla_obj name qual params body scope [(y, c)] pm c' ctv))) ∧ H c' = some (.ext (CdAt c' qual)) ∧ H c = some (.ext (FnAt c oz)))
    (hbody : ∀ (A : Around) (outer : List Env) (s : Shared) (H : Hp) (v : V) (Q : VK) (E : XK), Room k (A.deeper (lamEnv scope qual y f c c' s.heap.objs.size)) → sp [v] H Q E →
      ∃ t, PE (cxL P w K mg base scope qual x y f c c' A outer s H) body t ∧ t [some v, some (.ref d)] (less H c) fun v' H' => Q v' (back H' H c)) :
    FnOk P w K mg base CX0 (k + 1) f (PySem.W.kla_fn name qual params body scope [(y, c)] pm (.ref c') ctv) [x] sp := by
  refine ⟨fun vs H Q E h => (tr vs H Q E h).1, fun A outer s H args us vs Q E hr e0 hb r hsp => ?_⟩
  obtain ⟨hl, hf, hc', hc⟩ := tr _ _ _ _ hsp
  obtain ⟨v, rfl⟩ : ∃ v, vs = [v] := by
    match vs, hl with
    | [v], _ => exact ⟨v, rfl⟩
  obtain ⟨u, rfl, ru⟩ := vals1 r
  have KX : K.In s.heap := e0.mod.kin.keeps fun b o e => (e0.bs b o e).1
  have lim : s.heap.NoLimit := e0.mod.nolimit.keeps fun b o e => (e0.bs b o e).1
  obtain ⟨of_, _, _⟩ := e0.hok f _ hf
  obtain ⟨⟨oc, vs', t', oc1, oc2, oc3⟩, _, _⟩ := e0.hok c' _ hc'
  obtain ⟨oz1, _, _⟩ := e0.hok c _ hc
  have ncf : c ∉ frs outer := fun z => by have := e0.frf c z; rw [hc] at this; cases this
  refine PySem.W.kla_callFunE hr.depth of_ rfl hco hgen rfl ⟨c', oc, vs', t', rfl, oc1, oc2, oc3⟩ (hb _ _ _ _ ?_)
  refine wpAny_newFunctionEnv hnc (fun z hz => ?_) (fun h' ns sb => ?_) hk
  · have e : z = (x, u) := by simpa using hz
    rw [e]; exact hx
  have kp : ∀ b o, s.heap.get? b = some o → h'.get? b = some o := fun b o e => (sb.2 b (Nat.ne_of_lt (Heap.lt_size e))).trans (Heap.get?_push_of_some _ e)
  refine ⟨lim.keeps kp, PySem.W.kla_codeExpr ?_⟩
  obtain ⟨t, ht, hq⟩ := hbody A outer s H v Q E (hr.deeper _) hsp
  have kx : (lamEnv scope qual y f c c' s.heap.objs.size).kindOf x = some .local := hx
  have ky : (lamEnv scope qual y f c c' s.heap.objs.size).kindOf y = some .free := hy
  have nol : ∀ z, z ∉ ([] : List Addr) := fun z hz => by cases hz
  have cl : ∀ z c0, ([(y, c)] : List (Str × Addr)).lookup z = some c0 → z = y ∧ c0 = c := fun z c0 h => by
    by_cases e : z = y
    · subst e; simp at h; exact ⟨rfl, h.symm⟩
    · have e2 : (z == y) = false := by simpa using e
      simp [List.lookup_cons, e2] at h
  have hokL : HOk P w (less H c) h' := fun b o e => by
    obtain ⟨nb, e1⟩ := less_of e
    refine (e0.hok b o e1).stay (fun c0 v0 _ q0 => kp c0 v0 q0) (fun dx q0 => ?_) fun b0 xs q0 => ?_
    · rw [less_ne (fun z => by rw [z, hc] at q0; cases q0)]; exact q0
    · rw [less_ne (fun z => by rw [z, hc] at q0; cases q0)]; exact q0
  have I : Inv (cxL P w K mg base scope qual x y f c c' A outer s H) [] [some v, some (.ref d)] (less H c) { s with heap := h', toks := s.toks + 1 } := by
    refine ⟨⟨e0.mod, hk, rfl, rfl, Nat.le_refl _, fun z z2 c0 h1 h2 => ?_, fun z hz => ?_, fun z c0 h => ?_, fun _ => hr.hd, Around.frames_deeper e0.frames, .inr ⟨rfl, rfl⟩, fun b z => absurd z (nol b), fun b o e => ⟨(e0.bs b o e).1, ?_⟩, e0.bsz, fun b _ _ => nol b, fun b z => absurd z (nol b), e0.funs, fun b hb' => ?_⟩,
      rfl, e0.bare, Un.kept kp, ⟨_, ns, fun i z v0 h1 h2 h3 => ?_⟩, fun z c0 h => ?_, ?_, fun z c0 h => ?_, fun p hp => absurd hp (by simp), hokL, rfl⟩
    · rw [(cl _ _ h1).1, (cl _ _ h2).1]
    · refine ⟨c, ?_⟩
      have e : z = y := by
        rcases hz with hz | hz
        · exact absurd rfl (hnc _ (PySem.mem_of_lookup (show scope.names.lookup z = some .cell from hz)))
        · exact hfr z hz
      rw [e]; show ([(y, c)] : List (Str × Addr)).lookup y = some c
      simp
    · cases h
    · show less H c b = none
      by_cases e1 : b = c
      · rw [e1]; exact less_eq
      · rw [less_ne e1]; exact (e0.bs b o e).2
    · show less H c b = none
      by_cases e1 : b = c
      · rw [e1]; exact less_eq
      · rw [less_ne e1]; exact e0.frf b hb'
    · match i, h1, h2 with
      | 0, h1, h2 =>
        cases h1; cases h2
        exact ⟨u, ru, .inl ⟨kx, by simp⟩⟩
      | 1, h1, h2 =>
        cases h1; cases h2
        exact ⟨.ref d, rfl, .inr ⟨.inr ky, c, (by show ([(y, c)] : List (Str × Addr)).lookup y = some c; simp), oz, kp _ _ oz1, oz2⟩⟩
      | i + 2, h1, h2 => cases h1
    · rw [(cl _ _ h).2]; exact ⟨_, oz, kp _ _ oz1, oz2⟩
    · by_cases e1 : s.heap.objs.size = c
      · show less H c s.heap.objs.size = none
        rw [e1]; exact less_eq
      · show less H c s.heap.objs.size = none
        rw [less_ne e1]; exact e0.hok.fresh (Nat.le_refl _)
    · rw [(cl _ _ h).2]; exact less_eq
  refine wpAny_mono (ht [] _ _ _ _ I hq) (fun u' s' hs => ?_) fun e' s' z => z.elim
  obtain ⟨v', H4, J, rv, q⟩ := hs
  have j := J.base
  have H4c : H4 c = none := J.freeC y c (by show ([(y, c)] : List (Str × Addr)).lookup y = some c; simp)
  refine ⟨v', back H4 H c, J.os, J.bare, ⟨fun b o e n hb1 hx1 => ?_, fun b o e n hb1 hx1 => ?_, fun b o e n hx1 => ?_, fun b o e hx1 => j.there b o e hx1, fun b xs e => ?_, fun b o u0 e => ?_, fun b ps e => ?_⟩, fun b o e => ?_, rv, q⟩
  · have n1 : b ≠ c := fun z => by rw [z, hc] at n; cases n
    exact j.keep b o e (by rw [show (cxL P w K mg base scope qual x y f c c' A outer s H).H₀ = less H c from rfl, less_ne n1]; exact n) hb1 hx1
  · have n1 : b ≠ c := fun z => by rw [z, hc] at n; cases n
    exact j.slot b o e (by rw [show (cxL P w K mg base scope qual x y f c c' A outer s H).H₀ = less H c from rfl, less_ne n1]; exact n) hb1 hx1
  · have n1 : b ≠ c := fun z => by rw [z, hc] at n; cases n
    rw [back_ne n1]
    exact j.free b o e (by rw [show (cxL P w K mg base scope qual x y f c c' A outer s H).H₀ = less H c from rfl, less_ne n1]; exact n) hx1
  · have n1 : b ≠ c := fun z => by rw [z, hc] at e; cases e
    rw [back_ne n1]
    exact j.tups b xs (by rw [show (cxL P w K mg base scope qual x y f c c' A outer s H).H₀ = less H c from rfl, less_ne n1]; exact e)
  · have n1 : b ≠ c := fun z => by rw [z, hc] at e; cases e
    rw [back_ne n1]
    exact j.frzs b o u0 (by rw [show (cxL P w K mg base scope qual x y f c c' A outer s H).H₀ = less H c from rfl, less_ne n1]; exact e)
  · have n1 : b ≠ c := fun z => by rw [z, hc] at e; cases e
    rw [back_ne n1]
    exact j.tbls b ps (by rw [show (cxL P w K mg base scope qual x y f c c' A outer s H).H₀ = less H c from rfl, less_ne n1]; exact e)
  · by_cases n1 : b = c
    · rw [n1, back_eq, hc] at e
      cases e
      rw [n1]
      have k1 : s'.heap.get? c = some oz := j.keep c oz oz1 (show less H c c = none from less_eq) ncf (nol c)
      exact ⟨k1, ⟨oz, k1⟩, fun h1 h2 e1 k2 => k2 _ e1⟩
    · rw [back_ne n1] at e
      refine (J.hok b o e).stay (fun _ _ _ q0 => q0) (fun dx q0 => ?_) fun b0 xs q0 => ?_
      · rw [back_ne (fun z => by rw [z, H4c] at q0; cases q0)]; exact q0
      · rw [back_ne (fun z => by rw [z, H4c] at q0; cases q0)]; exact q0
end L2
set_option Elab.async false
set_option linter.all false
set_option maxRecDepth 100000
set_option maxHeartbeats 4000000
namespace L2
open PySem PySem.Spec PyProof.Rows
section
variable {X : Cx}
def tCallV (P : Program) (w : World) (K : PySem.W.Frag) (mg : Str → Option Value) (base : Heap) (k i : Nat) (ps : List Str) (t : TA) : TE := fun σ H Q => ∃ (f : Addr) (o : Obj) (fd : FuncData), σ[i]? = some (some (.ref f)) ∧ o.data = .func fd ∧ t σ H fun vs H1 => ∃ (sp : Sp),
  H1 f = some (.ext (FnAt f o)) ∧ FnOk P w K mg base CX0 k f fd ps sp ∧ Binds K fd ps [] ∧ sp vs H1 Q E0
theorem pe_callV {k i : Nat} {x : Str} {p pos : Pos} {e : Expr} {es : List Expr} {ps : List Str} {t : TA} (hr : Room k X.A) (hN : X.N[i]? = some x) (hv : Vis X.env.scope x) (hp : Passes CX0 X E0) (ha : PA X (e :: es) t)
    (hd : (x == ("__debug__" : Str)) = false := by decide) (hcd : (x == ("__classdict__" : Str)) = false := by decide) (he : starEach (e :: es) X.env = (false, eval e X.env) :: starEach es X.env := by rfl) :
    PE X (.Call (.Name x p) (e :: es) [] pos) (tCallV X.prog X.w X.K X.mg X.base k i ps t) := ⟨fun pins s σ H Q I h => by
  obtain ⟨f, o, fd, ef, hdat, h⟩ := h
  refine wpAny_Call_Name_kw (thn ((pe_var hN hv hd hcd : PE X (.Name x p) (tVar i)) pins s σ H (fun v H0 => v = .ref f ∧ t σ H0 fun vs H1 => ∃ (sp : Sp), H1 f = some (.ext (FnAt f o)) ∧ FnOk X.prog X.w X.K X.mg X.base CX0 k f fd ps sp ∧ Binds X.K fd ps [] ∧ sp vs H1 Q E0) I ⟨.ref f, ef, rfl, h⟩) fun u s0 ⟨v, H0, I0, r0, e0, q0⟩ => ?_)
  subst e0
  cases r0
  refine PyProof.Rows.callWith_def hdat (thn (ha pos pins s0 σ H0 _ I0 q0) fun us s1 ⟨vs, H1, I1, r, sp, hf, F, hb, q⟩ => ⟨(I1.hok f _ hf).1, ?_⟩) he
  exact run_fn (us := us) (vs := vs) (dvs := []) (ds := []) (E := E0) F hr hb .nil hp I1 r (by rw [List.append_nil]; exact q)⟩
def tCallC (c : Addr) (i : Nat) (sp : Sp) (t : TA) : TE := fun σ H Q => t σ H fun vs H1 => ∃ d, σ[i]? = some (some (.ref d)) ∧ (H1 c = none → ∀ oz : Obj, oz.data = .cell (some (.ref d)) →
  sp vs (upd H1 c (.ext (FnAt c oz))) (fun v H' => H' c = some (.ext (FnAt c oz)) ∧ Q v (less H' c)) E0)
theorem pe_callC {k i : Nat} {c f : Addr} {fd : FuncData} {x y : Str} {p pos : Pos} {e : Expr} {es : List Expr} {ps : List Str} {sp : Sp} {t : TA} (F : FnOk X.prog X.w X.K X.mg X.base CX0 k f fd ps sp) (hr : Room k X.A) (hg : Gl X x) (hm : X.mg x = some (.ref f)) (hk : PySem.W.keepIn X.K (.ref f) = true)
    (hb : Binds X.K fd ps []) (hN : X.N[i]? = some y) (hy : X.env.scope.names.lookup y = some .cell) (hc : X.env.cells.lookup y = some c) (hfn : X.fn y = true) (ha : PA X (e :: es) t)
    (hdb : (x == ("__debug__" : Str)) = false := by decide) (he : starEach (e :: es) X.env = (false, eval e X.env) :: starEach es X.env := by rfl) (hpl : (backTo pos (starEach es X.env)).any (·.1) = false := by rfl) :
    PE X (.Call (.Name x p) (e :: es) [] pos) (tCallC c i sp t) := ⟨fun pins s σ H Q I h => by
  refine wpAny_Call_Name_kw (ld_glob I hg hm ?_ hdb)
  refine PySem.W.callWith_K (h₀ := X.base) I.ok.mod.kin hk (thn (ha pos pins s σ H _ I h) fun us s1 ⟨vs, H1, I1, r, d, ed, q⟩ => ⟨I1.kIn, ?_⟩) he hpl
  obtain ⟨m, hn, hl⟩ := id I1.loc
  obtain ⟨u, ru, lu⟩ := hl i y (.ref d) hN ed (.inr (.inl hy))
  cases ru
  obtain ⟨oz, ho, hd⟩ : s1.heap.IsCell c (some (.ref d)) := by
    rcases lu with ⟨z, _⟩ | ⟨_, c0, ec, hz⟩
    · have z' : X.env.scope.names.lookup y = some .local := z
      rw [hy] at z'; cases z'
    · rw [hc] at ec; cases ec; exact hz
  have nc : H1 c = none := I1.freeC y c hc
  have q := q nc oz hd
  have low : X.s₀.heap.objs.size ≤ c := I1.ok.cab y c hfn hc
  have ncf : c ∉ frs X.stack := fun z => by
    rcases List.mem_cons.mp (I1.stkSub c z) with z | z
    · exact I1.cne y c hc z
    · obtain ⟨_, o, ho', _⟩ := I1.ok.funs.mem z
      exact absurd (Nat.lt_of_lt_of_le (Heap.lt_size ho') low) (Nat.lt_irrefl _)
  have E1 := I1.env0
  have hok2 : HOk X.prog X.w (upd H1 c (.ext (FnAt c oz))) s1.heap := fun b o e => by
    by_cases n : b = c
    · rw [n, upd_same] at e; cases e
      rw [n]; exact ⟨ho, ⟨oz, ho⟩, fun h1 h2 e1 k1 => k1 _ e1⟩
    · rw [upd_ne n] at e
      refine (I1.hok b o e).stay (fun _ _ _ q0 => q0) (fun dx q0 => ?_) fun b0 xs q0 => ?_
      · rw [upd_ne (ne_of_none q0 nc)]; exact q0
      · rw [upd_ne (ne_of_none q0 nc)]; exact q0
  have E2 : Env0 X.prog X.w X.K X.mg X.base X.A X.stack s1 (upd H1 c (.ext (FnAt c oz))) := ⟨E1.frames, E1.mod, fun b o e => ⟨(E1.bs b o e).1, by
      rw [upd_ne (Nat.ne_of_lt (Nat.lt_of_lt_of_le (Heap.lt_size e) (Nat.le_trans I1.ok.bsz low)))]; exact (E1.bs b o e).2⟩, E1.bsz, E1.funs, fun b hb' => by
      rw [upd_ne (fun (z : b = c) => ncf (by rw [← z]; exact hb'))]; exact E1.frf b hb', hok2, E1.bare⟩
  have hl2 : us.length = ps.length := by rw [← r.length]; exact F.len _ _ _ _ q
  refine wpAny_call (codeAny_mono (F.run X.A X.stack s1 _ ⟨us, []⟩ us vs _ E0 hr E2 (by have := hb s1 us I1.kIn (by rw [List.append_nil]; exact hl2); rw [List.append_nil] at this; exact this) r q) fun rr s' hq => ?_)
  cases rr with
  | error e => exact hq.elim
  | ok fl =>
    cases fl with
    | next => exact False.elim hq
    | brk => exact False.elim hq
    | cont => exact False.elim hq
    | ret u' =>
      obtain ⟨v, H', os, bare, un, hok', rv, hcc, qq⟩ := hq
      have k1 : s'.heap.get? c = some oz := (hok' c _ hcc).1
      refine ⟨v, less H' c, I1.call' (ch := []) os ⟨fun b o e n hb1 hx1 => ?_, fun b o e n hb1 hx1 => ?_, fun b o e n hx1 => ?_, fun b o e hx1 => un.there b o e hx1, fun b xs e => ?_, fun b o u0 e => ?_, fun b ps0 e => ?_⟩ (fun b o e => ?_) bare (fun b z => absurd z (by simp)), rv, qq⟩
      · by_cases nb : b = c
        · rw [nb] at e ⊢; rw [ho] at e; rw [← e]; exact k1
        · exact un.keep b o e (by rw [upd_ne nb]; exact n) hb1 hx1
      · exact un.slot b o e (by rw [upd_ne (fun (z : b = c) => ncf (by rw [← z]; exact hb1))]; exact n) hb1 hx1
      · by_cases nb : b = c
        · rw [nb]; exact less_eq
        · rw [less_ne nb]; exact un.free b o e (by rw [upd_ne nb]; exact n) hx1
      · have nb := ne_of_none e nc
        rw [less_ne nb]; exact un.tups b xs (by rw [upd_ne nb]; exact e)
      · have nb := ne_of_none e nc
        rw [less_ne nb]; exact un.frzs b o u0 (by rw [upd_ne nb]; exact e)
      · have nb := ne_of_none e nc
        rw [less_ne nb]; exact un.tbls b ps0 (by rw [upd_ne nb]; exact e)
      · obtain ⟨nb, e1⟩ := less_of e
        refine (hok' b o e1).stay (fun _ _ _ q0 => q0) (fun dx q0 => ?_) fun b0 xs q0 => ?_
        · rw [less_ne (fun z => by rw [z, hcc] at q0; cases q0)]; exact q0
        · rw [less_ne (fun z => by rw [z, hcc] at q0; cases q0)]; exact q0⟩
open PySem.W in
def TbOk (T : Addr) (pos : Pos) (q : Str) (H : Hp) : Prop := ∃ ps, H T = some (.tbl ps) ∧ (ps = #[] ∨ ∃ c', ps = #[rawInt pos.line, rawInt pos.col, .ref c'] ∧ H c' = some (.ext (CdAt c' q)))
open PySem.W in
def tLam (T c : Addr) (pos : Pos) (q y : Str) (params : Arguments) (body : Expr) (scope : Scope) : TE := fun _ H Q => TbOk T pos q H ∧ ∀ f c' pm ctv H2, H f = none → But T H H2 → TbOk T pos q H2 →
  H2 f = some (.ext (FnAt f (kla_obj "<lambda>" q params body scope [(y, c)] pm c' ctv))) → H2 c' = some (.ext (CdAt c' q)) → Q (.ref f) H2
open PySem.W in
theorem pe_lam {T c c0 : Addr} {y : Str} {params : Arguments} {body : Expr} {scope : Scope} {pos : Pos} (hdef : defaultsOf params X.env = ([], [])) (hcl : closureFor scope X.env = pure [(y, c)]) (hcode : X.env.code = .ref c0) (hC : codeHdIn X.K c0 T = true)
    (hB : X.base.BuiltinsAt X.mg T) (ham : ∀ c', codeAmong pos [rawInt pos.line, rawInt pos.col, .ref c'] = some (.ref c')) (htr : ∀ c', TriplesOk [rawInt pos.line, rawInt pos.col, .ref c']) :
    PE X (.Lambda params body scope pos) (tLam T c pos (X.env.qual ++ "<lambda>") y params body scope) := ⟨fun pins s σ H Q I h => by
  obtain ⟨⟨ps, hT, hps⟩, q⟩ := h
  have hP : s.heap.get? T = some (tabObj ps) := I.hok T _ hT
  have hg : s.heap.Ns mainGlobals X.mg := I.mod.glob.keeps I.bk
  have C : CodeHd s.heap c0 T := codeHd_of_K I.kIn hC
  have hgT : mainGlobals ≠ T := fun z => by
    obtain ⟨o, es, ep, e, d, _⟩ := hg
    rw [z, hP] at e; cases e; cases d
  have hb : s.heap.BuiltinsAt X.mg T := by
    obtain ⟨bm, o, a1, a2, a3, a4, a5, a6⟩ := hB
    exact ⟨bm, o, a1, a2, a3, a4, I.bk _ _ a5, a6⟩
  refine kla_eval hdef ?_
  rcases hps with rfl | ⟨c', rfl, hc'⟩
  · refine kla_makeFunction hcl I.ok.glob hg hcode C hP trivial rfl hgT hb fun c' ctv h' tk hx l1 l2 cr ht' => ?_
    obtain ⟨c2, oc, vs', t', ec2, oc1, oc2, oc3⟩ := cr
    cases ec2
    have sz : s.heap.objs.size ≤ h'.objs.size := Nat.le_trans l1 (Nat.le_of_lt l2)
    have lT : T < s.heap.objs.size := Heap.lt_size hP
    have kp : ∀ b o, b ≠ T → s.heap.get? b = some o → (h'.push (kla_obj "<lambda>" (X.env.qual ++ "<lambda>") params body scope [(y, c)] ((X.mg "__name__").getD .none) c' ctv)).get? b = some o := fun b o n e => Heap.get?_push_of_some _ (hx b o n e)
    have nTc : T ≠ c' := Nat.ne_of_lt (Nat.lt_of_lt_of_le lT l1)
    have nTf : T ≠ h'.objs.size := Nat.ne_of_lt (Nat.lt_of_lt_of_le lT sz)
    have ncf : c' ≠ h'.objs.size := Nat.ne_of_lt l2
    have fr : ∀ b, s.heap.objs.size ≤ b → H b = none := fun b hb' => I.hok.fresh hb'
    have lo : ∀ {b : Addr} {o : HO}, H b = some o → b ≠ c' ∧ b ≠ h'.objs.size := fun e => ⟨Nat.ne_of_lt (Nat.lt_of_lt_of_le (I.hok.lt e) l1), Nat.ne_of_lt (Nat.lt_of_lt_of_le (I.hok.lt e) sz)⟩
    have kT : (h'.push (kla_obj "<lambda>" (X.env.qual ++ "<lambda>") params body scope [(y, c)] ((X.mg "__name__").getD .none) c' ctv)).get? T = some (tabObj (#[] ++ #[rawInt pos.line, rawInt pos.col, .ref c'])) := Heap.get?_push_of_some _ ht'
    have kc : (h'.push (kla_obj "<lambda>" (X.env.qual ++ "<lambda>") params body scope [(y, c)] ((X.mg "__name__").getD .none) c' ctv)).get? c' = some oc := Heap.get?_push_of_some _ oc1
    have kf : (h'.push (kla_obj "<lambda>" (X.env.qual ++ "<lambda>") params body scope [(y, c)] ((X.mg "__name__").getD .none) c' ctv)).get? h'.objs.size = some (kla_obj "<lambda>" (X.env.qual ++ "<lambda>") params body scope [(y, c)] ((X.mg "__name__").getD .none) c' ctv) := Heap.get?_push_size _ rfl
    generalize hobj : kla_obj "<lambda>" (X.env.qual ++ "<lambda>") params body scope [(y, c)] ((X.mg "__name__").getD .none) c' ctv = obj at kp kT kc kf ⊢
    generalize hN : h'.push obj = hN' at kp kT kc kf ⊢
    have eT : upd (upd (upd H T (.tbl (#[] ++ #[rawInt pos.line, rawInt pos.col, .ref c']))) c' (.ext (CdAt c' (X.env.qual ++ "<lambda>")))) h'.objs.size (.ext (FnAt h'.objs.size obj)) T = some (.tbl (#[] ++ #[rawInt pos.line, rawInt pos.col, .ref c'])) := by rw [upd_ne nTf, upd_ne nTc, upd_same]
    have ec : upd (upd (upd H T (.tbl (#[] ++ #[rawInt pos.line, rawInt pos.col, .ref c']))) c' (.ext (CdAt c' (X.env.qual ++ "<lambda>")))) h'.objs.size (.ext (FnAt h'.objs.size obj)) c' = some (.ext (CdAt c' (X.env.qual ++ "<lambda>"))) := by rw [upd_ne ncf, upd_same]
    have ef : upd (upd (upd H T (.tbl (#[] ++ #[rawInt pos.line, rawInt pos.col, .ref c']))) c' (.ext (CdAt c' (X.env.qual ++ "<lambda>")))) h'.objs.size (.ext (FnAt h'.objs.size obj)) h'.objs.size = some (.ext (FnAt h'.objs.size obj)) := upd_same
    have eo : ∀ b, b ≠ T → b ≠ c' → b ≠ h'.objs.size → upd (upd (upd H T (.tbl (#[] ++ #[rawInt pos.line, rawInt pos.col, .ref c']))) c' (.ext (CdAt c' (X.env.qual ++ "<lambda>")))) h'.objs.size (.ext (FnAt h'.objs.size obj)) b = H b := fun b n1 n2 n3 => by rw [upd_ne n3, upd_ne n2, upd_ne n1]
    generalize upd (upd (upd H T (.tbl (#[] ++ #[rawInt pos.line, rawInt pos.col, .ref c']))) c' (.ext (CdAt c' (X.env.qual ++ "<lambda>")))) h'.objs.size (.ext (FnAt h'.objs.size obj)) = H2 at eT ec ef eo
    have un : Un (frs X.stack) [] H H2 s.heap hN' := by
      have nT : ∀ {b : Addr}, H b = none → b ≠ T := fun n z => by rw [z, hT] at n; cases n
      refine ⟨fun b o e n _ _ => kp b o (nT n) e, fun b o e n _ _ => ⟨o.slots, kp b o (nT n) e⟩, fun b o e n _ => ?_, fun b o e _ => ?_, fun b xs e => ?_, fun b o u0 e => ?_, fun b ps0 e => ?_⟩
      · rw [eo b (nT n) (Nat.ne_of_lt (Nat.lt_of_lt_of_le (Heap.lt_size e) l1)) (Nat.ne_of_lt (Nat.lt_of_lt_of_le (Heap.lt_size e) sz))]; exact n
      · by_cases z : b = T
        · rw [z]; exact ⟨_, kT⟩
        · exact ⟨o, kp b o z e⟩
      · rw [eo b (fun z => by rw [z, hT] at e; cases e) (lo e).1 (lo e).2]; exact e
      · rw [eo b (fun z => by rw [z, hT] at e; cases e) (lo e).1 (lo e).2]; exact e
      · by_cases z : b = T
        · rw [z, hT] at e; cases e
          rw [z]; exact ⟨_, eT⟩
        · refine ⟨#[], ?_⟩
          rw [eo b z (lo e).1 (lo e).2, e]; simp
    have hok : HOk X.prog X.w H2 hN' := fun b o e => by
      by_cases z1 : b = T
      · rw [z1, eT] at e; cases e; rw [z1]; exact kT
      by_cases z2 : b = c'
      · rw [z2, ec] at e; cases e; rw [z2]
        exact ⟨⟨oc, vs', t', kc, oc2, oc3⟩, ⟨oc, kc⟩, fun h1 h2 ⟨o1, v1, t1, e1, r1⟩ k1 => ⟨o1, v1, t1, k1 _ e1, r1⟩⟩
      by_cases z3 : b = h'.objs.size
      · rw [z3, ef] at e; cases e; rw [z3]
        exact ⟨kf, ⟨_, kf⟩, fun h1 h2 e1 k1 => k1 _ e1⟩
      rw [eo b z1 z2 z3] at e
      refine (I.hok b o e).stay (fun b0 u0 h0 q0 => kp b0 u0 (fun z => ?_) q0) (fun dx q0 => ?_) fun b0 xs q0 => ?_
      · rcases h0 with h0 | h0
        · exact z1 (h0.symm.trans z)
        · rw [z, hT] at h0; cases h0
      · rw [eo dx (fun z => by rw [z, hT] at q0; cases q0) (lo q0).1 (lo q0).2]; exact q0
      · rw [eo b0 (fun z => by rw [z, hT] at q0; cases q0) (lo q0).1 (lo q0).2]; exact q0
    refine ⟨.ref h'.objs.size, H2, I.call (ch := []) (g' := s.gens) (d' := s.drawn) (t' := tk) un hok I.bare (fun b z => absurd z (by simp)), rfl, q h'.objs.size c' _ ctv H2 (fr _ sz) (fun b o e n => ?_) ⟨_, eT, .inr ⟨c', rfl, ec⟩⟩ (hobj ▸ ef) ec⟩
    rw [eo b n (lo e).1 (lo e).2]; exact e
  · refine kla_makeFunctionHit hcl I.ok.glob hg hcode C hP (htr c') (ham c') hb fun ctv h' tk kk sz => ?_
    have I1 : Inv X pins σ H { s with heap := h', toks := tk } := I.kept (t' := tk) kk
    have fr : H h'.objs.size = none := I.hok.fresh sz
    have nc : c' ≠ h'.objs.size := Nat.ne_of_lt (Nat.lt_of_lt_of_le (I.hok.lt hc') sz)
    have nT : T ≠ h'.objs.size := Nat.ne_of_lt (Nat.lt_of_lt_of_le (I.hok.lt hT) sz)
    refine ⟨.ref h'.objs.size, _, I1.laid (t' := tk) (o := .ext (FnAt h'.objs.size (kla_obj "<lambda>" (X.env.qual ++ "<lambda>") params body scope [(y, c)] ((X.mg "__name__").getD .none) c' ctv))) (fun b o e => Heap.get?_push_of_some _ e) (Nat.le_refl _) ⟨Heap.get?_push_size _ rfl, ⟨_, Heap.get?_push_size _ rfl⟩, fun h1 h2 e1 k1 => k1 _ e1⟩, rfl, q h'.objs.size c' _ ctv _ fr (Same.but (upd_sameNew fr)) ⟨_, (upd_ne nT).trans hT, .inr ⟨c', rfl, (upd_ne nc).trans hc'⟩⟩ upd_same ((upd_ne nc).trans hc')⟩⟩
end
end L2
set_option Elab.async false
set_option linter.all false
set_option maxRecDepth 100000
set_option maxHeartbeats 4000000
namespace L2
open PySem PySem.Spec PyProof.Rows
structure FunC (K : PySem.W.Frag) (x qual : Str) (st : Stmt) (f : Addr) (fd : FuncData) (c0 : Addr) : Prop where
  ex : ∃ (oc : Value) (od : Option Addr) (kV doc pm : Value) (an : Option Addr) (ct : Value) (osl : Array (Option Value)),
    fd = PySem.W.fnOf x qual (defArgs st) (defBody st) (defScope st) .none kV doc pm an (.ref c0) ct ∧ K.lookup f = some ⟨oc, od, .func fd, osl⟩ ∧ PySem.W.codeIn K (.ref c0) qual = true
  kp : PySem.W.keepIn K (.ref f) = true
theorem FunC.ok {P : Program} {w : World} {K : PySem.W.Frag} {mg : Str → Option Value} {base : Heap} {x qual : Str} {st : Stmt} {f c0 : Addr} {fd : FuncData} {N ps : List Str} {k : Nat} {sp : Sp} (F : FunC K x qual st f fd c0) (S : FnScope N ps (defScope st)) (len : ∀ vs H Q E, sp vs H Q E → vs.length = ps.length)
    (hbody : ∀ (A : Around) (outer : List Env) (s : Shared) (H : Hp) (vs : List V) (Q : VK) (E : XK), Room k (A.deeper (envOfC qual (defScope st) s.heap.objs.size f (.ref c0))) → sp vs H Q E →
      ∃ t, PSs (cxOf CX0 P w K mg base N qual (defScope st) f (.ref c0) A outer s H E).nox (defBody st) t ∧ t { nx := fun _ H' => Q .non H', rt := Q } (start N vs) H) : FnOk P w K mg base CX0 (k + 1) f fd ps sp := by
  obtain ⟨oc, od, kV, doc, pm, an, ct, osl, rfl, lk, hcd⟩ := F.ex
  refine fn_of lk hcd S len fun A outer s H vs Q E hr hsp => ?_
  obtain ⟨t, h, q⟩ := hbody A outer s H vs Q E hr hsp
  exact ⟨t, h.nox, q⟩
end L2
set_option Elab.async false
set_option linter.all false
set_option maxRecDepth 100000
set_option maxHeartbeats 4000000
namespace L2
open PySem PySem.Spec PyProof.Rows
section
variable {X : Cx} {pins : List (Addr × Obj)} {σ : St} {H : Hp} {s : Shared} {scope : Scope} {N' own : List Str}
end
end L2
set_option Elab.async false
set_option linter.all false
set_option maxRecDepth 100000
set_option maxHeartbeats 4000000
namespace L2
open PySem PySem.Spec PyProof.Rows PySem.W
section
variable {n : Nat} {rk : Nat → Nat} {cmp : Nat → Nat → (Bool → Shared → Prop) → Shared → Prop} {s : Shared} {p : Array Nat}
end
end L2
set_option Elab.async false
set_option linter.all false
set_option maxRecDepth 100000
set_option maxHeartbeats 4000000
namespace L2
open PySem PySem.Spec PyProof.Rows PySem.W
end L2
set_option Elab.async false
set_option linter.all false
set_option maxRecDepth 100000
set_option maxHeartbeats 4000000
namespace L2
open PySem PySem.Spec PyProof.Rows PySem.W
section
variable {prog : Program} {w : World} {A : Around} {E : Value → Shared → Prop} {s : Shared}
end
end L2
set_option Elab.async false
set_option linter.all false
set_option maxRecDepth 100000
set_option maxHeartbeats 4000000
namespace L2
open PySem PySem.Spec PyProof.Rows PySem.W
section
variable {X : Cx} {pins : List (Addr × Obj)} {σ : St} {H H' : Hp} {s : Shared} {h' : Heap}
end
end L2
set_option Elab.async false
set_option linter.all false
set_option maxRecDepth 100000
set_option maxHeartbeats 4000000
namespace L2
open PySem PySem.Spec PyProof.Rows PySem.W
section
variable {X : Cx}
end
end L2
set_option Elab.async false
set_option linter.all false
set_option maxRecDepth 100000
set_option maxHeartbeats 4000000
namespace L2
open PySem PySem.Spec PyProof.Rows PySem.W
section
variable {prog : Program} {w : World} {A : Around} {E : Value → Shared → Prop} {s : Shared}
end
end L2
set_option Elab.async false
set_option linter.all false
set_option maxRecDepth 100000
set_option maxHeartbeats 4000000
namespace L2
open PySem PySem.Spec PyProof.Rows PySem.W
section
variable {prog : Program} {w : World} {A : Around} {E : Value → Shared → Prop} {s : Shared}
end
end L2
set_option Elab.async false
set_option linter.all false
set_option maxRecDepth 100000
set_option maxHeartbeats 4000000
namespace L2
open PySem PySem.Spec PyProof.Rows PySem.W
section
variable {X : Cx} {pins : List (Addr × Obj)} {σ : St} {H : Hp} {s : Shared}
end
end L2
set_option Elab.async false
set_option linter.all false
set_option maxRecDepth 100000
set_option maxHeartbeats 4000000
namespace L2
open PySem PySem.Spec PyProof.Rows PySem.W
section
variable {X : Cx} {es : List Expr} {t : TA} {pos : Pos}
end
end L2
set_option Elab.async false
set_option linter.all false
set_option maxRecDepth 100000
set_option maxHeartbeats 4000000
namespace L2
open PySem PySem.Spec PyProof.Rows PySem.W
end L2
set_option Elab.async false
set_option linter.all false
set_option maxRecDepth 100000
set_option maxHeartbeats 4000000
namespace L2
open PySem PySem.Spec PyProof.Rows PySem.W
end L2
set_option Elab.async false
set_option linter.all false
set_option maxRecDepth 100000
set_option maxHeartbeats 4000000
namespace L2
open PySem PySem.Spec PyProof.Rows PySem.W
end L2
set_option Elab.async false
set_option linter.all false
set_option maxRecDepth 100000
set_option maxHeartbeats 4000000
namespace L2
open PySem PySem.Spec PyProof.Rows
section
variable {prog : Program} {w : World} {A : Around} {h : Heap} {g : Array GenState} {d : Drawn} {t : Nat} {os : OsState}
variable {nm q : Str} {C N f : Addr} {bs bm : List Value} {hdct : Bool} {sn : List Str} {sub : List Value} {ab : Bool} {col : Option Bool} {dd : Option Addr} {k0 k1 k2 k3 k5 : Option Value}
end
end L2
set_option Elab.async false
set_option linter.all false
set_option maxRecDepth 100000
set_option maxHeartbeats 4000000
namespace L2
open PySem PySem.Spec PyProof.Rows
section
variable {prog : Program} {w : World} {A : Around} {E : Value → Shared → Prop} {h : Heap} {g : Array GenState} {d : Drawn} {t : Nat} {os : OsState}
variable {nm q : Str} {C N f e : Addr} {bs bm : List Value} {hdct : Bool} {sn : List Str} {sub : List Value} {ab : Bool} {col : Option Bool} {dd od : Option Addr} {k0 k1 k2 k3 k5 : Option Value} {t0 : Addr}
end
end L2
set_option Elab.async false
set_option linter.all false
set_option maxRecDepth 100000
set_option maxHeartbeats 4000000
namespace L2
open PySem PySem.Spec PyProof.Rows Builtin Builtin.ObjectAttr
section
variable {prog : Program} {w : World} {A : Around} {E : Value → Shared → Prop} {s : Shared} {K : PySem.W.Frag} {C HE e t0 : Addr} {cd : ClassData} {name : Str} {v : Value}
end
end L2
set_option Elab.async false
set_option linter.all false
set_option maxRecDepth 100000
set_option maxHeartbeats 4000000
namespace L2
open PySem PySem.Spec PyProof.Rows Builtin Builtin.ObjectAttr
section
variable {prog : Program} {w : World} {A : Around} {E : Value → Shared → Prop} {s : Shared} {K : PySem.W.Frag} {C HE e t0 dx : Addr} {cd : ClassData} {name : Str} {v : Value} {od : Obj}
end
end L2
set_option Elab.async false
set_option linter.all false
set_option maxRecDepth 100000
set_option maxHeartbeats 4000000
namespace L2
open PySem PySem.Spec PyProof.Rows Builtin Builtin.ObjectAttr
section
variable {prog : Program} {w : World} {A : Around} {E : Value → Shared → Prop} {s : Shared} {K : PySem.W.Frag} {C HE e : Addr} {cd : ClassData} {ox : Obj} {odo : Option Obj}
end
end L2
set_option Elab.async false
set_option linter.all false
set_option maxRecDepth 100000
set_option maxHeartbeats 4000000
namespace L2
open PySem PySem.Spec PyProof.Rows
abbrev TJ := St → Hp → Str → VK → Prop
section
variable {X : Cx} {e e2 : Expr} {es : List Expr} {te : TE} {t : TJ} {pos : Pos}
end
section
variable {X : Cx} {CX : CXT} {k : Nat} {f C HE : Addr} {fd : FuncData} {ps : List Str} {sp : Sp} {ds : List Value} {dvs : List V} {E : XK}
variable {x : Str} {p pos apos pos' : Pos} {e o value : Expr} {es : List Expr} {te ta tv : TE} {t : TA}
end
end L2
set_option Elab.async false
set_option linter.all false
set_option maxRecDepth 100000
set_option maxHeartbeats 4000000
namespace L2
open PySem PySem.Spec PyProof.Rows
theorem Inv.turnedL {X : Cx} {pins : List (Addr × Obj)} {σ : St} {H : Hp} {s : Shared} {h' : Heap} {t' : Nat} {fp : List Addr} (I : Inv X pins σ H s) (k : ∀ b o, b ∉ fp → s.heap.get? b = some o → h'.get? b = some o) (hf : ∀ b ∈ fp, FpOk X pins H b) :
    Inv X pins σ H { s with heap := h', toks := t' } := by
  have nit : ∀ b u, H b = some u → b ∉ fp := fun b u e z => by rw [(hf b z).1] at e; cases e
  refine I.step (g' := s.gens) (d' := s.drawn) (ch := fp) (fun b hb => ⟨(hf b hb).2.2.2.1, (hf b hb).2.1, (hf b hb).2.2.2.2.1, (hf b hb).2.2.2.2.2⟩) (fun b o _ _ hc e _ => k b o hc e) (fun b o _ _ hc e _ => ⟨o.slots, k b o hc e⟩) (fun _ _ _ _ n => n)
    (fun b o hc e => ⟨o, k b o hc e⟩) (fun _ _ e => e) (fun _ _ _ e => e) (fun b ps e => ⟨#[], by rw [e]; simp⟩) (fun m hm => ?_) (fun b u e => ?_) I.bare
  · obtain ⟨o, es, ep, ho, r⟩ := hm
    exact ⟨o, es, ep, k _ o (fun z => (hf _ z).2.1 rfl) ho, r⟩
  · refine (I.hok b u e).stay (fun c v hc q => k c v ?_ q) (fun _ q => q) fun _ _ q => q
    rcases hc with z | z
    · rw [z]; exact nit b u e
    · exact nit c _ z
def Ite (K : PySem.W.Frag) (a : Addr) : It :=
  ⟨fun i H => ∃ xs x, SqL K H a xs ∧ xs[i]? = some x, fun i H y H' => ∃ p x, H p = none ∧ (∀ xs, SqL K H a xs → xs[i]? = some x) ∧ y = .ref p ∧ H' = upd H p (.tup [.int i, x]), fun i H => ∃ xs, SqL K H a xs ∧ xs.length ≤ i⟩
theorem turn_enum {P : Program} {w : World} {K : PySem.W.Frag} {elts : List Expr} {k : Nat} {pos : Pos} (a e it : Addr) (ne : e ≠ it) :
    Turn P w K (.Tuple elts k pos) (Ite K a) [e, it] e (fun i h => (∃ old, IsEnum h e it i old) ∧ h.IsListIter it a i) where
  mem := by simp
  obj := fun i h st b hb => by
    obtain ⟨⟨old, he⟩, o, ho, c, d⟩ := st
    rcases List.mem_cons.mp hb with rfl | hb
    · exact ⟨_, he, fun v z => by cases z⟩
    · rw [List.mem_singleton.mp hb]; exact ⟨o, ho, fun v z => by rw [d] at z; cases z⟩
  keep := fun i h h' st kk => by
    obtain ⟨⟨old, he⟩, hit⟩ := st
    exact ⟨⟨old, kk e (by simp) _ he⟩, hit.at fun o e' => kk it (by simp) o e'⟩
  item := by
    intro X hP hw hK hc i pins s σ H E I hf st hg
    subst hP hw hK
    obtain ⟨xs, x, hq, hx⟩ := hg
    obtain ⟨its, rv, p, hz⟩ := I.list hq
    obtain ⟨u, hu, ru⟩ := rv.get hx
    obtain ⟨⟨old, he⟩, hit⟩ := st
    have le : e < s.heap.objs.size := Heap.lt_size he
    have li : it < s.heap.objs.size := by obtain ⟨o, ho, _⟩ := hit; exact Heap.lt_size ho
    refine wpAny_pyNext_enum_item he hit p.isList (x := u) (by simpa using hu) ne fun h' ho hit' hT hsz kk => ⟨_, rfl, ?_⟩
    refine wpAny_letOwnedTupleGo_enum (s := { s with heap := h', toks := s.toks + 1 }) ho fun h2 he2 hs2 => ?_
    have nT : s.heap.objs.size ≠ e := Nat.ne_of_gt le
    have hT2 : h2.get? s.heap.objs.size = some { cls := .type "tuple", data := .seq #[.int i s.toks, u] } := (hs2.2 _ nT).trans hT
    have I1 : Inv X pins σ H { s with heap := h2, toks := s.toks + 1 } := I.turnedL (fp := [e, it]) (fun b o hb q => (hs2.2 b fun z => hb (by simp [z])).trans (kk b o (fun z => hb (by simp [z])) (fun z => hb (by simp [z])) q)) hf
    have I2 : Inv X pins σ (upd H s.heap.objs.size (.tup [.int i, x])) { s with heap := h2, toks := s.toks + 1 } := by
      refine inv_track I1 I.fresh I.sz (Nat.ne_of_gt I.lt) (fun x' c e' z => ?_) (fun p' hp z => ?_) ⟨(by show 2 ≤ sizeLine; decide), [.int i s.toks, u], .cons ⟨_, rfl⟩ (.cons ru .nil), _, hT2, rfl, _, rfl, rfl⟩
      · obtain ⟨v, q⟩ := I.cell x' c e'
        have := q.lt; rw [z] at this; exact Nat.lt_irrefl _ this
      · have := Heap.lt_size (I.pin p' hp).1; rw [z] at this; exact Nat.lt_irrefl _ this
    refine ⟨.ref s.heap.objs.size, _, I2, rfl, ⟨_, x, I.fresh, fun ys hy => by rw [I.list_inj hy hq]; exact hx, rfl, rfl⟩, ⟨⟨u, by simpa using he2⟩, hit'.at fun o e' => (hs2.2 it ne.symm).trans e'⟩, fun b hb => ?_⟩
    have nb : b ≠ s.heap.objs.size := by
      rcases List.mem_cons.mp hb with rfl | hb
      · exact Nat.ne_of_lt le
      · rw [List.mem_singleton.mp hb]; exact Nat.ne_of_lt li
    rw [upd_ne nb]; exact (hf b hb).1
  done := by
    intro X hP hw hK hc i pins s σ H E I hf st hg
    subst hP hw hK
    obtain ⟨xs, hq, hx⟩ := hg
    obtain ⟨its, rv, p, hz⟩ := I.list hq
    obtain ⟨⟨old, he⟩, hit⟩ := st
    have hl := rv.length
    exact wpAny_pyNext_enum_end (I.ok.hd hc) he hit p.isList (by simp; omega) fun h' eb => ⟨rfl, I.turnedL (t' := s.toks) (fp := [e, it]) (fun b o hb q => eb b o (fun z => hb (by simp [z])) q) hf⟩
  self := fun _ _ _ _ _ st h => by
    obtain ⟨⟨old, he⟩, _⟩ := st
    exact wpAny_pyIter_enum he h
section
variable {X : Cx} {elts : List Expr} {k : Nat} {pos' : Pos}
def iEnum (K : PySem.W.Frag) (ta : TA) : TI := fun σ H R => ta σ H fun vs H1 => ∃ a, vs = [.ref a] ∧ (∃ xs, SqL K H1 a xs) ∧ R (Ite K a) H1
theorem pi_enum {a : Expr} {ta : TA} {p pos : Pos} (hg : Gl X "enumerate") (hm : X.mg "enumerate" = none) (ha : PA X [a] ta) (hs : starEach [a] X.env = [(false, eval a X.env)] := by rfl) : PI X (.Tuple elts k pos') (.Call (.Name "enumerate" p) [a] [] pos) (iEnum X.K ta) := ⟨fun pins s σ H R I h => by
  refine Call_ (ld_blt I hg hm boot_enumerate (PyProof.Rows.callWith_type1 (thn (ha pos pins s σ H _ I h) fun us s1 ⟨vs, H1, I1, r1, q1⟩ => ?_) hs rfl))
  obtain ⟨a, e, ⟨xs, hq⟩, q⟩ := q1
  subst e
  obtain ⟨u, rfl, ru⟩ := vals1 r1
  cases ru
  obtain ⟨its, rv, p, hz⟩ := I1.list hq
  refine call_enumerate_list p.isList fun h' hE hI hsz kk => ?_
  refine wpAny_pyIter_enum hE ?_
  refine ⟨s1.heap.objs.size + 1, [s1.heap.objs.size + 1, s1.heap.objs.size], _, _, H1, rfl, I1.kept (t' := s1.toks) kk, turn_enum a _ _ (Nat.succ_ne_self _), ⟨⟨.none, by simpa using hE⟩, hI⟩, fun b hb => ?_, q⟩
  rcases List.mem_cons.mp hb with rfl | hb
  · exact I1.fpOk (Nat.le_succ _) (I1.hok.fresh (Nat.le_succ _))
  · rw [List.mem_singleton.mp hb]; exact I1.fpOk (Nat.le_refl _) (I1.hok.fresh (Nat.le_refl _))⟩
end
end L2
set_option Elab.async false
set_option linter.all false
set_option maxRecDepth 100000
set_option maxHeartbeats 4000000
namespace L3
open PySem PySem.Spec PyProof.Rows L2
abbrev St := L2.St
structure Clo where
  f : Addr
  o : Obj
  q : Str
  c : Addr
  c' : Addr
  oz : Obj
  dd : Addr
  kvs : List (List Int × Int)
inductive PV where
  | non | bl (b : Bool) | int (i : Int) | str (x : Str) | ty (n : String)
  | tup (xs : List PV) | lst (xs : List PV) | dct (kvs : List (Key × PV)) | itb (kvs : List (List Int × Int)) | clo (D : Clo) | obj (n : Nat)
def tabK (kvs : List (List Int × Int)) : List (List Key × V) := kvs.map fun p => (p.1.map Sum.inl, V.int p.2)
inductive PO where
  | lst (xs : List PV) | dct (kvs : List (Key × PV)) | tbl (T : Addr) (pos : Pos) (q : Str) | itb (kvs : List (List Int × Int))
abbrev Sto := List PO
abbrev Env3 := List (Option PV)
abbrev K3 := PV → Sto → Prop
def KTup (K : PySem.W.Frag) (a : Addr) (vs : List V) : Prop := ∃ (o : Obj) (its : Array Value) (n : Nat), K.lookup a = some o ∧ o.cls = .type "tuple" ∧ o.dict = none ∧ o.data = .seq its n ∧ its.size ≤ sizeLine ∧ Vals vs its.toList
def KLst (K : PySem.W.Frag) (a : Addr) (vs : List V) : Prop := ∃ (o : Obj) (its : Array Value) (n : Nat), K.lookup a = some o ∧ o.cls = .type "list" ∧ o.dict = none ∧ o.data = .seq its n ∧ its.size ≤ sizeLine ∧ Vals vs its.toList ∧ o.slots = #[]
def TupAt (K : PySem.W.Frag) (A : List Addr) (H : Hp) (a : Addr) (vs : List V) : Prop := (Rd H a (.tup vs) ∧ a ∉ A) ∨ KTup K a vs
def LstAt (K : PySem.W.Frag) (A : List Addr) (H : Hp) (a : Addr) (vs : List V) : Prop := (Rd H a (.lst vs) ∧ a ∉ A) ∨ KLst K a vs
def DctAt (A : List Addr) (H : Hp) (a : Addr) (us : List (Key × V)) : Prop := H a = some (.dK us) ∧ a ∉ A
structure CloAt (A : List Addr) (H : Hp) (D : Clo) : Prop where
  fn : H D.f = some (.ext (FnAt D.f D.o)) ∧ D.f ∉ A
  cd : H D.c' = some (.ext (CdAt D.c' D.q)) ∧ D.c' ∉ A
  cl : H D.c = some (.ext (FnAt D.c D.oz)) ∧ D.c ∉ A
  dt : H D.dd = some (.dT (tabK D.kvs)) ∧ D.dd ∉ A
mutual
inductive RV (K : PySem.W.Frag) (A : List Addr) (H : Hp) : PV → V → Prop
  | non : RV K A H .non .non
  | bl (b : Bool) : RV K A H (.bl b) (.bl b)
  | int (i : Int) : RV K A H (.int i) (.int i)
  | str (x : Str) : RV K A H (.str x) (.str x)
  | ty (n : String) : RV K A H (.ty n) (.ty n)
  | tup {xs : List PV} {a : Addr} {vs : List V} : TupAt K A H a vs → vs.length ≤ sizeLine → RVs K A H xs vs → RV K A H (.tup xs) (.ref a)
  | lst {xs : List PV} {a : Addr} {vs : List V} : LstAt K A H a vs → vs.length ≤ sizeLine → RVs K A H xs vs → RV K A H (.lst xs) (.ref a)
  | dct {kvs : List (Key × PV)} {a : Addr} {us : List (Key × V)} : DctAt A H a us → us.length ≤ sizeLine → RKs K A H kvs us → RV K A H (.dct kvs) (.ref a)
  | itb {kvs : List (List Int × Int)} {a : Addr} : H a = some (.dT (tabK kvs)) → a ∉ A → RV K A H (.itb kvs) (.ref a)
  | clo {D : Clo} : CloAt A H D → RV K A H (.clo D) (.ref D.f)
inductive RVs (K : PySem.W.Frag) (A : List Addr) (H : Hp) : List PV → List V → Prop
  | nil : RVs K A H [] []
  | cons {x : PV} {v : V} {xs : List PV} {vs : List V} : RV K A H x v → RVs K A H xs vs → RVs K A H (x :: xs) (v :: vs)
inductive RKs (K : PySem.W.Frag) (A : List Addr) (H : Hp) : List (Key × PV) → List (Key × V) → Prop
  | nil : RKs K A H [] []
  | cons {k : Key} {x : PV} {v : V} {xs : List (Key × PV)} {vs : List (Key × V)} : RV K A H x v → RKs K A H xs vs → RKs K A H ((k, x) :: xs) ((k, v) :: vs)
end
structure Grow (A : List Addr) (H : Hp) (A' : List Addr) (H' : Hp) : Prop where
  ext : ∃ B, A' = A ++ B ∧ ∀ b ∈ B, H b = none
  keep : ∀ b o, H b = some o → b ∉ A → H' b = some o
  live : ∀ b, H b ≠ none → H' b ≠ none
theorem Grow.refl (A : List Addr) (H : Hp) : Grow A H A H := ⟨⟨[], by simp, by simp⟩, fun _ _ h _ => h, fun _ h => h⟩
theorem Grow.out {A A' : List Addr} {H H' : Hp} (g : Grow A H A' H') {b : Addr} {o : HO} (h : H b = some o) (n : b ∉ A) : b ∉ A' := by
  obtain ⟨B, rfl, hB⟩ := g.ext
  intro m
  rcases List.mem_append.mp m with m | m
  · exact n m
  · rw [hB b m] at h; cases h
theorem Grow.trans {A A1 A2 : List Addr} {H H1 H2 : Hp} (g : Grow A H A1 H1) (g' : Grow A1 H1 A2 H2) : Grow A H A2 H2 := by
  refine ⟨?_, fun b o h n => g'.keep b o (g.keep b o h n) (g.out h n), fun b h => g'.live b (g.live b h)⟩
  obtain ⟨B, rfl, hB⟩ := g.ext
  obtain ⟨C, rfl, hC⟩ := g'.ext
  refine ⟨B ++ C, by simp, fun b m => ?_⟩
  rcases List.mem_append.mp m with m | m
  · exact hB b m
  · by_cases h : H b = none
    · exact h
    · exact absurd (hC b m) (g.live b h)
theorem Grow.sub {A A' : List Addr} {H H' : Hp} (g : Grow A H A' H') {i : Nat} {a : Addr} (h : A[i]? = some a) : A'[i]? = some a := by
  obtain ⟨B, rfl, _⟩ := g.ext
  rw [List.getElem?_append_left (List.getElem?_eq_some_iff.mp h).1]; exact h
theorem Grow.new {A : List Addr} {H : Hp} {p : Addr} {o : HO} (h : H p = none) : Grow A H A (upd H p o) := by
  refine ⟨⟨[], by simp, by simp⟩, fun b u e _ => by rw [upd_ne (ne_of_none e h)]; exact e, fun b hb => ?_⟩
  by_cases e : b = p
  · subst e; rw [upd_same]; exact Option.some_ne_none _
  · rw [upd_ne e]; exact hb
theorem Grow.newObj {A : List Addr} {H : Hp} {p : Addr} {o : HO} (h : H p = none) : Grow A H (A ++ [p]) (upd H p o) := by
  refine ⟨⟨[p], rfl, fun b m => by rw [List.mem_singleton.mp m]; exact h⟩, (Grow.new (A := A) h).keep, (Grow.new (A := A) h).live⟩
theorem Grow.put {A : List Addr} {H : Hp} {p : Addr} {o : HO} (h : p ∈ A) : Grow A H A (upd H p o) := by
  refine ⟨⟨[], by simp, by simp⟩, fun b u e n => by rw [upd_ne (fun z => n (by rw [z]; exact h))]; exact e, fun b hb => ?_⟩
  by_cases e : b = p
  · subst e; rw [upd_same]; exact Option.some_ne_none _
  · rw [upd_ne e]; exact hb
section
variable {K : PySem.W.Frag} {A A' : List Addr} {H H' : Hp}
theorem TupAt.sq {a : Addr} {vs : List V} (h : TupAt K A H a vs) : SqT K H a vs := h.imp And.left id
theorem LstAt.sq {a : Addr} {vs : List V} (h : LstAt K A H a vs) : SqL K H a vs := h.imp And.left id
theorem Rd.grow {a : Addr} {u : HO} (g : Grow A H A' H') (h : Rd H a u ∧ a ∉ A) : Rd H' a u ∧ a ∉ A' := by
  obtain ⟨h | ⟨o, h⟩, n⟩ := h
  · exact ⟨.inl (g.keep _ _ h n), g.out h n⟩
  · exact ⟨.inr ⟨o, g.keep _ _ h n⟩, g.out h n⟩
theorem TupAt.grow {a : Addr} {vs : List V} (g : Grow A H A' H') (h : TupAt K A H a vs) : TupAt K A' H' a vs := h.imp (Rd.grow g) id
theorem LstAt.grow {a : Addr} {vs : List V} (g : Grow A H A' H') (h : LstAt K A H a vs) : LstAt K A' H' a vs := h.imp (Rd.grow g) id
mutual
theorem RV.grow (g : Grow A H A' H') {x : PV} {v : V} : RV K A H x v → RV K A' H' x v
  | .non => .non
  | .bl b => .bl b
  | .int i => .int i
  | .str x => .str x
  | .ty n => .ty n
  | .tup t z r => .tup (t.grow g) z (RVs.grow g r)
  | .lst t z r => .lst (t.grow g) z (RVs.grow g r)
  | .dct t z r => .dct ⟨g.keep _ _ t.1 t.2, g.out t.1 t.2⟩ z (RKs.grow g r)
  | .itb e n => .itb (g.keep _ _ e n) (g.out e n)
  | .clo h => .clo ⟨⟨g.keep _ _ h.fn.1 h.fn.2, g.out h.fn.1 h.fn.2⟩, ⟨g.keep _ _ h.cd.1 h.cd.2, g.out h.cd.1 h.cd.2⟩, ⟨g.keep _ _ h.cl.1 h.cl.2, g.out h.cl.1 h.cl.2⟩, ⟨g.keep _ _ h.dt.1 h.dt.2, g.out h.dt.1 h.dt.2⟩⟩
theorem RVs.grow (g : Grow A H A' H') {xs : List PV} {vs : List V} : RVs K A H xs vs → RVs K A' H' xs vs
  | .nil => .nil
  | .cons r t => .cons (RV.grow g r) (RVs.grow g t)
theorem RKs.grow (g : Grow A H A' H') {xs : List (Key × PV)} {vs : List (Key × V)} : RKs K A H xs vs → RKs K A' H' xs vs
  | .nil => .nil
  | .cons r t => .cons (RV.grow g r) (RKs.grow g t)
end
theorem RVs.len {xs : List PV} {vs : List V} : RVs K A H xs vs → xs.length = vs.length
  | .nil => rfl
  | .cons _ t => by rw [List.length_cons, List.length_cons, RVs.len t]
theorem RKs.len {xs : List (Key × PV)} {vs : List (Key × V)} : RKs K A H xs vs → xs.length = vs.length
  | .nil => rfl
  | .cons _ t => by rw [List.length_cons, List.length_cons, RKs.len t]
theorem RVs.append {xs ys : List PV} {vs ws : List V} : RVs K A H xs vs → RVs K A H ys ws → RVs K A H (xs ++ ys) (vs ++ ws)
  | .nil, h => h
  | .cons r t, h => .cons r (RVs.append t h)
theorem RVs.get {xs : List PV} {vs : List V} {i : Nat} {x : PV} (h : RVs K A H xs vs) (e : xs[i]? = some x) : ∃ v, vs[i]? = some v ∧ RV K A H x v := by
  induction i generalizing xs vs with
  | zero => cases h with
    | nil => cases e
    | cons r t => simp at e; subst e; exact ⟨_, rfl, r⟩
  | succ i ih => cases h with
    | nil => cases e
    | cons r t => simpa using ih t (by simpa using e)
theorem RVs.get' {xs : List PV} {vs : List V} {i : Nat} {v : V} (h : RVs K A H xs vs) (e : vs[i]? = some v) : ∃ x, xs[i]? = some x ∧ RV K A H x v := by
  induction i generalizing xs vs with
  | zero => cases h with
    | nil => cases e
    | cons r t => simp at e; subst e; exact ⟨_, rfl, r⟩
  | succ i ih => cases h with
    | nil => cases e
    | cons r t => simpa using ih t (by simpa using e)
theorem RVs.drop {xs : List PV} {vs : List V} (h : RVs K A H xs vs) (n : Nat) : RVs K A H (xs.drop n) (vs.drop n) := by
  induction n generalizing xs vs with
  | zero => exact h
  | succ n ih => cases h with
    | nil => exact .nil
    | cons r t => exact ih t
theorem RVs.take {xs : List PV} {vs : List V} (h : RVs K A H xs vs) (n : Nat) : RVs K A H (xs.take n) (vs.take n) := by
  induction n generalizing xs vs with
  | zero => exact .nil
  | succ n ih => cases h with
    | nil => exact .nil
    | cons r t => exact .cons r (ih t)
theorem RVs.reverse {xs : List PV} {vs : List V} (h : RVs K A H xs vs) : RVs K A H xs.reverse vs.reverse := by
  induction xs generalizing vs with
  | nil => cases h; exact .nil
  | cons x xs ih => cases h with
    | cons r t => rw [List.reverse_cons, List.reverse_cons]; exact (ih t).append (.cons r .nil)
inductive RE (K : PySem.W.Frag) (A : List Addr) (H : Hp) : PV → V → Prop
  | val {x : PV} {v : V} : RV K A H x v → RE K A H x v
  | obj {i : Nat} {a : Addr} : A[i]? = some a → RE K A H (.obj i) (.ref a)
theorem RE.grow (g : Grow A H A' H') {x : PV} {v : V} : RE K A H x v → RE K A' H' x v
  | .val r => .val (r.grow g)
  | .obj e => .obj (g.sub e)
abbrev REs (K : PySem.W.Frag) (A : List Addr) (H : Hp) : List PV → List V → Prop := Paired (RE K A H)
theorem REs.grow (g : Grow A H A' H') {xs : List PV} {vs : List V} : REs K A H xs vs → REs K A' H' xs vs
  | .nil => .nil
  | .cons r t => .cons (r.grow g) (REs.grow g t)
def OA (K : PySem.W.Frag) (A : List Addr) (H : Hp) (a : Addr) : PO → Prop
  | .lst xs => ∃ vs, H a = some (.lst vs) ∧ RVs K A H xs vs ∧ vs.length ≤ sizeLine
  | .dct kvs => ∃ us, H a = some (.dK us) ∧ RKs K A H kvs us ∧ us.length ≤ sizeLine
  | .tbl T pos q => a = T ∧ ∃ ps, H a = some (.tbl ps) ∧ (ps = #[] ∨ ∃ c', ps = #[rawInt pos.line, rawInt pos.col, .ref c'] ∧ H c' = some (.ext (CdAt c' q)) ∧ c' ∉ A)
  | .itb kvs => H a = some (.dT (tabK kvs))
structure RS (K : PySem.W.Frag) (A : List Addr) (H : Hp) (st : Sto) : Prop where
  nd : A.Nodup
  len : A.length = st.length
  at_ : ∀ (i : Nat) (a : Addr) (o : PO), A[i]? = some a → st[i]? = some o → OA K A H a o
structure Rel (K : PySem.W.Frag) (A : List Addr) (H : Hp) (σ : St) (env : Env3) (st : Sto) : Prop where
  rs : RS K A H st
  len : env.length = σ.length
  at_ : ∀ (i : Nat) (x : PV), env[i]? = some (some x) → ∃ v, σ[i]? = some (some v) ∧ RE K A H x v
theorem Rel.grow {σ : St} {env : Env3} {st st' : Sto} (r : Rel K A H σ env st) (g : Grow A H A' H') (s : RS K A' H' st') : Rel K A' H' σ env st' :=
  ⟨s, r.len, fun i x e => let ⟨v, e1, r1⟩ := r.at_ i x e; ⟨v, e1, r1.grow g⟩⟩
theorem OA.move {a : Addr} {o : PO} (h : OA K A H a o) (g : Grow A H A' H') (e : H' a = H a) : OA K A' H' a o := by
  cases o with
  | lst xs => obtain ⟨vs, h, r, z⟩ := h; exact ⟨vs, by rw [e]; exact h, r.grow g, z⟩
  | dct xs => obtain ⟨vs, h, r, z⟩ := h; exact ⟨vs, by rw [e]; exact h, r.grow g, z⟩
  | tbl T pos q =>
    obtain ⟨ea, ps, h, r⟩ := h
    refine ⟨ea, ps, by rw [e]; exact h, r.imp id ?_⟩
    rintro ⟨c', e1, e2, e3⟩
    exact ⟨c', e1, g.keep _ _ e2 e3, g.out e2 e3⟩
  | itb kvs => exact e.trans h
theorem OA.some {a : Addr} {o : PO} (h : OA K A H a o) : H a ≠ none := by
  cases o with
  | lst xs => obtain ⟨vs, h, r⟩ := h; rw [h]; exact Option.some_ne_none _
  | dct xs => obtain ⟨vs, h, r⟩ := h; rw [h]; exact Option.some_ne_none _
  | tbl T pos q => obtain ⟨_, ps, h, r⟩ := h; rw [h]; exact Option.some_ne_none _
  | itb kvs => rw [show H a = _ from h]; exact Option.some_ne_none _
theorem RS.has {st : Sto} (r : RS K A H st) {a : Addr} (h : a ∈ A) : ∃ (i : Nat) (o : PO), A[i]? = some a ∧ st[i]? = some o ∧ OA K A H a o := by
  obtain ⟨i, hi, e⟩ := List.getElem_of_mem h
  have hs : i < st.length := by rw [← r.len]; exact hi
  have e1 : A[i]? = some a := by rw [List.getElem?_eq_getElem hi, e]
  have e2 : st[i]? = some st[i] := List.getElem?_eq_getElem hs
  exact ⟨i, st[i], e1, e2, r.at_ i a _ e1 e2⟩
theorem RS.live {st : Sto} (r : RS K A H st) {a : Addr} (h : a ∈ A) : H a ≠ none := let ⟨_, _, _, _, o⟩ := r.has h; o.some
theorem RS.move {st : Sto} (r : RS K A H st) (g : Grow A H A H') (e : ∀ a ∈ A, H' a = H a) : RS K A H' st :=
  ⟨r.nd, r.len, fun i a o h1 h2 => (r.at_ i a o h1 h2).move g (e a (List.mem_of_getElem? h1))⟩
theorem RS.fresh {st : Sto} (r : RS K A H st) {p : Addr} (h : H p = none) : p ∉ A := fun m => r.live m h
theorem RS.new {st : Sto} (r : RS K A H st) {p : Addr} {o : HO} (h : H p = none) : RS K A (upd H p o) st :=
  r.move (.new h) fun a m => upd_ne fun z => r.fresh h (z ▸ m)
theorem RS.newObj {st : Sto} (r : RS K A H st) {p : Addr} {o : HO} {q : PO} (h : H p = none) (hq : OA K (A ++ [p]) (upd H p o) p q) : RS K (A ++ [p]) (upd H p o) (st ++ [q]) := by
  refine ⟨?_, by rw [List.length_append, List.length_append, r.len]; rfl, fun i a u h1 h2 => ?_⟩
  · refine List.nodup_append.mpr ⟨r.nd, by simp, fun a ha b hb => ?_⟩
    rw [List.mem_singleton.mp hb]
    exact fun z => r.fresh h (z ▸ ha)
  · by_cases hi : i < A.length
    · rw [List.getElem?_append_left hi] at h1
      rw [List.getElem?_append_left (by rw [← r.len]; exact hi)] at h2
      exact (r.at_ i a u h1 h2).move (.newObj h) (upd_ne fun z => r.fresh h (z ▸ List.mem_of_getElem? h1))
    · have hi' : i = A.length := by
        have := (List.getElem?_eq_some_iff.mp h1).1
        rw [List.length_append, List.length_singleton] at this
        omega
      subst hi'
      rw [List.getElem?_append_right (Nat.le_refl _), Nat.sub_self] at h1
      rw [r.len, List.getElem?_append_right (Nat.le_refl _), Nat.sub_self] at h2
      cases h1; cases h2
      exact hq
theorem RS.put {st : Sto} (r : RS K A H st) {i : Nat} {p : Addr} {o : HO} {q : PO} (h : A[i]? = some p) (hq : OA K A (upd H p o) p q) : RS K A (upd H p o) (st.set i q) := by
  have hp := List.mem_of_getElem? h
  refine ⟨r.nd, by rw [List.length_set]; exact r.len, fun j a u h1 h2 => ?_⟩
  by_cases hij : i = j
  · subst hij
    rw [h] at h1; cases h1
    rw [List.getElem?_set_self (by rw [← r.len]; exact (List.getElem?_eq_some_iff.mp h).1)] at h2
    cases h2
    exact hq
  · rw [List.getElem?_set_ne hij] at h2
    refine (r.at_ j a u h1 h2).move (.put hp) (upd_ne fun z => hij ?_)
    subst z
    exact (List.getElem?_inj (List.getElem?_eq_some_iff.mp h).1 r.nd).mp (h.trans h1.symm)
end
end L3
set_option Elab.async false
set_option linter.all false
set_option maxRecDepth 100000
set_option maxHeartbeats 4000000
namespace L3
open PySem PySem.Spec PyProof.Rows L2
abbrev TE3 := Env3 → Sto → K3 → Prop
abbrev TT3 := Env3 → Sto → (Bool → Sto → Prop) → Prop
abbrev TA3 := Env3 → Sto → (List PV → Sto → Prop) → Prop
structure Ends3 where
  nx : Env3 → Sto → Prop
  rt : K3
  bk : Env3 → Sto → Prop := fun _ _ => False
  ct : Env3 → Sto → Prop := fun _ _ => False
abbrev TS3 := Ends3 → Env3 → Sto → Prop
abbrev TG3 := PV → Env3 → Sto → (Env3 → Sto → Prop) → Prop
abbrev TGs3 := List PV → Env3 → Sto → (Env3 → Sto → Prop) → Prop
abbrev Src := Option (Nat × PO)
abbrev TI3 := Env3 → Sto → (Src → List PV → Sto → Prop) → Prop
abbrev R3 := PV → PV → Sto → K3 → Prop
abbrev Sp3 := List PV → Sto → K3 → Prop
def Fin (K : PySem.W.Frag) (A : List Addr) (H : Hp) (Q3 : K3) (Q : VK) : Prop := ∀ A' H' st' r v, Grow A H A' H' → RS K A' H' st' → RE K A' H' r v → Q3 r st' → Q v H'
def FinT (K : PySem.W.Frag) (A : List Addr) (H : Hp) (Q3 : Bool → Sto → Prop) (Q : Bool → Hp → Prop) : Prop := ∀ A' H' st' b, Grow A H A' H' → RS K A' H' st' → Q3 b st' → Q b H'
def FinA (K : PySem.W.Frag) (A : List Addr) (H : Hp) (Q3 : List PV → Sto → Prop) (Q : List V → Hp → Prop) : Prop := ∀ A' H' st' rs vs, Grow A H A' H' → RS K A' H' st' → REs K A' H' rs vs → Q3 rs st' → Q vs H'
def FinS (K : PySem.W.Frag) (A : List Addr) (H : Hp) (P3 : Env3 → Sto → Prop) (P : St → Hp → Prop) : Prop := ∀ A' H' σ' env' st', Grow A H A' H' → Rel K A' H' σ' env' st' → P3 env' st' → P σ' H'
structure FinD (K : PySem.W.Frag) (A : List Addr) (H : Hp) (D3 : Ends3) (D : Ends) : Prop where
  nx : FinS K A H D3.nx D.nx
  rt : Fin K A H D3.rt D.rt
  bk : FinS K A H D3.bk D.bk
  ct : FinS K A H D3.ct D.ct
section
variable {K : PySem.W.Frag} {A A1 : List Addr} {H H1 : Hp}
theorem Fin.after {Q3 : K3} {Q : VK} (f : Fin K A H Q3 Q) (g : Grow A H A1 H1) : Fin K A1 H1 Q3 Q := fun A' H' st' r v g' => f A' H' st' r v (g.trans g')
theorem FinT.after {Q3 : Bool → Sto → Prop} {Q : Bool → Hp → Prop} (f : FinT K A H Q3 Q) (g : Grow A H A1 H1) : FinT K A1 H1 Q3 Q := fun A' H' st' r g' => f A' H' st' r (g.trans g')
theorem FinS.after {Q3 : Env3 → Sto → Prop} {Q : St → Hp → Prop} (f : FinS K A H Q3 Q) (g : Grow A H A1 H1) : FinS K A1 H1 Q3 Q := fun A' H' σ' e' st' g' => f A' H' σ' e' st' (g.trans g')
theorem FinD.after {D3 : Ends3} {D : Ends} (f : FinD K A H D3 D) (g : Grow A H A1 H1) : FinD K A1 H1 D3 D := ⟨f.nx.after g, f.rt.after g, f.bk.after g, f.ct.after g⟩
theorem Fin.now {Q3 : K3} {Q : VK} (f : Fin K A H Q3 Q) {st : Sto} {r : PV} {v : V} (s : RS K A H st) (e : RE K A H r v) (q : Q3 r st) : Q v H := f A H st r v (.refl _ _) s e q
end
def can (K : PySem.W.Frag) (T : TE3) : TE := fun σ H Q => ∃ A env st Q3, Rel K A H σ env st ∧ T env st Q3 ∧ Fin K A H Q3 Q
def canT (K : PySem.W.Frag) (T : TT3) : TT := fun σ H Q => ∃ A env st Q3, Rel K A H σ env st ∧ T env st Q3 ∧ FinT K A H Q3 Q
def canA (K : PySem.W.Frag) (T : TA3) : TA := fun σ H Q => ∃ A env st Q3, Rel K A H σ env st ∧ T env st Q3 ∧ FinA K A H Q3 Q
def canS (K : PySem.W.Frag) (T : TS3) : TS := fun D σ H => ∃ A env st D3, Rel K A H σ env st ∧ T D3 env st ∧ FinD K A H D3 D
def canG (K : PySem.W.Frag) (G : TG3) : TG := fun v σ H Q => ∃ A env st x Q3, Rel K A H σ env st ∧ RE K A H x v ∧ G x env st Q3 ∧ FinS K A H Q3 Q
def canGs (K : PySem.W.Frag) (G : TGs3) : TGs := fun vs σ H Q => ∃ A env st xs Q3, Rel K A H σ env st ∧ REs K A H xs vs ∧ G xs env st Q3 ∧ FinS K A H Q3 Q
def canR (K : PySem.W.Frag) (R : R3) : R2 := fun v w H Q => ∃ A st x y Q3, RS K A H st ∧ RE K A H x v ∧ RE K A H y w ∧ R x y st Q3 ∧ Fin K A H Q3 Q
def canU (K : PySem.W.Frag) (R : PV → Sto → K3 → Prop) : V → Hp → VK → Prop := fun v H Q => ∃ A st x Q3, RS K A H st ∧ RE K A H x v ∧ R x st Q3 ∧ Fin K A H Q3 Q
def canL (K : PySem.W.Frag) (R : Sp3) : List V → Hp → VK → Prop := fun vs H Q => ∃ A st xs Q3, RS K A H st ∧ REs K A H xs vs ∧ R xs st Q3 ∧ Fin K A H Q3 Q
def sp2 (K : PySem.W.Frag) (S : Sp3) : Sp := fun vs H Q _ => canL K S vs H Q
section
variable {X : Cx} {a b c e : Expr} {es : List Expr} {pos p p2 : Pos} {Ta Tb Tc : TE3} {TA : TA3} {tc td : TT3}
theorem pe_weak {t t' : TE} (h : PE X e t) (w : ∀ σ H Q, t' σ H Q → t σ H Q) : PE X e t' := ⟨fun pins s σ H Q I q => h pins s σ H Q I (w σ H Q q)⟩
theorem pt_weak {t t' : TT} (h : PT X e t) (w : ∀ σ H Q, t' σ H Q → t σ H Q) : PT X e t' := ⟨fun pins s σ H Q I q => h pins s σ H Q I (w σ H Q q)⟩
theorem pw_weak {t t' : TT} (h : PW X e t) (w : ∀ σ H Q, t' σ H Q → t σ H Q) : PW X e t' := ⟨fun wh pins s σ H Q I q => h wh pins s σ H Q I (w σ H Q q)⟩
theorem pa_weak {t t' : L2.TA} (h : PA X es t) (w : ∀ σ H Q, t' σ H Q → t σ H Q) : PA X es t' := ⟨fun pos pins s σ H Q I q => h pos pins s σ H Q I (w σ H Q q)⟩
theorem pf_weak {t t' : TT} (h : PF X es t) (w : ∀ σ H Q, t' σ H Q → t σ H Q) : PF X es t' := ⟨fun pins s σ H Q I q => h pins s σ H Q I (w σ H Q q)⟩
theorem ps_weak {st : Stmt} {t t' : TS} (h : PS X st t) (w : ∀ D σ H, t' D σ H → t D σ H) : PS X st t' := ⟨fun pins s σ H D I q => h pins s σ H D I (w D σ H q)⟩
theorem pss_weak {st : List Stmt} {t t' : TS} (h : PSs X st t) (w : ∀ D σ H, t' D σ H → t D σ H) : PSs X st t' := ⟨fun pins s σ H D I q => h pins s σ H D I (w D σ H q)⟩
theorem pg_weak {tg : Expr} {t t' : TG} (h : PG X tg t) (w : ∀ v σ H Q, t' v σ H Q → t v σ H Q) : PG X tg t' := ⟨fun pins s σ H v u Q I r q => h pins s σ H v u Q I r (w v σ H Q q)⟩
theorem pgs_weak {tg : List Expr} {t t' : TGs} (h : PGs X tg t) (w : ∀ v σ H Q, t' v σ H Q → t v σ H Q) : PGs X tg t' := ⟨fun pins s σ H v u Q I r q => h pins s σ H v u Q I r (w v σ H Q q)⟩
def vVar (i : Nat) : TE3 := fun env st Q => match env[i]? with | some (some x) => Q x st | _ => False
theorem can_var {K : PySem.W.Frag} {i : Nat} {σ : St} {H : Hp} {Q : VK} : can K (vVar i) σ H Q → tVar i σ H Q := by
  rintro ⟨A, env, st, Q3, rel, h, k⟩
  unfold vVar at h
  split at h
  · rename_i x e
    obtain ⟨v, e1, r⟩ := rel.at_ i x e
    exact ⟨v, e1, k.now rel.rs r h⟩
  · exact h.elim
theorem qv (i : Nat) {x : Str} {pos : Pos} (hN : X.N[i]? = some x := by rfl) (hv : Vis X.env.scope x := by first | exact Or.inl rfl | exact Or.inr (Or.inl rfl) | exact Or.inr (Or.inr rfl)) (hd : (x == ("__debug__" : Str)) = false := by decide)
    (hcd : (x == ("__classdict__" : Str)) = false := by decide) : PE X (.Name x pos) (can X.K (vVar i)) := pe_weak (pe_var hN hv hd hcd) fun _ _ _ => can_var
def vC (x : PV) : TE3 := fun _ st Q => Q x st
theorem can_c {K : PySem.W.Frag} {x : PV} {v : V} (hr : ∀ A H, RE K A H x v) {σ : St} {H : Hp} {Q : VK} : can K (vC x) σ H Q → tC v σ H Q := by
  rintro ⟨A, env, st, Q3, rel, h, k⟩
  exact k.now rel.rs (hr A H) h
theorem q_int {i j pos} : PE X (.Constant (.int i) j pos) (can X.K (vC (.int i))) := pe_weak pe_int fun _ _ _ => can_c fun _ _ => .val (.int i)
theorem q_str {x j pos} : PE X (.Constant (.str x) j pos) (can X.K (vC (.str x))) := pe_weak pe_str fun _ _ _ => can_c fun _ _ => .val (.str x)
theorem q_bl {b j pos} : PE X (.Constant (.bool b) j pos) (can X.K (vC (.bl b))) := pe_weak pe_bl fun _ _ _ => can_c fun _ _ => .val (.bl b)
theorem q_non {j pos} : PE X (.Constant .none j pos) (can X.K (vC .non)) := pe_weak pe_non fun _ _ _ => can_c fun _ _ => .val .non
theorem q_ty {x : Str} {n : String} {pos : Pos} (hg : Gl X x) (hm : X.mg x = none) (hv : bootBuiltins x = some (.type n)) (hn : x ≠ "__name__" := by decide) (hd : (x == ("__debug__" : Str)) = false := by decide) : PE X (.Name x pos) (can X.K (vC (.ty n))) :=
  pe_weak (pe_bltn (v := .ty n) hg hm hv rfl hn hd) fun _ _ _ => can_c fun _ _ => .val (.ty n)
def vOp (R : R3) (Ta Tb : TE3) : TE3 := fun env st Q => Ta env st fun x st1 => Tb env st1 fun y st2 => R x y st2 Q
theorem can_op {K : PySem.W.Frag} {R : R3} {σ : St} {H : Hp} {Q : VK} : can K (vOp R Ta Tb) σ H Q → tOp (canR K R) (can K Ta) (can K Tb) σ H Q := by
  rintro ⟨A, env, st, Q3, rel, h, k⟩
  exact ⟨A, env, st, _, rel, h, fun A1 H1 st1 x v g1 s1 e1 h1 => ⟨A1, env, st1, _, rel.grow g1 s1, h1, fun A2 H2 st2 y w g2 s2 e2 h2 => ⟨A2, st2, x, y, Q3, s2, e1.grow g2, e2, h2, k.after (g1.trans g2)⟩⟩⟩
theorem q_op {op : Operator} {R : R3} (ho : OpR X (binaryOp op) (canR X.K R)) (ha : PE X a (can X.K Ta)) (hb : PE X b (can X.K Tb)) : PE X (.BinOp a op b pos) (can X.K (vOp R Ta Tb)) := pe_weak (pe_op ho ha hb) fun _ _ _ => can_op
theorem q_cmp {op : CmpOp} {R : R3} (ho : OpR X (compareOp op) (canR X.K R)) (ha : PE X a (can X.K Ta)) (hb : PE X b (can X.K Tb)) (hm : behindInMarks op b = false) : PE X (.Compare a [op] [b] pos) (can X.K (vOp R Ta Tb)) := pe_weak (pe_cmpR ho ha hb hm) fun _ _ _ => can_op
theorem q_ix {R : R3} (hr : IxR X (canR X.K R)) (ha : PE X a (can X.K Ta)) (hb : PE X b (can X.K Tb)) (hs : PlainIx b) : PE X (.Subscript a b pos) (can X.K (vOp R Ta Tb)) := pe_weak (pe_ix hr ha hb hs) fun _ _ _ => can_op
def vUn (R : PV → Sto → K3 → Prop) (Ta : TE3) : TE3 := fun env st Q => Ta env st fun x st1 => R x st1 Q
theorem can_un {K : PySem.W.Frag} {R : PV → Sto → K3 → Prop} {σ : St} {H : Hp} {Q : VK} : can K (vUn R Ta) σ H Q → tUn (canU K R) (can K Ta) σ H Q := by
  rintro ⟨A, env, st, Q3, rel, h, k⟩
  exact ⟨A, env, st, _, rel, h, fun A1 H1 st1 x v g1 s1 e1 h1 => ⟨A1, st1, x, Q3, s1, e1, h1, k.after g1⟩⟩
theorem q_un {op : UnaryOp} {R : PV → Sto → K3 → Prop} (ho : UnR X (unaryOp op) (canU X.K R)) (ha : PE X a (can X.K Ta)) : PE X (.UnaryOp op a pos) (can X.K (vUn R Ta)) := pe_weak (pe_un ho ha) fun _ _ _ => can_un
def vTest (T : TE3) : TT3 := fun env st Q => T env st fun x st1 => match x with | .bl k => Q k st1 | _ => False
theorem can_test {K : PySem.W.Frag} {T : TE3} {σ : St} {H : Hp} {Q : Bool → Hp → Prop} : canT K (vTest T) σ H Q → tTest (can K T) σ H Q := by
  rintro ⟨A, env, st, Q3, rel, h, k⟩
  refine ⟨A, env, st, _, rel, h, fun A1 H1 st1 x v g1 s1 e1 h1 => ?_⟩
  cases x with
  | bl b =>
    cases e1 with
    | val e1 => cases e1; exact ⟨b, rfl, k A1 H1 st1 b g1 s1 h1⟩
  | _ => exact False.elim h1
theorem qt_cmp {op : CmpOp} {R : R3} (ho : OpR X (compareOp op) (canR X.K R)) (ha : PE X a (can X.K Ta)) (hb : PE X b (can X.K Tb)) (hm : behindInMarks op b = false) : PT X (.Compare a [op] [b] pos) (canT X.K (vTest (vOp R Ta Tb))) := by
  refine pt_weak (pt_cmpR ho ha hb hm) fun σ H Q h => ?_
  have := can_test h
  exact can_op this
def rTru : PV → Sto → (Bool → Prop) → Prop
  | .non, _, k => k false
  | .bl b, _, k => k b
  | .int i, _, k => k (i != 0)
  | .str x, _, k => x.length ≤ sizeLine ∧ k ((x.length : Int) != 0)
  | .tup xs, _, k => k (!xs.isEmpty)
  | .lst xs, _, k => k (!xs.isEmpty)
  | .dct xs, _, k => k (!xs.isEmpty)
  | .obj i, st, k => match st[i]? with | some (.lst xs) => k (!xs.isEmpty) | some (.dct xs) => k (!xs.isEmpty) | _ => False
  | _, _, _ => False
def vTru (T : TE3) : TT3 := fun env st Q => T env st fun x st1 => rTru x st1 fun k => Q k st1
theorem RVs.empty {K : PySem.W.Frag} {A : List Addr} {H : Hp} {xs : List PV} {vs : List V} (h : RVs K A H xs vs) : vs.isEmpty = xs.isEmpty := by
  cases h <;> rfl
theorem RKs.empty {K : PySem.W.Frag} {A : List Addr} {H : Hp} {xs : List (Key × PV)} {vs : List (Key × V)} (h : RKs K A H xs vs) : vs.isEmpty = xs.isEmpty := by
  cases h <;> rfl
theorem tru_of {K : PySem.W.Frag} {A : List Addr} {H : Hp} {st : Sto} {x : PV} {v : V} {P : Bool → Prop} (s : RS K A H st) (e : RE K A H x v) (h : rTru x st P) : ∃ k, TruV K v H k ∧ P k := by
  cases e with
  | obj e =>
    dsimp only [rTru] at h
    split at h
    · rename_i xs q
      obtain ⟨vs, h1, h2, _⟩ := s.at_ _ _ _ e q
      exact ⟨_, .inl ⟨vs, .of h1, by rw [h2.empty]⟩, h⟩
    · rename_i xs q
      obtain ⟨vs, h1, h2, _⟩ := s.at_ _ _ _ e q
      exact ⟨_, .inr (.inr ⟨vs, h1, by rw [h2.empty]⟩), h⟩
    · exact h.elim
  | val e =>
    cases e with
    | non => exact ⟨_, rfl, h⟩
    | bl b => exact ⟨_, rfl, h⟩
    | int i => exact ⟨_, rfl, h⟩
    | str y => exact ⟨_, ⟨h.1, rfl⟩, h.2⟩
    | ty n => exact False.elim h
    | tup t z r => exact ⟨_, .inr (.inl ⟨_, t.sq, by rw [r.empty]⟩), h⟩
    | lst t z r => exact ⟨_, .inl ⟨_, t.sq, by rw [r.empty]⟩, h⟩
    | dct t z r => exact ⟨_, .inr (.inr ⟨_, t.1, by rw [r.empty]⟩), h⟩
    | itb e n => exact False.elim h
    | clo e => exact False.elim h
theorem qt_tru (ha : PE X a (can X.K Ta)) (he : ∀ whole, isTrue a X.env whole = (do let v ← whole; standAt a.pos; holding [v] (truthy v)) := by intro _; rfl) : PT X a (canT X.K (vTru Ta)) := by
  refine pt_weak (pt_truth ha he) fun σ H Q ⟨A, env, st, Q3, rel, h, k⟩ => ?_
  refine ⟨A, env, st, _, rel, h, fun A1 H1 st1 x v g1 s1 e1 h1 => ?_⟩
  obtain ⟨b, hb, q⟩ := tru_of s1 e1 h1
  exact ⟨b, hb, k A1 H1 st1 b g1 s1 q⟩
def vAnd (t u : TT3) : TT3 := fun env st Q => t env st fun c st1 => if c = true then u env st1 Q else Q false st1
def vOr (t u : TT3) : TT3 := fun env st Q => t env st fun c st1 => if c = true then Q true st1 else u env st1 Q
def vNot (t : TT3) : TT3 := fun env st Q => t env st fun c st1 => Q (!c) st1
theorem can_ifT {K : PySem.W.Frag} {t u : TT3} {σ : St} {H : Hp} {Q : Bool → Hp → Prop} : canT K (vAnd t u) σ H Q → tAnd (canT K t) (canT K u) σ H Q := by
  rintro ⟨A, env, st, Q3, rel, h, k⟩
  refine ⟨A, env, st, _, rel, h, fun A1 H1 st1 c g1 s1 h1 => ?_⟩
  cases c with
  | true => exact ⟨A1, env, st1, Q3, rel.grow g1 s1, h1, k.after g1⟩
  | false => exact k A1 H1 st1 false g1 s1 h1
theorem can_orT {K : PySem.W.Frag} {t u : TT3} {σ : St} {H : Hp} {Q : Bool → Hp → Prop} : canT K (vOr t u) σ H Q → tOr (canT K t) (canT K u) σ H Q := by
  rintro ⟨A, env, st, Q3, rel, h, k⟩
  refine ⟨A, env, st, _, rel, h, fun A1 H1 st1 c g1 s1 h1 => ?_⟩
  cases c with
  | false => exact ⟨A1, env, st1, Q3, rel.grow g1 s1, h1, k.after g1⟩
  | true => exact k A1 H1 st1 true g1 s1 h1
variable {rest : List Expr}
theorem qw_and1 (ha : PT X a (canT X.K tc)) : PW X (.BoolOp .And [a] pos) (canT X.K tc) := pw_and1 ha
theorem qw_or1 (ha : PT X a (canT X.K tc)) : PW X (.BoolOp .Or [a] pos) (canT X.K tc) := pw_or1 ha
theorem qw_and (ha : PT X a (canT X.K tc)) (hb : PW X (.BoolOp .And (b :: rest) pos) (canT X.K td)) : PW X (.BoolOp .And (a :: b :: rest) pos) (canT X.K (vAnd tc td)) := pw_weak (pw_and ha hb) fun _ _ _ => can_ifT
theorem qw_or (ha : PT X a (canT X.K tc)) (hb : PW X (.BoolOp .Or (b :: rest) pos) (canT X.K td)) : PW X (.BoolOp .Or (a :: b :: rest) pos) (canT X.K (vOr tc td)) := pw_weak (pw_or ha hb) fun _ _ _ => can_orT
theorem qt_not (ha : PT X a (canT X.K tc)) : PT X (.UnaryOp .Not a pos) (canT X.K (vNot tc)) := pt_weak (pt_not ha) fun σ H Q ⟨A, env, st, Q3, rel, h, k⟩ => ⟨A, env, st, _, rel, h, fun A1 H1 st1 c g1 s1 h1 => k A1 H1 st1 (!c) g1 s1 h1⟩
def vAndV (Ta Tb : TE3) : TE3 := fun env st Q => Ta env st fun x st1 => match x with | .bl c => if c = true then Tb env st1 Q else Q (.bl false) st1 | _ => False
def vOrV (Ta Tb : TE3) : TE3 := fun env st Q => Ta env st fun x st1 => match x with | .bl c => if c = true then Q (.bl true) st1 else Tb env st1 Q | _ => False
def vNotV (Ta : TE3) : TE3 := fun env st Q => Ta env st fun x st1 => match x with | .bl c => Q (.bl (!c)) st1 | _ => False
theorem q_one {op} (h : PE X a (can X.K Ta)) : PE X (.BoolOp op [a] pos) (can X.K Ta) := pe_one h
theorem q_and (ha : PE X a (can X.K Ta)) (hb : PE X (.BoolOp .And (b :: rest) pos) (can X.K Tb)) : PE X (.BoolOp .And (a :: b :: rest) pos) (can X.K (vAndV Ta Tb)) := by
  refine pe_weak (pe_and ha hb) fun σ H Q ⟨A, env, st, Q3, rel, h, k⟩ => ⟨A, env, st, _, rel, h, fun A1 H1 st1 x v g1 s1 e1 h1 => ?_⟩
  cases x with
  | bl c =>
    cases e1 with
    | val e1 =>
      cases e1
      refine ⟨c, rfl, ?_⟩
      cases c with
      | true => exact ⟨A1, env, st1, Q3, rel.grow g1 s1, h1, k.after g1⟩
      | false => exact k A1 H1 st1 _ _ g1 s1 (.val (.bl _)) h1
  | _ => exact False.elim h1
theorem q_not (ha : PE X a (can X.K Ta)) : PE X (.UnaryOp .Not a pos) (can X.K (vNotV Ta)) := by
  refine pe_weak (pe_not ha) fun σ H Q ⟨A, env, st, Q3, rel, h, k⟩ => ⟨A, env, st, _, rel, h, fun A1 H1 st1 x v g1 s1 e1 h1 => ?_⟩
  cases x with
  | bl c =>
    cases e1 with
    | val e1 =>
      cases e1
      exact ⟨c, rfl, k A1 H1 st1 _ _ g1 s1 (.val (.bl _)) h1⟩
  | _ => exact False.elim h1
def vIf (t : TT3) (Ta Tb : TE3) : TE3 := fun env st Q => t env st fun c st1 => if c = true then Ta env st1 Q else Tb env st1 Q
def vNil : TA3 := fun _ st Q => Q [] st
def vCons (Ta : TE3) (Tr : TA3) : TA3 := fun env st Q => Ta env st fun x st1 => Tr env st1 fun xs st2 => Q (x :: xs) st2
theorem qa_nil : PA X [] (canA X.K vNil) := pa_weak pa_nil fun σ H Q ⟨A, env, st, Q3, rel, h, k⟩ => k A H st [] [] (.refl _ _) rel.rs .nil h
theorem qa_cons (ha : PE X e (can X.K Ta)) (hr : PA X es (canA X.K TA)) (hs : starEach (e :: es) X.env = (false, eval e X.env) :: starEach es X.env := by rfl) : PA X (e :: es) (canA X.K (vCons Ta TA)) :=
  pa_weak (pa_cons ha hr hs) fun σ H Q ⟨A, env, st, Q3, rel, h, k⟩ => ⟨A, env, st, _, rel, h, fun A1 H1 st1 x v g1 s1 e1 h1 => ⟨A1, env, st1, _, rel.grow g1 s1, h1, fun A2 H2 st2 xs vs g2 s2 e2 h2 => k A2 H2 st2 _ _ (g1.trans g2) s2 (.cons (e1.grow g2) e2) h2⟩⟩
def noObj : PV → Bool
  | .obj _ => false
  | _ => true
def okI (xs : List PV) : Bool := xs.all noObj && Nat.ble xs.length 1000
theorem RE.rv {K : PySem.W.Frag} {A : List Addr} {H : Hp} {x : PV} {v : V} (e : RE K A H x v) (h : noObj x = true) : RV K A H x v := by
  cases e with
  | val e => exact e
  | obj e => cases h
theorem REs.rvs {K : PySem.W.Frag} {A : List Addr} {H : Hp} : ∀ {xs : List PV} {vs : List V}, REs K A H xs vs → xs.all noObj = true → RVs K A H xs vs
  | _, _, .nil, _ => .nil
  | _, _, .cons r t, h => by
    rw [List.all_cons, Bool.and_eq_true] at h
    exact .cons (r.rv h.1) (REs.rvs t h.2)
theorem okI.both {xs : List PV} (h : okI xs = true) : xs.all noObj = true ∧ xs.length ≤ sizeLine := by
  unfold okI at h
  rw [Bool.and_eq_true] at h
  exact ⟨h.1, Nat.le_trans (Nat.le_of_ble_eq_true h.2) (by decide)⟩
def vTup (T : TA3) : TE3 := fun env st Q => T env st fun xs st1 => okI xs = true ∧ Q (.tup xs) st1
def vLst (T : TA3) : TE3 := fun env st Q => T env st fun xs st1 => okI xs = true ∧ Q (.lst xs) st1
def vLstO (T : TA3) : TE3 := fun env st Q => T env st fun xs st1 => okI xs = true ∧ Q (.obj st1.length) (st1 ++ [.lst xs])
theorem q_tup {x1} (h : PA X es (canA X.K TA)) : PE X (.Tuple es x1 pos) (can X.K (vTup TA)) := by
  refine pe_weak (pe_tup h) fun σ H Q ⟨A, env, st, Q3, rel, h, k⟩ => ⟨A, env, st, _, rel, h, fun A1 H1 st1 xs vs g1 s1 e1 h1 => ?_⟩
  obtain ⟨o1, o2⟩ := okI.both h1.1
  have hr := e1.rvs o1
  have hl := hr.len
  refine ⟨by rw [← hl]; exact o2, fun p hp => k A1 _ st1 _ _ (g1.trans (.new hp)) (s1.new hp) (.val (.tup (.inl ⟨.inl upd_same, s1.fresh hp⟩) (by rw [← hl]; exact o2) (hr.grow (.new hp)))) h1.2⟩
theorem q_lst (h : PA X es (canA X.K TA)) : PE X (.List es pos) (can X.K (vLst TA)) := by
  refine pe_weak (pe_lst h) fun σ H Q ⟨A, env, st, Q3, rel, h, k⟩ => ⟨A, env, st, _, rel, h, fun A1 H1 st1 xs vs g1 s1 e1 h1 => ?_⟩
  obtain ⟨o1, o2⟩ := okI.both h1.1
  have hr := e1.rvs o1
  have hl := hr.len
  refine ⟨by rw [← hl]; exact o2, fun p hp => k A1 _ st1 _ _ (g1.trans (.new hp)) (s1.new hp) (.val (.lst (.inl ⟨.inl upd_same, s1.fresh hp⟩) (by rw [← hl]; exact o2) (hr.grow (.new hp)))) h1.2⟩
theorem objAt {A : List Addr} {n : Nat} {p : Addr} (h : A.length = n) : (A ++ [p])[n]? = some p := by
  subst h; rw [List.getElem?_append_right (Nat.le_refl _), Nat.sub_self]; rfl
theorem q_lstO (h : PA X es (canA X.K TA)) : PE X (.List es pos) (can X.K (vLstO TA)) := by
  refine pe_weak (pe_lst h) fun σ H Q ⟨A, env, st, Q3, rel, h, k⟩ => ⟨A, env, st, _, rel, h, fun A1 H1 st1 xs vs g1 s1 e1 h1 => ?_⟩
  obtain ⟨o1, o2⟩ := okI.both h1.1
  have hr := e1.rvs o1
  have hl := hr.len
  refine ⟨by rw [← hl]; exact o2, fun p hp => k (A1 ++ [p]) _ _ _ _ (g1.trans (.newObj hp)) (s1.newObj (q := .lst xs) hp ⟨vs, upd_same, hr.grow (.newObj hp), by rw [← hl]; exact o2⟩) (.obj (objAt s1.len)) h1.2⟩
def vCB (R : Sp3) (T : TA3) : TE3 := fun env st Q => T env st fun xs st1 => R xs st1 Q
theorem can_cb {K : PySem.W.Frag} {R : Sp3} {σ : St} {H : Hp} {Q : VK} : can K (vCB R TA) σ H Q → tCB (canL K R) (canA K TA) σ H Q := by
  rintro ⟨A, env, st, Q3, rel, h, k⟩
  exact ⟨A, env, st, _, rel, h, fun A1 H1 st1 xs vs g1 s1 e1 h1 => ⟨A1, st1, xs, Q3, s1, e1, h1, k.after g1⟩⟩
theorem q_callB {x : Str} {id : String} {R : Sp3} (hc : CallR X (.builtin id) (canL X.K R)) (hg : Gl X x) (hm : X.mg x = none) (hv : bootBuiltins x = some (.builtin id)) (ha : PA X (e :: es) (canA X.K TA)) (hn : x ≠ "__name__" := by decide) (hdb : (x == ("__debug__" : Str)) = false := by decide)
    (he : starEach (e :: es) X.env = (false, eval e X.env) :: starEach es X.env := by rfl) (hpl : (backTo pos (starEach es X.env)).any (·.1) = false := by rfl) : PE X (.Call (.Name x p) (e :: es) [] pos) (can X.K (vCB R TA)) :=
  pe_weak (pe_callB hc hg hm hv ha hn hdb he hpl) fun _ _ _ => can_cb
theorem q_callTy {x : Str} {T : String} {R : Sp3} (hc : CallR X (.type T) (canL X.K R)) (hg : Gl X x) (hm : X.mg x = none) (hv : bootBuiltins x = some (.type T)) (ha : PA X (e :: es) (canA X.K TA)) (hn : x ≠ "__name__" := by decide) (hdb : (x == ("__debug__" : Str)) = false := by decide)
    (he : starEach (e :: es) X.env = (false, eval e X.env) :: starEach es X.env := by rfl) (hpl : (backTo pos (starEach es X.env)).any (·.1) = false := by rfl) : PE X (.Call (.Name x p) (e :: es) [] pos) (can X.K (vCB R TA)) :=
  pe_weak (pe_callTy hc hg hm hv ha hn hdb he hpl) fun _ _ _ => can_cb
theorem q_call {x : Str} {S : Sp3} {k : Nat} {f : Addr} {fd : FuncData} {ps : List Str} (F : FnOk X.prog X.w X.K X.mg X.base CX0 k f fd ps (sp2 X.K S)) (hr : Room k X.A) (hg : Gl X x) (hm : X.mg x = some (.ref f)) (hk : PySem.W.keepIn X.K (.ref f) = true) (hb : Binds X.K fd ps [])
    (ha : PA X (e :: es) (canA X.K TA)) (hdb : (x == ("__debug__" : Str)) = false := by decide) (he : starEach (e :: es) X.env = (false, eval e X.env) :: starEach es X.env := by rfl) (hpl : (backTo pos (starEach es X.env)).any (·.1) = false := by rfl) :
    PE X (.Call (.Name x p) (e :: es) [] pos) (can X.K (vCB S TA)) := by
  refine pe_weak (pe_call F hr hg hm hk hb .nil pass0 ha hdb he hpl) fun σ H Q h => ?_
  obtain ⟨A, env, st, Q3, rel, h, k⟩ := can_cb h
  refine ⟨A, env, st, Q3, rel, h, fun A1 H1 st1 rs vs g1 s1 e1 h1 => ?_⟩
  show sp2 X.K S (vs ++ []) H1 Q E0
  rw [List.append_nil]
  exact k A1 H1 st1 rs vs g1 s1 e1 h1
variable {sts rst : List Stmt} {stm : Stmt} {Ts Tu : TS3}
def vNext : TS3 := fun D env st => D.nx env st
def vSeq (t u : TS3) : TS3 := fun D env st => t { D with nx := u D } env st
theorem qss_nil : PSs X [] (canS X.K vNext) := pss_weak pss_nil fun D σ H ⟨A, env, st, D3, rel, h, k⟩ => k.nx A H σ env st (.refl _ _) rel h
theorem qss_one (h : PS X stm (canS X.K Ts)) : PSs X [stm] (canS X.K Ts) := pss_one h
theorem qss_cons (h1 : PS X stm (canS X.K Ts)) (h2 : PSs X rst (canS X.K Tu)) : PSs X (stm :: rst) (canS X.K (vSeq Ts Tu)) :=
  pss_weak (pss_cons h1 h2) fun D σ H ⟨A, env, st, D3, rel, h, k⟩ => ⟨A, env, st, _, rel, h, fun A1 H1 σ1 env1 st1 g1 r1 h1 => ⟨A1, env1, st1, D3, r1, h1, k.after g1⟩, k.rt, k.bk, k.ct⟩
def vBreak : TS3 := fun D env st => D.bk env st
def vCont : TS3 := fun D env st => D.ct env st
def vDrop (T : TE3) : TS3 := fun D env st => T env st fun _ st1 => D.nx env st1
theorem qs_expr (he : PE X e (can X.K Ta)) (hs : swapsWith e none pos.line X.env = pure false := by rfl) : PS X (.Expr e pos) (canS X.K (vDrop Ta)) :=
  ps_weak (ps_expr he hs) fun D σ H ⟨A, env, st, D3, rel, h, k⟩ => ⟨A, env, st, _, rel, h, fun A1 H1 st1 x v g1 s1 e1 h1 => k.nx A1 H1 σ env st1 g1 (rel.grow g1 s1) h1⟩
def vRet (T : TE3) : TS3 := fun D env st => T env st D.rt
theorem qs_ret (he : PE X e (can X.K Ta)) : PS X (.Return (some e) pos) (canS X.K (vRet Ta)) := ps_weak (ps_ret he) fun D σ H ⟨A, env, st, D3, rel, h, k⟩ => ⟨A, env, st, _, rel, h, k.rt⟩
def vRetN : TS3 := fun D _ st => D.rt .non st
def vIfS (c : TT3) (t u : TS3) : TS3 := fun D env st => c env st fun b st1 => if b = true then t D env st1 else u D env st1
theorem qs_if (hc : PT X c (canT X.K tc)) (ha : PSs X sts (canS X.K Ts)) (hb : PSs X rst (canS X.K Tu)) : PS X (.If c sts rst pos) (canS X.K (vIfS tc Ts Tu)) := by
  refine ps_weak (ps_if hc ha hb) fun D σ H ⟨A, env, st, D3, rel, h, k⟩ => ⟨A, env, st, _, rel, h, fun A1 H1 st1 b g1 s1 h1 => ?_⟩
  cases b with
  | true => exact ⟨A1, env, st1, D3, rel.grow g1 s1, h1, k.after g1⟩
  | false => exact ⟨A1, env, st1, D3, rel.grow g1 s1, h1, k.after g1⟩
variable {Tg : TG3} {Tgs : TGs3}
def gN (i : Nat) : TG3 := fun x env st Q => Q (env.set i (some x)) st
theorem Rel.set {K : PySem.W.Frag} {A : List Addr} {H : Hp} {σ : St} {env : Env3} {st : Sto} (r : Rel K A H σ env st) (i : Nat) {x : PV} {v : V} (e : RE K A H x v) : Rel K A H (σ.set i (some v)) (env.set i (some x)) st := by
  refine ⟨r.rs, by rw [List.length_set, List.length_set]; exact r.len, fun j y h => ?_⟩
  by_cases hij : i = j
  · subst hij
    have hl : i < env.length := by have := (List.getElem?_eq_some_iff.mp h).1; simpa using this
    rw [List.getElem?_set_self hl] at h
    cases h
    exact ⟨v, List.getElem?_set_self (by rw [← r.len]; exact hl), e⟩
  · rw [List.getElem?_set_ne hij] at h
    rw [List.getElem?_set_ne hij]
    exact r.at_ j y h
theorem can_gname {K : PySem.W.Frag} {i : Nat} {v : V} {σ : St} {H : Hp} {Q : St → Hp → Prop} : canG K (gN i) v σ H Q → gName i v σ H Q := by
  rintro ⟨A, env, st, x, Q3, rel, e, h, k⟩
  exact k A H _ _ st (.refl _ _) (rel.set i e) h
theorem qg_name {i : Nat} {x : Str} (hN : X.N.Nodup) (hi : X.N[i]? = some x) (hx : Loc X.env.scope x) (hf : X.fn x = true ∨ X.env.scope.names.lookup x = some .local := by first | exact .inl rfl | exact .inr rfl | assumption) : PG X (.Name x pos) (canG X.K (gN i)) :=
  pg_weak (pg_name hN hi hx hf) fun _ _ _ _ => can_gname
def gsN : TGs3 := fun xs env st Q => match xs with | [] => Q env st | _ => False
def gsC (g : TG3) (gs : TGs3) : TGs3 := fun xs env st Q => match xs with | x :: r => g x env st fun env1 st1 => gs r env1 st1 Q | [] => False
theorem qgs_nil : PGs X [] (canGs X.K gsN) := by
  refine pgs_weak pgs_nil fun vs σ H Q ⟨A, env, st, xs, Q3, rel, e, h, k⟩ => ?_
  cases e with
  | nil => exact ⟨rfl, k A H σ env st (.refl _ _) rel h⟩
  | cons r t => exact False.elim h
theorem qgs_cons (h1 : PG X e (canG X.K Tg)) (h2 : PGs X es (canGs X.K Tgs)) (hs : (assignEach (e :: es) X.env).map (·.2) = assign e X.env :: (assignEach es X.env).map (·.2) := by rfl) : PGs X (e :: es) (canGs X.K (gsC Tg Tgs)) := by
  refine pgs_weak (pgs_cons h1 h2 hs) fun vs σ H Q ⟨A, env, st, xs, Q3, rel, e, h, k⟩ => ?_
  cases e with
  | nil => exact False.elim h
  | cons r t => exact ⟨_, _, rfl, A, env, st, _, _, rel, r, h, fun A1 H1 σ1 env1 st1 g1 r1 h1 => ⟨A1, env1, st1, _, Q3, r1, REs.grow g1 t, h1, k.after g1⟩⟩
def gT (n : Nat) (gs : TGs3) : TG3 := fun x env st Q => match x with | .tup xs => xs.length = n ∧ gs xs env st Q | .lst xs => xs.length = n ∧ gs xs env st Q | _ => False
theorem RVs.res {K : PySem.W.Frag} {A : List Addr} {H : Hp} {xs : List PV} {vs : List V} : RVs K A H xs vs → REs K A H xs vs
  | .nil => .nil
  | .cons r t => .cons (.val r) (RVs.res t)
theorem qg_tup {k : Nat} {n : Nat} (hc : X.calm = true) (h : PGs X es (canGs X.K Tgs)) (hn : (assignEach es X.env).length = n := by rfl) (hst : (assignEach es X.env).findIdx? (·.1) = none := by rfl)
    (hn2 : (assignEach es X.env).length = n := by rfl) (hst2 : (assignEach es X.env).findIdx? (·.1) = none := by rfl) : PG X (.Tuple es k pos) (canG X.K (gT n Tgs)) := by
  refine ⟨fun pins s σ H v u Q I r ⟨A, env, st, x, Q3, rel, e, q, k⟩ => ?_⟩
  cases e with
  | obj e => exact False.elim q
  | val e =>
    cases e with
    | tup t z rs => exact (pg_tup hc h hn hst) pins s σ H _ u Q I r ⟨_, _, rfl, t.sq, by rw [← rs.len]; exact q.1, A, env, st, _, Q3, rel, rs.res, q.2, k⟩
    | lst t z rs => exact (pg_lst hc h hn hst) pins s σ H _ u Q I r ⟨_, _, rfl, t.sq, by rw [← rs.len]; exact q.1, A, env, st, _, Q3, rel, rs.res, q.2, k⟩
    | _ => exact False.elim q
def vAsg (T : TE3) (g : TG3) : TS3 := fun D env st => T env st fun x st1 => g x env st1 D.nx
theorem can_asg {K : PySem.W.Frag} {D : Ends} {σ : St} {H : Hp} : canS K (vAsg Ta Tg) D σ H → tAsg (can K Ta) (canG K Tg) D σ H := by
  rintro ⟨A, env, st, D3, rel, h, k⟩
  exact ⟨A, env, st, _, rel, h, fun A1 H1 st1 x v g1 s1 e1 h1 => ⟨A1, env, st1, x, D3.nx, rel.grow g1 s1, e1, h1, k.nx.after g1⟩⟩
theorem qs_asg {tg : Expr} (he : PE X e (can X.K Ta)) (hg : PG X tg (canG X.K Tg)) (hs : swapsWithSole [tg] e pos.line X.env = pure false := by rfl) (hw : swappedStores [tg] e X.env = pure none := by rfl)
    (h1 : (assignEach [tg] X.env).map (·.2) = [assign tg X.env] := by rfl) : PS X (.Assign [tg] e pos) (canS X.K (vAsg Ta Tg)) := ps_weak (ps_asg he hg hs hw h1) fun _ _ _ => can_asg
theorem qs_set {i : Nat} {x : Str} {pos' : Pos} (hN : X.N.Nodup) (hi : X.N[i]? = some x) (hx : Loc X.env.scope x) (he : PE X e (can X.K Ta)) (hs : swapsWith e (some (.Name x pos')) pos.line X.env = pure false := by rfl) (hf : X.fn x = true ∨ X.env.scope.names.lookup x = some .local := by first | exact .inl rfl | exact .inr rfl | assumption) :
    PS X (.Assign [.Name x pos'] e pos) (canS X.K (vAsg Ta (gN i))) := by
  refine ps_weak (ps_set hN hi hx he hs hf) fun D σ H h => ?_
  obtain ⟨A, env, st, Q3, rel, h, k⟩ := can_asg h
  exact ⟨A, env, st, Q3, rel, h, fun A1 H1 st1 r v g s e q => can_gname (k A1 H1 st1 r v g s e q)⟩
def vPar (i j : Nat) (T : TA3) : TS3 := fun D env st => T env st fun xs st1 => match xs with | [x, y] => D.nx ((env.set i (some x)).set j (some y)) st1 | _ => False
end
end L3
set_option Elab.async false
set_option linter.all false
set_option maxRecDepth 100000
set_option maxHeartbeats 4000000
namespace L3
open PySem PySem.Spec PyProof.Rows L2
def withS : Src → Sto → Prop → Prop
  | none, _, P => P
  | some (i, o), st, P => st[i]? = some o ∧ P
theorem withS.of {src : Src} {st : Sto} {P : Prop} (h : withS src st P) : P := by
  cases src with
  | none => exact h
  | some q => exact h.2
def okS : Src → Sto → Prop
  | none, _ => True
  | some (i, o), st => st[i]? = some o
theorem withS.ok {src : Src} {st : Sto} {P : Prop} (h : withS src st P) : okS src st := by
  cases src with
  | none => exact trivial
  | some q => exact h.1
structure ItOk (K : PySem.W.Frag) (A : List Addr) (H : Hp) (src : Src) (J : It) (xs : List PV) : Prop where
  go : ∀ (i : Nat) A' H' st, Grow A H A' H' → RS K A' H' st → okS src st → i < xs.length → J.go i H'
  yld : ∀ (i : Nat) (x : PV) A' H' st v H2, xs[i]? = some x → Grow A H A' H' → RS K A' H' st → okS src st → J.yld i H' v H2 → Grow A' H' A' H2 ∧ RS K A' H2 st ∧ RE K A' H2 x v
  stop : ∀ A' H' st, Grow A H A' H' → RS K A' H' st → okS src st → J.stop xs.length H'
  small : xs.length ≤ sizeLine
def canI (K : PySem.W.Frag) (I : TI3) : TI := fun σ H R => ∃ A env st Q3, Rel K A H σ env st ∧ I env st Q3 ∧ ∀ A' H' st' src xs J, Grow A H A' H' → RS K A' H' st' → ItOk K A' H' src J xs → Q3 src xs st' → R J H'
def ForW (g : TG3) (b : TS3) (src : Src) (xs : List PV) (D : Ends3) (env : Env3) (st : Sto) : Prop := ∃ P : Nat → Env3 → Sto → Prop, P 0 env st ∧
  (∀ i x env st, xs[i]? = some x → P i env st → withS src st (g x env st fun e s => b { D with nx := P (i + 1), ct := P (i + 1), bk := D.nx } e s)) ∧ (∀ env st, P xs.length env st → withS src st (D.nx env st))
def vFor (I : TI3) (g : TG3) (b : TS3) : TS3 := fun D env st => I env st fun src xs st1 => ForW g b src xs D env st1
section
variable {X : Cx} {a b c e tg iter : Expr} {es : List Expr} {pos p : Pos} {Ta Tb : TE3} {TA : TA3} {tc : TT3} {Ti : TI3} {Tg : TG3} {Ts : TS3} {body : List Stmt}
theorem pi_weak {wi wi' : TI} (h : PI X tg iter wi) (w : ∀ σ H R, wi' σ H R → wi σ H R) : PI X tg iter wi' := ⟨fun pins s σ H R I q => h pins s σ H R I (w σ H R q)⟩
theorem qs_for (hp : PassesOwn (model X.prog X.w) X.A X.env X.xe) (hc : X.calm = true) (hi : PI X tg iter (canI X.K Ti)) (hg : PG X tg (canG X.K Tg)) (hb : PSs X body (canS X.K Ts))
    (hs : ∀ x, foldedSetIterable iter X.env x = pure x := by intro _; rfl) : PS X (.For tg iter body [] pos) (canS X.K (vFor Ti Tg Ts)) := by
  refine ps_weak (ps_for hp hc hi hg hb hs) fun D σ H ⟨A, env, st, D3, rel, h, k⟩ => ⟨A, env, st, _, rel, h, fun A1 H1 st1 src xs J g1 s1 it h1 => ?_⟩
  obtain ⟨P, p0, hP, hE⟩ := h1
  refine ⟨fun i m σ' H' => m = xs.length - i ∧ i ≤ xs.length ∧ ∃ A' env' st', Grow A1 H1 A' H' ∧ Rel X.K A' H' σ' env' st' ∧ P i env' st', ⟨_, rfl, Nat.zero_le _, A1, env, st1, .refl _ _, rel.grow g1 s1, p0⟩, ?_⟩
  rintro i m σ' H' ⟨rfl, hi, A', env', st', g', rel', p'⟩
  by_cases hlt : i < xs.length
  · have hx : xs[i]? = some xs[i] := List.getElem?_eq_getElem hlt
    have hw := hP i _ env' st' hx p'
    refine .inr ⟨it.go i A' H' st' g' rel'.rs hw.ok hlt, fun σ2 H2 => i + 1 ≤ xs.length ∧ ∃ A' env' st', Grow A1 H1 A' H2 ∧ Rel X.K A' H2 σ2 env' st' ∧ P (i + 1) env' st', fun σ2 H2 q => ⟨_, by omega, rfl, q⟩, fun v H2 y => ?_⟩
    obtain ⟨g2, s2, e2⟩ := it.yld i _ A' H' st' v H2 hx g' rel'.rs hw.ok y
    refine ⟨A', env', st', _, _, rel'.grow g2 s2, e2, hw.of, fun A3 H3 σ3 env3 st3 g3 r3 h3 => ?_⟩
    have gg := g'.trans (g2.trans g3)
    have k3 := k.after (g1.trans gg)
    exact ⟨A3, env3, st3, _, r3, h3, fun A4 H4 σ4 env4 st4 g4 r4 h4 => ⟨hlt, A4, env4, st4, gg.trans g4, r4, h4⟩, k3.rt, k3.nx, fun A4 H4 σ4 env4 st4 g4 r4 h4 => ⟨hlt, A4, env4, st4, gg.trans g4, r4, h4⟩⟩
  · have e : i = xs.length := by omega
    subst e
    have hw := hE env' st' p'
    exact .inl ⟨it.stop A' H' st' g' rel'.rs hw.ok, k.nx A' H' σ' env' st' (g1.trans g') rel' hw.of⟩
def CompW3 (own : Nat) (g : TG3) (tt : TT3) (el : TE3) (src : Src) (xs : List PV) (Q : List PV → Sto → Prop) (env : Env3) (st : Sto) : Prop := ∃ P : Nat → List PV → Env3 → Sto → Prop, P 0 [] (env ++ List.replicate own none) st ∧
  (∀ i x ys env st, xs[i]? = some x → P i ys env st → withS src st (g x env st fun e s => tt e s fun b s2 => if b = true then el e s2 fun y s3 => noObj y = true ∧ P (i + 1) (ys ++ [y]) e s3 else P (i + 1) ys e s2)) ∧
  (∀ ys env st, P xs.length ys env st → withS src st (Q ys st))
def vComp (own : Nat) (I : TI3) (g : TG3) (tt : TT3) (el : TE3) : TE3 := fun env st Q => I env st fun src xs st1 => CompW3 own g tt el src xs (fun ys st2 => Q (.lst ys) st2) env st1
def vCompO (own : Nat) (I : TI3) (g : TG3) (tt : TT3) (el : TE3) : TE3 := fun env st Q => I env st fun src xs st1 => CompW3 own g tt el src xs (fun ys st2 => Q (.obj st2.length) (st2 ++ [.lst ys])) env st1
def vYes : TT3 := fun _ st Q => Q true st
theorem qf_nil : PF X [] (canT X.K vYes) := pf_weak pf_nil fun σ H Q ⟨A, env, st, Q3, rel, h, k⟩ => k A H st true (.refl _ _) rel.rs h
theorem qf_one (h : PT X c (canT X.K tc)) : PF X [c] (canT X.K tc) := pf_one h
theorem Rel.more {K : PySem.W.Frag} {A : List Addr} {H : Hp} {σ : St} {env : Env3} {st : Sto} (r : Rel K A H σ env st) (n : Nat) : Rel K A H (σ ++ List.replicate n none) (env ++ List.replicate n none) st := by
  refine ⟨r.rs, by rw [List.length_append, List.length_append, r.len, List.length_replicate, List.length_replicate], fun i x h => ?_⟩
  by_cases hi : i < env.length
  · rw [List.getElem?_append_left hi] at h
    rw [List.getElem?_append_left (by rw [← r.len]; exact hi)]
    exact r.at_ i x h
  · rw [List.getElem?_append_right (by omega), List.getElem?_replicate] at h
    split at h <;> cases h
theorem can_compW {K : PySem.W.Frag} {own : Nat} {g : TG3} {tt : TT3} {el : TE3} {src : Src} {xs : List PV} {Q3 : List PV → Sto → Prop} {Q : VK} {A : List Addr} {H : Hp} {σ : St} {env : Env3} {st : Sto} {J : It} (rel : Rel K A H σ env st) (it : ItOk K A H src J xs)
    (h : CompW3 own g tt el src xs Q3 env st) (k : ∀ A' H' st' ys vs, Grow A H A' H' → RS K A' H' st' → RVs K A' H' ys vs → vs.length ≤ sizeLine → Q3 ys st' → ∀ D, H' D = none → Q (.ref D) (upd H' D (.lst vs))) : CompW own J (canG K g) (canT K tt) (can K el) Q σ H := by
  obtain ⟨P, p0, hP, hE⟩ := h
  refine ⟨fun i m vs σ' H' => m = xs.length - i ∧ i ≤ xs.length ∧ vs.length ≤ i ∧ ∃ A' env' st' ys, Grow A H A' H' ∧ Rel K A' H' σ' env' st' ∧ RVs K A' H' ys vs ∧ P i ys env' st', ⟨_, rfl, Nat.zero_le _, Nat.le_refl _, A, _, st, [], .refl _ _, rel.more own, .nil, p0⟩, ?_⟩
  rintro i m vs σ' H' ⟨rfl, hi, hv, A', env', st', ys, g', rel', rv, p'⟩
  by_cases hlt : i < xs.length
  · have hx : xs[i]? = some xs[i] := List.getElem?_eq_getElem hlt
    have hw := hP i _ ys env' st' hx p'
    refine .inr ⟨it.go i A' H' st' g' rel'.rs hw.ok hlt, Nat.lt_of_lt_of_le (Nat.lt_of_le_of_lt hv hlt) it.small, fun vs σ2 H2 => i + 1 ≤ xs.length ∧ vs.length ≤ i + 1 ∧ ∃ A' env' st' ys, Grow A H A' H2 ∧ Rel K A' H2 σ2 env' st' ∧ RVs K A' H2 ys vs ∧ P (i + 1) ys env' st', fun vs σ2 H2 q => ⟨_, by omega, rfl, q⟩, fun v H2 y => ?_⟩
    obtain ⟨g2, s2, e2⟩ := it.yld i _ A' H' st' v H2 hx g' rel'.rs hw.ok y
    refine ⟨A', env', st', _, _, rel'.grow g2 s2, e2, hw.of, fun A3 H3 σ3 env3 st3 g3 r3 h3 => ⟨A3, env3, st3, _, r3, h3, fun A4 H4 st4 b g4 s4 h4 => ?_⟩⟩
    have gg := g2.trans (g3.trans g4)
    cases b with
    | false => exact ⟨hlt, by omega, A4, env3, st4, ys, g'.trans gg, r3.grow g4 s4, rv.grow gg, h4⟩
    | true =>
      refine ⟨A4, env3, st4, _, r3.grow g4 s4, h4, fun A5 H5 st5 y v5 g5 s5 e5 h5 => ⟨hlt, by rw [List.length_append, List.length_singleton]; omega, A5, env3, st5, ys ++ [y], g'.trans (gg.trans g5), (r3.grow g4 s4).grow g5 s5, ?_, h5.2⟩⟩
      exact (rv.grow (gg.trans g5)).append (.cons (e5.rv h5.1) .nil)
  · have e : i = xs.length := by omega
    subst e
    have hw := hE ys env' st' p'
    have hz := Nat.le_trans hv it.small
    exact .inl ⟨it.stop A' H' st' g' rel'.rs hw.ok, hz, k A' H' st' ys vs g' rel'.rs rv hz hw.of⟩
variable {N' own : List Str} {scope : Scope} {ifs : List Expr} {target : Expr} {te : TE3} {tt : TT3}
theorem can_comp {K : PySem.W.Frag} {own : Nat} {σ : St} {H : Hp} {Q : VK} : can K (vComp own Ti Tg tt te) σ H Q → tComp own (canI K Ti) (canG K Tg) (canT K tt) (can K te) σ H Q := by
  rintro ⟨A, env, st, Q3, rel, h, k⟩
  refine ⟨A, env, st, _, rel, h, fun A1 H1 st1 src xs J g1 s1 it h1 => can_compW (rel.grow g1 s1) it h1 fun A2 H2 st2 ys vs g2 s2 r2 hz q D hD => ?_⟩
  exact k A2 _ st2 _ _ (g1.trans (g2.trans (.new hD))) (s2.new hD) (.val (.lst (.inl ⟨.inl upd_same, s2.fresh hD⟩) hz (r2.grow (.new hD)))) q
theorem q_comp {pos : Pos} (S : CompScope X scope N' own) (hc : X.calm = true) (hi : PI X target iter (canI X.K Ti))
    (hg : ∀ C s H fp pins, PG (cxC X scope (N' ++ own) C s H fp pins) target (canG X.K Tg)) (ht : ∀ C s H fp pins, PF (cxC X scope (N' ++ own) C s H fp pins) ifs (canT X.K tt)) (he : ∀ C s H fp pins, PE (cxC X scope (N' ++ own) C s H fp pins) a (can X.K te))
    (hs : ∀ x, foldedSetIterable iter X.env x = pure x := by intro _; rfl) : PE X (.ListComp a [⟨target, iter, ifs, 0⟩] scope pos) (can X.K (vComp own.length Ti Tg tt te)) := pe_weak (pe_comp S hc hi hg ht he hs) fun _ _ _ => can_comp
theorem it_lst {K : PySem.W.Frag} {A : List Addr} {H : Hp} {a : Addr} {xs : List PV} {vs : List V} (t : LstAt K A H a vs) (hz : vs.length ≤ sizeLine) (r : RVs K A H xs vs) : ItOk K A H none (Itl K a) xs where
  go := fun i A' H' st g s _ hi => by
    rw [r.len] at hi
    exact ⟨vs, vs[i], (t.grow g).sq, by simp [hi]⟩
  yld := fun i x A' H' st v H2 hx g s _ y => by
    obtain ⟨rfl, y⟩ := y
    obtain ⟨w, ew, rw'⟩ := r.get hx
    have := y vs (t.grow g).sq
    rw [ew] at this; cases this
    exact ⟨.refl _ _, s, .val (rw'.grow g)⟩
  stop := fun A' H' st g s _ => ⟨vs, (t.grow g).sq, by rw [r.len]; exact Nat.le_refl _⟩
  small := by rw [r.len]; exact hz
theorem it_tup {K : PySem.W.Frag} {A : List Addr} {H : Hp} {a : Addr} {xs : List PV} {vs : List V} (t : TupAt K A H a vs) (hz : vs.length ≤ sizeLine) (r : RVs K A H xs vs) : ItOk K A H none (Itt K a) xs where
  go := fun i A' H' st g s _ hi => by
    rw [r.len] at hi
    exact ⟨vs, vs[i], (t.grow g).sq, by simp [hi]⟩
  yld := fun i x A' H' st v H2 hx g s _ y => by
    obtain ⟨rfl, y⟩ := y
    obtain ⟨w, ew, rw'⟩ := r.get hx
    have := y vs (t.grow g).sq
    rw [ew] at this; cases this
    exact ⟨.refl _ _, s, .val (rw'.grow g)⟩
  stop := fun A' H' st g s _ => ⟨vs, (t.grow g).sq, by rw [r.len]; exact Nat.le_refl _⟩
  small := by rw [r.len]; exact hz
theorem it_obj {K : PySem.W.Frag} {A : List Addr} {H : Hp} {i : Nat} {a : Addr} {xs : List PV} (e : A[i]? = some a) (hz : xs.length ≤ sizeLine) : ItOk K A H (some (i, .lst xs)) (Itl K a) xs where
  go := fun j A' H' st g s ok hi => by
    obtain ⟨vs, h, r, _⟩ := s.at_ i a _ (g.sub e) ok
    rw [r.len] at hi
    exact ⟨vs, vs[j], .of h, by simp [hi]⟩
  yld := fun j x A' H' st v H2 hx g s ok y => by
    obtain ⟨rfl, y⟩ := y
    obtain ⟨vs, h, r, _⟩ := s.at_ i a _ (g.sub e) ok
    obtain ⟨w, ew, rw'⟩ := r.get hx
    have := y vs (.of h)
    rw [ew] at this; cases this
    exact ⟨.refl _ _, s, .val rw'⟩
  stop := fun A' H' st g s ok => by
    obtain ⟨vs, h, r, _⟩ := s.at_ i a _ (g.sub e) ok
    exact ⟨vs, .of h, by rw [r.len]; exact Nat.le_refl _⟩
  small := hz
def rngL (lo : Int) (n : Nat) : List PV := (List.range n).map fun i : Nat => .int (lo + (i : Int))
theorem rngL_len (lo : Int) (n : Nat) : (rngL lo n).length = n := by unfold rngL; rw [List.length_map, List.length_range]
theorem rngL_at {lo : Int} {n i : Nat} {x : PV} (h : (rngL lo n)[i]? = some x) : i < n ∧ x = .int (lo + i) := by
  have hi := (List.getElem?_eq_some_iff.mp h).1
  rw [rngL_len] at hi
  unfold rngL at h
  rw [List.getElem?_map, List.getElem?_range hi] at h
  exact ⟨hi, (Option.some.inj h).symm⟩
theorem it_rng {K : PySem.W.Frag} {A : List Addr} {H : Hp} {lo : Int} {n : Nat} (hz : n ≤ sizeLine) : ItOk K A H none (Itr lo n) (rngL lo n) where
  go := fun i A' H' st g s _ hi => by rw [rngL_len] at hi; exact hi
  yld := fun i x A' H' st v H2 hx g s _ y => by
    obtain ⟨rfl, rfl⟩ := y
    obtain ⟨_, rfl⟩ := rngL_at hx
    exact ⟨.refl _ _, s, .val (.int _)⟩
  stop := fun A' H' st g s _ => by rw [rngL_len]; exact Nat.le_refl n
  small := by rw [rngL_len]; exact hz
def iRng (T : TA3) : TI3 := fun env st Q => T env st fun xs st1 => match xs with
  | [.int j] => (-1000000 ≤ j ∧ j ≤ 1000000) ∧ Q none (rngL 0 j.toNat) st1
  | _ => False
def iRngB (T : TA3) : TI3 := fun env st Q => T env st fun xs st1 => match xs with
  | [.int i, .int j] => (-1000000 ≤ i ∧ i ≤ 1000000 ∧ -1000000 ≤ j ∧ j ≤ 1000000) ∧ Q none (rngL i (j - i).toNat) st1
  | _ => False
end
end L3
set_option Elab.async false
set_option linter.all false
set_option maxRecDepth 100000
set_option maxHeartbeats 4000000
namespace L3
open PySem PySem.Spec PyProof.Rows L2
section
variable {X : Cx}
theorem op_vals {f : Value → Value → Sem Value} {R : R3}
    (h : ∀ pins s σ H A st x y v w vv ww Q3 Q, Inv X pins σ H s → RS X.K A H st → RE X.K A H x v → RE X.K A H y w → RelV v vv → RelV w ww → R x y st Q3 → Fin X.K A H Q3 Q → wpAny (model X.prog X.w) X.A (f vv ww) (EP X pins σ Q) X.xe s) : OpR X f (canR X.K R) := by
  rintro pins s σ H v w vv ww Q I rv rw ⟨A, st, x, y, Q3, rs, ex, ey, hR, k⟩
  exact h pins s σ H A st x y v w vv ww Q3 Q I rs ex ey rv rw hR k
def rSub3 : R3 := fun x y st Q => match x, y with | .int i, .int j => Q (.int (i - j)) st | _, _ => False
def rMul3 : R3 := fun x y st Q => match x, y with
  | .int i, .int j => ((-(2 ^ 64) < i ∧ i < 2 ^ 64) ∨ (-(2 ^ 64) < j ∧ j < 2 ^ 64)) ∧ Q (.int (i * j)) st
  | .str z, .int n => if n = 0 then Q (.str Str.empty) st else n = 1 ∧ Q (.str z) st
  | _, _ => False
def rMod3 : R3 := fun x y st Q => match x, y with | .int i, .int j => 0 < j ∧ Q (.int (i % j)) st | _, _ => False
def rDiv3 : R3 := fun x y st Q => match x, y with | .int i, .int j => (0 < j ∧ j < 1099511627776) ∧ Q (.int (i / j)) st | _, _ => False
def rPow3 : R3 := fun x y st Q => match x, y with | .int i, .int j => CPow i j ∧ Q (.int (i ^ j.toNat)) st | _, _ => False
theorem op_fdivW {X : Cx} : OpR X (binaryOp .FloorDiv) (rI (fun _ j => 0 < j ∧ j < 1099511627776) fun i j => .int (i / j)) := opI fun i j _ _ _ _ _ hc q => by
  have e : i.fdiv j = i / j := Int.fdiv_eq_ediv_of_nonneg _ (by omega)
  rw [← e] at q
  refine PyProof.Rows.floordiv_int (by omega) q (.inl (PyProof.noPylong_of_log2 ?_))
  by_cases z : j.natAbs = 0
  · rw [z]; decide
  · have := (Nat.log2_lt z).mpr (show j.natAbs < 2 ^ 40 by omega)
    omega
theorem ints_of {K : PySem.W.Frag} {A : List Addr} {H : Hp} {i : Int} {v : V} (e : RE K A H (.int i) v) : v = .int i := by
  cases e with | val e => cases e; rfl
theorem strs_of {K : PySem.W.Frag} {A : List Addr} {H : Hp} {i : Str} {v : V} (e : RE K A H (.str i) v) : v = .str i := by
  cases e with | val e => cases e; rfl
theorem bls_of {K : PySem.W.Frag} {A : List Addr} {H : Hp} {i : Bool} {v : V} (e : RE K A H (.bl i) v) : v = .bl i := by
  cases e with | val e => cases e; rfl
theorem o_sub : OpR X (binaryOp .Sub) (canR X.K rSub3) := op_vals fun pins s σ H A st x y v w vv ww Q3 Q I rs ex ey rv rw h k => by
  unfold rSub3 at h
  split at h
  · cases ints_of ex; cases ints_of ey
    exact op_sub pins s σ H _ _ vv ww Q I rv rw ⟨_, _, rfl, rfl, k.now rs (.val (.int _)) h⟩
  · exact h.elim
theorem o_mul : OpR X (binaryOp .Mult) (canR X.K rMul3) := op_vals fun pins s σ H A st x y v w vv ww Q3 Q I rs ex ey rv rw h k => by
  unfold rMul3 at h
  split at h
  · cases ints_of ex; cases ints_of ey
    exact op_mul pins s σ H _ _ vv ww Q I rv rw ⟨_, _, rfl, rfl, h.1, k.now rs (.val (.int _)) h.2⟩
  · cases strs_of ex; cases ints_of ey
    rename_i z n
    by_cases hn : n = 0
    · rw [if_pos hn] at h
      exact op_mulS pins s σ H _ _ vv ww Q I rv rw ⟨_, _, rfl, rfl, .inl ⟨hn, k.now rs (.val (.str _)) h⟩⟩
    · rw [if_neg hn] at h
      exact op_mulS pins s σ H _ _ vv ww Q I rv rw ⟨_, _, rfl, rfl, .inr ⟨h.1, k.now rs (.val (.str _)) h.2⟩⟩
  · exact h.elim
theorem o_mod : OpR X (binaryOp .Mod) (canR X.K rMod3) := op_vals fun pins s σ H A st x y v w vv ww Q3 Q I rs ex ey rv rw h k => by
  unfold rMod3 at h
  split at h
  · cases ints_of ex; cases ints_of ey
    exact op_mod pins s σ H _ _ vv ww Q I rv rw ⟨_, _, rfl, rfl, h.1, k.now rs (.val (.int _)) h.2⟩
  · exact h.elim
theorem o_div : OpR X (binaryOp .FloorDiv) (canR X.K rDiv3) := op_vals fun pins s σ H A st x y v w vv ww Q3 Q I rs ex ey rv rw h k => by
  unfold rDiv3 at h
  split at h
  · cases ints_of ex; cases ints_of ey
    exact op_fdivW pins s σ H _ _ vv ww Q I rv rw ⟨_, _, rfl, rfl, h.1, k.now rs (.val (.int _)) h.2⟩
  · exact h.elim
theorem o_pow : OpR X (binaryOp .Pow) (canR X.K rPow3) := op_vals fun pins s σ H A st x y v w vv ww Q3 Q I rs ex ey rv rw h k => by
  unfold rPow3 at h
  split at h
  · cases ints_of ex; cases ints_of ey
    exact op_pow pins s σ H _ _ vv ww Q I rv rw ⟨_, _, rfl, rfl, h.1, k.now rs (.val (.int _)) h.2⟩
  · exact h.elim
def rNeg3 : PV → Sto → K3 → Prop := fun x st Q => match x with | .int i => Q (.int (-i)) st | _ => False
theorem o_neg : UnR X (unaryOp .USub) (canU X.K rNeg3) := by
  rintro pins s σ H v vv Q I rv ⟨A, st, x, Q3, rs, ex, h, k⟩
  unfold rNeg3 at h
  split at h
  · cases ints_of ex
    exact un_neg pins s σ H _ vv Q I rv ⟨_, rfl, k.now rs (.val (.int _)) h⟩
  · exact h.elim
def rCmp3 (f : Int → Int → Bool) : R3 := fun x y st Q => match x, y with | .int i, .int j => Q (.bl (f i j)) st | _, _ => False
theorem o_cmp {op : CmpOp} {f : Int → Int → Bool} (ho : OpR X (compareOp op) (rI0 fun i j => .bl (f i j))) : OpR X (compareOp op) (canR X.K (rCmp3 f)) := op_vals fun pins s σ H A st x y v w vv ww Q3 Q I rs ex ey rv rw h k => by
  unfold rCmp3 at h
  split at h
  · cases ints_of ex; cases ints_of ey
    exact ho pins s σ H _ _ vv ww Q I rv rw ⟨_, _, rfl, rfl, k.now rs (.val (.bl _)) h⟩
  · exact h.elim
theorem o_lt : OpR X (compareOp .Lt) (canR X.K (rCmp3 fun i j => decide (i < j))) := o_cmp op_lt
theorem o_gt : OpR X (compareOp .Gt) (canR X.K (rCmp3 fun i j => decide (j < i))) := o_cmp op_gt
theorem o_ge : OpR X (compareOp .GtE) (canR X.K (rCmp3 fun i j => decide (j ≤ i))) := o_cmp op_ge
def isNon : PV → Bool
  | .non => true
  | _ => false
def rIsN3 : R3 := fun x y st Q => match y with | .non => Q (.bl (isNon x)) st | _ => False
def rNotN3 : R3 := fun x y st Q => match y with | .non => Q (.bl (!isNon x)) st | _ => False
theorem isNon_eq {K : PySem.W.Frag} {A : List Addr} {H : Hp} {x : PV} {v : V} (e : RE K A H x v) : decide (v = .non) = isNon x := by
  cases e with
  | obj e => rfl
  | val e => cases e <;> rfl
theorem o_isN : OpR X (compareOp .Is) (canR X.K rIsN3) := op_vals fun pins s σ H A st x y v w vv ww Q3 Q I rs ex ey rv rw h k => by
  unfold rIsN3 at h
  split at h
  · have hw : w = .non := by cases ey with | val e => cases e; rfl
    exact op_isN pins s σ H _ _ vv ww Q I rv rw ⟨hw, by rw [isNon_eq ex]; exact k.now rs (.val (.bl _)) h⟩
  · exact h.elim
theorem o_notN : OpR X (compareOp .IsNot) (canR X.K rNotN3) := op_vals fun pins s σ H A st x y v w vv ww Q3 Q I rs ex ey rv rw h k => by
  unfold rNotN3 at h
  split at h
  · have hw : w = .non := by cases ey with | val e => cases e; rfl
    exact op_notN pins s σ H _ _ vv ww Q I rv rw ⟨hw, by rw [isNon_eq ex]; exact k.now rs (.val (.bl _)) h⟩
  · exact h.elim
theorem op_catG : OpR X (binaryOp .Add) (fun x y H Q => ∃ a b xs ys, x = .ref a ∧ y = .ref b ∧ SqT X.K H a xs ∧ SqT X.K H b ys ∧ xs.length + ys.length ≤ sizeLine ∧
    (xs = [] → Q (.ref b) H) ∧ (ys = [] → Q (.ref a) H) ∧ ∀ p, H p = none → Q (.ref p) (upd H p (.tup (xs ++ ys)))) := by
  intro pins s σ H x y v u Q I rx ry h
  obtain ⟨a, b, xs, ys, rfl, rfl, ha, hb, hz, q1, q2, q3⟩ := h
  by_cases hx : xs = []
  · cases rx; cases ry
    subst hx
    obtain ⟨its, r1, p1, _⟩ := I.tuple ha
    obtain ⟨its2, r2, p2, _⟩ := I.tuple hb
    have hv : its = [] := r1.nil_iff.mpr rfl
    subst hv
    obtain ⟨⟨cls, dd, data, sl⟩, ho, hc, n, hd⟩ := id p1
    obtain ⟨⟨cls2, dd2, data2, sl2⟩, ho2, hc2, n2, hd2⟩ := id p2
    simp only at hc hd hc2 hd2
    subst hc hd hc2 hd2
    exact concat_meets ⟨_, ho, rfl⟩ ⟨_, ho2, rfl⟩ noFill_tuple_add seq_tuple_add PySem.F.slot_tuple_add PySem.F.entry_tuple_add (PySem.F.args_tuple_add_2 _ _)
      (tuple_addW0 a b _ its2.toArray n n2 dd dd2 sl sl2 (by simp)) ⟨ho, ho2, ⟨.ref b, H, I, rfl, q1 rfl⟩⟩
  · exact op_catT pins s σ H _ _ v u Q I rx ry ⟨a, b, _, _, rfl, rfl, ha, hb, hx, hz, q2, fun _ => q3⟩
def rAdd3 : R3 := fun x y st Q => match x, y with
  | .int i, .int j => Q (.int (i + j)) st
  | .str i, .str j => i.length + j.length ≤ sizeLine ∧ Q (.str (i ++ j)) st
  | .tup xs, .tup ys => xs.length + ys.length ≤ sizeLine ∧ Q (.tup (xs ++ ys)) st
  | .lst xs, .lst ys => xs.length + ys.length ≤ sizeLine ∧ Q (.lst (xs ++ ys)) st
  | _, _ => False
theorem RVs.nil_iff {K : PySem.W.Frag} {A : List Addr} {H : Hp} {xs : List PV} {vs : List V} (h : RVs K A H xs vs) : vs = [] → xs = [] := by
  cases h with
  | nil => exact fun _ => rfl
  | cons r t => exact fun z => nomatch z
theorem Fin.tup {K : PySem.W.Frag} {A : List Addr} {H : Hp} {Q3 : K3} {Q : VK} {st : Sto} {xs : List PV} {vs : List V} (k : Fin K A H Q3 Q) (rs : RS K A H st) (r : RVs K A H xs vs) (hz : vs.length ≤ sizeLine) (q : Q3 (.tup xs) st) : ∀ p, H p = none → Q (.ref p) (upd H p (.tup vs)) :=
  fun p hp => k A _ st _ _ (.new hp) (rs.new hp) (.val (.tup (.inl ⟨.inl upd_same, rs.fresh hp⟩) hz (r.grow (.new hp)))) q
theorem Fin.lst {K : PySem.W.Frag} {A : List Addr} {H : Hp} {Q3 : K3} {Q : VK} {st : Sto} {xs : List PV} {vs : List V} (k : Fin K A H Q3 Q) (rs : RS K A H st) (r : RVs K A H xs vs) (hz : vs.length ≤ sizeLine) (q : Q3 (.lst xs) st) : ∀ p, H p = none → Q (.ref p) (upd H p (.lst vs)) :=
  fun p hp => k A _ st _ _ (.new hp) (rs.new hp) (.val (.lst (.inl ⟨.inl upd_same, rs.fresh hp⟩) hz (r.grow (.new hp)))) q
theorem Fin.lstO {K : PySem.W.Frag} {A : List Addr} {H : Hp} {Q3 : K3} {Q : VK} {st : Sto} {xs : List PV} {vs : List V} (k : Fin K A H Q3 Q) (rs : RS K A H st) (r : RVs K A H xs vs) (hz : vs.length ≤ sizeLine) (q : Q3 (.obj st.length) (st ++ [.lst xs])) : ∀ p, H p = none → Q (.ref p) (upd H p (.lst vs)) :=
  fun p hp => k (A ++ [p]) _ _ _ _ (.newObj hp) (rs.newObj (q := .lst xs) hp ⟨vs, upd_same, r.grow (.newObj hp), hz⟩) (.obj (objAt rs.len)) q
theorem op_catL : OpR X (binaryOp .Add) (fun x y H Q => ∃ a b xs ys, x = .ref a ∧ y = .ref b ∧ SqL X.K H a xs ∧ SqL X.K H b ys ∧ xs.length + ys.length ≤ sizeLine ∧ ∀ p, H p = none → Q (.ref p) (upd H p (.lst (xs ++ ys)))) := by
  intro pins s σ H x y v u Q I rx ry h
  obtain ⟨a, b, xs, ys, rfl, rfl, ha, hb, hz, q⟩ := h
  cases rx; cases ry
  obtain ⟨its, n, r1, e, _⟩ := I.listX ha
  obtain ⟨its2, n2, r2, e2, _⟩ := I.listX hb
  have l1 := r1.length; have l2 := r2.length
  refine PySem.P.add_list e e2 ?_ (by rw [List.size_toArray, List.size_toArray]; omega)
  have ea : its.toArray ++ its2.toArray = (its ++ its2).toArray := by simp
  rw [ea]
  exact ⟨.ref _, _, I.lnew (t' := s.toks) (r1.append r2) (by rw [List.length_append]; omega), rfl, q _ I.fresh⟩
theorem o_add : OpR X (binaryOp .Add) (canR X.K rAdd3) := op_vals fun pins s σ H A st x y v w vv ww Q3 Q I rs ex ey rv rw h k => by
  unfold rAdd3 at h
  split at h
  · cases ints_of ex; cases ints_of ey
    exact op_add pins s σ H _ _ vv ww Q I rv rw ⟨_, _, rfl, rfl, k.now rs (.val (.int _)) h⟩
  · cases strs_of ex; cases strs_of ey
    exact op_add_str pins s σ H _ _ vv ww Q I rv rw ⟨_, _, rfl, rfl, h.1, k.now rs (.val (.str _)) h.2⟩
  · cases ex with | val ex => cases ey with | val ey => cases ex with | tup t z r => cases ey with | tup t2 z2 r2 =>
      have hl : _ := h.1
      rw [r.len, r2.len] at hl
      refine op_catG pins s σ H _ _ vv ww Q I rv rw ⟨_, _, _, _, rfl, rfl, t.sq, t2.sq, hl, fun e => ?_, fun e => ?_, k.tup rs (r.append r2) (by rw [List.length_append]; exact hl) h.2⟩
      · have e2 := r.nil_iff e
        subst e2
        exact k.now rs (.val (.tup t2 z2 r2)) h.2
      · have e2 := r2.nil_iff e
        subst e2
        refine k.now rs (.val (.tup t z r)) ?_
        have := h.2
        rw [List.append_nil] at this
        exact this
  · cases ex with | val ex => cases ey with | val ey => cases ex with | lst t z r => cases ey with | lst t2 z2 r2 =>
      have hl : _ := h.1
      rw [r.len, r2.len] at hl
      exact op_catL pins s σ H _ _ vv ww Q I rv rw ⟨_, _, _, _, rfl, rfl, t.sq, t2.sq, hl, k.lst rs (r.append r2) (by rw [List.length_append]; exact hl) h.2⟩
  · exact h.elim
end
end L3
set_option Elab.async false
set_option linter.all false
set_option maxRecDepth 100000
set_option maxHeartbeats 4000000
namespace L3
open PySem PySem.Spec PyProof.Rows L2
mutual
def eqP : PV → PV → Bool
  | .non, .non => true
  | .bl a, .bl b => a == b
  | .bl a, .int b => (if a then 1 else 0) == b
  | .int a, .bl b => a == (if b then 1 else 0)
  | .int a, .int b => a == b
  | .str a, .str b => a == b
  | .tup xs, .tup ys => eqPs xs ys
  | .lst xs, .lst ys => eqPs xs ys
  | _, _ => false
def eqPs : List PV → List PV → Bool
  | [], [] => true
  | x :: xs, y :: ys => eqP x y && eqPs xs ys
  | _, _ => false
end
mutual
def dpt : PV → Nat
  | .tup xs => dpts xs + 1
  | .lst xs => dpts xs + 1
  | .dct _ => 1000
  | .itb _ => 1000
  | .clo _ => 1000
  | .ty _ => 1000
  | .obj _ => 1000
  | _ => 0
def dpts : List PV → Nat
  | [] => 0
  | x :: xs => max (dpt x) (dpts xs)
end
theorem dpts_at : ∀ {xs : List PV} {i : Nat} {x : PV}, xs[i]? = some x → dpt x ≤ dpts xs
  | y :: ys, 0, x, h => by simp at h; subst h; unfold dpts; exact Nat.le_max_left _ _
  | y :: ys, i + 1, x, h => by
    have := dpts_at (xs := ys) (i := i) (x := x) (by simpa using h)
    unfold dpts; exact Nat.le_trans this (Nat.le_max_right _ _)
mutual
theorem eqP_refl : ∀ (x : PV), dpt x < 1000 → eqP x x = true
  | .non, _ => by unfold eqP; rfl
  | .bl b, _ => by unfold eqP; simp
  | .int i, _ => by unfold eqP; simp
  | .str s, _ => by unfold eqP; simp
  | .tup xs, h => by unfold eqP; exact eqPs_refl xs (by unfold dpt at h; omega)
  | .lst xs, h => by unfold eqP; exact eqPs_refl xs (by unfold dpt at h; omega)
  | .dct _, h => by unfold dpt at h; omega
  | .itb _, h => by unfold dpt at h; omega
  | .clo _, h => by unfold dpt at h; omega
  | .ty _, h => by unfold dpt at h; omega
  | .obj _, h => by unfold dpt at h; omega
theorem eqPs_refl : ∀ (xs : List PV), dpts xs < 1000 → eqPs xs xs = true
  | [], _ => by unfold eqPs; rfl
  | x :: xs, h => by
    unfold dpts at h
    unfold eqPs
    rw [eqP_refl x (by omega), eqPs_refl xs (by omega)]; rfl
end
theorem eqPs_all : ∀ (xs ys : List PV), eqPs xs ys = ((List.range (min xs.length ys.length)).all (fun j => match xs[j]?, ys[j]? with | some x, some y => eqP x y | _, _ => true) && xs.length == ys.length)
  | [], [] => by unfold eqPs; rfl
  | [], y :: ys => by unfold eqPs; simp
  | x :: xs, [] => by unfold eqPs; simp
  | x :: xs, y :: ys => by
    unfold eqPs
    rw [eqPs_all xs ys]
    rw [List.length_cons, List.length_cons, Nat.succ_min_succ, List.range_succ_eq_map, List.all_cons, List.all_map]
    simp only [List.getElem?_cons_zero, Bool.and_assoc]
    congr 1
    have e : ((fun j => match (x :: xs)[j]?, (y :: ys)[j]? with | some x, some y => eqP x y | _, _ => true) ∘ Nat.succ) = fun j => match xs[j]?, ys[j]? with | some x, some y => eqP x y | _, _ => true := by
      funext j; simp
    rw [e]
    congr 1
    rw [Bool.eq_iff_iff]; simp
section
variable {X : Cx} {pins : List (Addr × Obj)} {σ : St} {H : Hp} {s : Shared} {A : List Addr}
theorem Inv.lst_tup (I : Inv X pins σ H s) {a : Addr} {xs ys : List V} (h1 : SqL X.K H a xs) (h2 : SqT X.K H a ys) : False := by
  obtain ⟨its, _, p, _⟩ := I.list h1
  obtain ⟨its2, _, p2, _⟩ := I.tuple h2
  exact SeqAt.ne_of_list_tuple p.isList p2 rfl
mutual
theorem RV.inj (I : Inv X pins σ H s) {x y : PV} {v : V} (a : RV X.K A H x v) (b : RV X.K A H y v) (h1 : dpt x < 1000) (h2 : dpt y < 1000) : x = y := by
  cases a with
  | non => cases b; rfl
  | bl _ => cases b; rfl
  | int _ => cases b; rfl
  | str _ => cases b; rfl
  | ty _ => cases b; rfl
  | tup t z r =>
    cases b with
    | tup t2 z2 r2 =>
      have e := I.tuple_inj t.sq t2.sq
      subst e
      rw [RVs.inj2 I r r2 (by unfold dpt at h1; omega) (by unfold dpt at h2; omega)]
    | lst t2 z2 r2 => exact (Inv.lst_tup I t2.sq t.sq).elim
    | dct _ _ _ => unfold dpt at h2; omega
    | itb _ _ => unfold dpt at h2; omega
    | clo _ => unfold dpt at h2; omega
  | lst t z r =>
    cases b with
    | lst t2 z2 r2 =>
      have e := I.list_inj t.sq t2.sq
      subst e
      rw [RVs.inj2 I r r2 (by unfold dpt at h1; omega) (by unfold dpt at h2; omega)]
    | tup t2 z2 r2 => exact (Inv.lst_tup I t.sq t2.sq).elim
    | dct _ _ _ => unfold dpt at h2; omega
    | itb _ _ => unfold dpt at h2; omega
    | clo _ => unfold dpt at h2; omega
  | dct _ _ _ => unfold dpt at h1; omega
  | itb _ _ => unfold dpt at h1; omega
  | clo _ => unfold dpt at h1; omega
theorem RVs.inj2 (I : Inv X pins σ H s) {xs ys : List PV} {vs : List V} (a : RVs X.K A H xs vs) (b : RVs X.K A H ys vs) (h1 : dpts xs < 1000) (h2 : dpts ys < 1000) : xs = ys := by
  cases a with
  | nil => cases b; rfl
  | cons r t =>
    cases b with
    | cons r2 t2 =>
      unfold dpts at h1 h2
      rw [RV.inj I r r2 (by omega) (by omega), RVs.inj2 I t t2 (by omega) (by omega)]
end
theorem items_at {n : Nat} {B : Around} {xs ys : List PV} {vs ws : List V} {its its2 : List Value} (rx : RVs X.K A H xs vs) (ry : RVs X.K A H ys ws) (r1 : Vals vs its) (r2 : Vals ws its2)
    (ih : ∀ x y v w vv ww, dpt x ≤ n → dpt y < 1000 → RV X.K A H x v → RV X.K A H y w → RelV v vv → RelV w ww → SeqAt.EqAt B s vv ww (eqP x y)) (hx : dpts xs ≤ n) (hy : dpts ys < 1000) :
    ∀ j (h1 : j < its.toArray.size) (h2 : j < its2.toArray.size), SeqAt.EqAt B s its.toArray[j] its2.toArray[j] ((fun j => match xs[j]?, ys[j]? with | some x, some y => eqP x y | _, _ => true) j) := fun j h1 h2 => by
  obtain ⟨v, ev, rv⟩ := vals_at r1 h1
  obtain ⟨w, ew, rw'⟩ := vals_at r2 h2
  obtain ⟨x, ex, rx'⟩ := rx.get' ev
  obtain ⟨y, ey, ry'⟩ := ry.get' ew
  show SeqAt.EqAt B s _ _ (match xs[j]?, ys[j]? with | some x, some y => eqP x y | _, _ => true)
  rw [ex, ey]
  exact ih x y v w _ _ (Nat.le_trans (dpts_at ex) hx) (Nat.lt_of_le_of_lt (dpts_at ey) hy) rx' ry' rv rw'
def sameSeq : PV → PV → Bool
  | .tup _, .tup _ => true
  | .lst _, .lst _ => true
  | _, _ => false
inductive Kd (s : Shared) : PV → Value → Prop
  | non : Kd s .non .none
  | bl (b : Bool) : Kd s (.bl b) (.bool b)
  | int (i : Int) (t : Tok) : Kd s (.int i) (.int i t)
  | str (z : Str) (t : Tok) : Kd s (.str z) (.str z t)
  | tup {xs : List PV} {a : Addr} {its : Array Value} : IsTup s.heap a its → Kd s (.tup xs) (.ref a)
  | lst {xs : List PV} {a : Addr} {its : Array Value} : s.heap.IsList a its → Kd s (.lst xs) (.ref a)
theorem kd_of (I : Inv X pins σ H s) {x : PV} {v : V} {vv : Value} (rx : RV X.K A H x v) (rv : RelV v vv) (h : dpt x < 1000) : Kd s x vv := by
  cases rx with
  | non => cases rv; exact .non
  | bl b => cases rv; exact .bl b
  | int i => obtain ⟨t, rfl⟩ := rv; exact .int i t
  | str z => obtain ⟨t, rfl⟩ := rv; exact .str z t
  | ty n => unfold dpt at h; omega
  | tup t z r => cases rv; obtain ⟨its, _, p, _⟩ := I.tuple t.sq; exact .tup p
  | lst t z r => cases rv; obtain ⟨its, _, p, _⟩ := I.list t.sq; exact .lst p.isList
  | dct t z r => unfold dpt at h; omega
  | itb _ _ => unfold dpt at h; omega
  | clo _ => unfold dpt at h; omega
open SeqAt in
theorem eq_kd {B : Around} (hu : B.units < cLine) : ∀ {x y : PV} {vv ww : Value}, Kd s x vv → Kd s y ww → sameSeq x y = false → EqAt B s vv ww (eqP x y)
  | _, _, _, _, .non, .non, _ => by simp only [eqP, Bool.not_false, Bool.not_true]; exact EqAt.same _
  | _, _, _, _, .non, .bl b, _ => by simp only [eqP, Bool.not_false, Bool.not_true]; exact EqAt.none_bool _
  | _, _, _, _, .non, .int b b2, _ => by simp only [eqP, Bool.not_false, Bool.not_true]; exact EqAt.none_int _ _
  | _, _, _, _, .non, .str b b2, _ => by simp only [eqP, Bool.not_false, Bool.not_true]; exact EqAt.none_str _ _
  | _, _, _, _, .non, .tup b, _ => by simp only [eqP, Bool.not_false, Bool.not_true]; exact EqAt.none_tuple b hu
  | _, _, _, _, .non, .lst b, _ => by simp only [eqP, Bool.not_false, Bool.not_true]; exact EqAt.none_list b hu
  | _, _, _, _, .bl a, .non, _ => by simp only [eqP, Bool.not_false, Bool.not_true]; exact EqAt.bool_none _
  | _, _, _, _, .bl a, .bl b, _ => by simp only [eqP, Bool.not_false, Bool.not_true]; exact EqAt.bool_bool _ _
  | _, _, _, _, .bl a, .int b b2, _ => by simp only [eqP, Bool.not_false, Bool.not_true]; exact EqAt.bool_int _ _ _
  | _, _, _, _, .bl a, .str b b2, _ => by simp only [eqP, Bool.not_false, Bool.not_true]; exact EqAt.bool_str _ _ _
  | _, _, _, _, .bl a, .tup b, _ => by simp only [eqP, Bool.not_false, Bool.not_true]; exact EqAt.bool_tuple _ b hu
  | _, _, _, _, .bl a, .lst b, _ => by simp only [eqP, Bool.not_false, Bool.not_true]; exact EqAt.bool_list _ b hu
  | _, _, _, _, .int a a2, .non, _ => by simp only [eqP, Bool.not_false, Bool.not_true]; exact EqAt.int_none _ _
  | _, _, _, _, .int a a2, .bl b, _ => by simp only [eqP, Bool.not_false, Bool.not_true]; exact EqAt.int_bool _ _ _
  | _, _, _, _, .int a a2, .int b b2, _ => by simp only [eqP, Bool.not_false, Bool.not_true]; exact EqAt.int_int _ _ _ _
  | _, _, _, _, .int a a2, .str b b2, _ => by simp only [eqP, Bool.not_false, Bool.not_true]; exact EqAt.int_str _ _ _ _
  | _, _, _, _, .int a a2, .tup b, _ => by simp only [eqP, Bool.not_false, Bool.not_true]; exact EqAt.int_tuple _ _ b hu
  | _, _, _, _, .int a a2, .lst b, _ => by simp only [eqP, Bool.not_false, Bool.not_true]; exact EqAt.int_list _ _ b hu
  | _, _, _, _, .str a a2, .non, _ => by simp only [eqP, Bool.not_false, Bool.not_true]; exact EqAt.str_none _ _
  | _, _, _, _, .str a a2, .bl b, _ => by simp only [eqP, Bool.not_false, Bool.not_true]; exact EqAt.str_bool _ _ _
  | _, _, _, _, .str a a2, .int b b2, _ => by simp only [eqP, Bool.not_false, Bool.not_true]; exact EqAt.str_int _ _ _ _
  | _, _, _, _, .str a a2, .str b b2, _ => by simp only [eqP, Bool.not_false, Bool.not_true]; exact EqAt.str_str _ _ _ _
  | _, _, _, _, .str a a2, .tup b, _ => by simp only [eqP, Bool.not_false, Bool.not_true]; exact EqAt.str_tuple _ _ b hu
  | _, _, _, _, .str a a2, .lst b, _ => by simp only [eqP, Bool.not_false, Bool.not_true]; exact EqAt.str_list _ _ b hu
  | _, _, _, _, .tup a, .non, _ => by simp only [eqP, Bool.not_false, Bool.not_true]; exact EqAt.tuple_none a hu
  | _, _, _, _, .tup a, .bl b, _ => by simp only [eqP, Bool.not_false, Bool.not_true]; exact EqAt.tuple_bool _ a hu
  | _, _, _, _, .tup a, .int b b2, _ => by simp only [eqP, Bool.not_false, Bool.not_true]; exact EqAt.tuple_int _ _ a hu
  | _, _, _, _, .tup a, .str b b2, _ => by simp only [eqP, Bool.not_false, Bool.not_true]; exact EqAt.tuple_str _ _ a hu
  | _, _, _, _, .tup _, .tup _, h => Bool.noConfusion h
  | _, _, _, _, .tup a, .lst b, _ => by simp only [eqP, Bool.not_false, Bool.not_true]; exact EqAt.tuple_list a b hu
  | _, _, _, _, .lst a, .non, _ => by simp only [eqP, Bool.not_false, Bool.not_true]; exact EqAt.list_none a hu
  | _, _, _, _, .lst a, .bl b, _ => by simp only [eqP, Bool.not_false, Bool.not_true]; exact EqAt.list_bool _ a hu
  | _, _, _, _, .lst a, .int b b2, _ => by simp only [eqP, Bool.not_false, Bool.not_true]; exact EqAt.list_int _ _ a hu
  | _, _, _, _, .lst a, .str b b2, _ => by simp only [eqP, Bool.not_false, Bool.not_true]; exact EqAt.list_str _ _ a hu
  | _, _, _, _, .lst a, .tup b, _ => by simp only [eqP, Bool.not_false, Bool.not_true]; exact EqAt.list_tuple a b hu
  | _, _, _, _, .lst _, .lst _, h => Bool.noConfusion h
open SeqAt in
theorem rc_kd {B : Around} (hu : B.units < cLine) : ∀ {x y : PV} {vv ww : Value}, Kd s x vv → Kd s y ww → sameSeq x y = false → RcAt B s vv ww (eqP x y)
  | _, _, _, _, .non, .non, _ => by simp only [eqP, Bool.not_false, Bool.not_true]; exact RcAt.none_none 
  | _, _, _, _, .non, .bl b, _ => by simp only [eqP, Bool.not_false, Bool.not_true]; exact RcAt.none_bool _
  | _, _, _, _, .non, .int b b2, _ => by simp only [eqP, Bool.not_false, Bool.not_true]; exact RcAt.none_int _ _
  | _, _, _, _, .non, .str b b2, _ => by simp only [eqP, Bool.not_false, Bool.not_true]; exact RcAt.none_str _ _
  | _, _, _, _, .non, .tup b, _ => by simp only [eqP, Bool.not_false, Bool.not_true]; exact RcAt.none_tuple b hu
  | _, _, _, _, .non, .lst b, _ => by simp only [eqP, Bool.not_false, Bool.not_true]; exact RcAt.none_list b hu
  | _, _, _, _, .bl a, .non, _ => by simp only [eqP, Bool.not_false, Bool.not_true]; exact RcAt.bool_none _
  | _, _, _, _, .bl a, .bl b, _ => by simp only [eqP, Bool.not_false, Bool.not_true]; exact RcAt.bool_bool _ _
  | _, _, _, _, .bl a, .int b b2, _ => by simp only [eqP, Bool.not_false, Bool.not_true]; exact RcAt.bool_int _ _ _
  | _, _, _, _, .bl a, .str b b2, _ => by simp only [eqP, Bool.not_false, Bool.not_true]; exact RcAt.bool_str _ _ _
  | _, _, _, _, .bl a, .tup b, _ => by simp only [eqP, Bool.not_false, Bool.not_true]; exact RcAt.bool_tuple _ b hu
  | _, _, _, _, .bl a, .lst b, _ => by simp only [eqP, Bool.not_false, Bool.not_true]; exact RcAt.bool_list _ b hu
  | _, _, _, _, .int a a2, .non, _ => by simp only [eqP, Bool.not_false, Bool.not_true]; exact RcAt.int_none _ _
  | _, _, _, _, .int a a2, .bl b, _ => by simp only [eqP, Bool.not_false, Bool.not_true]; exact RcAt.int_bool _ _ _
  | _, _, _, _, .int a a2, .int b b2, _ => by simp only [eqP, Bool.not_false, Bool.not_true]; exact RcAt.int_int _ _ _ _
  | _, _, _, _, .int a a2, .str b b2, _ => by simp only [eqP, Bool.not_false, Bool.not_true]; exact RcAt.int_str _ _ _ _
  | _, _, _, _, .int a a2, .tup b, _ => by simp only [eqP, Bool.not_false, Bool.not_true]; exact RcAt.int_tuple _ _ b hu
  | _, _, _, _, .int a a2, .lst b, _ => by simp only [eqP, Bool.not_false, Bool.not_true]; exact RcAt.int_list _ _ b hu
  | _, _, _, _, .str a a2, .non, _ => by simp only [eqP, Bool.not_false, Bool.not_true]; exact RcAt.str_none _ _
  | _, _, _, _, .str a a2, .bl b, _ => by simp only [eqP, Bool.not_false, Bool.not_true]; exact RcAt.str_bool _ _ _
  | _, _, _, _, .str a a2, .int b b2, _ => by simp only [eqP, Bool.not_false, Bool.not_true]; exact RcAt.str_int _ _ _ _
  | _, _, _, _, .str a a2, .str b b2, _ => by simp only [eqP, Bool.not_false, Bool.not_true]; exact RcAt.str_str _ _ _ _
  | _, _, _, _, .str a a2, .tup b, _ => by simp only [eqP, Bool.not_false, Bool.not_true]; exact RcAt.str_tuple _ _ b hu
  | _, _, _, _, .str a a2, .lst b, _ => by simp only [eqP, Bool.not_false, Bool.not_true]; exact RcAt.str_list _ _ b hu
  | _, _, _, _, .tup a, .non, _ => by simp only [eqP, Bool.not_false, Bool.not_true]; exact RcAt.tuple_none a hu
  | _, _, _, _, .tup a, .bl b, _ => by simp only [eqP, Bool.not_false, Bool.not_true]; exact RcAt.tuple_bool _ a hu
  | _, _, _, _, .tup a, .int b b2, _ => by simp only [eqP, Bool.not_false, Bool.not_true]; exact RcAt.tuple_int _ _ a hu
  | _, _, _, _, .tup a, .str b b2, _ => by simp only [eqP, Bool.not_false, Bool.not_true]; exact RcAt.tuple_str _ _ a hu
  | _, _, _, _, .tup _, .tup _, h => Bool.noConfusion h
  | _, _, _, _, .tup a, .lst b, _ => by simp only [eqP, Bool.not_false, Bool.not_true]; exact RcAt.tuple_list a b hu
  | _, _, _, _, .lst a, .non, _ => by simp only [eqP, Bool.not_false, Bool.not_true]; exact RcAt.list_none a hu
  | _, _, _, _, .lst a, .bl b, _ => by simp only [eqP, Bool.not_false, Bool.not_true]; exact RcAt.list_bool _ a hu
  | _, _, _, _, .lst a, .int b b2, _ => by simp only [eqP, Bool.not_false, Bool.not_true]; exact RcAt.list_int _ _ a hu
  | _, _, _, _, .lst a, .str b b2, _ => by simp only [eqP, Bool.not_false, Bool.not_true]; exact RcAt.list_str _ _ a hu
  | _, _, _, _, .lst a, .tup b, _ => by simp only [eqP, Bool.not_false, Bool.not_true]; exact RcAt.list_tuple a b hu
  | _, _, _, _, .lst _, .lst _, h => Bool.noConfusion h
open SeqAt in
theorem rn_kd {B : Around} (hu : B.units < cLine) : ∀ {x y : PV} {vv ww : Value}, Kd s x vv → Kd s y ww → sameSeq x y = false → RcNeAt B s vv ww (!eqP x y)
  | _, _, _, _, .non, .non, _ => by simp only [eqP, Bool.not_false, Bool.not_true]; exact RcNeAt.none_none 
  | _, _, _, _, .non, .bl b, _ => by simp only [eqP, Bool.not_false, Bool.not_true]; exact RcNeAt.none_bool _
  | _, _, _, _, .non, .int b b2, _ => by simp only [eqP, Bool.not_false, Bool.not_true]; exact RcNeAt.none_int _ _
  | _, _, _, _, .non, .str b b2, _ => by simp only [eqP, Bool.not_false, Bool.not_true]; exact RcNeAt.none_str _ _
  | _, _, _, _, .non, .tup b, _ => by simp only [eqP, Bool.not_false, Bool.not_true]; exact RcNeAt.none_tuple b hu
  | _, _, _, _, .non, .lst b, _ => by simp only [eqP, Bool.not_false, Bool.not_true]; exact RcNeAt.none_list b hu
  | _, _, _, _, .bl a, .non, _ => by simp only [eqP, Bool.not_false, Bool.not_true]; exact RcNeAt.bool_none _
  | _, _, _, _, .bl a, .bl b, _ => by simp only [eqP, Bool.not_false, Bool.not_true]; exact RcNeAt.bool_bool _ _
  | _, _, _, _, .bl a, .int b b2, _ => by simp only [eqP, Bool.not_false, Bool.not_true]; exact RcNeAt.bool_int _ _ _
  | _, _, _, _, .bl a, .str b b2, _ => by simp only [eqP, Bool.not_false, Bool.not_true]; exact RcNeAt.bool_str _ _ _
  | _, _, _, _, .bl a, .tup b, _ => by simp only [eqP, Bool.not_false, Bool.not_true]; exact RcNeAt.bool_tuple _ b hu
  | _, _, _, _, .bl a, .lst b, _ => by simp only [eqP, Bool.not_false, Bool.not_true]; exact RcNeAt.bool_list _ b hu
  | _, _, _, _, .int a a2, .non, _ => by simp only [eqP, Bool.not_false, Bool.not_true]; exact RcNeAt.int_none _ _
  | _, _, _, _, .int a a2, .bl b, _ => by simp only [eqP, Bool.not_false, Bool.not_true]; exact RcNeAt.int_bool _ _ _
  | _, _, _, _, .int a a2, .int b b2, _ => by simp only [eqP, Bool.not_false, Bool.not_true]; exact RcNeAt.int_int _ _ _ _
  | _, _, _, _, .int a a2, .str b b2, _ => by simp only [eqP, Bool.not_false, Bool.not_true]; exact RcNeAt.int_str _ _ _ _
  | _, _, _, _, .int a a2, .tup b, _ => by simp only [eqP, Bool.not_false, Bool.not_true]; exact RcNeAt.int_tuple _ _ b hu
  | _, _, _, _, .int a a2, .lst b, _ => by simp only [eqP, Bool.not_false, Bool.not_true]; exact RcNeAt.int_list _ _ b hu
  | _, _, _, _, .str a a2, .non, _ => by simp only [eqP, Bool.not_false, Bool.not_true]; exact RcNeAt.str_none _ _
  | _, _, _, _, .str a a2, .bl b, _ => by simp only [eqP, Bool.not_false, Bool.not_true]; exact RcNeAt.str_bool _ _ _
  | _, _, _, _, .str a a2, .int b b2, _ => by simp only [eqP, Bool.not_false, Bool.not_true]; exact RcNeAt.str_int _ _ _ _
  | _, _, _, _, .str a a2, .str b b2, _ => by simp only [eqP, Bool.not_false, Bool.not_true]; exact RcNeAt.str_str _ _ _ _
  | _, _, _, _, .str a a2, .tup b, _ => by simp only [eqP, Bool.not_false, Bool.not_true]; exact RcNeAt.str_tuple _ _ b hu
  | _, _, _, _, .str a a2, .lst b, _ => by simp only [eqP, Bool.not_false, Bool.not_true]; exact RcNeAt.str_list _ _ b hu
  | _, _, _, _, .tup a, .non, _ => by simp only [eqP, Bool.not_false, Bool.not_true]; exact RcNeAt.tuple_none a hu
  | _, _, _, _, .tup a, .bl b, _ => by simp only [eqP, Bool.not_false, Bool.not_true]; exact RcNeAt.tuple_bool _ a hu
  | _, _, _, _, .tup a, .int b b2, _ => by simp only [eqP, Bool.not_false, Bool.not_true]; exact RcNeAt.tuple_int _ _ a hu
  | _, _, _, _, .tup a, .str b b2, _ => by simp only [eqP, Bool.not_false, Bool.not_true]; exact RcNeAt.tuple_str _ _ a hu
  | _, _, _, _, .tup _, .tup _, h => Bool.noConfusion h
  | _, _, _, _, .tup a, .lst b, _ => by simp only [eqP, Bool.not_false, Bool.not_true]; exact RcNeAt.tuple_list a b hu
  | _, _, _, _, .lst a, .non, _ => by simp only [eqP, Bool.not_false, Bool.not_true]; exact RcNeAt.list_none a hu
  | _, _, _, _, .lst a, .bl b, _ => by simp only [eqP, Bool.not_false, Bool.not_true]; exact RcNeAt.list_bool _ a hu
  | _, _, _, _, .lst a, .int b b2, _ => by simp only [eqP, Bool.not_false, Bool.not_true]; exact RcNeAt.list_int _ _ a hu
  | _, _, _, _, .lst a, .str b b2, _ => by simp only [eqP, Bool.not_false, Bool.not_true]; exact RcNeAt.list_str _ _ a hu
  | _, _, _, _, .lst a, .tup b, _ => by simp only [eqP, Bool.not_false, Bool.not_true]; exact RcNeAt.list_tuple a b hu
  | _, _, _, _, .lst _, .lst _, h => Bool.noConfusion h
theorem seq_cases (x y : PV) : sameSeq x y = false ∨ (∃ xs ys, x = .tup xs ∧ y = .tup ys) ∨ ∃ xs ys, x = .lst xs ∧ y = .lst ys := by
  cases x <;> cases y <;> first | exact .inl rfl | exact .inr (.inl ⟨_, _, rfl, rfl⟩) | exact .inr (.inr ⟨_, _, rfl, rfl⟩)
theorem range_min {xs ys : List PV} {n m : Nat} (h1 : xs.length = n) (h2 : ys.length = m) : ((List.range (min n m)).all (fun j => match xs[j]?, ys[j]? with | some x, some y => eqP x y | _, _ => true) && n == m) = eqPs xs ys := by
  subst h1 h2; exact (eqPs_all xs ys).symm
theorem range_same {xs ys : List PV} {n m : Nat} (h1 : xs.length = n) (h2 : ys.length = m) (h : n = m) : (List.range n).all (fun j => match xs[j]?, ys[j]? with | some x, some y => eqP x y | _, _ => true) = eqPs xs ys := by
  rw [eqPs_all, h1, h2, ← h, Nat.min_self]; simp
theorem eqPs_len {xs ys : List PV} (h : xs.length ≠ ys.length) : eqPs xs ys = false := by
  rw [eqPs_all]; simp [h]
theorem eq_at (I : Inv X pins σ H s) : ∀ (n : Nat) (B : Around) (x y : PV) (v w : V) (vv ww : Value), B.units + n < cLine → dpt x ≤ n → n < 1000 → dpt y < 1000 → RV X.K A H x v → RV X.K A H y w → RelV v vv → RelV w ww → SeqAt.EqAt B s vv ww (eqP x y) := by
  intro n
  induction n with
  | zero =>
    intro B x y v w vv ww hu hx hn hy rx ry rv rw
    refine eq_kd (by omega) (kd_of I rx rv (by omega)) (kd_of I ry rw hy) ?_
    cases x <;> first | (unfold dpt at hx; omega) | rfl
  | succ n ih =>
    intro B x y v w vv ww hu hx hn hy rx ry rv rw
    rcases seq_cases x y with h | ⟨xs, ys, rfl, rfl⟩ | ⟨xs, ys, rfl, rfl⟩
    · exact eq_kd (by omega) (kd_of I rx rv (by omega)) (kd_of I ry rw hy) h
    · cases rx with | tup t z r => cases ry with | tup t2 z2 r2 =>
        rename_i a vs b ws
        cases rv; cases rw
        by_cases hab : a = b
        · subst hab
          have e := RV.inj I (.tup t z r) (.tup t2 z2 r2) (by omega) hy
          rw [e, eqP_refl _ hy]
          exact SeqAt.EqAt.same _
        · obtain ⟨its, r3, p, _⟩ := I.tuple t.sq
          obtain ⟨its2, r4, p2, _⟩ := I.tuple t2.sq
          have hh := SeqAt.RcAt.tuples (A := B) (show s.heap.IsTuple a its.toArray from p) (show s.heap.IsTuple b its2.toArray from p2) (by omega) (items_at r r2 r3 r4 (fun x y v w vv ww h1 h2 => ih B.in1 x y v w vv ww (by show B.units + 1 + n < cLine; omega) h1 (by omega) h2) (by unfold dpt at hx; omega) (by unfold dpt at hy; omega))
          rw [range_min (by rw [r.len, r3.length]; simp) (by rw [r2.len, r4.length]; simp)] at hh
          unfold eqP
          exact SeqAt.EqAt.of_refs hab hh
    · cases rx with | lst t z r => cases ry with | lst t2 z2 r2 =>
        rename_i a vs b ws
        cases rv; cases rw
        by_cases hab : a = b
        · subst hab
          have e := RV.inj I (.lst t z r) (.lst t2 z2 r2) (by omega) hy
          rw [e, eqP_refl _ hy]
          exact SeqAt.EqAt.same _
        · obtain ⟨its, r3, p, _⟩ := I.list t.sq
          obtain ⟨its2, r4, p2, _⟩ := I.list t2.sq
          have l1 : xs.length = its.toArray.size := by rw [r.len, r3.length]; simp
          have l2 : ys.length = its2.toArray.size := by rw [r2.len, r4.length]; simp
          unfold eqP
          refine SeqAt.EqAt.of_refs hab ?_
          by_cases hl : its.toArray.size = its2.toArray.size
          · have hh := SeqAt.RcAt.lists (A := B) p.isList p2.isList hl (by omega) (items_at r r2 r3 r4 (fun x y v w vv ww h1 h2 => ih B.in1 x y v w vv ww (by show B.units + 1 + n < cLine; omega) h1 (by omega) h2) (by unfold dpt at hx; omega) (by unfold dpt at hy; omega))
            rw [range_same l1 l2 hl] at hh
            exact hh
          · rw [eqPs_len (by omega)]
            exact SeqAt.RcAt.lists_lengths p.isList p2.isList (by simpa using hl) (by omega)
def rEq3 : R3 := fun x y st Q => (dpt x ≤ 50 ∧ dpt y < 1000) ∧ Q (.bl (eqP x y)) st
def rNe3 : R3 := fun x y st Q => (dpt x ≤ 50 ∧ dpt y < 1000) ∧ Q (.bl (!eqP x y)) st
theorem noObj_of {x : PV} (h : dpt x < 1000) : noObj x = true := by
  cases x <;> first | rfl | (unfold dpt at h; omega)
theorem o_eq {k : Nat} (hr : Room k X.A) : OpR X (compareOp .Eq) (canR X.K rEq3) := op_vals fun pins s σ H A st x y v w vv ww Q3 Q I rs ex ey rv rw h k => by
  obtain ⟨⟨h1, h2⟩, h⟩ := h
  have hu := hr.units
  have rx := ex.rv (noObj_of (by omega)); have ry := ey.rv (noObj_of h2)
  have fin : ∀ b, b = eqP x y → EP X pins σ Q (.bool b) s := fun b e => ⟨.bl b, H, I, rfl, by rw [e]; exact k.now rs (.val (.bl _)) h⟩
  rcases seq_cases x y with hn | ⟨xs, ys, rfl, rfl⟩ | ⟨xs, ys, rfl, rfl⟩
  · exact rc_kd (by omega) (kd_of I rx rv (by omega)) (kd_of I ry rw h2) hn _ _ _ _ (fin _ rfl)
  · cases rx with | tup t z r => cases ry with | tup t2 z2 r2 =>
      cases rv; cases rw
      obtain ⟨its, r3, p, _⟩ := I.tuple t.sq
      obtain ⟨its2, r4, p2, _⟩ := I.tuple t2.sq
      refine SeqAt.RcAt.tuples (show s.heap.IsTuple _ its.toArray from p) (show s.heap.IsTuple _ its2.toArray from p2) (by omega) (items_at (n := 50) r r2 r3 r4 (fun x y v w vv ww h1 h2 => eq_at I 50 X.A.in1 x y v w vv ww (by show X.A.units + 1 + 50 < cLine; omega) h1 (by omega) h2) (by unfold dpt at h1; omega) (by unfold dpt at h2; omega)) _ _ _ _ (fin _ ?_)
      rw [range_min (by rw [r.len, r3.length]; simp) (by rw [r2.len, r4.length]; simp)]
      unfold eqP; rfl
  · cases rx with | lst t z r => cases ry with | lst t2 z2 r2 =>
      cases rv; cases rw
      obtain ⟨its, r3, p, _⟩ := I.list t.sq
      obtain ⟨its2, r4, p2, _⟩ := I.list t2.sq
      have l1 : xs.length = its.toArray.size := by rw [r.len, r3.length]; simp
      have l2 : ys.length = its2.toArray.size := by rw [r2.len, r4.length]; simp
      by_cases hl : its.toArray.size = its2.toArray.size
      · refine SeqAt.RcAt.lists p.isList p2.isList hl (by omega) (items_at (n := 50) r r2 r3 r4 (fun x y v w vv ww h1 h2 => eq_at I 50 X.A.in1 x y v w vv ww (by show X.A.units + 1 + 50 < cLine; omega) h1 (by omega) h2) (by unfold dpt at h1; omega) (by unfold dpt at h2; omega)) _ _ _ _ (fin _ ?_)
        rw [range_same l1 l2 hl]
        unfold eqP; rfl
      · refine SeqAt.RcAt.lists_lengths p.isList p2.isList (by simpa using hl) (by omega) _ _ _ _ (fin _ ?_)
        unfold eqP; rw [eqPs_len (by omega)]
theorem o_ne {k : Nat} (hr : Room k X.A) : OpR X (compareOp .NotEq) (canR X.K rNe3) := op_vals fun pins s σ H A st x y v w vv ww Q3 Q I rs ex ey rv rw h k => by
  obtain ⟨⟨h1, h2⟩, h⟩ := h
  have hu := hr.units
  have rx := ex.rv (noObj_of (by omega)); have ry := ey.rv (noObj_of h2)
  have fin : ∀ b, b = !eqP x y → EP X pins σ Q (.bool b) s := fun b e => ⟨.bl b, H, I, rfl, by rw [e]; exact k.now rs (.val (.bl _)) h⟩
  rcases seq_cases x y with hn | ⟨xs, ys, rfl, rfl⟩ | ⟨xs, ys, rfl, rfl⟩
  · exact rn_kd (by omega) (kd_of I rx rv (by omega)) (kd_of I ry rw h2) hn _ _ _ _ (fin _ rfl)
  · cases rx with | tup t z r => cases ry with | tup t2 z2 r2 =>
      cases rv; cases rw
      obtain ⟨its, r3, p, _⟩ := I.tuple t.sq
      obtain ⟨its2, r4, p2, _⟩ := I.tuple t2.sq
      refine (SeqAt.RcNeAt.tuples (show s.heap.IsTuple _ its.toArray from p) (show s.heap.IsTuple _ its2.toArray from p2) (by omega) (items_at (n := 50) r r2 r3 r4 (fun x y v w vv ww h1 h2 => eq_at I 50 X.A.in1 x y v w vv ww (by show X.A.units + 1 + 50 < cLine; omega) h1 (by omega) h2) (by unfold dpt at h1; omega) (by unfold dpt at h2; omega))) _ _ _ _ (fin _ ?_)
      rw [range_min (by rw [r.len, r3.length]; simp) (by rw [r2.len, r4.length]; simp)]
      unfold eqP; rfl
  · cases rx with | lst t z r => cases ry with | lst t2 z2 r2 =>
      cases rv; cases rw
      obtain ⟨its, r3, p, _⟩ := I.list t.sq
      obtain ⟨its2, r4, p2, _⟩ := I.list t2.sq
      have l1 : xs.length = its.toArray.size := by rw [r.len, r3.length]; simp
      have l2 : ys.length = its2.toArray.size := by rw [r2.len, r4.length]; simp
      by_cases hl : its.toArray.size = its2.toArray.size
      · refine (SeqAt.RcNeAt.lists p.isList p2.isList hl (by omega) (items_at (n := 50) r r2 r3 r4 (fun x y v w vv ww h1 h2 => eq_at I 50 X.A.in1 x y v w vv ww (by show X.A.units + 1 + 50 < cLine; omega) h1 (by omega) h2) (by unfold dpt at h1; omega) (by unfold dpt at h2; omega))) _ _ _ _ (fin _ ?_)
        rw [range_same l1 l2 hl]
        unfold eqP; rfl
      · refine (SeqAt.RcNeAt.lists_lengths p.isList p2.isList (by simpa using hl) (by omega)) _ _ _ _ (fin _ ?_)
        unfold eqP; rw [eqPs_len (by omega)]; rfl
end
end L3
set_option Elab.async false
set_option linter.all false
set_option maxRecDepth 100000
set_option maxHeartbeats 4000000
namespace L3
open PySem PySem.Spec PyProof.Rows L2
def valP (kvs : List (Key × PV)) (k : Key) : Option PV := (kvs.find? fun kv => decide (kv.1 = k)).map (·.2)
def putP (kvs : List (Key × PV)) (k : Key) (v : PV) : List (Key × PV) :=
  if (kvs.any fun kv => decide (kv.1 = k)) = true then kvs.map (fun kv => if kv.1 = k then (kv.1, v) else kv) else kvs ++ [(k, v)]
def kOf : PV → Option Key
  | .int i => some (.inl i)
  | .str x => some (.inr x)
  | _ => none
section
variable {K : PySem.W.Frag} {A : List Addr} {H : Hp}
theorem RKs.val {k : Key} : ∀ {kvs : List (Key × PV)} {us : List (Key × V)}, RKs K A H kvs us → (∃ x v, valP kvs k = some x ∧ valV us k = some v ∧ RV K A H x v) ∨ (valP kvs k = none ∧ valV us k = none)
  | _, _, .nil => .inr ⟨rfl, rfl⟩
  | _, _, .cons (k := k') (x := x) (v := v) (xs := xs) (vs := vs) r t => by
    by_cases e : k' = k
    · refine .inl ⟨x, v, ?_, ?_, r⟩
      · unfold valP; rw [List.find?_cons, decide_eq_true e]; rfl
      · exact valV_pos e
    · have e1 : valP ((k', x) :: xs) k = valP xs k := by unfold valP; rw [List.find?_cons, decide_eq_false e]
      have e2 : valV ((k', v) :: vs) k = valV vs k := valV_neg e
      rw [e1, e2]
      exact RKs.val t
theorem RKs.any {k : Key} : ∀ {kvs : List (Key × PV)} {us : List (Key × V)}, RKs K A H kvs us → (us.any fun kv => decide (kv.1 = k)) = (kvs.any fun kv => decide (kv.1 = k))
  | _, _, .nil => rfl
  | _, _, .cons r t => by rw [List.any_cons, List.any_cons, RKs.any t]
theorem RKs.map {k : Key} {x : PV} {v : V} (r : RV K A H x v) : ∀ {kvs : List (Key × PV)} {us : List (Key × V)}, RKs K A H kvs us → RKs K A H (kvs.map fun kv => if kv.1 = k then (kv.1, x) else kv) (us.map fun kv => if kv.1 = k then (kv.1, v) else kv)
  | _, _, .nil => .nil
  | _, _, .cons (k := k') r' t => by
    rw [List.map_cons, List.map_cons]
    by_cases e : k' = k
    · rw [if_pos e, if_pos e]; exact .cons r (RKs.map r t)
    · rw [if_neg e, if_neg e]; exact .cons r' (RKs.map r t)
theorem RKs.append : ∀ {a b : List (Key × PV)} {c d : List (Key × V)}, RKs K A H a c → RKs K A H b d → RKs K A H (a ++ b) (c ++ d)
  | _, _, _, _, .nil, h => h
  | _, _, _, _, .cons r t, h => .cons r (RKs.append t h)
theorem RKs.put {k : Key} {x : PV} {v : V} (r : RV K A H x v) {kvs : List (Key × PV)} {us : List (Key × V)} (h : RKs K A H kvs us) : RKs K A H (putP kvs k x) (putK us k v) := by
  unfold putP putK
  rw [h.any]
  split
  · exact h.map r
  · exact h.append (.cons r .nil)
theorem key_of3 {y : PV} {w : V} {k : Key} (e : RE K A H y w) (h : kOf y = some k) : w = kV k := by
  cases e with
  | obj e => cases h
  | val e => cases e <;> first | cases h; rfl | cases h
end
section
variable {X : Cx} {a b e : Expr} {es : List Expr} {pos p2 : Pos} {Ta Tb : TE3} {TA : TA3}
def rIx3 : R3 := fun x y st Q => match x with
  | .tup xs => match y with | .int i => (match atI xs i with | some z => Q z st | none => False) | _ => False
  | .lst xs => match y with | .int i => (match atI xs i with | some z => Q z st | none => False) | _ => False
  | .str z => match y with | .int i => z.length ≤ sizeLine ∧ (match atI z.cps.toList i with | some c => Q (.str ⟨#[c]⟩) st | none => False) | _ => False
  | .dct kvs => (match kOf y with | some k => (match valP kvs k with | some z => Q z st | none => False) | none => False)
  | .obj n => (match st[n]? with
    | some (.lst xs) => (match y with | .int i => (match atI xs i with | some z => Q z st | none => False) | _ => False)
    | some (.dct kvs) => (match kOf y with | some k => (match valP kvs k with | some z => Q z st | none => False) | none => False)
    | _ => False)
  | _ => False
theorem RVs.atI {K : PySem.W.Frag} {A : List Addr} {H : Hp} {xs : List PV} {vs : List V} {i : Int} {x : PV} (r : RVs K A H xs vs) (h : L2.atI xs i = some x) : ∃ v, L2.atI vs i = some v ∧ RV K A H x v := by
  unfold L2.atI at h ⊢
  rw [← r.len]
  cases e : ixN xs.length i with
  | none => rw [e] at h; cases h
  | some j => rw [e] at h; exact r.get h
theorem ix_dict {k : Nat} (hr : Room k X.A) : IxR X (fun x y H Q => ∃ a v, x = .ref a ∧ DGet H a y (some v) ∧ Q v H) := by
  intro value slice pins s σ H x y vv ww Q I rx ry h hs
  obtain ⟨a, v, rfl, g, q⟩ := h
  cases rx
  have hT := dict_typeIs I g
  unfold subscriptTail
  refine wpAny_bind ?_
  rw [getitemInPython_of_ne hT.not_modules]
  refine wpAny_bind (wpAny_specialOf hT PySem.F.slot_dict_getitem.lookup ?_)
  have fin : wpAny (model X.prog X.w) X.A (subscripted slice false (.ref a) ww) (fun r s₃ => wpAny (model X.prog X.w) X.A (letTemporaryGo value (.ref a) r >>= fun _ => pure r) (EP X pins σ Q) X.xe s₃) X.xe s := by
    rw [hs]
    exact wpAny_operating (d_getItem (by have := hr.units; omega) I g ry fun w' s3 I3 rw' => wpAny_bind (wpAny_letTemporaryGo (wpAny_pure ⟨v, H, I3, rw', q⟩)))
  first
    | exact wpAny_pure (wpAny_bind fin)
    | exact wpAny_bind (wpAny_pure (wpAny_bind fin))
    | exact wpAny_bind fin
theorem o_ix {k : Nat} (hr : Room k X.A) : IxR X (canR X.K rIx3) := by
  intro value slice pins s σ H v w vv ww Q I rv rw ⟨A, st, x, y, Q3, rs, ex, ey, h, k⟩ hs
  unfold rIx3 at h
  split at h
  · -- tuples
    cases ex with | val ex => cases ex with | tup t z r =>
      split at h
      · cases ints_of ey
        split at h
        · rename_i i q z' e
          obtain ⟨v', e', r'⟩ := r.atI e
          exact ix_tup value slice pins s σ H _ _ vv ww Q I rv rw ⟨_, _, _, _, rfl, rfl, t.sq, e', k.now rs (.val r') h⟩ hs
        · exact h.elim
      · exact h.elim
  · cases ex with | val ex => cases ex with | lst t z r =>
      split at h
      · cases ints_of ey
        split at h
        · rename_i i q z' e
          obtain ⟨v', e', r'⟩ := r.atI e
          exact ix_list value slice pins s σ H _ _ vv ww Q I rv rw ⟨_, _, _, _, rfl, rfl, t.sq, e', k.now rs (.val r') h⟩ hs
        · exact h.elim
      · exact h.elim
  · cases strs_of ex
    split at h
    · cases ints_of ey
      obtain ⟨hz, h⟩ := h
      split at h
      · rename_i i q c e
        exact ix_str value slice pins s σ H _ _ vv ww Q I rv rw ⟨_, _, _, rfl, rfl, hz, e, k.now rs (.val (.str _)) h⟩ hs
      · exact h.elim
    · exact h.elim
  · cases ex with | val ex => cases ex with | dct t z r =>
      split at h
      · rename_i kk ek
        split at h
        · rename_i z' e
          rcases r.val (k := kk) with ⟨x', v', e1, e2, r'⟩ | ⟨e1, e2⟩
          · rw [e] at e1; cases e1
            exact ix_dict hr value slice pins s σ H _ _ vv ww Q I rv rw ⟨_, v', rfl, .inl ⟨_, kk, .inl t.1, key_of3 ey ek, e2.symm⟩, k.now rs (.val r') h⟩ hs
          · rw [e] at e1; cases e1
        · exact h.elim
      · exact h.elim
  · cases ex with
    | val ex => cases ex
    | obj eo =>
      split at h
      · rename_i n xs q
        obtain ⟨vs, h1, r, hzz⟩ := rs.at_ _ _ _ eo q
        split at h
        · cases ints_of ey
          split at h
          · rename_i i q z' e
            obtain ⟨v', e', r'⟩ := r.atI e
            exact ix_list value slice pins s σ H _ _ vv ww Q I rv rw ⟨_, _, _, _, rfl, rfl, .of h1, e', k.now rs (.val r') h⟩ hs
          · exact h.elim
        · exact h.elim
      · rename_i n kvs q
        obtain ⟨us, h1, r, hzz⟩ := rs.at_ _ _ _ eo q
        split at h
        · rename_i kk ek
          split at h
          · rename_i z' e
            rcases r.val (k := kk) with ⟨x', v', e1, e2, r'⟩ | ⟨e1, e2⟩
            · rw [e] at e1; cases e1
              exact ix_dict hr value slice pins s σ H _ _ vv ww Q I rv rw ⟨_, v', rfl, .inl ⟨_, kk, .inl h1, key_of3 ey ek, e2.symm⟩, k.now rs (.val r') h⟩ hs
            · rw [e] at e1; cases e1
          · exact h.elim
        · exact h.elim
      · exact h.elim
  · exact h.elim
def rSet3 : PV → PV → PV → Sto → (Sto → Prop) → Prop := fun o i v st Q => match o with
  | .obj n => (match st[n]? with
    | some (.lst xs) => (match i with | .int k => noObj v = true ∧ (match ixN xs.length k with | some j => Q (st.set n (.lst (xs.set j v))) | none => False) | _ => False)
    | some (.dct kvs) => (match kOf i with | some k => noObj v = true ∧ kvs.length < sizeLine ∧ Q (st.set n (.dct (putP kvs k v))) | none => False)
    | _ => False)
  | _ => False
def canSet (K : PySem.W.Frag) : V → V → V → Hp → (Hp → Prop) → Prop := fun o i v H Q => ∃ A st x y z Q3, RS K A H st ∧ RE K A H x o ∧ RE K A H y i ∧ RE K A H z v ∧ rSet3 x y z st Q3 ∧ ∀ A' H' st', Grow A H A' H' → RS K A' H' st' → Q3 st' → Q H'
theorem RVs.set {K : PySem.W.Frag} {A : List Addr} {H : Hp} {x : PV} {v : V} (rx : RV K A H x v) : ∀ {xs : List PV} {vs : List V} (j : Nat), RVs K A H xs vs → RVs K A H (xs.set j x) (vs.set j v)
  | _, _, _, .nil => .nil
  | _, _, 0, .cons _ t => .cons rx t
  | _, _, j + 1, .cons r t => .cons r (RVs.set rx j t)
theorem s_item {k : Nat} (hr : Room k X.A) : PSet X (canSet X.K) := by
  intro pins s σ H o i v ov iv u Q I ro ri rv ⟨A, st, x, y, z, Q3, rs, ex, ey, ez, h, k⟩
  unfold rSet3 at h
  split at h
  · cases ex with
    | val ex => cases ex
    | obj eo =>
      have hm := List.mem_of_getElem? eo
      split at h
      · rename_i n xs q
        obtain ⟨vs, h1, r, hzz⟩ := rs.at_ _ _ _ eo q
        split at h
        · cases ints_of ey
          obtain ⟨hz, h⟩ := h
          split at h
          · rename_i kk q2 j e
            rw [r.len] at e
            exact set_list pins s σ H _ _ _ ov iv u Q I ro ri rv ⟨_, vs, _, j, rfl, rfl, h1, e, k A _ _ (.put hm) (rs.put (q := .lst (xs.set j z)) eo ⟨_, upd_same, RVs.set ((ez.rv hz).grow (.put hm)) j (r.grow (.put hm)), by rw [List.length_set]; exact hzz⟩) h⟩
          · exact h.elim
        · exact h.elim
      · rename_i n kvs q
        obtain ⟨us, h1, r, hzz⟩ := rs.at_ _ _ _ eo q
        split at h
        · rename_i kk ek
          obtain ⟨hz, hl, h⟩ := h
          cases ro
          refine d_setItem (by have := hr.units; omega) I (.inl ⟨us, kk, h1, key_of3 ey ek, by rw [← r.len]; exact hl, rfl⟩) ri rv fun s' I' => ⟨_, I', k A _ _ (.put hm) (rs.put (q := .dct (putP kvs kk z)) eo ⟨_, upd_same, RKs.put ((ez.rv hz).grow (.put hm)) (r.grow (.put hm)), Nat.le_trans (length_putK us kk v) (by rw [← r.len]; exact hl)⟩) h⟩
        · exact h.elim
      · exact h.elim
  · exact h.elim
def gS (To Ti : TE3) : TG3 := fun v env st Q => To env st fun o st1 => Ti env st1 fun i st2 => rSet3 o i v st2 fun st3 => Q env st3
theorem qg_sub {k : Nat} (hr : Room k X.A) (ho : PE X a (can X.K Ta)) (hi : PE X b (can X.K Tb))
    (ha : ∀ v, assign (.Subscript a b pos) X.env v = (do
      let ov ← holding [v] (eval a X.env)
      let iv ← holding [v, ov] (eval b X.env)
      standAt pos
      holding [v, ov, iv] (setItem ov iv v)
      release [v, ov, iv] []) := by intro _; rfl) : PG X (.Subscript a b pos) (canG X.K (gS Ta Tb)) :=
  pg_weak (pg_sub ho hi (s_item hr) ha) fun v σ H Q ⟨A, env, st, x, Q3, rel, e, h, k⟩ => ⟨A, env, st, _, rel, h, fun A1 H1 st1 o v1 g1 s1 e1 h1 => ⟨A1, env, st1, _, rel.grow g1 s1, h1, fun A2 H2 st2 i v2 g2 s2 e2 h2 =>
    ⟨A2, st2, o, i, x, _, s2, e1.grow g2, e2, e.grow (g1.trans g2), h2, fun A3 H3 st3 g3 s3 h3 => k A3 H3 σ env st3 ((g1.trans g2).trans g3) (rel.grow ((g1.trans g2).trans g3) s3) h3⟩⟩⟩
theorem REs.one {K : PySem.W.Frag} {A : List Addr} {H : Hp} {x : PV} {vs : List V} (h : REs K A H [x] vs) : ∃ v, vs = [v] ∧ RE K A H x v := by
  cases h with
  | cons r t => cases t; exact ⟨_, rfl, r⟩
theorem REs.two {K : PySem.W.Frag} {A : List Addr} {H : Hp} {x y : PV} {vs : List V} (h : REs K A H [x, y] vs) : ∃ v w, vs = [v, w] ∧ RE K A H x v ∧ RE K A H y w := by
  cases h with
  | cons r t => obtain ⟨w, rfl, e⟩ := REs.one t; exact ⟨_, w, rfl, r, e⟩
def lenP : PV → Sto → (Nat → Prop) → Prop
  | .tup xs, _, k => k xs.length
  | .lst xs, _, k => k xs.length
  | .dct xs, _, k => False
  | .str z, _, k => z.length ≤ sizeLine ∧ k z.length
  | .obj i, st, k => match st[i]? with | some (.lst xs) => k xs.length | some (.dct kvs) => k kvs.length | _ => False
  | _, _, _ => False
def rLen3 : Sp3 := fun xs st Q => match xs with | [x] => lenP x st fun n => Q (.int n) st | _ => False
theorem o_len : CallR X (.builtin "len") (canL X.K rLen3) := by
  intro pins s σ H vs us Q I rv ⟨A, st, xs, Q3, rs, ex, h, k⟩
  unfold rLen3 at h
  split at h
  · rename_i x
    obtain ⟨v, rfl, ex1⟩ := REs.one ex
    have fin : ∀ {n : Nat}, Q3 (.int n) st → Q (.int n) H := fun q => k.now rs (.val (.int _)) q
    cases ex1 with
    | obj eo =>
      dsimp only [lenP] at h
      split at h
      · rename_i q
        obtain ⟨vs, h1, r, hzz⟩ := rs.at_ _ _ _ eo q
        exact call_len pins s σ H _ us Q I rv ⟨_, _, rfl, .inl ⟨_, .of h1, rfl⟩, by rw [← r.len]; exact fin h⟩
      · rename_i q
        obtain ⟨vs, h1, r, hzz⟩ := rs.at_ _ _ _ eo q
        exact call_lenD pins s σ H _ us Q I rv ⟨_, _, rfl, h1, by rw [← r.len]; exact fin h⟩
      · exact h.elim
    | val e =>
      cases e with
      | str z => exact call_len pins s σ H _ us Q I rv ⟨_, _, rfl, ⟨h.1, rfl⟩, fin h.2⟩
      | tup t z r => exact call_len pins s σ H _ us Q I rv ⟨_, _, rfl, .inr ⟨_, t.sq, rfl⟩, by rw [← r.len]; exact fin h⟩
      | lst t z r => exact call_len pins s σ H _ us Q I rv ⟨_, _, rfl, .inl ⟨_, t.sq, rfl⟩, by rw [← r.len]; exact fin h⟩
      | _ => exact False.elim h
  · exact h.elim
def rTuple3 : Sp3 := fun xs st Q => match xs with
  | [.lst ys] => Q (.tup ys) st
  | [.tup ys] => Q (.tup ys) st
  | [.obj i] => (match st[i]? with | some (.lst ys) => Q (.tup ys) st | some (.dct kvs) => Q (.tup (kvs.map fun q => match q.1 with | .inl i => .int i | .inr z => .str z)) st | _ => False)
  | _ => False
theorem keys_rv {K : PySem.W.Frag} {A : List Addr} {H : Hp} : ∀ {kvs : List (Key × PV)} {us : List (Key × V)}, RKs K A H kvs us → RVs K A H (kvs.map fun q => match q.1 with | .inl i => .int i | .inr z => .str z) (us.map fun q => kV q.1)
  | _, _, .nil => .nil
  | _, _, .cons (k := k) r t => by
    rw [List.map_cons, List.map_cons]
    refine .cons ?_ (keys_rv t)
    cases k with
    | inl i => exact .int i
    | inr z => exact .str z
theorem o_tuple (hc : X.calm = true) : CallR X (.type "tuple") (canL X.K rTuple3) := by
  intro pins s σ H vs us Q I rv ⟨A, st, xs, Q3, rs, ex, h, k⟩
  unfold rTuple3 at h
  split at h
  · cases ex with | cons ex et => cases et; cases ex with | val e => cases e with | lst t z r =>
      exact call_tuple_of pins s σ H _ us Q I rv ⟨_, _, rfl, .inl ⟨t.sq, k.tup rs r z h⟩⟩
  · cases ex with | cons ex et => cases et; cases ex with | val e => cases e with | tup t z r =>
      exact call_tuple_of pins s σ H _ us Q I rv ⟨_, _, rfl, .inr ⟨t.sq, k.now rs (.val (.tup t z r)) h⟩⟩
  · cases ex with | cons ex et => cases et; cases ex with
    | val e => cases e
    | obj eo =>
      split at h
      · rename_i q
        obtain ⟨vs, h1, r, hzz⟩ := rs.at_ _ _ _ eo q
        have hz := hzz
        exact call_tuple_of pins s σ H _ us Q I rv ⟨_, _, rfl, .inl ⟨.of h1, k.tup rs r hz h⟩⟩
      · rename_i q
        obtain ⟨vs, h1, r, hzz⟩ := rs.at_ _ _ _ eo q
        have hz := hzz
        exact call_tupleD hc pins s σ H _ us Q I rv ⟨_, _, rfl, h1, k.tup rs (keys_rv r) (by rw [List.length_map]; exact hz) h⟩
      · exact h.elim
  · exact h.elim
def cutP (xs : List PV) (lo hi : Option Int) : List PV := (xs.drop (HT.sIx xs.length 0 lo)).take (HT.sIx xs.length xs.length hi - HT.sIx xs.length 0 lo)
def rSl3 : PV → Option Int → Option Int → Sto → K3 → Prop := fun x lo hi st Q => match x with
  | .tup xs => Q (.tup (cutP xs lo hi)) st
  | .lst xs => Q (.lst (cutP xs lo hi)) st
  | .str z => z.length ≤ sizeLine ∧ ((Txt.slice z lo hi).length ≤ z.length → Q (.str (Txt.slice z lo hi)) st)
  | _ => False
theorem RVs.cut {K : PySem.W.Frag} {A : List Addr} {H : Hp} {xs : List PV} {vs : List V} (r : RVs K A H xs vs) (lo hi : Option Int) : RVs K A H (cutP xs lo hi) (cutV vs lo hi) := by
  unfold cutP cutV
  rw [r.len]
  exact (r.drop _).take _
abbrev TO3 := Env3 → Sto → (Option Int → Sto → Prop) → Prop
def canO (K : PySem.W.Frag) (T : TO3) : TO := fun σ H Q => ∃ A env st Q3, Rel K A H σ env st ∧ T env st Q3 ∧ ∀ A' H' st' i, Grow A H A' H' → RS K A' H' st' → Q3 i st' → Q i H'
def oNone : TO3 := fun _ st Q => Q none st
def oSome (T : TE3) : TO3 := fun env st Q => T env st fun x st1 => match x with | .int i => Q (some i) st1 | _ => False
theorem po_weak {o : Option Expr} {t t' : TO} (h : L2.PO X o t) (w : ∀ σ H Q, t' σ H Q → t σ H Q) : L2.PO X o t' := ⟨fun pins s σ H Q I q => h pins s σ H Q I (w σ H Q q)⟩
theorem qo_none : L2.PO X none (canO X.K oNone) := po_weak po_none fun σ H Q ⟨A, env, st, Q3, rel, h, k⟩ => k A H st none (.refl _ _) rel.rs h
theorem qo_some (h : PE X e (can X.K Ta)) : L2.PO X (some e) (canO X.K (oSome Ta)) := by
  refine po_weak (po_some h) fun σ H Q ⟨A, env, st, Q3, rel, h, k⟩ => ⟨A, env, st, _, rel, h, fun A1 H1 st1 x v g1 s1 e1 h1 => ?_⟩
  cases x with
  | int i => cases ints_of e1; exact ⟨i, rfl, k A1 H1 st1 _ g1 s1 h1⟩
  | _ => exact False.elim h1
def vSl (T : TE3) (Tl Th : TO3) : TE3 := fun env st Q => T env st fun x st1 => Tl env st1 fun l st2 => Th env st2 fun u st3 => rSl3 x l u st3 Q
end
end L3
set_option Elab.async false
set_option linter.all false
set_option maxRecDepth 100000
set_option maxHeartbeats 4000000
namespace L3
open PySem PySem.Spec PyProof.Rows L2
section
variable {X : Cx} {tg iter a b e : Expr} {es : List Expr} {pos p : Pos} {Ta : TE3} {TA : TA3}
def iAny2 (K : PySem.W.Frag) (tl : TE) : TI := fun σ H R => tl σ H fun x H1 => (∃ a, x = .ref a ∧ (∃ xs, SqL K H1 a xs) ∧ R (Itl K a) H1) ∨ (∃ a, x = .ref a ∧ (∃ xs, SqT K H1 a xs) ∧ R (Itt K a) H1) ∨ ∃ z, x = .str z ∧ R (Its z) H1
theorem pi_any {tl : TE} (hl : PE X iter tl) : PI X tg iter (iAny2 X.K tl) := by
  refine ⟨fun pins s σ H R I h => ?_⟩
  refine thn (hl pins s σ H _ I h) fun v s1 ⟨x, H1, I1, r1, q1⟩ => ?_
  rcases q1 with ⟨a, rfl, ⟨xs, hq⟩, q⟩ | ⟨a, rfl, ⟨xs, hq⟩, q⟩ | ⟨x, rfl, q⟩
  · cases r1
    obtain ⟨its, rv, p, hz⟩ := I1.list hq
    refine wpAny_pyIter_list p.isList ?_
    refine ⟨s1.heap.objs.size, [s1.heap.objs.size], _, _, H1, rfl, I1.kept (t' := s1.toks) fun b o e => Heap.get?_push_of_some _ e, turn_list a _, ⟨_, Heap.get?_push_size _ rfl, rfl, rfl⟩, fun b hb => ?_, q⟩
    have e : b = s1.heap.objs.size := by simpa using hb
    subst e
    exact I1.fpOk (Nat.le_refl _) (I1.hok.fresh (Nat.le_refl _))
  · cases r1
    obtain ⟨its, rv, p, hz⟩ := I1.tuple hq
    refine wpAny_pyIter_tuple (show s1.heap.IsTuple a its.toArray from p) ?_
    refine ⟨s1.heap.objs.size, [s1.heap.objs.size], _, _, H1, rfl, I1.kept (t' := s1.toks) fun b o e => Heap.get?_push_of_some _ e, turn_tuple a _, ⟨_, Heap.get?_push_size _ rfl, rfl, rfl⟩, fun b hb => ?_, q⟩
    have e : b = s1.heap.objs.size := by simpa using hb
    subst e
    exact I1.fpOk (Nat.le_refl _) (I1.hok.fresh (Nat.le_refl _))
  · obtain ⟨t, rfl⟩ := r1
    have fin : ∀ (n : String) (o : Obj), Turn X.prog X.w X.K tg (Its x) [s1.heap.objs.size] s1.heap.objs.size (fun i h => h.IsStrIter s1.heap.objs.size n x t i) → (s1.heap.push o).IsStrIter s1.heap.objs.size n x t 0 → PIE X pins σ tg R (.ref s1.heap.objs.size) { s1 with heap := s1.heap.push o } := fun n o T st =>
      ⟨s1.heap.objs.size, [s1.heap.objs.size], _, _, H1, rfl, I1.kept (t' := s1.toks) fun b u e => Heap.get?_push_of_some _ e, T, st, fun b hb => by
        have e : b = s1.heap.objs.size := by simpa using hb
        subst e
        exact I1.fpOk (Nat.le_refl _) (I1.hok.fresh (Nat.le_refl _)), q⟩
    cases ha : x.cps.all (· < 128)
    · exact wpAny_pyIter_wide ha (fin "str_iterator" _ (turn_str _ x t (by decide) (fun A hA => Walks.strWide hA _ x t) fun _ _ _ _ _ st hQ => wpAny_pyIter_striter_wide st hQ) ⟨_, Heap.get?_push_size _ rfl, rfl, rfl⟩)
    · exact wpAny_pyIter_ascii ha (fin "str_ascii_iterator" _ (turn_str _ x t (by decide) (fun A hA => Walks.strAscii hA _ x t) fun _ _ _ _ _ st hQ => wpAny_pyIter_striter_ascii st hQ) ⟨_, Heap.get?_push_size _ rfl, rfl, rfl⟩)
def signs (z : Str) : List PV := z.cps.toList.map fun c => .str ⟨#[c]⟩
theorem it_str {K : PySem.W.Frag} {A : List Addr} {H : Hp} {z : Str} (hz : z.length ≤ sizeLine) : ItOk K A H none (Its z) (signs z) where
  go := fun i A' H' st g s _ hi => by
    unfold signs at hi
    have hi' : i < z.cps.size := by simpa using hi
    exact hi'
  yld := fun i x A' H' st v H2 hx g s _ y => by
    obtain ⟨rfl, c, hc, rfl⟩ := y
    unfold signs at hx
    rw [List.getElem?_map] at hx
    have hc' : z.cps.toList[i]? = some c := by simpa using hc
    rw [hc'] at hx
    cases hx
    exact ⟨.refl _ _, s, .val (.str _)⟩
  stop := fun A' H' st g s _ => by
    unfold signs
    show _ = z.cps.size
    simp
  small := by
    unfold signs
    rw [List.length_map]
    have : z.cps.toList.length = z.length := by simp [Str.length]
    omega
def iAny (T : TE3) : TI3 := fun env st Q => T env st fun x st1 => match x with
  | .lst xs => Q none xs st1
  | .tup xs => Q none xs st1
  | .str z => z.length ≤ sizeLine ∧ Q none (signs z) st1
  | .obj i => (match st1[i]? with | some (.lst xs) => Q (some (i, .lst xs)) xs st1 | _ => False)
  | _ => False
theorem qi_any (h : PE X iter (can X.K Ta)) : PI X tg iter (canI X.K (iAny Ta)) := by
  refine pi_weak (pi_any h) fun σ H R ⟨A, env, st, Q3, rel, h, k⟩ => ⟨A, env, st, _, rel, h, fun A1 H1 st1 x v g1 s1 e1 h1 => ?_⟩
  cases e1 with
  | obj eo =>
    dsimp only at h1
    split at h1
    · rename_i q
      obtain ⟨vs, h2, r, hz⟩ := s1.at_ _ _ _ eo q
      exact .inl ⟨_, rfl, ⟨_, .of h2⟩, k A1 H1 st1 _ _ _ g1 s1 (it_obj eo (by rw [r.len]; exact hz)) h1⟩
    · exact h1.elim
  | val e =>
    cases e with
    | tup t z r => exact .inr (.inl ⟨_, rfl, ⟨_, t.sq⟩, k A1 H1 st1 none _ _ g1 s1 (it_tup t z r) h1⟩)
    | lst t z r => exact .inl ⟨_, rfl, ⟨_, t.sq⟩, k A1 H1 st1 none _ _ g1 s1 (it_lst t z r) h1⟩
    | str z => exact .inr (.inr ⟨z, rfl, k A1 H1 st1 none _ _ g1 s1 (it_str h1.1) h1.2⟩)
    | _ => exact False.elim h1
theorem qi_rng1 (hg : Gl X "range") (hm : X.mg "range" = none) (ha : PA X [a] (canA X.K TA)) (hs : starEach [a] X.env = [(false, eval a X.env)] := by rfl) : PI X tg (.Call (.Name "range" p) [a] [] pos) (canI X.K (iRng TA)) := by
  refine pi_weak (pi_range1 hg hm ha hs) fun σ H R ⟨A, env, st, Q3, rel, h, k⟩ => ⟨A, env, st, _, rel, h, fun A1 H1 st1 xs vs g1 s1 e1 h1 => ?_⟩
  split at h1
  · rename_i j
    obtain ⟨v, rfl, e⟩ := REs.one e1
    cases ints_of e
    have hb : (2000000 : Nat) ≤ sizeLine := by rw [sizeLine_eq]; decide
    exact ⟨j, rfl, by omega, by omega, k A1 H1 st1 none _ _ g1 s1 (it_rng (by omega)) h1.2⟩
  · exact h1.elim
theorem qi_rng2 (hg : Gl X "range") (hm : X.mg "range" = none) (ha : PA X [a, b] (canA X.K TA)) (hs : starEach [a, b] X.env = [(false, eval a X.env), (false, eval b X.env)] := by rfl) (hs2 : starEach [b] X.env = [(false, eval b X.env)] := by rfl) :
    PI X tg (.Call (.Name "range" p) [a, b] [] pos) (canI X.K (iRngB TA)) := by
  refine pi_weak (pi_range2 hg hm ha hs hs2) fun σ H R ⟨A, env, st, Q3, rel, h, k⟩ => ⟨A, env, st, _, rel, h, fun A1 H1 st1 xs vs g1 s1 e1 h1 => ?_⟩
  split at h1
  · rename_i i j
    obtain ⟨v, v', rfl, e, e2⟩ := REs.two e1
    cases ints_of e; cases ints_of e2
    have hb : (2000000 : Nat) ≤ sizeLine := by rw [sizeLine_eq]; decide
    exact ⟨i, j, rfl, by omega, k A1 H1 st1 none _ _ g1 s1 (it_rng (by omega)) h1.2⟩
  · exact h1.elim
end
def start3 (N : List Str) (xs : List PV) : Env3 := xs.map some ++ List.replicate (N.length - xs.length) none
def Exit (m : Nat) (Q : K3) : K3 := fun r st => match r with
  | .obj i => if i < m then Q (.obj i) (st.take m) else (match st[i]? with | some (.lst xs) => Q (.lst xs) (st.take m) | some (.dct xs) => Q (.dct xs) (st.take m) | some (.itb xs) => Q (.itb xs) (st.take m) | _ => False)
  | r => Q r (st.take m)
section
variable {K : PySem.W.Frag} {A B : List Addr} {H H' : Hp}
theorem Rel.begin {st : Sto} {xs : List PV} {vs : List V} {N : List Str} (s : RS K A H st) (e : REs K A H xs vs) : Rel K A H (L2.start N vs) (start3 N xs) st := by
  have hl : xs.length = vs.length := Paired.length e
  refine ⟨s, by unfold L2.start start3; rw [List.length_append, List.length_append, List.length_map, List.length_map, List.length_replicate, List.length_replicate, hl], fun i x h => ?_⟩
  unfold start3 at h
  by_cases hi : i < xs.length
  · rw [List.getElem?_append_left (by rw [List.length_map]; exact hi), List.getElem?_map] at h
    cases ex : xs[i]? with
    | none => rw [ex] at h; cases h
    | some y =>
      rw [ex] at h; cases h
      have hv : i < vs.length := by omega
      refine ⟨vs[i], ?_, paired_at e ex (List.getElem?_eq_getElem hv)⟩
      unfold L2.start
      rw [List.getElem?_append_left (by rw [List.length_map]; exact hv), List.getElem?_map, List.getElem?_eq_getElem hv]; rfl
  · rw [List.getElem?_append_right (by rw [List.length_map]; omega), List.getElem?_replicate] at h
    split at h <;> cases h
theorem TupAt.less {A A' : List Addr} (h : ∀ b, b ∈ A' → b ∈ A) {a : Addr} {vs : List V} (t : TupAt K A H a vs) : TupAt K A' H a vs := t.imp (fun t => ⟨t.1, fun m => t.2 (h _ m)⟩) id
theorem LstAt.less {A A' : List Addr} (h : ∀ b, b ∈ A' → b ∈ A) {a : Addr} {vs : List V} (t : LstAt K A H a vs) : LstAt K A' H a vs := t.imp (fun t => ⟨t.1, fun m => t.2 (h _ m)⟩) id
mutual
theorem RV.less {A A' : List Addr} (h : ∀ b, b ∈ A' → b ∈ A) {x : PV} {v : V} : RV K A H x v → RV K A' H x v
  | .non => .non
  | .bl b => .bl b
  | .int i => .int i
  | .str x => .str x
  | .ty n => .ty n
  | .tup t z r => .tup (t.less h) z (RVs.less h r)
  | .lst t z r => .lst (t.less h) z (RVs.less h r)
  | .dct t z r => .dct ⟨t.1, fun m => t.2 (h _ m)⟩ z (RKs.less h r)
  | .itb e n => .itb e fun m => n (h _ m)
  | .clo e => .clo ⟨⟨e.fn.1, fun m => e.fn.2 (h _ m)⟩, ⟨e.cd.1, fun m => e.cd.2 (h _ m)⟩, ⟨e.cl.1, fun m => e.cl.2 (h _ m)⟩, ⟨e.dt.1, fun m => e.dt.2 (h _ m)⟩⟩
theorem RVs.less {A A' : List Addr} (h : ∀ b, b ∈ A' → b ∈ A) {xs : List PV} {vs : List V} : RVs K A H xs vs → RVs K A' H xs vs
  | .nil => .nil
  | .cons r t => .cons (RV.less h r) (RVs.less h t)
theorem RKs.less {A A' : List Addr} (h : ∀ b, b ∈ A' → b ∈ A) {xs : List (Key × PV)} {vs : List (Key × V)} : RKs K A H xs vs → RKs K A' H xs vs
  | .nil => .nil
  | .cons r t => .cons (RV.less h r) (RKs.less h t)
end
theorem OA.less {A A' : List Addr} (h : ∀ b, b ∈ A' → b ∈ A) {a : Addr} {o : PO} (x : OA K A H a o) : OA K A' H a o := by
  cases o with
  | lst xs => obtain ⟨vs, e, r, z⟩ := x; exact ⟨vs, e, r.less h, z⟩
  | dct xs => obtain ⟨vs, e, r, z⟩ := x; exact ⟨vs, e, r.less h, z⟩
  | tbl T pos q => obtain ⟨ea, ps, e, r⟩ := x; exact ⟨ea, ps, e, r.imp id fun ⟨c', e1, e2, e3⟩ => ⟨c', e1, e2, fun m => e3 (h _ m)⟩⟩
  | itb kvs => exact x
theorem mem_take {α : Type} {l : List α} {m : Nat} : ∀ b, b ∈ l.take m → b ∈ l := fun b h => List.mem_of_mem_take h
theorem RS.take {st : Sto} (s : RS K A H st) (m : Nat) : RS K (A.take m) H (st.take m) := by
  refine ⟨List.Nodup.sublist (List.take_sublist _ _) s.nd, by rw [List.length_take, List.length_take, s.len], fun i a o h1 h2 => ?_⟩
  have hi : i < m := by
    have := (List.getElem?_eq_some_iff.mp h1).1
    rw [List.length_take] at this; omega
  rw [List.getElem?_take_of_lt hi] at h1 h2
  exact (s.at_ i a o h1 h2).less mem_take
theorem Grow.take {B' : List Addr} (g : Grow A H B' H') {m : Nat} (h : A.length ≤ m) : Grow A H (B'.take m) H' := by
  obtain ⟨⟨C, rfl, hC⟩, k, l⟩ := g
  refine ⟨⟨C.take (m - A.length), ?_, fun b hb => hC b (List.mem_of_mem_take hb)⟩, k, l⟩
  rw [List.take_append, List.take_of_length_le h]
theorem Fin.exit {Q3 : K3} {Q : VK} {m : Nat} (k : Fin K A H Q3 Q) (hm : A.length ≤ m) : Fin K A H (Exit m Q3) Q := by
  intro A' H' st' r v g s e q
  have g' := g.take hm
  have s' := s.take m
  cases e with
  | val e =>
    refine k _ H' _ r v g' s' (.val (e.less mem_take)) ?_
    cases r with
    | obj i => cases e
    | _ => exact q
  | obj eo =>
    rename_i i a
    unfold Exit at q
    dsimp only at q
    by_cases hi : i < m
    · rw [if_pos hi] at q
      exact k _ H' _ _ _ g' s' (.obj (by rw [List.getElem?_take_of_lt hi]; exact eo)) q
    · rw [if_neg hi] at q
      have na : a ∉ A'.take m := fun hm' => by
        obtain ⟨j, hj, e⟩ := List.getElem_of_mem hm'
        rw [List.length_take] at hj
        have e2 : A'[j]? = some a := by
          rw [← List.getElem?_take_of_lt (show j < m by omega), List.getElem?_eq_getElem (by rw [List.length_take]; omega), e]
        have := (List.getElem?_inj (List.getElem?_eq_some_iff.mp e2).1 s.nd).mp (e2.trans eo.symm)
        omega
      split at q
      · rename_i xs e
        obtain ⟨vs, h1, r, z⟩ := s.at_ _ _ _ eo e
        exact k _ H' _ _ _ g' s' (.val (.lst (.inl ⟨.inl h1, na⟩) z (r.less mem_take))) q
      · rename_i xs e
        obtain ⟨vs, h1, r, z⟩ := s.at_ _ _ _ eo e
        exact k _ H' _ _ _ g' s' (.val (.dct ⟨h1, na⟩ z (r.less mem_take))) q
      · rename_i xs e
        exact k _ H' _ _ _ g' s' (.val (.itb (s.at_ _ _ _ eo e) na)) q
      · exact q.elim
end
theorem ok3 {P : Program} {w : World} {K : PySem.W.Frag} {mg : Str → Option Value} {base : Heap} {x qual : Str} {st : Stmt} {f : Addr} {fd : FuncData} {N ps : List Str} {k : Nat} {S : Sp3} (keep : Nat) (F : Fun K x qual st f fd) (sc : FnScope N ps (defScope st)) (len : ∀ xs st Q, S xs st Q → xs.length = ps.length)
    (hB : ∃ T : TS3, (∀ (cdv : Value) (A : Around) (outer : List Env) (s : Shared) (H : Hp) (E : XK), Room k (A.deeper (envOfC qual (defScope st) s.heap.objs.size f cdv)) → PSs (cxOf CX0 P w K mg base N qual (defScope st) f cdv A outer s H E).nox (defBody st) (canS K T)) ∧
      ∀ xs sto Q, S xs sto Q → T { nx := fun _ s' => Exit (sto.length + keep) Q .non s', rt := Exit (sto.length + keep) Q } (start3 N xs) sto) : FnOk P w K mg base CX0 (k + 1) f fd ps (sp2 K S) := by
  obtain ⟨T, hT, hb⟩ := hB
  refine F.ok sc (fun vs H Q E h => ?_) (fun cdv A outer s H vs Q E hr h => ⟨_, hT cdv A outer s H E hr, ?_⟩)
  · obtain ⟨A, sto, xs, Q3, rs, ex, hS, _⟩ := h
    rw [← len xs sto Q3 hS]
    exact (Paired.length ex).symm
  · obtain ⟨A, sto, xs, Q3, rs, ex, hS, k⟩ := h
    have hm : A.length ≤ sto.length + keep := by rw [rs.len]; omega
    refine ⟨A, start3 N xs, sto, _, Rel.begin rs ex, hb xs sto Q3 hS, ⟨fun A' H' σ' env' st' g r q => ?_, k.exit hm, fun A' H' σ' env' st' g r q => q.elim, fun A' H' σ' env' st' g r q => q.elim⟩⟩
    exact k.exit hm A' H' st' .non .non g r.rs (.val .non) q
end L3
namespace L3
open PySem PySem.Spec PyProof.Rows L2
section
variable {X : Cx} {scope : Scope} {N' own : List Str} {Ti : TI3} {Tg : TG3} {tt : TT3} {te : TE3}
end
end L3
set_option Elab.async false
set_option linter.all false
set_option maxRecDepth 100000
set_option maxHeartbeats 4000000
namespace L3
open PySem PySem.Spec PyProof.Rows L2
def isiT (a b c d e : Bool) (n : String) : Option Bool := if n = "int" then some a else if n = "bool" then some b else if n = "str" then some c else if n = "tuple" then some d else if n = "list" then some e else none
def isiP : PV → String → Option Bool
  | .bl _, n => isiT true true false false false n
  | .int _, n => isiT true false false false false n
  | .str _, n => isiT false false true false false n
  | .tup _, n => isiT false false false true false n
  | .lst _, n => isiT false false false false true n
  | _, _ => none
theorem isiT_of {a b c d e r : Bool} {n : String} (h : isiT a b c d e n = some r) : (n = "int" ∧ r = a) ∨ (n = "bool" ∧ r = b) ∨ (n = "str" ∧ r = c) ∨ (n = "tuple" ∧ r = d) ∨ (n = "list" ∧ r = e) := by
  unfold isiT at h
  by_cases h1 : n = "int"
  · rw [if_pos h1] at h; cases h; exact .inl ⟨h1, rfl⟩
  rw [if_neg h1] at h
  by_cases h2 : n = "bool"
  · rw [if_pos h2] at h; cases h; exact .inr (.inl ⟨h2, rfl⟩)
  rw [if_neg h2] at h
  by_cases h3 : n = "str"
  · rw [if_pos h3] at h; cases h; exact .inr (.inr (.inl ⟨h3, rfl⟩))
  rw [if_neg h3] at h
  by_cases h4 : n = "tuple"
  · rw [if_pos h4] at h; cases h; exact .inr (.inr (.inr (.inl ⟨h4, rfl⟩)))
  rw [if_neg h4] at h
  by_cases h5 : n = "list"
  · rw [if_pos h5] at h; cases h; exact .inr (.inr (.inr (.inr ⟨h5, rfl⟩)))
  rw [if_neg h5] at h; cases h
def rIsi3 : Sp3 := fun xs st Q => match xs with | [x, .ty n] => (match isiP x n with | some b => Q (.bl b) st | none => False) | _ => False
section
variable {X : Cx} {pins : List (Addr × Obj)} {σ : St} {H : Hp} {s : Shared} {A : List Addr}
theorem isi_of {Q : VK} {x : PV} {n : String} {b : Bool} {vv : Value} (I : Inv X pins σ H s) (kx : Kd s x vv) (h : isiP x n = some b) (q : Q (.bl b) H) : wpAny (model X.prog X.w) X.A (call (.builtin "isinstance") [vv, .type n]) (EP X pins σ Q) X.xe s := by
  cases kx with
  | bl =>
    rcases isiT_of h with ⟨rfl, rfl⟩ | ⟨rfl, rfl⟩ | ⟨rfl, rfl⟩ | ⟨rfl, rfl⟩ | ⟨rfl, rfl⟩
    · exact IsiPair.bool_int ⟨.bl true, H, I, rfl, q⟩
    · exact IsiPair.bool_bool ⟨.bl true, H, I, rfl, q⟩
    · exact IsiPair.bool_str ⟨.bl false, H, I.tok _, rfl, q⟩
    · exact IsiPair.bool_tuple ⟨.bl false, H, I.tok _, rfl, q⟩
    · exact IsiPair.bool_list ⟨.bl false, H, I.tok _, rfl, q⟩
  | int =>
    rcases isiT_of h with ⟨rfl, rfl⟩ | ⟨rfl, rfl⟩ | ⟨rfl, rfl⟩ | ⟨rfl, rfl⟩ | ⟨rfl, rfl⟩
    · exact IsiPair.int_int ⟨.bl true, H, I, rfl, q⟩
    · exact IsiPair.int_bool ⟨.bl false, H, I.tok _, rfl, q⟩
    · exact IsiPair.int_str ⟨.bl false, H, I.tok _, rfl, q⟩
    · exact IsiPair.int_tuple ⟨.bl false, H, I.tok _, rfl, q⟩
    · exact IsiPair.int_list ⟨.bl false, H, I.tok _, rfl, q⟩
  | str =>
    rcases isiT_of h with ⟨rfl, rfl⟩ | ⟨rfl, rfl⟩ | ⟨rfl, rfl⟩ | ⟨rfl, rfl⟩ | ⟨rfl, rfl⟩
    · exact IsiPair.str_int ⟨.bl false, H, I.tok _, rfl, q⟩
    · exact IsiPair.str_bool ⟨.bl false, H, I.tok _, rfl, q⟩
    · exact IsiPair.str_str ⟨.bl true, H, I, rfl, q⟩
    · exact IsiPair.str_tuple ⟨.bl false, H, I.tok _, rfl, q⟩
    · exact IsiPair.str_list ⟨.bl false, H, I.tok _, rfl, q⟩
  | tup p =>
    rcases isiT_of h with ⟨rfl, rfl⟩ | ⟨rfl, rfl⟩ | ⟨rfl, rfl⟩ | ⟨rfl, rfl⟩ | ⟨rfl, rfl⟩
    · obtain ⟨o, e, c, _⟩ := id p; exact IsiPair.tuple_int e c ⟨.bl false, H, I.tok _, rfl, q⟩
    · obtain ⟨o, e, c, _⟩ := id p; exact IsiPair.tuple_bool e c ⟨.bl false, H, I.tok _, rfl, q⟩
    · obtain ⟨o, e, c, _⟩ := id p; exact IsiPair.tuple_str e c ⟨.bl false, H, I.tok _, rfl, q⟩
    · obtain ⟨o, e, c, _⟩ := id p; exact IsiPair.tuple_tuple e c ⟨.bl true, H, I, rfl, q⟩
    · obtain ⟨o, e, c, _⟩ := id p; exact IsiPair.tuple_list e c ⟨.bl false, H, I.tok _, rfl, q⟩
  | lst p =>
    rcases isiT_of h with ⟨rfl, rfl⟩ | ⟨rfl, rfl⟩ | ⟨rfl, rfl⟩ | ⟨rfl, rfl⟩ | ⟨rfl, rfl⟩
    · obtain ⟨o, e, c, _⟩ := id p; exact IsiPair.list_int e c ⟨.bl false, H, I.tok _, rfl, q⟩
    · obtain ⟨o, e, c, _⟩ := id p; exact IsiPair.list_bool e c ⟨.bl false, H, I.tok _, rfl, q⟩
    · obtain ⟨o, e, c, _⟩ := id p; exact IsiPair.list_str e c ⟨.bl false, H, I.tok _, rfl, q⟩
    · obtain ⟨o, e, c, _⟩ := id p; exact IsiPair.list_tuple e c ⟨.bl false, H, I.tok _, rfl, q⟩
    · obtain ⟨o, e, c, _⟩ := id p; exact IsiPair.list_list e c ⟨.bl true, H, I, rfl, q⟩
  | _ => cases h
theorem o_isinst : CallR X (.builtin "isinstance") (canL X.K rIsi3) := by
  intro pins s σ H vs us Q I rv ⟨A, st, xs, Q3, rs, ex, h, k⟩
  unfold rIsi3 at h
  split at h
  · rename_i x n
    obtain ⟨v, w, rfl, ex1, ey1⟩ := REs.two ex
    have hw : w = .ty n := by cases ey1 with | val e => cases e; rfl
    subst hw
    obtain ⟨u1, u2, rfl, r1, r2⟩ := vals2 rv
    cases r2
    split at h
    · rename_i b e
      have hd : dpt x < 1000 ∨ ∃ ys, x = .tup ys ∨ x = .lst ys := by
        cases x with
        | tup ys => exact .inr ⟨ys, .inl rfl⟩
        | lst ys => exact .inr ⟨ys, .inr rfl⟩
        | non => cases e
        | bl b => exact .inl (by unfold dpt; decide)
        | int b => exact .inl (by unfold dpt; decide)
        | str b => exact .inl (by unfold dpt; decide)
        | _ => cases e
      have q := k.now rs (.val (.bl b)) h
      refine isi_of I ?_ e q
      rcases hd with hd | ⟨ys, rfl | rfl⟩
      · exact kd_of I (ex1.rv (noObj_of hd)) r1 hd
      · cases ex1 with | val e => cases e with | tup t z r => cases r1; obtain ⟨its, _, p, _⟩ := I.tuple t.sq; exact .tup p
      · cases ex1 with | val e => cases e with | lst t z r => cases r1; obtain ⟨its, _, p, _⟩ := I.list t.sq; exact .lst p.isList
    · exact h.elim
  · exact h.elim
def rInt3 : Sp3 := fun xs st Q => match xs with | [.int i] => Q (.int i) st | [.bl b] => Q (.int (if b then 1 else 0)) st | _ => False
theorem o_int : CallR X (.type "int") (canL X.K rInt3) := by
  intro pins s σ H vs us Q I rv ⟨A, st, xs, Q3, rs, ex, h, k⟩
  unfold rInt3 at h
  split at h
  · obtain ⟨v, rfl, ex1⟩ := REs.one ex
    cases ints_of ex1
    exact call_int1 pins s σ H _ us Q I rv (.inl ⟨_, rfl, k.now rs (.val (.int _)) h⟩)
  · obtain ⟨v, rfl, ex1⟩ := REs.one ex
    cases bls_of ex1
    exact call_int1 pins s σ H _ us Q I rv (.inr ⟨_, rfl, k.now rs (.val (.int _)) h⟩)
  · exact h.elim
def rMin3 : Sp3 := fun xs st Q => match xs with | [.int i, .int j] => Q (.int (if j < i then j else i)) st | _ => False
def rMax3 : Sp3 := fun xs st Q => match xs with | [.int i, .int j] => Q (.int (if j > i then j else i)) st | _ => False
theorem o_min2 (hc : X.calm = true) : CallR X (.builtin "min") (canL X.K rMin3) := by
  intro pins s σ H vs us Q I rv ⟨A, st, xs, Q3, rs, ex, h, k⟩
  unfold rMin3 at h
  split at h
  · obtain ⟨v, w, rfl, ex1, ey1⟩ := REs.two ex
    cases ints_of ex1; cases ints_of ey1
    exact call_min2 hc pins s σ H _ us Q I rv ⟨_, _, rfl, k.now rs (.val (.int _)) h⟩
  · exact h.elim
theorem o_max2 (hc : X.calm = true) : CallR X (.builtin "max") (canL X.K rMax3) := by
  intro pins s σ H vs us Q I rv ⟨A, st, xs, Q3, rs, ex, h, k⟩
  unfold rMax3 at h
  split at h
  · obtain ⟨v, w, rfl, ex1, ey1⟩ := REs.two ex
    cases ints_of ex1; cases ints_of ey1
    exact call_max2 hc pins s σ H _ us Q I rv ⟨_, _, rfl, k.now rs (.val (.int _)) h⟩
  · exact h.elim
theorem rvs_int {K : PySem.W.Frag} : ∀ {bs : List Int} {vs : List V}, RVs K A H (bs.map PV.int) vs → vs = bs.map V.int
  | [], _, .nil => rfl
  | b :: bs, _, .cons r t => by cases r; rw [rvs_int t]; rfl
theorem int_rvs {K : PySem.W.Frag} : ∀ (bs : List Int), RVs K A H (bs.map PV.int) (bs.map V.int)
  | [] => .nil
  | b :: bs => .cons (.int b) (int_rvs bs)
def lstOf : PV → Sto → Option (List PV)
  | .lst xs, _ => some xs
  | .obj i, st => (match st[i]? with | some (.lst xs) => some xs | _ => none)
  | _, _ => none
theorem lst_of {st : Sto} {x : PV} {v : V} {xs : List PV} (rs : RS X.K A H st) (ex : RE X.K A H x v) (h : lstOf x st = some xs) : ∃ a vs, v = .ref a ∧ SqL X.K H a vs ∧ RVs X.K A H xs vs ∧ vs.length ≤ sizeLine := by
  cases ex with
  | val e =>
    cases e with
    | lst t z r => cases h; exact ⟨_, _, rfl, t.sq, r, z⟩
    | _ => cases h
  | obj eo =>
    dsimp only [lstOf] at h
    split at h
    · rename_i q
      cases h
      obtain ⟨vs, h1, r, z⟩ := rs.at_ _ _ _ eo q
      exact ⟨_, _, rfl, .of h1, r, z⟩
    · cases h
def keyP : Key → PV
  | .inl i => .int i
  | .inr z => .str z
def itsOf : PV → Sto → Option (List PV)
  | .lst xs, _ => some xs
  | .tup xs, _ => some xs
  | .obj i, st => (match st[i]? with | some (.lst xs) => some xs | some (.dct kvs) => some (kvs.map fun q => keyP q.1) | _ => none)
  | .dct kvs, _ => some (kvs.map fun q => keyP q.1)
  | _, _ => none
def rList3 : Sp3 := fun xs st Q => match xs with | [x] => (match itsOf x st with | some ys => Q (.lst ys) st | none => False) | _ => False
def rListO3 : Sp3 := fun xs st Q => match xs with | [x] => (match itsOf x st with | some ys => Q (.obj st.length) (st ++ [.lst ys]) | none => False) | _ => False
def vDNew : TE3 := fun _ st Q => Q (.obj st.length) (st ++ [.dct []])
end
end L3
set_option Elab.async false
set_option linter.all false
set_option maxRecDepth 100000
set_option maxHeartbeats 4000000
namespace L3
open PySem PySem.Spec PyProof.Rows L2
def isTy : PV → Sto → String
  | .lst _, _ => "list"
  | .dct _, _ => "dict"
  | .str _, _ => "str"
  | .obj i, st => (match st[i]? with | some (.lst _) => "list" | some (.dct _) => "dict" | _ => "")
  | _, _ => ""
def canM (K : PySem.W.Frag) (R : PV → Sp3) : V → List V → Hp → VK → Prop := fun v vs H Q => ∃ A st x xs Q3, RS K A H st ∧ RE K A H x v ∧ REs K A H xs vs ∧ R x xs st Q3 ∧ Fin K A H Q3 Q
def vBM (T : String) (R : PV → Sp3) (To : TE3) (TA : TA3) : TE3 := fun env st Q => To env st fun x st1 => isTy x st1 = T ∧ TA env st1 fun xs st2 => R x xs st2 Q
def vBM0 (T : String) (R : PV → Sp3) (To : TE3) : TE3 := fun env st Q => To env st fun x st1 => isTy x st1 = T ∧ R x [] st1 Q
section
variable {X : Cx} {o e : Expr} {es : List Expr} {apos cpos : Pos} {To : TE3} {TA : TA3} {T id : String} {name : Str} {R : PV → Sp3}
theorem ty_of {K : PySem.W.Frag} {A : List Addr} {H : Hp} {st : Sto} {x : PV} {v : V} (rs : RS K A H st) (ex : RE K A H x v) (h : isTy x st = T) (hT : T ≠ "") : tyV K T v H := by
  subst h
  cases ex with
  | val e =>
    cases e with
    | lst t z r => exact .inl ⟨rfl, _, t.sq⟩
    | dct t z r => exact .inr (.inr (.inl ⟨rfl, .inl ⟨_, t.1⟩⟩))
    | str z => exact rfl
    | _ => exact absurd rfl hT
  | obj eo =>
    dsimp only [isTy] at hT ⊢
    split
    · rename_i q
      obtain ⟨vs, h1, r, z⟩ := rs.at_ _ _ _ eo q
      exact .inl ⟨rfl, _, .of h1⟩
    · rename_i q
      obtain ⟨vs, h1, r, z⟩ := rs.at_ _ _ _ eo q
      exact .inr (.inr (.inl ⟨rfl, .inl ⟨_, h1⟩⟩))
    · exfalso
      split at hT
      · rename_i n1 n2 _ _ q; exact n1 _ q
      · rename_i n1 n2 _ _ q; exact n2 _ q
      · exact hT rfl
theorem q_bm (pa : PlainAttrs T) (slot : Slot T name id) (hty : typeOf (.builtin id) = pure (.type "method_descriptor")) (hT : T ≠ "") (hm : MtR X id (canM X.K R)) (ho : PE X o (can X.K To)) (ha : PA X (e :: es) (canA X.K TA))
    (hbase : attributeBase o name X.env (eval o X.env) = eval o X.env := by rfl)
    (hfew : ((backTo cpos (starEach (e :: es) X.env)).all (fun x => !x.1) && (backToKw cpos (keywordEach [] X.env)).all (fun x => x.1.isSome)
      && decide ((e :: es).length + ([] : List Keyword).length + (if ([] : List Keyword).isEmpty then 0 else 1) < 30)) = true := by rfl)
    (hline : (apos.endLine == cpos.line) = true := by rfl) (hs : starEach (e :: es) X.env = (false, eval e X.env) :: starEach es X.env := by rfl) (hplain : (backTo cpos (starEach es X.env)).any (·.1) = false := by rfl) :
    PE X (.Call (.Attribute o name apos) (e :: es) [] cpos) (can X.K (vBM T R To TA)) :=
  pe_weak (pe_bm pa slot hty hm ho ha hbase hfew hline hs hplain) fun σ H Q ⟨A, env, st, Q3, rel, h, k⟩ => ⟨A, env, st, _, rel, h, fun A1 H1 st1 x v g1 s1 e1 h1 => ⟨ty_of s1 e1 h1.1 hT, A1, env, st1, _, rel.grow g1 s1, h1.2, fun A2 H2 st2 xs vs g2 s2 e2 h2 =>
    ⟨A2, st2, x, xs, Q3, s2, e1.grow g2, e2, h2, k.after (g1.trans g2)⟩⟩⟩
def rAppend3 : PV → Sp3 := fun x xs st Q => match x, xs with
  | .obj i, [y] => (match st[i]? with | some (.lst zs) => noObj y = true ∧ zs.length < sizeLine ∧ Q .non (st.set i (.lst (zs ++ [y]))) | _ => False)
  | _, _ => False
theorem o_append : MtR X "list.append" (canM X.K rAppend3) := by
  intro pins s σ H v vs vv us Q I rv rvs ⟨A, st, x, xs, Q3, rs, ex, exs, h, k⟩
  unfold rAppend3 at h
  split at h
  · rename_i i y
    obtain ⟨w, rfl, ey⟩ := REs.one exs
    cases ex with
    | val e => cases e
    | obj eo =>
      have hm := List.mem_of_getElem? eo
      split at h
      · rename_i zs q
        obtain ⟨ws, h1, r, z⟩ := rs.at_ _ _ _ eo q
        obtain ⟨hn, hl, h⟩ := h
        rw [r.len] at hl
        refine mt_append pins s σ H _ _ vv us Q I rv rvs ⟨_, ws, w, rfl, rfl, h1, hl, k A _ _ _ _ (.put hm) (rs.put (q := .lst (zs ++ [y])) eo ⟨_, upd_same, (r.grow (.put hm)).append (.cons ((ey.rv hn).grow (.put hm)) .nil), ?_⟩) (.val .non) h⟩
        rw [List.length_append, List.length_singleton]; exact hl
      · exact h.elim
  · exact h.elim
def rExtend3 : PV → Sp3 := fun x xs st Q => match x, xs with
  | .obj i, [.lst ys] => (match st[i]? with | some (.lst zs) => zs.length + ys.length ≤ sizeLine ∧ Q .non (st.set i (.lst (zs ++ ys))) | _ => False)
  | _, _ => False
theorem o_extend : MtR X "list.extend" (canM X.K rExtend3) := by
  intro pins s σ H v vs vv us Q I rv rvs ⟨A, st, x, xs, Q3, rs, ex, exs, h, k⟩
  unfold rExtend3 at h
  split at h
  · rename_i i ys
    obtain ⟨w, rfl, ey⟩ := REs.one exs
    cases ex with
    | val e => cases e
    | obj eo =>
      have hm := List.mem_of_getElem? eo
      split at h
      · rename_i zs q
        obtain ⟨ws, hH, r, z⟩ := rs.at_ _ _ _ eo q
        obtain ⟨hl, h⟩ := h
        cases ey with | val ey => cases ey with | lst t z2 r2 =>
          cases rv
          obtain ⟨u, rfl, ru⟩ := Vals.one rvs
          cases ru
          obtain ⟨zz, its, n, rr, hl1, e⟩ := I.lstM hH
          obtain ⟨its2, n2, rr2, e2, _⟩ := I.listX t.sq
          have hl2 := rr2.length
          have e3 := r.len; have e4 := r2.len
          have hsz : its.toArray.size + its2.toArray.size ≤ sizeLine := by rw [List.size_toArray, List.size_toArray]; omega
          have hlong : ¬ (!its.toArray.isEmpty && Builtin.List.listTooLong (its.toArray.size + its2.toArray.size)) = true := by
            rw [notLongL hsz, Bool.and_false]
            exact Bool.false_ne_true
          refine call_meets F.slot_list_extend ⟨_, e, rfl⟩ F.entry_list_extend (F.args_list_extend_2 _ _)
            (AutoSeq1.list_extend_list_list_0 _ its.toArray n _ its2.toArray n2 hlong (by rw [List.size_toArray]; omega) (by omega)) ⟨e, e2, ?_⟩
          refine ⟨.non, _, I.lset (its' := its ++ its2) hH e (by simp) (rr.append rr2) ?_, rfl, k A _ _ _ _ (.put hm) (rs.put (q := .lst (zs ++ ys)) eo ⟨_, upd_same, (r.grow (.put hm)).append (r2.grow (.put hm)), ?_⟩) (.val .non) h⟩
          · rw [List.length_append]; omega
          · rw [List.length_append]; omega
      · exact h.elim
  · exact h.elim
def rPop3 : PV → Sp3 := fun x xs st Q => match x, xs with
  | .obj i, [] => (match st[i]? with | some (.lst zs) => (match zs.getLast? with | some y => Q y (st.set i (.lst zs.dropLast)) | none => False) | _ => False)
  | _, _ => False
def dctOf : PV → Sto → Option (List (Key × PV))
  | .dct kvs, _ => some kvs
  | .obj i, st => (match st[i]? with | some (.dct kvs) => some kvs | _ => none)
  | _, _ => none
end
end L3
set_option Elab.async false
set_option linter.all false
set_option maxRecDepth 100000
set_option maxHeartbeats 4000000
namespace L3
open PySem PySem.Spec PyProof.Rows L2
section
variable {X : Cx} {o : Expr} {To : TE3} {p ap cp pos : Pos}
end
end L3
set_option Elab.async false
set_option linter.all false
set_option maxRecDepth 100000
namespace L3
open PySem PySem.Spec PyProof.Rows L2
theorem at0 {α : Type} {x : α} {xs : List α} : atI (x :: xs) 0 = some x := atI_nat (j := 0) rfl
theorem at1 {α : Type} {x y : α} {xs : List α} : atI (x :: y :: xs) 1 = some y := atI_nat (j := 1) rfl
theorem at2 {α : Type} {x y z : α} {xs : List α} : atI (x :: y :: z :: xs) 2 = some z := atI_nat (j := 2) rfl
theorem at3 {α : Type} {x y z u : α} {xs : List α} : atI (x :: y :: z :: u :: xs) 3 = some u := atI_nat (j := 3) rfl
theorem at4 {α : Type} {x y z u v : α} {xs : List α} : atI (x :: y :: z :: u :: v :: xs) 4 = some v := atI_nat (j := 4) rfl
theorem ix0 {n : Nat} : ixN (n + 1) 0 = some 0 := by unfold ixN; rw [if_pos (by decide), if_pos (by omega)]; rfl
theorem ix1 {n : Nat} : ixN (n + 2) 1 = some 1 := by unfold ixN; rw [if_pos (by decide), if_pos (by omega)]; rfl
theorem take_self {α : Type} {st : List α} : st.take (st.length + 0) = st := by simp
theorem take_set {α : Type} {st : List α} {i : Nat} {x : α} : (st.set i x).take (st.length + 0) = st.set i x := by rw [Nat.add_zero, List.take_of_length_le (by simp)]
theorem set_set {α : Type} {st : List α} {i : Nat} {x y : α} : (st.set i x).set i y = st.set i y := by simp
theorem get_set {α : Type} {st : List α} {i : Nat} {x y : α} (h : st[i]? = some y) : (st.set i x)[i]? = some x := List.getElem?_set_self (List.getElem?_eq_some_iff.mp h).1
end L3
set_option Elab.async false
set_option linter.all false
set_option maxRecDepth 100000
set_option maxHeartbeats 4000000
namespace L3
open PySem PySem.Spec PyProof.Rows L2
def bagP (l : List (Str × Int)) : PV := .tup (l.map fun q => .tup [.str q.1, .int q.2])
theorem get_set' {α : Type} {st : List α} {i : Nat} {x : α} (h : (st[i]?).isSome = true) : (st.set i x)[i]? = some x := by
  obtain ⟨y, e⟩ := Option.isSome_iff_exists.mp h
  exact get_set e
theorem exit_o1 {Q : K3} {st : Sto} {x : PO} : Exit (st.length + 1) Q (.obj st.length) (st ++ [x]) = Q (.obj st.length) (st ++ [x]) := by
  show (if st.length < st.length + 1 then _ else _) = _
  rw [if_pos (Nat.lt_succ_self _), List.take_of_length_le (by simp)]
theorem exit_f {Q : K3} {st : Sto} {xs : List PV} : Exit (st.length + 0) Q (.obj st.length) (st ++ [.lst xs]) = Q (.lst xs) st := by
  show (if st.length < st.length + 0 then _ else _) = _
  rw [if_neg (by omega)]
  have : (st ++ [PO.lst xs])[st.length]? = some (.lst xs) := by simp
  rw [this]
  simp
theorem exit_fd {Q : K3} {st : Sto} {xs : List (Key × PV)} : Exit (st.length + 0) Q (.obj st.length) (st ++ [.dct xs]) = Q (.dct xs) st := by
  show (if st.length < st.length + 0 then _ else _) = _
  rw [if_neg (by omega)]
  have : (st ++ [PO.dct xs])[st.length]? = some (.dct xs) := by simp
  rw [this]
  simp
theorem at_has {α : Type} (f : α → PV) {ns : List α} {k : Int} (h0 : 0 ≤ k) (h1 : k < ns.length) : ∃ z ∈ ns, atI (ns.map f) k = some (f z) := by
  obtain ⟨y, hy, e⟩ := atI_has (ns.map f) h0 (by simpa using h1)
  obtain ⟨z, hz, rfl⟩ := List.mem_map.mp hy
  exact ⟨z, hz, e⟩
theorem len_at {α : Type} {st : List α} {x : α} : (st ++ [x])[st.length]? = some x := by simp
theorem set_at {α : Type} {st : List α} {x y : α} : (st ++ [x]).set st.length y = st ++ [y] := by simp
theorem take_at {α : Type} {st : List α} {x : α} : (st ++ [x]).take (st.length + 0) = st := by simp
theorem take_at1 {α : Type} {st : List α} {x : α} : (st ++ [x]).take (st.length + 1) = st ++ [x] := by rw [List.take_of_length_le (by simp)]
end L3
set_option Elab.async false
set_option linter.all false
set_option maxRecDepth 100000
namespace L3
open PySem PySem.Spec PyProof.Rows L2
theorem len1 {α : Type} {e : List α} (h : e.length = 1) : ∃ a, e = [a] := List.length_eq_one_iff.mp h
theorem len2 {α : Type} {e : List α} (h : e.length = 2) : ∃ a b, e = [a, b] := by
  match e, h with
  | [a, b], _ => exact ⟨a, b, rfl⟩
theorem len3 {α : Type} {e : List α} (h : e.length = 3) : ∃ a b c, e = [a, b, c] := by
  match e, h with
  | [a, b, c], _ => exact ⟨a, b, c, rfl⟩
theorem len5 {α : Type} {e : List α} (h : e.length = 5) : ∃ a b c d f, e = [a, b, c, d, f] := by
  match e, h with
  | [a, b, c, d, f], _ => exact ⟨a, b, c, d, f, rfl⟩
def CP (f : PV → Option PV) (own : Nat) (xs : List PV) (env : Env3) (st : Sto) (i : Nat) (ys : List PV) (env' : Env3) (st' : Sto) : Prop := ys = (xs.take i).filterMap f ∧ st' = st ∧ ∃ e', e'.length = own ∧ env' = env ++ e'
theorem take_succ' {α : Type} {xs : List α} {i : Nat} {x : α} (h : xs[i]? = some x) : xs.take (i + 1) = xs.take i ++ [x] := by rw [List.take_succ, h]; rfl
theorem CP.yes {f : PV → Option PV} {own : Nat} {xs : List PV} {env : Env3} {st : Sto} {i : Nat} {x y : PV} {e' : Env3} (h : xs[i]? = some x) (hf : f x = some y) (he : e'.length = own) : CP f own xs env st (i + 1) ((xs.take i).filterMap f ++ [y]) (env ++ e') st := by
  refine ⟨?_, rfl, e', he, rfl⟩
  rw [take_succ' h, List.filterMap_append, List.filterMap_cons, hf]; rfl
theorem CP.no {f : PV → Option PV} {own : Nat} {xs : List PV} {env : Env3} {st : Sto} {i : Nat} {x : PV} {e' : Env3} (h : xs[i]? = some x) (hf : f x = none) (he : e'.length = own) : CP f own xs env st (i + 1) ((xs.take i).filterMap f) (env ++ e') st := by
  refine ⟨?_, rfl, e', he, rfl⟩
  rw [take_succ' h, List.filterMap_append, List.filterMap_cons, hf]; simp
theorem comp_pure {own : Nat} {g : TG3} {tt : TT3} {el : TE3} {xs : List PV} {Q : List PV → Sto → Prop} {env : Env3} {st : Sto} (f : PV → Option PV)
    (hs : ∀ i x e, xs[i]? = some x → e.length = own → g x (env ++ e) st fun e1 s1 => tt e1 s1 fun b s2 => if b = true then el e1 s2 fun y s3 => noObj y = true ∧ CP f own xs env st (i + 1) ((xs.take i).filterMap f ++ [y]) e1 s3 else CP f own xs env st (i + 1) ((xs.take i).filterMap f) e1 s2)
    (hd : Q (xs.filterMap f) st) : CompW3 own g tt el none xs Q env st := by
  refine ⟨CP f own xs env st, ⟨by simp, rfl, _, by simp, rfl⟩, ?_, ?_⟩
  · rintro i x ys env' st' hx ⟨rfl, rfl, e', he, rfl⟩
    exact hs i x e' hx he
  · rintro ys env' st' ⟨rfl, rfl, e', he, rfl⟩
    show Q _ _
    rw [List.take_of_length_le (Nat.le_refl _)]
    exact hd
theorem for_by {g : TG3} {b : TS3} {src : Src} {xs : List PV} {D : Ends3} {env : Env3} {st : Sto} (P : Nat → Env3 → Sto → Prop) (h0 : P 0 env st)
    (hs : ∀ i x env st, xs[i]? = some x → P i env st → withS src st (g x env st fun e s => b { D with nx := P (i + 1), ct := P (i + 1), bk := D.nx } e s)) (hd : ∀ env st, P xs.length env st → withS src st (D.nx env st)) : ForW g b src xs D env st := ⟨P, h0, hs, hd⟩
theorem map_at {α : Type} {f : α → PV} {l : List α} {i : Nat} {x : PV} (h : (l.map f)[i]? = some x) : ∃ y, l[i]? = some y ∧ x = f y := by
  rw [List.getElem?_map] at h
  cases e : l[i]? with
  | none => rw [e] at h; cases h
  | some y => rw [e] at h; exact ⟨y, rfl, (Option.some.inj h).symm⟩
theorem dpts_map {α : Type} {f : α → PV} {n : Nat} (h : ∀ x, dpt (f x) ≤ n) : ∀ (l : List α), dpts (l.map f) ≤ n
  | [] => by rw [List.map_nil]; unfold dpts; exact Nat.zero_le _
  | x :: l => by
    rw [List.map_cons]; unfold dpts
    exact Nat.max_le.mpr ⟨h x, dpts_map h l⟩
theorem dpt_bag (l : List (Str × Int)) : dpt (bagP l) ≤ 2 := by
  unfold bagP dpt
  exact Nat.succ_le_succ (dpts_map (fun q => by simp [dpt, dpts]) l)
theorem noObj_v : (noObj .non = true) ∧ (∀ {i}, noObj (.int i) = true) ∧ (∀ {i}, noObj (.str i) = true) ∧ (∀ {i}, noObj (.bl i) = true) ∧ (∀ {i}, noObj (.tup i) = true) ∧ (∀ {i}, noObj (.lst i) = true) ∧ (∀ {i}, noObj (.dct i) = true) ∧ (∀ {i}, noObj (.obj i) = false) := ⟨rfl, rfl, rfl, rfl, rfl, rfl, rfl, rfl⟩
end L3
set_option Elab.async false
set_option linter.all false
set_option maxRecDepth 100000
namespace L3
open PySem PySem.Spec PyProof.Rows L2
theorem set_app {α : Type} {st : List α} {i : Nat} {x o : α} (h : i < st.length) : (st ++ [o]).set i x = st.set i x ++ [o] := by rw [List.set_append_left _ _ h]
theorem get_app {α : Type} {st : List α} {i : Nat} {x o : α} (h : st[i]? = some x) : (st ++ [o])[i]? = some x := by rw [List.getElem?_append_left (List.getElem?_eq_some_iff.mp h).1]; exact h
end L3
namespace L3
open PySem PySem.Spec PyProof.Rows L2
theorem seq_cut {t u : TS3} {D : Ends3} {env : Env3} {st : Sto} (P : Env3 → Sto → Prop) (h1 : ∀ N : Env3 → Sto → Prop, (∀ e s, P e s → N e s) → t { D with nx := N } env st) (h2 : ∀ e s, P e s → u D e s) : vSeq t u D env st := h1 (u D) h2
theorem eqP_v : (∀ {i j : Int}, eqP (.int i) (.int j) = (i == j)) ∧ (∀ {a b : Str}, eqP (.str a) (.str b) = (a == b)) ∧ (∀ {a b : Bool}, eqP (.bl a) (.bl b) = (a == b)) ∧ (eqP .non .non = true) ∧ (∀ {a b : List PV}, eqP (.tup a) (.tup b) = eqPs a b) ∧ (∀ {a b : List PV}, eqP (.lst a) (.lst b) = eqPs a b) ∧ (∀ {i : Int}, eqP (.int i) .non = false) ∧ (∀ {i : Str}, eqP (.str i) .non = false) ∧ (∀ {i : List PV}, eqP (.tup i) .non = false) ∧ (∀ {i : Int}, eqP .non (.int i) = false) ∧ (∀ {i : Str}, eqP .non (.str i) = false) ∧ (∀ {i : List PV}, eqP .non (.tup i) = false) ∧ (∀ {a : List PV} {b : Str}, eqP (.tup a) (.str b) = false) ∧ (∀ {a : List PV} {b : Str}, eqP (.str b) (.tup a) = false) ∧ (eqPs [] [] = true) ∧ (∀ {x xs}, eqPs (x :: xs) [] = false) ∧ (∀ {x xs}, eqPs [] (x :: xs) = false) ∧ (∀ {x xs y ys}, eqPs (x :: xs) (y :: ys) = (eqP x y && eqPs xs ys)) := by
  refine ⟨?_, ?_, ?_, ?_, ?_, ?_, ?_, ?_, ?_, ?_, ?_, ?_, ?_, ?_, ?_, ?_, ?_, ?_⟩ <;> intros <;> first | rfl | (unfold eqP; rfl) | (unfold eqPs; rfl)
theorem dpt_v : (dpt .non = 0) ∧ (∀ {i}, dpt (.int i) = 0) ∧ (∀ {i}, dpt (.str i) = 0) ∧ (∀ {i}, dpt (.bl i) = 0) ∧ (∀ {i}, dpt (.tup i) = dpts i + 1) ∧ (∀ {i}, dpt (.lst i) = dpts i + 1) ∧ (dpts [] = 0) ∧ (∀ {x xs}, dpts (x :: xs) = max (dpt x) (dpts xs)) := by
  refine ⟨?_, ?_, ?_, ?_, ?_, ?_, ?_, ?_⟩ <;> intros <;> first | rfl | (unfold dpt; rfl) | (unfold dpts; rfl)
theorem dptb (l : List (Str × Int)) : dpt (bagP l) ≤ 50 := Nat.le_trans (dpt_bag l) (by decide)
theorem dptb2 (l : List (Str × Int)) : dpt (bagP l) < 1000 := Nat.lt_of_le_of_lt (dpt_bag l) (by decide)
end L3
set_option Elab.async false
set_option linter.all false
set_option maxRecDepth 100000
set_option maxHeartbeats 4000000
namespace L3
open PySem PySem.Spec PyProof.Rows L2
def vNever : TS3 := fun _ _ _ => False
section
variable {X : Cx}
theorem qs_never {st : Stmt} : PS X st (canS X.K vNever) := ps_weak ps_never fun D σ H ⟨A, env, s, D3, rel, h, k⟩ => h
theorem bounds_rev (n : Nat) : sliceBounds none none (some (-1)) n = ((n : Int) - 1, -1, -1) := by
  simp [sliceBounds]
theorem range_rev (n : Nat) : sliceRange ((n : Int) - 1) (-1) (-1) = (List.range n).map fun k => n - 1 - k := by
  unfold sliceRange
  have e : (if (-1 : Int) > 0 then (if (n : Int) - 1 < -1 then ((-1 : Int) - ((n : Int) - 1) + -1 - 1) / -1 else 0) else (if (n : Int) - 1 > -1 then ((n : Int) - 1 - -1 - -1 - 1) / (- -1) else 0)).toNat = n := by
    rw [if_neg (by decide), show (- -1 : Int) = 1 by decide, Int.ediv_one]
    split <;> omega
  show (List.range ((if (-1 : Int) > 0 then (if (n : Int) - 1 < -1 then ((-1 : Int) - ((n : Int) - 1) + -1 - 1) / -1 else 0) else (if (n : Int) - 1 > -1 then ((n : Int) - 1 - -1 - -1 - 1) / (- -1) else 0)).toNat)).map _ = _
  rw [e]
  refine List.map_congr_left fun k hk => ?_
  have := List.mem_range.mp hk
  omega
theorem pick_rev (its : List Value) : slicePick its.toArray none none (some (-1)) = its.reverse.toArray := by
  unfold slicePick
  rw [bounds_rev]
  dsimp only
  rw [range_rev]
  congr 1
  have gen : ∀ (l : List Value) (n : Nat), n ≤ l.length → ((List.range n).map fun k => n - 1 - k).filterMap (fun i => l.toArray[i]?) = (l.take n).reverse := by
    intro l n
    induction n with
    | zero => intro _; simp
    | succ n ih =>
      intro h
      rw [List.range_succ_eq_map, List.map_cons, List.map_map, List.filterMap_cons]
      have h1 : l.toArray[n + 1 - 1 - 0]? = some l[n] := by simp
      rw [h1]
      have e : ((fun k => n + 1 - 1 - k) ∘ Nat.succ) = fun k => n - 1 - k := by funext k; show n + 1 - 1 - (k + 1) = n - 1 - k; omega
      rw [e, ih (by omega), take_succ' (x := l[n]) (by simp), List.reverse_append]; rfl
  have := gen its its.toArray.size (by simp)
  rw [this, List.take_of_length_le (by simp)]
def tRev (K : PySem.W.Frag) (te : TE) (tl : TO) : TE := fun σ H Q => te σ H fun x H1 => tl σ H1 fun l H2 => l = some (-1) ∧ ∃ a xs, x = .ref a ∧ SqL K H2 a xs ∧ ∀ p, H2 p = none → Q (.ref p) (upd H2 p (.lst xs.reverse))
theorem pe_revSl {e se : Expr} {te : TE} {tl : TO} {p2 pos : Pos} (he : PE X e te) (hl : L2.PO X (some se) tl) : PE X (.Subscript e (.Slice none none (some se) p2) pos) (tRev X.K te tl) := by
  refine ⟨fun pins s σ H Q I h => ?_⟩
  refine Subscript_ (thn (he pins s σ H _ I h) fun v s1 ⟨x, H1, I1, r1, q1⟩ => ?_)
  refine wpAny_Slice ?_
  rw [evalPart_none]
  refine wpAny_pure (wpAny_pure ?_)
  refine thn (hl pins s1 σ H1 _ I1 q1) fun vu s3 ⟨u, H3, I3, pu, hu, a, xs, ex, hx, q⟩ => ?_
  subst hu ex
  cases r1
  have I4 : Inv X pins σ H3 { s3 with heap := s3.heap.push { cls := .type "slice", data := .fields #[.none, .none, vu] } } := I3.kept (t' := s3.toks) fun b ob q => Heap.get?_push_of_some _ q
  obtain ⟨its, r, ht, hz⟩ := I4.list hx
  have hlen := r.length
  show wpAny (model X.prog X.w) X.A (subscriptTail e (.Slice none none (some se) p2) (.ref a) (.ref s3.heap.objs.size)) (EP X pins σ Q) X.xe { s3 with heap := s3.heap.push { cls := .type "slice", data := .fields #[.none, .none, vu] } }
  refine tail_any (ops := [.ref a, .ref s3.heap.objs.size]) ht.isList.typeIs slot_list_getitem.lookup ?_ (by with_unfolding_all rfl)
  refine wpAny_getItem_list_slice ht.isList (Heap.IsSliceOf.new ..) .none .none pu (by simp) ?_ (by rw [List.size_toArray] <;> omega)
  rw [pick_rev]
  refine ⟨.ref _, _, I4.laid (t' := s3.toks) (o := .lst xs.reverse) (fun b ob q => Heap.get?_push_of_some _ q) (Nat.le_refl _) ?_, rfl, q _ (I4.hok.fresh (Nat.le_refl _))⟩
  exact ⟨by rw [List.length_reverse]; exact hz, its.reverse, 0, r.reverse, Heap.get?_push_size _ rfl⟩
def vRevSl (T : TE3) (Tl : TO3) : TE3 := fun env st Q => T env st fun x st1 => Tl env st1 fun l st2 => l = some (-1) ∧ (match x with | .lst xs => Q (.lst xs.reverse) st2 | _ => False)
end
end L3
set_option Elab.async false
set_option linter.all false
set_option maxRecDepth 100000
namespace L3
open PySem PySem.Spec PyProof.Rows L2
end L3
set_option Elab.async false
set_option linter.all false
set_option maxRecDepth 100000
set_option maxHeartbeats 4000000
namespace L3
open PySem PySem.Spec PyProof.Rows L2
section
variable {α : Type} [DecidableEq α]
def lcp : List α → List α → Nat
  | x :: xs, y :: ys => if x = y then lcp xs ys + 1 else 0
  | _, _ => 0
def chA (xs ys : List α) : Nat := lcp xs ys
def chE (xs ys : List α) : Nat := lcp (xs.drop (chA xs ys)).reverse (ys.drop (chA xs ys)).reverse
def chW (xs ys : List α) : List α := (ys.take (ys.length - chE xs ys)).drop (chA xs ys)
end
section
variable {α : Type} [DecidableEq α]
def chB (xs ys : List α) : Nat := xs.length - chE xs ys
def both (w : List α) (a b : Nat) (u : List α) (c d : Nat) (v : List α) : List α := w.take a ++ u ++ (w.take c).drop b ++ v ++ w.drop d
def three (w m y : List α) : Option (List α) :=
  if y = w then some m else if m = w ∨ m = y then some y else
  if decide (chB w m ≤ chA w y) = decide (chB w y ≤ chA w m) then none else
  if chB w m ≤ chA w y then some (both w (chA w m) (chB w m) (chW w m) (chA w y) (chB w y) (chW w y))
  else some (both w (chA w y) (chB w y) (chW w y) (chA w m) (chB w m) (chW w m))
end
section
variable {X : Cx}
def vTupRev (T : TE3) : TE3 := fun env st Q => T env st fun x st1 => match x with | .tup xs => Q (.tup xs.reverse) st1 | _ => False
end
end L3
set_option Elab.async false
set_option linter.all false
set_option maxRecDepth 100000
set_option maxHeartbeats 4000000
namespace L3
open PySem PySem.Spec PyProof.Rows L2
section
variable {X : Cx} {a b c : Expr} {pos : Pos} {Tx : TA3}
def vPar3 (i j l : Nat) (T : TA3) : TS3 := fun D env st => T env st fun xs st1 => match xs with | [x, y, z] => D.nx (((env.set l (some z)).set j (some y)).set i (some x)) st1 | _ => False
end
end L3
set_option Elab.async false
set_option linter.all false
set_option maxRecDepth 100000
set_option maxHeartbeats 4000000
namespace L3
open PySem PySem.Spec PyProof.Rows L2
section
variable {X : Cx}
end
end L3
set_option Elab.async false
set_option linter.all false
set_option maxRecDepth 100000
set_option maxHeartbeats 4000000
namespace L3
set_option smartUnfolding false
open PySem PySem.Spec PyProof.Rows L2
def optP {α : Type} (o : Option α) (F : α → Prop) : Prop := match o with | some x => F x | none => False
section
variable {i j : Int} {a b : Str} {xs ys zs : List PV} {x y z : PV} {n m : Nat} {st : Sto} {Q : K3} {p q : Bool} {kvs : List (Key × PV)} {env : Env3}
@[simp] theorem e_addI : rAdd3 (.int i) (.int j) st Q = Q (.int (i + j)) st := rfl
@[simp] theorem e_addS : rAdd3 (.str a) (.str b) st Q = (a.length + b.length ≤ sizeLine ∧ Q (.str (a ++ b)) st) := rfl
@[simp] theorem e_addT : rAdd3 (.tup xs) (.tup ys) st Q = (xs.length + ys.length ≤ sizeLine ∧ Q (.tup (xs ++ ys)) st) := rfl
@[simp] theorem e_addL : rAdd3 (.lst xs) (.lst ys) st Q = (xs.length + ys.length ≤ sizeLine ∧ Q (.lst (xs ++ ys)) st) := rfl
@[simp] theorem e_sub : rSub3 (.int i) (.int j) st Q = Q (.int (i - j)) st := rfl
@[simp] theorem e_mulI : rMul3 (.int i) (.int j) st Q = (((-(2 ^ 64) < i ∧ i < 2 ^ 64) ∨ (-(2 ^ 64) < j ∧ j < 2 ^ 64)) ∧ Q (.int (i * j)) st) := rfl
@[simp] theorem e_mulS : rMul3 (.str a) (.int i) st Q = (if i = 0 then Q (.str Str.empty) st else i = 1 ∧ Q (.str a) st) := rfl
@[simp] theorem e_mod : rMod3 (.int i) (.int j) st Q = (0 < j ∧ Q (.int (i % j)) st) := rfl
@[simp] theorem e_div : rDiv3 (.int i) (.int j) st Q = ((0 < j ∧ j < 1099511627776) ∧ Q (.int (i / j)) st) := rfl
@[simp] theorem e_pow : rPow3 (.int i) (.int j) st Q = (CPow i j ∧ Q (.int (i ^ j.toNat)) st) := rfl
@[simp] theorem e_neg : rNeg3 (.int i) st Q = Q (.int (-i)) st := rfl
@[simp] theorem e_cmp {f : Int → Int → Bool} : rCmp3 f (.int i) (.int j) st Q = Q (.bl (f i j)) st := rfl
@[simp] theorem e_isN : rIsN3 x .non st Q = Q (.bl (isNon x)) st := rfl
@[simp] theorem e_notN : rNotN3 x .non st Q = Q (.bl (!isNon x)) st := rfl
@[simp] theorem e_non0 : isNon .non = true := rfl
@[simp] theorem e_nonI : isNon (.int i) = false := rfl
@[simp] theorem e_nonS : isNon (.str a) = false := rfl
@[simp] theorem e_nonB : isNon (.bl p) = false := rfl
@[simp] theorem e_nonT : isNon (.tup xs) = false := rfl
@[simp] theorem e_nonL : isNon (.lst xs) = false := rfl
@[simp] theorem e_nonD : isNon (.dct kvs) = false := rfl
@[simp] theorem e_nonO : isNon (.obj n) = false := rfl
@[simp] theorem e_kI : kOf (.int i) = some (.inl i) := rfl
@[simp] theorem e_kS : kOf (.str a) = some (.inr a) := rfl
def ixO (o : Option PO) (y : PV) (st : Sto) (Q : K3) : Prop := match o with
  | some (.lst xs) => (match y with | .int i => optP (atI xs i) fun z => Q z st | _ => False)
  | some (.dct kvs) => optP (kOf y) fun k => optP (valP kvs k) fun z => Q z st
  | _ => False
@[simp] theorem e_ixT : rIx3 (.tup xs) (.int i) st Q = optP (atI xs i) fun z => Q z st := rfl
@[simp] theorem e_ixL : rIx3 (.lst xs) (.int i) st Q = optP (atI xs i) fun z => Q z st := rfl
@[simp] theorem e_ixS : rIx3 (.str a) (.int i) st Q = (a.length ≤ sizeLine ∧ optP (atI a.cps.toList i) fun c => Q (.str ⟨#[c]⟩) st) := rfl
@[simp] theorem e_ixD : rIx3 (.dct kvs) y st Q = optP (kOf y) fun k => optP (valP kvs k) fun z => Q z st := rfl
@[simp] theorem e_ixO : rIx3 (.obj n) y st Q = ixO st[n]? y st Q := rfl
@[simp] theorem e_ixOL : ixO (some (.lst xs)) (.int i) st Q = optP (atI xs i) fun z => Q z st := rfl
@[simp] theorem e_ixOD : ixO (some (.dct kvs)) y st Q = optP (kOf y) fun k => optP (valP kvs k) fun z => Q z st := rfl
def setO (o : Option PO) (n : Nat) (i v : PV) (st : Sto) (Q : Sto → Prop) : Prop := match o with
  | some (.lst xs) => (match i with | .int k => noObj v = true ∧ optP (ixN xs.length k) fun j => Q (st.set n (.lst (xs.set j v))) | _ => False)
  | some (.dct kvs) => optP (kOf i) fun k => noObj v = true ∧ kvs.length < sizeLine ∧ Q (st.set n (.dct (putP kvs k v)))
  | _ => False
@[simp] theorem e_set {Q : Sto → Prop} : rSet3 (.obj n) x y st Q = setO st[n]? n x y st Q := rfl
@[simp] theorem e_setL {Q : Sto → Prop} : setO (some (.lst xs)) n (.int i) y st Q = (noObj y = true ∧ optP (ixN xs.length i) fun j => Q (st.set n (.lst (xs.set j y)))) := rfl
@[simp] theorem e_setD {Q : Sto → Prop} : setO (some (.dct kvs)) n x y st Q = optP (kOf x) fun k => noObj y = true ∧ kvs.length < sizeLine ∧ Q (st.set n (.dct (putP kvs k y))) := rfl
@[simp] theorem e_slT {l h : Option Int} : rSl3 (.tup xs) l h st Q = Q (.tup (cutP xs l h)) st := rfl
@[simp] theorem e_slL {l h : Option Int} : rSl3 (.lst xs) l h st Q = Q (.lst (cutP xs l h)) st := rfl
@[simp] theorem e_slS {l h : Option Int} : rSl3 (.str a) l h st Q = (a.length ≤ sizeLine ∧ ((Txt.slice a l h).length ≤ a.length → Q (.str (Txt.slice a l h)) st)) := rfl
def lenO (o : Option PO) (k : Nat → Prop) : Prop := match o with | some (.lst xs) => k xs.length | some (.dct kvs) => k kvs.length | _ => False
@[simp] theorem e_len : rLen3 [x] st Q = lenP x st fun n => Q (.int n) st := rfl
@[simp] theorem e_lenT {k : Nat → Prop} : lenP (.tup xs) st k = k xs.length := rfl
@[simp] theorem e_lenL {k : Nat → Prop} : lenP (.lst xs) st k = k xs.length := rfl
@[simp] theorem e_lenS {k : Nat → Prop} : lenP (.str a) st k = (a.length ≤ sizeLine ∧ k a.length) := rfl
@[simp] theorem e_lenO {k : Nat → Prop} : lenP (.obj n) st k = lenO st[n]? k := rfl
@[simp] theorem e_lenOL {k : Nat → Prop} : lenO (some (.lst xs)) k = k xs.length := rfl
@[simp] theorem e_lenOD {k : Nat → Prop} : lenO (some (.dct kvs)) k = k kvs.length := rfl
def tupO (o : Option PO) (st : Sto) (Q : K3) : Prop := match o with | some (.lst ys) => Q (.tup ys) st | some (.dct kvs) => Q (.tup (kvs.map fun q => match q.1 with | .inl i => .int i | .inr z => .str z)) st | _ => False
@[simp] theorem e_tupL : rTuple3 [.lst ys] st Q = Q (.tup ys) st := rfl
@[simp] theorem e_tupT : rTuple3 [.tup ys] st Q = Q (.tup ys) st := rfl
@[simp] theorem e_tupO : rTuple3 [.obj n] st Q = tupO st[n]? st Q := rfl
@[simp] theorem e_tupOL : tupO (some (.lst ys)) st Q = Q (.tup ys) st := rfl
@[simp] theorem e_tupOD : tupO (some (.dct kvs)) st Q = Q (.tup (kvs.map fun q => match q.1 with | .inl i => .int i | .inr z => .str z)) st := rfl
@[simp] theorem e_isi {t : String} : rIsi3 [x, .ty t] st Q = optP (isiP x t) fun b => Q (.bl b) st := rfl
@[simp] theorem e_isB1 : isiP (.bl p) "int" = some true := rfl
@[simp] theorem e_isB2 : isiP (.bl p) "bool" = some true := rfl
@[simp] theorem e_isB3 : isiP (.bl p) "str" = some false := rfl
@[simp] theorem e_isB4 : isiP (.bl p) "tuple" = some false := rfl
@[simp] theorem e_isB5 : isiP (.bl p) "list" = some false := rfl
@[simp] theorem e_isI1 : isiP (.int i) "int" = some true := rfl
@[simp] theorem e_isI2 : isiP (.int i) "bool" = some false := rfl
@[simp] theorem e_isI3 : isiP (.int i) "str" = some false := rfl
@[simp] theorem e_isI4 : isiP (.int i) "tuple" = some false := rfl
@[simp] theorem e_isI5 : isiP (.int i) "list" = some false := rfl
@[simp] theorem e_isS1 : isiP (.str a) "int" = some false := rfl
@[simp] theorem e_isS3 : isiP (.str a) "str" = some true := rfl
@[simp] theorem e_isS4 : isiP (.str a) "tuple" = some false := rfl
@[simp] theorem e_isT1 : isiP (.tup xs) "int" = some false := rfl
@[simp] theorem e_isT3 : isiP (.tup xs) "str" = some false := rfl
@[simp] theorem e_isT4 : isiP (.tup xs) "tuple" = some true := rfl
@[simp] theorem e_isT5 : isiP (.tup xs) "list" = some false := rfl
@[simp] theorem e_isL4 : isiP (.lst xs) "tuple" = some false := rfl
@[simp] theorem e_isL5 : isiP (.lst xs) "list" = some true := rfl
@[simp] theorem e_intI : rInt3 [.int i] st Q = Q (.int i) st := rfl
@[simp] theorem e_intB : rInt3 [.bl p] st Q = Q (.int (if p then 1 else 0)) st := rfl
@[simp] theorem e_min : rMin3 [.int i, .int j] st Q = Q (.int (if j < i then j else i)) st := rfl
@[simp] theorem e_max : rMax3 [.int i, .int j] st Q = Q (.int (if j > i then j else i)) st := rfl
def truO (o : Option PO) (k : Bool → Prop) : Prop := match o with | some (.lst xs) => k (!xs.isEmpty) | some (.dct xs) => k (!xs.isEmpty) | _ => False
@[simp] theorem e_truN {k : Bool → Prop} : rTru .non st k = k false := rfl
@[simp] theorem e_truB {k : Bool → Prop} : rTru (.bl p) st k = k p := rfl
@[simp] theorem e_truI {k : Bool → Prop} : rTru (.int i) st k = k (i != 0) := rfl
@[simp] theorem e_truS {k : Bool → Prop} : rTru (.str a) st k = (a.length ≤ sizeLine ∧ k ((a.length : Int) != 0)) := rfl
@[simp] theorem e_truT {k : Bool → Prop} : rTru (.tup xs) st k = k (!xs.isEmpty) := rfl
@[simp] theorem e_truL {k : Bool → Prop} : rTru (.lst xs) st k = k (!xs.isEmpty) := rfl
@[simp] theorem e_truD {k : Bool → Prop} : rTru (.dct kvs) st k = k (!kvs.isEmpty) := rfl
@[simp] theorem e_truO {k : Bool → Prop} : rTru (.obj n) st k = truO st[n]? k := rfl
@[simp] theorem e_truOL {k : Bool → Prop} : truO (some (.lst xs)) k = k (!xs.isEmpty) := rfl
@[simp] theorem e_truOD {k : Bool → Prop} : truO (some (.dct kvs)) k = k (!kvs.isEmpty) := rfl
def appO (o : Option PO) (n : Nat) (y : PV) (st : Sto) (Q : K3) : Prop := match o with | some (.lst zs) => noObj y = true ∧ zs.length < sizeLine ∧ Q .non (st.set n (.lst (zs ++ [y]))) | _ => False
@[simp] theorem e_app : rAppend3 (.obj n) [y] st Q = appO st[n]? n y st Q := rfl
@[simp] theorem e_appL : appO (some (.lst zs)) n y st Q = (noObj y = true ∧ zs.length < sizeLine ∧ Q .non (st.set n (.lst (zs ++ [y])))) := rfl
def extO (o : Option PO) (n : Nat) (ys : List PV) (st : Sto) (Q : K3) : Prop := match o with | some (.lst zs) => zs.length + ys.length ≤ sizeLine ∧ Q .non (st.set n (.lst (zs ++ ys))) | _ => False
@[simp] theorem e_ext : rExtend3 (.obj n) [.lst ys] st Q = extO st[n]? n ys st Q := rfl
@[simp] theorem e_extL : extO (some (.lst zs)) n ys st Q = (zs.length + ys.length ≤ sizeLine ∧ Q .non (st.set n (.lst (zs ++ ys)))) := rfl
def popO (o : Option PO) (n : Nat) (st : Sto) (Q : K3) : Prop := match o with | some (.lst zs) => optP zs.getLast? fun y => Q y (st.set n (.lst zs.dropLast)) | _ => False
@[simp] theorem e_pop : rPop3 (.obj n) [] st Q = popO st[n]? n st Q := rfl
@[simp] theorem e_popL : popO (some (.lst zs)) n st Q = optP zs.getLast? fun y => Q y (st.set n (.lst zs.dropLast)) := rfl
def dctO (o : Option PO) : Option (List (Key × PV)) := match o with | some (.dct kvs) => some kvs | _ => none
@[simp] theorem e_dctD : dctOf (.dct kvs) st = some kvs := rfl
@[simp] theorem e_dctO : dctOf (.obj n) st = dctO st[n]? := rfl
@[simp] theorem e_dctOD : dctO (some (.dct kvs)) = some kvs := rfl
def tyO (o : Option PO) : String := match o with | some (.lst _) => "list" | some (.dct _) => "dict" | _ => ""
@[simp] theorem e_tyL : isTy (.lst xs) st = "list" := rfl
@[simp] theorem e_tyD : isTy (.dct kvs) st = "dict" := rfl
@[simp] theorem e_tyS : isTy (.str a) st = "str" := rfl
@[simp] theorem e_tyO : isTy (.obj n) st = tyO st[n]? := rfl
@[simp] theorem e_tyOL : tyO (some (.lst xs)) = "list" := rfl
@[simp] theorem e_tyOD : tyO (some (.dct kvs)) = "dict" := rfl
def itsO (o : Option PO) : Option (List PV) := match o with | some (.lst xs) => some xs | some (.dct kvs) => some (kvs.map fun q => keyP q.1) | _ => none
@[simp] theorem e_itsL : itsOf (.lst xs) st = some xs := rfl
@[simp] theorem e_itsT : itsOf (.tup xs) st = some xs := rfl
@[simp] theorem e_itsD : itsOf (.dct kvs) st = some (kvs.map fun q => keyP q.1) := rfl
@[simp] theorem e_itsO : itsOf (.obj n) st = itsO st[n]? := rfl
@[simp] theorem e_itsOL : itsO (some (.lst xs)) = some xs := rfl
@[simp] theorem e_itsOD : itsO (some (.dct kvs)) = some (kvs.map fun q => keyP q.1) := rfl
@[simp] theorem e_list : rList3 [x] st Q = optP (itsOf x st) fun ys => Q (.lst ys) st := rfl
@[simp] theorem e_listO : rListO3 [x] st Q = optP (itsOf x st) fun ys => Q (.obj st.length) (st ++ [.lst ys]) := rfl
def testK (Q : Bool → Sto → Prop) (x : PV) (st : Sto) : Prop := match x with | .bl k => Q k st | _ => False
@[simp] theorem e_test {T : TE3} {Q : Bool → Sto → Prop} : vTest T env st Q = T env st (testK Q) := rfl
@[simp] theorem e_testB {Q : Bool → Sto → Prop} : testK Q (.bl p) st = Q p st := rfl
def andK (T : TE3) (env : Env3) (Q : K3) (x : PV) (st : Sto) : Prop := match x with | .bl c => if c = true then T env st Q else Q (.bl false) st | _ => False
@[simp] theorem e_and {T U : TE3} : vAndV T U env st Q = T env st (andK U env Q) := rfl
@[simp] theorem e_andB {T : TE3} : andK T env Q (.bl p) st = if p = true then T env st Q else Q (.bl false) st := rfl
def orK (T : TE3) (env : Env3) (Q : K3) (x : PV) (st : Sto) : Prop := match x with | .bl c => if c = true then Q (.bl true) st else T env st Q | _ => False
@[simp] theorem e_or {T U : TE3} : vOrV T U env st Q = T env st (orK U env Q) := rfl
@[simp] theorem e_orB {T : TE3} : orK T env Q (.bl p) st = if p = true then Q (.bl true) st else T env st Q := rfl
def notK (Q : K3) (x : PV) (st : Sto) : Prop := match x with | .bl c => Q (.bl (!c)) st | _ => False
@[simp] theorem e_not {T : TE3} : vNotV T env st Q = T env st (notK Q) := rfl
@[simp] theorem e_notB : notK Q (.bl p) st = Q (.bl (!p)) st := rfl
@[simp] theorem e_gTT {gs : TGs3} {Q : Env3 → Sto → Prop} : gT n gs (.tup xs) env st Q = (xs.length = n ∧ gs xs env st Q) := rfl
@[simp] theorem e_gTL {gs : TGs3} {Q : Env3 → Sto → Prop} : gT n gs (.lst xs) env st Q = (xs.length = n ∧ gs xs env st Q) := rfl
@[simp] theorem e_gsN {Q : Env3 → Sto → Prop} : gsN [] env st Q = Q env st := rfl
@[simp] theorem e_gsC {g : TG3} {gs : TGs3} {Q : Env3 → Sto → Prop} : gsC g gs (x :: xs) env st Q = g x env st fun env1 st1 => gs xs env1 st1 Q := rfl
def parK (n m : Nat) (D : Ends3) (env : Env3) (xs : List PV) (st : Sto) : Prop := match xs with | [x, y] => D.nx ((env.set n (some x)).set m (some y)) st | _ => False
@[simp] theorem e_par {T : TA3} {D : Ends3} : vPar n m T D env st = T env st (parK n m D env) := rfl
@[simp] theorem e_par2 {D : Ends3} : parK n m D env [x, y] st = D.nx ((env.set n (some x)).set m (some y)) st := rfl
def par3K (n m l : Nat) (D : Ends3) (env : Env3) (xs : List PV) (st : Sto) : Prop := match xs with | [x, y, z] => D.nx (((env.set l (some z)).set m (some y)).set n (some x)) st | _ => False
@[simp] theorem e_par3 {l : Nat} {T : TA3} {D : Ends3} : vPar3 n m l T D env st = T env st (par3K n m l D env) := rfl
@[simp] theorem e_par33 {l : Nat} {D : Ends3} : par3K n m l D env [x, y, z] st = D.nx (((env.set l (some z)).set m (some y)).set n (some x)) st := rfl
def anyO (o : Option PO) (n : Nat) (st : Sto) (Q : Src → List PV → Sto → Prop) : Prop := match o with | some (.lst xs) => Q (some (n, .lst xs)) xs st | _ => False
def anyK (Q : Src → List PV → Sto → Prop) (x : PV) (st : Sto) : Prop := match x with
  | .lst xs => Q none xs st
  | .tup xs => Q none xs st
  | .str z => z.length ≤ sizeLine ∧ Q none (signs z) st
  | .obj n => anyO st[n]? n st Q
  | _ => False
@[simp] theorem e_any {T : TE3} {Q : Src → List PV → Sto → Prop} : iAny T env st Q = T env st (anyK Q) := rfl
@[simp] theorem e_anyL {Q : Src → List PV → Sto → Prop} : anyK Q (.lst xs) st = Q none xs st := rfl
@[simp] theorem e_anyT {Q : Src → List PV → Sto → Prop} : anyK Q (.tup xs) st = Q none xs st := rfl
@[simp] theorem e_anyS {Q : Src → List PV → Sto → Prop} : anyK Q (.str a) st = (a.length ≤ sizeLine ∧ Q none (signs a) st) := rfl
@[simp] theorem e_anyO {Q : Src → List PV → Sto → Prop} : anyK Q (.obj n) st = anyO st[n]? n st Q := rfl
@[simp] theorem e_anyOL {Q : Src → List PV → Sto → Prop} : anyO (some (.lst xs)) n st Q = Q (some (n, .lst xs)) xs st := rfl
def rngK (Q : Src → List PV → Sto → Prop) (xs : List PV) (st : Sto) : Prop := match xs with | [.int j] => (-1000000 ≤ j ∧ j ≤ 1000000) ∧ Q none (rngL 0 j.toNat) st | _ => False
@[simp] theorem e_rng {T : TA3} {Q : Src → List PV → Sto → Prop} : iRng T env st Q = T env st (rngK Q) := rfl
@[simp] theorem e_rng1 {Q : Src → List PV → Sto → Prop} : rngK Q [.int j] st = ((-1000000 ≤ j ∧ j ≤ 1000000) ∧ Q none (rngL 0 j.toNat) st) := rfl
def rngBK (Q : Src → List PV → Sto → Prop) (xs : List PV) (st : Sto) : Prop := match xs with | [.int i, .int j] => (-1000000 ≤ i ∧ i ≤ 1000000 ∧ -1000000 ≤ j ∧ j ≤ 1000000) ∧ Q none (rngL i (j - i).toNat) st | _ => False
@[simp] theorem e_rngB {T : TA3} {Q : Src → List PV → Sto → Prop} : iRngB T env st Q = T env st (rngBK Q) := rfl
@[simp] theorem e_rngB2 {Q : Src → List PV → Sto → Prop} : rngBK Q [.int i, .int j] st = ((-1000000 ≤ i ∧ i ≤ 1000000 ∧ -1000000 ≤ j ∧ j ≤ 1000000) ∧ Q none (rngL i (j - i).toNat) st) := rfl
def someK (Q : Option Int → Sto → Prop) (x : PV) (st : Sto) : Prop := match x with | .int i => Q (some i) st | _ => False
@[simp] theorem e_some {T : TE3} {Q : Option Int → Sto → Prop} : oSome T env st Q = T env st (someK Q) := rfl
@[simp] theorem e_someI {Q : Option Int → Sto → Prop} : someK Q (.int i) st = Q (some i) st := rfl
def trevK (Q : K3) (x : PV) (st : Sto) : Prop := match x with | .tup xs => Q (.tup xs.reverse) st | _ => False
@[simp] theorem e_trev {T : TE3} : vTupRev T env st Q = T env st (trevK Q) := rfl
@[simp] theorem e_trevT : trevK Q (.tup xs) st = Q (.tup xs.reverse) st := rfl
def revK (Q : K3) (x : PV) (st : Sto) : Prop := match x with | .lst xs => Q (.lst xs.reverse) st | _ => False
@[simp] theorem e_rev {T : TE3} {U : TO3} : vRevSl T U env st Q = T env st fun x st1 => U env st1 fun l st2 => l = some (-1) ∧ revK Q x st2 := rfl
@[simp] theorem e_revL : revK Q (.lst xs) st = Q (.lst xs.reverse) st := rfl
@[simp] theorem e_exI : Exit m Q (.int i) st = Q (.int i) (st.take m) := rfl
@[simp] theorem e_exS : Exit m Q (.str a) st = Q (.str a) (st.take m) := rfl
@[simp] theorem e_exB : Exit m Q (.bl p) st = Q (.bl p) (st.take m) := rfl
@[simp] theorem e_exN : Exit m Q .non st = Q .non (st.take m) := rfl
@[simp] theorem e_exT : Exit m Q (.tup xs) st = Q (.tup xs) (st.take m) := rfl
@[simp] theorem e_exL : Exit m Q (.lst xs) st = Q (.lst xs) (st.take m) := rfl
@[simp] theorem e_exD : Exit m Q (.dct kvs) st = Q (.dct kvs) (st.take m) := rfl
@[simp] theorem e_wN {P : Prop} : withS none st P = P := rfl
@[simp] theorem e_wS {P : Prop} {o : PO} : withS (some (n, o)) st P = (st[n]? = some o ∧ P) := rfl
@[simp] theorem e_oN : noObj .non = true := rfl
@[simp] theorem e_oI : noObj (.int i) = true := rfl
@[simp] theorem e_oS : noObj (.str a) = true := rfl
@[simp] theorem e_oB : noObj (.bl p) = true := rfl
@[simp] theorem e_oT : noObj (.tup xs) = true := rfl
@[simp] theorem e_oL : noObj (.lst xs) = true := rfl
@[simp] theorem e_oD : noObj (.dct kvs) = true := rfl
@[simp] theorem e_oO : noObj (.obj n) = false := rfl
end
@[simp] theorem u_vNext {D : Ends3} {env : Env3} {st : Sto} : vNext  D env st = (D.nx env st) := rfl
@[simp] theorem u_vAsg {T : TE3} {g : TG3} {D : Ends3} {env : Env3} {st : Sto} : vAsg T g D env st = (T env st fun x st1 => g x env st1 D.nx) := rfl
@[simp] theorem u_vIfS {c : TT3} {t u : TS3} {D : Ends3} {env : Env3} {st : Sto} : vIfS c t u D env st = (c env st fun b st1 => if b = true then t D env st1 else u D env st1) := rfl
@[simp] theorem u_vRet {T : TE3} {D : Ends3} {env : Env3} {st : Sto} : vRet T D env st = (T env st D.rt) := rfl
@[simp] theorem u_vRetN {D : Ends3} {w1 : Env3} {st : Sto} : vRetN  D w1 st = (D.rt .non st) := rfl
@[simp] theorem u_vDrop {T : TE3} {D : Ends3} {env : Env3} {st : Sto} : vDrop T D env st = (T env st fun _ st1 => D.nx env st1) := rfl
@[simp] theorem u_vTru {T : TE3} {env : Env3} {st : Sto} {Q : Bool → Sto → Prop} : vTru T env st Q = (T env st fun x st1 => rTru x st1 fun k => Q k st1) := rfl
@[simp] theorem u_vAnd {t u : TT3} {env : Env3} {st : Sto} {Q : Bool → Sto → Prop} : vAnd t u env st Q = (t env st fun c st1 => if c = true then u env st1 Q else Q false st1) := rfl
@[simp] theorem u_vOr {t u : TT3} {env : Env3} {st : Sto} {Q : Bool → Sto → Prop} : vOr t u env st Q = (t env st fun c st1 => if c = true then Q true st1 else u env st1 Q) := rfl
@[simp] theorem u_vNot {t : TT3} {env : Env3} {st : Sto} {Q : Bool → Sto → Prop} : vNot t env st Q = (t env st fun c st1 => Q (!c) st1) := rfl
@[simp] theorem u_vIf {t : TT3} {Ta Tb : TE3} {env : Env3} {st : Sto} {Q : K3} : vIf t Ta Tb env st Q = (t env st fun c st1 => if c = true then Ta env st1 Q else Tb env st1 Q) := rfl
@[simp] theorem u_vOp {R : R3} {Ta Tb : TE3} {env : Env3} {st : Sto} {Q : K3} : vOp R Ta Tb env st Q = (Ta env st fun x st1 => Tb env st1 fun y st2 => R x y st2 Q) := rfl
@[simp] theorem u_vUn {R : PV → Sto → K3 → Prop} {Ta : TE3} {env : Env3} {st : Sto} {Q : K3} : vUn R Ta env st Q = (Ta env st fun x st1 => R x st1 Q) := rfl
@[simp] theorem u_vC {x : PV} {w0 : Env3} {st : Sto} {Q : K3} : vC x w0 st Q = (Q x st) := rfl
@[simp] theorem u_vNil {w0 : Env3} {st : Sto} {Q : List PV → Sto → Prop} : vNil  w0 st Q = (Q [] st) := rfl
@[simp] theorem u_vCons {Ta : TE3} {Tr : TA3} {env : Env3} {st : Sto} {Q : List PV → Sto → Prop} : vCons Ta Tr env st Q = (Ta env st fun x st1 => Tr env st1 fun xs st2 => Q (x :: xs) st2) := rfl
@[simp] theorem u_vTup {T : TA3} {env : Env3} {st : Sto} {Q : K3} : vTup T env st Q = (T env st fun xs st1 => okI xs = true ∧ Q (.tup xs) st1) := rfl
@[simp] theorem u_vLst {T : TA3} {env : Env3} {st : Sto} {Q : K3} : vLst T env st Q = (T env st fun xs st1 => okI xs = true ∧ Q (.lst xs) st1) := rfl
@[simp] theorem u_vLstO {T : TA3} {env : Env3} {st : Sto} {Q : K3} : vLstO T env st Q = (T env st fun xs st1 => okI xs = true ∧ Q (.obj st1.length) (st1 ++ [.lst xs])) := rfl
@[simp] theorem u_vCB {R : Sp3} {T : TA3} {env : Env3} {st : Sto} {Q : K3} : vCB R T env st Q = (T env st fun xs st1 => R xs st1 Q) := rfl
@[simp] theorem u_vSl {T : TE3} {Tl Th : TO3} {env : Env3} {st : Sto} {Q : K3} : vSl T Tl Th env st Q = (T env st fun x st1 => Tl env st1 fun l st2 => Th env st2 fun u st3 => rSl3 x l u st3 Q) := rfl
@[simp] theorem u_oNone {w0 : Env3} {st : Sto} {Q : Option Int → Sto → Prop} : oNone  w0 st Q = (Q none st) := rfl
@[simp] theorem u_gS {To Ti : TE3} {v : PV} {env : Env3} {st : Sto} {Q : Env3 → Sto → Prop} : gS To Ti v env st Q = (To env st fun o st1 => Ti env st1 fun i st2 => rSet3 o i v st2 fun st3 => Q env st3) := rfl
@[simp] theorem u_vBM {T : String} {R : PV → Sp3} {To : TE3} {TA : TA3} {env : Env3} {st : Sto} {Q : K3} : vBM T R To TA env st Q = (To env st fun x st1 => isTy x st1 = T ∧ TA env st1 fun xs st2 => R x xs st2 Q) := rfl
@[simp] theorem u_vBM0 {T : String} {R : PV → Sp3} {To : TE3} {env : Env3} {st : Sto} {Q : K3} : vBM0 T R To env st Q = (To env st fun x st1 => isTy x st1 = T ∧ R x [] st1 Q) := rfl
@[simp] theorem u_vDNew {w0 : Env3} {st : Sto} {Q : K3} : vDNew  w0 st Q = (Q (.obj st.length) (st ++ [.dct []])) := rfl
@[simp] theorem u_vBreak {D : Ends3} {env : Env3} {st : Sto} : vBreak  D env st = (D.bk env st) := rfl
@[simp] theorem u_vCont {D : Ends3} {env : Env3} {st : Sto} : vCont  D env st = (D.ct env st) := rfl
@[simp] theorem u_rEq3 {x : PV} {y : PV} {st : Sto} {Q : K3} : rEq3  x y st Q = ((dpt x ≤ 50 ∧ dpt y < 1000) ∧ Q (.bl (eqP x y)) st) := rfl
@[simp] theorem u_rNe3 {x : PV} {y : PV} {st : Sto} {Q : K3} : rNe3  x y st Q = ((dpt x ≤ 50 ∧ dpt y < 1000) ∧ Q (.bl (!eqP x y)) st) := rfl
@[simp] theorem u_gN {i : Nat} {x : PV} {env : Env3} {st : Sto} {Q : Env3 → Sto → Prop} : gN i x env st Q = (Q (env.set i (some x)) st) := rfl
@[simp] theorem u_vNever {w0 : Ends3} {w1 : Env3} {w2 : Sto} : vNever  w0 w1 w2 = (False) := rfl
@[simp] theorem u_vFor {I : TI3} {g : TG3} {b : TS3} {D : Ends3} {env : Env3} {st : Sto} : vFor I g b D env st = (I env st fun src xs st1 => ForW g b src xs D env st1) := rfl
@[simp] theorem u_vComp {own : Nat} {I : TI3} {g : TG3} {tt : TT3} {el : TE3} {env : Env3} {st : Sto} {Q : K3} : vComp own I g tt el env st Q = (I env st fun src xs st1 => CompW3 own g tt el src xs (fun ys st2 => Q (.lst ys) st2) env st1) := rfl
@[simp] theorem u_vCompO {own : Nat} {I : TI3} {g : TG3} {tt : TT3} {el : TE3} {env : Env3} {st : Sto} {Q : K3} : vCompO own I g tt el env st Q = (I env st fun src xs st1 => CompW3 own g tt el src xs (fun ys st2 => Q (.obj st2.length) (st2 ++ [.lst ys])) env st1) := rfl
@[simp] theorem u_vYes {w0 : Env3} {st : Sto} {Q : Bool → Sto → Prop} : vYes  w0 st Q = (Q true st) := rfl
@[simp] theorem u_start3 {N : List Str} {xs : List PV} : start3 N xs = xs.map some ++ List.replicate (N.length - xs.length) none := rfl
@[simp] theorem u_okI {xs : List PV} : okI xs = (xs.all noObj && Nat.ble xs.length 1000) := rfl
@[simp] theorem c_var0 {x : PV} {e : Env3} {st : Sto} {Q : K3} : vVar 0 (some x :: e) st Q = Q x st := rfl
@[simp] theorem c_varS {i : Nat} {x : Option PV} {e : Env3} {st : Sto} {Q : K3} : vVar (i + 1) (x :: e) st Q = vVar i e st Q := rfl
@[simp] theorem c_optP {α : Type} {x : α} {F : α → Prop} : optP (some x) F = F x := rfl
section
variable {α β : Type} {x y z u v : α} {xs ys : List α} {f : α → β} {n i : Nat} {p : Prop} {b : Bool} {st : List α}
@[simp] theorem c_mapC : (x :: xs).map f = f x :: xs.map f := rfl
@[simp] theorem c_mapN : ([] : List α).map f = [] := rfl
@[simp] theorem c_lenC : (x :: xs).length = xs.length + 1 := rfl
@[simp] theorem c_lenN : ([] : List α).length = 0 := rfl
@[simp] theorem c_appC : (x :: xs) ++ ys = x :: (xs ++ ys) := rfl
@[simp] theorem c_appN : [] ++ ys = ys := rfl
@[simp] theorem c_repC : List.replicate (n + 1) x = x :: List.replicate n x := rfl
@[simp] theorem c_repN : List.replicate 0 x = [] := rfl
@[simp] theorem c_set0 : (x :: xs).set 0 y = y :: xs := rfl
@[simp] theorem c_setS : (x :: xs).set (n + 1) y = x :: xs.set n y := rfl
@[simp] theorem c_get0 : (x :: xs)[0]? = some x := rfl
@[simp] theorem c_getS : (x :: xs)[n + 1]? = xs[n]? := rfl
@[simp] theorem c_notT : (!true) = false := rfl
@[simp] theorem c_notF : (!false) = true := rfl
@[simp] theorem c_isS : (some x).isSome = true := rfl
@[simp] theorem c_gdS : (some x).getD y = x := rfl
@[simp] theorem c_gdN : (none : Option α).getD y = y := rfl
@[simp] theorem c_allC {q : α → Bool} : (x :: xs).all q = (q x && xs.all q) := rfl
@[simp] theorem c_allN {q : α → Bool} : ([] : List α).all q = true := rfl
@[simp] theorem c_ble1 {m : Nat} : Nat.ble (n + 1) (m + 1) = Nat.ble n m := rfl
end
section
variable {Q : K3} {st : Sto} {x : PO} {xs : List PV} {kvs : List (Key × PV)} {i j : Int} {a b : Str} {p q : Bool} {l : List (Str × Int)}
@[simp] theorem c_exbag {m : Nat} : Exit m Q (bagP l) st = Q (bagP l) (st.take m) := rfl
@[simp] theorem c_oBag : noObj (bagP l) = true := rfl
end
theorem cB : (∀ {α : Type} {x : α} {xs : List α}, atI (x :: xs) 0 = some x) ∧ (∀ {α : Type} {x y : α} {xs : List α}, atI (x :: y :: xs) 1 = some y) ∧ (∀ {α : Type} {x y z : α} {xs : List α}, atI (x :: y :: z :: xs) 2 = some z) ∧ (∀ {α : Type} {x y z u : α} {xs : List α}, atI (x :: y :: z :: u :: xs) 3 = some u) ∧ (∀ {α : Type} {x y z u v : α} {xs : List α}, atI (x :: y :: z :: u :: v :: xs) 4 = some v) ∧
    (∀ {n : Nat}, ixN (n + 1) 0 = some 0) ∧ (∀ {n : Nat}, ixN (n + 2) 1 = some 1) ∧ (∀ {p : Prop}, (True ∧ p) = p) ∧ (∀ {p : Prop}, (p ∧ True) = p) ∧ (∀ {q r : Prop}, (if True then q else r) = q) ∧ (∀ {q r : Prop}, (if False then q else r) = r) ∧ ((false = true) = False) ∧ (∀ {p : Prop}, (p ∨ True) = True) ∧ (∀ {p : Prop}, (True ∨ p) = True) ∧ (∀ {p : Prop}, (p ∧ p) = p) ∧
    (∀ {α : Type} {st : List α}, st.take (st.length + 0) = st) ∧ (∀ {α : Type} {st : List α}, st.take st.length = st) ∧ (∀ {α : Type} {st : List α} {i : Nat} {x : α}, (st.set i x).take (st.length + 0) = st.set i x) ∧ (∀ {α : Type} {st : List α} {i : Nat} {x : α}, (st.set i x).take st.length = st.set i x) ∧ (∀ {α : Type} {st : List α} {i : Nat} {x y : α}, (st.set i x).set i y = st.set i y) ∧
    (∀ {α : Type} {st : List α} {i : Nat} {x : α}, (st[i]?).isSome = true → (st.set i x)[i]? = some x) ∧ (∀ {α : Type} {st : List α} {x : α}, (st ++ [x])[st.length]? = some x) ∧ (∀ {α : Type} {st : List α} {x y : α}, (st ++ [x]).set st.length y = st ++ [y]) ∧ (∀ {α : Type} {st : List α} {x : α}, (st ++ [x]).take (st.length + 0) = st) ∧ (∀ {α : Type} {st : List α} {x : α}, (st ++ [x]).take st.length = st) ∧ (∀ {α : Type} {st : List α} {x : α}, (st ++ [x]).take (st.length + 1) = st ++ [x]) ∧
    (∀ {b : Bool}, (b && true) = b) ∧ (∀ {b : Bool}, (true && b) = b) ∧ (∀ {m : Nat}, Nat.ble 0 m = true) ∧ (∀ {m : Nat}, (0 ≤ m) = True) ∧ (∀ {n : Nat}, max n 0 = n) ∧ (∀ {n : Nat}, max 0 n = n) ∧ (∀ {h : Decidable True}, @decide True h = true) ∧ (∀ {h : Decidable False}, @decide False h = false) ∧
    (∀ {Q : K3} {st : Sto} {x : PO}, Exit (st.length + 1) Q (.obj st.length) (st ++ [x]) = Q (.obj st.length) (st ++ [x])) ∧ (∀ {Q : K3} {st : Sto} {xs : List PV}, Exit (st.length + 0) Q (.obj st.length) (st ++ [.lst xs]) = Q (.lst xs) st) ∧ (∀ {Q : K3} {st : Sto} {kvs : List (Key × PV)}, Exit (st.length + 0) Q (.obj st.length) (st ++ [.dct kvs]) = Q (.dct kvs) st) ∧
    (∀ {Q : K3} {st : Sto} {xs : List PV}, Exit st.length Q (.obj st.length) (st ++ [.lst xs]) = Q (.lst xs) st) ∧ (∀ {Q : K3} {st : Sto} {kvs : List (Key × PV)}, Exit st.length Q (.obj st.length) (st ++ [.dct kvs]) = Q (.dct kvs) st) :=
  ⟨at0, at1, at2, at3, at4, ix0, ix1, true_and _, and_true _, if_pos trivial, if_neg id, Bool.false_eq_true, or_true _, true_or _, and_self _, take_self, List.take_length, take_set, take_set, set_set, get_set', len_at, set_at, take_at, take_at, take_at1, Bool.and_true _, Bool.true_and _, Nat.ble_eq_true_of_le (Nat.zero_le _), eq_true (Nat.zero_le _), Nat.max_zero _, Nat.zero_max _, (by simp), (by simp), exit_o1, exit_f, exit_fd, exit_f, exit_fd⟩
end L3
set_option Elab.async false
set_option linter.all false
set_option maxRecDepth 100000
set_option maxHeartbeats 4000000
namespace L3
open PySem PySem.Spec PyProof.Rows L2
section
variable {X : Cx}
end
end L3
set_option Elab.async false
set_option linter.all false
set_option maxRecDepth 100000
set_option maxHeartbeats 4000000
namespace L3
open PySem PySem.Spec PyProof.Rows L2 PySem.SeqAt
section
variable {X : Cx} {o e : Expr} {es : List Expr} {apos cpos : Pos} {To : TE3} {TA : TA3} {id : String} {name : Str} {R : PV → Sp3}
def isTupP : PV → Bool | .tup _ => true | _ => false
@[simp] theorem e_isTup {xs : List PV} : isTupP (.tup xs) = true := rfl
def vBMT (R : PV → Sp3) (To : TE3) (TA : TA3) : TE3 := fun env st Q => To env st fun x st1 => isTupP x = true ∧ TA env st1 fun ys st2 => R x ys st2 Q
@[simp] theorem u_vBMT {env : Env3} {st : Sto} {Q : K3} : vBMT R To TA env st Q = To env st fun x st1 => isTupP x = true ∧ TA env st1 fun ys st2 => R x ys st2 Q := rfl
end
end L3
set_option Elab.async false
set_option linter.all false
set_option maxRecDepth 100000
set_option maxHeartbeats 4000000
namespace L2
open PySem PySem.Spec PyProof.Rows
def lessL (H : Hp) (cs : List Addr) : Hp := fun b => if b ∈ cs then none else H b
theorem lessL_ne {H : Hp} {b : Addr} {cs : List Addr} (h : b ∉ cs) : lessL H cs b = H b := if_neg h
theorem lessL_eq {H : Hp} {b : Addr} {cs : List Addr} (h : b ∈ cs) : lessL H cs b = none := if_pos h
theorem lessL_of {H : Hp} {b : Addr} {cs : List Addr} {o : HO} (h : lessL H cs b = some o) : b ∉ cs ∧ H b = some o := by
  by_cases e : b ∈ cs
  · rw [lessL_eq e] at h; cases h
  · rw [lessL_ne e] at h; exact ⟨e, h⟩
def backL (H K : Hp) (cs : List Addr) : Hp := fun b => if b ∈ cs then K b else H b
theorem backL_ne {H K : Hp} {b : Addr} {cs : List Addr} (h : b ∉ cs) : backL H K cs b = H b := if_neg h
theorem backL_eq {H K : Hp} {b : Addr} {cs : List Addr} (h : b ∈ cs) : backL H K cs b = K b := if_pos h
def withL (H : Hp) (cs : List Addr) (oz : Addr → Obj) : Hp := fun b => if b ∈ cs then some (.ext (FnAt b (oz b))) else H b
theorem withL_ne {H : Hp} {b : Addr} {cs : List Addr} {oz : Addr → Obj} (h : b ∉ cs) : withL H cs oz b = H b := if_neg h
theorem withL_eq {H : Hp} {b : Addr} {cs : List Addr} {oz : Addr → Obj} (h : b ∈ cs) : withL H cs oz b = some (.ext (FnAt b (oz b))) := if_pos h
theorem lookup_mem' {α : Type} : ∀ {l : List (Str × α)} {x : Str} {u : α}, (l.map (·.1)).Nodup → (x, u) ∈ l → l.lookup x = some u
  | q :: l, x, u, h, m => by
    obtain ⟨k, v⟩ := q
    rw [List.map_cons, List.nodup_cons] at h
    rcases List.mem_cons.mp m with e | m
    · cases e; rw [List.lookup_cons]; simp
    · have n : x ≠ k := fun z => h.1 (z ▸ List.mem_map.mpr ⟨_, m, rfl⟩)
      rw [List.lookup_cons, show (x == k) = false by simpa using n]
      exact lookup_mem' h.2 m
theorem look_zip {ps : List Str} {us : List Value} {i : Nat} {x : Str} {u : Value} (h : ps.Nodup) (hx : ps[i]? = some x) (hu : us[i]? = some u) (hl : us.length = ps.length) : (ps.zip us).reverse.lookup x = some u := by
  refine lookup_mem' ?_ (List.mem_reverse.mpr ?_)
  · rw [List.map_reverse, show (ps.zip us).map (·.1) = ps from by rw [List.map_fst_zip (by omega)]]; exact (List.reverse_perm ps).nodup_iff.mpr h
  · refine List.mem_of_getElem? (i := i) ?_
    rw [List.getElem?_zip_eq_some]; exact ⟨hx, hu⟩
abbrev lamEnvN (scope : Scope) (qual : Str) (cl : List (Str × Addr)) (f c' L : Addr) : Env := newEnv scope L mainGlobals cl (qual ++ ".<locals>.") (some f) (.ref c') none builtinsNs
abbrev cxLN (P : Program) (w : World) (K : PySem.W.Frag) (mg : Str → Option Value) (base : Heap) (scope : Scope) (qual : Str) (ps : List Str) (cl : List (Str × Addr)) (f c' : Addr) (A : Around) (outer : List Env) (s : Shared) (H : Hp) : Cx where
  prog := P
  w := w
  K := K
  mg := mg
  base := base
  A := A.deeper (lamEnvN scope qual cl f c' s.heap.objs.size)
  N := ps ++ cl.map (·.1)
  s₀ := s
  H₀ := lessL H (cl.map (·.2))
  env := lamEnvN scope qual cl f c' s.heap.objs.size
  outer := outer
  stack := lamEnvN scope qual cl f c' s.heap.objs.size :: outer
  ex := []
  fn := fun _ => false
  calm := true
  pn := []
  xe := fun _ _ => False
theorem lam_ofN {P : Program} {w : World} {K : PySem.W.Frag} {mg : Str → Option Value} {base : Heap} {k : Nat} {f c' : Addr} {ps : List Str} {cl : List (Str × Addr)} {name qual : Str} {params : Arguments} {body : Expr} {scope : Scope} {pm ctv : Value} {sp : Sp} {oz : Addr → Obj} {dv : Addr → Addr}
    (oz2 : ∀ c ∈ cl.map (·.2), (oz c).data = .cell (some (.ref (dv c))))
    (hk : scope.kind = .function) (hco : scope.isCoroutine = false) (hgen : scope.isGenerator = false) (hnc : ∀ z ∈ scope.names, z.2 ≠ .cell) (hx : ∀ x ∈ ps, scope.names.lookup x = some .local) (hy : ∀ y ∈ cl.map (·.1), scope.names.lookup y = some .free)
    (hfr : ∀ z, scope.names.lookup z = some .free → z ∈ cl.map (·.1)) (hpn : ps.Nodup) (hyn : (cl.map (·.1)).Nodup) (hcn : (cl.map (·.2)).Nodup)
    (tr : ∀ vs H Q E, sp vs H Q E → vs.length = ps.length ∧ H f = some (.ext (FnAt f (PySem.W.kla_obj name qual params body scope cl pm c' ctv))) ∧ H c' = some (.ext (CdAt c' qual)) ∧ ∀ c ∈ cl.map (·.2), H c = some (.ext (FnAt c (oz c))))
    (hbody : ∀ (A : Around) (outer : List Env) (s : Shared) (H : Hp) (vs : List V) (Q : VK) (E : XK), Room k (A.deeper (lamEnvN scope qual cl f c' s.heap.objs.size)) → sp vs H Q E →
      ∃ t, PE (cxLN P w K mg base scope qual ps cl f c' A outer s H) body t ∧ t (vs.map some ++ cl.map fun p => some (.ref (dv p.2))) (lessL H (cl.map (·.2))) fun v' H' => Q v' (backL H' H (cl.map (·.2)))) :
    FnOk P w K mg base CX0 (k + 1) f (PySem.W.kla_fn name qual params body scope cl pm (.ref c') ctv) ps sp := by
  refine ⟨fun vs H Q E h => (tr vs H Q E h).1, fun A outer s H args us vs Q E hr e0 hb r hsp => ?_⟩
  obtain ⟨hl, hf, hc', hc⟩ := tr _ _ _ _ hsp
  have hus : us.length = ps.length := by rw [← r.length]; exact hl
  have KX : K.In s.heap := e0.mod.kin.keeps fun b o e => (e0.bs b o e).1
  have lim : s.heap.NoLimit := e0.mod.nolimit.keeps fun b o e => (e0.bs b o e).1
  obtain ⟨of_, _, _⟩ := e0.hok f _ hf
  obtain ⟨⟨oc, vs', t', oc1, oc2, oc3⟩, _, _⟩ := e0.hok c' _ hc'
  have oz1 : ∀ c ∈ cl.map (·.2), s.heap.get? c = some (oz c) := fun c h => (e0.hok c _ (hc c h)).1
  have ncf : ∀ c ∈ cl.map (·.2), c ∉ frs outer := fun c h z => by have := e0.frf c z; rw [hc c h] at this; cases this
  refine PySem.W.kla_callFunE hr.depth of_ rfl hco hgen rfl ⟨c', oc, vs', t', rfl, oc1, oc2, oc3⟩ (hb _ _ _ _ ?_)
  refine wpAny_newFunctionEnv hnc (fun z hz => hx _ (List.of_mem_zip hz).1) (fun h' ns sb => ?_) hk
  have kp : ∀ b o, s.heap.get? b = some o → h'.get? b = some o := fun b o e => (sb.2 b (Nat.ne_of_lt (Heap.lt_size e))).trans (Heap.get?_push_of_some _ e)
  refine ⟨lim.keeps kp, PySem.W.kla_codeExpr ?_⟩
  obtain ⟨t, ht, hq⟩ := hbody A outer s H vs Q E (hr.deeper _) hsp
  have nol : ∀ z, z ∉ ([] : List Addr) := fun z hz => by cases hz
  have cl1 : ∀ z c0, cl.lookup z = some c0 → z ∈ cl.map (·.1) ∧ c0 ∈ cl.map (·.2) ∧ (z, c0) ∈ cl := fun z c0 h => by
    have m := PySem.mem_of_lookup h
    exact ⟨List.mem_map.mpr ⟨_, m, rfl⟩, List.mem_map.mpr ⟨_, m, rfl⟩, m⟩
  have hokL : HOk P w (lessL H (cl.map (·.2))) h' := fun b o e => by
    obtain ⟨nb, e1⟩ := lessL_of e
    refine (e0.hok b o e1).stay (fun c0 v0 _ q0 => kp c0 v0 q0) (fun dx q0 => ?_) fun b0 xs q0 => ?_
    · rw [lessL_ne (fun z => by rw [hc _ z] at q0; cases q0)]; exact q0
    · rw [lessL_ne (fun z => by rw [hc _ z] at q0; cases q0)]; exact q0
  have I : Inv (cxLN P w K mg base scope qual ps cl f c' A outer s H) [] (vs.map some ++ cl.map fun p => some (.ref (dv p.2))) (lessL H (cl.map (·.2))) { s with heap := h', toks := s.toks + (ps.zip us).length } := by
    refine ⟨⟨e0.mod, hk, rfl, rfl, Nat.le_refl _, fun z z2 c0 h1 h2 => ?_, fun z hz => ?_, fun z c0 h => ?_, fun _ => hr.hd, Around.frames_deeper e0.frames, .inr ⟨rfl, rfl⟩, fun b z => absurd z (nol b), fun b o e => ⟨(e0.bs b o e).1, ?_⟩, e0.bsz, fun b _ _ => nol b, fun b z => absurd z (nol b), e0.funs, fun b hb' => ?_⟩,
      rfl, e0.bare, Un.kept kp, ⟨_, ns, fun i z v0 h1 h2 h3 => ?_⟩, fun z c0 h => ?_, ?_, fun z c0 h => ?_, fun p hp => absurd hp (by simp), hokL, ?_⟩
    · obtain ⟨_, _, m1⟩ := cl1 _ _ h1
      obtain ⟨_, _, m2⟩ := cl1 _ _ h2
      obtain ⟨i, hi, e1⟩ := List.getElem_of_mem m1
      obtain ⟨j, hj, e2⟩ := List.getElem_of_mem m2
      have : i = j := (List.getElem_inj (h₀ := by simpa using hi) (h₁ := by simpa using hj) hcn).mp (by simp [e1, e2])
      subst this
      rw [e1] at e2; cases e2; rfl
    · have m : z ∈ cl.map (·.1) := by
        rcases hz with hz | hz
        · exact absurd rfl (hnc _ (PySem.mem_of_lookup (show scope.names.lookup z = some .cell from hz)))
        · exact hfr z hz
      obtain ⟨⟨z', c⟩, m', rfl⟩ := List.mem_map.mp m
      exact ⟨c, lookup_mem' hyn m'⟩
    · cases h
    · show lessL H (cl.map (·.2)) b = none
      by_cases e1 : b ∈ cl.map (·.2)
      · exact lessL_eq e1
      · rw [lessL_ne e1]; exact (e0.bs b o e).2
    · show lessL H (cl.map (·.2)) b = none
      by_cases e1 : b ∈ cl.map (·.2)
      · exact lessL_eq e1
      · rw [lessL_ne e1]; exact e0.frf b hb'
    · have h1' : (ps ++ cl.map (·.1))[i]? = some z := h1
      by_cases hi : i < ps.length
      · rw [List.getElem?_append_left hi] at h1'
        rw [List.getElem?_append_left (by rw [List.length_map, hl]; exact hi), List.getElem?_map] at h2
        obtain ⟨v1, e1, e2⟩ := Option.map_eq_some_iff.mp h2
        cases e2
        have hiu : i < us.length := by omega
        have eu : us[i]? = some us[i] := List.getElem?_eq_getElem hiu
        refine ⟨us[i], ?_, .inl ⟨hx z (List.mem_of_getElem? h1'), look_zip hpn h1' eu hus⟩⟩
        obtain ⟨w', ew, rw'⟩ := vals_at (its := us) r (j := i) (by simpa using hiu)
        rw [e1] at ew; cases ew
        simpa using rw'
      · have hi' : ps.length ≤ i := by omega
        rw [List.getElem?_append_right hi', List.getElem?_map] at h1'
        rw [List.getElem?_append_right (by rw [List.length_map, hl]; exact hi'), List.getElem?_map, List.length_map, hl] at h2
        obtain ⟨p, e1, e2⟩ := Option.map_eq_some_iff.mp h1'
        rw [e1] at h2
        cases h2
        have m := List.mem_of_getElem? e1
        have m1 : p.1 ∈ cl.map (·.1) := List.mem_map.mpr ⟨_, m, rfl⟩
        have m2 : p.2 ∈ cl.map (·.2) := List.mem_map.mpr ⟨_, m, rfl⟩
        subst e2
        exact ⟨.ref (dv p.2), rfl, .inr ⟨.inr (hy _ m1), p.2, lookup_mem' hyn m, oz p.2, kp _ _ (oz1 _ m2), oz2 _ m2⟩⟩
    · obtain ⟨_, m2, _⟩ := cl1 _ _ h
      exact ⟨_, oz c0, kp _ _ (oz1 _ m2), oz2 _ m2⟩
    · show lessL H (cl.map (·.2)) s.heap.objs.size = none
      by_cases e1 : s.heap.objs.size ∈ cl.map (·.2)
      · exact lessL_eq e1
      · rw [lessL_ne e1]; exact e0.hok.fresh (Nat.le_refl _)
    · exact lessL_eq (cl1 _ _ h).2.1
    · show (vs.map some ++ cl.map fun p => some (V.ref (dv p.2))).length = (ps ++ cl.map (·.1)).length
      simp [hl]
  refine wpAny_mono (ht [] _ _ _ _ I hq) (fun u' s' hs => ?_) fun e' s' z => z.elim
  obtain ⟨v', H4, J, rv, q⟩ := hs
  have j := J.base
  have H4c : ∀ c ∈ cl.map (·.2), H4 c = none := fun c h => by
    obtain ⟨⟨y, c⟩, m, rfl⟩ := List.mem_map.mp h
    exact J.freeC y c (lookup_mem' hyn m)
  have eH : (cxLN P w K mg base scope qual ps cl f c' A outer s H).H₀ = lessL H (cl.map (·.2)) := rfl
  have nn : ∀ {b : Addr}, H b = none → b ∉ cl.map (·.2) := fun n z => by rw [hc _ z] at n; cases n
  refine ⟨v', backL H4 H (cl.map (·.2)), J.os, J.bare, ⟨fun b o e n hb1 hx1 => ?_, fun b o e n hb1 hx1 => ?_, fun b o e n hx1 => ?_, fun b o e hx1 => j.there b o e hx1, fun b xs e => ?_, fun b o u0 e => ?_, fun b ps e => ?_⟩, fun b o e => ?_, rv, q⟩
  · exact j.keep b o e (by rw [eH, lessL_ne (nn n)]; exact n) hb1 hx1
  · exact j.slot b o e (by rw [eH, lessL_ne (nn n)]; exact n) hb1 hx1
  · rw [backL_ne (nn n)]
    exact j.free b o e (by rw [eH, lessL_ne (nn n)]; exact n) hx1
  · have n1 : b ∉ cl.map (·.2) := fun z => by rw [hc _ z] at e; cases e
    rw [backL_ne n1]
    exact j.tups b xs (by rw [eH, lessL_ne n1]; exact e)
  · have n1 : b ∉ cl.map (·.2) := fun z => by rw [hc _ z] at e; cases e
    rw [backL_ne n1]
    exact j.frzs b o u0 (by rw [eH, lessL_ne n1]; exact e)
  · have n1 : b ∉ cl.map (·.2) := fun z => by rw [hc _ z] at e; cases e
    rw [backL_ne n1]
    exact j.tbls b ps (by rw [eH, lessL_ne n1]; exact e)
  · by_cases n1 : b ∈ cl.map (·.2)
    · rw [backL_eq n1, hc _ n1] at e
      cases e
      have k1 : s'.heap.get? b = some (oz b) := j.keep b (oz b) (oz1 _ n1) (lessL_eq n1) (ncf _ n1) (nol b)
      exact ⟨k1, ⟨oz b, k1⟩, fun h1 h2 e1 k2 => k2 _ e1⟩
    · rw [backL_ne n1] at e
      refine (J.hok b o e).stay (fun _ _ _ q0 => q0) (fun dx q0 => ?_) fun b0 xs q0 => ?_
      · rw [backL_ne (fun z => by rw [H4c _ z] at q0; cases q0)]; exact q0
      · rw [backL_ne (fun z => by rw [H4c _ z] at q0; cases q0)]; exact q0
section
variable {X : Cx}
def tCallCN (cl : List (Str × Addr)) (ix : List Nat) (sp : Sp) (t : TA) : TE := fun σ H Q => t σ H fun vs H1 => ∃ dv : Addr → Addr, (∀ (j : Nat) (p : Str × Addr), cl[j]? = some p → ∃ i, ix[j]? = some i ∧ σ[i]? = some (some (.ref (dv p.2)))) ∧
  ((∀ c ∈ cl.map (·.2), H1 c = none) → ∀ oz : Addr → Obj, (∀ c ∈ cl.map (·.2), (oz c).data = .cell (some (.ref (dv c)))) →
  sp vs (withL H1 (cl.map (·.2)) oz) (fun v H' => (∀ c ∈ cl.map (·.2), H' c = some (.ext (FnAt c (oz c)))) ∧ Q v (lessL H' (cl.map (·.2)))) E0)
theorem pe_callCN {k : Nat} {f : Addr} {fd : FuncData} {x : Str} {p pos : Pos} {e : Expr} {es : List Expr} {ps : List Str} {sp : Sp} {t : TA} {cl : List (Str × Addr)} {ix : List Nat} (F : FnOk X.prog X.w X.K X.mg X.base CX0 k f fd ps sp) (hr : Room k X.A) (hg : Gl X x) (hm : X.mg x = some (.ref f)) (hk : PySem.W.keepIn X.K (.ref f) = true)
    (hb : Binds X.K fd ps []) (hN : ∀ (j : Nat) (p : Str × Addr) (i : Nat), cl[j]? = some p → ix[j]? = some i → X.N[i]? = some p.1) (hy : ∀ p ∈ cl, X.env.scope.names.lookup p.1 = some .cell) (hc : ∀ p ∈ cl, X.env.cells.lookup p.1 = some p.2) (hfn : ∀ p ∈ cl, X.fn p.1 = true) (ha : PA X (e :: es) t)
    (hdb : (x == ("__debug__" : Str)) = false := by decide) (he : starEach (e :: es) X.env = (false, eval e X.env) :: starEach es X.env := by rfl) (hpl : (backTo pos (starEach es X.env)).any (·.1) = false := by rfl) :
    PE X (.Call (.Name x p) (e :: es) [] pos) (tCallCN cl ix sp t) := ⟨fun pins s σ H Q I h => by
  refine wpAny_Call_Name_kw (ld_glob I hg hm ?_ hdb)
  refine PySem.W.callWith_K (h₀ := X.base) I.ok.mod.kin hk (thn (ha pos pins s σ H _ I h) fun us s1 ⟨vs, H1, I1, r, dv, ed, q⟩ => ⟨I1.kIn, ?_⟩) he hpl
  obtain ⟨m, hn, hl⟩ := id I1.loc
  have hcell : ∀ c ∈ cl.map (·.2), ∃ oz : Obj, s1.heap.get? c = some oz ∧ oz.data = .cell (some (.ref (dv c))) := fun c hcm => by
    obtain ⟨p, pm, rfl⟩ := List.mem_map.mp hcm
    obtain ⟨j, hj, ej⟩ := List.getElem_of_mem pm
    have ej' : cl[j]? = some p := by rw [List.getElem?_eq_getElem hj, ej]
    obtain ⟨i, ei, es'⟩ := ed j p ej'
    obtain ⟨u, ru, lu⟩ := hl i p.1 _ (hN j p i ej' ei) es' (.inr (.inl (hy p pm)))
    cases ru
    rcases lu with ⟨z, _⟩ | ⟨_, c0, ec, hz⟩
    · have z' : X.env.scope.names.lookup p.1 = some .local := z
      rw [hy p pm] at z'; cases z'
    · rw [hc p pm] at ec; cases ec
      obtain ⟨o, h1, h2⟩ := hz
      exact ⟨o, h1, h2⟩
  obtain ⟨oz, ho⟩ : ∃ oz : Addr → Obj, ∀ c ∈ cl.map (·.2), s1.heap.get? c = some (oz c) ∧ (oz c).data = .cell (some (.ref (dv c))) := by
    refine ⟨fun c => (s1.heap.get? c).getD default, fun c hcm => ?_⟩
    obtain ⟨o, h1, h2⟩ := hcell c hcm
    show s1.heap.get? c = some ((s1.heap.get? c).getD default) ∧ ((s1.heap.get? c).getD default).data = _
    rw [h1]; exact ⟨rfl, h2⟩
  have nc : ∀ c ∈ cl.map (·.2), H1 c = none := fun c hcm => by
    obtain ⟨p, pm, rfl⟩ := List.mem_map.mp hcm
    exact I1.freeC p.1 p.2 (hc p pm)
  have q := q nc oz fun c h => (ho c h).2
  have low : ∀ c ∈ cl.map (·.2), X.s₀.heap.objs.size ≤ c := fun c hcm => by
    obtain ⟨p, pm, rfl⟩ := List.mem_map.mp hcm
    exact I1.ok.cab p.1 p.2 (hfn p pm) (hc p pm)
  have ncf : ∀ c ∈ cl.map (·.2), c ∉ frs X.stack := fun c hcm z => by
    have hl := low c hcm
    rcases List.mem_cons.mp (I1.stkSub c z) with z | z
    · obtain ⟨p, pm, rfl⟩ := List.mem_map.mp hcm
      exact I1.cne p.1 p.2 (hc p pm) z
    · obtain ⟨_, o, ho', _⟩ := I1.ok.funs.mem z
      exact absurd (Nat.lt_of_lt_of_le (Heap.lt_size ho') hl) (Nat.lt_irrefl _)
  have nm : ∀ {b : Addr} {o : HO}, H1 b = some o → b ∉ cl.map (·.2) := fun e z => by rw [nc _ z] at e; cases e
  have E1 := I1.env0
  have hok2 : HOk X.prog X.w (withL H1 (cl.map (·.2)) oz) s1.heap := fun b o e => by
    by_cases n : b ∈ cl.map (·.2)
    · rw [withL_eq n] at e; cases e
      exact ⟨(ho b n).1, ⟨oz b, (ho b n).1⟩, fun h1 h2 e1 k1 => k1 _ e1⟩
    · rw [withL_ne n] at e
      refine (I1.hok b o e).stay (fun _ _ _ q0 => q0) (fun dx q0 => ?_) fun b0 xs q0 => ?_
      · rw [withL_ne (nm q0)]; exact q0
      · rw [withL_ne (nm q0)]; exact q0
  have E2 : Env0 X.prog X.w X.K X.mg X.base X.A X.stack s1 (withL H1 (cl.map (·.2)) oz) := ⟨E1.frames, E1.mod, fun b o e => ⟨(E1.bs b o e).1, by
      rw [withL_ne (fun z => absurd (Nat.lt_of_lt_of_le (Heap.lt_size e) (Nat.le_trans I1.ok.bsz (low b z))) (Nat.lt_irrefl _))]; exact (E1.bs b o e).2⟩, E1.bsz, E1.funs, fun b hb' => by
      rw [withL_ne (fun z => ncf b z hb')]; exact E1.frf b hb', hok2, E1.bare⟩
  have hl2 : us.length = ps.length := by rw [← r.length]; exact F.len _ _ _ _ q
  refine wpAny_call (codeAny_mono (F.run X.A X.stack s1 _ ⟨us, []⟩ us vs _ E0 hr E2 (by have := hb s1 us I1.kIn (by rw [List.append_nil]; exact hl2); rw [List.append_nil] at this; exact this) r q) fun rr s' hq => ?_)
  cases rr with
  | error e => exact hq.elim
  | ok fl =>
    cases fl with
    | next => exact False.elim hq
    | brk => exact False.elim hq
    | cont => exact False.elim hq
    | ret u' =>
      obtain ⟨v, H', os, bare, un, hok', rv, hcc, qq⟩ := hq
      have k1 : ∀ c ∈ cl.map (·.2), s'.heap.get? c = some (oz c) := fun c h => (hok' c _ (hcc c h)).1
      refine ⟨v, lessL H' (cl.map (·.2)), I1.call' (ch := []) os ⟨fun b o e n hb1 hx1 => ?_, fun b o e n hb1 hx1 => ?_, fun b o e n hx1 => ?_, fun b o e hx1 => un.there b o e hx1, fun b xs e => ?_, fun b o u0 e => ?_, fun b ps0 e => ?_⟩ (fun b o e => ?_) bare (fun b z => absurd z (by simp)), rv, qq⟩
      · by_cases nb : b ∈ cl.map (·.2)
        · rw [(ho b nb).1] at e; rw [← e]; exact k1 b nb
        · exact un.keep b o e (by rw [withL_ne nb]; exact n) hb1 hx1
      · exact un.slot b o e (by rw [withL_ne (fun z => ncf b z hb1)]; exact n) hb1 hx1
      · by_cases nb : b ∈ cl.map (·.2)
        · exact lessL_eq nb
        · rw [lessL_ne nb]; exact un.free b o e (by rw [withL_ne nb]; exact n) hx1
      · have nb := nm e
        rw [lessL_ne nb]; exact un.tups b xs (by rw [withL_ne nb]; exact e)
      · have nb := nm e
        rw [lessL_ne nb]; exact un.frzs b o u0 (by rw [withL_ne nb]; exact e)
      · have nb := nm e
        rw [lessL_ne nb]; exact un.tbls b ps0 (by rw [withL_ne nb]; exact e)
      · obtain ⟨nb, e1⟩ := lessL_of e
        refine (hok' b o e1).stay (fun _ _ _ q0 => q0) (fun dx q0 => ?_) fun b0 xs q0 => ?_
        · rw [lessL_ne (fun z => by rw [hcc _ z] at q0; cases q0)]; exact q0
        · rw [lessL_ne (fun z => by rw [hcc _ z] at q0; cases q0)]; exact q0⟩
open PySem.W in
def tLamN (T : Addr) (cl : List (Str × Addr)) (pos : Pos) (q : Str) (params : Arguments) (body : Expr) (scope : Scope) : TE := fun _ H Q => TbOk T pos q H ∧ ∀ f c' pm ctv H2, H f = none → But T H H2 → TbOk T pos q H2 →
  H2 f = some (.ext (FnAt f (kla_obj "<lambda>" q params body scope cl pm c' ctv))) → H2 c' = some (.ext (CdAt c' q)) → Q (.ref f) H2
open PySem.W in
theorem pe_lamN {T c0 : Addr} {cl : List (Str × Addr)} {params : Arguments} {body : Expr} {scope : Scope} {pos : Pos} (hdef : defaultsOf params X.env = ([], [])) (hcl : closureFor scope X.env = pure cl) (hcode : X.env.code = .ref c0) (hC : codeHdIn X.K c0 T = true)
    (hB : X.base.BuiltinsAt X.mg T) (ham : ∀ c', codeAmong pos [rawInt pos.line, rawInt pos.col, .ref c'] = some (.ref c')) (htr : ∀ c', TriplesOk [rawInt pos.line, rawInt pos.col, .ref c']) :
    PE X (.Lambda params body scope pos) (tLamN T cl pos (X.env.qual ++ "<lambda>") params body scope) := ⟨fun pins s σ H Q I h => by
  obtain ⟨⟨ps, hT, hps⟩, q⟩ := h
  have hP : s.heap.get? T = some (tabObj ps) := I.hok T _ hT
  have hg : s.heap.Ns mainGlobals X.mg := I.mod.glob.keeps I.bk
  have C : CodeHd s.heap c0 T := codeHd_of_K I.kIn hC
  have hgT : mainGlobals ≠ T := fun z => by
    obtain ⟨o, es, ep, e, d, _⟩ := hg
    rw [z, hP] at e; cases e; cases d
  have hb : s.heap.BuiltinsAt X.mg T := by
    obtain ⟨bm, o, a1, a2, a3, a4, a5, a6⟩ := hB
    exact ⟨bm, o, a1, a2, a3, a4, I.bk _ _ a5, a6⟩
  refine kla_eval hdef ?_
  rcases hps with rfl | ⟨c', rfl, hc'⟩
  · refine kla_makeFunction hcl I.ok.glob hg hcode C hP trivial rfl hgT hb fun c' ctv h' tk hx l1 l2 cr ht' => ?_
    obtain ⟨c2, oc, vs', t', ec2, oc1, oc2, oc3⟩ := cr
    cases ec2
    have sz : s.heap.objs.size ≤ h'.objs.size := Nat.le_trans l1 (Nat.le_of_lt l2)
    have lT : T < s.heap.objs.size := Heap.lt_size hP
    have kp : ∀ b o, b ≠ T → s.heap.get? b = some o → (h'.push (kla_obj "<lambda>" (X.env.qual ++ "<lambda>") params body scope cl ((X.mg "__name__").getD .none) c' ctv)).get? b = some o := fun b o n e => Heap.get?_push_of_some _ (hx b o n e)
    have nTc : T ≠ c' := Nat.ne_of_lt (Nat.lt_of_lt_of_le lT l1)
    have nTf : T ≠ h'.objs.size := Nat.ne_of_lt (Nat.lt_of_lt_of_le lT sz)
    have ncf : c' ≠ h'.objs.size := Nat.ne_of_lt l2
    have fr : ∀ b, s.heap.objs.size ≤ b → H b = none := fun b hb' => I.hok.fresh hb'
    have lo : ∀ {b : Addr} {o : HO}, H b = some o → b ≠ c' ∧ b ≠ h'.objs.size := fun e => ⟨Nat.ne_of_lt (Nat.lt_of_lt_of_le (I.hok.lt e) l1), Nat.ne_of_lt (Nat.lt_of_lt_of_le (I.hok.lt e) sz)⟩
    have kT : (h'.push (kla_obj "<lambda>" (X.env.qual ++ "<lambda>") params body scope cl ((X.mg "__name__").getD .none) c' ctv)).get? T = some (tabObj (#[] ++ #[rawInt pos.line, rawInt pos.col, .ref c'])) := Heap.get?_push_of_some _ ht'
    have kc : (h'.push (kla_obj "<lambda>" (X.env.qual ++ "<lambda>") params body scope cl ((X.mg "__name__").getD .none) c' ctv)).get? c' = some oc := Heap.get?_push_of_some _ oc1
    have kf : (h'.push (kla_obj "<lambda>" (X.env.qual ++ "<lambda>") params body scope cl ((X.mg "__name__").getD .none) c' ctv)).get? h'.objs.size = some (kla_obj "<lambda>" (X.env.qual ++ "<lambda>") params body scope cl ((X.mg "__name__").getD .none) c' ctv) := Heap.get?_push_size _ rfl
    generalize hobj : kla_obj "<lambda>" (X.env.qual ++ "<lambda>") params body scope cl ((X.mg "__name__").getD .none) c' ctv = obj at kp kT kc kf ⊢
    generalize hN : h'.push obj = hN' at kp kT kc kf ⊢
    have eT : upd (upd (upd H T (.tbl (#[] ++ #[rawInt pos.line, rawInt pos.col, .ref c']))) c' (.ext (CdAt c' (X.env.qual ++ "<lambda>")))) h'.objs.size (.ext (FnAt h'.objs.size obj)) T = some (.tbl (#[] ++ #[rawInt pos.line, rawInt pos.col, .ref c'])) := by rw [upd_ne nTf, upd_ne nTc, upd_same]
    have ec : upd (upd (upd H T (.tbl (#[] ++ #[rawInt pos.line, rawInt pos.col, .ref c']))) c' (.ext (CdAt c' (X.env.qual ++ "<lambda>")))) h'.objs.size (.ext (FnAt h'.objs.size obj)) c' = some (.ext (CdAt c' (X.env.qual ++ "<lambda>"))) := by rw [upd_ne ncf, upd_same]
    have ef : upd (upd (upd H T (.tbl (#[] ++ #[rawInt pos.line, rawInt pos.col, .ref c']))) c' (.ext (CdAt c' (X.env.qual ++ "<lambda>")))) h'.objs.size (.ext (FnAt h'.objs.size obj)) h'.objs.size = some (.ext (FnAt h'.objs.size obj)) := upd_same
    have eo : ∀ b, b ≠ T → b ≠ c' → b ≠ h'.objs.size → upd (upd (upd H T (.tbl (#[] ++ #[rawInt pos.line, rawInt pos.col, .ref c']))) c' (.ext (CdAt c' (X.env.qual ++ "<lambda>")))) h'.objs.size (.ext (FnAt h'.objs.size obj)) b = H b := fun b n1 n2 n3 => by rw [upd_ne n3, upd_ne n2, upd_ne n1]
    generalize upd (upd (upd H T (.tbl (#[] ++ #[rawInt pos.line, rawInt pos.col, .ref c']))) c' (.ext (CdAt c' (X.env.qual ++ "<lambda>")))) h'.objs.size (.ext (FnAt h'.objs.size obj)) = H2 at eT ec ef eo
    have un : Un (frs X.stack) [] H H2 s.heap hN' := by
      have nT : ∀ {b : Addr}, H b = none → b ≠ T := fun n z => by rw [z, hT] at n; cases n
      refine ⟨fun b o e n _ _ => kp b o (nT n) e, fun b o e n _ _ => ⟨o.slots, kp b o (nT n) e⟩, fun b o e n _ => ?_, fun b o e _ => ?_, fun b xs e => ?_, fun b o u0 e => ?_, fun b ps0 e => ?_⟩
      · rw [eo b (nT n) (Nat.ne_of_lt (Nat.lt_of_lt_of_le (Heap.lt_size e) l1)) (Nat.ne_of_lt (Nat.lt_of_lt_of_le (Heap.lt_size e) sz))]; exact n
      · by_cases z : b = T
        · rw [z]; exact ⟨_, kT⟩
        · exact ⟨o, kp b o z e⟩
      · rw [eo b (fun z => by rw [z, hT] at e; cases e) (lo e).1 (lo e).2]; exact e
      · rw [eo b (fun z => by rw [z, hT] at e; cases e) (lo e).1 (lo e).2]; exact e
      · by_cases z : b = T
        · rw [z, hT] at e; cases e
          rw [z]; exact ⟨_, eT⟩
        · refine ⟨#[], ?_⟩
          rw [eo b z (lo e).1 (lo e).2, e]; simp
    have hok : HOk X.prog X.w H2 hN' := fun b o e => by
      by_cases z1 : b = T
      · rw [z1, eT] at e; cases e; rw [z1]; exact kT
      by_cases z2 : b = c'
      · rw [z2, ec] at e; cases e; rw [z2]
        exact ⟨⟨oc, vs', t', kc, oc2, oc3⟩, ⟨oc, kc⟩, fun h1 h2 ⟨o1, v1, t1, e1, r1⟩ k1 => ⟨o1, v1, t1, k1 _ e1, r1⟩⟩
      by_cases z3 : b = h'.objs.size
      · rw [z3, ef] at e; cases e; rw [z3]
        exact ⟨kf, ⟨_, kf⟩, fun h1 h2 e1 k1 => k1 _ e1⟩
      rw [eo b z1 z2 z3] at e
      refine (I.hok b o e).stay (fun b0 u0 h0 q0 => kp b0 u0 (fun z => ?_) q0) (fun dx q0 => ?_) fun b0 xs q0 => ?_
      · rcases h0 with h0 | h0
        · exact z1 (h0.symm.trans z)
        · rw [z, hT] at h0; cases h0
      · rw [eo dx (fun z => by rw [z, hT] at q0; cases q0) (lo q0).1 (lo q0).2]; exact q0
      · rw [eo b0 (fun z => by rw [z, hT] at q0; cases q0) (lo q0).1 (lo q0).2]; exact q0
    refine ⟨.ref h'.objs.size, H2, I.call (ch := []) (g' := s.gens) (d' := s.drawn) (t' := tk) un hok I.bare (fun b z => absurd z (by simp)), rfl, q h'.objs.size c' _ ctv H2 (fr _ sz) (fun b o e n => ?_) ⟨_, eT, .inr ⟨c', rfl, ec⟩⟩ (hobj ▸ ef) ec⟩
    rw [eo b n (lo e).1 (lo e).2]; exact e
  · refine kla_makeFunctionHit hcl I.ok.glob hg hcode C hP (htr c') (ham c') hb fun ctv h' tk kk sz => ?_
    have I1 : Inv X pins σ H { s with heap := h', toks := tk } := I.kept (t' := tk) kk
    have fr : H h'.objs.size = none := I.hok.fresh sz
    have nc : c' ≠ h'.objs.size := Nat.ne_of_lt (Nat.lt_of_lt_of_le (I.hok.lt hc') sz)
    have nT : T ≠ h'.objs.size := Nat.ne_of_lt (Nat.lt_of_lt_of_le (I.hok.lt hT) sz)
    refine ⟨.ref h'.objs.size, _, I1.laid (t' := tk) (o := .ext (FnAt h'.objs.size (kla_obj "<lambda>" (X.env.qual ++ "<lambda>") params body scope cl ((X.mg "__name__").getD .none) c' ctv))) (fun b o e => Heap.get?_push_of_some _ e) (Nat.le_refl _) ⟨Heap.get?_push_size _ rfl, ⟨_, Heap.get?_push_size _ rfl⟩, fun h1 h2 e1 k1 => k1 _ e1⟩, rfl, q h'.objs.size c' _ ctv _ fr (Same.but (upd_sameNew fr)) ⟨_, (upd_ne nT).trans hT, .inr ⟨c', rfl, (upd_ne nc).trans hc'⟩⟩ upd_same ((upd_ne nc).trans hc')⟩⟩
end
end L2
set_option Elab.async false
set_option linter.all false
set_option maxRecDepth 100000
set_option maxHeartbeats 4000000
namespace L2
open PySem PySem.Spec PyProof.Rows
def OnlyTs (Ts : List Addr) (H : Hp) : Prop := (∀ T ∈ Ts, H T = some (.tbl #[])) ∧ ∀ b, b ∉ Ts → H b = none ∨ ∃ o xs, H b = some (.frz o (.lst xs))
open PySem.W in
theorem law_callTs {P : Program} {w : World} {K : PySem.W.Frag} {mg mb : Str → Option Value} {k : Nat} {fa a : Addr} {Ts : List Addr} {fd : FuncData} {x : Str} {sp : Sp} {s₁ : Shared} {vs : List Value} {ns : List Int}
    (KX : K.In s₁.heap) (hns : s₁.heap.Ns mainGlobals mg) (hb : s₁.heap.Ns builtinsNs mb) (hbb : ∀ x : Str, x ≠ "__name__" → mb x = bootBuiltins x) (hlim : s₁.heap.NoLimit) (hg : s₁.gens = #[])
    (ha : s₁.heap.get? a = some { cls := .type "list", data := .seq vs.toArray }) (hi : IntsAre vs ns) (hl : ns.length ≤ sizeLine) (hr : Room k callerA)
    (hC : ∀ T ∈ Ts, ∃ c0, CodeHd s₁.heap c0 T) (hT : ∀ T ∈ Ts, s₁.heap.get? T = some (tabObj #[])) (hTK : ∀ T ∈ Ts, K.lookup T = none) (hbm : ∃ bm ob, mg "__builtins__" = some (.ref bm) ∧ bm ≠ builtinsNs ∧ s₁.heap.get? bm = some ob ∧ ob.cls = .type "module" ∧ ob.dict = some builtinsNs ∧ ob.data = .plain)
    (F : ∀ base : Heap, K.In base → base.Ns mainGlobals mg → (∀ T ∈ Ts, base.BuiltinsAt mg T) → FnOk P w K mg base CX0 k fa fd [x] sp) (hbind : ∀ (s : Shared) (u : Value), BindsTo s fd ⟨[u], []⟩ [(x, u)])
    (hsp : ∀ H : Hp, OnlyTs Ts H → SqL K H a (ns.map V.int) → sp [.ref a] H (fun v _ => v = .bl true) E0) :
    codeAny (model P w) callerA (.call (.ref fa) ⟨[.ref a], []⟩) (fun r s' => r = .ok (.ret (.bool true)) ∧ OldK s₁.heap s'.heap ∧ s'.os = s₁.os ∧ AllBare s'.gens) s₁ := by
  have rv := vals_ints hi
  have lenV := hi.length
  have naT : a ∉ Ts := fun z => by rw [hT a z] at ha; cases ha
  have core : ∀ H : Hp, OnlyTs Ts H → SqL K H a (ns.map V.int) → HOk P w H s₁.heap → (∀ b, H b ≠ none → b = a ∨ b ∈ Ts) → (H a ≠ none → K.lookup a = none) →
      codeAny (model P w) callerA (.call (.ref fa) ⟨[.ref a], []⟩) (fun r s' => r = .ok (.ret (.bool true)) ∧ OldK s₁.heap s'.heap ∧ s'.os = s₁.os ∧ AllBare s'.gens) s₁ := by
    intro H hO hS hok hA hK
    have base_of : ∀ {b : Addr} {o : Obj}, s₁.heap.get? b = some o → H b = none → (hidT s₁.heap H).get? b = some o := fun e n => hidT_get e n
    have free_of : ∀ {b : Addr} {o : Obj}, s₁.heap.get? b = some o → (∀ its n, o.data ≠ .seq its n) → (∀ fs, o.data ≠ .fields fs) → H b = none := fun {b o} e d1 d2 => by
      cases q : H b with
      | none => rfl
      | some u =>
        rcases hA b (by rw [q]; simp) with z | z
        · rw [z, ha] at e; cases e; exact absurd rfl (d1 _ _)
        · rw [hT _ z] at e; cases e; exact absurd rfl (d2 _)
    have nsK : ∀ {b : Addr} {m : Str → Option Value}, s₁.heap.Ns b m → (hidT s₁.heap H).Ns b m := fun {b m} ⟨o, es, ep, e, d, r⟩ => ⟨o, es, ep, base_of e (free_of e (fun its n z => by rw [z] at d; cases d) (fun fs z => by rw [z] at d; cases d)), d, r⟩
    have hKb : K.In (hidT s₁.heap H) := fun b o e => base_of (KX b o e) (by
      cases q : H b with
      | none => rfl
      | some u =>
        rcases hA b (by rw [q]; simp) with z | z
        · subst z; rw [hK (by rw [q]; simp)] at e; cases e
        · rw [hTK _ z] at e; cases e)
    have hM : Mod K mg (hidT s₁.heap H) := ⟨hKb, nsK hns, ⟨mb, nsK hb, hbb⟩, let ⟨mc, h1, h2⟩ := hlim; ⟨mc, nsK h1, h2⟩⟩
    have hB : ∀ T ∈ Ts, (hidT s₁.heap H).BuiltinsAt mg T := fun T mT => by
      obtain ⟨bm, ob, b1, b2, b3, b4, b5, b6⟩ := hbm
      refine ⟨bm, ob, b1, b2, fun z => ?_, fun z => ?_, base_of b3 (free_of b3 (fun its n z => by rw [b6] at z; cases z) (fun fs z => by rw [b6] at z; cases z)), b4, b5, b6⟩
      · obtain ⟨o, es, ep, e, d, _⟩ := hns
        rw [← z, b3] at e; cases e; rw [b6] at d; cases d
      · rw [z, hT T mT] at b3; cases b3; cases b6
    have e0 : Env0 P w K mg (hidT s₁.heap H) callerA [] s₁ H := ⟨rfl, hM, fun b o e => of_hidT e, Nat.le_of_eq (hidT_size _ _), trivial, fun b hb => absurd (show b ∈ ([] : List Addr) from hb) (by simp), hok, .of_eq hg⟩
    refine codeAny_mono ((F _ hKb (nsK hns) hB).run callerA [] s₁ H ⟨[.ref a], []⟩ [.ref a] [.ref a] _ _ hr e0 (hbind s₁ (.ref a)) (.cons rfl .nil) (hsp H hO hS)) fun r s' h => ?_
    cases r with
    | error e => exact h.elim
    | ok fl =>
      cases fl with
      | next => exact False.elim h
      | brk => exact False.elim h
      | cont => exact False.elim h
      | ret u =>
        obtain ⟨v, H', os, bare, un, hok', r', q⟩ := h
        have q' : v = .bl true := q
        subst q'
        obtain rfl : u = Value.bool true := r'
        refine ⟨rfl, ⟨fun b o e => ?_, fun b o e => un.there b o e (by simp)⟩, os, bare⟩
        by_cases zT : b ∈ Ts
        · obtain ⟨more, e2⟩ := un.tbls b #[] (hO.1 b zT)
          rw [hT b zT] at e; cases e
          have e3 : s'.heap.get? b = some { cls := .none, data := .fields (#[] ++ more) } := hok' b _ e2
          obtain ⟨c0, hC0⟩ := hC b zT
          obtain ⟨oc, vc, f, tf, fl, tg, i1, tx, tt, c1, c2, c3, c4, _⟩ := hC0
          exact .inr (.inl ⟨⟨c0, oc, vc, c1, c2, c3, c4⟩, rfl, #[], more, rfl, e3⟩)
        · refine .inl ?_
          rcases hO.2 b zT with z | ⟨ob, xs, z⟩
          · exact un.keep b o e z (by intro z; exact absurd (show b ∈ ([] : List Addr) from z) (by simp)) (by simp)
          · have z2 := un.frzs b ob _ z
            obtain ⟨e1, _⟩ := hok b _ z
            obtain ⟨e2, _⟩ := hok' b _ z2
            rw [e] at e1; cases e1
            exact e2
  cases hk : K.lookup a with
  | some o =>
    have e := KX a o hk
    rw [ha] at e
    cases e
    refine core (fun b => if b ∈ Ts then some (.tbl #[]) else none) ⟨fun T m => if_pos m, fun b n => .inl (if_neg n)⟩ (.inr ⟨_, vs.toArray, _, hk, rfl, rfl, rfl, by rw [List.size_toArray, lenV]; exact hl, by simpa using rv⟩) (fun b u z => ?_) (fun b z => ?_) fun z => absurd (if_neg naT) z
    · by_cases hb : b ∈ Ts
      · have z' := (if_pos hb).symm.trans z
        cases z'; exact hT b hb
      · have z' := (if_neg hb).symm.trans z
        cases z'
    · by_cases hb : b ∈ Ts
      · exact .inr hb
      · exact absurd (if_neg hb) z
  | none =>
    refine core (fun b => if b ∈ Ts then some (.tbl #[]) else if b = a then some (.frz { cls := .type "list", data := .seq vs.toArray } (.lst (ns.map V.int))) else none) ⟨fun T m => if_pos m, fun b n => ?_⟩ (.inl (.inr ⟨{ cls := .type "list", data := .seq vs.toArray }, (if_neg naT).trans (if_pos rfl)⟩)) (fun b u z => ?_) (fun b z => ?_) fun _ => hk
    · by_cases hb : b = a
      · exact .inr ⟨_, _, (if_neg n).trans (if_pos hb)⟩
      · exact .inl ((if_neg n).trans (if_neg hb))
    · by_cases hbT : b ∈ Ts
      · have z' := (if_pos hbT).symm.trans z
        cases z'; exact hT b hbT
      · have z := (if_neg hbT).symm.trans z
        by_cases hb : b = a
        · have z' := (if_pos hb).symm.trans z
          cases z'
          subst hb
          exact ⟨ha, by rw [List.length_map]; exact hl, vs, _, rv, ha⟩
        · have z' := (if_neg hb).symm.trans z
          cases z'
    · by_cases hbT : b ∈ Ts
      · exact .inr hbT
      · by_cases hb : b = a
        · exact .inl hb
        · exact absurd ((if_neg hbT).trans (if_neg hb)) z
open PySem.W in
theorem walk_ofTs {l : PySem.W.OpenLaw} {n k : Nat} {q : Program} {loose : List Str} {XP : (Str → Option Value) → Heap → Prop} {YP : World → Heap → Prop} {d : DefRec} {K : Params → PySem.W.Frag} {sp : List Addr → World → Sp} {x : Str} {tns : List Str}
    (hn : l.most = some n) (hn2 : n ≤ sizeLine) (hdf : d.params.defaults = []) (hr : Room k callerA) (hrec : ∀ tn ∈ tns, ∃ e, (recsOf q).find? (fun e => e.name == tn) = some e)
    (hY : ∀ (w : World) (h : Heap), YP w h → (K w.params).In h)
    (F : ∀ (w : World) (mg : Str → Option Value) (fa : Addr) (h : Heap), (K w.params).In h → h.Ns mainGlobals mg → mg d.name = some (.ref fa) →
      ∃ (fd : FuncData) (cts : List (Addr × Addr)), cts.length = tns.length ∧ (∀ (i : Nat) (tn : Str) (ct : Addr × Addr), tns[i]? = some tn → cts[i]? = some ct → tabIn (K w.params) tn = some ct ∧ (K w.params).lookup ct.2 = none) ∧ (∀ (s : Shared) (u : Value), BindsTo s fd ⟨[u], []⟩ [(x, u)]) ∧
        ∀ base : Heap, (K w.params).In base → base.Ns mainGlobals mg → (∀ T ∈ cts.map (·.2), base.BuiltinsAt mg T) → FnOk l.prog w (K w.params) mg base CX0 k fa fd [x] (sp (cts.map (·.2)) w))
    (hsp : ∀ (w : World) (T : List Addr) (H : Hp) (a : Addr) (ns : List Int), ns.length ≤ n → OnlyTs T H → SqL (K w.params) H a (ns.map V.int) → sp T w [.ref a] H (fun v _ => v = .bl true) E0) :
    PySem.W.WalkO q loose XP YP l.row.toRowW d [] (fun f vs => PySem.call f vs) := by
  refine Att.attach_call hn hdf fun w s₀ s₁ mg mb fa o pm cd doc a vs ns G Y ho hd hcd hmg hobj hints hlen hg => ?_
  have KX := hY w _ Y
  obtain ⟨fd, cts, hlen2, ht, hb, hF⟩ := F w mg fa _ KX G.T.g hmg
  have each : ∀ T ∈ cts.map (·.2), (∃ c0, CodeHd s₁.heap c0 T) ∧ s₁.heap.get? T = some (tabObj #[]) ∧ (K w.params).lookup T = none := fun T mT => by
    obtain ⟨ct, m, rfl⟩ := List.mem_map.mp mT
    obtain ⟨i, hi, e⟩ := List.getElem_of_mem m
    have hi2 : i < tns.length := by omega
    have e1 : tns[i]? = some tns[i] := List.getElem?_eq_getElem hi2
    have e2 : cts[i]? = some ct := by rw [List.getElem?_eq_getElem hi, e]
    obtain ⟨h1, h2⟩ := ht i _ _ e1 e2
    obtain ⟨e', he⟩ := hrec tns[i] (List.getElem_mem hi2)
    obtain ⟨hC, hT⟩ := tab_of G.T KX he h1
    exact ⟨⟨_, hC⟩, hT, h2⟩
  exact law_callTs KX G.T.g G.T.b G.T.builtins G.T.nolimit hg hobj hints (Nat.le_trans hlen hn2) hr (fun T m => (each T m).1) (fun T m => (each T m).2.1) (fun T m => (each T m).2.2) G.T.bmain hF hb (fun H hO hS => hsp w _ H a ns hlen hO hS)
end L2
set_option Elab.async false
set_option linter.all false
set_option maxRecDepth 100000
set_option maxHeartbeats 4000000
namespace L3
open PySem PySem.Spec PyProof.Rows L2
def lookT (kvs : List (List Int × Int)) (k : List Int) : Option Int := (kvs.find? fun kv => decide (kv.1 = k)).map (·.2)
def putT (kvs : List (List Int × Int)) (k : List Int) (v : Int) : List (List Int × Int) :=
  if (kvs.any fun kv => decide (kv.1 = k)) = true then kvs.map (fun kv => if kv.1 = k then (kv.1, v) else kv) else kvs ++ [(k, v)]
theorem inl_inj {a b : List Int} : (a.map (Sum.inl : Int → Key) = b.map Sum.inl) ↔ a = b :=
  ⟨fun h => by
    induction a generalizing b with
    | nil => cases b with | nil => rfl | cons y b => simp at h
    | cons x a ih => cases b with
      | nil => simp at h
      | cons y b =>
        rw [List.map_cons, List.map_cons] at h
        injection h with h1 h2
        injection h1 with h1
        rw [h1, ih h2], fun h => by rw [h]⟩
theorem val_tab {k : List Int} : ∀ {kvs : List (List Int × Int)}, valV (tabK kvs) (k.map Sum.inl) = (lookT kvs k).map V.int
  | [] => rfl
  | p :: kvs => by
    by_cases h : p.1 = k
    · have e1 : decide (p.1.map (Sum.inl : Int → Key) = k.map Sum.inl) = true := decide_eq_true (by rw [h])
      have e2 : decide (p.1 = k) = true := decide_eq_true h
      unfold valV lookT tabK
      rw [List.map_cons, List.find?_cons, List.find?_cons, e1, e2]; rfl
    · have e1 : decide (p.1.map (Sum.inl : Int → Key) = k.map Sum.inl) = false := decide_eq_false fun z => h (inl_inj.mp z)
      have e2 : decide (p.1 = k) = false := decide_eq_false h
      have ih := val_tab (k := k) (kvs := kvs)
      unfold valV lookT tabK at ih ⊢
      rw [List.map_cons, List.find?_cons, List.find?_cons, e1, e2]
      exact ih
theorem put_tab {kvs : List (List Int × Int)} {k : List Int} {v : Int} : putK (tabK kvs) (k.map Sum.inl) (V.int v) = tabK (putT kvs k v) := by
  have ea : ((tabK kvs).any fun kv => decide (kv.1 = k.map Sum.inl)) = kvs.any fun kv => decide (kv.1 = k) := by
    unfold tabK
    rw [List.any_map]
    congr 1
    funext p
    show decide (p.1.map Sum.inl = k.map Sum.inl) = decide (p.1 = k)
    by_cases h : p.1 = k
    · rw [decide_eq_true h, decide_eq_true (by rw [h])]
    · rw [decide_eq_false h, decide_eq_false fun z => h (inl_inj.mp z)]
  unfold putK putT
  rw [ea]
  split
  · unfold tabK
    rw [List.map_map, List.map_map]
    refine List.map_congr_left fun p _ => ?_
    show (if p.1.map Sum.inl = k.map Sum.inl then (p.1.map Sum.inl, V.int v) else (p.1.map Sum.inl, V.int p.2)) = _
    by_cases h : p.1 = k
    · rw [if_pos (by rw [h]), Function.comp, if_pos h]
    · rw [if_neg fun z => h (inl_inj.mp z), Function.comp, if_neg h]
  · unfold tabK; rw [List.map_append]; rfl
theorem putT_len {kvs : List (List Int × Int)} {k : List Int} {v : Int} : (putT kvs k v).length ≤ kvs.length + 1 := by
  unfold putT; split
  · rw [List.length_map]; omega
  · simp
def itbOf : PV → Sto → Option (List (List Int × Int))
  | .itb kvs, _ => some kvs
  | .obj i, st => (match st[i]? with | some (.itb kvs) => some kvs | _ => none)
  | _, _ => none
theorem ints_res {K : PySem.W.Frag} {A : List Addr} {H : Hp} : ∀ {k : List Int} {vs : List V}, REs K A H (k.map PV.int) vs → vs = k.map V.int
  | [], vs, h => by cases h; rfl
  | i :: k, vs, h => by
    rw [List.map_cons] at h
    cases h with
    | cons r t => rw [ints_of r, ints_res t]; rfl
def vDNewT : TE3 := fun _ st Q => Q (.obj st.length) (st ++ [.itb []])
def vIxT (Ta : TE3) (TA : TA3) : TE3 := fun env st Q => Ta env st fun x st1 => TA env st1 fun ys st2 => ∃ (k : List Int) (kvs : List (List Int × Int)) (v : Int), ys = k.map PV.int ∧ itbOf x st2 = some kvs ∧ k.length ≤ 100 ∧ lookT kvs k = some v ∧ Q (.int v) st2
def vPutT (Td : TE3) (TA : TA3) (Tv : TE3) : TS3 := fun D env st => Tv env st fun v st1 => Td env st1 fun x st2 => TA env st2 fun ys st3 => ∃ (k : List Int) (i : Nat) (kvs : List (List Int × Int)) (z : Int), ys = k.map PV.int ∧ v = .int z ∧ x = .obj i ∧ st3[i]? = some (.itb kvs) ∧ k.length ≤ 100 ∧ kvs.length < sizeLine ∧ D.nx env (st3.set i (.itb (putT kvs k z)))
@[simp] theorem u_vDNewT {env : Env3} {st : Sto} {Q : K3} : vDNewT env st Q = Q (.obj st.length) (st ++ [.itb []]) := rfl
@[simp] theorem u_vIxT {Ta : TE3} {TA : TA3} {env : Env3} {st : Sto} {Q : K3} : vIxT Ta TA env st Q = (Ta env st fun x st1 => TA env st1 fun ys st2 => ∃ (k : List Int) (kvs : List (List Int × Int)) (v : Int), ys = k.map PV.int ∧ itbOf x st2 = some kvs ∧ k.length ≤ 100 ∧ lookT kvs k = some v ∧ Q (.int v) st2) := rfl
@[simp] theorem u_vPutT {Td : TE3} {TA : TA3} {Tv : TE3} {D : Ends3} {env : Env3} {st : Sto} : vPutT Td TA Tv D env st = (Tv env st fun v st1 => Td env st1 fun x st2 => TA env st2 fun ys st3 => ∃ (k : List Int) (i : Nat) (kvs : List (List Int × Int)) (z : Int), ys = k.map PV.int ∧ v = .int z ∧ x = .obj i ∧ st3[i]? = some (.itb kvs) ∧ k.length ≤ 100 ∧ kvs.length < sizeLine ∧ D.nx env (st3.set i (.itb (putT kvs k z)))) := rfl
section
variable {X : Cx} {a value : Expr} {es : List Expr} {pos pos' p2 : Pos} {Ta Tv : TE3} {TA : TA3}
theorem q_dnewT : PE X (.Dict [] [] pos) (can X.K vDNewT) := pe_weak pe_dnewT fun σ H Q ⟨A, env, st, Q3, rel, h, k⟩ p hp =>
  k (A ++ [p]) _ _ _ _ (.newObj hp) (rel.rs.newObj (q := .itb []) hp upd_same) (.obj (by rw [← rel.rs.len, List.getElem?_append_right (Nat.le_refl _), Nat.sub_self]; rfl)) h
theorem key_eq {k : List Int} : (k.map (Sum.inl : Int → Key)).map kV = k.map V.int := by rw [List.map_map]; rfl
theorem qs_putT {k : Nat} {x1} (hr : Room k X.A) (ho : PE X a (can X.K Ta)) (ha : PA X es (canA X.K TA)) (hv : PE X value (can X.K Tv)) (hs : swapsWith value (some (.Subscript a (.Tuple es x1 p2) pos')) pos.line X.env = pure false := by rfl) :
    PS X (.Assign [.Subscript a (.Tuple es x1 p2) pos'] value pos) (canS X.K (vPutT Ta TA Tv)) :=
  ps_weak (ps_dput (by have := hr.units; omega) ho (pe_tup ha) hv hs) fun D σ H ⟨A, env, st, D3, rel, h, kk⟩ => ⟨A, env, st, _, rel, h, fun A0 H0 st0 y w g0 s0 e0 h0 => ⟨A0, env, st0, _, rel.grow g0 s0, h0, fun A1 H1 st1 x v g1 s1 e1 h1 => ⟨A1, env, st1, _, rel.grow (g0.trans g1) s1, h1, fun A2 H2 st2 ys vs g2 s2 e2 h2 => by
    obtain ⟨k, i, kvs, z, rfl, rfl, rfl, hi, hl, hlen, q⟩ := h2
    cases ints_res e2
    cases ints_of e0
    have eo : RE X.K A2 H2 (.obj i) v := e1.grow g2
    cases eo with
    | val e => cases e
    | obj eo =>
      rename_i d
      have hd : H2 d = some (.dT (tabK kvs)) := s2.at_ _ _ _ eo hi
      refine ⟨by rw [List.length_map]; exact Nat.le_trans hl (by decide), fun p hp => ⟨d, _, rfl, DPut.t (k := k.map Sum.inl) (kvs := tabK kvs) (b := p) (v := V.int z) (by rw [upd_ne (ne_of_none hd hp)]; exact hd) (by rw [key_eq]; exact upd_same) (by unfold tabK; rw [List.length_map]; exact hlen), ?_⟩⟩
      have s3 : RS X.K A2 (upd H2 p (.tup (k.map V.int))) st2 := s2.new hp
      have md : d ∈ A2 := List.mem_of_getElem? eo
      have gg : Grow A H A2 (upd (upd H2 p (.tup (k.map V.int))) d (.dT (putK (tabK kvs) (k.map Sum.inl) (V.int z)))) := ((((g0.trans g1).trans g2).trans (.new hp))).trans (.put md)
      have s4 : RS X.K A2 (upd (upd H2 p (.tup (k.map V.int))) d (.dT (putK (tabK kvs) (k.map Sum.inl) (V.int z)))) (st2.set i (.itb (putT kvs k z))) := s3.put eo (by show upd _ d _ d = _; rw [upd_same, put_tab])
      exact kk.nx A2 _ σ env _ gg (rel.grow gg s4) q⟩⟩⟩
end
end L3
set_option Elab.async false
set_option linter.all false
set_option maxRecDepth 100000
set_option maxHeartbeats 4000000
namespace L3
open PySem PySem.Spec PyProof.Rows L2
def spClo (D : Clo) : Sp := fun vs H Q _ => ∃ (k : List Int) (v : Int), vs = k.map V.int ∧ k.length = 3 ∧ CloAt [] H D ∧ lookT D.kvs k = some v ∧ ∀ H', Same H H' → Q (.int v) H'
def vCallF (good : Clo → Prop) (i : Nat) (TA : TA3) : TE3 := fun env st Q => ∃ D : Clo, env[i]? = some (some (.clo D)) ∧ good D ∧ TA env st fun xs st1 => ∃ (k : List Int) (v : Int), xs = k.map PV.int ∧ k.length = 3 ∧ lookT D.kvs k = some v ∧ Q (.int v) st1
@[simp] theorem u_vCallF {good : Clo → Prop} {i : Nat} {TA : TA3} {env : Env3} {st : Sto} {Q : K3} : vCallF good i TA env st Q = ∃ D : Clo, env[i]? = some (some (.clo D)) ∧ good D ∧ TA env st fun xs st1 => ∃ (k : List Int) (v : Int), xs = k.map PV.int ∧ k.length = 3 ∧ lookT D.kvs k = some v ∧ Q (.int v) st1 := rfl
theorem grow_same {A : List Addr} {H H' : Hp} (s : Same H H') : Grow A H A H' := ⟨⟨[], by simp, by simp⟩, fun b o h _ => s b o h, fun b h => by
  cases e : H b with
  | none => exact absurd e h
  | some o => rw [s b o e]; exact Option.some_ne_none _⟩
section
variable {X : Cx} {e : Expr} {es : List Expr} {p pos : Pos} {TA : TA3}
theorem q_callF {k i : Nat} {x : Str} {ps : List Str} {good : Clo → Prop} (hF : ∀ D, good D → ∃ fd, D.o.data = .func fd ∧ Binds X.K fd ps [] ∧ FnOk X.prog X.w X.K X.mg X.base CX0 k D.f fd ps (spClo D)) (hr : Room k X.A) (hN : X.N[i]? = some x) (ha : PA X (e :: es) (canA X.K TA))
    (hv : Vis X.env.scope x := by first | exact Or.inl rfl | exact Or.inr (Or.inl rfl) | exact Or.inr (Or.inr rfl))
    (hd : (x == ("__debug__" : Str)) = false := by decide) (hcd : (x == ("__classdict__" : Str)) = false := by decide) (he : starEach (e :: es) X.env = (false, eval e X.env) :: starEach es X.env := by rfl) :
    PE X (.Call (.Name x p) (e :: es) [] pos) (can X.K (vCallF good i TA)) :=
  pe_weak (pe_callV (ps := ps) hr hN hv pass0 ha hd hcd he) fun σ H Q ⟨A, env, st, Q3, rel, h, kk⟩ => by
    obtain ⟨D, eD, hg, h⟩ := h
    obtain ⟨fd, h1, h2, h3⟩ := hF D hg
    obtain ⟨v, ev, re⟩ := rel.at_ _ _ eD
    cases re with
    | val re =>
      cases re with
      | clo hc =>
        refine ⟨D.f, D.o, fd, ev, h1, A, env, st, _, rel, h, fun A1 H1 st1 xs vs g1 s1 e1 h1' => ?_⟩
        obtain ⟨k', z, rfl, hl, hz, q⟩ := h1'
        cases ints_res e1
        have hc1 : RV X.K A1 H1 (.clo D) (.ref D.f) := (RV.clo (K := X.K) hc).grow g1
        cases hc1 with
        | clo hc1 =>
          refine ⟨spClo D, hc1.fn.1, h3, h2, k', z, rfl, hl, ⟨⟨hc1.fn.1, by simp⟩, ⟨hc1.cd.1, by simp⟩, ⟨hc1.cl.1, by simp⟩, ⟨hc1.dt.1, by simp⟩⟩, hz, fun H' s => ?_⟩
          have g2 : Grow A1 H1 A1 H' := grow_same s
          exact kk A1 H' st1 _ _ (g1.trans g2) (s1.move g2 fun a m => by
            cases eo : H1 a with
            | none => exact absurd eo (s1.live m)
            | some o => exact s a o eo) (.val (.int _)) q
end
end L3
set_option Elab.async false
set_option linter.all false
set_option maxRecDepth 100000
set_option maxHeartbeats 4000000
namespace L2
open PySem PySem.Spec PyProof.Rows
theorem lex_irr : ∀ a : List Int, HT.lexLt a a = false
  | [] => rfl
  | x :: a => by rw [HT.lexLt_cons, if_pos rfl]; exact lex_irr a
theorem lex_trans : ∀ {a b c : List Int}, HT.lexLt a b = true → HT.lexLt b c = true → HT.lexLt a c = true
  | [], [], _, h, _ => by cases h
  | [], _ :: _, [], _, h => by cases h
  | [], _ :: _, _ :: _, _, _ => rfl
  | _ :: _, [], _, h, _ => by cases h
  | _ :: _, _ :: _, [], _, h => by cases h
  | x :: a, y :: b, z :: c, h1, h2 => by
    rw [HT.lexLt_cons] at h1 h2 ⊢
    split at h1
    · rename_i e
      subst e
      split at h2
      · rename_i e; rw [if_pos e]; exact lex_trans h1 h2
      · rename_i e; rw [if_neg e]; exact h2
    · rename_i e
      have l1 := of_decide_eq_true h1
      split at h2
      · rename_i e2; subst e2; rw [if_neg e]; exact h1
      · have l2 := of_decide_eq_true h2
        rw [if_neg (by omega)]; exact decide_eq_true (by omega)
theorem args_minD (a d : Value) : argsOk "min" ⟨[a], [("default", d)]⟩ := by unfold argsOk; kernel_rfl
def BestJ (ad : Nat → Addr) (o : Option Nat) (arr : Array Value) : Prop := match o with
  | none => arr = #[]
  | some j => arr = #[.ref (ad j), .ref (ad j)]
section
variable {prog : Program} {w : World} {A : Around} {J : Addr} {fp wr : List Addr} {n : Nat} {P : Nat → Value → Prop} {Sn : Nat → Heap → Prop}
theorem minT_loop {R : Result → Shared → Prop} (W : Walks prog w A.in1 J fp wr n P Sn) (ad : Nat → Addr) (tp : Nat → Array Value) (key : Nat → List Int) (hval : ∀ i v, P i v → v = .ref (ad i)) (hk : ∀ i, i < n → IntsAre (tp i).toList (key i)) (had : ∀ i, i < n → ad i ∉ wr) (B : Addr) (hB : B ∉ fp) (hBa : ∀ i, i < n → ad i ≠ B) (hu : A.in1.units < cLine) (d : Value) :
    ∀ (k i : Nat) (s : Shared) (o : Option Nat) (arr : Array Value) (c : Nat), n - i = k → i ≤ n → Sn i s.heap → BestJ ad o arr →
      s.heap.get? B = some { cls := .type "list", dict := none, data := .seq arr c, slots := #[] } → (∀ j, j < n → IsTup s.heap (ad j) (tp j)) → (∀ j, o = some j → j < i ∧ ∀ m, m < i → HT.lexLt (key m) (key j) = false) → (o = none → i = 0) →
      (∀ v h' tk, (n = 0 ∧ v = d ∨ ∃ j, j < n ∧ v = .ref (ad j) ∧ ∀ m, m < n → HT.lexLt (key m) (key j) = false) → (∀ b u, b ∉ wr → b ≠ B → s.heap.get? b = some u → h'.get? b = some u) → R (.ok (.ret v)) { s with heap := h', toks := tk }) →
      codeAny (model prog w) A (.builtin "min.loop" ⟨[.ref J, .none, .ref B], [("default", d)]⟩) R s := by
  have nw : B ∉ wr := fun z => hB (W.sub _ z)
  have nm : (toString "min" ++ toString ".loop" : String) = "min.loop" := by decide
  intro k
  induction k with
  | zero =>
    intro i s o arr c hk' hi st hb eB hT ho hn fin
    have hin : i = n := by omega
    subst hin
    refine codeAny_builtin F.entry_min_loop ?_
    rw [Around.under_plainId F.plain_min_loop _]
    show wpAny _ A.in1 (seqItems? (.ref B) >>= _) _ _ s
    refine wpAny_bind (wpAny_seqItems eB rfl ?_)
    show wpAny _ A.in1 (tryCatch (pyNext (.ref J)) _ >>= _) _ _ s
    refine wpAny_bind (wpAny_tryCatch (W.done s _ _ st fun h' tk kp => ?_))
    have eB' := kp B _ nw eB
    cases o with
    | none =>
      have ha : arr = #[] := hb
      subst ha
      refine wpAny_bind (wpAny_rule ?_)
      exact wpAny_pure (fin d h' tk (.inl ⟨hn rfl, rfl⟩) fun b u hw _ e => kp b u hw e)
    | some b =>
      have ha : arr = #[.ref (ad b), .ref (ad b)] := hb
      subst ha
      show wpAny _ A.in1 (updateSeq B (fun _ => #[]) >>= _) _ _ _
      refine wpAny_bind (wpAny_updateSeq eB' rfl (wpAny_bind (wpAny_letGo (wpAny_pure ?_))))
      exact fin _ _ tk (.inr ⟨b, (ho b rfl).1, rfl, (ho b rfl).2⟩) fun b' u hw hne e => (Heap.get?_update_other _ _ (Ne.symm hne)).trans (kp b' u hw e)
  | succ k ih =>
    intro i s o arr c hk' hi st hb eB hT ho hn fin
    have hlt : i < n := by omega
    refine codeAny_builtin F.entry_min_loop ?_
    rw [Around.under_plainId F.plain_min_loop _]
    show wpAny _ A.in1 (seqItems? (.ref B) >>= _) _ _ s
    refine wpAny_bind (wpAny_seqItems eB rfl ?_)
    show wpAny _ A.in1 (tryCatch (pyNext (.ref J)) _ >>= _) _ _ s
    refine wpAny_bind (wpAny_tryCatch (W.item i s _ _ hlt st fun v h' tk hP st' kp => ?_))
    have eB' := kp B _ nw eB
    have hT' : ∀ j, j < n → IsTup h' (ad j) (tp j) := fun j hj => let ⟨ob, e, r⟩ := hT j hj; ⟨ob, kp _ _ (had j hj) e, r⟩
    have hT2 : ∀ (f : Array Value → Array Value) j, j < n → IsTup (h'.update B (Obj.mapSeq f)) (ad j) (tp j) := fun f j hj => let ⟨ob, e, r⟩ := hT' j hj; ⟨ob, (Heap.get?_update_other _ _ (Ne.symm (hBa j hj))).trans e, r⟩
    have ev := hval i v hP
    subst ev
    have keepB : ∀ (f : Array Value → Array Value) (b : Addr) (u : Obj), b ∈ fp → h'.get? b = some u → (h'.update B (Obj.mapSeq f)).get? b = some u := fun f b u hm e =>
      (Heap.get?_update_other _ _ (fun z : B = b => hB (by rw [z]; exact hm))).trans e
    cases o with
    | none =>
      have ha : arr = #[] := hb
      subst ha
      have hi0 := hn rfl
      subst hi0
      show wpAny _ A.in1 (updateSeq B (fun _ => #[_, _]) >>= _) _ _ _
      refine wpAny_bind (wpAny_updateSeq eB' rfl ?_)
      rw [nm]
      refine wpAny_pure ⟨plainId_quiet F.plain_min_loop _, ih 1 _ (some 0) _ _ (by omega) hlt (W.frame _ _ _ st' fun b hm u e => keepB _ b u hm e) rfl (Heap.get?_update_self _ eB' rfl) (hT2 _) (fun j hj => ?_) (fun z => by cases z) fun v' h'' tk'' e z => ?_⟩
      · cases hj
        refine ⟨by omega, fun m hm => ?_⟩
        rw [show m = 0 by omega]; exact lex_irr _
      · exact fin v' h'' tk'' e fun b u hw hne q => z b u hw hne ((Heap.get?_update_other _ _ (Ne.symm hne)).trans (kp b u hw q))
    | some b0 =>
      have ha : arr = #[.ref (ad b0), .ref (ad b0)] := hb
      subst ha
      obtain ⟨hb0, hmin⟩ := ho b0 rfl
      show wpAny _ A.in1 (tryCatch (holding [_, _] (richCompare .Lt _ _ >>= _)) _ >>= _) _ _ _
      refine wpAny_bind (wpAny_tryCatch (wpAny_holding (wpAny_bind ?_)))
      refine HT.lt_tupInts (hT' i hlt) (hT' b0 (by omega)) (hk i hlt) (hk b0 (by omega)) hu ?_
      refine wpAny_bind (wpAny_holding (wpAny_truthy_bool ?_))
      refine wpAny_bind (wpAny_letGo (wpAny_pure ?_))
      by_cases hg : HT.lexLt (key i) (key b0) = true
      · rw [if_pos hg]
        refine wpAny_bind (wpAny_updateSeq eB' rfl (wpAny_bind (wpAny_letGo ?_)))
        rw [nm]
        refine wpAny_pure ⟨plainId_quiet F.plain_min_loop _, ih (i + 1) _ (some i) _ _ (by omega) hlt (W.frame _ _ _ st' fun b hm u e => keepB _ b u hm e) rfl (Heap.get?_update_self _ eB' rfl) (hT2 _) (fun j hj => ?_) (fun z => by cases z) fun v' h'' tk'' e z => ?_⟩
        · cases hj
          refine ⟨by omega, fun m hm => ?_⟩
          by_cases e : m = i
          · rw [e]; exact lex_irr _
          · cases hx : HT.lexLt (key m) (key i) with
            | false => rfl
            | true => have := lex_trans hx hg; rw [hmin m (by omega)] at this; cases this
        · exact fin v' h'' tk'' e fun b u hw hne q => z b u hw hne ((Heap.get?_update_other _ _ (Ne.symm hne)).trans (kp b u hw q))
      · rw [if_neg hg]
        refine wpAny_bind (wpAny_letGo ?_)
        rw [nm]
        refine wpAny_pure ⟨plainId_quiet F.plain_min_loop _, ih (i + 1) _ (some b0) _ _ (by omega) hlt st' rfl eB' hT' (fun j hj => ?_) (fun z => by cases z) fun v' h'' tk'' e z => ?_⟩
        · cases hj
          refine ⟨by omega, fun m hm => ?_⟩
          by_cases e : m = i
          · rw [e]; exact Bool.eq_false_iff.mpr hg
          · exact hmin m (by omega)
        · exact fin v' h'' tk'' e fun b u hw hne q => z b u hw hne (kp b u hw q)
end
section
variable {prog : Program} {w : World} {A : Around} {E : Value → Shared → Prop} {s : Shared}
theorem min_listT {l : Addr} {its : List Value} {ad : Nat → Addr} {tp : Nat → Array Value} {key : Nat → List Int} {d : Value} {Q : Value → Shared → Prop} (hh : A.handled = none) (hl : s.heap.IsList l its.toArray)
    (hi : ∀ (i : Nat) (v : Value), its[i]? = some v → v = Value.ref (ad i)) (hT : ∀ i, i < its.length → IsTup s.heap (ad i) (tp i)) (hk : ∀ i, i < its.length → IntsAre (tp i).toList (key i)) (hu : A.in1.units < cLine)
    (h : ∀ (v : Value) (h' : Heap) (tk : Nat), (its.length = 0 ∧ v = d ∨ ∃ j, j < its.length ∧ v = .ref (ad j) ∧ ∀ m, m < its.length → HT.lexLt (key m) (key j) = false) → (∀ b u, s.heap.get? b = some u → h'.get? b = some u) → Q v { s with heap := h', toks := tk }) :
    wpAny (model prog w) A (call (.builtin "min") [.ref l] [("default", d)]) Q E s := by
  have hname : (toString "min" ++ toString ".loop" : String) = "min.loop" := by decide
  obtain ⟨ol, hol, _⟩ := id hl
  have hll : l < s.heap.objs.size := Heap.lt_size hol
  refine fn_treeK PySem.F.kind_min PySem.F.plain_min PySem.F.entry_min (args_minD _ _) ?_
  show wpAny _ A.in1 (Builtin.Builtins.bindParams "min" ["key", "default"] 0 ⟨[], [("default", d)]⟩ >>= _) _ _ s
  refine wpAny_bind (wpAny_of_eq (show Builtin.Builtins.bindParams "min" ["key", "default"] 0 ⟨[], [("default", d)]⟩ = pure [none, some d] from rfl) ?_)
  refine wpAny_bind (wpAny_pure ?_)
  refine wpAny_bind (wpAny_pyIter_list hl ?_)
  refine wpAny_bind (wpAny_newList ?_ (Nat.zero_le _))
  rw [hname]
  have hlI : l ≠ s.heap.objs.size := Nat.ne_of_lt hll
  have W := Walks.list (prog := prog) (w := w) (A := A.in1) hh s.heap.objs.size l hlI its.toArray
  have hS : (s.heap.push { cls := .type "list_iterator", data := .fields #[.ref l, .int 0 0] }).objs.size = s.heap.objs.size + 1 := size_push' ..
  have hB : (s.heap.push { cls := .type "list_iterator", data := .fields #[.ref l, .int 0 0] }).objs.size ∉ [s.heap.objs.size, l] := by
    rw [hS]
    intro z
    rcases List.mem_cons.mp z with z | z
    · exact absurd z (Nat.ne_of_gt (Nat.lt_succ_self _))
    · exact absurd (List.mem_singleton.mp z) (Nat.ne_of_gt (Nat.lt_succ_of_lt hll))
  have hlen : its.toArray.size = its.length := List.size_toArray
  have hadl : ∀ i, i < its.length → ad i < s.heap.objs.size := fun i hi => let ⟨ob, e, _⟩ := hT i hi; Heap.lt_size e
  refine wpAny_pure ⟨plainId_quiet PySem.F.plain_min_loop _, minT_loop W ad tp key (fun i v hv => hi i v (by simpa using hv)) (fun i hi' => hk i (by rw [← hlen]; exact hi')) (fun i hi' z => ?_) _ hB (fun i hi' z => ?_) hu d _ 0 _ none #[] 0 rfl (Nat.zero_le _) ⟨⟨_, Heap.get?_push_of_some _ (Heap.get?_push_size _ rfl), rfl, rfl⟩, hl.at fun o e => Heap.get?_push_of_some _ (Heap.get?_push_of_some _ e)⟩ rfl (Heap.get?_push_size _ rfl) (fun j hj => ?_) (fun j z => by cases z) (fun _ => rfl) fun v h' tk hv kp => ?_⟩
  · have := hadl i (by rw [← hlen]; exact hi')
    rw [List.mem_singleton.mp z] at this
    exact absurd this (Nat.lt_irrefl _)
  · have := hadl i (by rw [← hlen]; exact hi')
    rw [z, hS] at this
    exact absurd this (Nat.not_lt.mpr (Nat.le_succ _))
  · obtain ⟨ob, e, r⟩ := hT j (by rw [← hlen]; exact hj)
    exact ⟨ob, Heap.get?_push_of_some _ (Heap.get?_push_of_some _ e), r⟩
  · rw [hlen] at hv
    refine h v h' tk hv fun b u e => kp b u (fun z => ?_) (fun z => ?_) (Heap.get?_push_of_some _ (Heap.get?_push_of_some _ e))
    · exact absurd (List.mem_singleton.mp z) (Nat.ne_of_lt (Heap.lt_size e))
    · rw [hS] at z; exact absurd z (Nat.ne_of_lt (Nat.lt_succ_of_lt (Heap.lt_size e)))
end
section
variable {X : Cx} {e e2 : Expr} {t : TA} {tk : TA} {p pos kpos : Pos}
def tMinT (K : PySem.W.Frag) (t tk : TA) : TE := fun σ H Q => t σ H fun vs H1 => tk σ H1 fun zs H2 => ∃ (l : Addr) (as : List Addr) (ks : List (List Int)), vs = [.ref l] ∧ zs = [.non] ∧ SqL K H2 l (as.map V.ref) ∧ as.length = ks.length ∧ (∀ (i : Nat) (a : Addr) (k : List Int), as[i]? = some a → ks[i]? = some k → SqT K H2 a (k.map V.int)) ∧
  (ks = [] → Q .non H2) ∧ ∀ (j : Nat) (a : Addr) (k : List Int), as[j]? = some a → ks[j]? = some k → (∀ k' ∈ ks, HT.lexLt k' k = false) → Q (.ref a) H2
theorem boot_min0 : bootBuiltins "min" = some (.builtin "min") := PyProof.Rows.boot_min
theorem vals_refs : ∀ {as : List Addr} {us : List Value} {i : Nat} {v : Value}, Vals (as.map V.ref) us → us[i]? = some v → ∃ a, as[i]? = some a ∧ v = .ref a
  | [], us, i, v, h, e => by cases h; cases e
  | a :: as, us, i, v, h, e => by
    rw [List.map_cons] at h
    cases h with
    | cons r t =>
      cases i with
      | zero => cases r; cases e; exact ⟨a, rfl, rfl⟩
      | succ i => exact vals_refs (as := as) (i := i) t (by simpa using e)
theorem pe_minT (hc : X.calm = true) (hux : X.A.units + 1 < cLine) (hg : Gl X "min") (hm : X.mg "min" = none) (ha : PA X [e] t) (hk : PK X [⟨some "default", e2, kpos⟩] tk)
    (he : backTo pos (starEach [e] X.env) = (false, eval e X.env) :: backTo pos (starEach [] X.env) := by rfl) (hpl : (backTo pos (starEach [e] X.env)).any (·.1) = false := by rfl)
    (hall : (backToKw pos (keywordEach [⟨some "default", e2, kpos⟩] X.env)).all (·.1.isSome) = true := by rfl) (hkw : (backToKw pos (keywordEach [⟨some "default", e2, kpos⟩] X.env)).any (·.1.isNone) = false := by rfl)
    (hks : (backToKw pos (keywordEach [⟨some "default", e2, kpos⟩] X.env)).filterMap (·.1) = [Str.ofString "default"] := by rfl) :
    PE X (.Call (.Name "min" p) [e] [⟨some "default", e2, kpos⟩] pos) (tMinT X.K t tk) := ⟨fun pins s σ H Q I h => by
  refine wpAny_Call_Name_kw (ld_blt I hg hm boot_min0 ?_)
  refine PyProof.Rows.callWith_kw (thn (ha pos pins s σ H _ I h) fun us s1 ⟨vs, H1, I1, r, q⟩ => thn (hk pos pins s1 σ H1 _ I1 q) fun ws s2 ⟨zs, H2, I2, rz, q2⟩ => ?_) he hpl hall hkw
  obtain ⟨l, as, ks, rfl, rfl, hl, hlen, hT, q0, q1⟩ := q2
  obtain ⟨u, rfl, ru⟩ := vals1 r
  obtain ⟨u2, rfl, ru2⟩ := vals1 rz
  cases ru
  cases ru2
  obtain ⟨its, rv, pl, _⟩ := I2.list hl
  have hil : its.length = as.length := by rw [← rv.length, List.length_map]
  rw [hks]
  have tup : ∀ i, i < its.length → ∃ tp : Array Value, IsTup s2.heap (as.getD i 0) tp ∧ IntsAre tp.toList (ks.getD i []) := fun i hi => by
    have h1 : i < as.length := by omega
    have h2 : i < ks.length := by omega
    obtain ⟨its', r', p', _⟩ := I2.tuple (hT i as[i] ks[i] (List.getElem?_eq_getElem h1) (List.getElem?_eq_getElem h2))
    refine ⟨its'.toArray, ?_, ?_⟩
    · rw [List.getD_eq_getElem?_getD, List.getElem?_eq_getElem h1]; exact p'
    · rw [List.getD_eq_getElem?_getD, List.getElem?_eq_getElem h2]; exact intsAre_of r'
  obtain ⟨tp, htp⟩ : ∃ tp : Nat → Array Value, ∀ i, i < its.length → IsTup s2.heap (as.getD i 0) (tp i) ∧ IntsAre (tp i).toList (ks.getD i []) := by
    refine ⟨fun i => if hi : i < its.length then Classical.choose (tup i hi) else #[], fun i hi => ?_⟩
    have := Classical.choose_spec (tup i hi)
    simp only [dif_pos hi]
    exact this
  refine min_listT (ad := fun i => as.getD i 0) (tp := tp) (key := fun i => ks.getD i []) (I2.ok.hd hc) pl.isList (fun i v hv => ?_) (fun i hi => (htp i hi).1) (fun i hi => (htp i hi).2) (by show X.A.units + 1 < cLine; exact hux) fun v h' tk hv kp => ?_
  · obtain ⟨a, ea, rfl⟩ := vals_refs rv hv
    rw [List.getD_eq_getElem?_getD, ea]; rfl
  · rcases hv with ⟨h0, rfl⟩ | ⟨j, hj, rfl, hmin⟩
    · exact ⟨.non, H2, I2.kept kp, rfl, q0 (List.length_eq_zero_iff.mp (by omega))⟩
    · have h1 : j < as.length := by omega
      have h2 : j < ks.length := by omega
      refine ⟨.ref (as.getD j 0), H2, I2.kept kp, rfl, q1 j _ ks[j] (by rw [List.getD_eq_getElem?_getD, List.getElem?_eq_getElem h1]; rfl) (List.getElem?_eq_getElem h2) fun k' hk' => ?_⟩
      obtain ⟨m, hm', e⟩ := List.getElem_of_mem hk'
      have := hmin m (by omega)
      rw [List.getD_eq_getElem?_getD, List.getElem?_eq_getElem hm', List.getD_eq_getElem?_getD, List.getElem?_eq_getElem h2, e] at this
      exact this⟩
end
end L2
namespace L3
open PySem PySem.Spec PyProof.Rows L2
def rAddO3 : R3 := fun x y st Q => ∃ xs ys, lstOf x st = some xs ∧ lstOf y st = some ys ∧ xs.length + ys.length ≤ sizeLine ∧ Q (.obj st.length) (st ++ [.lst (xs ++ ys)])
theorem o_addO {X : Cx} : OpR X (binaryOp .Add) (canR X.K rAddO3) := op_vals fun pins s σ H A st x y v w vv ww Q3 Q I rs ex ey rv rw h k => by
  obtain ⟨xs, ys, e1, e2, hl, q⟩ := h
  obtain ⟨a, vs, rfl, h1, r1, z1⟩ := lst_of rs ex e1
  obtain ⟨b, us, rfl, h2, r2, z2⟩ := lst_of rs ey e2
  rw [r1.len, r2.len] at hl
  exact op_catL pins s σ H _ _ vv ww Q I rv rw ⟨_, _, _, _, rfl, rfl, h1, h2, hl, k.lstO rs (r1.append r2) (by rw [List.length_append]; exact hl) q⟩
end L3
set_option Elab.async false
set_option linter.all false
set_option maxRecDepth 100000
set_option maxHeartbeats 4000000
namespace L3
open PySem PySem.Spec PyProof.Rows L2
section
variable {X : Cx} {a b e : Expr} {es : List Expr} {pos p p2 : Pos} {Ta Tb : TE3} {TA : TA3}
def rSlO : PV → Option Int → Option Int → Sto → K3 → Prop := fun x lo hi st Q => ∃ i xs, x = .obj i ∧ st[i]? = some (.lst xs) ∧ Q (.lst (cutP xs lo hi)) st
def canSlO (K : PySem.W.Frag) : V → Option Int → Option Int → Hp → VK → Prop := fun v lo hi H Q => ∃ A st x Q3, RS K A H st ∧ RE K A H x v ∧ rSlO x lo hi st Q3 ∧ Fin K A H Q3 Q
theorem o_slO : SlR X (canSlO X.K) := by
  intro pins s σ H v vv vl vu lo hi sl Q I rx hs pl pu ⟨A, st, x, Q3, rs, ex, ⟨i, xs, e, q, h⟩, k⟩
  subst e
  cases ex with
  | val ex => cases ex
  | obj eo =>
    obtain ⟨vs, h1, r, hz⟩ := rs.at_ _ _ _ eo q
    exact sl_list pins s σ H _ vv vl vu lo hi sl Q I rx hs pl pu ⟨_, _, rfl, .of h1, k.lst rs (r.cut lo hi) (Nat.le_trans (cutV_length _ lo hi) hz) h⟩
def vSlO (T : TE3) (Tl Th : TO3) : TE3 := fun env st Q => T env st fun x st1 => Tl env st1 fun l st2 => Th env st2 fun u st3 => rSlO x l u st3 Q
theorem q_sliceO {lo hi : Option Expr} {Tl Th : TO3} (he : PE X e (can X.K Ta)) (hl : L2.PO X lo (canO X.K Tl)) (hu : L2.PO X hi (canO X.K Th)) : PE X (.Subscript e (.Slice lo hi none p2) pos) (can X.K (vSlO Ta Tl Th)) :=
  pe_weak (pe_slice o_slO he hl hu) fun σ H Q ⟨A, env, st, Q3, rel, h, k⟩ => ⟨A, env, st, _, rel, h, fun A1 H1 st1 x v g1 s1 e1 h1 => ⟨A1, env, st1, _, rel.grow g1 s1, h1, fun A2 H2 st2 l g2 s2 h2 => ⟨A2, env, st2, _, (rel.grow g1 s1).grow g2 s2, h2, fun A3 H3 st3 u g3 s3 h3 =>
    ⟨A3, st3, x, Q3, s3, e1.grow (g2.trans g3), h3, k.after (g1.trans (g2.trans g3))⟩⟩⟩⟩
def vRevO (T : TE3) (Tl : TO3) : TE3 := fun env st Q => T env st fun x st1 => Tl env st1 fun l st2 => l = some (-1) ∧ ∃ i xs, x = .obj i ∧ st2[i]? = some (.lst xs) ∧ Q (.lst xs.reverse) st2
theorem q_revSlO {e se : Expr} {Ta : TE3} {Tl : TO3} {p2 pos : Pos} (he : PE X e (can X.K Ta)) (hl : L2.PO X (some se) (canO X.K Tl)) : PE X (.Subscript e (.Slice none none (some se) p2) pos) (can X.K (vRevO Ta Tl)) := by
  refine pe_weak (pe_revSl he hl) fun σ H Q ⟨A, env, st, Q3, rel, h, k⟩ => ⟨A, env, st, _, rel, h, fun A1 H1 st1 x v g1 s1 e1 h1 => ⟨A1, env, st1, _, rel.grow g1 s1, h1, fun A2 H2 st2 l g2 s2 h2 => ⟨h2.1, ?_⟩⟩⟩
  obtain ⟨_, i, xs, rfl, q, h3⟩ := h2
  cases e1.grow g2 with
  | val ex => cases ex
  | obj eo =>
    obtain ⟨vs, h1, r, hz⟩ := s2.at_ _ _ _ eo q
    exact ⟨_, _, rfl, .of h1, (k.after (g1.trans g2)).lst s2 r.reverse (by rw [List.length_reverse]; exact hz) h3⟩
def enumL (xs : List PV) : List PV := xs.mapIdx fun i x => .tup [.int (i : Int), x]
theorem enumL_len {xs : List PV} : (enumL xs).length = xs.length := by unfold enumL; simp
theorem enumL_at {xs : List PV} {i : Nat} {y : PV} (h : (enumL xs)[i]? = some y) : ∃ x, xs[i]? = some x ∧ y = .tup [.int (i : Int), x] := by
  unfold enumL at h
  rw [List.getElem?_mapIdx] at h
  cases e : xs[i]? with
  | none => rw [e] at h; cases h
  | some x => rw [e] at h; exact ⟨x, rfl, (Option.some.inj h).symm⟩
theorem it_enum {K : PySem.W.Frag} {A : List Addr} {H : Hp} {a : Addr} {xs : List PV} {src : Src} (hz : xs.length ≤ sizeLine) (hv : ∀ A' H' st, Grow A H A' H' → RS K A' H' st → okS src st → ∃ vs, SqL K H' a vs ∧ RVs K A' H' xs vs) : ItOk K A H src (Ite K a) (enumL xs) where
  go := fun i A' H' st g s ok hi => by
    obtain ⟨vs, h, r⟩ := hv A' H' st g s ok
    rw [enumL_len, r.len] at hi
    exact ⟨vs, vs[i], h, by simp [hi]⟩
  yld := fun i x A' H' st v H2 hx g s ok y => by
    obtain ⟨p, x', hp, hx', rfl, rfl⟩ := y
    obtain ⟨vs, h, r⟩ := hv A' H' st g s ok
    obtain ⟨z, hz', rfl⟩ := enumL_at hx
    obtain ⟨w, ew, rw'⟩ := r.get hz'
    have := hx' vs h
    rw [ew] at this; cases this
    exact ⟨.new hp, s.new hp, .val (.tup (.inl ⟨.inl upd_same, s.fresh hp⟩) (by show 2 ≤ sizeLine; decide) (.cons (.int _) (.cons (rw'.grow (.new hp)) .nil)))⟩
  stop := fun A' H' st g s ok => by
    obtain ⟨vs, h, r⟩ := hv A' H' st g s ok
    exact ⟨vs, h, by rw [enumL_len, r.len]; exact Nat.le_refl _⟩
  small := by rw [enumL_len]; exact hz
def lstAt (x : PV) (st : Sto) (F : Src → List PV → Prop) : Prop := (∃ xs, x = .lst xs ∧ F none xs) ∨ ∃ i xs, x = .obj i ∧ st[i]? = some (.lst xs) ∧ F (some (i, .lst xs)) xs
def iEnum3 (T : TA3) : TI3 := fun env st Q => T env st fun zs st1 => ∃ z, zs = [z] ∧ lstAt z st1 fun src xs => Q src (enumL xs) st1
theorem qi_enumerate {elts : List Expr} {k : Nat} {pos' : Pos} (hg : Gl X "enumerate") (hm : X.mg "enumerate" = none) (ha : PA X [a] (canA X.K TA)) (hs : starEach [a] X.env = [(false, eval a X.env)] := by rfl) : PI X (.Tuple elts k pos') (.Call (.Name "enumerate" p) [a] [] pos) (canI X.K (iEnum3 TA)) := by
  refine pi_weak (pi_enum hg hm ha hs) fun σ H R ⟨A, env, st, Q3, rel, h, k⟩ => ⟨A, env, st, _, rel, h, fun A1 H1 st1 zs vs g1 s1 e1 h1 => ?_⟩
  obtain ⟨z, rfl, h1⟩ := h1
  obtain ⟨v, rfl, e⟩ := REs.one e1
  rcases h1 with ⟨xs, rfl, h1⟩ | ⟨i, xs, rfl, q, h1⟩
  · cases e with | val e => cases e with | lst t hz r =>
      exact ⟨_, rfl, ⟨_, t.sq⟩, k A1 H1 st1 _ _ _ g1 s1 (it_enum (by rw [r.len]; exact hz) fun A' H' st' g s _ => ⟨_, (t.grow g).sq, r.grow g⟩) h1⟩
  · cases e with
    | val e => cases e
    | obj eo =>
      obtain ⟨vs, h2, r, hz⟩ := s1.at_ _ _ _ eo q
      exact ⟨_, rfl, ⟨_, .of h2⟩, k A1 H1 st1 _ _ _ g1 s1 (it_enum (by rw [r.len]; exact hz) fun A' H' st' g s ok => by
        obtain ⟨vs', h2', r', _⟩ := s.at_ _ _ _ (g.sub eo) ok
        exact ⟨vs', .of h2', r'⟩) h1⟩
end
end L3
set_option Elab.async false
set_option linter.all false
set_option maxRecDepth 100000
set_option maxHeartbeats 1000000
namespace N74
open PySem L2 L3
def top (i : Nat) : Stmt := PySem.Challenge.pw_copiedhouse_k74_whole_told_joins_in_turn.main.body.getD i (.Pass ⟨0, 0, 0, 0⟩)
theorem boot_tuple' : bootBuiltins "tuple" = some (.type "tuple") := by decide +kernel
theorem boot_int' : bootBuiltins "int" = some (.type "int") := by decide +kernel
theorem boot_bool' : bootBuiltins "bool" = some (.type "bool") := by decide +kernel
abbrev svalue_of_three : Stmt := top 2
theorem scvalue_of_three : FnScope ["term", "was", "mine", "yours", "three"] ["term", "was", "mine", "yours"] (defScope svalue_of_three) := ⟨rfl, rfl, rfl, by decide +kernel, rfl, by decide +kernel, by decide +kernel⟩
abbrev svalue_by : Stmt := top 3
theorem scvalue_by : FnScope ["term", "asked", "guard"] ["term", "asked"] (defScope svalue_by) := ⟨rfl, rfl, rfl, by decide +kernel, rfl, by decide +kernel, by decide +kernel⟩
abbrev svalue_of_op : Stmt := top 4
theorem scvalue_of_op : FnScope ["sign", "one", "other"] ["sign", "one", "other"] (defScope svalue_of_op) := ⟨rfl, rfl, rfl, by decide +kernel, rfl, by decide +kernel, by decide +kernel⟩
abbrev srule_broken : Stmt := top 6
theorem scrule_broken : FnScope ["n", "term", "rule", "was", "mine", "yours", "values"] ["n", "term", "rule"] (defScope srule_broken) := ⟨rfl, rfl, rfl, by decide +kernel, rfl, by decide +kernel, by decide +kernel⟩
abbrev stuples_below : Stmt := top 7
theorem sctuples_below : FnScope ["n", "many", "tuples", "place", "longer", "begin"] ["n", "many"] (defScope stuples_below) := ⟨rfl, rfl, rfl, by decide +kernel, rfl, by decide +kernel, by decide +kernel⟩
abbrev sall_that_break : Stmt := top 8
theorem scall_that_break : FnScope ["n", "rule", "f"] ["n", "rule", "f"] (defScope sall_that_break) := ⟨rfl, rfl, rfl, by decide +kernel, rfl, by decide +kernel, by decide +kernel⟩
abbrev sjoined : Stmt := top 13
theorem scjoined : FnScope ["manner", "was", "mine", "yours", "wrote"] ["manner", "was", "mine", "yours", "wrote"] (defScope sjoined) := ⟨rfl, rfl, rfl, by decide +kernel, rfl, by decide +kernel, by decide +kernel⟩
abbrev sL_box : Stmt := top 19
theorem scL_box : FnScope ["_law_script", "_law_k", "_law_cell", "_law_seed"] ["_law_script", "_law_k"] (defScope sL_box) := ⟨rfl, rfl, rfl, by decide +kernel, rfl, by decide +kernel, by decide +kernel⟩
abbrev sL_take : Stmt := top 20
theorem scL_take : FnScope ["_law_box_here", "_law_many", "_law_digit", "_law_one"] ["_law_box_here", "_law_many"] (defScope sL_take) := ⟨rfl, rfl, rfl, by decide +kernel, rfl, by decide +kernel, by decide +kernel⟩
abbrev sL_whole : Stmt := top 21
theorem scL_whole : FnScope ["_law_found"] ["_law_found"] (defScope sL_whole) := ⟨rfl, rfl, rfl, by decide +kernel, rfl, by decide +kernel, by decide +kernel⟩
abbrev sL_told : Stmt := top 22
theorem scL_told : FnScope ["_law_box_here", "_law_room", "_law_deep", "_law_form", "_law_k", "_law_left", "_law_more", "_law_parts", "_law_one"] ["_law_box_here", "_law_room", "_law_deep"] (defScope sL_told) := ⟨rfl, rfl, rfl, by decide +kernel, rfl, by decide +kernel, by decide +kernel⟩
abbrev sL_some_term : Stmt := top 24
theorem scL_some_term : FnScope ["_law_box_here", "_law_n", "_law_w", "_law_m", "_law_y", "_law_form", "_law_less", "_law_some"] ["_law_box_here", "_law_n"] (defScope sL_some_term) := ⟨rfl, rfl, rfl, by decide +kernel, rfl, by decide +kernel, by decide +kernel⟩
abbrev sL_join : Stmt := top 25
theorem scL_join : FnScope ["_law_n", "_law_term", "_law_was", "_law_mine", "_law_yours"] ["_law_n", "_law_term", "_law_was", "_law_mine", "_law_yours"] (defScope sL_join) := ⟨rfl, rfl, rfl, by decide +kernel, rfl, by decide +kernel, by decide +kernel⟩
abbrev sL_folded : Stmt := top 26
theorem scL_folded : FnScope ["_law_n", "_law_term", "_law_mine", "_law_pairs", "_law_was", "_law_yours"] ["_law_n", "_law_term", "_law_mine", "_law_pairs"] (defScope sL_folded) := ⟨rfl, rfl, rfl, by decide +kernel, rfl, by decide +kernel, by decide +kernel⟩
abbrev sL_breaks : Stmt := top 27
theorem scL_breaks : FnScope ["_law_n", "_law_term", "_law_yours", "_law_mine", "_law_either", "_law_w", "_law_m", "_law_y"] ["_law_n", "_law_term"] (defScope sL_breaks) := ⟨rfl, rfl, rfl, by decide +kernel, rfl, by decide +kernel, by decide +kernel⟩
abbrev sL_keeps : Stmt := top 28
theorem scL_keeps : FnScope ["_law_n", "_law_term", "_law_pairs", "_law_yours", "_law_mine", "_law_either", "_law_k", "_law_was", "_law_one", "_law_other", "_law_turned"] ["_law_n", "_law_term", "_law_pairs"] (defScope sL_keeps) := ⟨rfl, rfl, rfl, by decide +kernel, rfl, by decide +kernel, by decide +kernel⟩
abbrev slaw : Stmt := top 29
theorem sclaw : FnScope ["_law_script", "_law_box_here", "_law_n", "_law_term", "_law_mine", "_law_pairs", "_law_k", "_law_at", "_law_broken", "_law_found", "_law_v", "_law_w", "_law_m", "_law_a", "_law_b"] ["_law_script"] (defScope slaw) := ⟨rfl, rfl, rfl, by decide +kernel, rfl, by decide +kernel, by decide +kernel⟩
structure Mo (K : PySem.W.Frag) (mg : Str → Option Value) : Prop where
  len : mg "len" = none
  int : mg "int" = none
  range : mg "range" = none
  tuple : mg "tuple" = none
  isinstance : mg "isinstance" = none
  bool : mg "bool" = none
  str : mg "str" = none
  min : mg "min" = none
  max : mg "max" = none
  enumerate : mg "enumerate" = none
  value_of_three : ∃ f fd, Fun K "value_of_three" "value_of_three" svalue_of_three f fd ∧ Binds K fd ["term", "was", "mine", "yours"] [] ∧ mg "value_of_three" = some (.ref f)
  value_by : ∃ f fd, Fun K "value_by" "value_by" svalue_by f fd ∧ Binds K fd ["term", "asked"] [] ∧ mg "value_by" = some (.ref f)
  value_of_op : ∃ f fd, Fun K "value_of_op" "value_of_op" svalue_of_op f fd ∧ Binds K fd ["sign", "one", "other"] [] ∧ mg "value_of_op" = some (.ref f)
  rule_broken : ∃ f fd, Fun K "rule_broken" "rule_broken" srule_broken f fd ∧ Binds K fd ["n", "term", "rule"] [] ∧ mg "rule_broken" = some (.ref f)
  tuples_below : ∃ f fd, Fun K "tuples_below" "tuples_below" stuples_below f fd ∧ Binds K fd ["n", "many"] [] ∧ mg "tuples_below" = some (.ref f)
  all_that_break : ∃ f fd, Fun K "all_that_break" "all_that_break" sall_that_break f fd ∧ Binds K fd ["n", "rule", "f"] [] ∧ mg "all_that_break" = some (.ref f)
  joined : ∃ f fd, Fun K "joined" "joined" sjoined f fd ∧ Binds K fd ["manner", "was", "mine", "yours", "wrote"] [] ∧ mg "joined" = some (.ref f)
  _law_box : ∃ f fd, Fun K "_law_box" "_law_box" sL_box f fd ∧ Binds K fd ["_law_script", "_law_k"] [] ∧ mg "_law_box" = some (.ref f)
  _law_take : ∃ f fd, Fun K "_law_take" "_law_take" sL_take f fd ∧ Binds K fd ["_law_box_here", "_law_many"] [] ∧ mg "_law_take" = some (.ref f)
  _law_whole : ∃ f fd, Fun K "_law_whole" "_law_whole" sL_whole f fd ∧ Binds K fd ["_law_found"] [] ∧ mg "_law_whole" = some (.ref f)
  _law_told : ∃ f fd, Fun K "_law_told" "_law_told" sL_told f fd ∧ Binds K fd ["_law_box_here", "_law_room", "_law_deep"] [] ∧ mg "_law_told" = some (.ref f)
  _law_some_term : ∃ f fd, Fun K "_law_some_term" "_law_some_term" sL_some_term f fd ∧ Binds K fd ["_law_box_here", "_law_n"] [] ∧ mg "_law_some_term" = some (.ref f)
  _law_join : ∃ f fd, Fun K "_law_join" "_law_join" sL_join f fd ∧ Binds K fd ["_law_n", "_law_term", "_law_was", "_law_mine", "_law_yours"] [] ∧ mg "_law_join" = some (.ref f)
  _law_folded : ∃ f fd, Fun K "_law_folded" "_law_folded" sL_folded f fd ∧ Binds K fd ["_law_n", "_law_term", "_law_mine", "_law_pairs"] [] ∧ mg "_law_folded" = some (.ref f)
  _law_breaks : ∃ f fd, Fun K "_law_breaks" "_law_breaks" sL_breaks f fd ∧ Binds K fd ["_law_n", "_law_term"] [] ∧ mg "_law_breaks" = some (.ref f)
  _law_keeps : ∃ f fd, Fun K "_law_keeps" "_law_keeps" sL_keeps f fd ∧ Binds K fd ["_law_n", "_law_term", "_law_pairs"] [] ∧ mg "_law_keeps" = some (.ref f)
  WIDE : ∃ t, mg "WIDE" = some (.int 4294967296 t)
local macro_rules | `(tactic| simp_all? only [$ts,*]) => `(tactic| ((try dsimp [vSeq]); repeat (simp only [cB, c_isS, eqP_v, dpt_v, dptb, dptb2, Nat.reduceAdd, Nat.reduceSub, Nat.reduceLT, Nat.reduceLeDiff, Int.reduceLT, Int.reduceLE, Int.reducePow, Int.reduceNeg, Int.reduceMul, Int.reduceAdd, Int.reduceSub, Int.reduceToNat, $ts,*]; (try dsimp [vSeq]))))
local macro_rules | `(tactic| simp? only [$ts,*]) => `(tactic| ((try dsimp); repeat (simp only [cB, c_isS, eqP_v, dpt_v, dptb, dptb2, Nat.reduceAdd, Nat.reduceSub, Nat.reduceLT, Nat.reduceLeDiff, Int.reduceLT, Int.reduceLE, Int.reducePow, Int.reduceNeg, Int.reduceMul, Int.reduceAdd, Int.reduceSub, Int.reduceToNat, $ts,*]; (try dsimp))))
theorem cpow10 : CPow 10 18 := ⟨by decide, by decide, by decide⟩
def BoxOk (a b : Int) : Prop := 0 ≤ a ∧ 0 ≤ b ∧ b ≤ 2147483647
abbrev box (a b : Int) : PO := .lst [.int a, .int b]
def spBox : Sp3 := fun xs st Q => ∃ (ns : List Int) (k : Int), xs = [.lst (ns.map .int), .int k] ∧ ns.length ≤ 63 ∧ 0 ≤ k ∧ ∀ a b, BoxOk a b → Q (.obj st.length) (st ++ [box a b])
def spTake : Sp3 := fun xs st Q => ∃ (i : Nat) (many a b : Int), xs = [.obj i, .int many] ∧ st[i]? = some (box a b) ∧ BoxOk a b ∧ 0 < many ∧ many < 1099511627776 ∧ ∀ d a b, 0 ≤ d → d < many → BoxOk a b → Q (.int d) (st.set i (box a b))
theorem dec_s {a b : Str} : decide (V.str a = V.str b) = decide (a = b) := by
  rw [Bool.eq_iff_iff]; simp
inductive Tt where
  | was | mine | yours | num (k : Int) | op (s : Str) (a b : Tt) | ite (a b c : Tt)
def Tt.rank : Tt → Nat
  | .op _ a b => max a.rank b.rank + 1
  | .ite a b c => max a.rank (max b.rank c.rank) + 1
  | _ => 0
def Sg (s : Str) : Prop := s = "+" ∨ s = "-" ∨ s = "*" ∨ s = "<" ∨ s = "="
def opv (s : Str) (a b : Int) : Int := if s = "+" then (a + b) % 4294967296 else if s = "-" then (a - b) % 4294967296 else if s = "*" then a * b % 4294967296 else if s = "<" then (if a < b then 1 else 0) else (if a = b then 1 else 0)
theorem opv_in (s : Str) (a b : Int) : 0 ≤ opv s a b ∧ opv s a b < 4294967296 := by
  unfold opv
  split
  · omega
  split
  · omega
  split
  · omega
  split
  · split <;> omega
  · split <;> omega
def Tt.val (w m y : Int) : Tt → Int
  | .was => w | .mine => m | .yours => y | .num k => k
  | .op s a b => opv s (a.val w m y) (b.val w m y)
  | .ite a b c => if a.val w m y = 0 then c.val w m y else b.val w m y
def In (i : Int) : Prop := 0 ≤ i ∧ i < 4294967296
def Tt.ok : Tt → Prop
  | .num k => 0 ≤ k ∧ k < 4294967296
  | .op s a b => Sg s ∧ a.ok ∧ b.ok
  | .ite a b c => a.ok ∧ b.ok ∧ c.ok
  | _ => True
theorem val_in {w m y : Int} (hw : In w) (hm : In m) (hy : In y) : ∀ {t : Tt}, t.ok → In (t.val w m y)
  | .was, _ => hw
  | .mine, _ => hm
  | .yours, _ => hy
  | .num _, h => h
  | .op s a b, _ => opv_in s _ _
  | .ite a b c, h => by
    show In (if a.val w m y = 0 then c.val w m y else b.val w m y)
    split
    · exact val_in hw hm hy h.2.2
    · exact val_in hw hm hy h.2.1
def TtAt (K : PySem.W.Frag) (H : Hp) : Tt → Addr → Prop
  | .was, p => SqT K H p [.str "was"]
  | .mine, p => SqT K H p [.str "mine"]
  | .yours, p => SqT K H p [.str "yours"]
  | .num k, p => SqT K H p [.str "num", .int k]
  | .op s a b, p => ∃ q r, SqT K H p [.str "op", .str s, .ref q, .ref r] ∧ TtAt K H a q ∧ TtAt K H b r
  | .ite a b c, p => ∃ q r u, SqT K H p [.str "if", .ref q, .ref r, .ref u] ∧ TtAt K H a q ∧ TtAt K H b r ∧ TtAt K H c u
def Sqs (K : PySem.W.Frag) (H H' : Hp) : Prop := ∀ p xs, SqT K H p xs → SqT K H' p xs
theorem sqs_but {K : PySem.W.Frag} {m : Addr} {H H' : Hp} (s : But m H H') (h : ∀ o xs, H m ≠ some (.tup xs) ∧ H m ≠ some (.frz o (.tup xs))) : Sqs K H H' := fun p xs e => by
  rcases e with (e | ⟨o, e⟩) | e
  · exact .inl (.inl (s p _ e fun z => (h default xs).1 (z ▸ e)))
  · exact .inl (.inr ⟨o, s p _ e fun z => (h o xs).2 (z ▸ e)⟩)
  · exact .inr e
theorem sqs_same {K : PySem.W.Frag} {H H' : Hp} (s : Same H H') : Sqs K H H' := fun p xs e => by
  rcases e with (e | ⟨o, e⟩) | e
  · exact .inl (.inl (s p _ e))
  · exact .inl (.inr ⟨o, s p _ e⟩)
  · exact .inr e
theorem TtAt.mono {K : PySem.W.Frag} {H H' : Hp} (s : Sqs K H H') : ∀ {t : Tt} {p : Addr}, TtAt K H t p → TtAt K H' t p
  | .was, _, h => s _ _ h
  | .mine, _, h => s _ _ h
  | .yours, _, h => s _ _ h
  | .num _, _, h => s _ _ h
  | .op _ _ _, _, ⟨q, r, e, h1, h2⟩ => ⟨q, r, s _ _ e, h1.mono s, h2.mono s⟩
  | .ite _ _ _, _, ⟨q, r, u, e, h1, h2, h3⟩ => ⟨q, r, u, s _ _ e, h1.mono s, h2.mono s, h3.mono s⟩
def Tt.pv : Tt → PV
  | .was => .tup [.str "was"] | .mine => .tup [.str "mine"] | .yours => .tup [.str "yours"] | .num k => .tup [.str "num", .int k]
  | .op s a b => .tup [.str "op", .str s, a.pv, b.pv] | .ite a b c => .tup [.str "if", a.pv, b.pv, c.pv]
theorem tup_of {K : PySem.W.Frag} {A : List Addr} {H : Hp} {xs : List PV} {v : V} (h : RV K A H (.tup xs) v) : ∃ p vs, v = .ref p ∧ SqT K H p vs ∧ RVs K A H xs vs := by
  cases h with | tup t z r => exact ⟨_, _, rfl, t.sq, r⟩
theorem rvs_c {K : PySem.W.Frag} {A : List Addr} {H : Hp} {x : PV} {xs : List PV} {vs : List V} (h : RVs K A H (x :: xs) vs) : ∃ v us, vs = v :: us ∧ RV K A H x v ∧ RVs K A H xs us := by
  cases h with | cons r t => exact ⟨_, _, rfl, r, t⟩
theorem rvs_n {K : PySem.W.Frag} {A : List Addr} {H : Hp} {vs : List V} (h : RVs K A H [] vs) : vs = [] := by cases h; rfl
theorem rv_s {K : PySem.W.Frag} {A : List Addr} {H : Hp} {x : Str} {v : V} (h : RV K A H (.str x) v) : v = .str x := by cases h; rfl
theorem rv_i {K : PySem.W.Frag} {A : List Addr} {H : Hp} {x : Int} {v : V} (h : RV K A H (.int x) v) : v = .int x := by cases h; rfl
theorem tt_of {K : PySem.W.Frag} {A : List Addr} {H : Hp} {t : Tt} : ∀ {v : V}, RV K A H t.pv v → ∃ p, v = .ref p ∧ TtAt K H t p := by
  have one : ∀ {x : Str} {v : V}, RV K A H (.tup [.str x]) v → ∃ p, v = .ref p ∧ SqT K H p [.str x] := fun h => by
    obtain ⟨p, vs, rfl, hs, q0⟩ := tup_of h
    obtain ⟨_, _, rfl, r0, q1⟩ := rvs_c q0
    cases rv_s r0; cases rvs_n q1
    exact ⟨p, rfl, hs⟩
  induction t with
  | was => exact fun h => one h
  | mine => exact fun h => one h
  | yours => exact fun h => one h
  | num k =>
    intro v h
    obtain ⟨p, vs, rfl, hs, q0⟩ := tup_of h
    obtain ⟨_, _, rfl, r0, q1⟩ := rvs_c q0
    obtain ⟨_, _, rfl, r1, q2⟩ := rvs_c q1
    cases rv_s r0; cases rv_i r1; cases rvs_n q2
    exact ⟨p, rfl, hs⟩
  | op s a b iha ihb =>
    intro v h
    obtain ⟨p, vs, rfl, hs, q0⟩ := tup_of h
    obtain ⟨_, _, rfl, r0, q1⟩ := rvs_c q0
    obtain ⟨_, _, rfl, r1, q2⟩ := rvs_c q1
    obtain ⟨_, _, rfl, r2, q3⟩ := rvs_c q2
    obtain ⟨_, _, rfl, r3, q4⟩ := rvs_c q3
    cases rv_s r0; cases rv_s r1; cases rvs_n q4
    obtain ⟨p1, rfl, h1⟩ := iha r2
    obtain ⟨q, rfl, h2⟩ := ihb r3
    exact ⟨_, rfl, p1, q, hs, h1, h2⟩
  | ite a b c iha ihb ihc =>
    intro v h
    obtain ⟨p, vs, rfl, hs, q0⟩ := tup_of h
    obtain ⟨_, _, rfl, r0, q1⟩ := rvs_c q0
    obtain ⟨_, _, rfl, r1, q2⟩ := rvs_c q1
    obtain ⟨_, _, rfl, r2, q3⟩ := rvs_c q2
    obtain ⟨_, _, rfl, r3, q4⟩ := rvs_c q3
    cases rv_s r0; cases rvs_n q4
    obtain ⟨p1, rfl, h1⟩ := iha r1
    obtain ⟨q, rfl, h2⟩ := ihb r2
    obtain ⟨r', rfl, h3⟩ := ihc r3
    exact ⟨_, rfl, p1, q, r', hs, h1, h2, h3⟩
theorem re_tt {K : PySem.W.Frag} {A : List Addr} {H : Hp} {t : Tt} {v : V} (e : RE K A H t.pv v) : RV K A H t.pv v := by
  cases t <;> (unfold Tt.pv at e ⊢; cases e with | val e => exact e)
def lamA : Arguments := match defBody svalue_of_three with | [_, .Return (some (.Call _ [_, .Lambda a _ _ _] _ _)) _] => a | _ => defArgs svalue_of_three
def lamB : Expr := match defBody svalue_of_three with | [_, .Return (some (.Call _ [_, .Lambda _ b _ _] _ _)) _] => b | _ => .Constant .none 0 ⟨0, 0, 0, 0⟩
def lamS : Scope := match defBody svalue_of_three with | [_, .Return (some (.Call _ [_, .Lambda _ _ s _] _ _)) _] => s | _ => defScope svalue_of_three
def lamP : Pos := match defBody svalue_of_three with | [_, .Return (some (.Call _ [_, .Lambda _ _ _ p] _ _)) _] => p | _ => ⟨0, 0, 0, 0⟩
def lamQ : Str := ("value_of_three" ++ ".<locals>.") ++ "<lambda>"
abbrev lamO (c c' : Addr) (pm ctv : Value) : Obj := PySem.W.kla_obj "<lambda>" lamQ lamA lamB lamS [("three", c)] pm c' ctv
def kv3 (w m y : Int) : List (Key × V) := [(.inr "was", .int w), (.inr "mine", .int m), (.inr "yours", .int y)]
structure LamAt (H : Hp) (f c c' dd : Addr) (oz : Obj) (pm ctv : Value) (w m y : Int) : Prop where
  fn : H f = some (.ext (FnAt f (lamO c c' pm ctv)))
  cd : H c' = some (.ext (CdAt c' lamQ))
  cl : H c = some (.ext (FnAt c oz))
  dt : H dd = some (.dK (kv3 w m y))
theorem LamAt.same {H H' : Hp} {f c c' dd : Addr} {oz : Obj} {pm ctv : Value} {w m y : Int} (h : LamAt H f c c' dd oz pm ctv w m y) (s : Same H H') : LamAt H' f c c' dd oz pm ctv w m y := ⟨s _ _ h.fn, s _ _ h.cd, s _ _ h.cl, s _ _ h.dt⟩
def LamIn (H : Hp) (f : Addr) (w m y : Int) : Prop := ∃ c c' dd oz pm ctv, LamAt H f c c' dd oz pm ctv w m y ∧ oz.data = .cell (some (.ref dd))
theorem LamIn.same {H H' : Hp} {f : Addr} {w m y : Int} (h : LamIn H f w m y) (s : Same H H') : LamIn H' f w m y := by
  obtain ⟨c, c', dd, oz, pm, ctv, h, e⟩ := h
  exact ⟨c, c', dd, oz, pm, ctv, h.same s, e⟩
def Lf3 (t : Tt) : Prop := t = .was ∨ t = .mine ∨ t = .yours
def spLm2 (f c c' dd : Addr) (oz : Obj) (pm ctv : Value) (w m y : Int) (K : PySem.W.Frag) : Sp := fun vs H Q _ => ∃ p t, vs = [.ref p] ∧ TtAt K H t p ∧ Lf3 t ∧ LamAt H f c c' dd oz pm ctv w m y ∧ Q (.int (t.val w m y)) H
def spOp2 : Sp := fun vs H Q _ => ∃ (s : Str) (a b : Int), vs = [.str s, .int a, .int b] ∧ In a ∧ In b ∧ Q (.int (opv s a b)) H
def spVB2 (K : PySem.W.Frag) (d : Nat) : Sp := fun vs H Q _ => ∃ p f t w m y, vs = [.ref p, .ref f] ∧ TtAt K H t p ∧ t.ok ∧ t.rank < d ∧ LamIn H f w m y ∧ In w ∧ In m ∧ In y ∧ ∀ H', Same H H' → Q (.int (t.val w m y)) H'
abbrev Tb (T : Addr) (H : Hp) : Prop := TbOk T lamP lamQ H
theorem Tb.keep {T : Addr} {H H' : Hp} (h : Tb T H) (k : ∀ b ps, H b = some (.tbl ps) → H' b = some (.tbl ps)) (k2 : ∀ b φ, H b = some (.ext φ) → H' b = some (.ext φ)) : Tb T H' := by
  obtain ⟨ps, e, z | ⟨c', z, e2⟩⟩ := h
  · exact ⟨ps, k _ _ e, .inl z⟩
  · exact ⟨ps, k _ _ e, .inr ⟨c', z, k2 _ _ e2⟩⟩
theorem Tb.same {T : Addr} {H H' : Hp} (h : Tb T H) (s : Same H H') : Tb T H' := h.keep (fun b ps e => s _ _ e) fun b φ e => s _ _ e
def spV32 (K : PySem.W.Frag) (T : Addr) : Sp := fun vs H Q _ => ∃ p t w m y, vs = [.ref p, .int w, .int m, .int y] ∧ TtAt K H t p ∧ t.ok ∧ t.rank < 7 ∧ Tb T H ∧ In w ∧ In m ∧ In y ∧ ∀ H', But T H H' → Tb T H' → Q (.int (t.val w m y)) H'
section
variable {P : Program} {w : World} {K : PySem.W.Frag} {mg : Str → Option Value} {base : Heap}
theorem back_less {H : Hp} {c : Addr} : back (less H c) H c = H := by
  funext b
  by_cases e : b = c
  · rw [e, back_eq]
  · rw [back_ne e, less_ne e]
theorem lam_ok {f c c' dd : Addr} {oz : Obj} {pm ctv : Value} {w' m y : Int} (oz2 : oz.data = .cell (some (.ref dd))) :
    FnOk P w K mg base CX0 2 f (PySem.W.kla_fn "<lambda>" lamQ lamA lamB lamS [("three", c)] pm (.ref c') ctv) ["leaf"] (spLm2 f c c' dd oz pm ctv w' m y K) := by
  refine lam_of (d := dd) (x := "leaf") (y := "three") (oz := oz) (scope := lamS) oz2 rfl rfl rfl (by decide +kernel) rfl rfl (fun z hz => ?_) (by decide +kernel) (fun vs H Q E h => ?_) (fun A outer s H v Q E hr h => ?_)
  · by_cases e : z = "three"
    · exact e
    · exfalso
      by_cases e2 : z = "leaf"
      · subst e2; exact absurd hz (by decide +kernel)
      · have h1 : (z == ("leaf" : Str)) = false := by simpa using e2
        have h2 : (z == ("three" : Str)) = false := by simpa using e
        have hz' : ([("leaf", NameKind.local), ("three", NameKind.free)] : List (Str × NameKind)).lookup z = some .free := hz
        simp [List.lookup_cons, h1, h2] at hz'
  · obtain ⟨p, t, rfl, hT, hl, hA, q⟩ := h
    exact ⟨rfl, hA.fn, hA.cd, hA.cl⟩
  · obtain ⟨p, t, e, hT, hl, hA, q⟩ := h
    cases e
    refine ⟨_, pe_dget (hu_of hr) (pv 1) (pe_ix ix_tup (pv 0) pe_int (fun _ _ => rfl)) (fun _ _ => rfl), ?_⟩
    have ndc : dd ≠ c := fun z => by have h1 := hA.dt; rw [z, hA.cl] at h1; cases h1
    have hd : less H c dd = some (.dK (kv3 w' m y)) := by rw [less_ne ndc]; exact hA.dt
    have lt : ∀ {b : Addr} {xs : List V}, SqT K H b xs → SqT K (less H c) b xs := fun {b xs} e => by
      rcases e with (e | ⟨o, e⟩) | e
      · exact .inl (.inl (by rw [less_ne (fun z => by rw [z, hA.cl] at e; cases e)]; exact e))
      · exact .inl (.inr ⟨o, by rw [less_ne (fun z => by rw [z, hA.cl] at e; cases e)]; exact e⟩)
      · exact .inr e
    rcases hl with rfl | rfl | rfl
    · refine ⟨_, rfl, _, rfl, p, _, 0, _, rfl, rfl, (lt hT), at0, dd, _, rfl, DGet.k (k := .inr "was") hd, ?_⟩
      show Q _ (back (less H c) H c)
      rw [back_less]; exact q
    · refine ⟨_, rfl, _, rfl, p, _, 0, _, rfl, rfl, (lt hT), at0, dd, _, rfl, DGet.k (k := .inr "mine") hd, ?_⟩
      show Q _ (back (less H c) H c)
      rw [back_less]; exact q
    · refine ⟨_, rfl, _, rfl, p, _, 0, _, rfl, rfl, (lt hT), at0, dd, _, rfl, DGet.k (k := .inr "yours") hd, ?_⟩
      show Q _ (back (less H c) H c)
      rw [back_less]; exact q
theorem lam_binds {c c' : Addr} {pm ctv : Value} : Binds K (PySem.W.kla_fn "<lambda>" lamQ lamA lamB lamS [("three", c)] pm (.ref c') ctv) ["leaf"] [] := .all fun us hl => match us, hl with | [_], _ => rfl
theorem ok_value_of_op {f : Addr} {fd : FuncData} (M : Mo K mg) (F : Fun K "value_of_op" "value_of_op" svalue_of_op f fd) : FnOk P w K mg base CX0 1 f fd ["sign", "one", "other"] spOp2 := by
  obtain ⟨tw, hwide⟩ := M.WIDE
  refine F.ok scvalue_of_op (fun vs H Q E h => ?_) (fun cdv A outer s H vs Q E hr h => ?_)
  · obtain ⟨sg, a, b, rfl, _⟩ := h
    rfl
  · obtain ⟨sg, a, b, rfl, ha, hb, k⟩ := h
    refine ⟨_, (pss_cons (ps_if (pt_cmpR op_eq (pv 0) pe_str (nomark _)) (pss_one (ps_ret (pe_op op_mod (pe_op op_add (pv 1) (pv 2)) (pe_glob (v := .int 4294967296) (by rfl) hwide ⟨_, rfl⟩)))) pss_nil)
      (pss_cons (ps_if (pt_cmpR op_eq (pv 0) pe_str (nomark _)) (pss_one (ps_ret (pe_op op_mod (pe_op op_sub (pv 1) (pv 2)) (pe_glob (v := .int 4294967296) (by rfl) hwide ⟨_, rfl⟩)))) pss_nil)
      (pss_cons (ps_if (pt_cmpR op_eq (pv 0) pe_str (nomark _)) (pss_one (ps_ret (pe_op op_mod (pe_op op_mul (pv 1) (pv 2)) (pe_glob (v := .int 4294967296) (by rfl) hwide ⟨_, rfl⟩)))) pss_nil)
      (pss_cons (ps_if (pt_cmpR op_eq (pv 0) pe_str (nomark _)) (pss_one (ps_ret (pe_ifExp (pt_cmpR op_lt (pv 1) (pv 2) (nomark _)) pe_int pe_int))) pss_nil)
      (pss_one (ps_ret (pe_ifExp (pt_cmpR op_eq (pv 1) (pv 2) (nomark _)) pe_int pe_int))))))), ?_⟩
    have w1 : (0 : Int) < 4294967296 := by decide
    refine ⟨_, rfl, rfl, _, rfl, ?_⟩
    rw [dec_s]
    refine ite2 (fun h => ?_) (fun h1 => ?_)
    · have h := of_decide_eq_true h
      refine ⟨_, rfl, _, rfl, _, _, rfl, rfl, _, _, rfl, rfl, w1, ?_⟩
      unfold opv at k; rw [if_pos h] at k; exact k
    have h1 : ¬ _ := fun z => h1 (decide_eq_true z)
    refine ⟨_, rfl, rfl, _, rfl, ?_⟩
    rw [dec_s]
    refine ite2 (fun h => ?_) (fun h2 => ?_)
    · have h := of_decide_eq_true h
      refine ⟨_, rfl, _, rfl, _, _, rfl, rfl, _, _, rfl, rfl, w1, ?_⟩
      unfold opv at k; rw [if_neg h1, if_pos h] at k; exact k
    have h2 : ¬ _ := fun z => h2 (decide_eq_true z)
    refine ⟨_, rfl, rfl, _, rfl, ?_⟩
    rw [dec_s]
    refine ite2 (fun h => ?_) (fun h3 => ?_)
    · have h := of_decide_eq_true h
      refine ⟨_, rfl, _, rfl, _, _, rfl, rfl, .inl ⟨by have := ha.1; omega, by have := ha.2; omega⟩, _, _, rfl, rfl, w1, ?_⟩
      unfold opv at k; rw [if_neg h1, if_neg h2, if_pos h] at k; exact k
    have h3 : ¬ _ := fun z => h3 (decide_eq_true z)
    refine ⟨_, rfl, rfl, _, rfl, ?_⟩
    rw [dec_s]
    refine ite2 (fun h => ?_) (fun h4 => ?_)
    · have h := of_decide_eq_true h
      refine ⟨_, rfl, _, rfl, _, _, rfl, rfl, _, rfl, ?_⟩
      unfold opv at k; rw [if_neg h1, if_neg h2, if_neg h3, if_pos h] at k
      refine ite2 (fun h5 => ?_) (fun h5 => ?_)
      · rw [if_pos (of_decide_eq_true h5)] at k; exact k
      · rw [if_neg (fun z => h5 (decide_eq_true z))] at k; exact k
    have h4 : ¬ _ := fun z => h4 (decide_eq_true z)
    refine ⟨_, rfl, _, rfl, rfl, _, rfl, ?_⟩
    unfold opv at k; rw [if_neg h1, if_neg h2, if_neg h3, if_neg h4] at k
    rw [dec_int]
    refine ite2 (fun h5 => ?_) (fun h5 => ?_)
    · rw [if_pos (eq_of_beq h5)] at k; exact k
    · rw [if_neg (fun z => h5 (by rw [z]; exact beq_self_eq_true _))] at k; exact k
theorem ok_value_by {f : Addr} {fd : FuncData} (M : Mo K mg) (F : Fun K "value_by" "value_by" svalue_by f fd) (bvalue_by : Binds K fd ["term", "asked"] []) (mvalue_by : mg "value_by" = some (.ref f)) : ∀ d, FnOk P w K mg base CX0 (d + 3) f fd ["term", "asked"] ((spVB2 K) d)
  | 0 => by
    refine F.ok scvalue_by (fun vs H Q E h => ?_) (fun cdv A outer s H vs Q E hr h => ?_)
    · obtain ⟨p, f', t, w', m, y, rfl, _⟩ := h
      rfl
    · obtain ⟨p, f', t, w', m, y, _, _, _, hd, _⟩ := h
      exact absurd hd (by omega)
  | d + 1 => by
    have IH : FnOk P w K mg base CX0 (d + 3) f fd ["term", "asked"] ((spVB2 K) d) := ok_value_by M F bvalue_by mvalue_by d
    obtain ⟨fvalue_of_op, fdvalue_of_op, Fvalue_of_op, bvalue_of_op, mvalue_of_op⟩ := M.value_of_op
    have Gvalue_of_op : FnOk P w K mg base CX0 1 fvalue_of_op fdvalue_of_op ["sign", "one", "other"] spOp2 := ok_value_of_op M Fvalue_of_op
    have Fvalue_by := F
    refine F.ok scvalue_by (fun vs H Q E h => ?_) (fun cdv A outer s H vs Q E hr h => ?_)
    · obtain ⟨p, f', t, w', m, y, rfl, _⟩ := h
      rfl
    · obtain ⟨p, f', t, w', m, y, rfl, hT, hok, hd, hL, hw, hm, hy, k⟩ := h
      have hr1 : Room 1 _ := hr.mono (by omega)
      have hrV : Room 2 _ := hr.mono (by omega)
      refine ⟨_, (pss_cons (ps_if (pt_cmpR op_eq (pe_ix ix_tup (pv 0) pe_int (fun _ _ => rfl)) pe_str (nomark _)) (pss_one (ps_ret (pe_ix ix_tup (pv 0) pe_int (fun _ _ => rfl)))) pss_nil)
      (pss_cons (ps_if (pt_cmpR op_eq (pe_ix ix_tup (pv 0) pe_int (fun _ _ => rfl)) pe_str (nomark _)) (pss_one (ps_ret (pe_call Gvalue_of_op hr1 (by rfl) mvalue_of_op Fvalue_of_op.kp bvalue_of_op .nil pass0 (pa_cons (pe_ix ix_tup (pv 0) pe_int (fun _ _ => rfl)) (pa_cons (pe_call IH hr (by rfl) mvalue_by Fvalue_by.kp bvalue_by .nil pass0 (pa_cons (pe_ix ix_tup (pv 0) pe_int (fun _ _ => rfl)) (pa_cons (pv 1) pa_nil))) (pa_cons (pe_call IH hr (by rfl) mvalue_by Fvalue_by.kp bvalue_by .nil pass0 (pa_cons (pe_ix ix_tup (pv 0) pe_int (fun _ _ => rfl)) (pa_cons (pv 1) pa_nil))) pa_nil)))))) pss_nil)
      (pss_cons (ps_if (pt_cmpR op_eq (pe_ix ix_tup (pv 0) pe_int (fun _ _ => rfl)) pe_str (nomark _)) (pss_cons (ps_set (i := 2) scvalue_by.nd rfl (Or.inl rfl) (pe_call IH hr (by rfl) mvalue_by Fvalue_by.kp bvalue_by .nil pass0 (pa_cons (pe_ix ix_tup (pv 0) pe_int (fun _ _ => rfl)) (pa_cons (pv 1) pa_nil))))
      (pss_one (ps_ret (pe_call IH hr (by rfl) mvalue_by Fvalue_by.kp bvalue_by .nil pass0 (pa_cons (pe_ifExp (pt_cmpR op_ne (pv 2) pe_int (nomark _)) (pe_ix ix_tup (pv 0) pe_int (fun _ _ => rfl)) (pe_ix ix_tup (pv 0) pe_int (fun _ _ => rfl))) (pa_cons (pv 1) pa_nil)))))) pss_nil)
      (pss_one (ps_ret (pe_callV (i := 1) (ps := ["leaf"]) hrV rfl (Or.inl rfl) pass0 (pa_cons (pv 0) pa_nil))))))), ?_⟩
      cases t with
      | was =>
        refine ⟨_, rfl, p, _, 0, _, rfl, rfl, hT, at0, rfl, _, rfl, ?_⟩
        rw [dec_s]
        refine ite2 (fun h => absurd (of_decide_eq_true h) (by decide +kernel)) (fun _ => ?_)
        refine ⟨_, rfl, p, _, 0, _, rfl, rfl, hT, at0, rfl, _, rfl, ?_⟩
        rw [dec_s]
        refine ite2 (fun h => absurd (of_decide_eq_true h) (by decide +kernel)) (fun _ => ?_)
        refine ⟨_, rfl, p, _, 0, _, rfl, rfl, hT, at0, rfl, _, rfl, ?_⟩
        rw [dec_s]
        refine ite2 (fun h => absurd (of_decide_eq_true h) (by decide +kernel)) (fun _ => ?_)
        obtain ⟨c, c', dd, oz, pm, ctv, hA, oz2⟩ := hL
        exact ⟨f', lamO c c' pm ctv, _, rfl, rfl, _, rfl, spLm2 f' c c' dd oz pm ctv w' m y K, hA.fn, lam_ok oz2, lam_binds, p, .was, rfl, hT, (by simp [Lf3]), hA, k H (Same.refl H)⟩
      | mine =>
        refine ⟨_, rfl, p, _, 0, _, rfl, rfl, hT, at0, rfl, _, rfl, ?_⟩
        rw [dec_s]
        refine ite2 (fun h => absurd (of_decide_eq_true h) (by decide +kernel)) (fun _ => ?_)
        refine ⟨_, rfl, p, _, 0, _, rfl, rfl, hT, at0, rfl, _, rfl, ?_⟩
        rw [dec_s]
        refine ite2 (fun h => absurd (of_decide_eq_true h) (by decide +kernel)) (fun _ => ?_)
        refine ⟨_, rfl, p, _, 0, _, rfl, rfl, hT, at0, rfl, _, rfl, ?_⟩
        rw [dec_s]
        refine ite2 (fun h => absurd (of_decide_eq_true h) (by decide +kernel)) (fun _ => ?_)
        obtain ⟨c, c', dd, oz, pm, ctv, hA, oz2⟩ := hL
        exact ⟨f', lamO c c' pm ctv, _, rfl, rfl, _, rfl, spLm2 f' c c' dd oz pm ctv w' m y K, hA.fn, lam_ok oz2, lam_binds, p, .mine, rfl, hT, (by simp [Lf3]), hA, k H (Same.refl H)⟩
      | yours =>
        refine ⟨_, rfl, p, _, 0, _, rfl, rfl, hT, at0, rfl, _, rfl, ?_⟩
        rw [dec_s]
        refine ite2 (fun h => absurd (of_decide_eq_true h) (by decide +kernel)) (fun _ => ?_)
        refine ⟨_, rfl, p, _, 0, _, rfl, rfl, hT, at0, rfl, _, rfl, ?_⟩
        rw [dec_s]
        refine ite2 (fun h => absurd (of_decide_eq_true h) (by decide +kernel)) (fun _ => ?_)
        refine ⟨_, rfl, p, _, 0, _, rfl, rfl, hT, at0, rfl, _, rfl, ?_⟩
        rw [dec_s]
        refine ite2 (fun h => absurd (of_decide_eq_true h) (by decide +kernel)) (fun _ => ?_)
        obtain ⟨c, c', dd, oz, pm, ctv, hA, oz2⟩ := hL
        exact ⟨f', lamO c c' pm ctv, _, rfl, rfl, _, rfl, spLm2 f' c c' dd oz pm ctv w' m y K, hA.fn, lam_ok oz2, lam_binds, p, .yours, rfl, hT, (by simp [Lf3]), hA, k H (Same.refl H)⟩
      | num n =>
        refine ⟨_, rfl, p, _, 0, _, rfl, rfl, hT, at0, rfl, _, rfl, ?_⟩
        rw [dec_s]
        refine ite2 (fun _ => ?_) (fun h => absurd (decide_eq_true rfl) h)
        exact ⟨_, rfl, p, _, 1, _, rfl, rfl, hT, at1, k H (Same.refl H)⟩
      | op sg x1 x2 =>
        obtain ⟨q, r, e, h1, h2⟩ := id hT
        obtain ⟨hs, o1, o2⟩ := hok
        have rk : max x1.rank x2.rank + 1 < d + 1 := hd
        refine ⟨_, rfl, p, _, 0, _, rfl, rfl, e, at0, rfl, _, rfl, ?_⟩
        rw [dec_s]
        refine ite2 (fun h => absurd (of_decide_eq_true h) (by decide +kernel)) (fun _ => ?_)
        refine ⟨_, rfl, p, _, 0, _, rfl, rfl, e, at0, rfl, _, rfl, ?_⟩
        rw [dec_s]
        refine ite2 (fun _ => ?_) (fun h => absurd (decide_eq_true rfl) h)
        refine ⟨_, rfl, p, _, 1, _, rfl, rfl, e, at1, ?_⟩
        refine ⟨_, rfl, p, _, 2, _, rfl, rfl, e, atI_nat (j := 2) rfl, _, rfl, q, f', x1, w', m, y, rfl, h1, o1, by omega, hL, hw, hm, hy, fun H1 s1 => ?_⟩
        refine ⟨_, rfl, p, _, 3, _, rfl, rfl, (sqs_same s1 _ _ e), atI_nat (j := 3) rfl, _, rfl, r, f', x2, w', m, y, rfl, h2.mono (sqs_same s1), o2, by omega, hL.same s1, hw, hm, hy, fun H2 s2 => ?_⟩
        exact ⟨sg, _, _, rfl, val_in hw hm hy o1, val_in hw hm hy o2, k H2 (s1.trans s2)⟩
      | ite x1 x2 x3 =>
        obtain ⟨q, r, u, e, h1, h2, h3⟩ := id hT
        obtain ⟨o1, o2, o3⟩ := hok
        have rk : max x1.rank (max x2.rank x3.rank) + 1 < d + 1 := hd
        refine ⟨_, rfl, p, _, 0, _, rfl, rfl, e, at0, rfl, _, rfl, ?_⟩
        rw [dec_s]
        refine ite2 (fun h => absurd (of_decide_eq_true h) (by decide +kernel)) (fun _ => ?_)
        refine ⟨_, rfl, p, _, 0, _, rfl, rfl, e, at0, rfl, _, rfl, ?_⟩
        rw [dec_s]
        refine ite2 (fun h => absurd (of_decide_eq_true h) (by decide +kernel)) (fun _ => ?_)
        refine ⟨_, rfl, p, _, 0, _, rfl, rfl, e, at0, rfl, _, rfl, ?_⟩
        rw [dec_s]
        refine ite2 (fun _ => ?_) (fun h => absurd (decide_eq_true rfl) h)
        refine ⟨_, rfl, p, _, 1, _, rfl, rfl, e, at1, _, rfl, q, f', x1, w', m, y, rfl, h1, o1, by omega, hL, hw, hm, hy, fun H1 s1 => ?_⟩
        refine ⟨_, rfl, rfl, _, rfl, ?_⟩
        rw [dec_int]
        have kk : ∀ H', Same H H' → Q (.int (if x1.val w' m y = 0 then x3.val w' m y else x2.val w' m y)) H' := k
        by_cases hz : x1.val w' m y = 0
        · rw [show (x1.val w' m y == 0) = true by rw [hz]; rfl]
          refine iteF ⟨_, rfl, p, _, 3, _, rfl, rfl, (sqs_same s1 _ _ e), atI_nat (j := 3) rfl, _, rfl, u, f', x3, w', m, y, rfl, h3.mono (sqs_same s1), o3, by omega, hL.same s1, hw, hm, hy, fun H2 s2 => ?_⟩
          have := kk H2 (s1.trans s2); rw [if_pos hz] at this; exact this
        · rw [show (x1.val w' m y == 0) = false by simpa using hz]
          refine iteT ⟨_, rfl, p, _, 2, _, rfl, rfl, (sqs_same s1 _ _ e), atI_nat (j := 2) rfl, _, rfl, r, f', x2, w', m, y, rfl, h2.mono (sqs_same s1), o2, by omega, hL.same s1, hw, hm, hy, fun H2 s2 => ?_⟩
          have := kk H2 (s1.trans s2); rw [if_neg hz] at this; exact this
theorem lam_closure {env : Env} {c : Addr} (h : env.cells.lookup ("three" : Str) = some c) : closureFor lamS env = pure [(("three" : Str), c)] := by
  have e : clOf lamS.names env.cells = [(("three" : Str), (env.cells.lookup ("three" : Str)).getD 0)] := rfl
  rw [closure_of (fun p hp hf => ?_), e, h]
  · rfl
  · have hp' : p ∈ ([("leaf", NameKind.local), ("three", NameKind.free)] : List (Str × NameKind)) := hp
    rcases List.mem_cons.mp hp' with z | z
    · rw [z] at hf; cases hf
    · rw [List.mem_singleton.mp z]; exact ⟨c, h⟩
theorem ok_V32 {T c0 f : Addr} {fd : FuncData} (M : Mo K mg) (F : FunC K "value_of_three" "value_of_three" svalue_of_three f fd c0) (hC : PySem.W.codeHdIn K c0 T = true) (hB : base.BuiltinsAt mg T) : FnOk P w K mg base CX0 11 f fd ["term", "was", "mine", "yours"] (spV32 K T) := by
  obtain ⟨fVB, fdVB, FVB, bVB, mVB⟩ := M.value_by
  have GVB : FnOk P w K mg base CX0 10 fVB fdVB ["term", "asked"] (spVB2 K 7) := ok_value_by M FVB bVB mVB 7
  refine FunC.ok F scvalue_of_three (fun vs H Q E h => ?_) (fun A outer s H vs Q E hr h => ?_)
  · obtain ⟨p, t, w', m, y, rfl, _⟩ := h
    rfl
  · obtain ⟨p, t, w', m, y, rfl, hT, hok, hrk, hTb, hw, hm, hy, k⟩ := h
    obtain ⟨c, hc⟩ : ∃ c, (cxOf CX0 P w K mg base ["term", "was", "mine", "yours", "three"] "value_of_three" (defScope svalue_of_three) f (.ref c0) A outer s H E).nox.env.cells.lookup ("three" : Str) = some c := ⟨_, rfl⟩
    refine ⟨_, pss_cons (ps_set (i := 4) scvalue_of_three.nd rfl (Or.inr rfl) (pe_disp (pps_cons pe_str (pv 1) (pps_cons pe_str (pv 2) (pps_cons pe_str (pv 3) pps_nil))) rfl rfl (by simp) (by decide)))
      (pss_one (ps_ret (pe_callC (i := 4) (y := "three") GVB hr (by rfl) mVB FVB.kp bVB rfl rfl hc rfl (pa_cons (pv 0) (pa_cons (pe_lam rfl (lam_closure hc) rfl hC hB (fun _ => codeAmong_snoc [] trivial rfl) (fun _ => trivial)) pa_nil))))), ?_⟩
    intro dd hdd
    have v1 := upd_sameNew (o := .dK []) hdd
    refine ⟨_, rfl, _, rfl, _, rfl, upd_same, kv3 w' m y, rfl, (by simp [kv3]), ?_⟩
    have em : mergeK [] (kv3 w' m y) = kv3 w' m y := by
      first | rfl | (simp [mergeK, kv3, putK]; decide +kernel) | (simp [mergeK, kv3, putK]; constructor <;> decide +kernel)
    rw [em]
    have s1 : Same H (upd (upd H dd (.dK [])) dd (.dK (kv3 w' m y))) := fun b o e => by rw [upd_ne (ne_of_none e hdd), upd_ne (ne_of_none e hdd)]; exact e
    have e1 : upd (upd H dd (.dK [])) dd (.dK (kv3 w' m y)) dd = some (.dK (kv3 w' m y)) := upd_same
    generalize upd (upd H dd (.dK [])) dd (.dK (kv3 w' m y)) = H1 at s1 e1 ⊢
    have hTb1 := hTb.same s1
    refine ⟨_, rfl, hTb1, fun f' c' pm ctv H2 hf bt tb hff hcc => ?_⟩
    refine ⟨dd, rfl, fun nc oz ho => ?_⟩
    have nT : ∀ o xs, H1 T ≠ some (.tup xs) ∧ H1 T ≠ some (.frz o (.tup xs)) := fun o xs => by
      obtain ⟨ps, e2, _⟩ := hTb1
      rw [e2]; exact ⟨(fun z => by cases z), (fun z => by cases z)⟩
    have nTd : dd ≠ T := fun z => by
      obtain ⟨ps, e2, _⟩ := hTb1
      rw [z, e2] at e1; cases e1
    have h2d := bt dd _ e1 nTd
    have vc := upd_sameNew (o := .ext (FnAt c oz)) nc
    refine ⟨p, f', t, w', m, y, rfl, hT.mono (fun q xs e => sqs_same vc _ _ (sqs_but bt nT q xs (sqs_same s1 _ _ e))), hok, hrk, ⟨c, c', dd, oz, pm, ctv, ⟨vc _ _ hff, vc _ _ hcc, upd_same, vc _ _ h2d⟩, ho⟩, hw, hm, hy, fun H3 s3 => ⟨s3 _ _ upd_same, k (less H3 c) (fun b o e n => ?_) ?_⟩⟩
    · have e2 := bt b o (s1 _ _ e) n
      rw [less_ne (ne_of_none e2 nc)]
      exact s3 _ _ (vc _ _ e2)
    · refine Tb.keep (show Tb T H2 from tb) (fun b ps e => ?_) fun b φ e => ?_
      · rw [less_ne (ne_of_none e nc)]; exact s3 _ _ (vc _ _ e)
      · rw [less_ne (ne_of_none e nc)]; exact s3 _ _ (vc _ _ e)
def spV3 (T : Addr) : Sp3 := fun xs st Q => ∃ (t : Tt) (w m y : Int) (i : Nat), xs = [t.pv, .int w, .int m, .int y] ∧ st[i]? = some (.tbl T lamP lamQ) ∧ t.ok ∧ t.rank < 7 ∧ In w ∧ In m ∧ In y ∧ Q (.int (t.val w m y)) st
theorem v3_in {T : Addr} {vs : List V} {H : Hp} {Q : VK} {E : XK} (h : sp2 K (spV3 T) vs H Q E) : spV32 K T vs H Q E := by
  obtain ⟨A, st, xs, Q3, rs, ex, ⟨t, w, m, y, i, rfl, hi, hok, hrk, hw, hm, hy, q⟩, k⟩ := h
  rcases ex with _ | ⟨e1, _ | ⟨e2, _ | ⟨e3, _ | ⟨e4, ex⟩⟩⟩⟩
  cases ex
  cases ints_of e2; cases ints_of e3; cases ints_of e4
  obtain ⟨p, rfl, hT⟩ := tt_of (re_tt e1)
  have hil : i < A.length := by rw [rs.len]; exact (List.getElem?_eq_some_iff.mp hi).1
  have hA : A[i]? = some A[i] := List.getElem?_eq_getElem hil
  obtain ⟨ea, ps, e, hps⟩ := rs.at_ i _ _ hA hi
  rw [ea] at hA e
  refine ⟨p, t, w, m, y, rfl, hT, hok, hrk, ⟨ps, e, hps.imp id fun ⟨c', a, b, _⟩ => ⟨c', a, b⟩⟩, hw, hm, hy, fun H' bt tb => ?_⟩
  have mT : T ∈ A := List.mem_of_getElem? hA
  have g : Grow A H A H' := by
    refine ⟨⟨[], by simp, by simp⟩, fun b o h n => bt b o h fun z => n (z ▸ mT), fun b hb => ?_⟩
    by_cases z : b = T
    · obtain ⟨ps', e', _⟩ := tb
      rw [z, e']; exact Option.some_ne_none _
    · cases ho : H b with
      | none => exact absurd ho hb
      | some o => rw [bt b o ho z]; exact Option.some_ne_none _
  refine k A H' st _ _ g ⟨rs.nd, rs.len, fun j a o h1 h2 => ?_⟩ (.val (.int _)) q
  by_cases z : a = T
  · subst z
    have hij : i = j := (List.getElem?_inj (List.getElem?_eq_some_iff.mp hA).1 rs.nd).mp (hA.trans h1.symm)
    subst hij
    rw [hi] at h2; cases h2
    obtain ⟨ps', e', h'⟩ := tb
    refine ⟨rfl, ps', e', h'.imp id fun ⟨c', a1, b1⟩ => ⟨c', a1, b1, fun mc => ?_⟩⟩
    obtain ⟨i', o', f1, f2, oa⟩ := rs.has mc
    have nc : c' ≠ a := fun z => by rw [z, e'] at b1; cases b1
    cases o' with
    | lst xs => obtain ⟨us, h, _⟩ := oa; rw [bt _ _ h nc] at b1; cases b1
    | dct xs => obtain ⟨us, h, _⟩ := oa; rw [bt _ _ h nc] at b1; cases b1
    | tbl T' p' q' => obtain ⟨_, us, h, _⟩ := oa; rw [bt _ _ h nc] at b1; cases b1
    | itb kvs => rw [bt _ _ (show _ = _ from oa) nc] at b1; cases b1
  · have oa := rs.at_ j a o h1 h2
    refine oa.move g ?_
    cases ho : H a with
    | none => exact absurd ho oa.some
    | some u => exact bt a u ho z
theorem ok_value_of_three {T c0 f : Addr} {fd : FuncData} (M : Mo K mg) (F : FunC K "value_of_three" "value_of_three" svalue_of_three f fd c0) (hC : PySem.W.codeHdIn K c0 T = true) (hB : base.BuiltinsAt mg T) : FnOk P w K mg base CX0 11 f fd ["term", "was", "mine", "yours"] (sp2 K (spV3 T)) :=
  (ok_V32 M F hC hB).imp fun vs H Q E h => v3_in h
end
theorem seq_step {t u : TS3} {D : Ends3} {env : Env3} {st : Sto} (h : t { D with nx := u D } env st) : vSeq t u D env st := h
theorem if_pure {tc : TT3} {t u : TS3} {D : Ends3} {env : Env3} {st : Sto} {b : Bool} (h : ∀ Q, tc env st Q = Q b st) (k : if b = true then t D env st else u D env st) : vIfS tc t u D env st := by
  show tc env st _
  rw [h]; exact k
def spTold (d : Nat) : Sp3 := fun xs st Q => ∃ (i : Nat) (room deep a b : Int), xs = [.obj i, .int room, .int deep] ∧ st[i]? = some (box a b) ∧ BoxOk a b ∧ 1 ≤ room ∧ room ≤ 15 ∧ 0 ≤ deep ∧ deep < d ∧ ∀ (t : Tt) a b, t.ok → (t.rank : Int) ≤ deep → BoxOk a b → Q t.pv (st.set i (box a b))
theorem spTold_zero {K : PySem.W.Frag} {vs : List V} {H : Hp} {Q : VK} {E : XK} (h : sp2 K (spTold 0) vs H Q E) : False := by
  obtain ⟨_, _, _, _, _, _, ⟨_, _, _, _, _, _, _, _, _, _, h0, h1, _⟩, _⟩ := h
  omega
theorem pv_noObj (t : Tt) : noObj t.pv = true := by
  induction t with
  | op s a b iha ihb => unfold Tt.pv; simp only [noObj_v, List.all_cons, List.all_nil, iha, ihb, Bool.and_true]
  | ite a b c iha ihb ihc => unfold Tt.pv; simp only [noObj_v, List.all_cons, List.all_nil, iha, ihb, ihc, Bool.and_true]
  | _ => unfold Tt.pv; simp only [noObj_v, List.all_cons, List.all_nil, Bool.and_true]
theorem sgn_at : ∀ d : Int, 0 ≤ d → d < 5 → ∃ c, atI (("+-*<=" : Str)).cps.toList d = some c ∧ Sg ⟨#[c]⟩ := fun d d0 d1 => by
  have : d = 0 ∨ d = 1 ∨ d = 2 ∨ d = 3 ∨ d = 4 := by omega
  rcases this with rfl | rfl | rfl | rfl | rfl
  · exact ⟨43, by decide +kernel, .inl (by decide +kernel)⟩
  · exact ⟨45, by decide +kernel, .inr (.inl (by decide +kernel))⟩
  · exact ⟨42, by decide +kernel, .inr (.inr (.inl (by decide +kernel)))⟩
  · exact ⟨60, by decide +kernel, .inr (.inr (.inr (.inl (by decide +kernel))))⟩
  · exact ⟨61, by decide +kernel, .inr (.inr (.inr (.inr (by decide +kernel))))⟩
def spWh : Sp3 := fun xs st Q => ∃ f : Int, xs = [.int f] ∧ Q (.bl true) st
def tups (n : Nat) : Nat → List (List Int)
  | 0 => [[]]
  | m + 1 => (tups n m).flatMap fun b => (List.range n).map fun (i : Nat) => b ++ [(i : Int)]
def tupP (k : List Int) : PV := .tup (k.map PV.int)
theorem tups_in {n : Nat} : ∀ {m : Nat} {k : List Int}, k ∈ tups n m → k.length = m ∧ ∀ i ∈ k, 0 ≤ i ∧ i < (n : Int)
  | 0, k, h => by
    cases List.mem_singleton.mp h
    exact ⟨rfl, fun i hi => nomatch hi⟩
  | m + 1, k, h => by
    obtain ⟨b, hb, h2⟩ := List.mem_flatMap.mp h
    obtain ⟨i, hi, rfl⟩ := List.mem_map.mp h2
    obtain ⟨e, hall⟩ := tups_in hb
    refine ⟨by simp [e], fun j hj => ?_⟩
    rcases List.mem_append.mp hj with hj | hj
    · exact hall j hj
    · cases List.mem_singleton.mp hj
      have := List.mem_range.mp hi
      omega
theorem tups_has {n : Nat} : ∀ {m : Nat} {k : List Int}, k.length = m → (∀ i ∈ k, 0 ≤ i ∧ i < (n : Int)) → k ∈ tups n m
  | 0, k, h, _ => by rw [List.length_eq_zero_iff.mp h]; exact List.mem_singleton.mpr rfl
  | m + 1, k, h, hall => by
    have hne : k ≠ [] := fun z => by rw [z] at h; cases h
    have e : k.dropLast ++ [k.getLast hne] = k := List.dropLast_concat_getLast hne
    refine List.mem_flatMap.mpr ⟨k.dropLast, tups_has (by rw [List.length_dropLast, h]; rfl) (fun i hi => hall i (List.dropLast_subset k hi)), List.mem_map.mpr ⟨(k.getLast hne).toNat, ?_, ?_⟩⟩
    · have := hall _ (List.getLast_mem hne)
      exact List.mem_range.mpr (by omega)
    · have := hall _ (List.getLast_mem hne)
      rw [show (((k.getLast hne).toNat : Nat) : Int) = k.getLast hne by omega]; exact e
theorem tups_len {n : Nat} : ∀ {m : Nat}, (tups n m).length = n ^ m
  | 0 => rfl
  | m + 1 => by
    unfold tups
    rw [List.length_flatMap, show (List.map (fun b : List Int => (List.map (fun (i : Nat) => b ++ [(i : Int)]) (List.range n)).length) (tups n m)) = (tups n m).map fun _ => n by simp, List.map_const', List.sum_replicate_nat, tups_len, Nat.pow_succ]
def spTB : Sp3 := fun xs st Q => ∃ (n m : Nat), xs = [.int n, .int m] ∧ n ≤ 5 ∧ m ≤ 5 ∧ Q (.lst ((tups n m).map tupP)) st
def RowAt (x : PV) (base s : Sto) (ys : List PV) : Prop := x = .lst ys ∨ ∃ j, x = .obj j ∧ base.length ≤ j ∧ s[j]? = some (.lst ys)
def ext1 (n : Nat) (b : List Int) : List (List Int) := (List.range n).map fun (i : Nat) => b ++ [(i : Int)]
def ext1P (b : List Int) : PV → Option PV := fun x => match x with | .int i => some (tupP (b ++ [i])) | _ => none
theorem ext1_all {n : Nat} {b : List Int} : (rngL 0 n).filterMap (ext1P b) = (ext1 n b).map tupP := by
  unfold rngL ext1
  rw [List.map_map, List.filterMap_map]
  induction (List.range n) with
  | nil => rfl
  | cons x l ih =>
    rw [List.map_cons, ← ih]
    have e : (ext1P b ∘ fun (i : Nat) => PV.int (0 + (i : Int))) x = some ((tupP ∘ fun (i : Nat) => b ++ [(i : Int)]) x) := by
      show ext1P b (.int (0 + (x : Int))) = _
      rw [Int.zero_add]; rfl
    rw [List.filterMap_cons, e]
theorem ext1_len {n : Nat} {b : List Int} : (ext1 n b).length = n := by unfold ext1; simp
theorem flat_len {n : Nat} : ∀ {l : List (List Int)}, (l.flatMap (ext1 n)).length = l.length * n
  | [] => by simp
  | x :: l => by rw [List.flatMap_cons, List.length_append, flat_len, ext1_len, List.length_cons, Nat.succ_mul]; omega
theorem pow_le {n k : Nat} (hn : n ≤ 5) (hk : k ≤ 5) : n ^ k ≤ 3125 := Nat.le_trans (Nat.pow_le_pow_left hn k) (Nat.le_trans (Nat.pow_le_pow_right (by decide) hk) (by decide))
theorem lookT_put {kvs : List (List Int × Int)} {k k' : List Int} {v : Int} : lookT (putT kvs k v) k' = if k' = k then some v else lookT kvs k' := by
  unfold putT
  split
  · rename_i h
    unfold lookT
    induction kvs with
    | nil => cases h
    | cons p kvs ih =>
      rw [List.map_cons, List.find?_cons, List.find?_cons]
      by_cases hp : p.1 = k
      · rw [if_pos hp]
        dsimp only
        rw [hp]
        by_cases hk : k = k'
        · subst hk
          rw [decide_eq_true rfl, if_pos rfl]; rfl
        · rw [decide_eq_false hk, if_neg fun z => hk z.symm]
          dsimp only
          by_cases ha : (kvs.any fun kv => decide (kv.1 = k)) = true
          · rw [ih ha, if_neg fun z => hk z.symm]
          · have e : kvs.map (fun kv => if kv.1 = k then (kv.1, v) else kv) = kvs := by
              rw [List.map_congr_left (g := id)]
              · exact List.map_id _
              · intro q hq
                rw [if_neg fun z => ha (List.any_eq_true.mpr ⟨q, hq, decide_eq_true z⟩)]; rfl
            rw [e]
      · rw [if_neg hp]
        have ha : (kvs.any fun kv => decide (kv.1 = k)) = true := by
          rw [List.any_cons, decide_eq_false hp, Bool.false_or] at h; exact h
        by_cases hk : p.1 = k'
        · rw [decide_eq_true hk, if_neg fun z => hp (hk.trans z)]
        · rw [decide_eq_false hk]
          exact ih ha
  · rename_i h
    unfold lookT
    rw [List.find?_append]
    by_cases hk : k' = k
    · subst hk
      have e : kvs.find? (fun kv => decide (kv.1 = k')) = none := List.find?_eq_none.mpr fun q hq hz => h (List.any_eq_true.mpr ⟨q, hq, hz⟩)
      rw [e, if_pos rfl, List.find?_cons, decide_eq_true rfl]; rfl
    · rw [if_neg hk, List.find?_cons, decide_eq_false fun z => hk z.symm]
      cases kvs.find? (fun kv => decide (kv.1 = k')) <;> rfl
def TotT (n : Nat) (F : Int → Int → Int → Int) (kvs : List (List Int × Int)) : Prop := ∀ w m y : Nat, w < n → m < n → y < n → lookT kvs [(w : Int), m, y] = some (F w m y)
def valT (n : Nat) (t : Tt) : Int → Int → Int → Int := fun w m y => t.val w m y % n
theorem in_nat {n w : Nat} (h : w < n) (h5 : n ≤ 5) : In (w : Int) := ⟨by omega, by omega⟩
def IsLeast (n m : Nat) (p : List Int → Bool) : Option (List Int) → Prop
  | none => ∀ k ∈ tups n m, p k = false
  | some k => k ∈ tups n m ∧ p k = true ∧ ∀ k' ∈ tups n m, HT.lexLt k' k = true → p k' = false
def pY (F : Int → Int → Int → Int) : List Int → Bool | [w, y] => F w w y != y | _ => false
def pM (F : Int → Int → Int → Int) : List Int → Bool | [w, m] => F w m w != m | _ => false
def pE (F : Int → Int → Int → Int) : List Int → Bool | [w, m, y] => F w m y != F w y m | _ => false
def pT (F : Int → Int → Int → Int) : List Int → Bool | [v, w, m, a, b] => F v (F w m a) b != F w (F v m b) a | _ => false
def Rule (n : Nat) (F : Int → Int → Int → Int) (rule : Str) (r : Option (List Int)) : Prop := (rule = "yours" → IsLeast n 2 (pY F) r) ∧ (rule = "mine" → IsLeast n 2 (pM F) r) ∧ (rule = "either" → IsLeast n 3 (pE F) r) ∧ (rule = "turns" → IsLeast n 5 (pT F) r)
def resP : Option (List Int) → PV | none => .non | some k => tupP k
def Ru (rule : Str) : Prop := rule = "yours" ∨ rule = "mine" ∨ rule = "either" ∨ rule = "turns"
def c2 (F : Int → Int → Int → Int) (rule : Str) (w m : Int) : Bool := (rule == "yours" && F w w m != m) || (rule == "mine" && F w m w != m)
def c3 (F : Int → Int → Int → Int) (rule : Str) (w m y : Int) : Bool := rule == "either" && F w m y != F w y m
theorem tup2 {n : Nat} {k : List Int} (h : k ∈ tups n 2) : ∃ a b : Nat, k = [(a : Int), b] ∧ a < n ∧ b < n := by
  obtain ⟨e, hall⟩ := tups_in h
  obtain ⟨x, y, rfl⟩ := len2 e
  have h1 := hall x (by simp)
  have h2 := hall y (by simp)
  exact ⟨x.toNat, y.toNat, by rw [show ((x.toNat : Nat) : Int) = x by omega, show ((y.toNat : Nat) : Int) = y by omega], by omega, by omega⟩
theorem tup3 {n : Nat} {k : List Int} (h : k ∈ tups n 3) : ∃ a b c : Nat, k = [(a : Int), b, c] ∧ a < n ∧ b < n ∧ c < n := by
  obtain ⟨e, hall⟩ := tups_in h
  obtain ⟨x, y, z, rfl⟩ := len3 e
  have h1 := hall x (by simp)
  have h2 := hall y (by simp)
  have h3 := hall z (by simp)
  exact ⟨x.toNat, y.toNat, z.toNat, by rw [show ((x.toNat : Nat) : Int) = x by omega, show ((y.toNat : Nat) : Int) = y by omega, show ((z.toNat : Nat) : Int) = z by omega], by omega, by omega, by omega⟩
theorem has2 {n a b : Nat} (ha : a < n) (hb : b < n) : [(a : Int), b] ∈ tups n 2 := tups_has rfl fun i hi => by
  simp at hi; rcases hi with rfl | rfl <;> omega
theorem has3 {n a b c : Nat} (ha : a < n) (hb : b < n) (hc : c < n) : [(a : Int), b, c] ∈ tups n 3 := tups_has rfl fun i hi => by
  simp at hi; rcases hi with rfl | rfl | rfl <;> omega
theorem str_ne3 : (("mine" : Str) == "yours") = false := by decide +kernel
theorem str_ne5 : (("either" : Str) == "yours") = false := by decide +kernel
theorem str_ne6 : (("either" : Str) == "mine") = false := by decide +kernel
theorem str_ne7 : (("turns" : Str) == "yours") = false := by decide +kernel
theorem str_ne8 : (("turns" : Str) == "mine") = false := by decide +kernel
theorem str_ne9 : (("turns" : Str) == "either") = false := by decide +kernel
theorem tup5 {n : Nat} {k : List Int} (h : k ∈ tups n 5) : ∃ a b c d e : Nat, k = [(a : Int), b, c, d, e] ∧ a < n ∧ b < n ∧ c < n ∧ d < n ∧ e < n := by
  obtain ⟨e, hall⟩ := tups_in h
  obtain ⟨x, y, z, u, v, rfl⟩ := len5 e
  have h1 := hall x (by simp)
  have h2 := hall y (by simp)
  have h3 := hall z (by simp)
  have h4 := hall u (by simp)
  have h5 := hall v (by simp)
  exact ⟨x.toNat, y.toNat, z.toNat, u.toNat, v.toNat, by rw [show ((x.toNat : Nat) : Int) = x by omega, show ((y.toNat : Nat) : Int) = y by omega, show ((z.toNat : Nat) : Int) = z by omega, show ((u.toNat : Nat) : Int) = u by omega, show ((v.toNat : Nat) : Int) = v by omega], by omega, by omega, by omega, by omega, by omega⟩
theorem has5 {n a b c d e : Nat} (ha : a < n) (hb : b < n) (hc : c < n) (hd : d < n) (he : e < n) : [(a : Int), b, c, d, e] ∈ tups n 5 := tups_has rfl fun i hi => by
  simp at hi; rcases hi with rfl | rfl | rfl | rfl | rfl <;> omega
theorem ex_tt {t : Tt} {m : Nat} {Q : K3} {st : Sto} (h : Q t.pv (st.take m)) : Exit m Q t.pv st := by
  cases t <;> exact h
def tlA (v : Int) : List Tt := [.ite (.op "<" .mine .yours) .yours .mine, .ite (.op "<" .mine .yours) .mine .yours, .op "+" .mine (.op "+" .yours (.op "-" (.num v) .was))]
def tlB : List Tt := [.ite (.op "=" .mine .was) .yours .mine, .ite (.op "=" .yours .was) .mine .yours, .op "+" .mine .yours]
theorem sg_lt : Sg "<" := .inr (.inr (.inr (.inl rfl)))
theorem sg_add : Sg "+" := .inl rfl
theorem sg_sub : Sg "-" := .inr (.inl rfl)
theorem sg_eq : Sg "=" := .inr (.inr (.inr (.inr rfl)))
theorem tl_ok {v : Int} (h : 0 ≤ v ∧ v < 4294967296) : ∀ u ∈ tlA v ++ tlB, u.ok ∧ u.rank < 7 := by
  intro u hu
  simp only [tlA, tlB, List.cons_append, List.nil_append, List.mem_cons, List.not_mem_nil, or_false] at hu
  rcases hu with rfl | rfl | rfl | rfl | rfl | rfl
  · exact ⟨⟨⟨sg_lt, trivial, trivial⟩, trivial, trivial⟩, by decide⟩
  · exact ⟨⟨⟨sg_lt, trivial, trivial⟩, trivial, trivial⟩, by decide⟩
  · exact ⟨⟨sg_add, trivial, sg_add, trivial, sg_sub, h, trivial⟩, by show (3 : Nat) < 7; decide⟩
  · exact ⟨⟨⟨sg_eq, trivial, trivial⟩, trivial, trivial⟩, by decide⟩
  · exact ⟨⟨⟨sg_eq, trivial, trivial⟩, trivial, trivial⟩, by decide⟩
  · exact ⟨⟨sg_add, trivial, trivial⟩, by decide⟩
def spSome : Sp3 := fun xs st Q => ∃ (i n : Nat) (a b : Int), xs = [.obj i, .int n] ∧ st[i]? = some (box a b) ∧ BoxOk a b ∧ 2 ≤ n ∧ n ≤ 5 ∧ ∀ (t : Tt) a b, t.ok → t.rank < 7 → BoxOk a b → Q t.pv (st.set i (box a b))
def rbA : Arguments := match defBody srule_broken with | [_, _, .Return (some (.Call _ [.Call _ [_, _, .Lambda a _ _ _] _ _] _ _)) _] => a | _ => defArgs srule_broken
def rbB : Expr := match defBody srule_broken with | [_, _, .Return (some (.Call _ [.Call _ [_, _, .Lambda _ b _ _] _ _] _ _)) _] => b | _ => .Constant .none 0 ⟨0, 0, 0, 0⟩
def rbS : Scope := match defBody srule_broken with | [_, _, .Return (some (.Call _ [.Call _ [_, _, .Lambda _ _ s _] _ _] _ _)) _] => s | _ => defScope srule_broken
def rbP : Pos := match defBody srule_broken with | [_, _, .Return (some (.Call _ [.Call _ [_, _, .Lambda _ _ _ p] _ _] _ _)) _] => p | _ => ⟨0, 0, 0, 0⟩
def rbQ : Str := ("rule_broken" ++ ".<locals>.") ++ "<lambda>"
abbrev rbO (c c' : Addr) (pm ctv : Value) : Obj := PySem.W.kla_obj "<lambda>" rbQ rbA rbB rbS [("values", c)] pm c' ctv
def rbGood (D : Clo) : Prop := (∃ pm ctv, D.o = rbO D.c D.c' pm ctv) ∧ D.q = rbQ ∧ D.oz.data = .cell (some (.ref D.dd))
section
variable {P : Program} {w : World} {K : PySem.W.Frag} {mg : Str → Option Value} {base : Heap}
theorem clo_ok (D : Clo) (hD : rbGood D) : ∃ fd, D.o.data = .func fd ∧ Binds K fd ["w", "m", "y"] [] ∧ FnOk P w K mg base CX0 2 D.f fd ["w", "m", "y"] (spClo D) := by
  obtain ⟨f, o, q, c, c', oz, dd, kvs⟩ := D
  obtain ⟨⟨pm, ctv, e1⟩, e2, oz2⟩ := hD
  dsimp only at e1 e2 oz2
  subst e1 e2
  refine ⟨_, rfl, .all fun us hl => by obtain ⟨x0, x1, x2, rfl⟩ := len3 hl; rfl, ?_⟩
  refine lam_ofN (ps := ["w", "m", "y"]) (cl := [("values", c)]) (oz := fun _ => oz) (dv := fun _ => dd) (scope := rbS) (fun _ _ => oz2) rfl rfl rfl (by decide +kernel) (fun x hx => ?_) (fun y hy => ?_) (fun z hz => ?_) (by decide +kernel) (show (["values"] : List Str).Nodup by decide +kernel) (by simp) (fun vs H Q E h => ?_) (fun A outer s H vs Q E hr h => ?_)
  · rcases List.mem_cons.mp hx with rfl | hx
    · rfl
    rcases List.mem_cons.mp hx with rfl | hx
    · rfl
    cases List.mem_singleton.mp hx; rfl
  · cases List.mem_singleton.mp hy; rfl
  · by_cases e1 : z = "values"
    · rw [e1]; exact List.mem_singleton.mpr rfl
    exfalso
    have hz' : rbS.names.lookup z = some .free := hz
    have hm : (z, NameKind.free) ∈ rbS.names := by
      have : ∀ (l : List (Str × NameKind)), l.lookup z = some .free → (z, NameKind.free) ∈ l := fun l => by
        induction l with
        | nil => intro h; cases h
        | cons p l ih =>
          intro h
          rw [List.lookup_cons] at h
          by_cases ez : z = p.1
          · rw [show (z == p.1) = true by simpa using ez] at h
            obtain ⟨p1, p2⟩ := p
            dsimp only at h ez
            cases h
            rw [ez]; exact List.mem_cons_self
          · rw [show (z == p.1) = false by simpa using ez] at h
            exact List.mem_cons_of_mem _ (ih h)
      exact this _ hz'
    have hall : ∀ p ∈ rbS.names, p.2 = .free → p.1 = "values" := by decide +kernel
    exact e1 (hall _ hm rfl)
  · obtain ⟨k, v, rfl, hl, hA, hv, q⟩ := h
    exact ⟨by rw [List.length_map]; exact hl, hA.fn.1, hA.cd.1, fun c hc => by cases List.mem_singleton.mp hc; exact hA.cl.1⟩
  · obtain ⟨k, v, rfl, hl, hA, hv, q⟩ := h
    obtain ⟨i1, i2, i3, rfl⟩ := len3 hl
    refine ⟨_, pe_dget (hu_of hr) (pv 3) (pe_tup (pa_cons (pv 0) (pa_cons (pv 1) (pa_cons (pv 2) pa_nil)))) (fun _ _ => rfl), ?_⟩
    have hdt : H dd = some (.dT (tabK kvs)) := hA.dt.1
    have hcl : H c = some (.ext (FnAt c oz)) := hA.cl.1
    have ndc : dd ∉ ([c] : List Addr) := fun z => by
      rw [List.mem_singleton.mp z, hcl] at hdt; cases hdt
    have hd1 : lessL H [c] dd = some (.dT (tabK kvs)) := by rw [lessL_ne ndc]; exact hdt
    refine ⟨_, rfl, _, rfl, _, rfl, _, rfl, by show 3 ≤ sizeLine; decide, fun p hp => ⟨dd, .int v, rfl, ?_, ?_⟩⟩
    · have hd' : upd (lessL H [c]) p (.tup [V.int i1, .int i2, .int i3]) dd = some (.dT (tabK kvs)) := by rw [upd_ne (ne_of_none hd1 hp)]; exact hd1
      have := DGet.t (k := [i1, i2, i3].map Sum.inl) hd' (b := p) (by rw [key_eq]; exact upd_same)
      rw [val_tab, hv] at this
      exact this
    · refine q _ fun b ob hb => ?_
      show backL _ H [c] b = some ob
      by_cases m : b ∈ ([c] : List Addr)
      · rw [backL_eq m]; exact hb
      · have hb1 : lessL H [c] b = some ob := by rw [lessL_ne m]; exact hb
        rw [backL_ne m, upd_ne (ne_of_none hb1 hp)]; exact hb1
end
def unI : PV → Int | .int i => i | _ => 0
def selP (p : List Int → Bool) : PV → Option PV | .tup xs => (if p (xs.map unI) = true then some (.tup xs) else none) | _ => none
theorem un_map (k : List Int) : (k.map PV.int).map unI = k := by rw [List.map_map, show unI ∘ PV.int = id from rfl, List.map_id]
theorem sel_yes {p : List Int → Bool} {k : List Int} (h : p k = true) : selP p (tupP k) = some (tupP k) := by unfold tupP selP; dsimp only; rw [un_map, if_pos h]
theorem sel_no {p : List Int → Bool} {k : List Int} (h : p k = false) : selP p (tupP k) = none := by unfold tupP selP; dsimp only; rw [un_map, if_neg (by rw [h]; exact Bool.false_ne_true)]
theorem sel_all {p : List Int → Bool} : ∀ {ks : List (List Int)}, (ks.map tupP).filterMap (selP p) = (ks.filter p).map tupP
  | [] => rfl
  | k :: ks => by
    rw [List.map_cons, List.filterMap_cons, List.filter_cons]
    cases h : p k with
    | true => rw [sel_yes h, if_pos rfl, List.map_cons, sel_all]
    | false => rw [sel_no h, if_neg Bool.false_ne_true, sel_all]
def Bads (n : Nat) (F : Int → Int → Int → Int) (rule : Str) (ks : List (List Int)) : Prop := (rule = "yours" → ks = (tups n 2).filter (pY F)) ∧ (rule = "mine" → ks = (tups n 2).filter (pM F)) ∧ (rule = "either" → ks = (tups n 3).filter (pE F)) ∧ (rule = "turns" → ks = (tups n 5).filter (pT F))
def spATB : Sp3 := fun xs st Q => ∃ (n : Nat) (rule : Str) (D : Clo) (F : Int → Int → Int → Int), xs = [.int n, .str rule, .clo D] ∧ rbGood D ∧ n ≤ 5 ∧ TotT n F D.kvs ∧ (∀ w m y : Nat, w < n → m < n → y < n → 0 ≤ F w m y ∧ F w m y < n) ∧ Ru rule ∧ ∀ ks, Bads n F rule ks → Q (.lst (ks.map tupP)) st
theorem rs_tbl {K : PySem.W.Frag} {A : List Addr} {H : Hp} {st : Sto} {i : Nat} {T : Addr} {pos : Pos} {q : Str} (rs : RS K A H st) (hi : st[i]? = some (.tbl T pos q)) :
    TbOk T pos q H ∧ T ∈ A ∧ ∀ H', But T H H' → TbOk T pos q H' → Grow A H A H' ∧ RS K A H' st := by
  have hil : i < A.length := by rw [rs.len]; exact (List.getElem?_eq_some_iff.mp hi).1
  have hA : A[i]? = some A[i] := List.getElem?_eq_getElem hil
  obtain ⟨ea, ps, e, hps⟩ := rs.at_ i _ _ hA hi
  rw [ea] at hA e
  have mT : T ∈ A := List.mem_of_getElem? hA
  refine ⟨⟨ps, e, hps.imp id fun ⟨c', a, b, _⟩ => ⟨c', a, b⟩⟩, mT, fun H' bt tb => ?_⟩
  have g : Grow A H A H' := by
    refine ⟨⟨[], by simp, by simp⟩, fun b o h n => bt b o h fun z => n (z ▸ mT), fun b hb => ?_⟩
    by_cases z : b = T
    · obtain ⟨ps', e', _⟩ := tb
      rw [z, e']; exact Option.some_ne_none _
    · cases ho : H b with
      | none => exact absurd ho hb
      | some o => rw [bt b o ho z]; exact Option.some_ne_none _
  refine ⟨g, rs.nd, rs.len, fun j a o h1 h2 => ?_⟩
  by_cases z : a = T
  · subst z
    have hij : i = j := (List.getElem?_inj (List.getElem?_eq_some_iff.mp hA).1 rs.nd).mp (hA.trans h1.symm)
    subst hij
    rw [hi] at h2; cases h2
    obtain ⟨ps', e', h'⟩ := tb
    refine ⟨rfl, ps', e', h'.imp id fun ⟨c', a1, b1⟩ => ⟨c', a1, b1, fun mc => ?_⟩⟩
    obtain ⟨i', o', f1, f2, oa⟩ := rs.has mc
    have nc : c' ≠ a := fun z => by rw [z, e'] at b1; cases b1
    cases o' with
    | lst xs => obtain ⟨us, h, _⟩ := oa; rw [bt _ _ h nc] at b1; cases b1
    | dct xs => obtain ⟨us, h, _⟩ := oa; rw [bt _ _ h nc] at b1; cases b1
    | tbl T' p' q' => obtain ⟨_, us, h, _⟩ := oa; rw [bt _ _ h nc] at b1; cases b1
    | itb kvs => rw [bt _ _ (show _ = _ from oa) nc] at b1; cases b1
  · have oa := rs.at_ j a o h1 h2
    refine oa.move g ?_
    cases ho : H a with
    | none => exact absurd ho oa.some
    | some u => exact bt a u ho z
theorem withL_same {H : Hp} {cs : List Addr} {oz : Addr → Obj} (n : ∀ c ∈ cs, H c = none) : Same H (withL H cs oz) := fun b o e => by rw [withL_ne (fun z => by rw [n b z] at e; cases e)]; exact e
theorem small_key {n : Nat} {F : Int → Int → Int → Int} {rule : Str} {ks : List (List Int)} {j : Nat} {k : List Int} (hru : Ru rule) (h : Bads n F rule ks) (e : ks[j]? = some k) : k.length ≤ sizeLine := by
  have m := List.mem_of_getElem? e
  have : ∃ a, a ≤ 5 ∧ k.length = a := by
    rcases hru with hr | hr | hr | hr
    · rw [h.1 hr] at m; exact ⟨2, by decide, (tups_in (List.mem_filter.mp m).1).1⟩
    · rw [h.2.1 hr] at m; exact ⟨2, by decide, (tups_in (List.mem_filter.mp m).1).1⟩
    · rw [h.2.2.1 hr] at m; exact ⟨3, by decide, (tups_in (List.mem_filter.mp m).1).1⟩
    · rw [h.2.2.2 hr] at m; exact ⟨5, by decide, (tups_in (List.mem_filter.mp m).1).1⟩
  obtain ⟨a, ha, e⟩ := this
  exact Nat.le_trans (m := 1000) (by omega) (by decide)
def MinOf (ks : List (List Int)) : Option (List Int) → Prop
  | none => ks = []
  | some k => k ∈ ks ∧ ∀ k' ∈ ks, HT.lexLt k' k = false
def vMinLam (T : Addr) : TE3 := fun env st Q => ∃ (n : Nat) (rule : Str) (d t : Nat) (kvs : List (List Int × Int)) (F : Int → Int → Int → Int), env[0]? = some (some (.int n)) ∧ env[2]? = some (some (.str rule)) ∧ env[6]? = some (some (.obj d)) ∧ st[d]? = some (.itb kvs) ∧ st[t]? = some (.tbl T rbP rbQ) ∧ n ≤ 5 ∧ TotT n F kvs ∧ (∀ w m y : Nat, w < n → m < n → y < n → 0 ≤ F w m y ∧ F w m y < n) ∧ Ru rule ∧ ∀ ks r, Bads n F rule ks → MinOf ks r → Q (resP r) st
@[simp] theorem u_vMinLam {T : Addr} {env : Env3} {st : Sto} {Q : K3} : vMinLam T env st Q = ∃ (n : Nat) (rule : Str) (d t : Nat) (kvs : List (List Int × Int)) (F : Int → Int → Int → Int), env[0]? = some (some (.int n)) ∧ env[2]? = some (some (.str rule)) ∧ env[6]? = some (some (.obj d)) ∧ st[d]? = some (.itb kvs) ∧ st[t]? = some (.tbl T rbP rbQ) ∧ n ≤ 5 ∧ TotT n F kvs ∧ (∀ w m y : Nat, w < n → m < n → y < n → 0 ≤ F w m y ∧ F w m y < n) ∧ Ru rule ∧ ∀ ks r, Bads n F rule ks → MinOf ks r → Q (resP r) st := rfl
theorem tups_rv {K : PySem.W.Frag} {A : List Addr} {H : Hp} : ∀ {ks : List (List Int)} {vs : List V}, RVs K A H (ks.map tupP) vs → ∃ as : List Addr, vs = as.map V.ref ∧ as.length = ks.length ∧ ∀ (i : Nat) (a : Addr) (k : List Int), as[i]? = some a → ks[i]? = some k → TupAt K A H a (k.map V.int)
  | [], vs, h => by cases h; exact ⟨[], rfl, rfl, fun i a k e => by cases e⟩
  | k :: ks, vs, h => by
    rw [List.map_cons] at h
    cases h with
    | cons r t =>
      obtain ⟨as, rfl, hl, hT⟩ := tups_rv t
      unfold tupP at r
      cases r with
      | @tup _ a us t2 z r2 =>
        have : us = k.map V.int := by
          exact rvs_int r2
        subst this
        refine ⟨a :: as, rfl, by simp [hl], fun i a' k' h1 h2 => ?_⟩
        cases i with
        | zero => cases h1; cases h2; exact t2
        | succ i => exact hT i a' k' (by simpa using h1) (by simpa using h2)
section
variable {P : Program} {w : World} {K : PySem.W.Frag} {mg : Str → Option Value} {base : Heap}
theorem ok3C {x qual : Str} {st : Stmt} {f c0 : Addr} {fd : FuncData} {N ps : List Str} {k : Nat} {S : Sp3} (keep : Nat) (F : FunC K x qual st f fd c0) (sc : FnScope N ps (defScope st)) (len : ∀ xs st Q, S xs st Q → xs.length = ps.length)
    (hB : ∃ T : TS3, (∀ (A : Around) (outer : List Env) (s : Shared) (H : Hp) (E : XK), Room k (A.deeper (PyProof.Rows.envOfC qual (defScope st) s.heap.objs.size f (.ref c0))) → PSs (cxOf CX0 P w K mg base N qual (defScope st) f (.ref c0) A outer s H E).nox (defBody st) (canS K T)) ∧
      ∀ xs sto Q, S xs sto Q → T { nx := fun _ s' => Exit (sto.length + keep) Q .non s', rt := Exit (sto.length + keep) Q } (start3 N xs) sto) : FnOk P w K mg base CX0 (k + 1) f fd ps (sp2 K S) := by
  obtain ⟨T, hT, hb⟩ := hB
  refine F.ok sc (fun vs H Q E h => ?_) (fun A outer s H vs Q E hr h => ⟨_, hT A outer s H E hr, ?_⟩)
  · obtain ⟨A, sto, xs, Q3, rs, ex, hS, _⟩ := h
    rw [← len xs sto Q3 hS]
    exact (Paired.length ex).symm
  · obtain ⟨A, sto, xs, Q3, rs, ex, hS, k⟩ := h
    have hm : A.length ≤ sto.length + keep := by rw [rs.len]; omega
    refine ⟨A, start3 N xs, sto, _, Rel.begin rs ex, hb xs sto Q3 hS, ⟨fun A' H' σ' env' st' g r q => ?_, k.exit hm, fun A' H' σ' env' st' g r q => q.elim, fun A' H' σ' env' st' g r q => q.elim⟩⟩
    exact k.exit hm A' H' st' .non .non g r.rs (.val .non) q
theorem q_minLam {X : Cx} {T c0 c fA : Addr} {fdA : FuncData} {k : Nat} {params : Arguments} {body : Expr} {scope : Scope} {posL p p2 pos pos2 kpos pc pn pr : Pos} {kk xn xr}
    (GA : FnOk X.prog X.w X.K X.mg X.base CX0 k fA fdA ["n", "rule", "f"] (sp2 X.K spATB)) (hr : Room k X.A) (hgA : Gl X "all_that_break") (mA : X.mg "all_that_break" = some (.ref fA)) (kA : PySem.W.keepIn X.K (.ref fA) = true) (bA : Binds X.K fdA ["n", "rule", "f"] [])
    (hcalm : X.calm = true) (hg : Gl X "min") (hm : X.mg "min" = none) (hN0 : X.N[0]? = some xn) (hN2 : X.N[2]? = some xr) (hN6 : X.N[6]? = some ("values" : Str)) (hy : X.env.scope.names.lookup ("values" : Str) = some .cell) (hcell : X.env.cells.lookup ("values" : Str) = some c) (hfn : X.fn "values" = true)
    (hv0 : PE X (.Name xn pn) (tVar 0)) (hv2 : PE X (.Name xr pr) (tVar 2))
    (hdef : defaultsOf params X.env = ([], [])) (hcl : closureFor scope X.env = pure [(("values" : Str), c)]) (hcode : X.env.code = .ref c0) (hC : PySem.W.codeHdIn X.K c0 T = true) (hB : X.base.BuiltinsAt X.mg T)
    (hq : X.env.qual ++ "<lambda>" = rbQ) (eA : params = rbA) (eB : body = rbB) (eS : scope = rbS) (eP : posL = rbP)
    (hst : starEach [Expr.Name xn pn, Expr.Name xr pr, Expr.Lambda params body scope posL] X.env = (false, eval (.Name xn pn) X.env) :: starEach [Expr.Name xr pr, Expr.Lambda params body scope posL] X.env := by rfl)
    (hpl : (backTo pos2 (starEach [Expr.Name xr pr, Expr.Lambda params body scope posL] X.env)).any (·.1) = false := by rfl)
    (hx1 : backTo pos (starEach [Expr.Call (.Name "all_that_break" p2) [.Name xn pn, .Name xr pr, .Lambda params body scope posL] [] pos2] X.env) = (false, eval (Expr.Call (.Name "all_that_break" p2) [.Name xn pn, .Name xr pr, .Lambda params body scope posL] [] pos2) X.env) :: backTo pos (starEach [] X.env) := by rfl)
    (hx2 : (backTo pos (starEach [Expr.Call (.Name "all_that_break" p2) [.Name xn pn, .Name xr pr, .Lambda params body scope posL] [] pos2] X.env)).any (·.1) = false := by rfl)
    (hx3 : (backToKw pos (keywordEach [⟨some "default", Expr.Constant .none kk pc, kpos⟩] X.env)).all (·.1.isSome) = true := by rfl) (hx4 : (backToKw pos (keywordEach [⟨some "default", Expr.Constant .none kk pc, kpos⟩] X.env)).any (·.1.isNone) = false := by rfl)
    (hx5 : (backToKw pos (keywordEach [⟨some "default", Expr.Constant .none kk pc, kpos⟩] X.env)).filterMap (·.1) = [Str.ofString "default"] := by rfl) :
    PE X (.Call (.Name "min" p) [.Call (.Name "all_that_break" p2) [.Name xn pn, .Name xr pr, .Lambda params body scope posL] [] pos2] [⟨some "default", .Constant .none kk pc, kpos⟩] pos) (can X.K (vMinLam T)) := by
  subst eA eB eS eP
  refine pe_weak (pe_minT hcalm (by have := hr.units; omega) hg hm (pa_cons (pe_callCN (cl := [(("values" : Str), c)]) (ix := [6]) GA hr hgA mA kA bA (fun j q i h1 h2 => ?_) (fun q hq => ?_) (fun q hq => ?_) (fun q hq => ?_) (pa_cons hv0 (pa_cons hv2 (pa_cons (pe_lamN hdef hcl hcode hC hB (fun _ => codeAmong_snoc [] trivial rfl) (fun _ => trivial)) pa_nil))) (by decide) hst hpl) pa_nil) (pk_cons pe_non pk_nil) hx1 hx2 hx3 hx4 hx5) ?_
  · match j, h1, h2 with
    | 0, h1, h2 => cases h1; cases h2; exact hN6
    | j + 1, h1, h2 => cases h1
  · cases List.mem_singleton.mp hq; exact hy
  · cases List.mem_singleton.mp hq; exact hcell
  · cases List.mem_singleton.mp hq; exact hfn
  rintro σ H Q ⟨A, env, st, Q3, rel, ⟨n, rule, d, t, kvs, F, e0, e2, e6, hd, ht, n5, tot, hF, hru, q⟩, kk'⟩
  obtain ⟨v0, s0, r0⟩ := rel.at_ _ _ e0
  obtain ⟨v2, s2, r2⟩ := rel.at_ _ _ e2
  obtain ⟨v6, s6, r6⟩ := rel.at_ _ _ e6
  cases ints_of r0
  cases strs_of r2
  cases r6 with
  | val r => cases r
  | obj eo =>
  rename_i dd
  obtain ⟨hTb, mT, back⟩ := rs_tbl rel.rs ht
  have hdd : H dd = some (.dT (tabK kvs)) := rel.rs.at_ _ _ _ eo hd
  refine ⟨_, s0, _, s2, ?_⟩
  rw [hq]
  refine ⟨hTb, fun f c' pm ctv H3 hf bt tb hff hcc => ?_⟩
  obtain ⟨g3, rs3⟩ := back H3 bt tb
  have hdd3 : H3 dd = some (.dT (tabK kvs)) := rs3.at_ _ _ _ eo hd
  refine ⟨fun _ => dd, fun j q' h1 => ?_, fun nc oz ho => ?_⟩
  · match j, h1 with
    | 0, h1 => cases h1; exact ⟨6, rfl, s6⟩
    | j + 1, h1 => cases h1
  have nc' : H3 c = none := nc c (List.mem_singleton.mpr rfl)
  have s4 : Same H3 (withL H3 [c] oz) := withL_same (oz := oz) (fun c' hc' => by cases List.mem_singleton.mp hc'; exact nc')
  refine ⟨[], [], [.int n, .str rule, .clo ⟨f, rbO c c' pm ctv, rbQ, c, c', oz c, dd, kvs⟩], fun r _ => ∃ ks, r = .lst (ks.map tupP) ∧ Bads n F rule ks, ⟨by simp, rfl, fun i a o h => by cases h⟩, .cons (.val (.int _)) (.cons (.val (.str _)) (.cons (.val (RV.clo (D := ⟨f, rbO c c' pm ctv, rbQ, c, c', oz c, dd, kvs⟩) ⟨⟨s4 _ _ hff, by simp⟩, ⟨s4 _ _ hcc, by simp⟩, ⟨withL_eq (List.mem_singleton.mpr rfl), by simp⟩, ⟨s4 _ _ hdd3, by simp⟩⟩)) .nil)),
    ⟨n, rule, _, F, rfl, ⟨⟨pm, ctv, rfl⟩, rfl, ho c (List.mem_singleton.mpr rfl)⟩, n5, tot, hF, hru, fun ks hks => ⟨ks, rfl, hks⟩⟩, fun A' H' st' r v g rs' e hr' => ?_⟩
  obtain ⟨ks, rfl, hks⟩ := hr'
  have hA' : A' = [] ∨ True := .inr trivial
  have keep : ∀ b o, withL H3 [c] oz b = some o → H' b = some o := fun b o hb => g.keep b o hb (by simp)
  refine ⟨fun c1 hc1 => by cases List.mem_singleton.mp hc1; exact keep _ _ (withL_eq (List.mem_singleton.mpr rfl)), ?_⟩
  have hc' : H' c = some (.ext (FnAt c (oz c))) := keep _ _ (withL_eq (List.mem_singleton.mpr rfl))
  have keep3 : ∀ b o, H3 b = some o → lessL H' [c] b = some o := fun b o hb => by
    have nb : b ∉ ([c] : List Addr) := fun z => by rw [List.mem_singleton.mp z, nc'] at hb; cases hb
    rw [lessL_ne nb]; exact keep b o (s4 b o hb)
  have g4 : Grow A H3 A (lessL H' [c]) := grow_same keep3
  have rs4 : RS X.K A (lessL H' [c]) st := rs3.move g4 fun a m => by
    cases eo' : H3 a with
    | none => exact absurd eo' (rs3.live m)
    | some o => exact keep3 a o eo'
  have rv : RV X.K A' H' (.lst (ks.map tupP)) v := by cases e with | val e => exact e
  cases rv with
  | @lst _ l vs tl z rr =>
  obtain ⟨as, rfl, hlen, hT⟩ := tups_rv rr
  have nofn : ∀ {a : Addr} {us : List V}, TupAt X.K A' H' a us → TupAt X.K A (lessL H' [c]) a us := fun {a us} h => by
    rcases h with ⟨hrd, _⟩ | h
    · have hne : a ∉ ([c] : List Addr) := fun z => by
        rw [List.mem_singleton.mp z] at hrd
        rcases hrd with e | ⟨o, e⟩ <;> (rw [hc'] at e; cases e)
      have hrd' : Rd (lessL H' [c]) a (.tup us) := by
        rcases hrd with e | ⟨o, e⟩
        · exact .inl (by rw [lessL_ne hne]; exact e)
        · exact .inr ⟨o, by rw [lessL_ne hne]; exact e⟩
      refine .inl ⟨hrd', fun m => ?_⟩
      obtain ⟨i, o, f1, f2, oa⟩ := rs4.has m
      cases o with
      | lst xs => obtain ⟨us, h, _⟩ := oa; rcases hrd' with e | ⟨o, e⟩ <;> (rw [h] at e; cases e)
      | dct xs => obtain ⟨us, h, _⟩ := oa; rcases hrd' with e | ⟨o, e⟩ <;> (rw [h] at e; cases e)
      | tbl T' p' q' => obtain ⟨_, us, h, _⟩ := oa; rcases hrd' with e | ⟨o, e⟩ <;> (rw [h] at e; cases e)
      | itb kvs => rcases hrd' with e | ⟨o, e⟩ <;> (rw [show _ = _ from oa] at e; cases e)
    · exact .inr h
  have sql : SqL X.K (lessL H' [c]) l (as.map V.ref) := by
    rcases tl with ⟨hrd, _⟩ | h
    · have hne : l ∉ ([c] : List Addr) := fun z => by
        rw [List.mem_singleton.mp z] at hrd
        rcases hrd with e | ⟨o, e⟩ <;> (rw [hc'] at e; cases e)
      rcases hrd with e | ⟨o, e⟩
      · exact .inl (.inl (by rw [lessL_ne hne]; exact e))
      · exact .inl (.inr ⟨o, by rw [lessL_ne hne]; exact e⟩)
    · exact .inr h
  have gg : Grow A H A (lessL H' [c]) := g3.trans g4
  refine ⟨l, as, ks, rfl, rfl, sql, hlen, fun i a k h1 h2 => (nofn (hT i a k h1 h2)).sq, fun h0 => ?_, fun j a k h1 h2 hmin => ?_⟩
  · exact kk' A _ st (resP none) .non gg rs4 (.val .non) (q ks none hks h0)
  · exact kk' A _ st (resP (some k)) (.ref a) gg rs4 (.val (.tup (nofn (hT j a k h1 h2)) (by rw [List.length_map]; exact small_key hru hks h2) (int_rvs k))) (q ks (some k) hks ⟨List.mem_of_getElem? h2, hmin⟩)
end
theorem rb_closure {env : Env} {c : Addr} (h : env.cells.lookup ("values" : Str) = some c) : closureFor rbS env = pure [(("values" : Str), c)] := by
  have e : clOf rbS.names env.cells = [(("values" : Str), (env.cells.lookup ("values" : Str)).getD 0)] := rfl
  rw [closure_of (fun p hp hf => ?_), e, h]
  · rfl
  · have hall : ∀ p ∈ rbS.names, p.2 = .free → p.1 = "values" := by decide +kernel
    rw [hall p hp hf]; exact ⟨c, h⟩
def F3 (F : Int → Int → Int → Int) : List Int → Int | [w, m, y] => F w m y | _ => 0
def spRB (T1 T2 : Addr) : Sp3 := fun xs st Q => ∃ (n : Nat) (t : Tt) (rule : Str) (i1 i2 : Nat), xs = [.int n, t.pv, .str rule] ∧ st[i1]? = some (.tbl T1 lamP lamQ) ∧ st[i2]? = some (.tbl T2 rbP rbQ) ∧ 2 ≤ n ∧ n ≤ 5 ∧ t.ok ∧ t.rank < 7 ∧ Ru rule ∧ ∀ r, Rule n (valT n t) rule r → Q (resP r) st
theorem least_of {n m : Nat} {p : List Int → Bool} {ks : List (List Int)} {r : Option (List Int)} (e : ks = (tups n m).filter p) (h : MinOf ks r) : IsLeast n m p r := by
  subst e
  cases r with
  | none =>
    intro k hk
    have := List.filter_eq_nil_iff.mp (show (tups n m).filter p = [] from h) k hk
    simpa using this
  | some k =>
    obtain ⟨h1, h2⟩ := h
    obtain ⟨h3, h4⟩ := List.mem_filter.mp h1
    refine ⟨h3, h4, fun k' hk' hl => ?_⟩
    cases hp : p k' with
    | false => rfl
    | true =>
      have := h2 k' (List.mem_filter.mpr ⟨hk', hp⟩)
      rw [hl] at this; cases this
theorem min_rule {n : Nat} {F : Int → Int → Int → Int} {rule : Str} {ks : List (List Int)} {r : Option (List Int)} (h : Bads n F rule ks) (hm : MinOf ks r) : Rule n F rule r :=
  ⟨fun e => least_of (h.1 e) hm, fun e => least_of (h.2.1 e) hm, fun e => least_of (h.2.2.1 e) hm, fun e => least_of (h.2.2.2 e) hm⟩
theorem ex_res {r : Option (List Int)} {m : Nat} {Q : K3} {st : Sto} (h : Q (resP r) (st.take m)) : Exit m Q (resP r) st := by
  cases r <;> exact h
theorem valT_in {n : Nat} {t : Tt} (h : 2 ≤ n) {w m y : Int} : 0 ≤ valT n t w m y ∧ valT n t w m y < n := ⟨Int.emod_nonneg _ (by omega), Int.emod_lt_of_pos _ (by omega)⟩
def spLaw2 (T1 T2 : Addr) : Sp3 := fun xs st Q => ∃ ns : List Int, xs = [.lst (ns.map PV.int)] ∧ st = [.tbl T1 lamP lamQ, .tbl T2 rbP rbQ] ∧ ns.length ≤ 63 ∧ ∀ st', Q (.bl true) st'
def spLawTs (Ts : List Addr) : Sp3 := fun xs st Q => ∃ ns : List Int, xs = [.lst (ns.map PV.int)] ∧ (∀ T1 T2, Ts = [T1, T2] → T1 ≠ T2 → st = [.tbl T1 lamP lamQ, .tbl T2 rbP rbQ]) ∧ ns.length ≤ 63 ∧ ∀ st', Q (.bl true) st'
theorem law2_in {K : PySem.W.Frag} {T1 T2 : Addr} {vs : List V} {H : Hp} {Q : VK} {E : XK} (ne : T1 ≠ T2) (h : sp2 K (spLawTs [T1, T2]) vs H Q E) : sp2 K (spLaw2 T1 T2) vs H Q E := by
  obtain ⟨A, st, xs, Q3, rs, ex, ⟨ns, h1, h2, h3, h4⟩, k⟩ := h
  exact ⟨A, st, xs, Q3, rs, ex, ⟨ns, h1, h2 T1 T2 rfl ne, h3, h4⟩, k⟩
def spJT (T : Addr) : Sp3 := fun xs st Q => ∃ (n : Int) (t : Tt) (w m y : Int) (i : Nat), xs = [.tup [.str "told", .int n, t.pv], .int w, .int m, .int y, .bl true] ∧ st[i]? = some (.tbl T lamP lamQ) ∧ t.ok ∧ t.rank < 7 ∧ In w ∧ In m ∧ In y ∧ 0 < n ∧ Q (.int (t.val w m y % n)) st
def spLJ (T : Addr) : Sp3 := fun xs st Q => ∃ (n : Nat) (t : Tt) (w m y : Int) (i : Nat), xs = [.int n, t.pv, .int w, .int m, .int y] ∧ st[i]? = some (.tbl T lamP lamQ) ∧ 2 ≤ n ∧ t.ok ∧ t.rank < 7 ∧ In w ∧ In m ∧ In y ∧ Q (.int (valT n t w m y)) st
def prP (p : Nat × Nat) : PV := .tup [.int p.1, .int p.2]
def foldT (F : Int → Int → Int → Int) (m : Int) (ps : List (Nat × Nat)) : Int := ps.foldl (fun z p => F p.1 z p.2) m
def LAt (z : PV) (st : Sto) (ys : List PV) : Prop := z = .lst ys ∨ ∃ j, z = .obj j ∧ st[j]? = some (.lst ys)
def Prs (n : Nat) (ps : List (Nat × Nat)) : Prop := ∀ p ∈ ps, p.1 < n ∧ p.2 < n
def spFold (T : Addr) : Sp3 := fun xs st Q => ∃ (n : Nat) (t : Tt) (m : Int) (ps : List (Nat × Nat)) (z : PV) (i : Nat), xs = [.int n, t.pv, .int m, z] ∧ LAt z st (ps.map prP) ∧ st[i]? = some (.tbl T lamP lamQ) ∧ 2 ≤ n ∧ n ≤ 5 ∧ t.ok ∧ t.rank < 7 ∧ (0 ≤ m ∧ m < n) ∧ Prs n ps ∧ Q (.int (foldT (valT n t) m ps)) st
def spBrk (T1 T2 : Addr) : Sp3 := fun xs st Q => ∃ (n : Nat) (t : Tt) (i1 i2 : Nat), xs = [.int n, t.pv] ∧ st[i1]? = some (.tbl T1 lamP lamQ) ∧ st[i2]? = some (.tbl T2 rbP rbQ) ∧ 2 ≤ n ∧ n ≤ 5 ∧ t.ok ∧ t.rank < 7 ∧ Q (.bl true) st
def spKps (T1 T2 : Addr) : Sp3 := fun xs st Q => ∃ (n : Nat) (t : Tt) (i1 i2 j : Nat) (ps : List (Nat × Nat)), xs = [.int n, t.pv, .obj j] ∧ st[j]? = some (.lst (ps.map prP)) ∧ st[i1]? = some (.tbl T1 lamP lamQ) ∧ st[i2]? = some (.tbl T2 rbP rbQ) ∧ 2 ≤ n ∧ n ≤ 5 ∧ t.ok ∧ t.rank < 7 ∧ Prs n ps ∧ Q (.bl true) st
theorem fold_in {n : Nat} {t : Tt} (h : 2 ≤ n) : ∀ {ps : List (Nat × Nat)} {m : Int}, (0 ≤ m ∧ m < n) → 0 ≤ foldT (valT n t) m ps ∧ foldT (valT n t) m ps < n
  | [], m, hm => hm
  | p :: ps, m, hm => fold_in h (ps := ps) (valT_in h)
theorem fold_perm {n : Nat} {t : Tt} (h2 : 2 ≤ n) (hT : ∀ v w m a b : Nat, v < n → w < n → m < n → a < n → b < n → valT n t v (valT n t w m a) b = valT n t w (valT n t v m b) a) {ps qs : List (Nat × Nat)} (hp : ps.Perm qs) :
    Prs n ps → ∀ {m : Int}, (0 ≤ m ∧ m < n) → foldT (valT n t) m ps = foldT (valT n t) m qs := by
  induction hp with
  | nil => intro _ m _; rfl
  | cons x _ ih => intro hps m hm; exact ih (fun p hp => hps p (List.mem_cons_of_mem _ hp)) (valT_in h2)
  | swap x y l =>
    intro hps m hm
    show foldT _ (valT n t x.1 (valT n t y.1 m y.2) x.2) l = foldT _ (valT n t y.1 (valT n t x.1 m x.2) y.2) l
    have hx := hps x (by simp)
    have hy := hps y (by simp)
    have := hT x.1 y.1 m.toNat y.2 x.2 hx.1 hy.1 (by omega) hy.2 hx.2
    rw [show ((m.toNat : Nat) : Int) = m by omega] at this
    rw [this]
  | trans h1 _ ih1 ih2 => intro hps m hm; exact (ih1 hps hm).trans (ih2 (fun p hp => hps p (h1.symm.subset hp)) hm)
theorem prs_in {n : Nat} {ps : List (Nat × Nat)} (h : Prs n ps) {k : Nat} {p : Nat × Nat} (hk : ps[k]? = some p) : p.1 < n ∧ p.2 < n := h p (List.mem_of_getElem? hk)
theorem in_rng {n : Nat} {m : Int} (h5 : n ≤ 5) (h : 0 ≤ m ∧ m < n) : In m := ⟨h.1, by omega⟩
theorem told_sum : (("told" : Str) == "sum") = false := by decide +kernel
theorem told_bag : (("told" : Str) == "bag") = false := by decide +kernel
theorem told_row : (("told" : Str) == "row") = false := by decide +kernel
theorem at_prev (ps : List (Nat × Nat)) {k : Nat} {p : Nat × Nat} (hk : ps[k]? = some p) : ∃ p' ∈ ps, atI (ps.map prP) ((k : Int) - 1) = some (prP p') := by
  have hl := (List.getElem?_eq_some_iff.mp hk).1
  unfold atI ixN
  rw [List.length_map]
  by_cases h0 : k = 0
  · subst h0
    have hlt : ps.length - 1 < ps.length := by omega
    refine ⟨ps[ps.length - 1], List.getElem_mem hlt, ?_⟩
    rw [if_neg (by omega), if_pos (by omega), show ((((0 : Nat) : Int) - 1 + (ps.length : Int)).toNat) = ps.length - 1 by omega]
    simp [hlt]
  · have hlt : k - 1 < ps.length := by omega
    refine ⟨ps[k - 1], List.getElem_mem hlt, ?_⟩
    rw [if_pos (by omega), if_pos (by omega), show (((k : Int) - 1).toNat) = k - 1 by omega]
    simp [hlt]
theorem keeps_y {n : Nat} {F : Int → Int → Int → Int} {r : Option (List Int)} (h : IsLeast n 2 (pY F) r) : isNon (resP r) = true → ∀ {w y : Nat}, w < n → y < n → (!(F w w y == (y : Int))) = false := by
  cases r with
  | none => intro _ w y hw hy; exact h _ (has2 hw hy)
  | some k => intro z; cases z
theorem keeps_m {n : Nat} {F : Int → Int → Int → Int} {r : Option (List Int)} (h : IsLeast n 2 (pM F) r) : isNon (resP r) = true → ∀ {w m : Nat}, w < n → m < n → (!(F w m w == (m : Int))) = false := by
  cases r with
  | none => intro _ w y hw hy; exact h _ (has2 hw hy)
  | some k => intro z; cases z
theorem keeps_e {n : Nat} {F : Int → Int → Int → Int} {r : Option (List Int)} (h : IsLeast n 3 (pE F) r) : isNon (resP r) = true → ∀ {w m y : Nat}, w < n → m < n → y < n → (!(F w m y == F w y m)) = false := by
  cases r with
  | none => intro _ w m y hw hm hy; exact h _ (has3 hw hm hy)
  | some k => intro z; cases z
theorem turns_none {n : Nat} {F : Int → Int → Int → Int} (h : IsLeast n 5 (pT F) none) (v w m a b : Nat) (hv : v < n) (hw : w < n) (hm : m < n) (ha : a < n) (hb : b < n) : F v (F w m a) b = F w (F v m b) a := by
  have := h _ (has5 hv hw hm ha hb)
  unfold pT at this
  simpa using this
theorem cut_a (ps : List (Nat × Nat)) {i : Int} (h0 : 0 ≤ i) (h1 : i < (ps.length : Int)) : cutP (ps.map prP) (some i) none = (ps.drop i.toNat).map prP := by
  obtain ⟨k, rfl⟩ := Int.eq_ofNat_of_zero_le h0
  unfold cutP
  rw [HT.sIx_nat, HT.sIx_none, List.length_map, Nat.min_eq_left (by omega), List.take_of_length_le (by rw [List.length_drop, List.length_map]; exact Nat.le_refl _), Int.toNat_natCast, List.map_drop]
theorem cut_b (ps : List (Nat × Nat)) {i : Int} (h0 : 0 ≤ i) (h1 : i < (ps.length : Int)) : cutP (ps.map prP) none (some i) = (ps.take i.toNat).map prP := by
  obtain ⟨k, rfl⟩ := Int.eq_ofNat_of_zero_le h0
  unfold cutP
  rw [HT.sIx_nat, HT.sIx_none, List.length_map, Nat.min_eq_left (by omega), List.drop_zero, Nat.sub_zero, Int.toNat_natCast, List.map_take]
theorem cut_len1 {ps : List (Nat × Nat)} {i : Nat} : ((ps.drop i).map prP).length = ps.length - i := by simp
theorem cut_len2 {ps : List (Nat × Nat)} {i : Nat} : ((ps.take i).map prP).length ≤ ps.length := by simp; omega
theorem turn_perm (ps : List (Nat × Nat)) (i : Nat) : ps.Perm (ps.drop i ++ ps.take i) := by
  have := (List.perm_append_comm (l₁ := ps.drop i) (l₂ := ps.take i)).symm
  rwa [List.take_append_drop] at this
section
variable {P : Program} {w : World} {K : PySem.W.Frag} {mg : Str → Option Value} {base : Heap}
theorem ok_L_box {f : Addr} {fd : FuncData} (M : Mo K mg) (F : Fun K "_law_box" "_law_box" sL_box f fd) : FnOk P w K mg base CX0 1 f fd ["_law_script", "_law_k"] (sp2 K spBox) := by
  refine ok3 1 F scL_box (fun xs st Q h => by obtain ⟨ns, k, rfl, _⟩ := h; rfl) ⟨_, fun cdv A outer s H E hr => (qss_cons (qs_set (i := 2) scL_box.nd rfl (Or.inl rfl) (q_op o_add (q_op o_mul q_int (qv 1)) q_int))
      (qss_cons (qs_if (qt_cmp o_lt (qv 1) (q_callB o_len (by rfl) M.len PySem.boot_len (qa_cons (qv 0) qa_nil)) (nomark _)) (qss_one (qs_set (i := 2) scL_box.nd rfl (Or.inl rfl) (q_ix (o_ix hr) (qv 0) (qv 1) (fun _ _ => rfl)))) (qss_one (qs_if (qt_cmp o_gt (q_callB o_len (by rfl) M.len PySem.boot_len (qa_cons (qv 0) qa_nil)) q_int (nomark _)) (qss_one (qs_set (i := 2) scL_box.nd rfl (Or.inl rfl) (q_op o_add (qv 2) (q_op o_mul (q_op o_mod (q_ix (o_ix hr) (qv 0) (q_op o_mod (qv 1) (q_callB o_len (by rfl) M.len PySem.boot_len (qa_cons (qv 0) qa_nil))) (fun _ _ => rfl)) q_int) q_int)))) qss_nil)))
      (qss_cons (qs_set (i := 3) scL_box.nd rfl (Or.inl rfl) (q_op o_add (q_op o_mod (q_op o_add (q_op o_mul (q_op o_mod (qv 2) q_int) q_int) (q_op o_mul q_int (qv 1))) q_int) q_int))
      (qss_one (qs_ret (q_lstO (qa_cons (q_op o_mul (qv 2) (q_callTy o_int (by rfl) M.int boot_int' (qa_cons (q_cmp o_ge (qv 2) (q_op o_pow q_int q_int) (nomark _)) qa_nil))) (qa_cons (qv 3) qa_nil)))))))), fun xs st Q h => ?_⟩
  obtain ⟨ns, k, rfl, hl, hk, q⟩ := h
  simp_all? only [List.length_map]
  have bit : ∀ c : Int, -18446744073709551616 < (if decide (1000000000000000000 ≤ c) = true then (1 : Int) else 0) ∧ (if decide (1000000000000000000 ≤ c) = true then (1 : Int) else 0) < 18446744073709551616 := fun c => by split <;> exact ⟨by decide, by decide⟩
  have fin : ∀ c : Int, BoxOk (c * (if decide (1000000000000000000 ≤ c) = true then (1 : Int) else 0)) ((c % 2147483629 * 48271 + 40692 * k) % 2147483646 + 1) := fun c => by
    refine ⟨?_, by omega, by omega⟩
    split
    · rename_i h
      have := of_decide_eq_true h
      omega
    · omega
  refine ite2 (fun h => ?_) (fun h => ite2 (fun h2 => ?_) (fun h2 => ?_))
  · obtain ⟨z, _, ez⟩ := at_has PV.int (ns := ns) hk (of_decide_eq_true h)
    simp_all? only [ez]
    exact ⟨cpow10, .inr (bit z), q _ _ (fin z)⟩
  · have hp : (0 : Int) < ns.length := of_decide_eq_true h2
    obtain ⟨z, _, ez⟩ := at_has PV.int (ns := ns) (k := k % ns.length) (Int.emod_nonneg _ (by omega)) (Int.emod_lt_of_pos _ hp)
    simp_all? only [ez]
    exact ⟨hp, cpow10, .inr (bit _), q _ _ (fin _)⟩
  · exact ⟨cpow10, .inr (bit _), q _ _ (fin _)⟩
theorem ok_L_take {f : Addr} {fd : FuncData} (M : Mo K mg) (F : Fun K "_law_take" "_law_take" sL_take f fd) : FnOk P w K mg base CX0 1 f fd ["_law_box_here", "_law_many"] (sp2 K spTake) := by
  refine ok3 0 F scL_take (fun xs st Q h => by obtain ⟨i, many, a, b, rfl, _⟩ := h; rfl) ⟨_, fun cdv A outer s H E hr => (qss_cons (qs_if (qt_cmp o_gt (q_ix (o_ix hr) (qv 0) q_int (fun _ _ => rfl)) q_int (nomark _)) (qss_cons (qs_set (i := 2) scL_take.nd rfl (Or.inl rfl) (q_op o_mod (q_ix (o_ix hr) (qv 0) q_int (fun _ _ => rfl)) (qv 1)))
      (qss_cons (qs_asg (q_op o_div (q_ix (o_ix hr) (qv 0) q_int (fun _ _ => rfl)) (qv 1)) (qg_sub hr (qv 0) q_int))
      (qss_one (qs_ret (qv 2))))) qss_nil)
      (qss_cons (qs_set (i := 3) scL_take.nd rfl (Or.inl rfl) (q_op o_mod (q_op o_mul (q_ix (o_ix hr) (qv 0) q_int (fun _ _ => rfl)) q_int) q_int))
      (qss_cons (qs_asg (q_op o_add (q_op o_mod (q_op o_add (q_op o_mul (qv 3) q_int) q_int) q_int) q_int) (qg_sub hr (qv 0) q_int))
      (qss_one (qs_ret (q_op o_mod (q_op o_div (q_op o_add (q_op o_mul (qv 3) q_int) (q_ix (o_ix hr) (qv 0) q_int (fun _ _ => rfl))) q_int) (qv 1))))))), fun xs st Q h => ?_⟩
  obtain ⟨i, many, a, b, rfl, hi, ⟨ha, hb, hb2⟩, hm, hm2, q⟩ := h
  simp_all? only [hi]
  refine ite2 (fun h => ?_) (fun h => ?_)
  · exact ⟨hm, ⟨hm, hm2⟩, q _ _ _ (Int.emod_nonneg _ (by omega)) (Int.emod_lt_of_pos _ hm) ⟨Int.ediv_nonneg ha (by omega), hb, hb2⟩⟩
  · exact ⟨hm, q _ _ _ (Int.emod_nonneg _ (by omega)) (Int.emod_lt_of_pos _ hm) ⟨ha, by omega, by omega⟩⟩
theorem nd0 : (["_law_box_here", "_law_room", "_law_deep", "_law_form", "_law_k", "_law_left", "_law_more", "_law_parts", "_law_one", "_law_part"] : List Str).Nodup := by decide +kernel
theorem ok_L_told {f : Addr} {fd : FuncData} (M : Mo K mg) (F : Fun K "_law_told" "_law_told" sL_told f fd) (bL_told : Binds K fd ["_law_box_here", "_law_room", "_law_deep"] []) (mL_told : mg "_law_told" = some (.ref f)) : ∀ d, FnOk P w K mg base CX0 (d + 2) f fd ["_law_box_here", "_law_room", "_law_deep"] (sp2 K (spTold d))
  | 0 => ⟨fun vs H Q E h => (spTold_zero h).elim, fun A outer s H args us vs Q E _ _ _ _ h => (spTold_zero h).elim⟩
  | d + 1 => by
    have IH : FnOk P w K mg base CX0 (d + 2) f fd ["_law_box_here", "_law_room", "_law_deep"] (sp2 K (spTold d)) := ok_L_told M F bL_told mL_told d
    obtain ⟨fL_take, fdL_take, FL_take, bL_take, mL_take⟩ := M._law_take
    have GL_take : FnOk P w K mg base CX0 1 fL_take fdL_take ["_law_box_here", "_law_many"] (sp2 K spTake) := ok_L_take M FL_take
    have FL_told := F
    refine ok3 0 F scL_told (fun xs st Q h => by obtain ⟨i, room, deep, a, b, rfl, _⟩ := h; rfl) ⟨_, fun cdv A outer s H E hr => have hr1 : Room 1 _ := hr.mono (by omega); (qss_cons (qs_set (i := 3) scL_told.nd rfl (Or.inl rfl) (q_call GL_take hr1 (by rfl) mL_take FL_take.kp bL_take (qa_cons (qv 0) (qa_cons q_int qa_nil))))
      (qss_cons (qs_if (PW.pt (qw_or (qt_cmp (o_eq hr) (qv 3) q_int (nomark _)) (qw_or (qt_cmp o_lt (qv 1) q_int (nomark _)) (qw_or1 (qt_cmp o_lt (qv 2) q_int (nomark _)))))) (qss_cons (qs_set (i := 4) scL_told.nd rfl (Or.inl rfl) (q_ix (o_ix hr) (q_lst (qa_cons (q_call GL_take hr1 (by rfl) mL_take FL_take.kp bL_take (qa_cons (qv 0) (qa_cons q_int qa_nil))) (qa_cons (q_call GL_take hr1 (by rfl) mL_take FL_take.kp bL_take (qa_cons (qv 0) (qa_cons q_int qa_nil))) qa_nil))) (q_callTy o_int (by rfl) M.int boot_int' (qa_cons (q_cmp (o_eq hr) (q_call GL_take hr1 (by rfl) mL_take FL_take.kp bL_take (qa_cons (qv 0) (qa_cons q_int qa_nil))) q_int (nomark _)) qa_nil)) (fun _ _ => rfl)))
      (qss_one (qs_ret (q_ix (o_ix hr) (q_lst (qa_cons (q_tup (qa_cons q_str qa_nil)) (qa_cons (q_tup (qa_cons q_str qa_nil)) (qa_cons (q_tup (qa_cons q_str qa_nil)) (qa_cons (q_tup (qa_cons q_str (qa_cons (qv 4) qa_nil))) qa_nil))))) (q_call GL_take hr1 (by rfl) mL_take FL_take.kp bL_take (qa_cons (qv 0) (qa_cons q_int qa_nil))) (fun _ _ => rfl))))) qss_nil)
      (qss_cons (qs_if (PW.pt (qw_and (qt_cmp (o_eq hr) (qv 3) q_int (nomark _)) (qw_and1 (qt_cmp o_gt (qv 1) q_int (nomark _))))) (qss_cons (qs_set (i := 5) scL_told.nd rfl (Or.inl rfl) (q_op o_add q_int (q_call GL_take hr1 (by rfl) mL_take FL_take.kp bL_take (qa_cons (qv 0) (qa_cons (q_op o_sub (qv 1) q_int) qa_nil)))))
      (qss_cons (qs_set (i := 6) scL_told.nd rfl (Or.inl rfl) (q_op o_add q_int (q_call GL_take hr1 (by rfl) mL_take FL_take.kp bL_take (qa_cons (qv 0) (qa_cons (q_op o_sub (q_op o_sub (qv 1) q_int) (qv 5)) qa_nil)))))
      (qss_cons (qs_set (i := 7) scL_told.nd rfl (Or.inl rfl) (q_lst (qa_cons (qv 5) (qa_cons (qv 6) (qa_cons (q_op o_sub (q_op o_sub (q_op o_sub (qv 1) q_int) (qv 5)) (qv 6)) qa_nil)))))
      (qss_one (qs_ret (q_op o_add (q_tup (qa_cons q_str qa_nil)) (q_callTy (o_tuple rfl) (by rfl) M.tuple boot_tuple' (qa_cons (q_comp (own := ["_law_part"]) (comp_scope (fsc := defScope sL_told) (N := ["_law_box_here", "_law_room", "_law_deep", "_law_form", "_law_k", "_law_left", "_law_more", "_law_parts", "_law_one"]) (N' := ["_law_box_here", "_law_room", "_law_deep", "_law_form", "_law_k", "_law_left", "_law_more", "_law_parts", "_law_one"]) rfl rfl (by decide +kernel)) rfl (qi_any (qv 7)) (fun C s H fp pins => (qg_name (i := 9) nd0 rfl (Or.inl rfl))) (fun C s H fp pins => qf_nil) (fun C s H fp pins => (q_call IH hr (by rfl) mL_told FL_told.kp bL_told (qa_cons (qv 0) (qa_cons (qv 9) (qa_cons (q_op o_sub (qv 2) q_int) qa_nil)))))) qa_nil)))))))) qss_nil)
      (qss_cons (qs_set (i := 5) scL_told.nd rfl (Or.inl rfl) (q_op o_add q_int (q_call GL_take hr1 (by rfl) mL_take FL_take.kp bL_take (qa_cons (qv 0) (qa_cons (q_op o_sub (qv 1) q_int) qa_nil)))))
      (qss_cons (qs_set (i := 8) scL_told.nd rfl (Or.inl rfl) (q_call IH hr (by rfl) mL_told FL_told.kp bL_told (qa_cons (qv 0) (qa_cons (qv 5) (qa_cons (q_op o_sub (qv 2) q_int) qa_nil)))))
      (qss_one (qs_ret (q_tup (qa_cons q_str (qa_cons (q_ix (o_ix hr) q_str (q_call GL_take hr1 (by rfl) mL_take FL_take.kp bL_take (qa_cons (qv 0) (qa_cons q_int qa_nil))) (fun _ _ => rfl)) (qa_cons (qv 8) (qa_cons (q_call IH hr (by rfl) mL_told FL_told.kp bL_told (qa_cons (qv 0) (qa_cons (q_op o_sub (q_op o_sub (qv 1) q_int) (qv 5)) (qa_cons (q_op o_sub (qv 2) q_int) qa_nil)))) qa_nil)))))))))))), fun xs st Q h => ?_⟩
    obtain ⟨i, room, deep, a, b, rfl, hi, hb, r1, r15, d0, dd, q⟩ := h
    have hset : ∀ {a b : Int}, (st.set i (box a b))[i]? = some (box a b) := fun {a b} => get_set hi
    refine seq_step ?_
    try simp? only [true_and]
    refine ⟨i, 4, a, b, rfl, hi, hb, by decide, by decide, fun f a b f0 f1 hb => ?_⟩
    refine seq_step ?_
    refine if_pure (b := decide (f = 0 ∨ room < 3 ∨ deep < 1)) (fun Q => ?_) ?_
    · try simp? only [true_and]
      by_cases hf : f = 0
      · subst hf; simp
      · by_cases hr3 : room < 3
        · simp [hf, hr3]
        · simp [hf, hr3]
    by_cases hz : f = 0 ∨ room < 3 ∨ deep < 1
    · rw [if_pos (decide_eq_true hz)]
      refine seq_step ?_
      try simp? only [true_and]
      refine ⟨i, 6, a, b, rfl, hset, hb, by decide, by decide, fun x a b x0 x1 hb => ?_⟩
      try simp? only [true_and]
      refine ⟨i, 4294967296, a, b, rfl, hset, hb, by decide, by decide, fun y a b y0 y1 hb => ?_⟩
      try simp? only [true_and]
      refine ⟨i, 5, a, b, rfl, hset, hb, by decide, by decide, fun z a b _ _ hb => ?_⟩
      obtain ⟨k, ek, k0, k1⟩ : ∃ k : Int, atI [PV.int x, .int y] (if (z == 0) = true then (1 : Int) else 0) = some (.int k) ∧ 0 ≤ k ∧ k < 4294967296 := by
        split
        · exact ⟨y, rfl, y0, y1⟩
        · exact ⟨x, rfl, x0, by omega⟩
      try simp? only [ek]
      refine ⟨i, 4, a, b, rfl, hset, hb, by decide, by decide, fun g a b g0 g1 hb => ?_⟩
      have : g = 0 ∨ g = 1 ∨ g = 2 ∨ g = 3 := by omega
      rcases this with rfl | rfl | rfl | rfl
      · try simp? only [true_and]
        exact q .was a b trivial d0 hb
      · try simp? only [true_and]
        exact q .mine a b trivial d0 hb
      · try simp? only [true_and]
        exact q .yours a b trivial d0 hb
      · try simp? only [true_and]
        exact q (.num k) a b ⟨k0, k1⟩ d0 hb
    rw [if_neg (by simpa using hz)]
    have hf : ¬ f = 0 := fun z => hz (.inl z)
    have hr3 : ¬ room < 3 := fun z => hz (.inr (.inl z))
    have hd1 : ¬ deep < 1 := fun z => hz (.inr (.inr z))
    try simp? only [true_and]
    refine seq_step ?_
    try simp? only [true_and]
    by_cases hf1 : f = 1
    · subst hf1
      try simp? only [beq_self_eq_true]
      by_cases hr4 : 3 < room
      · try simp? only [decide_eq_true hr4]
        refine seq_step ?_
        try simp? only [true_and]
        refine ⟨i, _, a, b, rfl, hset, hb, by omega, by omega, fun l a b l0 l1 hb => ?_⟩
        try simp? only [true_and]
        refine seq_step ?_
        try simp? only [true_and]
        refine ⟨i, _, a, b, rfl, hset, hb, by omega, by omega, fun m a b m0 m1 hb => ?_⟩
        try simp? only [true_and]
        refine seq_step ?_
        try simp? only [true_and]
        refine ⟨fun k ys env s => ∃ (ts : List Tt) (v : Option PV) (a b : Int), ys = ts.map Tt.pv ∧ ts.length = k ∧ (∀ t ∈ ts, t.ok ∧ (t.rank : Int) ≤ deep - 1) ∧ env = [some (PV.obj i), some (.int room), some (.int deep), some (.int 1), none, some (.int (1 + l)), some (.int (1 + m)), some (.lst [.int (1 + l), .int (1 + m), .int (room - 1 - (1 + l) - (1 + m))]), none, v] ∧ BoxOk a b ∧ s = st.set i (box a b),
          ⟨[], none, a, b, rfl, rfl, by simp, rfl, hb, rfl⟩, ?_, ?_⟩
        · rintro k x ys env s hx ⟨ts, v, a, b, rfl, hk, ht, rfl, hb, rfl⟩
          obtain ⟨p, rfl, p1, p15⟩ : ∃ p : Int, x = .int p ∧ 1 ≤ p ∧ p ≤ 15 := by
            rcases List.mem_cons.mp (List.mem_of_getElem? hx) with rfl | hx
            · exact ⟨_, rfl, by omega, by omega⟩
            rcases List.mem_cons.mp hx with rfl | hx
            · exact ⟨_, rfl, by omega, by omega⟩
            · rw [List.mem_singleton.mp hx]; exact ⟨_, rfl, by omega, by omega⟩
          try simp? only [true_and]
          refine ⟨i, p, deep - 1, a, b, rfl, hset, hb, p1, p15, by omega, by omega, fun t a b tk tr hb => ?_⟩
          try simp? only [true_and]
          refine ⟨pv_noObj t, ts ++ [t], _, a, b, by simp, by simp [hk], fun y hy => ?_, rfl, hb, rfl⟩
          rcases List.mem_append.mp hy with hy | hy
          · exact ht y hy
          · rw [List.mem_singleton.mp hy]; exact ⟨tk, tr⟩
        · rintro ys env s ⟨ts, v, a, b, rfl, hk, ht, rfl, hb, rfl⟩
          rcases ts with _ | ⟨t1, _ | ⟨t2, _ | ⟨t3, _ | ⟨t4, ts⟩⟩⟩⟩ <;> try (simp at hk; done)
          have h1 := ht t1 (by simp)
          have h2 := ht t2 (by simp)
          have h3 := ht t3 (by simp)
          try simp? only [true_and]
          refine ⟨by decide, ?_⟩
          exact q (.ite t1 t2 t3) a b ⟨h1.1, h2.1, h3.1⟩ (by show ((max t1.rank (max t2.rank t3.rank) + 1 : Nat) : Int) ≤ deep; omega) hb
      · try simp? only [decide_eq_false hr4]
        refine seq_step ?_
        try simp? only [true_and]
        refine ⟨i, _, a, b, rfl, hset, hb, by omega, by omega, fun l a b l0 l1 hb => ?_⟩
        try simp? only [true_and]
        refine seq_step ?_
        try simp? only [true_and]
        refine ⟨i, 1 + l, deep - 1, a, b, rfl, hset, hb, by omega, by omega, by omega, by omega, fun t1 a b tk1 tr1 hb => ?_⟩
        try simp? only [true_and]
        refine ⟨i, 5, a, b, rfl, hset, hb, by decide, by decide, fun g a b g0 g1 hb => ?_⟩
        obtain ⟨c, hc, hs⟩ := sgn_at g g0 g1
        try simp? only [hc]
        refine ⟨Nat.le_trans (m := 1000) (by decide +kernel) (by decide), i, room - 1 - (1 + l), deep - 1, a, b, rfl, hset, hb, by omega, by omega, by omega, by omega, fun t2 a b tk2 tr2 hb => ?_⟩
        try simp? only [pv_noObj]
        exact q (.op ⟨#[c]⟩ t1 t2) a b ⟨hs, tk1, tk2⟩ (by show ((max t1.rank t2.rank + 1 : Nat) : Int) ≤ deep; omega) hb
    have nf1 : (f == 1) = false := by simpa using hf1
    try simp? only [nf1]
    refine seq_step ?_
    try simp? only [true_and]
    refine ⟨i, _, a, b, rfl, hset, hb, by omega, by omega, fun l a b l0 l1 hb => ?_⟩
    try simp? only [true_and]
    refine seq_step ?_
    try simp? only [true_and]
    refine ⟨i, 1 + l, deep - 1, a, b, rfl, hset, hb, by omega, by omega, by omega, by omega, fun t1 a b tk1 tr1 hb => ?_⟩
    try simp? only [true_and]
    refine ⟨i, 5, a, b, rfl, hset, hb, by decide, by decide, fun g a b g0 g1 hb => ?_⟩
    obtain ⟨c, hc, hs⟩ := sgn_at g g0 g1
    try simp? only [hc]
    refine ⟨Nat.le_trans (m := 1000) (by decide +kernel) (by decide), i, room - 1 - (1 + l), deep - 1, a, b, rfl, hset, hb, by omega, by omega, by omega, by omega, fun t2 a b tk2 tr2 hb => ?_⟩
    try simp? only [pv_noObj]
    exact q (.op ⟨#[c]⟩ t1 t2) a b ⟨hs, tk1, tk2⟩ (by show ((max t1.rank t2.rank + 1 : Nat) : Int) ≤ deep; omega) hb
theorem nd1 : (["n", "many", "tuples", "place", "longer", "begin", "number"] : List Str).Nodup := by decide +kernel
theorem ok_tuples_below {f : Addr} {fd : FuncData} (M : Mo K mg) (F : Fun K "tuples_below" "tuples_below" stuples_below f fd) : FnOk P w K mg base CX0 1 f fd ["n", "many"] (sp2 K spTB) := by
  refine ok3 0 F sctuples_below (fun xs st Q h => by obtain ⟨n, m, rfl, _⟩ := h; rfl) ⟨_, fun cdv A outer s H E hr => (qss_cons (qs_set (i := 2) sctuples_below.nd rfl (Or.inl rfl) (q_lst (qa_cons (q_tup qa_nil) qa_nil)))
      (qss_cons (qs_for PassesOwn.never rfl (qi_rng1 (by rfl) M.range (qa_cons (qv 1) qa_nil)) (qg_name (i := 3) sctuples_below.nd rfl (Or.inl rfl)) (qss_cons (qs_set (i := 4) sctuples_below.nd rfl (Or.inl rfl) (q_lstO qa_nil))
      (qss_cons (qs_for PassesOwn.never rfl (qi_any (qv 2)) (qg_name (i := 5) sctuples_below.nd rfl (Or.inr rfl)) (qss_one (qs_expr (q_bm PySem.F.plainAttrs_list PySem.F.slot_list_extend PySem.F.type_list_extend (by decide) o_extend (qv 4) (qa_cons (q_comp (own := ["number"]) (comp_scope (fsc := defScope stuples_below) (N := ["n", "many", "tuples", "place", "longer", "begin"]) (N' := ["n", "many", "tuples", "place", "longer", "begin"]) rfl rfl (by decide +kernel)) rfl (qi_rng1 (by rfl) M.range (qa_cons (qv 0) qa_nil)) (fun C s H fp pins => (qg_name (i := 6) nd1 rfl (Or.inl rfl))) (fun C s H fp pins => qf_nil) (fun C s H fp pins => (q_op o_add (qv 5) (q_tup (qa_cons (qv 6) qa_nil))))) qa_nil)))))
      (qss_one (qs_set (i := 2) sctuples_below.nd rfl (Or.inl rfl) (qv 4))))))
      (qss_one (qs_ret (qv 2))))), fun xs st Q h => ?_⟩
  obtain ⟨n, m, rfl, hn, hm, q⟩ := h
  refine seq_step ?_
  try simp? only [true_and]
  refine seq_step ?_
  try simp? only [true_and]
  refine ⟨⟨by omega, by omega⟩, ?_⟩
  refine for_by (fun k env s => ∃ (x : PV) (v3 v4 v5 : Option PV), env = [some (PV.int n), some (.int m), some x, v3, v4, v5] ∧ RowAt x st s ((tups n k).map tupP) ∧ s.take st.length = st) ⟨.lst [.tup []], none, none, none, rfl, .inl rfl, List.take_length⟩ ?_ ?_
  · rintro k y env s hy ⟨x, v3, v4, v5, rfl, hx, hs⟩
    obtain ⟨hk, rfl⟩ := rngL_at hy
    have hsl : st.length ≤ s.length := by
      have := congrArg List.length hs
      rw [List.length_take] at this; omega
    try simp? only [true_and]
    refine seq_step ?_
    try simp? only [true_and]
    refine seq_step ?_
    rcases hx with rfl | ⟨j, rfl, hj, hxs⟩
    · try simp? only [true_and]
      refine for_by (fun i env s' => ∃ v5 : Option PV, env = [some (PV.int n), some (.int m), some (.lst ((tups n k).map tupP)), some (.int (0 + k)), some (.obj s.length), v5] ∧ s' = s ++ [.lst ((((tups n k).take i).flatMap (ext1 n)).map tupP)]) ⟨_, rfl, rfl⟩ ?_ ?_
      · rintro i y env s' hy ⟨v5, rfl, rfl⟩
        obtain ⟨b, hb, rfl⟩ := map_at hy
        have hil := (List.getElem?_eq_some_iff.mp hb).1
        have bl := (tups_in (List.mem_of_getElem? hb)).1
        try simp? only [true_and]
        refine ⟨⟨by omega, by omega⟩, ?_⟩
        refine comp_pure (ext1P b) (fun j z e hz he => ?_) ?_
        · obtain ⟨hj, rfl⟩ := rngL_at hz
          obtain ⟨y, rfl⟩ := len1 he
          unfold tupP
          try simp? only [true_and]
          refine ⟨Nat.le_trans (m := 1000) (by rw [List.length_map]; simp; omega) (by decide), ?_⟩
          exact CP.yes (e' := [_]) hz (by show some (tupP (b ++ [0 + (j : Int)])) = _; unfold tupP; rw [List.map_append]; rfl) rfl
        rw [ext1_all]
        try simp? only [List.length_map, flat_len, ext1_len]
        have hle : ((tups n k).take i).length * n ≤ 3125 * 5 := by
          have h1 : ((tups n k).take i).length ≤ n ^ k := by rw [← tups_len, List.length_take]; omega
          exact Nat.mul_le_mul (Nat.le_trans h1 (pow_le hn (by omega))) hn
        refine ⟨Nat.le_trans (m := 20000) (by omega) (by decide), _, rfl, ?_⟩
        rw [take_succ' hb, List.flatMap_append, List.map_append]
        simp
      · rintro env s' ⟨v5, rfl, rfl⟩
        rw [List.length_map, List.take_of_length_le (Nat.le_refl _)]
        try simp? only [true_and]
        exact ⟨_, _, _, _, rfl, .inr ⟨s.length, rfl, hsl, len_at⟩, by rw [List.take_append_of_le_length hsl]; exact hs⟩
    · have hat : ∀ {o : PO}, (s ++ [o])[j]? = some (.lst ((tups n k).map tupP)) := get_app hxs
      try simp? only [hat]
      refine for_by (fun i env s' => ∃ v5 : Option PV, env = [some (PV.int n), some (.int m), some (.obj j), some (.int (0 + k)), some (.obj s.length), v5] ∧ s' = s ++ [.lst ((((tups n k).take i).flatMap (ext1 n)).map tupP)]) ⟨_, rfl, rfl⟩ ?_ ?_
      · rintro i y env s' hy ⟨v5, rfl, rfl⟩
        obtain ⟨b, hb, rfl⟩ := map_at hy
        have hil := (List.getElem?_eq_some_iff.mp hb).1
        have bl := (tups_in (List.mem_of_getElem? hb)).1
        try simp? only [hat]
        refine ⟨⟨by omega, by omega⟩, ?_⟩
        refine comp_pure (ext1P b) (fun j z e hz he => ?_) ?_
        · obtain ⟨hj, rfl⟩ := rngL_at hz
          obtain ⟨y, rfl⟩ := len1 he
          unfold tupP
          try simp? only [true_and]
          refine ⟨Nat.le_trans (m := 1000) (by rw [List.length_map]; simp; omega) (by decide), ?_⟩
          exact CP.yes (e' := [_]) hz (by show some (tupP (b ++ [0 + (j : Int)])) = _; unfold tupP; rw [List.map_append]; rfl) rfl
        rw [ext1_all]
        try simp? only [List.length_map, flat_len, ext1_len]
        have hle : ((tups n k).take i).length * n ≤ 3125 * 5 := by
          have h1 : ((tups n k).take i).length ≤ n ^ k := by rw [← tups_len, List.length_take]; omega
          exact Nat.mul_le_mul (Nat.le_trans h1 (pow_le hn (by omega))) hn
        refine ⟨Nat.le_trans (m := 20000) (by omega) (by decide), _, rfl, ?_⟩
        rw [take_succ' hb, List.flatMap_append, List.map_append]
        simp
      · rintro env s' ⟨v5, rfl, rfl⟩
        rw [List.length_map, List.take_of_length_le (Nat.le_refl _)]
        try simp? only [hat]
        exact ⟨_, _, _, _, rfl, .inr ⟨s.length, rfl, hsl, len_at⟩, by rw [List.take_append_of_le_length hsl]; exact hs⟩
  · rintro env s ⟨x, v3, v4, v5, rfl, hx, hs⟩
    rw [rngL_len] at hx
    try simp? only [true_and]
    rcases hx with rfl | ⟨j, rfl, hj, hxs⟩
    · show Exit st.length Q (.lst _) s
      exact (show Q (.lst _) (s.take st.length) from by rw [hs]; exact q)
    · show Exit st.length Q (.obj j) s
      unfold Exit
      dsimp only
      rw [if_neg (by omega), hxs]
      dsimp only
      rw [hs]; exact q
theorem nd2 : (["n", "rule", "f", "w", "y"] : List Str).Nodup := by decide +kernel
theorem nd3 : (["n", "rule", "f", "w", "m"] : List Str).Nodup := by decide +kernel
theorem nd4 : (["n", "rule", "f", "w", "m", "y"] : List Str).Nodup := by decide +kernel
theorem nd5 : (["n", "rule", "f", "v", "w", "m", "a", "b"] : List Str).Nodup := by decide +kernel
theorem ok_all_that_break {f : Addr} {fd : FuncData} (M : Mo K mg) (F : Fun K "all_that_break" "all_that_break" sall_that_break f fd) : FnOk P w K mg base CX0 4 f fd ["n", "rule", "f"] (sp2 K spATB) := by
  obtain ⟨ftuples_below, fdtuples_below, Ftuples_below, btuples_below, mtuples_below⟩ := M.tuples_below
  have Gtuples_below : FnOk P w K mg base CX0 1 ftuples_below fdtuples_below ["n", "many"] (sp2 K spTB) := ok_tuples_below M Ftuples_below
  refine ok3 0 F scall_that_break (fun xs st Q h => by obtain ⟨n, rule, D, F, rfl, _⟩ := h; rfl) ⟨_, fun cdv A outer s H E hr => have hr1 : Room 1 _ := hr.mono (by decide); have hr2 : Room 2 _ := hr.mono (by decide); (qss_cons (qs_if (qt_cmp (o_eq hr) (qv 1) q_str (nomark _)) (qss_one (qs_ret (q_comp (own := ["w", "y"]) (comp_scope (fsc := defScope sall_that_break) (N := ["n", "rule", "f"]) (N' := ["n", "rule", "f"]) rfl rfl (by decide +kernel)) rfl (qi_any (q_call Gtuples_below hr1 (by rfl) mtuples_below Ftuples_below.kp btuples_below (qa_cons (qv 0) (qa_cons q_int qa_nil)))) (fun C s H fp pins => (qg_tup (n := 2) rfl (qgs_cons (qg_name (i := 3) nd2 rfl (Or.inl rfl)) (qgs_cons (qg_name (i := 4) nd2 rfl (Or.inl rfl)) qgs_nil)))) (fun C s H fp pins => qf_one (qt_cmp (o_ne hr) (q_callF (i := 2) clo_ok hr2 rfl (qa_cons (qv 3) (qa_cons (qv 3) (qa_cons (qv 4) qa_nil)))) (qv 4) (nomark _))) (fun C s H fp pins => (q_tup (qa_cons (qv 3) (qa_cons (qv 4) qa_nil))))))) qss_nil)
      (qss_cons (qs_if (qt_cmp (o_eq hr) (qv 1) q_str (nomark _)) (qss_one (qs_ret (q_comp (own := ["w", "m"]) (comp_scope (fsc := defScope sall_that_break) (N := ["n", "rule", "f"]) (N' := ["n", "rule", "f"]) rfl rfl (by decide +kernel)) rfl (qi_any (q_call Gtuples_below hr1 (by rfl) mtuples_below Ftuples_below.kp btuples_below (qa_cons (qv 0) (qa_cons q_int qa_nil)))) (fun C s H fp pins => (qg_tup (n := 2) rfl (qgs_cons (qg_name (i := 3) nd3 rfl (Or.inl rfl)) (qgs_cons (qg_name (i := 4) nd3 rfl (Or.inl rfl)) qgs_nil)))) (fun C s H fp pins => qf_one (qt_cmp (o_ne hr) (q_callF (i := 2) clo_ok hr2 rfl (qa_cons (qv 3) (qa_cons (qv 4) (qa_cons (qv 3) qa_nil)))) (qv 4) (nomark _))) (fun C s H fp pins => (q_tup (qa_cons (qv 3) (qa_cons (qv 4) qa_nil))))))) qss_nil)
      (qss_cons (qs_if (qt_cmp (o_eq hr) (qv 1) q_str (nomark _)) (qss_one (qs_ret (q_comp (own := ["w", "m", "y"]) (comp_scope (fsc := defScope sall_that_break) (N := ["n", "rule", "f"]) (N' := ["n", "rule", "f"]) rfl rfl (by decide +kernel)) rfl (qi_any (q_call Gtuples_below hr1 (by rfl) mtuples_below Ftuples_below.kp btuples_below (qa_cons (qv 0) (qa_cons q_int qa_nil)))) (fun C s H fp pins => (qg_tup (n := 3) rfl (qgs_cons (qg_name (i := 3) nd4 rfl (Or.inl rfl)) (qgs_cons (qg_name (i := 4) nd4 rfl (Or.inl rfl)) (qgs_cons (qg_name (i := 5) nd4 rfl (Or.inl rfl)) qgs_nil))))) (fun C s H fp pins => qf_one (qt_cmp (o_ne hr) (q_callF (i := 2) clo_ok hr2 rfl (qa_cons (qv 3) (qa_cons (qv 4) (qa_cons (qv 5) qa_nil)))) (q_callF (i := 2) clo_ok hr2 rfl (qa_cons (qv 3) (qa_cons (qv 5) (qa_cons (qv 4) qa_nil)))) (nomark _))) (fun C s H fp pins => (q_tup (qa_cons (qv 3) (qa_cons (qv 4) (qa_cons (qv 5) qa_nil)))))))) qss_nil)
      (qss_one (qs_ret (q_comp (own := ["v", "w", "m", "a", "b"]) (comp_scope (fsc := defScope sall_that_break) (N := ["n", "rule", "f"]) (N' := ["n", "rule", "f"]) rfl rfl (by decide +kernel)) rfl (qi_any (q_call Gtuples_below hr1 (by rfl) mtuples_below Ftuples_below.kp btuples_below (qa_cons (qv 0) (qa_cons q_int qa_nil)))) (fun C s H fp pins => (qg_tup (n := 5) rfl (qgs_cons (qg_name (i := 3) nd5 rfl (Or.inl rfl)) (qgs_cons (qg_name (i := 4) nd5 rfl (Or.inl rfl)) (qgs_cons (qg_name (i := 5) nd5 rfl (Or.inl rfl)) (qgs_cons (qg_name (i := 6) nd5 rfl (Or.inl rfl)) (qgs_cons (qg_name (i := 7) nd5 rfl (Or.inl rfl)) qgs_nil))))))) (fun C s H fp pins => qf_one (qt_cmp (o_ne hr) (q_callF (i := 2) clo_ok hr2 rfl (qa_cons (qv 3) (qa_cons (q_callF (i := 2) clo_ok hr2 rfl (qa_cons (qv 4) (qa_cons (qv 5) (qa_cons (qv 6) qa_nil)))) (qa_cons (qv 7) qa_nil)))) (q_callF (i := 2) clo_ok hr2 rfl (qa_cons (qv 4) (qa_cons (q_callF (i := 2) clo_ok hr2 rfl (qa_cons (qv 3) (qa_cons (qv 5) (qa_cons (qv 7) qa_nil)))) (qa_cons (qv 6) qa_nil)))) (nomark _))) (fun C s H fp pins => (q_tup (qa_cons (qv 3) (qa_cons (qv 4) (qa_cons (qv 5) (qa_cons (qv 6) (qa_cons (qv 7) qa_nil))))))))))))), fun xs st Q h => ?_⟩
  obtain ⟨n, rule, D, F, rfl, hD, n5, tot, hF, hru, q⟩ := h
  have t3 : ∀ {w m y : Nat}, w < n → m < n → y < n → lookT D.kvs [(w : Int), m, y] = some (F w m y) := fun a b c => tot _ _ _ a b c
  have t4 : ∀ {w y : Nat} {z : Int}, w < n → (0 ≤ z ∧ z < n) → y < n → lookT D.kvs [(w : Int), z, y] = some (F w z y) := fun {w y z} a b c => by
    have := tot w z.toNat y a (by omega) c
    rw [show ((z.toNat : Nat) : Int) = z by omega] at this; exact this
  rcases hru with rfl | rfl | rfl | rfl
  · refine seq_step ?_
    try simp? only [beq_self_eq_true]
    refine ⟨n, 2, rfl, n5, by decide, ?_⟩
    try simp? only [true_and]
    refine comp_pure (selP (pY F)) (fun j x e hx he => ?_) ?_
    · obtain ⟨k, hk, rfl⟩ := map_at hx
      obtain ⟨w, y, rfl, hw, hy⟩ := tup2 (List.mem_of_getElem? hk)
      obtain ⟨ew, ey, rfl⟩ := len2 he
      unfold tupP
      try simp? only [true_and]
      refine ⟨D, rfl, hD, [(w : Int), (w : Int), (y : Int)], _, rfl, rfl, t3 hw hw hy, ?_⟩
      by_cases hc : (!(F w w y == y)) = true
      · rw [if_pos hc]
        try simp? only [true_and]
        exact CP.yes (e' := [_, _]) hx (sel_yes (p := pY F) (k := [(w : Int), (y : Int)]) hc) rfl
      · rw [if_neg hc]
        exact CP.no (e' := [_, _]) hx (sel_no (p := pY F) (k := [(w : Int), (y : Int)]) (Bool.eq_false_iff.mpr hc)) rfl
    rw [sel_all]
    try simp? only [true_and]
    exact q _ ⟨fun _ => rfl, fun z => absurd z (by decide +kernel), fun z => absurd z (by decide +kernel), fun z => absurd z (by decide +kernel)⟩
  · refine seq_step ?_
    try simp? only [str_ne3]
    refine seq_step ?_
    try simp? only [beq_self_eq_true]
    refine ⟨n, 2, rfl, n5, by decide, ?_⟩
    try simp? only [true_and]
    refine comp_pure (selP (pM F)) (fun j x e hx he => ?_) ?_
    · obtain ⟨k, hk, rfl⟩ := map_at hx
      obtain ⟨w, m, rfl, hw, hm⟩ := tup2 (List.mem_of_getElem? hk)
      obtain ⟨ew, em, rfl⟩ := len2 he
      unfold tupP
      try simp? only [true_and]
      refine ⟨D, rfl, hD, [(w : Int), (m : Int), (w : Int)], _, rfl, rfl, t3 hw hm hw, ?_⟩
      by_cases hc : (!(F w m w == m)) = true
      · rw [if_pos hc]
        try simp? only [true_and]
        exact CP.yes (e' := [_, _]) hx (sel_yes (p := pM F) (k := [(w : Int), (m : Int)]) hc) rfl
      · rw [if_neg hc]
        exact CP.no (e' := [_, _]) hx (sel_no (p := pM F) (k := [(w : Int), (m : Int)]) (Bool.eq_false_iff.mpr hc)) rfl
    rw [sel_all]
    try simp? only [true_and]
    exact q _ ⟨fun z => absurd z (by decide +kernel), fun _ => rfl, fun z => absurd z (by decide +kernel), fun z => absurd z (by decide +kernel)⟩
  · refine seq_step ?_
    try simp? only [str_ne5]
    refine seq_step ?_
    try simp? only [str_ne6]
    refine seq_step ?_
    try simp? only [beq_self_eq_true]
    refine ⟨n, 3, rfl, n5, by decide, ?_⟩
    try simp? only [true_and]
    refine comp_pure (selP (pE F)) (fun j x e hx he => ?_) ?_
    · obtain ⟨k, hk, rfl⟩ := map_at hx
      obtain ⟨w, m, y, rfl, hw, hm, hy⟩ := tup3 (List.mem_of_getElem? hk)
      obtain ⟨ew, em, ey, rfl⟩ := len3 he
      unfold tupP
      try simp? only [true_and]
      refine ⟨D, rfl, hD, [(w : Int), (m : Int), (y : Int)], _, rfl, rfl, t3 hw hm hy, D, rfl, hD, [(w : Int), (y : Int), (m : Int)], _, rfl, rfl, t3 hw hy hm, ?_⟩
      by_cases hc : (!(F w m y == F w y m)) = true
      · rw [if_pos hc]
        try simp? only [true_and]
        exact CP.yes (e' := [_, _, _]) hx (sel_yes (p := pE F) (k := [(w : Int), (m : Int), (y : Int)]) hc) rfl
      · rw [if_neg hc]
        exact CP.no (e' := [_, _, _]) hx (sel_no (p := pE F) (k := [(w : Int), (m : Int), (y : Int)]) (Bool.eq_false_iff.mpr hc)) rfl
    rw [sel_all]
    try simp? only [true_and]
    exact q _ ⟨fun z => absurd z (by decide +kernel), fun z => absurd z (by decide +kernel), fun _ => rfl, fun z => absurd z (by decide +kernel)⟩
  · refine seq_step ?_
    try simp? only [str_ne7]
    refine seq_step ?_
    try simp? only [str_ne8]
    refine seq_step ?_
    try simp? only [str_ne9]
    refine ⟨n, 5, rfl, n5, by decide, ?_⟩
    try simp? only [true_and]
    refine comp_pure (selP (pT F)) (fun j x e hx he => ?_) ?_
    · obtain ⟨k, hk, rfl⟩ := map_at hx
      obtain ⟨v, w, m, a, b, rfl, hv, hw, hm, ha, hb⟩ := tup5 (List.mem_of_getElem? hk)
      obtain ⟨ev, ew, em, ea, eb, rfl⟩ := len5 he
      unfold tupP
      try simp? only [true_and]
      refine ⟨D, rfl, hD, D, rfl, hD, [(w : Int), (m : Int), (a : Int)], _, rfl, rfl, t3 hw hm ha, [(v : Int), F w m a, b], _, rfl, rfl, t4 hv (hF w m a hw hm ha) hb, D, rfl, hD, D, rfl, hD, [(v : Int), (m : Int), (b : Int)], _, rfl, rfl, t3 hv hm hb, [(w : Int), F v m b, a], _, rfl, rfl, t4 hw (hF v m b hv hm hb) ha, ?_⟩
      by_cases hc : (!(F v (F w m a) b == F w (F v m b) a)) = true
      · rw [if_pos hc]
        try simp? only [true_and]
        exact CP.yes (e' := [_, _, _, _, _]) hx (sel_yes (p := pT F) (k := [(v : Int), (w : Int), (m : Int), (a : Int), (b : Int)]) hc) rfl
      · rw [if_neg hc]
        exact CP.no (e' := [_, _, _, _, _]) hx (sel_no (p := pT F) (k := [(v : Int), (w : Int), (m : Int), (a : Int), (b : Int)]) (Bool.eq_false_iff.mpr hc)) rfl
    rw [sel_all]
    try simp? only [true_and]
    exact q _ ⟨fun z => absurd z (by decide +kernel), fun z => absurd z (by decide +kernel), fun z => absurd z (by decide +kernel), fun _ => rfl⟩
theorem ok_rule_broken {T1 T2 c00 c0 fvalue_of_three : Addr} {fdvalue_of_three : FuncData} {f : Addr} {fd : FuncData} (M : Mo K mg) (FC0 : FunC K "value_of_three" "value_of_three" svalue_of_three fvalue_of_three fdvalue_of_three c00) (hC0 : PySem.W.codeHdIn K c00 T1 = true) (hB0 : base.BuiltinsAt mg T1) (Fvalue_of_three : Fun K "value_of_three" "value_of_three" svalue_of_three fvalue_of_three fdvalue_of_three) (bvalue_of_three : Binds K fdvalue_of_three ["term", "was", "mine", "yours"] []) (mvalue_of_three : mg "value_of_three" = some (.ref fvalue_of_three)) (F : FunC K "rule_broken" "rule_broken" srule_broken f fd c0) (hC : PySem.W.codeHdIn K c0 T2 = true) (hB : base.BuiltinsAt mg T2) : FnOk P w K mg base CX0 13 f fd ["n", "term", "rule"] (sp2 K (spRB T1 T2)) := by
  have Gvalue_of_three : FnOk P w K mg base CX0 11 fvalue_of_three fdvalue_of_three ["term", "was", "mine", "yours"] (sp2 K (spV3 T1)) := ok_value_of_three M FC0 hC0 hB0
  obtain ⟨ftuples_below, fdtuples_below, Ftuples_below, btuples_below, mtuples_below⟩ := M.tuples_below
  have Gtuples_below : FnOk P w K mg base CX0 1 ftuples_below fdtuples_below ["n", "many"] (sp2 K spTB) := ok_tuples_below M Ftuples_below
  obtain ⟨fall_that_break, fdall_that_break, Fall_that_break, ball_that_break, mall_that_break⟩ := M.all_that_break
  have Gall_that_break : FnOk P w K mg base CX0 4 fall_that_break fdall_that_break ["n", "rule", "f"] (sp2 K spATB) := ok_all_that_break M Fall_that_break
  refine ok3C 0 F scrule_broken (fun xs st Q h => by obtain ⟨n, t, rule, i1, i2, rfl, _⟩ := h; rfl) ⟨_, fun A outer s H E hr => have hr1 : Room 1 _ := hr.mono (by decide); have hr4 : Room 4 _ := hr.mono (by decide); have hr11 : Room 11 _ := hr.mono (by decide); (qss_cons (qs_set (i := 6) scrule_broken.nd rfl (Or.inr rfl) q_dnewT)
      (qss_cons (qs_for PassesOwn.never rfl (qi_any (q_call Gtuples_below hr1 (by rfl) mtuples_below Ftuples_below.kp btuples_below (qa_cons (qv 0) (qa_cons q_int qa_nil)))) (qg_tup (n := 3) rfl (qgs_cons (qg_name (i := 3) scrule_broken.nd rfl (Or.inl rfl)) (qgs_cons (qg_name (i := 4) scrule_broken.nd rfl (Or.inl rfl)) (qgs_cons (qg_name (i := 5) scrule_broken.nd rfl (Or.inl rfl)) qgs_nil)))) (qss_one (qs_putT hr (qv 6) (qa_cons (qv 3) (qa_cons (qv 4) (qa_cons (qv 5) qa_nil))) (q_op o_mod (q_call Gvalue_of_three hr11 (by rfl) mvalue_of_three Fvalue_of_three.kp bvalue_of_three (qa_cons (qv 1) (qa_cons (qv 3) (qa_cons (qv 4) (qa_cons (qv 5) qa_nil))))) (qv 0)))))
      (qss_one (qs_ret (q_minLam Gall_that_break hr4 (by rfl) mall_that_break Fall_that_break.kp ball_that_break rfl (by rfl) M.min rfl rfl rfl rfl rfl rfl (pv 0) (pv 2) rfl (rb_closure rfl) rfl hC hB rfl rfl rfl rfl rfl))))), fun xs st Q h => ?_⟩
  obtain ⟨n, t, rule, i1, i2, rfl, h1, h2, n2, n5, tok, trk, hru, q⟩ := h
  refine seq_step ?_
  try simp? only [true_and]
  refine seq_step ?_
  try simp? only [true_and]
  refine ⟨n, 3, rfl, n5, by decide, ?_⟩
  try simp? only [true_and]
  refine for_by (fun i env s => ∃ (v3 v4 v5 : Option PV) (kvs : List (List Int × Int)), env = [some (PV.int n), some t.pv, some (.str rule), v3, v4, v5, some (.obj st.length)] ∧ kvs.length ≤ i ∧ (∀ k ∈ (tups n 3).take i, lookT kvs k = some (F3 (valT n t) k)) ∧ s = st ++ [.itb kvs]) ⟨none, none, none, [], rfl, Nat.le_refl _, (fun k hk => by simp at hk), rfl⟩ ?_ ?_
  · rintro i x env s hx ⟨v3, v4, v5, kvs, rfl, hl, hd, rfl⟩
    obtain ⟨k, hk, rfl⟩ := map_at hx
    have hil := (List.getElem?_eq_some_iff.mp hk).1
    rw [tups_len] at hil
    have hp := pow_le n5 (show 3 ≤ 5 by decide)
    obtain ⟨a, b, c, rfl, ha, hb, hc⟩ := tup3 (List.mem_of_getElem? hk)
    unfold tupP
    try simp? only [true_and]
    refine ⟨t, a, b, c, i1, rfl, get_app h1, tok, trk, in_nat ha n5, in_nat hb n5, in_nat hc n5, ?_⟩
    try simp? only [true_and]
    refine ⟨by omega, [(a : Int), b, c], st.length, kvs, _, rfl, rfl, rfl, len_at, by simp, Nat.lt_of_lt_of_le (m := 4000) (by omega) (by decide), ?_⟩
    rw [set_at]
    refine ⟨_, _, _, _, rfl, Nat.le_trans putT_len (by omega), fun k' hk' => ?_, rfl⟩
    rw [lookT_put]
    split
    · rename_i e; rw [e]; rfl
    · rename_i e
      rw [take_succ' hk] at hk'
      rcases List.mem_append.mp hk' with h | h
      · exact hd k' h
      · exact absurd (List.mem_singleton.mp h) e
  · rintro env s ⟨v3, v4, v5, kvs, rfl, hl, hd, rfl⟩
    rw [List.length_map, List.take_of_length_le (Nat.le_refl _)] at hd
    try simp? only [true_and]
    refine ⟨n, rule, st.length, i2, kvs, valT n t, rfl, rfl, rfl, len_at, get_app h2, n5, fun w m y hw hm hy => hd _ (has3 hw hm hy), fun w m y _ _ _ => valT_in n2, hru, fun ks r hks hr => ex_res ?_⟩
    try simp? only [true_and]
    exact q r (min_rule hks hr)
theorem ok_L_whole {f : Addr} {fd : FuncData} (M : Mo K mg) (F : Fun K "_law_whole" "_law_whole" sL_whole f fd) : FnOk P w K mg base CX0 1 f fd ["_law_found"] (sp2 K spWh) := by
  refine ok3 0 F scL_whole (fun xs st Q h => by obtain ⟨f, rfl, _⟩ := h; rfl) ⟨_, fun cdv A outer s H E hr => (qss_one (qs_ret (q_and (q_callB o_isinst (by rfl) M.isinstance PyProof.Rows.boot_isinstance (qa_cons (qv 0) (qa_cons (q_ty (by rfl) M.int boot_int') qa_nil))) (q_one (q_not (q_callB o_isinst (by rfl) M.isinstance PyProof.Rows.boot_isinstance (qa_cons (qv 0) (qa_cons (q_ty (by rfl) M.bool boot_bool') qa_nil)))))))), fun xs st Q h => ?_⟩
  obtain ⟨f, rfl, q⟩ := h
  try simp? only [true_and]
  exact q
theorem ok_L_some_term {f : Addr} {fd : FuncData} (M : Mo K mg) (F : Fun K "_law_some_term" "_law_some_term" sL_some_term f fd) : FnOk P w K mg base CX0 10 f fd ["_law_box_here", "_law_n"] (sp2 K spSome) := by
  obtain ⟨fL_take, fdL_take, FL_take, bL_take, mL_take⟩ := M._law_take
  have GL_take : FnOk P w K mg base CX0 1 fL_take fdL_take ["_law_box_here", "_law_many"] (sp2 K spTake) := ok_L_take M FL_take
  obtain ⟨fL_told, fdL_told, FL_told, bL_told, mL_told⟩ := M._law_told
  have GL_told : FnOk P w K mg base CX0 9 fL_told fdL_told ["_law_box_here", "_law_room", "_law_deep"] (sp2 K (spTold 7)) := ok_L_told M FL_told bL_told mL_told 7
  refine ok3 0 F scL_some_term (fun xs st Q h => by obtain ⟨i, n, a, b, rfl, _⟩ := h; rfl) ⟨_, fun cdv A outer s H E hr => have hr1 : Room 1 _ := hr.mono (by decide); have hr9 : Room 9 _ := hr.mono (by decide); (qss_cons (qs_asg (q_tup (qa_cons (q_tup (qa_cons q_str qa_nil)) (qa_cons (q_tup (qa_cons q_str qa_nil)) (qa_cons (q_tup (qa_cons q_str qa_nil)) qa_nil)))) (qg_tup (n := 3) rfl (qgs_cons (qg_name (i := 2) scL_some_term.nd rfl (Or.inl rfl)) (qgs_cons (qg_name (i := 3) scL_some_term.nd rfl (Or.inl rfl)) (qgs_cons (qg_name (i := 4) scL_some_term.nd rfl (Or.inl rfl)) qgs_nil)))))
      (qss_cons (qs_set (i := 5) scL_some_term.nd rfl (Or.inl rfl) (q_call GL_take hr1 (by rfl) mL_take FL_take.kp bL_take (qa_cons (qv 0) (qa_cons q_int qa_nil))))
      (qss_cons (qs_if (qt_cmp o_gt (qv 5) q_int (nomark _)) (qss_one (qs_ret (q_call GL_told hr9 (by rfl) mL_told FL_told.kp bL_told (qa_cons (qv 0) (qa_cons (q_op o_add q_int (q_call GL_take hr1 (by rfl) mL_take FL_take.kp bL_take (qa_cons (qv 0) (qa_cons (q_ix (o_ix hr) (q_lst (qa_cons q_int (qa_cons q_int qa_nil))) (q_callTy o_int (by rfl) M.int boot_int' (qa_cons (q_cmp o_gt (qv 1) q_int (nomark _)) qa_nil)) (fun _ _ => rfl)) qa_nil)))) (qa_cons q_int qa_nil)))))) qss_nil)
      (qss_cons (qs_set (i := 6) scL_some_term.nd rfl (Or.inl rfl) (q_tup (qa_cons q_str (qa_cons q_str (qa_cons (q_tup (qa_cons q_str (qa_cons (q_op o_mul (qv 1) (q_op o_add q_int (q_call GL_take hr1 (by rfl) mL_take FL_take.kp bL_take (qa_cons (qv 0) (qa_cons q_int qa_nil))))) qa_nil))) (qa_cons (qv 2) qa_nil))))))
      (qss_cons (qs_set (i := 7) scL_some_term.nd rfl (Or.inl rfl) (q_lst (qa_cons (q_tup (qa_cons q_str (qa_cons (q_tup (qa_cons q_str (qa_cons q_str (qa_cons (qv 3) (qa_cons (qv 4) qa_nil))))) (qa_cons (qv 4) (qa_cons (qv 3) qa_nil))))) (qa_cons (q_tup (qa_cons q_str (qa_cons (q_tup (qa_cons q_str (qa_cons q_str (qa_cons (qv 3) (qa_cons (qv 4) qa_nil))))) (qa_cons (qv 3) (qa_cons (qv 4) qa_nil))))) (qa_cons (q_tup (qa_cons q_str (qa_cons q_str (qa_cons (qv 3) (qa_cons (q_tup (qa_cons q_str (qa_cons q_str (qa_cons (qv 4) (qa_cons (qv 6) qa_nil))))) qa_nil))))) qa_nil)))))
      (qss_cons (qs_set (i := 7) scL_some_term.nd rfl (Or.inl rfl) (q_op o_addO (qv 7) (q_lst (qa_cons (q_tup (qa_cons q_str (qa_cons (q_tup (qa_cons q_str (qa_cons q_str (qa_cons (qv 3) (qa_cons (qv 2) qa_nil))))) (qa_cons (qv 4) (qa_cons (qv 3) qa_nil))))) (qa_cons (q_tup (qa_cons q_str (qa_cons (q_tup (qa_cons q_str (qa_cons q_str (qa_cons (qv 4) (qa_cons (qv 2) qa_nil))))) (qa_cons (qv 3) (qa_cons (qv 4) qa_nil))))) (qa_cons (q_tup (qa_cons q_str (qa_cons q_str (qa_cons (qv 3) (qa_cons (qv 4) qa_nil))))) qa_nil))))))
      (qss_cons (qs_expr (q_bm PySem.F.plainAttrs_list PySem.F.slot_list_append PySem.F.type_list_append (by decide) o_append (qv 7) (qa_cons (q_tup (qa_cons q_str (qa_cons (q_tup (qa_cons q_str (qa_cons q_str (qa_cons (qv 2) (qa_cons (qv 3) qa_nil))))) (qa_cons (qv 4) (qa_cons (q_call GL_told hr9 (by rfl) mL_told FL_told.kp bL_told (qa_cons (qv 0) (qa_cons (q_op o_add q_int (q_call GL_take hr1 (by rfl) mL_take FL_take.kp bL_take (qa_cons (qv 0) (qa_cons q_int qa_nil)))) (qa_cons q_int qa_nil)))) qa_nil))))) qa_nil)))
      (qss_one (qs_ret (q_ix (o_ix hr) (qv 7) (qv 5) (fun _ _ => rfl))))))))))), fun xs st Q h => ?_⟩
  obtain ⟨i, n, a, b, rfl, hi, hb, n2, n5, q⟩ := h
  have hil := (List.getElem?_eq_some_iff.mp hi).1
  have hset : ∀ {a b : Int}, (st.set i (box a b))[i]? = some (box a b) := fun {a b} => get_set hi
  refine seq_step ?_
  try simp? only [true_and]
  refine seq_step ?_
  try simp? only [true_and]
  refine ⟨i, 9, a, b, rfl, hi, hb, by decide, by decide, fun f a b f0 f1 hb => ?_⟩
  refine seq_step ?_
  try simp? only [true_and]
  by_cases h6 : 6 < f
  · have d6 : decide ((6 : Int) < f) = true := decide_eq_true h6
    try simp? only [d6]
    obtain ⟨z, ez, z0, z1⟩ : ∃ z : Int, atI [PV.int 15, .int 9] (if decide ((3 : Int) < (n : Int)) = true then (1 : Int) else 0) = some (.int z) ∧ 0 < z ∧ z ≤ 15 := by
      split
      · exact ⟨9, rfl, by decide, by decide⟩
      · exact ⟨15, rfl, by decide, by decide⟩
    try simp? only [ez]
    refine ⟨i, z, a, b, rfl, hset, hb, z0, by omega, fun g a b g0 g1 hb => ?_⟩
    try simp? only [true_and]
    refine ⟨i, _, 6, a, b, rfl, hset, hb, by omega, by omega, by decide, by decide, fun t a b tk tr hb => ?_⟩
    refine ex_tt ?_
    try simp? only [true_and]
    exact q t a b tk (by omega) hb
  have d6 : decide ((6 : Int) < f) = false := decide_eq_false h6
  try simp? only [d6]
  refine seq_step ?_
  try simp? only [true_and]
  refine ⟨i, 9, a, b, rfl, hset, hb, by decide, by decide, fun g a b g0 g1 hb => ?_⟩
  try simp? only [true_and]
  refine ⟨.inl ⟨by omega, by omega⟩, seq_step ?_⟩
  obtain ⟨nv, env_⟩ : ∃ nv : Int, nv = n * (1 + g) := ⟨_, rfl⟩
  have nvIn : 0 ≤ nv ∧ nv < 4294967296 := by
    have h1 : 0 ≤ 1 + g := by omega
    have h2 : 0 ≤ (n : Int) * (1 + g) := Int.mul_nonneg (by omega) h1
    have h3 : (n : Int) * (1 + g) ≤ 5 * 9 := Int.mul_le_mul (by omega) (by omega) h1 (by decide)
    rw [env_]; omega
  rw [← env_]
  try simp? only [true_and]
  refine seq_step ?_
  try simp? only [rAddO3, lstOf]
  refine ⟨(tlA nv).map Tt.pv, tlB.map Tt.pv, rfl, rfl, Nat.le_trans (m := 1000) (by simp [tlA, tlB]) (by decide), ?_⟩
  have zok := tl_ok nvIn
  have zlen : (tlA nv ++ tlB).length = 6 := rfl
  rw [← List.map_append]
  generalize tlA nv ++ tlB = zs at zok zlen ⊢
  have hset2 : ∀ {a b : Int} {o : PO}, (st.set i (box a b) ++ [o])[i]? = some (box a b) := fun {a b o} => get_app hset
  have hput : ∀ {a b c d : Int} {o : PO}, (st.set i (box a b) ++ [o]).set i (box c d) = st.set i (box c d) ++ [o] := fun {a b c d o} => by rw [set_app (by rw [List.length_set]; exact hil), set_set]
  have hsl : ∀ {o : PO}, (st.set i o).length = st.length := List.length_set
  have hat : ∀ {a b : Int} {o : PO}, (st.set i (box a b) ++ [o])[st.length]? = some o := fun {a b o} => by rw [← hsl (o := box a b)]; exact len_at
  have hst2 : ∀ {a b : Int} {o o' : PO}, (st.set i (box a b) ++ [o]).set st.length o' = st.set i (box a b) ++ [o'] := fun {a b o o'} => by rw [← hsl (o := box a b)]; exact set_at
  have htk : ∀ {a b : Int} {o : PO}, (st.set i (box a b) ++ [o]).take st.length = st.set i (box a b) := fun {a b o} => by rw [← hsl (o := box a b)]; exact take_at
  rw [hsl]
  refine seq_step ?_
  try simp? only [hat]
  refine ⟨i, 8, a, b, rfl, hset2, hb, by decide, by decide, fun e a b e0 e1 hb => ?_⟩
  try simp? only [hput]
  refine ⟨i, _, 3, a, b, rfl, hset2, hb, by omega, by omega, by decide, by decide, fun t a b tk tr hb => ?_⟩
  obtain ⟨u, hu, eu⟩ := at_has Tt.pv (ns := zs ++ [.ite (.op "=" .was .mine) .yours t]) (k := f) f0 (by rw [List.length_append, zlen]; show f < 7; omega)
  rw [List.map_append] at eu
  have eu' : atI (zs.map Tt.pv ++ [PV.tup [.str "if", .tup [.str "op", .str "=", .tup [.str "was"], .tup [.str "mine"]], .tup [.str "yours"], t.pv]]) f = some u.pv := eu
  have uok : u.ok ∧ u.rank < 7 := by
    rcases List.mem_append.mp hu with h | h
    · exact zok u h
    · rw [List.mem_singleton.mp h]
      refine ⟨⟨⟨sg_eq, trivial, trivial⟩, trivial, tk⟩, ?_⟩
      show max (max 0 0 + 1) (max 0 t.rank) + 1 < 7
      omega
  have lz : (zs.map Tt.pv).length = 6 := by rw [List.length_map]; exact zlen
  try simp? only [hput, hat, hst2, pv_noObj, lz, eu']
  refine ⟨Nat.lt_of_lt_of_le (m := 1000) (by decide) (by decide), ex_tt ?_⟩
  rw [htk]
  exact q u a b uok.1 uok.2 hb
theorem ok_joined {T1 c00 fvalue_of_three : Addr} {fdvalue_of_three : FuncData} {f : Addr} {fd : FuncData} (M : Mo K mg) (FC0 : FunC K "value_of_three" "value_of_three" svalue_of_three fvalue_of_three fdvalue_of_three c00) (hC0 : PySem.W.codeHdIn K c00 T1 = true) (hB0 : base.BuiltinsAt mg T1) (Fvalue_of_three : Fun K "value_of_three" "value_of_three" svalue_of_three fvalue_of_three fdvalue_of_three) (bvalue_of_three : Binds K fdvalue_of_three ["term", "was", "mine", "yours"] []) (mvalue_of_three : mg "value_of_three" = some (.ref fvalue_of_three)) (F : Fun K "joined" "joined" sjoined f fd) : FnOk P w K mg base CX0 12 f fd ["manner", "was", "mine", "yours", "wrote"] (sp2 K (spJT T1)) := by
  have Gvalue_of_three : FnOk P w K mg base CX0 11 fvalue_of_three fdvalue_of_three ["term", "was", "mine", "yours"] (sp2 K (spV3 T1)) := ok_value_of_three M FC0 hC0 hB0
  refine ok3 0 F scjoined (fun xs st Q h => by obtain ⟨n, t, w, m, y, i, rfl, _⟩ := h; rfl) ⟨_, fun cdv A outer s H E hr => have hr11 : Room 11 _ := hr.mono (by decide); (qss_cons (qs_if (qt_cmp (o_eq hr) (q_ix (o_ix hr) (qv 0) q_int (fun _ _ => rfl)) q_str (nomark _)) (qss_one qs_never) qss_nil)
      (qss_cons (qs_if (qt_cmp (o_eq hr) (q_ix (o_ix hr) (qv 0) q_int (fun _ _ => rfl)) q_str (nomark _)) (qss_one qs_never) qss_nil)
      (qss_cons (qs_if (qt_cmp (o_eq hr) (q_ix (o_ix hr) (qv 0) q_int (fun _ _ => rfl)) q_str (nomark _)) (qss_one qs_never) qss_nil)
      (qss_cons (qs_if (qt_not (qt_tru (qv 4))) (qss_one qs_never) qss_nil)
      (qss_cons (qs_if (qt_cmp (o_eq hr) (q_ix (o_ix hr) (qv 0) q_int (fun _ _ => rfl)) q_str (nomark _)) (qss_one (qs_ret (q_op o_mod (q_call Gvalue_of_three hr11 (by rfl) mvalue_of_three Fvalue_of_three.kp bvalue_of_three (qa_cons (q_ix (o_ix hr) (qv 0) q_int (fun _ _ => rfl)) (qa_cons (qv 1) (qa_cons (qv 2) (qa_cons (qv 3) qa_nil))))) (q_ix (o_ix hr) (qv 0) q_int (fun _ _ => rfl))))) qss_nil)
      (qss_one qs_never)))))), fun xs st Q h => ?_⟩
  obtain ⟨n, t, w, m, y, i, rfl, hi, tok, trk, hw, hm, hy, hn, q⟩ := h
  refine seq_step ?_
  try simp? only [told_sum]
  refine seq_step ?_
  try simp? only [told_bag]
  refine seq_step ?_
  try simp? only [told_row]
  refine seq_step ?_
  try simp? only [true_and]
  refine seq_step ?_
  try simp? only [beq_self_eq_true]
  refine ⟨t, w, m, y, i, rfl, hi, tok, trk, hw, hm, hy, ?_⟩
  try simp? only [true_and]
  exact ⟨hn, q⟩
theorem ok_L_join {T1 c00 fvalue_of_three : Addr} {fdvalue_of_three : FuncData} {f : Addr} {fd : FuncData} (M : Mo K mg) (FC0 : FunC K "value_of_three" "value_of_three" svalue_of_three fvalue_of_three fdvalue_of_three c00) (hC0 : PySem.W.codeHdIn K c00 T1 = true) (hB0 : base.BuiltinsAt mg T1) (Fvalue_of_three : Fun K "value_of_three" "value_of_three" svalue_of_three fvalue_of_three fdvalue_of_three) (bvalue_of_three : Binds K fdvalue_of_three ["term", "was", "mine", "yours"] []) (mvalue_of_three : mg "value_of_three" = some (.ref fvalue_of_three)) (F : Fun K "_law_join" "_law_join" sL_join f fd) : FnOk P w K mg base CX0 13 f fd ["_law_n", "_law_term", "_law_was", "_law_mine", "_law_yours"] (sp2 K (spLJ T1)) := by
  obtain ⟨fjoined, fdjoined, Fjoined, bjoined, mjoined⟩ := M.joined
  have Gjoined : FnOk P w K mg base CX0 12 fjoined fdjoined ["manner", "was", "mine", "yours", "wrote"] (sp2 K (spJT T1)) := ok_joined M FC0 hC0 hB0 Fvalue_of_three bvalue_of_three mvalue_of_three Fjoined
  refine ok3 0 F scL_join (fun xs st Q h => by obtain ⟨n, t, w, m, y, i, rfl, _⟩ := h; rfl) ⟨_, fun cdv A outer s H E hr => have hr12 : Room 12 _ := hr.mono (by decide); (qss_one (qs_ret (q_call Gjoined hr12 (by rfl) mjoined Fjoined.kp bjoined (qa_cons (q_tup (qa_cons q_str (qa_cons (qv 0) (qa_cons (qv 1) qa_nil)))) (qa_cons (qv 2) (qa_cons (qv 3) (qa_cons (qv 4) (qa_cons q_bl qa_nil)))))))), fun xs st Q h => ?_⟩
  obtain ⟨n, t, w, m, y, i, rfl, hi, n2, tok, trk, hw, hm, hy, q⟩ := h
  try simp? only [pv_noObj]
  refine ⟨n, t, w, m, y, i, rfl, hi, tok, trk, hw, hm, hy, by omega, ?_⟩
  try simp? only [true_and]
  exact q
theorem ok_L_folded {T1 c00 fvalue_of_three : Addr} {fdvalue_of_three : FuncData} {f : Addr} {fd : FuncData} (M : Mo K mg) (FC0 : FunC K "value_of_three" "value_of_three" svalue_of_three fvalue_of_three fdvalue_of_three c00) (hC0 : PySem.W.codeHdIn K c00 T1 = true) (hB0 : base.BuiltinsAt mg T1) (Fvalue_of_three : Fun K "value_of_three" "value_of_three" svalue_of_three fvalue_of_three fdvalue_of_three) (bvalue_of_three : Binds K fdvalue_of_three ["term", "was", "mine", "yours"] []) (mvalue_of_three : mg "value_of_three" = some (.ref fvalue_of_three)) (F : Fun K "_law_folded" "_law_folded" sL_folded f fd) : FnOk P w K mg base CX0 14 f fd ["_law_n", "_law_term", "_law_mine", "_law_pairs"] (sp2 K (spFold T1)) := by
  obtain ⟨fL_join, fdL_join, FL_join, bL_join, mL_join⟩ := M._law_join
  have GL_join : FnOk P w K mg base CX0 13 fL_join fdL_join ["_law_n", "_law_term", "_law_was", "_law_mine", "_law_yours"] (sp2 K (spLJ T1)) := ok_L_join M FC0 hC0 hB0 Fvalue_of_three bvalue_of_three mvalue_of_three FL_join
  refine ok3 0 F scL_folded (fun xs st Q h => by obtain ⟨n, t, m, ps, z, i, rfl, _⟩ := h; rfl) ⟨_, fun cdv A outer s H E hr => have hr13 : Room 13 _ := hr.mono (by decide); (qss_cons (qs_for PassesOwn.never rfl (qi_any (qv 3)) (qg_tup (n := 2) rfl (qgs_cons (qg_name (i := 4) scL_folded.nd rfl (Or.inl rfl)) (qgs_cons (qg_name (i := 5) scL_folded.nd rfl (Or.inl rfl)) qgs_nil))) (qss_one (qs_set (i := 2) scL_folded.nd rfl (Or.inl rfl) (q_call GL_join hr13 (by rfl) mL_join FL_join.kp bL_join (qa_cons (qv 0) (qa_cons (qv 1) (qa_cons (qv 4) (qa_cons (qv 2) (qa_cons (qv 5) qa_nil)))))))))
      (qss_one (qs_ret (qv 2)))), fun xs st Q h => ?_⟩
  obtain ⟨n, t, m, ps, z, i, rfl, hz, hi, n2, n5, tok, trk, hm, hps, q⟩ := h
  rcases hz with rfl | ⟨j, rfl, hj⟩
  · refine seq_step ?_
    try simp? only [true_and]
    refine for_by (fun k env s => ∃ (v4 v5 : Option PV), env = [some (PV.int n), some t.pv, some (.int (foldT (valT n t) m (ps.take k))), some (.lst (ps.map prP)), v4, v5] ∧ s = st) ⟨none, none, rfl, rfl⟩ ?_ ?_
    · rintro k x env s hx ⟨v4, v5, rfl, rfl⟩
      obtain ⟨p, hk, rfl⟩ := map_at hx
      have hp := prs_in hps hk
      unfold prP
      try simp? only [true_and]
      refine ⟨n, t, _, _, _, i, rfl, hi, n2, tok, trk, in_nat hp.1 n5, in_rng n5 (fold_in n2 hm), in_nat hp.2 n5, ?_⟩
      try simp? only [true_and]
      exact ⟨_, _, by rw [take_succ' hk]; unfold foldT; rw [List.foldl_append]; rfl⟩
    · rintro env s ⟨v4, v5, rfl, rfl⟩
      rw [List.length_map, List.take_of_length_le (Nat.le_refl _)]
      try simp? only [true_and]
      exact q
  · refine seq_step ?_
    try simp? only [hj]
    refine for_by (fun k env s => ∃ (v4 v5 : Option PV), env = [some (PV.int n), some t.pv, some (.int (foldT (valT n t) m (ps.take k))), some (.obj j), v4, v5] ∧ s = st) ⟨none, none, rfl, rfl⟩ ?_ ?_
    · rintro k x env s hx ⟨v4, v5, rfl, rfl⟩
      refine ⟨hj, ?_⟩
      obtain ⟨p, hk, rfl⟩ := map_at hx
      have hp := prs_in hps hk
      unfold prP
      try simp? only [true_and]
      refine ⟨n, t, _, _, _, i, rfl, hi, n2, tok, trk, in_nat hp.1 n5, in_rng n5 (fold_in n2 hm), in_nat hp.2 n5, ?_⟩
      try simp? only [true_and]
      exact ⟨_, _, by rw [take_succ' hk]; unfold foldT; rw [List.foldl_append]; rfl⟩
    · rintro env s ⟨v4, v5, rfl, rfl⟩
      refine ⟨hj, ?_⟩
      rw [List.length_map, List.take_of_length_le (Nat.le_refl _)]
      try simp? only [true_and]
      exact q
theorem ok_L_breaks {T1 T2 c00 c10 fvalue_of_three frule_broken : Addr} {fdvalue_of_three fdrule_broken : FuncData} {f : Addr} {fd : FuncData} (M : Mo K mg) (FC0 : FunC K "value_of_three" "value_of_three" svalue_of_three fvalue_of_three fdvalue_of_three c00) (hC0 : PySem.W.codeHdIn K c00 T1 = true) (hB0 : base.BuiltinsAt mg T1) (Fvalue_of_three : Fun K "value_of_three" "value_of_three" svalue_of_three fvalue_of_three fdvalue_of_three) (bvalue_of_three : Binds K fdvalue_of_three ["term", "was", "mine", "yours"] []) (mvalue_of_three : mg "value_of_three" = some (.ref fvalue_of_three)) (FC1 : FunC K "rule_broken" "rule_broken" srule_broken frule_broken fdrule_broken c10) (hC1 : PySem.W.codeHdIn K c10 T2 = true) (hB1 : base.BuiltinsAt mg T2) (Frule_broken : Fun K "rule_broken" "rule_broken" srule_broken frule_broken fdrule_broken) (brule_broken : Binds K fdrule_broken ["n", "term", "rule"] []) (mrule_broken : mg "rule_broken" = some (.ref frule_broken)) (F : Fun K "_law_breaks" "_law_breaks" sL_breaks f fd) : FnOk P w K mg base CX0 14 f fd ["_law_n", "_law_term"] (sp2 K (spBrk T1 T2)) := by
  have Grule_broken : FnOk P w K mg base CX0 13 frule_broken fdrule_broken ["n", "term", "rule"] (sp2 K (spRB T1 T2)) := ok_rule_broken M FC0 hC0 hB0 Fvalue_of_three bvalue_of_three mvalue_of_three FC1 hC1 hB1
  obtain ⟨fL_join, fdL_join, FL_join, bL_join, mL_join⟩ := M._law_join
  have GL_join : FnOk P w K mg base CX0 13 fL_join fdL_join ["_law_n", "_law_term", "_law_was", "_law_mine", "_law_yours"] (sp2 K (spLJ T1)) := ok_L_join M FC0 hC0 hB0 Fvalue_of_three bvalue_of_three mvalue_of_three FL_join
  refine ok3 0 F scL_breaks (fun xs st Q h => by obtain ⟨n, t, i1, i2, rfl, _⟩ := h; rfl) ⟨_, fun cdv A outer s H E hr => have hr13 : Room 13 _ := hr.mono (by decide); (qss_cons (qs_set (i := 2) scL_breaks.nd rfl (Or.inl rfl) (q_call Grule_broken hr13 (by rfl) mrule_broken Frule_broken.kp brule_broken (qa_cons (qv 0) (qa_cons (qv 1) (qa_cons q_str qa_nil)))))
      (qss_cons (qs_if (PW.pt (qw_and (qt_cmp o_notN (qv 2) q_non (nomark _)) (qw_and1 (qt_cmp (o_eq hr) (q_call GL_join hr13 (by rfl) mL_join FL_join.kp bL_join (qa_cons (qv 0) (qa_cons (qv 1) (qa_cons (q_ix (o_ix hr) (qv 2) q_int (fun _ _ => rfl)) (qa_cons (q_ix (o_ix hr) (qv 2) q_int (fun _ _ => rfl)) (qa_cons (q_ix (o_ix hr) (qv 2) q_int (fun _ _ => rfl)) qa_nil)))))) (q_ix (o_ix hr) (qv 2) q_int (fun _ _ => rfl)) (nomark _))))) (qss_one (qs_ret q_bl)) qss_nil)
      (qss_cons (qs_set (i := 3) scL_breaks.nd rfl (Or.inl rfl) (q_call Grule_broken hr13 (by rfl) mrule_broken Frule_broken.kp brule_broken (qa_cons (qv 0) (qa_cons (qv 1) (qa_cons q_str qa_nil)))))
      (qss_cons (qs_if (PW.pt (qw_and (qt_cmp o_notN (qv 3) q_non (nomark _)) (qw_and1 (qt_cmp (o_eq hr) (q_call GL_join hr13 (by rfl) mL_join FL_join.kp bL_join (qa_cons (qv 0) (qa_cons (qv 1) (qa_cons (q_ix (o_ix hr) (qv 3) q_int (fun _ _ => rfl)) (qa_cons (q_ix (o_ix hr) (qv 3) q_int (fun _ _ => rfl)) (qa_cons (q_ix (o_ix hr) (qv 3) q_int (fun _ _ => rfl)) qa_nil)))))) (q_ix (o_ix hr) (qv 3) q_int (fun _ _ => rfl)) (nomark _))))) (qss_one (qs_ret q_bl)) qss_nil)
      (qss_cons (qs_set (i := 4) scL_breaks.nd rfl (Or.inl rfl) (q_call Grule_broken hr13 (by rfl) mrule_broken Frule_broken.kp brule_broken (qa_cons (qv 0) (qa_cons (qv 1) (qa_cons q_str qa_nil)))))
      (qss_cons (qs_if (qt_cmp o_isN (qv 4) q_non (nomark _)) (qss_one (qs_ret q_bl)) qss_nil)
      (qss_cons (qs_asg (qv 4) (qg_tup (n := 3) rfl (qgs_cons (qg_name (i := 5) scL_breaks.nd rfl (Or.inl rfl)) (qgs_cons (qg_name (i := 6) scL_breaks.nd rfl (Or.inl rfl)) (qgs_cons (qg_name (i := 7) scL_breaks.nd rfl (Or.inl rfl)) qgs_nil)))))
      (qss_one (qs_ret (q_cmp (o_ne hr) (q_call GL_join hr13 (by rfl) mL_join FL_join.kp bL_join (qa_cons (qv 0) (qa_cons (qv 1) (qa_cons (qv 5) (qa_cons (qv 6) (qa_cons (qv 7) qa_nil)))))) (q_call GL_join hr13 (by rfl) mL_join FL_join.kp bL_join (qa_cons (qv 0) (qa_cons (qv 1) (qa_cons (qv 5) (qa_cons (qv 7) (qa_cons (qv 6) qa_nil)))))) (nomark _))))))))))), fun xs st Q h => ?_⟩
  obtain ⟨n, t, i1, i2, rfl, h1, h2, n2, n5, tok, trk, q⟩ := h
  refine seq_step ?_
  try simp? only [true_and]
  refine ⟨n, t, "yours", i1, i2, rfl, h1, h2, n2, n5, tok, trk, .inl rfl, fun r hr => ?_⟩
  try simp? only [true_and]
  refine seq_cut (fun env s' => env = [some (PV.int n), some t.pv, some (resP r), none, none, none, none, none] ∧ s' = st) (fun N hN => ?_) ?_
  · have hr1 := hr.1 rfl
    cases r with
    | none =>
      unfold resP
      try simp? only [true_and]
      exact hN _ _ ⟨rfl, rfl⟩
    | some k =>
      obtain ⟨a, b, rfl, ha, hb⟩ := tup2 hr1.1
      have hne : (valT n t a a b == (b : Int)) = false := by have := hr1.2.1; unfold pY at this; simpa using this
      unfold resP tupP
      try simp? only [true_and]
      refine ⟨n, t, _, _, _, i1, rfl, h1, n2, tok, trk, in_nat ha n5, in_nat ha n5, in_nat hb n5, ?_⟩
      try simp? only [hne]
      exact hN _ _ ⟨rfl, rfl⟩
  rintro env s' ⟨rfl, rfl⟩
  refine seq_step ?_
  try simp? only [true_and]
  refine ⟨n, t, "mine", i1, i2, rfl, h1, h2, n2, n5, tok, trk, .inr (.inl rfl), fun r2 hr2 => ?_⟩
  try simp? only [true_and]
  refine seq_cut (fun env s2 => env = [some (PV.int n), some t.pv, some (resP r), some (resP r2), none, none, none, none] ∧ s2 = s') (fun N hN => ?_) ?_
  · have hr1 := hr2.2.1 rfl
    cases r2 with
    | none =>
      unfold resP
      try simp? only [true_and]
      exact hN _ _ ⟨rfl, rfl⟩
    | some k =>
      obtain ⟨a, b, rfl, ha, hb⟩ := tup2 hr1.1
      have hne : (valT n t a b a == (b : Int)) = false := by have := hr1.2.1; unfold pM at this; simpa using this
      generalize resP r = rr at hN ⊢
      unfold resP tupP
      try simp? only [true_and]
      refine ⟨n, t, _, _, _, i1, rfl, h1, n2, tok, trk, in_nat ha n5, in_nat hb n5, in_nat ha n5, ?_⟩
      try simp? only [hne]
      exact hN _ _ ⟨rfl, rfl⟩
  rintro env s2 ⟨rfl, rfl⟩
  refine seq_step ?_
  try simp? only [true_and]
  refine ⟨n, t, "either", i1, i2, rfl, h1, h2, n2, n5, tok, trk, .inr (.inr (.inl rfl)), fun r3 hr3 => ?_⟩
  try simp? only [true_and]
  have hr1 := hr3.2.2.1 rfl
  generalize resP r = rr
  generalize resP r2 = rr2
  cases r3 with
  | none =>
    unfold resP
    refine seq_step ?_
    try simp? only [true_and]
    exact q
  | some k =>
    obtain ⟨a, b, c, rfl, ha, hb, hc⟩ := tup3 hr1.1
    have hne : (valT n t a b c == valT n t a c b) = false := by have := hr1.2.1; unfold pE at this; simpa using this
    unfold resP tupP
    refine seq_step ?_
    try simp? only [true_and]
    refine seq_step ?_
    try simp? only [true_and]
    refine ⟨n, t, _, _, _, i1, rfl, h1, n2, tok, trk, in_nat ha n5, in_nat hb n5, in_nat hc n5, ?_⟩
    try simp? only [true_and]
    refine ⟨n, t, _, _, _, i1, rfl, h1, n2, tok, trk, in_nat ha n5, in_nat hc n5, in_nat hb n5, ?_⟩
    try simp? only [hne]
    exact q
theorem ok_L_keeps {T1 T2 c00 c10 fvalue_of_three frule_broken : Addr} {fdvalue_of_three fdrule_broken : FuncData} {f : Addr} {fd : FuncData} (M : Mo K mg) (FC0 : FunC K "value_of_three" "value_of_three" svalue_of_three fvalue_of_three fdvalue_of_three c00) (hC0 : PySem.W.codeHdIn K c00 T1 = true) (hB0 : base.BuiltinsAt mg T1) (Fvalue_of_three : Fun K "value_of_three" "value_of_three" svalue_of_three fvalue_of_three fdvalue_of_three) (bvalue_of_three : Binds K fdvalue_of_three ["term", "was", "mine", "yours"] []) (mvalue_of_three : mg "value_of_three" = some (.ref fvalue_of_three)) (FC1 : FunC K "rule_broken" "rule_broken" srule_broken frule_broken fdrule_broken c10) (hC1 : PySem.W.codeHdIn K c10 T2 = true) (hB1 : base.BuiltinsAt mg T2) (Frule_broken : Fun K "rule_broken" "rule_broken" srule_broken frule_broken fdrule_broken) (brule_broken : Binds K fdrule_broken ["n", "term", "rule"] []) (mrule_broken : mg "rule_broken" = some (.ref frule_broken)) (F : Fun K "_law_keeps" "_law_keeps" sL_keeps f fd) : FnOk P w K mg base CX0 14 f fd ["_law_n", "_law_term", "_law_pairs"] (sp2 K (spKps T1 T2)) := by
  have Grule_broken : FnOk P w K mg base CX0 13 frule_broken fdrule_broken ["n", "term", "rule"] (sp2 K (spRB T1 T2)) := ok_rule_broken M FC0 hC0 hB0 Fvalue_of_three bvalue_of_three mvalue_of_three FC1 hC1 hB1
  obtain ⟨fL_join, fdL_join, FL_join, bL_join, mL_join⟩ := M._law_join
  have GL_join : FnOk P w K mg base CX0 13 fL_join fdL_join ["_law_n", "_law_term", "_law_was", "_law_mine", "_law_yours"] (sp2 K (spLJ T1)) := ok_L_join M FC0 hC0 hB0 Fvalue_of_three bvalue_of_three mvalue_of_three FL_join
  refine ok3 0 F scL_keeps (fun xs st Q h => by obtain ⟨n, t, i1, i2, j, ps, rfl, _⟩ := h; rfl) ⟨_, fun cdv A outer s H E hr => have hr13 : Room 13 _ := hr.mono (by decide); (qss_cons (qs_set (i := 3) scL_keeps.nd rfl (Or.inl rfl) (q_cmp o_isN (q_call Grule_broken hr13 (by rfl) mrule_broken Frule_broken.kp brule_broken (qa_cons (qv 0) (qa_cons (qv 1) (qa_cons q_str qa_nil)))) q_non (nomark _)))
      (qss_cons (qs_set (i := 4) scL_keeps.nd rfl (Or.inl rfl) (q_cmp o_isN (q_call Grule_broken hr13 (by rfl) mrule_broken Frule_broken.kp brule_broken (qa_cons (qv 0) (qa_cons (qv 1) (qa_cons q_str qa_nil)))) q_non (nomark _)))
      (qss_cons (qs_set (i := 5) scL_keeps.nd rfl (Or.inl rfl) (q_cmp o_isN (q_call Grule_broken hr13 (by rfl) mrule_broken Frule_broken.kp brule_broken (qa_cons (qv 0) (qa_cons (qv 1) (qa_cons q_str qa_nil)))) q_non (nomark _)))
      (qss_cons (qs_for PassesOwn.never rfl (qi_enumerate (by rfl) M.enumerate (qa_cons (qv 2) qa_nil)) (qg_tup (n := 2) rfl (qgs_cons (qg_name (i := 6) scL_keeps.nd rfl (Or.inl rfl)) (qgs_cons (qg_tup (n := 2) rfl (qgs_cons (qg_name (i := 7) scL_keeps.nd rfl (Or.inl rfl)) (qgs_cons (qg_name (i := 8) scL_keeps.nd rfl (Or.inl rfl)) qgs_nil))) qgs_nil))) (qss_cons (qs_set (i := 9) scL_keeps.nd rfl (Or.inl rfl) (q_ix (o_ix hr) (q_ix (o_ix hr) (qv 2) (q_op o_sub (qv 6) q_int) (fun _ _ => rfl)) q_int (fun _ _ => rfl)))
      (qss_cons (qs_if (PW.pt (qw_and (qt_tru (qv 3)) (qw_and1 (qt_cmp (o_ne hr) (q_call GL_join hr13 (by rfl) mL_join FL_join.kp bL_join (qa_cons (qv 0) (qa_cons (qv 1) (qa_cons (qv 7) (qa_cons (qv 7) (qa_cons (qv 8) qa_nil)))))) (qv 8) (nomark _))))) (qss_one (qs_ret q_bl)) qss_nil)
      (qss_cons (qs_if (PW.pt (qw_and (qt_tru (qv 4)) (qw_and1 (qt_cmp (o_ne hr) (q_call GL_join hr13 (by rfl) mL_join FL_join.kp bL_join (qa_cons (qv 0) (qa_cons (qv 1) (qa_cons (qv 7) (qa_cons (qv 8) (qa_cons (qv 7) qa_nil)))))) (qv 8) (nomark _))))) (qss_one (qs_ret q_bl)) qss_nil)
      (qss_cons (qs_set (i := 10) scL_keeps.nd rfl (Or.inl rfl) (q_call GL_join hr13 (by rfl) mL_join FL_join.kp bL_join (qa_cons (qv 0) (qa_cons (qv 1) (qa_cons (qv 7) (qa_cons (qv 9) (qa_cons (qv 8) qa_nil)))))))
      (qss_one (qs_if (PW.pt (qw_and (qt_tru (qv 5)) (qw_and1 (qt_cmp (o_ne hr) (q_call GL_join hr13 (by rfl) mL_join FL_join.kp bL_join (qa_cons (qv 0) (qa_cons (qv 1) (qa_cons (qv 7) (qa_cons (qv 8) (qa_cons (qv 9) qa_nil)))))) (qv 10) (nomark _))))) (qss_one (qs_ret q_bl)) qss_nil)))))))
      (qss_one (qs_ret q_bl)))))), fun xs st Q h => ?_⟩
  obtain ⟨n, t, i1, i2, j, ps, rfl, hj, h1, h2, n2, n5, tok, trk, hps, q⟩ := h
  refine seq_step ?_
  try simp? only [true_and]
  refine ⟨n, t, "yours", i1, i2, rfl, h1, h2, n2, n5, tok, trk, .inl rfl, fun r hr => ?_⟩
  have hY := keeps_y (hr.1 rfl)
  generalize resP r = x1 at hY ⊢
  try simp? only [true_and]
  generalize isNon x1 = b1 at hY ⊢
  refine seq_step ?_
  try simp? only [true_and]
  refine ⟨n, t, "mine", i1, i2, rfl, h1, h2, n2, n5, tok, trk, .inr (.inl rfl), fun r2 hr2 => ?_⟩
  have hM := keeps_m (hr2.2.1 rfl)
  generalize resP r2 = x2 at hM ⊢
  try simp? only [true_and]
  generalize isNon x2 = b2 at hM ⊢
  refine seq_step ?_
  try simp? only [true_and]
  refine ⟨n, t, "either", i1, i2, rfl, h1, h2, n2, n5, tok, trk, .inr (.inr (.inl rfl)), fun r3 hr3 => ?_⟩
  have hE := keeps_e (hr3.2.2.1 rfl)
  generalize resP r3 = x3 at hE ⊢
  try simp? only [true_and]
  generalize isNon x3 = b3 at hE ⊢
  refine seq_step ?_
  try simp? only [iEnum3]
  refine ⟨_, rfl, .inr ⟨j, _, rfl, hj, ?_⟩⟩
  refine for_by (fun k env s => ∃ (v6 v7 v8 v9 v10 : Option PV), env = [some (PV.int n), some t.pv, some (.obj j), some (.bl b1), some (.bl b2), some (.bl b3), v6, v7, v8, v9, v10] ∧ s = st) ⟨none, none, none, none, none, rfl, rfl⟩ ?_ ?_
  · rintro k x env s hx ⟨v6, v7, v8, v9, v10, rfl, rfl⟩
    refine ⟨hj, ?_⟩
    obtain ⟨x', hx', rfl⟩ := enumL_at hx
    obtain ⟨p, hk, rfl⟩ := map_at hx'
    have hp := prs_in hps hk
    obtain ⟨p', hp', ep'⟩ := at_prev ps hk
    unfold prP
    try simp? only [true_and]
    refine seq_step ?_
    try simp? only [hj, ep']
    unfold prP
    try simp? only [true_and]
    refine seq_cut (fun env s' => env = [some (PV.int n), some t.pv, some (.obj j), some (.bl b1), some (.bl b2), some (.bl b3), some (.int (k : Int)), some (.int (p.1 : Int)), some (.int (p.2 : Int)), some (.int (p'.2 : Int)), v10] ∧ s' = s) (fun N hN => ?_) ?_
    · cases b1 with
      | false =>
        try simp? only [true_and]
        exact hN _ _ ⟨rfl, rfl⟩
      | true =>
        try simp? only [true_and]
        refine ⟨n, t, _, _, _, i1, rfl, h1, n2, tok, trk, in_nat hp.1 n5, in_nat hp.1 n5, in_nat hp.2 n5, ?_⟩
        have hq := hY rfl hp.1 hp.2
        try simp? only [hq]
        exact hN _ _ ⟨rfl, rfl⟩
    rintro env s1 ⟨rfl, rfl⟩
    refine seq_cut (fun env s' => env = [some (PV.int n), some t.pv, some (.obj j), some (.bl b1), some (.bl b2), some (.bl b3), some (.int (k : Int)), some (.int (p.1 : Int)), some (.int (p.2 : Int)), some (.int (p'.2 : Int)), v10] ∧ s' = s1) (fun N hN => ?_) ?_
    · cases b2 with
      | false =>
        try simp? only [true_and]
        exact hN _ _ ⟨rfl, rfl⟩
      | true =>
        try simp? only [true_and]
        refine ⟨n, t, _, _, _, i1, rfl, h1, n2, tok, trk, in_nat hp.1 n5, in_nat hp.2 n5, in_nat hp.1 n5, ?_⟩
        have hq := hM rfl hp.1 hp.2
        try simp? only [hq]
        exact hN _ _ ⟨rfl, rfl⟩
    rintro env s2 ⟨rfl, rfl⟩
    refine seq_step ?_
    try simp? only [true_and]
    refine ⟨n, t, _, _, _, i1, rfl, h1, n2, tok, trk, in_nat hp.1 n5, in_nat (hps p' hp').2 n5, in_nat hp.2 n5, ?_⟩
    try simp? only [true_and]
    cases b3 with
    | false =>
      try simp? only [true_and]
      exact ⟨_, _, _, _, _, rfl⟩
    | true =>
      try simp? only [true_and]
      refine ⟨n, t, _, _, _, i1, rfl, h1, n2, tok, trk, in_nat hp.1 n5, in_nat hp.2 n5, in_nat (hps p' hp').2 n5, ?_⟩
      have hq := hE rfl hp.1 hp.2 (hps p' hp').2
      try simp? only [hq]
      exact ⟨_, _, _, _, _, rfl⟩
  · rintro env s ⟨v6, v7, v8, v9, v10, rfl, rfl⟩
    refine ⟨hj, ?_⟩
    try simp? only [true_and]
    exact q
theorem ok_law {T1 T2 c00 c10 fvalue_of_three frule_broken : Addr} {fdvalue_of_three fdrule_broken : FuncData} {f : Addr} {fd : FuncData} (M : Mo K mg) (FC0 : FunC K "value_of_three" "value_of_three" svalue_of_three fvalue_of_three fdvalue_of_three c00) (hC0 : PySem.W.codeHdIn K c00 T1 = true) (hB0 : base.BuiltinsAt mg T1) (Fvalue_of_three : Fun K "value_of_three" "value_of_three" svalue_of_three fvalue_of_three fdvalue_of_three) (bvalue_of_three : Binds K fdvalue_of_three ["term", "was", "mine", "yours"] []) (mvalue_of_three : mg "value_of_three" = some (.ref fvalue_of_three)) (FC1 : FunC K "rule_broken" "rule_broken" srule_broken frule_broken fdrule_broken c10) (hC1 : PySem.W.codeHdIn K c10 T2 = true) (hB1 : base.BuiltinsAt mg T2) (Frule_broken : Fun K "rule_broken" "rule_broken" srule_broken frule_broken fdrule_broken) (brule_broken : Binds K fdrule_broken ["n", "term", "rule"] []) (mrule_broken : mg "rule_broken" = some (.ref frule_broken)) (F : Fun K "law" "law" slaw f fd) : FnOk P w K mg base CX0 15 f fd ["_law_script"] (sp2 K (spLaw2 T1 T2)) := by
  have Grule_broken : FnOk P w K mg base CX0 13 frule_broken fdrule_broken ["n", "term", "rule"] (sp2 K (spRB T1 T2)) := ok_rule_broken M FC0 hC0 hB0 Fvalue_of_three bvalue_of_three mvalue_of_three FC1 hC1 hB1
  obtain ⟨fL_box, fdL_box, FL_box, bL_box, mL_box⟩ := M._law_box
  have GL_box : FnOk P w K mg base CX0 1 fL_box fdL_box ["_law_script", "_law_k"] (sp2 K spBox) := ok_L_box M FL_box
  obtain ⟨fL_take, fdL_take, FL_take, bL_take, mL_take⟩ := M._law_take
  have GL_take : FnOk P w K mg base CX0 1 fL_take fdL_take ["_law_box_here", "_law_many"] (sp2 K spTake) := ok_L_take M FL_take
  obtain ⟨fL_whole, fdL_whole, FL_whole, bL_whole, mL_whole⟩ := M._law_whole
  have GL_whole : FnOk P w K mg base CX0 1 fL_whole fdL_whole ["_law_found"] (sp2 K spWh) := ok_L_whole M FL_whole
  obtain ⟨fL_some_term, fdL_some_term, FL_some_term, bL_some_term, mL_some_term⟩ := M._law_some_term
  have GL_some_term : FnOk P w K mg base CX0 10 fL_some_term fdL_some_term ["_law_box_here", "_law_n"] (sp2 K spSome) := ok_L_some_term M FL_some_term
  obtain ⟨fL_folded, fdL_folded, FL_folded, bL_folded, mL_folded⟩ := M._law_folded
  have GL_folded : FnOk P w K mg base CX0 14 fL_folded fdL_folded ["_law_n", "_law_term", "_law_mine", "_law_pairs"] (sp2 K (spFold T1)) := ok_L_folded M FC0 hC0 hB0 Fvalue_of_three bvalue_of_three mvalue_of_three FL_folded
  obtain ⟨fL_breaks, fdL_breaks, FL_breaks, bL_breaks, mL_breaks⟩ := M._law_breaks
  have GL_breaks : FnOk P w K mg base CX0 14 fL_breaks fdL_breaks ["_law_n", "_law_term"] (sp2 K (spBrk T1 T2)) := ok_L_breaks M FC0 hC0 hB0 Fvalue_of_three bvalue_of_three mvalue_of_three FC1 hC1 hB1 Frule_broken brule_broken mrule_broken FL_breaks
  obtain ⟨fL_keeps, fdL_keeps, FL_keeps, bL_keeps, mL_keeps⟩ := M._law_keeps
  have GL_keeps : FnOk P w K mg base CX0 14 fL_keeps fdL_keeps ["_law_n", "_law_term", "_law_pairs"] (sp2 K (spKps T1 T2)) := ok_L_keeps M FC0 hC0 hB0 Fvalue_of_three bvalue_of_three mvalue_of_three FC1 hC1 hB1 Frule_broken brule_broken mrule_broken FL_keeps
  refine ok3 0 F sclaw (fun xs st Q h => by obtain ⟨ns, rfl, _⟩ := h; rfl) ⟨_, fun cdv A outer s H E hr => have hr1 : Room 1 _ := hr.mono (by decide); have hr10 : Room 10 _ := hr.mono (by decide); have hr13 : Room 13 _ := hr.mono (by decide); have hr14 : Room 14 _ := hr.mono (by decide); (qss_cons (qs_set (i := 1) sclaw.nd rfl (Or.inl rfl) (q_call GL_box hr1 (by rfl) mL_box FL_box.kp bL_box (qa_cons (qv 0) (qa_cons q_int qa_nil))))
      (qss_cons (qs_set (i := 2) sclaw.nd rfl (Or.inl rfl) (q_ix (o_ix hr) (q_lst (qa_cons q_int (qa_cons q_int (qa_cons q_int (qa_cons q_int (qa_cons q_int qa_nil)))))) (q_call GL_take hr1 (by rfl) mL_take FL_take.kp bL_take (qa_cons (qv 1) (qa_cons q_int qa_nil))) (fun _ _ => rfl)))
      (qss_cons (qs_set (i := 3) sclaw.nd rfl (Or.inl rfl) (q_call GL_some_term hr10 (by rfl) mL_some_term FL_some_term.kp bL_some_term (qa_cons (qv 1) (qa_cons (qv 2) qa_nil))))
      (qss_cons (qs_set (i := 4) sclaw.nd rfl (Or.inl rfl) (q_call GL_take hr1 (by rfl) mL_take FL_take.kp bL_take (qa_cons (qv 1) (qa_cons (qv 2) qa_nil))))
      (qss_cons (qs_set (i := 5) sclaw.nd rfl (Or.inl rfl) (q_lstO qa_nil))
      (qss_cons (qs_for PassesOwn.never rfl (qi_rng2 (by rfl) M.range (qa_cons q_int (qa_cons (q_callB (o_max2 rfl) (by rfl) M.max PyProof.Rows.boot_max (qa_cons q_int (qa_cons (q_callB (o_min2 rfl) (by rfl) M.min PyProof.Rows.boot_min (qa_cons q_int (qa_cons (q_callB o_len (by rfl) M.len PySem.boot_len (qa_cons (qv 0) qa_nil)) qa_nil))) qa_nil))) qa_nil))) (qg_name (i := 6) sclaw.nd rfl (Or.inl rfl)) (qss_cons (qs_set (i := 1) sclaw.nd rfl (Or.inl rfl) (q_call GL_box hr1 (by rfl) mL_box FL_box.kp bL_box (qa_cons (qv 0) (qa_cons (qv 6) qa_nil))))
      (qss_one (qs_expr (q_bm PySem.F.plainAttrs_list PySem.F.slot_list_append PySem.F.type_list_append (by decide) o_append (qv 5) (qa_cons (q_tup (qa_cons (q_call GL_take hr1 (by rfl) mL_take FL_take.kp bL_take (qa_cons (qv 1) (qa_cons (qv 2) qa_nil))) (qa_cons (q_call GL_take hr1 (by rfl) mL_take FL_take.kp bL_take (qa_cons (qv 1) (qa_cons (qv 2) qa_nil))) qa_nil))) qa_nil))))))
      (qss_cons (qs_set (i := 7) sclaw.nd rfl (Or.inl rfl) (q_call GL_take hr1 (by rfl) mL_take FL_take.kp bL_take (qa_cons (qv 1) (qa_cons (q_callB o_len (by rfl) M.len PySem.boot_len (qa_cons (qv 5) qa_nil)) qa_nil))))
      (qss_cons (qs_set (i := 8) sclaw.nd rfl (Or.inl rfl) (q_call Grule_broken hr13 (by rfl) mrule_broken Frule_broken.kp brule_broken (qa_cons (qv 2) (qa_cons (qv 3) (qa_cons q_str qa_nil)))))
      (qss_cons (qs_if (qt_cmp o_isN (qv 8) q_non (nomark _)) (qss_cons (qs_set (i := 9) sclaw.nd rfl (Or.inl rfl) (q_call GL_folded hr14 (by rfl) mL_folded FL_folded.kp bL_folded (qa_cons (qv 2) (qa_cons (qv 3) (qa_cons (qv 4) (qa_cons (qv 5) qa_nil))))))
      (qss_cons (qs_if (PW.pt (qw_or (qt_not (qt_tru (q_call GL_whole hr1 (by rfl) mL_whole FL_whole.kp bL_whole (qa_cons (qv 9) qa_nil)))) (qw_or1 (qt_cmp (o_ne hr) (qv 9) (q_call GL_folded hr14 (by rfl) mL_folded FL_folded.kp bL_folded (qa_cons (qv 2) (qa_cons (qv 3) (qa_cons (qv 4) (qa_cons (q_revSlO (qv 5) (qo_some (q_un o_neg q_int))) qa_nil))))) (nomark _))))) (qss_one (qs_ret q_bl)) qss_nil)
      (qss_one (qs_if (qt_cmp (o_ne hr) (qv 9) (q_call GL_folded hr14 (by rfl) mL_folded FL_folded.kp bL_folded (qa_cons (qv 2) (qa_cons (qv 3) (qa_cons (qv 4) (qa_cons (q_op o_add (q_sliceO (qv 5) (qo_some (qv 7)) qo_none) (q_sliceO (qv 5) qo_none (qo_some (qv 7)))) qa_nil))))) (nomark _)) (qss_one (qs_ret q_bl)) qss_nil)))) (qss_cons (qs_asg (qv 8) (qg_tup (n := 5) rfl (qgs_cons (qg_name (i := 10) sclaw.nd rfl (Or.inl rfl)) (qgs_cons (qg_name (i := 11) sclaw.nd rfl (Or.inl rfl)) (qgs_cons (qg_name (i := 12) sclaw.nd rfl (Or.inl rfl)) (qgs_cons (qg_name (i := 13) sclaw.nd rfl (Or.inl rfl)) (qgs_cons (qg_name (i := 14) sclaw.nd rfl (Or.inl rfl)) qgs_nil)))))))
      (qss_one (qs_if (qt_cmp (o_eq hr) (q_call GL_folded hr14 (by rfl) mL_folded FL_folded.kp bL_folded (qa_cons (qv 2) (qa_cons (qv 3) (qa_cons (qv 12) (qa_cons (q_lst (qa_cons (q_tup (qa_cons (qv 11) (qa_cons (qv 13) qa_nil))) (qa_cons (q_tup (qa_cons (qv 10) (qa_cons (qv 14) qa_nil))) qa_nil))) qa_nil))))) (q_call GL_folded hr14 (by rfl) mL_folded FL_folded.kp bL_folded (qa_cons (qv 2) (qa_cons (qv 3) (qa_cons (qv 12) (qa_cons (q_lst (qa_cons (q_tup (qa_cons (qv 10) (qa_cons (qv 14) qa_nil))) (qa_cons (q_tup (qa_cons (qv 11) (qa_cons (qv 13) qa_nil))) qa_nil))) qa_nil))))) (nomark _)) (qss_one (qs_ret q_bl)) qss_nil))))
      (qss_one (qs_ret (q_and (q_call GL_breaks hr14 (by rfl) mL_breaks FL_breaks.kp bL_breaks (qa_cons (qv 2) (qa_cons (qv 3) qa_nil))) (q_one (q_call GL_keeps hr14 (by rfl) mL_keeps FL_keeps.kp bL_keeps (qa_cons (qv 2) (qa_cons (qv 3) (qa_cons (qv 5) qa_nil))))))))))))))))), fun xs st Q h => ?_⟩
  obtain ⟨ns, rfl, rfl, hl, q⟩ := h
  refine seq_step ?_
  try simp? only [true_and]
  refine ⟨ns, 0, rfl, hl, by decide, fun a b hb => ?_⟩
  try simp? only [true_and]
  refine seq_step ?_
  try simp? only [true_and]
  refine ⟨2, 5, a, b, rfl, rfl, hb, by decide, by decide, fun d a b d0 d1 hb => ?_⟩
  obtain ⟨n, en, n2, n5⟩ : ∃ n : Nat, atI [PV.int 2, .int 3, .int 3, .int 3, .int 4] d = some (.int n) ∧ 2 ≤ n ∧ n ≤ 5 := by
    obtain ⟨z, hz, e⟩ := at_has (fun n : Nat => PV.int n) (ns := [2, 3, 3, 3, 4]) (k := d) d0 d1
    refine ⟨z, e, ?_⟩
    simp at hz
    omega
  try simp? only [en]
  refine seq_step ?_
  try simp? only [true_and]
  refine ⟨2, n, a, b, rfl, rfl, hb, n2, n5, fun t a b tok trk hb => ?_⟩
  try simp? only [true_and]
  refine seq_step ?_
  try simp? only [true_and]
  refine ⟨2, n, a, b, rfl, rfl, hb, by omega, by omega, fun mi a b mi0 mi1 hb => ?_⟩
  try simp? only [true_and]
  refine seq_step ?_
  try simp? only [true_and]
  refine seq_step ?_
  try simp? only [true_and]
  generalize eM : (if (if ((List.map PV.int ns).length : Int) < 32 then ((List.map PV.int ns).length : Int) else 32) > 4 then (if ((List.map PV.int ns).length : Int) < 32 then ((List.map PV.int ns).length : Int) else 32) else 4) = M
  have hM : 4 ≤ M ∧ M ≤ 32 := by subst eM; split <;> split <;> omega
  refine ⟨⟨by omega, by omega⟩, ?_⟩
  refine for_by (fun k env s => ∃ (v6 : Option PV) (j : Nat) (a b : Int) (ps : List (Nat × Nat)), env = [some (PV.lst (ns.map PV.int)), some (.obj j), some (.int n), some t.pv, some (.int mi), some (.obj 3), v6, none, none, none, none, none, none, none, none] ∧ ps.length = k ∧ Prs n ps ∧ BoxOk a b ∧ s[0]? = some (.tbl T1 lamP lamQ) ∧ s[1]? = some (.tbl T2 rbP rbQ) ∧ s[3]? = some (.lst (ps.map prP)) ∧ s[j]? = some (box a b) ∧ j ≠ 0 ∧ j ≠ 1 ∧ j ≠ 3) ⟨none, 2, a, b, [], rfl, rfl, (fun p hp => nomatch hp), hb, rfl, rfl, rfl, rfl, by decide, by decide, by decide⟩ ?_ ?_
  · rintro k x env s hx ⟨v6, j, a, b, ps, rfl, hpl, hps, hb, s0, s1, s3, sj, j0, j1, j3⟩
    obtain ⟨hk, rfl⟩ := rngL_at hx
    have hsl : 3 < s.length := (List.getElem?_eq_some_iff.mp s3).1
    try simp? only [true_and]
    refine seq_step ?_
    try simp? only [true_and]
    refine ⟨ns, _, rfl, hl, by omega, fun a1 b1 hb1 => ?_⟩
    have e3 : ∀ {a b : Int}, (s ++ [box a b])[3]? = some (.lst (ps.map prP)) := get_app s3
    try simp? only [e3]
    refine ⟨s.length, n, a1, b1, rfl, len_at, hb1, by omega, by omega, fun w a1 b1 w0 w1 hb1 => ?_⟩
    try simp? only [true_and]
    refine ⟨s.length, n, a1, b1, rfl, len_at, hb1, by omega, by omega, fun y a1 b1 y0 y1 hb1 => ?_⟩
    obtain ⟨w, rfl⟩ := Int.eq_ofNat_of_zero_le w0
    obtain ⟨y, rfl⟩ := Int.eq_ofNat_of_zero_le y0
    rw [set_at]
    try simp? only [e3]
    refine ⟨Nat.lt_of_lt_of_le (m := 1000) (by rw [List.length_map]; omega) (by decide), _, s.length, a1, b1, ps ++ [(w, y)], rfl, by rw [List.length_append, hpl]; rfl, fun p hp => ?_, hb1, ?_, ?_, ?_, ?_, by omega, by omega, by omega⟩
    · rcases List.mem_append.mp hp with h | h
      · exact hps p h
      · cases List.mem_singleton.mp h; exact ⟨by omega, by omega⟩
    · rw [List.getElem?_set_ne (by decide)]; exact get_app s0
    · rw [List.getElem?_set_ne (by decide)]; exact get_app s1
    · rw [List.map_append]; rfl
    · rw [List.getElem?_set_ne (by omega)]; exact len_at
  · rintro env s ⟨v6, j, a, b, ps, rfl, hpl, hps, hb, s0, s1, s3, sj, j0, j1, j3⟩
    rw [rngL_len] at hpl
    have hp2 : 2 ≤ ps.length ∧ ps.length ≤ 30 := by rw [hpl]; omega
    try simp? only [true_and]
    refine seq_step ?_
    try simp? only [s3]
    refine ⟨j, _, a, b, rfl, sj, hb, by rw [List.length_map]; omega, by rw [List.length_map]; omega, fun at_ a b at0 at1 hb => ?_⟩
    rw [List.length_map] at at1
    have s0' : (s.set j (box a b))[0]? = some (.tbl T1 lamP lamQ) := by rw [List.getElem?_set_ne j0]; exact s0
    have s1' : (s.set j (box a b))[1]? = some (.tbl T2 rbP rbQ) := by rw [List.getElem?_set_ne j1]; exact s1
    have s3' : (s.set j (box a b))[3]? = some (.lst (ps.map prP)) := by rw [List.getElem?_set_ne j3]; exact s3
    generalize s.set j (box a b) = s' at s0' s1' s3' ⊢
    try simp? only [true_and]
    refine seq_step ?_
    try simp? only [true_and]
    refine ⟨n, t, "turns", 0, 1, rfl, s0', s1', n2, n5, tok, trk, .inr (.inr (.inr rfl)), fun r hr => ?_⟩
    have hr5 := hr.2.2.2 rfl
    try simp? only [true_and]
    refine seq_cut (fun env s2 => ∃ v8 v9 v10 v11 v12 v13 v14 : Option PV, env = [some (PV.lst (ns.map PV.int)), some (.obj j), some (.int n), some t.pv, some (.int mi), some (.obj 3), v6, some (.int at_), v8, v9, v10, v11, v12, v13, v14] ∧ s2 = s') (fun N hN => ?_) ?_
    · cases r with
      | none =>
        have hT := turns_none hr5
        unfold resP
        try simp? only [true_and]
        refine seq_step ?_
        try simp? only [true_and]
        refine ⟨n, t, mi, ps, _, 0, rfl, .inr ⟨3, rfl, s3'⟩, s0', n2, n5, tok, trk, ⟨mi0, mi1⟩, hps, ?_⟩
        try simp? only [true_and]
        refine seq_step ?_
        try simp? only [true_and]
        refine ⟨_, rfl, ?_⟩
        try simp? only [vRevO]
        refine ⟨3, _, rfl, s3', ?_⟩
        refine ⟨n, t, mi, ps.reverse, _, 0, rfl, .inl (by rw [List.map_reverse]), s0', n2, n5, tok, trk, ⟨mi0, mi1⟩, fun p hp => hps p (List.mem_reverse.mp hp), ?_⟩
        rw [← fold_perm n2 hT (List.reverse_perm ps).symm hps ⟨mi0, mi1⟩]
        try simp? only [beq_self_eq_true]
        try simp? only [vSlO, rSlO]
        refine ⟨3, _, rfl, s3', 3, _, rfl, s3', ?_⟩
        rw [cut_a ps at0 at1, cut_b ps at0 at1, ← List.map_append]
        refine ⟨Nat.le_trans (m := 1000) (by have := cut_len2 (ps := ps) (i := at_.toNat); rw [cut_len1]; omega) (by decide), n, t, mi, ps.drop at_.toNat ++ ps.take at_.toNat, _, 0, rfl, .inl rfl, s0', n2, n5, tok, trk, ⟨mi0, mi1⟩, fun p hp => ?_, ?_⟩
        · rcases List.mem_append.mp hp with h | h
          · exact hps p (List.mem_of_mem_drop h)
          · exact hps p (List.mem_of_mem_take h)
        rw [← fold_perm n2 hT (turn_perm ps _) hps ⟨mi0, mi1⟩]
        try simp? only [beq_self_eq_true]
        exact hN _ _ ⟨_, _, _, _, _, _, _, rfl, rfl⟩
      | some k =>
        obtain ⟨v, w, m, c, e, rfl, hv, hw, hm, hc, he⟩ := tup5 hr5.1
        have hne : (valT n t v (valT n t w m c) e == valT n t w (valT n t v m e) c) = false := by have := hr5.2.1; unfold pT at this; simpa using this
        unfold resP tupP
        try simp? only [true_and]
        refine seq_step ?_
        try simp? only [true_and]
        refine ⟨n, t, m, [(w, c), (v, e)], _, 0, rfl, .inl rfl, s0', n2, n5, tok, trk, ⟨by omega, by omega⟩, fun p hp => ?_, ?_⟩
        · simp at hp; rcases hp with rfl | rfl <;> exact ⟨by omega, by omega⟩
        try simp? only [true_and]
        refine ⟨n, t, m, [(v, e), (w, c)], _, 0, rfl, .inl rfl, s0', n2, n5, tok, trk, ⟨by omega, by omega⟩, fun p hp => ?_, ?_⟩
        · simp at hp; rcases hp with rfl | rfl <;> exact ⟨by omega, by omega⟩
        have e1 : foldT (valT n t) m [(w, c), (v, e)] = valT n t v (valT n t w m c) e := rfl
        have e2 : foldT (valT n t) m [(v, e), (w, c)] = valT n t w (valT n t v m e) c := rfl
        try simp? only [e1, e2, hne]
        exact hN _ _ ⟨_, _, _, _, _, _, _, rfl, rfl⟩
    rintro env s2 ⟨v8, v9, v10, v11, v12, v13, v14, rfl, rfl⟩
    try simp? only [true_and]
    refine ⟨n, t, 0, 1, rfl, s0', s1', n2, n5, tok, trk, ?_⟩
    try simp? only [true_and]
    refine ⟨n, t, 0, 1, 3, ps, rfl, s3', s0', s1', n2, n5, tok, trk, hps, ?_⟩
    try simp? only [true_and]
    exact q _
end
theorem blen1 {us : List Value} (h : us.length = 1) : ∃ x0, us = [x0] := by
  rcases us with _ | ⟨x0, _ | ⟨y, us⟩⟩ <;> first | exact ⟨x0, rfl⟩ | (simp at h; done)
theorem blen2 {us : List Value} (h : us.length = 2) : ∃ x0 x1, us = [x0, x1] := by
  rcases us with _ | ⟨x0, _ | ⟨x1, _ | ⟨y, us⟩⟩⟩ <;> first | exact ⟨x0, x1, rfl⟩ | (simp at h; done)
theorem blen3 {us : List Value} (h : us.length = 3) : ∃ x0 x1 x2, us = [x0, x1, x2] := by
  rcases us with _ | ⟨x0, _ | ⟨x1, _ | ⟨x2, _ | ⟨y, us⟩⟩⟩⟩ <;> first | exact ⟨x0, x1, x2, rfl⟩ | (simp at h; done)
theorem blen4 {us : List Value} (h : us.length = 4) : ∃ x0 x1 x2 x3, us = [x0, x1, x2, x3] := by
  rcases us with _ | ⟨x0, _ | ⟨x1, _ | ⟨x2, _ | ⟨x3, _ | ⟨y, us⟩⟩⟩⟩⟩ <;> first | exact ⟨x0, x1, x2, x3, rfl⟩ | (simp at h; done)
theorem blen5 {us : List Value} (h : us.length = 5) : ∃ x0 x1 x2 x3 x4, us = [x0, x1, x2, x3, x4] := by
  rcases us with _ | ⟨x0, _ | ⟨x1, _ | ⟨x2, _ | ⟨x3, _ | ⟨x4, _ | ⟨y, us⟩⟩⟩⟩⟩⟩ <;> first | exact ⟨x0, x1, x2, x3, x4, rfl⟩ | (simp at h; done)
theorem all_mk {l : PySem.W.OpenLaw} {w : World} {K : PySem.W.Frag} {h : Heap} {mg : Str → Option Value} {tW : Tok} {fa cA0 T0 cA1 T1 f1 f2 f3 f4 f5 f6 f7 f8 f9 f10 f11 f12 f13 f14 f15 f16 f17 : Addr} (X : K.In h) (G : h.Ns mainGlobals mg) (hfa : mg "law" = some (.ref fa))
    {od1 an1 od2 an2 od3 an3 od4 an4 od5 an5 od6 an6 od7 an7 od8 an8 od9 an9 od10 an10 od11 an11 od12 an12 od13 an13 od14 an14 od15 an15 od16 an16 od17 an17 : Option Addr} {sl1 sl2 sl3 sl4 sl5 sl6 sl7 sl8 sl9 sl10 sl11 sl12 sl13 sl14 sl15 sl16 sl17 : Array (Option Value)} {oc1 kV1 dc1 pm1 ct1 oc2 kV2 dc2 pm2 cd2 ct2 oc3 kV3 dc3 pm3 cd3 ct3 oc4 kV4 dc4 pm4 ct4 oc5 kV5 dc5 pm5 cd5 ct5 oc6 kV6 dc6 pm6 cd6 ct6 oc7 kV7 dc7 pm7 cd7 ct7 oc8 kV8 dc8 pm8 cd8 ct8 oc9 kV9 dc9 pm9 cd9 ct9 oc10 kV10 dc10 pm10 cd10 ct10 oc11 kV11 dc11 pm11 cd11 ct11 oc12 kV12 dc12 pm12 cd12 ct12 oc13 kV13 dc13 pm13 cd13 ct13 oc14 kV14 dc14 pm14 cd14 ct14 oc15 kV15 dc15 pm15 cd15 ct15 oc16 kV16 dc16 pm16 cd16 ct16 oc17 kV17 dc17 pm17 cd17 ct17 : Value}
    {odc0 : Option Addr} {slc0 : Array (Option Value)} {vsc0 : Array Value} {t180 t70 t100 : Tok} {x180 : Str} {x70 x100 : Int} {x90 : Bool}
    {odc1 : Option Addr} {slc1 : Array (Option Value)} {vsc1 : Array Value} {t181 t71 t101 : Tok} {x181 : Str} {x71 x101 : Int} {x91 : Bool}
    (a1 : PySem.W.nsIn K mainGlobals "value_of_three" = some (some (.ref f1))) (l1 : K.lookup f1 = some ⟨oc1, od1, .func (PySem.W.fnOf "value_of_three" "value_of_three" (defArgs svalue_of_three) (defBody svalue_of_three) (defScope svalue_of_three) .none kV1 dc1 pm1 an1 (.ref cA0) ct1), sl1⟩) (c1 : PySem.W.codeIn K (.ref cA0) "value_of_three" = true) (k1 : PySem.W.keepIn K (.ref f1) = true)
    (a2 : PySem.W.nsIn K mainGlobals "value_by" = some (some (.ref f2))) (l2 : K.lookup f2 = some ⟨oc2, od2, .func (PySem.W.fnOf "value_by" "value_by" (defArgs svalue_by) (defBody svalue_by) (defScope svalue_by) .none kV2 dc2 pm2 an2 cd2 ct2), sl2⟩) (c2 : PySem.W.codeIn K cd2 "value_by" = true) (k2 : PySem.W.keepIn K (.ref f2) = true)
    (a3 : PySem.W.nsIn K mainGlobals "value_of_op" = some (some (.ref f3))) (l3 : K.lookup f3 = some ⟨oc3, od3, .func (PySem.W.fnOf "value_of_op" "value_of_op" (defArgs svalue_of_op) (defBody svalue_of_op) (defScope svalue_of_op) .none kV3 dc3 pm3 an3 cd3 ct3), sl3⟩) (c3 : PySem.W.codeIn K cd3 "value_of_op" = true) (k3 : PySem.W.keepIn K (.ref f3) = true)
    (a4 : PySem.W.nsIn K mainGlobals "rule_broken" = some (some (.ref f4))) (l4 : K.lookup f4 = some ⟨oc4, od4, .func (PySem.W.fnOf "rule_broken" "rule_broken" (defArgs srule_broken) (defBody srule_broken) (defScope srule_broken) .none kV4 dc4 pm4 an4 (.ref cA1) ct4), sl4⟩) (c4 : PySem.W.codeIn K (.ref cA1) "rule_broken" = true) (k4 : PySem.W.keepIn K (.ref f4) = true)
    (a5 : PySem.W.nsIn K mainGlobals "tuples_below" = some (some (.ref f5))) (l5 : K.lookup f5 = some ⟨oc5, od5, .func (PySem.W.fnOf "tuples_below" "tuples_below" (defArgs stuples_below) (defBody stuples_below) (defScope stuples_below) .none kV5 dc5 pm5 an5 cd5 ct5), sl5⟩) (c5 : PySem.W.codeIn K cd5 "tuples_below" = true) (k5 : PySem.W.keepIn K (.ref f5) = true)
    (a6 : PySem.W.nsIn K mainGlobals "all_that_break" = some (some (.ref f6))) (l6 : K.lookup f6 = some ⟨oc6, od6, .func (PySem.W.fnOf "all_that_break" "all_that_break" (defArgs sall_that_break) (defBody sall_that_break) (defScope sall_that_break) .none kV6 dc6 pm6 an6 cd6 ct6), sl6⟩) (c6 : PySem.W.codeIn K cd6 "all_that_break" = true) (k6 : PySem.W.keepIn K (.ref f6) = true)
    (a7 : PySem.W.nsIn K mainGlobals "joined" = some (some (.ref f7))) (l7 : K.lookup f7 = some ⟨oc7, od7, .func (PySem.W.fnOf "joined" "joined" (defArgs sjoined) (defBody sjoined) (defScope sjoined) .none kV7 dc7 pm7 an7 cd7 ct7), sl7⟩) (c7 : PySem.W.codeIn K cd7 "joined" = true) (k7 : PySem.W.keepIn K (.ref f7) = true)
    (a8 : PySem.W.nsIn K mainGlobals "_law_box" = some (some (.ref f8))) (l8 : K.lookup f8 = some ⟨oc8, od8, .func (PySem.W.fnOf "_law_box" "_law_box" (defArgs sL_box) (defBody sL_box) (defScope sL_box) .none kV8 dc8 pm8 an8 cd8 ct8), sl8⟩) (c8 : PySem.W.codeIn K cd8 "_law_box" = true) (k8 : PySem.W.keepIn K (.ref f8) = true)
    (a9 : PySem.W.nsIn K mainGlobals "_law_take" = some (some (.ref f9))) (l9 : K.lookup f9 = some ⟨oc9, od9, .func (PySem.W.fnOf "_law_take" "_law_take" (defArgs sL_take) (defBody sL_take) (defScope sL_take) .none kV9 dc9 pm9 an9 cd9 ct9), sl9⟩) (c9 : PySem.W.codeIn K cd9 "_law_take" = true) (k9 : PySem.W.keepIn K (.ref f9) = true)
    (a10 : PySem.W.nsIn K mainGlobals "_law_whole" = some (some (.ref f10))) (l10 : K.lookup f10 = some ⟨oc10, od10, .func (PySem.W.fnOf "_law_whole" "_law_whole" (defArgs sL_whole) (defBody sL_whole) (defScope sL_whole) .none kV10 dc10 pm10 an10 cd10 ct10), sl10⟩) (c10 : PySem.W.codeIn K cd10 "_law_whole" = true) (k10 : PySem.W.keepIn K (.ref f10) = true)
    (a11 : PySem.W.nsIn K mainGlobals "_law_told" = some (some (.ref f11))) (l11 : K.lookup f11 = some ⟨oc11, od11, .func (PySem.W.fnOf "_law_told" "_law_told" (defArgs sL_told) (defBody sL_told) (defScope sL_told) .none kV11 dc11 pm11 an11 cd11 ct11), sl11⟩) (c11 : PySem.W.codeIn K cd11 "_law_told" = true) (k11 : PySem.W.keepIn K (.ref f11) = true)
    (a12 : PySem.W.nsIn K mainGlobals "_law_some_term" = some (some (.ref f12))) (l12 : K.lookup f12 = some ⟨oc12, od12, .func (PySem.W.fnOf "_law_some_term" "_law_some_term" (defArgs sL_some_term) (defBody sL_some_term) (defScope sL_some_term) .none kV12 dc12 pm12 an12 cd12 ct12), sl12⟩) (c12 : PySem.W.codeIn K cd12 "_law_some_term" = true) (k12 : PySem.W.keepIn K (.ref f12) = true)
    (a13 : PySem.W.nsIn K mainGlobals "_law_join" = some (some (.ref f13))) (l13 : K.lookup f13 = some ⟨oc13, od13, .func (PySem.W.fnOf "_law_join" "_law_join" (defArgs sL_join) (defBody sL_join) (defScope sL_join) .none kV13 dc13 pm13 an13 cd13 ct13), sl13⟩) (c13 : PySem.W.codeIn K cd13 "_law_join" = true) (k13 : PySem.W.keepIn K (.ref f13) = true)
    (a14 : PySem.W.nsIn K mainGlobals "_law_folded" = some (some (.ref f14))) (l14 : K.lookup f14 = some ⟨oc14, od14, .func (PySem.W.fnOf "_law_folded" "_law_folded" (defArgs sL_folded) (defBody sL_folded) (defScope sL_folded) .none kV14 dc14 pm14 an14 cd14 ct14), sl14⟩) (c14 : PySem.W.codeIn K cd14 "_law_folded" = true) (k14 : PySem.W.keepIn K (.ref f14) = true)
    (a15 : PySem.W.nsIn K mainGlobals "_law_breaks" = some (some (.ref f15))) (l15 : K.lookup f15 = some ⟨oc15, od15, .func (PySem.W.fnOf "_law_breaks" "_law_breaks" (defArgs sL_breaks) (defBody sL_breaks) (defScope sL_breaks) .none kV15 dc15 pm15 an15 cd15 ct15), sl15⟩) (c15 : PySem.W.codeIn K cd15 "_law_breaks" = true) (k15 : PySem.W.keepIn K (.ref f15) = true)
    (a16 : PySem.W.nsIn K mainGlobals "_law_keeps" = some (some (.ref f16))) (l16 : K.lookup f16 = some ⟨oc16, od16, .func (PySem.W.fnOf "_law_keeps" "_law_keeps" (defArgs sL_keeps) (defBody sL_keeps) (defScope sL_keeps) .none kV16 dc16 pm16 an16 cd16 ct16), sl16⟩) (c16 : PySem.W.codeIn K cd16 "_law_keeps" = true) (k16 : PySem.W.keepIn K (.ref f16) = true)
    (a17 : PySem.W.nsIn K mainGlobals "law" = some (some (.ref f17))) (l17 : K.lookup f17 = some ⟨oc17, od17, .func (PySem.W.fnOf "law" "law" (defArgs slaw) (defBody slaw) (defScope slaw) .none kV17 dc17 pm17 an17 cd17 ct17), sl17⟩) (c17 : PySem.W.codeIn K cd17 "law" = true) (k17 : PySem.W.keepIn K (.ref f17) = true)
    (zn0 : PySem.W.nsIn K mainGlobals "len" = some none)
    (zn1 : PySem.W.nsIn K mainGlobals "int" = some none)
    (zn2 : PySem.W.nsIn K mainGlobals "range" = some none)
    (zn3 : PySem.W.nsIn K mainGlobals "tuple" = some none)
    (zn4 : PySem.W.nsIn K mainGlobals "isinstance" = some none)
    (zn5 : PySem.W.nsIn K mainGlobals "bool" = some none)
    (zn6 : PySem.W.nsIn K mainGlobals "str" = some none)
    (zn7 : PySem.W.nsIn K mainGlobals "min" = some none)
    (zn8 : PySem.W.nsIn K mainGlobals "max" = some none)
    (zn9 : PySem.W.nsIn K mainGlobals "enumerate" = some none)
    (zc0 : PySem.W.nsIn K mainGlobals "WIDE" = some (some (.int 4294967296 tW)))
    (lc0 : K.lookup cA0 = some ⟨.type "code", odc0, .fields vsc0, slc0⟩) (v110 : vsc0[11]? = some (.ref T0)) (v180 : vsc0.getD 18 .none = .str x180 t180) (v70 : vsc0.getD 7 .none = .int x70 t70) (v90 : vsc0.getD 9 .none = .bool x90) (v100 : vsc0.getD 10 .none = .int x100 t100) (ncT0 : (cA0 != T0) = true) (lT0 : K.lookup T0 = none)
    (lc1 : K.lookup cA1 = some ⟨.type "code", odc1, .fields vsc1, slc1⟩) (v111 : vsc1[11]? = some (.ref T1)) (v181 : vsc1.getD 18 .none = .str x181 t181) (v71 : vsc1.getD 7 .none = .int x71 t71) (v91 : vsc1.getD 9 .none = .bool x91) (v101 : vsc1.getD 10 .none = .int x101 t101) (ncT1 : (cA1 != T1) = true) (lT1 : K.lookup T1 = none)
    (nTT : (T0 != T1) = true) :
    ∃ (fd : FuncData) (cts : List (Addr × Addr)), cts.length = (["value_of_three", "rule_broken"] : List Str).length ∧ (∀ (i : Nat) (tn : Str) (ct : Addr × Addr), (["value_of_three", "rule_broken"] : List Str)[i]? = some tn → cts[i]? = some ct → PySem.W.tabIn K tn = some ct ∧ K.lookup ct.2 = none) ∧ (∀ (s : Shared) (v : Value), BindsTo s fd ⟨[v], []⟩ [("_law_script", v)]) ∧ ∀ base : Heap, K.In base → base.Ns mainGlobals mg → (∀ T ∈ cts.map (·.2), base.BuiltinsAt mg T) → FnOk l.prog w K mg base CX0 15 fa fd ["_law_script"] (sp2 K (spLawTs (cts.map (·.2)))) := by
  have e := hfa.symm.trans (PySem.W.mg_of X G a17)
  cases e
  have F1 := fun_mk (st := svalue_of_three) l1 c1 k1
  have F2 := fun_mk (st := svalue_by) l2 c2 k2
  have F3 := fun_mk (st := svalue_of_op) l3 c3 k3
  have F4 := fun_mk (st := srule_broken) l4 c4 k4
  have F5 := fun_mk (st := stuples_below) l5 c5 k5
  have F6 := fun_mk (st := sall_that_break) l6 c6 k6
  have F7 := fun_mk (st := sjoined) l7 c7 k7
  have F8 := fun_mk (st := sL_box) l8 c8 k8
  have F9 := fun_mk (st := sL_take) l9 c9 k9
  have F10 := fun_mk (st := sL_whole) l10 c10 k10
  have F11 := fun_mk (st := sL_told) l11 c11 k11
  have F12 := fun_mk (st := sL_some_term) l12 c12 k12
  have F13 := fun_mk (st := sL_join) l13 c13 k13
  have F14 := fun_mk (st := sL_folded) l14 c14 k14
  have F15 := fun_mk (st := sL_breaks) l15 c15 k15
  have F16 := fun_mk (st := sL_keeps) l16 c16 k16
  have F17 := fun_mk (st := slaw) l17 c17 k17
  have b1 := F1.binds (ps := ["term", "was", "mine", "yours"]) fun _ _ _ _ _ _ us hl => by obtain ⟨x0, x1, x2, x3, rfl⟩ := blen4 hl; rfl
  have m1 := PySem.W.mg_of X G a1
  have b2 := F2.binds (ps := ["term", "asked"]) fun _ _ _ _ _ _ us hl => by obtain ⟨x0, x1, rfl⟩ := blen2 hl; rfl
  have m2 := PySem.W.mg_of X G a2
  have b3 := F3.binds (ps := ["sign", "one", "other"]) fun _ _ _ _ _ _ us hl => by obtain ⟨x0, x1, x2, rfl⟩ := blen3 hl; rfl
  have m3 := PySem.W.mg_of X G a3
  have b4 := F4.binds (ps := ["n", "term", "rule"]) fun _ _ _ _ _ _ us hl => by obtain ⟨x0, x1, x2, rfl⟩ := blen3 hl; rfl
  have m4 := PySem.W.mg_of X G a4
  have b5 := F5.binds (ps := ["n", "many"]) fun _ _ _ _ _ _ us hl => by obtain ⟨x0, x1, rfl⟩ := blen2 hl; rfl
  have m5 := PySem.W.mg_of X G a5
  have b6 := F6.binds (ps := ["n", "rule", "f"]) fun _ _ _ _ _ _ us hl => by obtain ⟨x0, x1, x2, rfl⟩ := blen3 hl; rfl
  have m6 := PySem.W.mg_of X G a6
  have b7 := F7.binds (ps := ["manner", "was", "mine", "yours", "wrote"]) fun _ _ _ _ _ _ us hl => by obtain ⟨x0, x1, x2, x3, x4, rfl⟩ := blen5 hl; rfl
  have m7 := PySem.W.mg_of X G a7
  have b8 := F8.binds (ps := ["_law_script", "_law_k"]) fun _ _ _ _ _ _ us hl => by obtain ⟨x0, x1, rfl⟩ := blen2 hl; rfl
  have m8 := PySem.W.mg_of X G a8
  have b9 := F9.binds (ps := ["_law_box_here", "_law_many"]) fun _ _ _ _ _ _ us hl => by obtain ⟨x0, x1, rfl⟩ := blen2 hl; rfl
  have m9 := PySem.W.mg_of X G a9
  have b10 := F10.binds (ps := ["_law_found"]) fun _ _ _ _ _ _ us hl => by obtain ⟨x0, rfl⟩ := blen1 hl; rfl
  have m10 := PySem.W.mg_of X G a10
  have b11 := F11.binds (ps := ["_law_box_here", "_law_room", "_law_deep"]) fun _ _ _ _ _ _ us hl => by obtain ⟨x0, x1, x2, rfl⟩ := blen3 hl; rfl
  have m11 := PySem.W.mg_of X G a11
  have b12 := F12.binds (ps := ["_law_box_here", "_law_n"]) fun _ _ _ _ _ _ us hl => by obtain ⟨x0, x1, rfl⟩ := blen2 hl; rfl
  have m12 := PySem.W.mg_of X G a12
  have b13 := F13.binds (ps := ["_law_n", "_law_term", "_law_was", "_law_mine", "_law_yours"]) fun _ _ _ _ _ _ us hl => by obtain ⟨x0, x1, x2, x3, x4, rfl⟩ := blen5 hl; rfl
  have m13 := PySem.W.mg_of X G a13
  have b14 := F14.binds (ps := ["_law_n", "_law_term", "_law_mine", "_law_pairs"]) fun _ _ _ _ _ _ us hl => by obtain ⟨x0, x1, x2, x3, rfl⟩ := blen4 hl; rfl
  have m14 := PySem.W.mg_of X G a14
  have b15 := F15.binds (ps := ["_law_n", "_law_term"]) fun _ _ _ _ _ _ us hl => by obtain ⟨x0, x1, rfl⟩ := blen2 hl; rfl
  have m15 := PySem.W.mg_of X G a15
  have b16 := F16.binds (ps := ["_law_n", "_law_term", "_law_pairs"]) fun _ _ _ _ _ _ us hl => by obtain ⟨x0, x1, x2, rfl⟩ := blen3 hl; rfl
  have m16 := PySem.W.mg_of X G a16
  have M : Mo K mg := ⟨PySem.W.mg_none_of X G zn0, PySem.W.mg_none_of X G zn1, PySem.W.mg_none_of X G zn2, PySem.W.mg_none_of X G zn3, PySem.W.mg_none_of X G zn4, PySem.W.mg_none_of X G zn5, PySem.W.mg_none_of X G zn6, PySem.W.mg_none_of X G zn7, PySem.W.mg_none_of X G zn8, PySem.W.mg_none_of X G zn9, ⟨_, _, F1, b1, m1⟩, ⟨_, _, F2, b2, m2⟩, ⟨_, _, F3, b3, m3⟩, ⟨_, _, F4, b4, m4⟩, ⟨_, _, F5, b5, m5⟩, ⟨_, _, F6, b6, m6⟩, ⟨_, _, F7, b7, m7⟩, ⟨_, _, F8, b8, m8⟩, ⟨_, _, F9, b9, m9⟩, ⟨_, _, F10, b10, m10⟩, ⟨_, _, F11, b11, m11⟩, ⟨_, _, F12, b12, m12⟩, ⟨_, _, F13, b13, m13⟩, ⟨_, _, F14, b14, m14⟩, ⟨_, _, F15, b15, m15⟩, ⟨_, _, F16, b16, m16⟩, ⟨_, PySem.W.mg_of X G zc0⟩⟩
  have FC0 : FunC K "value_of_three" "value_of_three" svalue_of_three f1 (PySem.W.fnOf "value_of_three" "value_of_three" (defArgs svalue_of_three) (defBody svalue_of_three) (defScope svalue_of_three) .none kV1 dc1 pm1 an1 (.ref cA0) ct1) cA0 := ⟨⟨_, _, _, _, _, _, _, _, rfl, l1, c1⟩, k1⟩
  have hC0 : PySem.W.codeHdIn K cA0 T0 = true := by
    unfold PySem.W.codeHdIn
    rw [lc0]
    show ((match (vsc0[11]? : Option Value) with | some (.ref P') => P' == T0 | _ => false) && (match vsc0.getD 18 .none with | .str _ _ => true | _ => false) && (match vsc0.getD 7 .none with | .int _ _ => true | _ => false) && (match vsc0.getD 9 .none with | .bool _ => true | _ => false) && (match vsc0.getD 10 .none with | .int _ _ => true | _ => false) && cA0 != T0) = true
    rw [v110, v180, v70, v90, v100, ncT0]
    simp
  have hT0 : PySem.W.tabIn K "value_of_three" = some (cA0, T0) := by
    unfold PySem.W.tabIn
    rw [a1]
    show (match K.lookup f1 with | some ⟨_, _, .func fd, _⟩ => (match fd.code with | .ref c => (match K.lookup c with | some ⟨_, _, .fields vs, _⟩ => (match (vs[11]? : Option Value) with | some (.ref P) => some (c, P) | _ => none) | _ => none) | _ => none) | _ => none) = _
    rw [l1]
    show (match K.lookup cA0 with | some ⟨_, _, .fields vs, _⟩ => (match (vs[11]? : Option Value) with | some (.ref P) => some (cA0, P) | _ => none) | _ => none) = _
    rw [lc0]
    show (match (vsc0[11]? : Option Value) with | some (.ref P) => some (cA0, P) | _ => none) = _
    rw [v110]
  have FC1 : FunC K "rule_broken" "rule_broken" srule_broken f4 (PySem.W.fnOf "rule_broken" "rule_broken" (defArgs srule_broken) (defBody srule_broken) (defScope srule_broken) .none kV4 dc4 pm4 an4 (.ref cA1) ct4) cA1 := ⟨⟨_, _, _, _, _, _, _, _, rfl, l4, c4⟩, k4⟩
  have hC1 : PySem.W.codeHdIn K cA1 T1 = true := by
    unfold PySem.W.codeHdIn
    rw [lc1]
    show ((match (vsc1[11]? : Option Value) with | some (.ref P') => P' == T1 | _ => false) && (match vsc1.getD 18 .none with | .str _ _ => true | _ => false) && (match vsc1.getD 7 .none with | .int _ _ => true | _ => false) && (match vsc1.getD 9 .none with | .bool _ => true | _ => false) && (match vsc1.getD 10 .none with | .int _ _ => true | _ => false) && cA1 != T1) = true
    rw [v111, v181, v71, v91, v101, ncT1]
    simp
  have hT1 : PySem.W.tabIn K "rule_broken" = some (cA1, T1) := by
    unfold PySem.W.tabIn
    rw [a4]
    show (match K.lookup f4 with | some ⟨_, _, .func fd, _⟩ => (match fd.code with | .ref c => (match K.lookup c with | some ⟨_, _, .fields vs, _⟩ => (match (vs[11]? : Option Value) with | some (.ref P) => some (c, P) | _ => none) | _ => none) | _ => none) | _ => none) = _
    rw [l4]
    show (match K.lookup cA1 with | some ⟨_, _, .fields vs, _⟩ => (match (vs[11]? : Option Value) with | some (.ref P) => some (cA1, P) | _ => none) | _ => none) = _
    rw [lc1]
    show (match (vsc1[11]? : Option Value) with | some (.ref P) => some (cA1, P) | _ => none) = _
    rw [v111]
  exact ⟨PySem.W.fnOf "law" "law" (defArgs slaw) (defBody slaw) (defScope slaw) .none kV17 dc17 pm17 an17 cd17 ct17, [(cA0, T0), (cA1, T1)], rfl, fun i tn ct h1 h2 => (match i, h1, h2 with | 0, h1, h2 => by cases h1; cases h2; exact ⟨hT0, lT0⟩ | 1, h1, h2 => by cases h1; cases h2; exact ⟨hT1, lT1⟩ | i + 2, h1, h2 => by cases h1), fun s v => .of_eq rfl, fun base _ _ hB => (ok_law M FC0 hC0 (hB T0 (by simp)) F1 b1 m1 FC1 hC1 (hB T1 (by simp)) F4 b4 m4 F17).imp fun vs H Q E h => law2_in (by simpa using nTT) h⟩
theorem law_in {K : PySem.W.Frag} {H : Hp} {Ts : List Addr} {a : Addr} {ns : List Int} (hl : ns.length ≤ 63) (hO : OnlyTs Ts H) (hS : SqL K H a (ns.map V.int)) {E : XK} : sp2 K (spLawTs Ts) [.ref a] H (fun v _ => v = .bl true) E := by
  by_cases hT : ∃ T1 T2, Ts = [T1, T2] ∧ T1 ≠ T2
  · obtain ⟨T1, T2, rfl, ne⟩ := hT
    have e1 := hO.1 T1 (by simp)
    have e2 := hO.1 T2 (by simp)
    refine ⟨[T1, T2], [.tbl T1 lamP lamQ, .tbl T2 rbP rbQ], [.lst (ns.map PV.int)], fun r _ => r = .bl true, ⟨by simp [ne], rfl, fun i a o h1 h2 => ?_⟩, .cons (.val (.lst (hS.imp (fun h => ⟨h, fun z => ?_⟩) id) ?_ (int_rvs ns))) .nil, ⟨ns, rfl, fun _ _ e _ => by cases e; rfl, hl, fun _ => rfl⟩, fun A' H' st' r v g s e q => ?_⟩
    · match i, h1, h2 with
      | 0, h1, h2 => cases h1; cases h2; exact ⟨rfl, #[], e1, .inl rfl⟩
      | 1, h1, h2 => cases h1; cases h2; exact ⟨rfl, #[], e2, .inl rfl⟩
      | i + 2, h1, h2 => cases h1
    · have hz : H a = some (.tbl #[]) := by
        rcases List.mem_cons.mp z with rfl | z
        · exact e1
        · cases List.mem_singleton.mp z; exact e2
      rcases h with h | ⟨o, h⟩
      · rw [hz] at h; cases h
      · rw [hz] at h; cases h
    · rw [List.length_map]; exact Nat.le_trans hl (by decide)
    · subst q; exact bls_of e
  · refine ⟨[], [], [.lst (ns.map PV.int)], fun r _ => r = .bl true, ⟨by simp, rfl, fun i a o h => by cases h⟩, .cons (.val (.lst (hS.imp (fun h => ⟨h, by simp⟩) id) ?_ (int_rvs ns))) .nil, ⟨ns, rfl, fun T1 T2 e ne => absurd ⟨T1, T2, e, ne⟩ hT, hl, fun _ => rfl⟩, fun A' H' st' r v g s e q => ?_⟩
    · rw [List.length_map]; exact Nat.le_trans hl (by decide)
    · subst q; exact bls_of e
theorem walk {l : PySem.W.OpenLaw} {q : Program} {loose : List Str} {XP : (Str → Option Value) → Heap → Prop} {YP : World → Heap → Prop} {d : DefRec} {K : Params → PySem.W.Frag} (hn : l.most = some 63) (hdf : d.params.defaults = []) (hrec0 : ∃ e, (PyProof.Rows.recsOf q).find? (fun e => e.name == ("value_of_three" : Str)) = some e) (hrec1 : ∃ e, (PyProof.Rows.recsOf q).find? (fun e => e.name == ("rule_broken" : Str)) = some e)
    (hY : ∀ (w : World) (h : Heap), YP w h → (K w.params).In h)
    (F : ∀ (w : World) (mg : Str → Option Value) (fa : Addr) (h : Heap), (K w.params).In h → h.Ns mainGlobals mg → mg d.name = some (.ref fa) →
      ∃ (fd : FuncData) (cts : List (Addr × Addr)), cts.length = (["value_of_three", "rule_broken"] : List Str).length ∧ (∀ (i : Nat) (tn : Str) (ct : Addr × Addr), (["value_of_three", "rule_broken"] : List Str)[i]? = some tn → cts[i]? = some ct → PySem.W.tabIn (K w.params) tn = some ct ∧ (K w.params).lookup ct.2 = none) ∧ (∀ (s : Shared) (u : Value), BindsTo s fd ⟨[u], []⟩ [("_law_script", u)]) ∧ ∀ base : Heap, (K w.params).In base → base.Ns mainGlobals mg → (∀ T ∈ cts.map (·.2), base.BuiltinsAt mg T) → FnOk l.prog w (K w.params) mg base CX0 15 fa fd ["_law_script"] (sp2 (K w.params) (spLawTs (cts.map (·.2))))) :
    PySem.W.WalkO q loose XP YP l.row.toRowW d [] (fun f vs => PySem.call f vs) :=
  L2.walk_ofTs (n := 63) (k := 15) (x := "_law_script") (tns := ["value_of_three", "rule_broken"]) (sp := fun Ts w => sp2 (K w.params) (spLawTs Ts)) hn (by decide) hdf ⟨rfl, by decide, by decide⟩ (fun tn h => by rcases List.mem_cons.mp h with rfl | h; exact hrec0; cases List.mem_singleton.mp h; exact hrec1) hY F (fun _ _ _ a ns hl hO hS => law_in hl hO hS)
end N74
open PySem PySem.W PyProof.Rows
set_option maxRecDepth 100000 in
set_option maxHeartbeats 0 in
theorem PySem.Challenge.cw_copiedhouse_k74_whole_told_joins_in_turn_holds : PySem.Challenge.rw_copiedhouse_k74_whole_told_joins_in_turn.Holds := by
  w_on; o_law; k_head; (case hw => w_witness2)
  k_fill
  refine N74.walk (l := PySem.Challenge.rw_copiedhouse_k74_whole_told_joins_in_turn) rfl rfl ⟨_, rfl⟩ ⟨_, rfl⟩ (fun w h Y => PySem.W.km_in_of Y) ?F
  case F =>
    intro w mg fa h KX G hmg
    refine' N74.all_mk KX G hmg ?a1_ ?l1_ ?c1_ ?k1_ ?a2_ ?l2_ ?c2_ ?k2_ ?a3_ ?l3_ ?c3_ ?k3_ ?a4_ ?l4_ ?c4_ ?k4_ ?a5_ ?l5_ ?c5_ ?k5_ ?a6_ ?l6_ ?c6_ ?k6_ ?a7_ ?l7_ ?c7_ ?k7_ ?a8_ ?l8_ ?c8_ ?k8_ ?a9_ ?l9_ ?c9_ ?k9_ ?a10_ ?l10_ ?c10_ ?k10_ ?a11_ ?l11_ ?c11_ ?k11_ ?a12_ ?l12_ ?c12_ ?k12_ ?a13_ ?l13_ ?c13_ ?k13_ ?a14_ ?l14_ ?c14_ ?k14_ ?a15_ ?l15_ ?c15_ ?k15_ ?a16_ ?l16_ ?c16_ ?k16_ ?a17_ ?l17_ ?c17_ ?k17_ ?zn0_ ?zn1_ ?zn2_ ?zn3_ ?zn4_ ?zn5_ ?zn6_ ?zn7_ ?zn8_ ?zn9_ ?zc0_ ?lc0_ ?v110_ ?v180_ ?v70_ ?v90_ ?v100_ ?ncT0_ ?lT0_ ?lc1_ ?v111_ ?v181_ ?v71_ ?v91_ ?v101_ ?ncT1_ ?lT1_ ?nTT_
    (case a1_ => k_is)
    (case l1_ => k_is)
    (case c1_ => k_is)
    (case k1_ => k_is)
    (case a2_ => k_is)
    (case l2_ => k_is)
    (case c2_ => k_is)
    (case k2_ => k_is)
    (case a3_ => k_is)
    (case l3_ => k_is)
    (case c3_ => k_is)
    (case k3_ => k_is)
    (case a4_ => k_is)
    (case l4_ => k_is)
    (case c4_ => k_is)
    (case k4_ => k_is)
    (case a5_ => k_is)
    (case l5_ => k_is)
    (case c5_ => k_is)
    (case k5_ => k_is)
    (case a6_ => k_is)
    (case l6_ => k_is)
    (case c6_ => k_is)
    (case k6_ => k_is)
    (case a7_ => k_is)
    (case l7_ => k_is)
    (case c7_ => k_is)
    (case k7_ => k_is)
    (case a8_ => k_is)
    (case l8_ => k_is)
    (case c8_ => k_is)
    (case k8_ => k_is)
    (case a9_ => k_is)
    (case l9_ => k_is)
    (case c9_ => k_is)
    (case k9_ => k_is)
    (case a10_ => k_is)
    (case l10_ => k_is)
    (case c10_ => k_is)
    (case k10_ => k_is)
    (case a11_ => k_is)
    (case l11_ => k_is)
    (case c11_ => k_is)
    (case k11_ => k_is)
    (case a12_ => k_is)
    (case l12_ => k_is)
    (case c12_ => k_is)
    (case k12_ => k_is)
    (case a13_ => k_is)
    (case l13_ => k_is)
    (case c13_ => k_is)
    (case k13_ => k_is)
    (case a14_ => k_is)
    (case l14_ => k_is)
    (case c14_ => k_is)
    (case k14_ => k_is)
    (case a15_ => k_is)
    (case l15_ => k_is)
    (case c15_ => k_is)
    (case k15_ => k_is)
    (case a16_ => k_is)
    (case l16_ => k_is)
    (case c16_ => k_is)
    (case k16_ => k_is)
    (case a17_ => k_is)
    (case l17_ => k_is)
    (case c17_ => k_is)
    (case k17_ => k_is)
    (case zn0_ => k_is)
    (case zn1_ => k_is)
    (case zn2_ => k_is)
    (case zn3_ => k_is)
    (case zn4_ => k_is)
    (case zn5_ => k_is)
    (case zn6_ => k_is)
    (case zn7_ => k_is)
    (case zn8_ => k_is)
    (case zn9_ => k_is)
    (case zc0_ => k_is)
    (case lc0_ => k_is)
    (case v110_ => rfl)
    (case v180_ => rfl)
    (case v70_ => rfl)
    (case v90_ => rfl)
    (case v100_ => rfl)
    (case ncT0_ => first | rfl | decide | k_is)
    (case lT0_ => first | k_is | rfl)
    (case lc1_ => k_is)
    (case v111_ => rfl)
    (case v181_ => rfl)
    (case v71_ => rfl)
    (case v91_ => rfl)
    (case v101_ => rfl)
    (case ncT1_ => first | rfl | decide | k_is)
    (case lT1_ => first | k_is | rfl)
    (case nTT_ => first | rfl | decide | k_is)
